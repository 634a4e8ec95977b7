/- Package groove: Read. No law is claimed here. -/
import Derived.Test.YtghbgehmaejggaaDoorGrv9
namespace Go.Proofs.YtghbgehmaejggaaDoor
open Go.RowKit

instance (xs : List UInt8) (q s : Nat) : Decidable (badHead xs q s) := by unfold badHead; infer_instance
instance (xs : List UInt8) (s : Nat) : Decidable (goodSum xs s) := by unfold goodSum; infer_instance
/-- the size that is wanted next -/
def sizW (l : List Bm) : Nat := sizeN l.length (ahead l l.length)
/-- what Read answers: the blocks, or an error -/
def gRd : Nat → List UInt8 → List Bm → List Bm × Nat
  | 0, _, l => (l, 0)
  | f + 1, p, l =>
    if trimN p = [] then (l, 0) else
    if badHead (trimN p) (kindN l.length) (sizW l) then ([], 2) else
    if ¬ goodSum (trimN p) (sizW l) then ([], 3) else
    gRd f ((trimN p).drop (sizW l + 4)) (l ++ [⟨u8N (kindN l.length), ((trimN p).drop 2).take (sizW l)⟩])
/-- from here on it answers so -/
def RdTo (p : List UInt8) (l : List Bm) (r : List Bm × Nat) : Prop := gRd (512 - l.length) p l = r
theorem RdTo.full {p : List UInt8} {l : List Bm} {r : List Bm × Nat} (h : RdTo p l r) (hl : ¬ l.length < 512) : r = (l, 0) := by
  unfold RdTo at h; rw [show 512 - l.length = 0 from by omega] at h; rw [← h, gRd]
theorem RdTo.open {p : List UInt8} {l : List Bm} {r : List Bm × Nat} (h : RdTo p l r) (hl : l.length < 512) :
    r = (if trimN p = [] then (l, 0) else if badHead (trimN p) (kindN l.length) (sizW l) then ([], 2) else if ¬ goodSum (trimN p) (sizW l) then ([], 3) else
      gRd (512 - (l.length + 1)) ((trimN p).drop (sizW l + 4)) (l ++ [⟨u8N (kindN l.length), ((trimN p).drop 2).take (sizW l)⟩])) := by
  unfold RdTo at h; rw [show 512 - l.length = (512 - (l.length + 1)) + 1 from by omega] at h; rw [← h, gRd]
theorem rgt_of_fits {l : List Bm} (h1 : l.length ≤ 512) (h2 : fitsB l l.length = true) : rgtB l = true := by unfold rgtB; rw [h2, decide_eq_true h1]; rfl
theorem fits_push {l : List Bm} {q : Nat} {xd : List UInt8} (h : fitsB l l.length = true) (hq : q = kindN l.length) (hs : xd.length = sizW l) : fitsB (l ++ [⟨u8N q, xd⟩]) (l ++ [(⟨u8N q, xd⟩ : Bm)]).length = true := by
  rw [List.length_append, List.length_singleton]
  refine fitsB_succ ?_ ?_
  · rw [fitsB_iff] at h ⊢
    exact fun i hi => by rw [okB_app _ _ _ hi]; exact h i hi
  · rw [okB_iff]
    have e1 : (l ++ [(⟨u8N q, xd⟩ : Bm)]).getD l.length blkD = ⟨u8N q, xd⟩ := by rw [List.getD_eq_getElem?_getD, List.getElem?_append_right (Nat.le_refl _)]; simp
    rw [e1]
    refine ⟨?_, ?_⟩
    · show (u8N q).toNat = _
      rw [u8N_toNat _ (by rw [hq]; exact (kindN_lt _).1), hq]
    · show xd.length = _
      rw [hs]; unfold sizW
      rcases Nat.eq_zero_or_pos l.length with h0 | h0
      · rw [h0]; simp [sizeN]
      · rw [ahead_app l _ h0]
theorem rd_none {w : World} {B n c : Nat} {A : Option Addr} {xs : List UInt8} (hn : n = 0) (hx : xs = []) : Rd bv w B A n c xs := by
  subst hn; subst hx; exact Rd.nil
theorem Rd.back {α : Type} {f : α → Value} {w w' : World} {B C : Nat} {A : Option Addr} {n c : Nat} {xs : List α} (h : Rd f w' B A n c xs) (hb : Below C w w') (hl : B ≤ C) : Rd f w B A n c xs :=
  h.keep fun _ hp => (hb.cell (Nat.lt_of_lt_of_le hp hl)).symm

def RetR (w : World) (x : List Bm × Nat) (r : Ending) (w' : World) : Prop :=
  ∃ A n c, r = .returned (.tuple #[.slice A n c, .int .i64 (x.2 : Int)]) ∧ RdX shB w' (· < w'.heap.size) A n c x.1 ∧ Below w.heap.size w w'

set_option maxRecDepth 100000 in
set_option maxHeartbeats 4000000 in
theorem read_any (A : Option Addr) (n c B : Nat) (xs : List UInt8) (w : World) (hr : Rd bv w B A n c xs) (hB : B ≤ w.heap.size) (hn : n ≤ 1099511627776) :
    Calls Tryd.prog 10 #[.slice A n c] w (RetR w (gRd 512 xs [])) := by
  obtain ⟨i0, hi, hz0, hz1, hz2⟩ := info_parts Tryd.infoBt
  have HP0 : Hid (RdTo xs [] (gRd 512 xs [])) := rfl
  generalize gRd 512 xs [] = ans at *
  go_enter Tryd.func10, Tryd.ntmps10
  go_wp2
  go_loopw [0, 4] (fun p v wr => ∃ (l : List Bm) (Aw : Option Addr) (nw cw : Nat) (rsw : List RawB) (A' : Option Addr) (n' c' : Nat) (ps : List UInt8), v = .slice Aw nw cw ∧ p = .slice A' n' c' ∧ nw ≤ 512 ∧ n' ≤ n ∧ OE shB wr w.heap.size 48 Aw nw cw rsw l ∧ Rd bv w B A' n' c' ps ∧ Hid (fitsB l l.length = true) ∧ Hid (RdTo ps l ans) ∧ Hid (∀ x ∈ l, x.data.length ≤ 100000) ∧ BlE w wr)
    (fun _ v _ => 512 - lenV v)
  case atStart => exact ⟨[], none, 0, 0, [], A, n, c, xs, rfl, rfl, by omega, Nat.le_refl _, OwnX.empty shB w w.heap.size 48 _, hr, rfl, HP0, (fun x hx => by simp at hx), BlE.refl _⟩
  case round =>
    obtain ⟨l, Aw, nw, cw, rsw, A', n', c', ps, rfl, rfl, hnw, hn', hO, hr', HF, HP, HD, hb⟩ := hrel
    have hsz := BlE.sz hb
    have hll := Lib.hid (OwnX.len hO)
    by_cases h512 : nw < 512
    · have t1 : (nw : Int) < 512 := by omega
      have FT := trim_any A' n' c' B ps wr (hr'.belowLe hb hB) (by omega)
      have FW := want_any Aw nw cw (· < wr.heap.size) l wr (OwnX.rd hO (fun b h => h.1) (fun b h => (OwnX.lt hO b h).2)) (fun b h => h) (by omega) (fun x hx => by have := HD.out x hx; omega)
      have HW : Hid (wantN l = (kindN l.length, sizW l)) := by unfold wantN; rw [if_pos ⟨by rw [hll.out]; exact h512, rgt_of_fits (by rw [hll.out]; omega) HF.out⟩]; rfl
      rw [HW.out] at FW
      have HOP := HP.out.open (by rw [hll.out]; exact h512)
      have HOPH := Lib.hid HOP
      have hs := sizeN_lt l.length (ahead l l.length)
      have hs' : sizW l < 65536 := hs
      have hq := kindN_lt l.length
      have hfp := fun (xd : List UInt8) (h : xd.length = sizW l) => fits_push (q := kindN l.length) HF.out rfl h
      have HFP := Lib.hid hfp
      clear HOP hs hfp HP
      go_upto_region 4 with (go_at_call 18; refine FT.mono ?_; rintro e w' ⟨⟨A2, n2, c2, rfl, hr2⟩, hq'⟩; rw [hq']; clear hq' w')
      have hl2 := hr2.len
      have hn2 : n2 ≤ n := by have := trimN_len ps; rw [hr'.len] at this; omega
      have hr2w := hr2.back hb hB
      generalize trimN ps = ts at *
      generalize sizW l = s at *
      generalize kindN l.length = q at *
      obtain ⟨x, rfl⟩ : ∃ x : UInt8, q = x.toNat := ⟨u8N q, (u8N_toNat q hq.1).symm⟩
      by_cases h0 : n2 = 0
      · subst h0
        have hts : ts = [] := List.eq_nil_of_length_eq_zero hl2
        have HA := HOPH.out
        rw [if_pos hts] at HA
        go_wp2
        go_ret2
        (try rw [HA])
        exact ⟨_, _, _, rfl, OwnX.rd hO (fun b h => h.1) (fun b h => (OwnX.lt hO b h).2), hb⟩
      · have t2 : ((n2 : Int) == 0) = false := by rw [beq_eq_false_iff_ne]; omega
        have t3 : ¬ ((n2 : Int) = 0) := by omega
        have hts : ¬ ts = [] := fun e => by rw [e] at hl2; simp at hl2; omega
        go_upto_region 6 with (go_at_call 19; refine FW.mono ?_; rintro e w4 ⟨rfl, hb4⟩; unfold ksV)
        have hO4 := OE.below hO hb4
        have hB4 := BlE.below hb hb4
        have hr4 : Rd bv w4 B A2 n2 c2 ts := hr2w.belowLe hB4 hB
        have hz4 := BlE.sz hB4
        by_cases hbad : badHead ts x.toNat s
        · have HA := HOPH.out
          rw [if_neg hts, if_pos hbad] at HA
          have F1 := first_form A2 n2 c2 B x.toNat s ts w4 hr4 (by omega) (by omega) hs' hbad
          unfold noB at F1
          go_wp2_with (go_at_call 20; refine F1.mono ?_; rintro e w5 ⟨rfl, hb5⟩)
          go_ret2
          (try rw [HA])
          exact ⟨_, _, _, rfl, RdX.nil, BlE.alloc (BlE.below hB4 hb5)⟩
        · by_cases hsum : goodSum ts s
          · have HA0 := HOPH.out
            rw [if_neg hts, if_neg hbad, if_neg (fun h => h hsum), u8N_of x] at HA0
            have HA := Lib.hid HA0
            have hlen : s + 4 ≤ n2 := by
              unfold badHead at hbad
              have : ¬ (ts.length < s + 4) := fun h => hbad (Or.inl h)
              omega
            have F1 := first_ok A2 n2 c2 B x.toNat s ts w4 hr4 (by omega) (by omega) hs' hbad hsum
            have hdl : ((ts.drop 2).take s).length = s := by rw [List.length_take, List.length_drop]; omega
            have HF2 : Hid (fitsB (l ++ [⟨x, (ts.drop 2).take s⟩]) (l ++ [(⟨x, (ts.drop 2).take s⟩ : Bm)]).length = true) := by have h := HFP.out _ hdl; rw [u8N_of x] at h; exact h
            have HP2 : Hid (RdTo (ts.drop (s + 4)) (l ++ [⟨x, (ts.drop 2).take s⟩]) ans) := by
              show gRd _ _ _ = _
              rw [List.length_append, List.length_singleton]; exact HA.out.symm
            have HD2 : Hid (∀ y ∈ l ++ [(⟨x, (ts.drop 2).take s⟩ : Bm)], y.data.length ≤ 100000) := fun y hy => by
              rcases List.mem_append.1 hy with h1 | h1
              · exact HD.out y h1
              · rw [List.mem_singleton.1 h1]; simp only [hdl]; omega
            obtain ⟨b, off, rfl⟩ := hr2w.some_of (by omega)
            have hcap2 := hr2w.cap
            have z1 : (2 : Int) + s + 2 ≤ n2 := by omega
            have z2 : 2 + s + 2 ≤ n2 := by omega
            have z3 : ((2 : Int) + s + 2).toNat = 2 + s + 2 := by omega
            have z4 : (0 : Int) ≤ 2 + s + 2 := by omega
            have z5 : (2 : Int) + s + 2 ≤ c2 := by omega
            have z6 : 2 + s + 2 ≤ c2 := by omega
            clear HA0 HA HOPH HFP hl2 hdl FT FW hbad hsum HW
            go_upto_region 9 with (go_at_call 20; refine F1.mono ?_; rintro e w5 ⟨A5, n5, c5, rfl, ho5, hb5⟩)
            have hO6 := OE.alloc (OE.below hO4 hb5) (o := .cells #[.int .u8 (x.toNat : Int), .slice A5 n5 c5] 48)
            have hB6 := BlE.alloc (BlE.below hB4 hb5) (o := .cells #[.int .u8 (x.toNat : Int), .slice A5 n5 c5] 48)
            have hP6 := PE.alloc (OE.fresh hO4 ho5 hb5) (o := .cells #[.int .u8 (x.toNat : Int), .slice A5 n5 c5] 48)
            have hs6 := BlE.sz hB6
            clear hO4 ho5 hb5 hO hb hB4 hr4 hr2 hb4 F1
            by_cases hcc : c2 = 2 + s + 2
            · have hz : n2 - (2 + s + 2) = 0 := by omega
              have hd0 : ts.drop (s + 4) = [] := List.drop_of_length_le (by have := hr2w.len; omega)
              go_wp2_with (at_builtin
                           refine wpList_push shB _ rfl (.tmp 32) (.tmp 34) 30 rfl w.heap.size 48 i0 _ 32 Tryd.underlying30 hi hz0 hz1 hz2 rfl _ Aw nw cw rsw _ rfl hO6 _ _ _ _ _ ⟨x, A5, n5, c5⟩ ⟨x, (ts.drop 2).take s⟩ rfl rfl (by simp) ⟨rfl, hP6⟩ (fun b h => ⟨h.1, h.2.1⟩) (by simp only [maxLen]; omega) (by omega) hs6 ?_
                           intro g7 c7 w7 hown7 hg7 hat7 hlt7)
              have bl7 : BlE w w7 := BlE.grown hB6 hg7 (fun k hk => (OwnX.lt hO6 k hk).1)
              have hO7 : OE shB w7 w.heap.size 48 (some ⟨g7, 0, none⟩) (nw + 1) c7 (rsw ++ [⟨x, A5, n5, c5⟩]) (l ++ [⟨x, (ts.drop 2).take s⟩]) :=
                hown7.sub (fun b h => ⟨by have := hg7.size; have := h.1; omega, off_pushed hat7 (by have := h.1; omega) h.2.1, off_none _⟩)
              go_roundw
              case rel => exact ⟨_, _, nw + 1, c7, _, _, _, _, ts.drop (s + 4), rfl, rfl, by omega, by omega, hO7, rd_none (by omega) hd0, HF2, HP2, HD2, bl7⟩
              case measure => simp [lenV]; omega
            · have hd1 : Rd bv w B (some ⟨b, off + (2 + s + 2), none⟩) (n2 - (2 + s + 2)) (c2 - (2 + s + 2)) (ts.drop (s + 4)) := by
                have h := hr2w.drop (2 + s + 2) (by omega)
                rw [show s + 4 = 2 + s + 2 from by omega]; exact h
              go_wp2_with (at_builtin
                           refine wpList_push shB _ rfl (.tmp 32) (.tmp 34) 30 rfl w.heap.size 48 i0 _ 32 Tryd.underlying30 hi hz0 hz1 hz2 rfl _ Aw nw cw rsw _ rfl hO6 _ _ _ _ _ ⟨x, A5, n5, c5⟩ ⟨x, (ts.drop 2).take s⟩ rfl rfl (by simp) ⟨rfl, hP6⟩ (fun b h => ⟨h.1, h.2.1⟩) (by simp only [maxLen]; omega) (by omega) hs6 ?_
                           intro g7 c7 w7 hown7 hg7 hat7 hlt7)
              have bl7 : BlE w w7 := BlE.grown hB6 hg7 (fun k hk => (OwnX.lt hO6 k hk).1)
              have hO7 : OE shB w7 w.heap.size 48 (some ⟨g7, 0, none⟩) (nw + 1) c7 (rsw ++ [⟨x, A5, n5, c5⟩]) (l ++ [⟨x, (ts.drop 2).take s⟩]) :=
                hown7.sub (fun b h => ⟨by have := hg7.size; have := h.1; omega, off_pushed hat7 (by have := h.1; omega) h.2.1, off_none _⟩)
              go_roundw
              case rel => exact ⟨_, _, nw + 1, c7, _, _, _, _, ts.drop (s + 4), rfl, rfl, by omega, by omega, hO7, hd1, HF2, HP2, HD2, bl7⟩
              case measure => simp [lenV]; omega
          · have HA := HOPH.out
            rw [if_neg hts, if_neg hbad, if_pos hsum] at HA
            have F1 := first_sum A2 n2 c2 B x.toNat s ts w4 hr4 (by omega) (by omega) hs' hbad hsum
            unfold noB at F1
            go_wp2_with (go_at_call 20; refine F1.mono ?_; rintro e w5 ⟨rfl, hb5⟩)
            go_ret2
            (try rw [HA])
            exact ⟨_, _, _, rfl, RdX.nil, BlE.alloc (BlE.below hB4 hb5)⟩
    · have HA := HP.out.full (by rw [hll.out]; exact h512)
      have t1 : ¬ ((nw : Int) < 512) := by omega
      go_wp2
      go_ret2
      (try rw [HA])
      exact ⟨_, _, _, rfl, OwnX.rd hO (fun b h => h.1) (fun b h => (OwnX.lt hO b h).2), hb⟩

end Go.Proofs.YtghbgehmaejggaaDoor

/- Contracts: the law's own, the document's Flat, block.Parse. No law is claimed here. -/
import Derived.Test.YtdefkajjpilicaaBlk4
namespace Go.Proofs.Ytdefkajjpilicaa
open Go.RowKit

theorem Try.infoRBt : (Try.prog.info? 60).map (fun i => (i.zero, i.size, i.bytes)) = some (some (.agg #[.int .u8 0, .slice none 0 0]), 2, 32) := by kernel_rfl

set_option maxRecDepth 100000 in
set_option maxHeartbeats 2000000 in
theorem own5_any (A : Option Addr) (n c : Nat) (S : Nat → Prop) (l : List Bm) (w : World) (hr : RdX shB w S A n c l) (hS : ∀ b, S b → b < w.heap.size) (hn : n ≤ 1000000) :
    Calls Try.prog 11 #[.slice A n c] w (RetB w l) := by
  have HL := Lib.hid hr.len
  obtain ⟨i0, hi, hz0, hz1, hz2⟩ := info_parts Try.infoRBt
  go_enter Try.func11, Try.ntmps11
  go_wp2
  go_loopw [3, 8] (fun v i wr => ∃ (k : Nat) (A' : Option Addr) (n' c' : Nat) (rs : List RawB), k ≤ n ∧ n' = k ∧ i = .int .i64 k ∧ v = .slice A' n' c' ∧ OwnX shB wr w.heap.size 60 (fun b => b < w.heap.size) A' n' c' rs (l.take k) ∧ Below w.heap.size w wr)
    (fun _ i _ => n - (intOf i).toNat)
  case atStart => exact ⟨0, none, 0, 0, [], Nat.zero_le _, rfl, rfl, rfl, by simpa using OwnX.empty shB w w.heap.size 60 _, Below.refl _ _⟩
  case round =>
    obtain ⟨k, A', n', c', rs, hk, rfl, rfl, rfl, hown, hb⟩ := hrel
    have hsz := hb.size
    by_cases hlt : n' < n
    · have hkx : n' < l.length := by rw [HL.out]; exact hlt
      obtain ⟨b, off, A3, n3, c3, rfl, hSb, hc0, hc1, hrd⟩ := rdB_at (hr.keep (Kp.below hb hS) (fun _ h => h)) n' hkx
      have HT := Lib.hid (List.take_succ_eq_append_getElem hkx)
      have hok : shB.Ok (wr.alloc (.cells #[.int .u8 (l[n'].kind.toNat : Int), .slice A3 n3 c3] 49)) (fun b => b < w.heap.size) ⟨l[n'].kind, A3, n3, c3⟩ l[n'] :=
        ⟨rfl, (hrd.keep (Kp.alloc (fun b h => by have := hS b h; omega) _) hS)⟩
      have hoA := hown.below ((Below.refl _ _).alloc (Nat.le_refl _) (.cells #[.int .u8 (l[n'].kind.toNat : Int), .slice A3 n3 c3] 49)) (fun b h => by omega)
      have hof : ∀ b, b < w.heap.size → Off A' b := fun b hb e => by have := (hown.lt b e.symm).1; omega
      have hbx : w.heap.size ≤ wr.heap.size + 1 := by omega
      generalize l[n'] = x at *
      obtain ⟨xk, xd⟩ := x
      simp only at *
      clear hown hrd
      go_wp2_with (at_builtin
                   refine wpList_push shB _ rfl (.tmp 12) (.tmp 18) 29 rfl w.heap.size 60 i0 _ 32 Try.underlying29 hi hz0 hz1 hz2 rfl _ A' n' c' rs _ rfl hoA _ _ _ _ _ ⟨xk, A3, n3, c3⟩ ⟨xk, xd⟩ rfl rfl (by simp) hok (fun b h => ⟨by simp; omega, hof b h⟩) (by simp only [maxLen]; omega) (by omega) (by simp; omega) ?_
                   intro g6 c6 w6 hown6 hg6 hat6 hlt6)
      have bl6 : Below w.heap.size w w6 := (hb.alloc hsz _).grown hg6 (by simp; omega) (fun k hk => (hoA.lt k hk).1)
      go_roundw
      case rel =>
        refine ⟨n' + 1, _, n' + 1, c6, rs ++ [⟨xk, A3, n3, c3⟩], by omega, by omega, by go_num, rfl, ?_, bl6⟩
        rw [HT.out]
        exact hown6
      case measure => simp [intOf]; omega
    · go_wp2
      go_ret
      rw [List.take_of_length_le (by rw [HL.out]; omega)] at hown
      exact ⟨A', n', c', rfl, hown.rd (fun b h => by omega) (fun b h => (hown.lt b h).2), hb⟩

/-- the bytes of blocks -/
def flatN (l : List Bm) : List UInt8 := (l.map fun x => x.kind :: x.data).flatten
theorem flatN_snoc (l : List Bm) (k : Nat) (h : k < l.length) : flatN (l.take (k + 1)) = flatN (l.take k) ++ [l[k].kind] ++ l[k].data := by
  unfold flatN; rw [List.take_succ_eq_append_getElem h, List.map_append, List.flatten_append]; simp
theorem flatN_len (l : List Bm) : (flatN l).length = blkSz l := by
  unfold flatN blkSz; rw [List.length_flatten, List.map_map]
  congr 1
  exact List.map_congr_left (fun x _ => by simp; omega)
theorem blkSz_take (l : List Bm) (k : Nat) : blkSz (l.take k) ≤ blkSz l := by
  have h : blkSz (l.take k ++ l.drop k) = blkSz (l.take k) + blkSz (l.drop k) := by unfold blkSz; rw [List.map_append, List.sum_append]
  rw [List.take_append_drop] at h; omega

set_option maxRecDepth 100000 in
set_option maxHeartbeats 2000000 in
theorem flat_any (A : Option Addr) (n c : Nat) (S : Nat → Prop) (l : List Bm) (w : World) (hr : RdX shB w S A n c l) (hS : ∀ b, S b → b < w.heap.size) (hn : n ≤ 1000000) (ht : blkSz l ≤ 1099511627776) :
    Calls Try.prog 10 #[.slice A n c] w (RetL bv 5 w (flatN l)) := by
  have HL := Lib.hid hr.len
  go_enter Try.func10, Try.ntmps10
  go_wp2
  go_loopw [3, 8] (fun v i wr => ∃ (k : Nat) (A' : Option Addr) (n' c' : Nat), k ≤ n ∧ i = .int .i64 k ∧ v = .slice A' n' c' ∧ Own bv wr w.heap.size 5 A' n' c' (flatN (l.take k)) ∧ Below w.heap.size w wr)
    (fun _ i _ => n - (intOf i).toNat)
  case atStart => exact ⟨0, none, 0, 0, Nat.zero_le _, rfl, rfl, by simpa [flatN] using Own.empty bv w w.heap.size 5, Below.refl _ _⟩
  case round =>
    obtain ⟨k, A', n', c', hk, rfl, rfl, hown, hb⟩ := hrel
    have hsz := hb.size
    by_cases hlt : k < n
    · have hkx : k < l.length := by rw [HL.out]; exact hlt
      obtain ⟨b, off, A3, n3, c3, rfl, hSb, hc0, hc1, hrd⟩ := rdB_at (hr.keep (Kp.below hb hS) (fun _ h => h)) k hkx
      have HT := Lib.hid (flatN_snoc l k hkx)
      have hle : n' + 1 + n3 ≤ 1099511627776 := by
        have h1 := blkSz_take l (k + 1)
        rw [← flatN_len, HT.out] at h1
        simp only [List.length_append, hown.len, hrd.len, List.length_cons, List.length_nil] at h1
        omega
      have hr3 : RdE bv wr A3 n3 c3 l[k].data := hrd.rd (fun b h => by have := hS b h; omega)
      have hr1 : RdE bv wr A' n' c' (flatN (l.take k)) := hown.rd
      generalize l[k].data = xd at *
      generalize l[k].kind = xk at *
      have q1 := (hr1.alloc (o := (.cells #[.int .u8 (xk.toNat : Int), .slice A3 n3 c3] 60))).alloc (o := (.cells #[.int .u8 (xk.toNat : Int)] 5))
      have q3 := (hr3.alloc (o := (.cells #[.int .u8 (xk.toNat : Int), .slice A3 n3 c3] 60))).alloc (o := (.cells #[.int .u8 (xk.toNat : Int)] 5))
      have q2 : RdE bv ((wr.alloc (.cells #[.int .u8 (xk.toNat : Int), .slice A3 n3 c3] 60)).alloc (.cells #[.int .u8 (xk.toNat : Int)] 5)) (some ⟨wr.heap.size + 1, 0, none⟩) 1 1 [xk] := RdE.made (f := bv) rfl (by simp) rfl
      clear hrd hr1 hr3
      go_wp2_with (go_at_call 16
                   refine (join3_any _ _ A' (some ⟨wr.heap.size + 1, 0, none⟩) A3 n' c' 1 1 n3 c3 _ (flatN (l.take k)) [xk] xd (by simp) q1 q2 q3 (Nat.le_refl _) hle).mono ?_
                   rintro e w5 ⟨A5, n5, c5, rfl, ho5, hb5⟩)
      have bl5 : Below w.heap.size w w5 := ((hb.alloc hsz _).alloc (by simp; omega) _).trans (hb5.mono (by simp; omega))
      go_roundw
      case rel =>
        refine ⟨k + 1, A5, n5, c5, by omega, by go_num, rfl, ?_, bl5⟩
        rw [HT.out]
        exact ho5.lower (by simp; omega)
      case measure => simp [intOf]; omega
    · go_wp2
      go_ret
      rw [List.take_of_length_le (by rw [HL.out]; omega)] at hown
      exact ⟨A', n', c', rfl, hown, hb⟩

/-- the block that comes next of the bytes xs behind the blocks l -/
def parStep (xs : List UInt8) (l : List Bm) : Option Bm :=
  if l.length < 512 ∧ blkSz l + 1 + sizeN l.length (ahead l l.length) ≤ xs.length ∧ (xs.getD (blkSz l) 0).toNat = kindN l.length then
    some ⟨xs.getD (blkSz l) 0, (xs.drop (blkSz l + 1)).take (sizeN l.length (ahead l l.length))⟩ else none
def parN (xs : List UInt8) : Nat → List Bm → List Bm
  | 0, l => l
  | f + 1, l => match parStep xs l with
    | some b => parN xs f (l ++ [b])
    | none => l
def parseN (xs : List UInt8) : List Bm := parN xs 512 []
/-- from here on it comes to r -/
def ParTo (xs : List UInt8) (l r : List Bm) : Prop := parN xs (512 - l.length) l = r
theorem ParTo.stop {xs : List UInt8} {l r : List Bm} (h : ParTo xs l r) (hs : parStep xs l = none) : l = r := by
  unfold ParTo at h
  cases hf : 512 - l.length with
  | zero => rw [hf] at h; exact h
  | succ f => rw [hf] at h; unfold parN at h; rw [hs] at h; exact h
theorem ParTo.go {xs : List UInt8} {l r : List Bm} {b : Bm} (h : ParTo xs l r) (hs : parStep xs l = some b) : ParTo xs (l ++ [b]) r := by
  unfold ParTo at *
  have hl : l.length < 512 := by
    unfold parStep at hs
    split at hs
    · rename_i hh; exact hh.1
    · cases hs
  rw [show 512 - l.length = (512 - (l ++ [b]).length) + 1 by simp; omega] at h
  unfold parN at h
  rw [hs] at h
  exact h
theorem okB_app (l : List Bm) (b : Bm) (i : Nat) (h : i < l.length) : okB (l ++ [b]) i = okB l i := by
  have := okB_take (l ++ [b]) l.length i h
  rw [List.take_left' rfl] at this
  exact this.symm
theorem ahead_app (l : List Bm) (b : Bm) (h : 0 < l.length) : ahead (l ++ [b]) l.length = ahead l l.length := by
  unfold ahead
  rw [List.getD_eq_getElem?_getD, List.getD_eq_getElem?_getD, List.getElem?_append_left (by omega)]
theorem parStep_fits {xs : List UInt8} {l : List Bm} {b : Bm} (hs : parStep xs l = some b) (h : fitsB l l.length = true) : fitsB (l ++ [b]) (l ++ [b]).length = true := by
  rw [fitsB_iff] at *
  intro i hi
  simp at hi
  rcases Nat.lt_or_ge i l.length with h1 | h1
  · rw [okB_app l b i h1]; exact h i h1
  · have : i = l.length := by omega
    subst this
    unfold parStep at hs
    split at hs
    · rename_i hh
      injection hs with hs
      subst hs
      rw [okB_iff]
      have hg : (l ++ [(⟨xs.getD (blkSz l) 0, (xs.drop (blkSz l + 1)).take (sizeN l.length (ahead l l.length))⟩ : Bm)]).getD l.length blkD = ⟨xs.getD (blkSz l) 0, (xs.drop (blkSz l + 1)).take (sizeN l.length (ahead l l.length))⟩ := by
        rw [List.getD_eq_getElem?_getD, List.getElem?_append_right (Nat.le_refl _)]; simp
      rw [hg]
      refine ⟨hh.2.2, ?_⟩
      rcases Nat.eq_zero_or_pos l.length with h0 | h0
      · have hl0 : l = [] := List.eq_nil_of_length_eq_zero h0
        subst hl0
        simp [sizeN, blkSz] at hh ⊢
        omega
      · rw [ahead_app l _ h0]
        simp
        omega
    · cases hs
theorem blkSz_app (l : List Bm) (b : Bm) : blkSz (l ++ [b]) = blkSz l + (1 + b.data.length) := by unfold blkSz; rw [List.map_append, List.sum_append]; simp

def lenV : Value → Nat
  | .slice _ n _ => n
  | _ => 0
/-- what Parse answers -/
def RetP (w : World) (l : List Bm) (r : Ending) (w' : World) : Prop :=
  ∃ A n c, r = .returned (.tuple #[.slice A n c, .int .i64 (blkSz l : Int)]) ∧ RdX shB w' (· < w'.heap.size) A n c l ∧ Below w.heap.size w w'

set_option maxRecDepth 100000 in
set_option maxHeartbeats 4000000 in
theorem parse_any (A : Option Addr) (n c B : Nat) (xs : List UInt8) (w : World) (hr : Rd bv w B A n c xs) (hB : B ≤ w.heap.size) (hn : n ≤ 1099511627776) :
    Calls Try.prog 18 #[.slice A n c] w (RetP w (parseN xs)) := by
  have HL := Lib.hid hr.len
  obtain ⟨i0, hi, hz0, hz1, hz2⟩ := info_parts Try.infoBt
  have HP0 : Hid (ParTo xs [] (parseN xs)) := rfl
  generalize parseN xs = ans at *
  go_enter Try.func18, Try.ntmps18
  go_wp2
  go_loopw [4, 5] (fun v i wr => ∃ (l : List Bm) (Aw : Option Addr) (nw cw : Nat) (rsw : List RawB) (z : Nat), v = .slice Aw nw cw ∧ i = .int .i64 z ∧ nw ≤ 512 ∧ z ≤ n ∧ OE shB wr w.heap.size 49 Aw nw cw rsw l ∧ Hid (z = blkSz l) ∧ Hid (fitsB l nw = true) ∧ Hid (ParTo xs l ans) ∧ Hid (∀ x ∈ l, x.data.length ≤ 100000) ∧ BlE w wr)
    (fun v _ _ => 512 - lenV v)
  case atStart => exact ⟨[], none, 0, 0, [], 0, rfl, rfl, by omega, by omega, OwnX.empty shB w w.heap.size 49 _, rfl, rfl, HP0, (fun x hx => by simp at hx), BlE.refl _⟩
  case round =>
    obtain ⟨l, Aw, nw, cw, rsw, z, rfl, rfl, hnw, hz, hO, HZ, HF, HP, HD, hb⟩ := hrel
    have hsz := BlE.sz hb
    have hll := Lib.hid (OwnX.len hO)
    by_cases h512 : nw < 512
    · have HN := next_any Aw nw cw (· < wr.heap.size) l wr (OwnX.rd hO (fun b h => h.1) (fun b h => (OwnX.lt hO b h).2)) (by omega) (told_of_fits (by rw [hll.out]; exact HF.out)) (fun x hx => by have := HD.out x hx; omega)
      have hs := sizeN_lt nw (ahead l nw)
      have hq := kindN_lt nw
      have HSt : Hid (parStep xs l = if z + 1 + sizeN nw (ahead l nw) ≤ n ∧ (xs.getD z 0).toNat = kindN nw then some ⟨xs.getD z 0, (xs.drop (z + 1)).take (sizeN nw (ahead l nw))⟩ else none) := by
        show _ = _
        unfold parStep
        rw [hll.out, HL.out, ← HZ.out]
        by_cases hc : z + 1 + sizeN nw (ahead l nw) ≤ n ∧ (xs.getD z 0).toNat = kindN nw
        · rw [if_pos hc, if_pos ⟨h512, hc⟩]
        · rw [if_neg hc, if_neg (fun h => hc h.2)]
      generalize sizeN nw (ahead l nw) = s at *
      generalize kindN nw = q at *
      by_cases hend : z + 1 + s ≤ n
      · obtain ⟨b, off, rfl⟩ := hr.some_of (by omega)
        have hzx : z < xs.length := by rw [HL.out]; omega
        have hc0 := (Below.cell hb (p := ⟨b, off + z, none⟩) (Nat.lt_of_lt_of_le (rd_cell hr z hzx).1 hB)).trans (rd_cell hr z hzx).2
        rw [getD_get _ _ _ hzx] at HSt
        generalize hxx : xs[z] = x at *
        unfold bv at hc0
        have hend' : ¬ ((z : Int) + 1 + s > n) := by omega
        have hzn : (z : Int) < n := by omega
        by_cases hk : x.toNat = q
        · have hcap := hr.cap
          have HSs := HSt.out
          rw [if_pos ⟨hend, hk⟩] at HSs
          have hlt : ((xs.drop (z + 1)).take s).length = s := by rw [List.length_take, List.length_drop, HL.out]; omega
          have HZ2 : Hid (z + 1 + s = blkSz (l ++ [⟨x, (xs.drop (z + 1)).take s⟩])) := by show _ = _; rw [blkSz_app, ← HZ.out]; simp only [hlt]; omega
          have HF2 : Hid (fitsB (l ++ [⟨x, (xs.drop (z + 1)).take s⟩]) (nw + 1) = true) := by
            have h1 := parStep_fits HSs (by rw [hll.out]; exact HF.out)
            rw [List.length_append, hll.out] at h1; exact h1
          have HP2 : Hid (ParTo xs (l ++ [⟨x, (xs.drop (z + 1)).take s⟩]) ans) := HP.out.go HSs
          have HD2 : Hid (∀ y ∈ l ++ [(⟨x, (xs.drop (z + 1)).take s⟩ : Bm)], y.data.length ≤ 100000) := fun y hy => by
            rcases List.mem_append.1 hy with h1 | h1
            · exact HD.out y h1
            · rw [List.mem_singleton.1 h1]; simp only [hlt]; omega
          have t1 : ((x.toNat : Int) != (q : Int)) = false := by rw [hk]; simp
          subst hk
          clear HSs hlt HSt HZ HF HP HD
          by_cases hzc : c = z + 1
          · subst hzc
            go_wp2_with (go_at_call 27; refine HN.mono ?_; rintro e w' ⟨rfl, q', rfl⟩; unfold ksV)
            have rS : RdE bv (wr.drewN q') (some ⟨b, off, none⟩) s 0 ((xs.drop (z + 1)).take s) := by
              obtain rfl : s = 0 := by omega
              exact Rd.nil
            have hO' := OE.below hO (Still.below ⟨q', rfl⟩ _)
            have hB' := BlE.drewN hb (k := q')
            refine (clone_E (some ⟨b, off, none⟩) s 0 _ _ rS (by omega)).mono ?_
            rintro e w5 ⟨A5, n5, c5, rfl, ho5, hb5⟩
            have hO5 := OE.below hO' hb5
            have hB5 := BlE.below hB' hb5
            have hl5 : n5 ≤ 100000 := by rw [← ho5.len, List.length_take]; omega
            have hP5 := OE.fresh hO' ho5 hb5
            have hs5 := BlE.sz hB5
            have HS5 := Lib.hid ho5.len
            clear hO hO' ho5 hb5 hb hB' rS
            go_wp2_with (at_builtin
                         refine wpList_push shB _ rfl (.tmp 33) (.tmp 42) 26 rfl w.heap.size 49 i0 _ 32 Try.underlying26 hi hz0 hz1 hz2 rfl _ Aw nw cw rsw _ rfl hO5 _ _ _ _ _ ⟨x, A5, n5, c5⟩ ⟨x, (xs.drop (z + 1)).take s⟩ rfl rfl (by simp) ⟨rfl, hP5⟩ (fun b h => ⟨h.1, h.2.1⟩) (by simp only [maxLen]; omega) (by omega) hs5 ?_
                         intro g6 c6 w6 hown6 hg6 hat6 hlt6)
            have bl6 : BlE w w6 := BlE.grown hB5 hg6 (fun k hk => (OwnX.lt hO5 k hk).1)
            have hO6 : OE shB w6 w.heap.size 49 (some ⟨g6, 0, none⟩) (nw + 1) c6 (rsw ++ [⟨x, A5, n5, c5⟩]) (l ++ [⟨x, (xs.drop (z + 1)).take s⟩]) :=
              hown6.sub (fun b h => ⟨by have := hg6.size; have := h.1; omega, off_pushed hat6 (by have := h.1; omega) h.2.1, off_none _⟩)
            go_roundw
            case rel => exact ⟨_, _, nw + 1, c6, _, z + 1 + s, rfl, by go_num, by omega, by omega, hO6, HZ2, HF2, HP2, HD2, bl6⟩
            case measure => simp [lenV]; omega
          · have hzc' : ¬ (c = z + 1) := hzc
            go_wp2_with (go_at_call 27; refine HN.mono ?_; rintro e w' ⟨rfl, q', rfl⟩; unfold ksV)
            have rS : RdE bv (wr.drewN q') (some ⟨b, off + (z + 1), none⟩) s (c - (z + 1)) ((xs.drop (z + 1)).take s) :=
              RdE.drewN (RdE.of ((((hr.belowLe hb hB).drop (z + 1) (by omega)).take s (by omega))) (Nat.le_trans hB hsz))
            have hO' := OE.below hO (Still.below ⟨q', rfl⟩ _)
            have hB' := BlE.drewN hb (k := q')
            refine (clone_E (some ⟨b, off + (z + 1), none⟩) s (c - (z + 1)) _ _ rS (by omega)).mono ?_
            rintro e w5 ⟨A5, n5, c5, rfl, ho5, hb5⟩
            have hO5 := OE.below hO' hb5
            have hB5 := BlE.below hB' hb5
            have hl5 : n5 ≤ 100000 := by rw [← ho5.len, List.length_take]; omega
            have hP5 := OE.fresh hO' ho5 hb5
            have hs5 := BlE.sz hB5
            have HS5 := Lib.hid ho5.len
            clear hO hO' ho5 hb5 hb hB' rS
            go_wp2_with (at_builtin
                         refine wpList_push shB _ rfl (.tmp 33) (.tmp 42) 26 rfl w.heap.size 49 i0 _ 32 Try.underlying26 hi hz0 hz1 hz2 rfl _ Aw nw cw rsw _ rfl hO5 _ _ _ _ _ ⟨x, A5, n5, c5⟩ ⟨x, (xs.drop (z + 1)).take s⟩ rfl rfl (by simp) ⟨rfl, hP5⟩ (fun b h => ⟨h.1, h.2.1⟩) (by simp only [maxLen]; omega) (by omega) hs5 ?_
                         intro g6 c6 w6 hown6 hg6 hat6 hlt6)
            have bl6 : BlE w w6 := BlE.grown hB5 hg6 (fun k hk => (OwnX.lt hO5 k hk).1)
            have hO6 : OE shB w6 w.heap.size 49 (some ⟨g6, 0, none⟩) (nw + 1) c6 (rsw ++ [⟨x, A5, n5, c5⟩]) (l ++ [⟨x, (xs.drop (z + 1)).take s⟩]) :=
              hown6.sub (fun b h => ⟨by have := hg6.size; have := h.1; omega, off_pushed hat6 (by have := h.1; omega) h.2.1, off_none _⟩)
            go_roundw
            case rel => exact ⟨_, _, nw + 1, c6, _, z + 1 + s, rfl, by go_num, by omega, by omega, hO6, HZ2, HF2, HP2, HD2, bl6⟩
            case measure => simp [lenV]; omega
        · have HSn : Hid (l = ans) := HP.out.stop (by rw [HSt.out, if_neg (fun h => hk h.2)])
          have t1 : ((x.toNat : Int) != (q : Int)) = true := by rw [bne_iff_ne]; omega
          clear hk
          go_wp2_with (go_at_call 27; refine HN.mono ?_; rintro e w' ⟨rfl, q', rfl⟩; unfold ksV)
          go_ret2
          unfold RetP; rw [← HSn.out, ← HZ.out]
          have hO' := OE.below hO (Still.below ⟨q', rfl⟩ _)
          exact ⟨_, _, _, rfl, OwnX.rd hO' (fun b h => h.1) (fun b h => (OwnX.lt hO' b h).2), BlE.drewN hb⟩
      · have HSn : Hid (l = ans) := HP.out.stop (by rw [HSt.out, if_neg (fun h => hend h.1)])
        have hend' : ((z : Int) + 1 + s > n) := by omega
        clear hend
        go_wp2_with (go_at_call 27; refine HN.mono ?_; rintro e w' ⟨rfl, q', rfl⟩; unfold ksV)
        go_ret2
        unfold RetP; rw [← HSn.out, ← HZ.out]
        have hO' := OE.below hO (Still.below ⟨q', rfl⟩ _)
        exact ⟨_, _, _, rfl, OwnX.rd hO' (fun b h => h.1) (fun b h => (OwnX.lt hO' b h).2), BlE.drewN hb⟩
    · have HSn : Hid (l = ans) := HP.out.stop (by unfold parStep; rw [if_neg (by rw [hll.out]; omega)])
      go_wp2
      go_ret2
      unfold RetP; rw [← HSn.out, ← HZ.out]
      exact ⟨_, _, _, rfl, OwnX.rd hO (fun b h => h.1) (fun b h => (OwnX.lt hO b h).2), hb⟩

end Go.Proofs.Ytdefkajjpilicaa

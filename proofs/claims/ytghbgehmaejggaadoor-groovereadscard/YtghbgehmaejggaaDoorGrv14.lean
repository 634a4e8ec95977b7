/- What the laws of layer 7 make: own, made. No law is claimed here. -/
import Derived.Test.YtghbgehmaejggaaDoorGrv12
import Derived.Test.YtghbgehmaejggaaDoorK4
namespace Go.Proofs.YtghbgehmaejggaaDoor
open Go.RowKit

set_option maxRecDepth 100000 in
set_option maxHeartbeats 2000000 in
theorem own7_any (A : Option Addr) (n c : Nat) (S : Nat → Prop) (l : List Bm) (w : World) (hr : RdX shB w S A n c l) (hS : ∀ b, S b → b < w.heap.size) (hn : n ≤ 1000000) :
    Calls Tryd.prog 7 #[.slice A n c] w (RetB w l) := by
  have HL := Lib.hid hr.len
  obtain ⟨i0, hi, hz0, hz1, hz2⟩ := info_parts Tryd.infoRBt
  go_enter Tryd.func7, Tryd.ntmps7
  go_wp2
  go_loopw [3, 8] (fun v i wr => ∃ (k : Nat) (A' : Option Addr) (n' c' : Nat) (rs : List RawB), k ≤ n ∧ n' = k ∧ i = .int .i64 k ∧ v = .slice A' n' c' ∧ OwnX shB wr w.heap.size 44 (fun b => b < w.heap.size) A' n' c' rs (l.take k) ∧ Below w.heap.size w wr)
    (fun _ i _ => n - (intOf i).toNat)
  case atStart => exact ⟨0, none, 0, 0, [], Nat.zero_le _, rfl, rfl, rfl, by simpa using OwnX.empty shB w w.heap.size 44 _, Below.refl _ _⟩
  case round =>
    obtain ⟨k, A', n', c', rs, hk, rfl, rfl, rfl, hown, hb⟩ := hrel
    have hsz := hb.size
    by_cases hlt : n' < n
    · have hkx : n' < l.length := by rw [HL.out]; exact hlt
      obtain ⟨b, off, A3, n3, c3, rfl, hSb, hc0, hc1, hrd⟩ := rdB_at (hr.keep (Kp.below hb hS) (fun _ h => h)) n' hkx
      have HT := Lib.hid (List.take_succ_eq_append_getElem hkx)
      have hok : shB.Ok (wr.alloc (.cells #[.int .u8 (l[n'].kind.toNat : Int), .slice A3 n3 c3] 48)) (fun b => b < w.heap.size) ⟨l[n'].kind, A3, n3, c3⟩ l[n'] :=
        ⟨rfl, (hrd.keep (Kp.alloc (fun b h => by have := hS b h; omega) _) hS)⟩
      have hoA := hown.below ((Below.refl _ _).alloc (Nat.le_refl _) (.cells #[.int .u8 (l[n'].kind.toNat : Int), .slice A3 n3 c3] 48)) (fun b h => by omega)
      have hof : ∀ b, b < w.heap.size → Off A' b := fun b hb e => by have := (hown.lt b e.symm).1; omega
      have hbx : w.heap.size ≤ wr.heap.size + 1 := by omega
      generalize l[n'] = x at *
      obtain ⟨xk, xd⟩ := x
      simp only at *
      clear hown hrd
      go_wp2_with (at_builtin
                   refine wpList_push shB _ rfl (.tmp 12) (.tmp 18) 28 rfl w.heap.size 44 i0 _ 32 Tryd.underlying28 hi hz0 hz1 hz2 rfl _ A' n' c' rs _ rfl hoA _ _ _ _ _ ⟨xk, A3, n3, c3⟩ ⟨xk, xd⟩ rfl rfl (by simp) hok (fun b h => ⟨by simp; omega, hof b h⟩) (by simp only [maxLen]; omega) (by omega) (by simp; omega) ?_
                   intro g6 c6 w6 hown6 hg6 hat6 hlt6)
      have bl6 : Below w.heap.size w w6 := (hb.alloc hsz _).grown hg6 (by simp; omega) (fun k hk => (hoA.lt k hk).1)
      go_roundw
      case rel =>
        refine ⟨n' + 1, _, n' + 1, c6, rs ++ [⟨xk, A3, n3, c3⟩], by omega, by omega, by go_num, rfl, ?_, bl6⟩
        rw [HT.out]
        exact hown6
      case measure => simp [intOf]; omega
    · go_wp2
      go_ret
      rw [List.take_of_length_le (by rw [HL.out]; omega)] at hown
      exact ⟨A', n', c', rfl, hown.rd (fun b h => by omega) (fun b h => (hown.lt b h).2), hb⟩

/-- a file of some bytes, as the law makes it -/
def fiB (i : Nat) (p : List UInt8) : List Bm := fileN (u8N i) 0 [70] 24576 0 (p.take 200)
def fiBs (fs : List (List UInt8)) (k : Nat) : List (List Bm) := (List.range (min k 8)).map fun i => fiB i (fs.getD i [])
theorem fiBs_snoc (fs : List (List UInt8)) (k : Nat) (h : k < 8) : fiBs fs (k + 1) = fiBs fs k ++ [fiB k (fs.getD k [])] := by
  unfold fiBs
  rw [Nat.min_eq_left (by omega), Nat.min_eq_left (by omega), List.range_succ, List.map_append]; rfl
theorem fiBs_same (fs : List (List UInt8)) (k : Nat) (h : 8 ≤ k) : fiBs fs (k + 1) = fiBs fs k := by
  unfold fiBs
  rw [Nat.min_eq_right (by omega), Nat.min_eq_right (by omega)]
theorem fiBs_len (fs : List (List UInt8)) (k : Nat) : (fiBs fs k).length = min k 8 := by simp [fiBs]
theorem fiB_file (i : Nat) (p : List UInt8) : isFile (fiB i p) := isFile_fileN _ _ _ _ _ _ (by simp only [List.length_take]; omega)
theorem fiBs_file (fs : List (List UInt8)) (k : Nat) : ∀ f ∈ fiBs fs k, isFile f := fun f hf => by
  obtain ⟨i, _, rfl⟩ := List.mem_map.1 hf
  exact fiB_file i _
theorem fiB_data (i : Nat) (p : List UInt8) : ∀ x ∈ fiB i p, x.data.length ≤ 200 := by
  intro x hx
  unfold fiB fileN at hx
  simp only [List.mem_cons, List.not_mem_nil, or_false] at hx
  rcases hx with rfl | rfl
  · simp [headN_len]
  · simp only [List.length_take]; omega
theorem fiBs_data (fs : List (List UInt8)) (k : Nat) : ∀ x ∈ (fiBs fs k).flatten, x.data.length ≤ 200 := fun x hx => by
  obtain ⟨f, hf, hx⟩ := List.mem_flatten.1 hx
  obtain ⟨i, _, rfl⟩ := List.mem_map.1 hf
  exact fiB_data i _ x hx
/-- the blocks of a side, the last ones left out -/
def mad7 (fs : List (List UInt8)) (less : Nat) : List Bm := (diskN [75] 0 (fiBs fs fs.length)).take ((diskN [75] 0 (fiBs fs fs.length)).length - less % 4)

set_option maxRecDepth 100000 in
set_option maxHeartbeats 4000000 in
theorem made7_any (A : Option Addr) (n c : Nat) (S : Nat → Prop) (fs : List (List UInt8)) (less : Int) (w : World) (hr : RdX shS w S A n c fs) (hS : ∀ b, S b → b < w.heap.size) (hn : n ≤ 9223372036854775807) (hd : Hid (∀ p ∈ fs, p.length ≤ 9223372036854775807)) (hl0 : 0 ≤ less) (hl1 : less < 256) :
    Calls Tryd.prog 8 #[.slice A n c, .int .u8 less] w (RetB w (mad7 fs less.toNat)) := by
  obtain ⟨i0, hi, hz0, hz1, hz2⟩ := info_parts Tryd.infoBts
  have HL := Lib.hid hr.len
  generalize hans : mad7 fs less.toNat = ans
  have HANS := Lib.hid hans
  clear hans
  go_enter Tryd.func8, Tryd.ntmps8
  go_wp2
  go_loopw [5, 11] (fun v i wr => ∃ (k : Nat) (Aw : Option Addr) (nw cw : Nat) (rsw : List (Option Addr × Nat × Nat)), k ≤ n ∧ i = .int .i64 k ∧ v = .slice Aw nw cw ∧ nw ≤ 8 ∧ OE shBL wr w.heap.size 30 Aw nw cw rsw (fiBs fs k) ∧ BlE w wr)
    (fun _ i _ => n - (intOf i).toNat)
  case atStart => exact ⟨0, none, 0, 0, [], Nat.zero_le _, rfl, rfl, by omega, OwnX.empty shBL w w.heap.size 30 _, BlE.refl _⟩
  case round =>
    obtain ⟨k, Aw, nw, cw, rsw, hk, rfl, rfl, hnw, hO, hB⟩ := hrel
    have hsz := BlE.sz hB
    by_cases hlt : k < n
    · have hkx : k < fs.length := by rw [HL.out]; exact hlt
      obtain ⟨b, off, A3, n3, c3, rfl, hSb, hc0, hrd⟩ := rdS_at (hr.keep (Kp.below hB hS) (fun _ h => h)) k hkx
      have hbr : b < wr.heap.size := Nat.lt_of_lt_of_le (hS b hSb) hsz
      by_cases h8 : k < 8
      · have HT : Hid (fiBs fs (k + 1) = fiBs fs k ++ [fiB k fs[k]]) := by show _ = _; rw [fiBs_snoc fs k h8, getD_get _ _ _ hkx]
        have hof := hd.out _ (List.getElem_mem hkx)
        have hE3 : Rd bv wr w.heap.size A3 n3 c3 fs[k] := hrd.rd hS
        have hnk : nw ≤ k := by have h1 := OwnX.len hO; rw [fiBs_len] at h1; omega
        generalize fs[k] = f at *
        have hl3 := hrd.len
        have hn3 : n3 ≤ 9223372036854775807 := by omega
        have h8' : (k : Int) < 8 := by omega
        have FC := cut_any A3 n3 c3 w.heap.size f 200 wr hE3 hsz hn3 (by omega) (by omega)
        have ek : (((u8N k).toNat : Nat) : Int) = (k : Int) := by rw [u8N_toNat _ (by omega)]
        have ek2 : IntKind.u8.wrap (k : Int) = (k : Int) := by rw [wrap_u8_mod]; omega
        clear hrd hl3
        go_wp2_with (first
          | (go_at_call 9; refine FC.mono ?_; rintro e wC ⟨A5, n5, c5, rfl, hoC, hbC⟩
             have hl5 := hoC.len
             have hn5 : n5 ≤ 200 := (by rw [← hl5, List.length_take]; exact Nat.min_le_left _ _)
             have FF := file_any (u8N k) 0 0 ⟨#[70]⟩ 24576 A5 n5 c5 wC.heap.size _ wC hoC.rd (Nat.le_refl _) (by omega) (by omega) (by omega)
             rw [ek] at FF)
          | (go_at_call 17; refine FF.mono ?_; rintro e wF ⟨A8, n8, c8, rfl, rF, hbF⟩
             have hOF := OE.below (OE.below hO hbC) hbF
             have hBF := BlE.below (BlE.below hB hbC) hbF
             have hXF : RdX shB wF (SE wF Aw none) A8 n8 c8 (fiB k f) := rF.keep (Kp.refl _ _) (fun _ hb => ⟨hb.2, OwnX.off (OE.below hO hbC) hb.1, off_none _⟩)
             have hsF := BlE.sz hBF)
          | (at_builtin
             refine wpList_push shBL _ rfl (.tmp 18) (.tmp 24) 49 rfl w.heap.size 30 i0 _ 24 Tryd.underlying49 hi hz0 hz1 hz2 rfl _ Aw nw cw rsw _ rfl hOF _ _ _ _ _ (A8, n8, c8) (fiB k f) rfl rfl (by simp) hXF (fun b h => ⟨h.1, h.2.1⟩) (by simp only [maxLen]; omega) (by omega) hsF ?_
             intro g7 c7 w7 hown7 hg7 hat7 hlt7))
        have bl7 : BlE w w7 := BlE.grown hBF hg7 (fun k hk => (OwnX.lt hOF k hk).1)
        have hO7 : OE shBL w7 w.heap.size 30 (some ⟨g7, 0, none⟩) (nw + 1) c7 (rsw ++ [(A8, n8, c8)]) (fiBs fs k ++ [fiB k f]) :=
          hown7.sub (fun b h => ⟨by have := hg7.size; have := h.1; omega, off_pushed hat7 (by have := h.1; omega) h.2.1, off_none _⟩)
        go_roundw
        case rel => exact ⟨k + 1, _, nw + 1, c7, _, by omega, by go_num, rfl, by omega, by rw [HT.out]; exact hO7, bl7⟩
        case measure => simp [intOf]; omega
      · have HT : Hid (fiBs fs (k + 1) = fiBs fs k) := fiBs_same fs k (by omega)
        have h8' : ¬ ((k : Int) < 8) := by omega
        go_wp2
        go_roundw
        case rel => exact ⟨k + 1, Aw, nw, cw, rsw, by omega, by go_num, rfl, hnw, by rw [HT.out]; exact hO, hB⟩
        case measure => simp [intOf]; omega
    · have hkn : k = fs.length := by rw [HL.out]; omega
      rw [hkn] at hO
      have rF : RdX shBL wr (· < wr.heap.size) Aw nw cw (fiBs fs fs.length) := OwnX.rd hO (fun b h => h.1) (fun b h => (OwnX.lt hO b h).2)
      have FD := disk_any ⟨#[75]⟩ 0 Aw nw cw _ (fiBs fs fs.length) wr rF (fun b h => h) (by omega) (by rw [flatten_pairs_len _ (fiBs_file _ _), OwnX.len hO]; omega) (fun x hx => by have := fiBs_data _ _ x hx; omega)
      have htm : less.tmod 4 = less % 4 := Int.tmod_eq_emod_of_nonneg hl0
      have hln := diskN_len [75] 0 (fiBs fs fs.length) (fiBs_file _ _)
      rw [OwnX.len hO] at hln
      have HA2 := HANS.out
      unfold mad7 at HA2
      rw [show strN ⟨#[75]⟩ = [75] from rfl] at FD
      generalize diskN [75] 0 (fiBs fs fs.length) = L at *
      clear hkn
      go_wp2_with fail
      refine FD.mono ?_
      rintro e w2 ⟨A2, n2, c2, rfl, r2, hb2⟩
      have hB2 := BlE.below hB hb2
      have hn2 := r2.len
      have hcap := r2.cap
      obtain ⟨d, hd'⟩ : ∃ d : Nat, (d : Int) = less % 4 := ⟨(less % 4).toNat, by omega⟩
      have hd2 : less.toNat % 4 = d := by omega
      have hd5 : d < 4 := by omega
      rw [hd2, hn2] at HA2
      have hRT := r2.take (n2 - d) (by omega)
      rw [HA2] at hRT
      have hn20 : n2 ≤ 20 := by omega
      rw [← hd'] at htm
      clear hd' hd2 HA2 FD rF hO hB hb2 r2 hln hn2
      by_cases hle : d < n2
      · obtain ⟨K, hK⟩ : ∃ K : Nat, (n2 : Int) - d = (K : Int) := ⟨n2 - d, by omega⟩
        obtain rfl : n2 - d = K := by omega
        generalize hKK : n2 - d = K at *
        have hK0 : (0 : Int) < K := by omega
        have hK1 : ¬ ((K : Int) < 0) := by omega
        have hK2 : (K : Int) ≤ c2 := by omega
        have hK3 : K ≤ c2 := by omega
        have hK4 : ¬ ((K : Int) ≤ 0) := by omega
        clear hle hKK
        go_wp2
        go_ret
        exact ⟨_, _, _, rfl, hRT, hB2⟩
      · have hK : n2 - d = 0 := by omega
        rw [hK] at hRT
        have hK0 : ¬ ((0 : Int) < (n2 : Int) - d) := by omega
        have hK1 : (n2 : Int) - d ≤ 0 := by omega
        clear hle hK
        go_wp2
        go_ret
        exact ⟨_, _, _, rfl, hRT, hB2⟩

end Go.Proofs.YtghbgehmaejggaaDoor

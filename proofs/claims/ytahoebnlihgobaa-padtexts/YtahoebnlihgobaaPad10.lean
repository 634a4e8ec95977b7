/- Letters of buttons: pad.Text, pad.Parse, and as the document has them. No law is claimed here. -/
import Derived.Test.YtahoebnlihgobaaPad9
import Derived.Lib.OthersKept
namespace Go.Proofs.Ytahoebnlihgobaa
open Go.RowKit

/-- the letters -/
def LS : ByteArray := { data := #[65, 66, 69, 84, 85, 68, 76, 82] }
def letB (k : Nat) : UInt8 := ([65, 66, 69, 84, 85, 68, 76, 82] : List UInt8).getD k 0
theorem LS_size : LS.size = 8 := rfl
theorem LS_at (k : Nat) (h : k < LS.size) : LS[k]'h = letB k := by
  have h8 : k < 8 := h
  rcases k with _ | _ | _ | _ | _ | _ | _ | _ | k
  all_goals first | rfl | omega
theorem letB_lt (k : Nat) : (letB k).toNat < 128 := by
  unfold letB
  rcases k with _ | _ | _ | _ | _ | _ | _ | _ | k
  all_goals first | decide | simp
/-- a bit is on -/
def bitOn (b : Int) (k : Nat) : Bool := bits .and .u8 (b / 2 ^ k) 1 == 1
/-- letters of the lowest bits -/
def ltr (b : Int) : Nat → List UInt8
  | 0 => []
  | k + 1 => ltr b k ++ (if bitOn b k then [letB k] else [])
def txt (b : Int) : ByteArray := if b = 0 then { data := #[45] } else { data := (ltr b 8).toArray }
theorem ltr_len (b : Int) (k : Nat) : (ltr b k).length ≤ k := by
  induction k with
  | zero => simp [ltr]
  | succ k ih => simp only [ltr, List.length_append]; split <;> simp <;> omega
theorem ltr_some : ∀ b : Fin 256, b.val = 0 ∨ ltr (b.val : Int) 8 ≠ [] := by decide +kernel

theorem Bd.iter {w : World} {base b k : Nat} {p : Value} {l : List UInt8} {pos : Nat} (h : Bd w base b p l) (hk : k < base) (hkb : b ≠ k) : Bd (w.iterAt k LS pos) base b p l := by
  obtain ⟨A, n, c, h1, h2⟩ := h
  refine ⟨A, n, c, (Lib.iterAt_other w k b LS pos hkb).trans h1, ⟨h2.own.kept (row := some k) ⟨rfl, rfl, rfl, by rw [Lib.iterAt_size]; exact Nat.le_refl _, fun j _ hj => Lib.iterAt_other w k j LS pos (fun e => hj (by simp [e]))⟩ (Or.inr (fun e => by have := (h2.lt k e).1; omega)), h2.len⟩⟩

/-- where an iterator stands -/
def itPos (w : World) (j : Nat) : Nat := match w.heap[j]? with | some (.stringIter _ k) => k | _ => 0
theorem itPos_of {w : World} {j k : Nat} (h : w.heap[j]? = some (.stringIter LS k)) : itPos w j = k := by unfold itPos; rw [h]

set_option maxRecDepth 100000 in
set_option maxHeartbeats 2000000 in
theorem ptext_some (b : Int) (w : World) (hb : 0 < b) (hb2 : b < 256) :
    Calls Try.prog 19 #[.int .u8 b] w fun e w' => e = .returned (.string { data := (ltr b 8).toArray }) ∧ Below w.heap.size w w' := by
  have t1 : ¬ b = 0 := by omega
  have t0 : (b == 0) = false := by simpa using t1
  have hs : Hid (ltr b 8 ≠ []) := by
    obtain ⟨k, rfl⟩ : ∃ k : Nat, b = (k : Int) := ⟨b.toNat, by omega⟩
    rcases ltr_some ⟨k, by omega⟩ with h | h
    · simp at h; omega
    · exact h
  go_enter Try.func19, Try.ntmps19
  go_wp2
  have B0 : Bd ((w.alloc (Obj.cells #[Value.pointer none, Value.slice none 0 0] 53)).iter LS 0) (w.heap.size + 2) w.heap.size (.pointer none) [] := by
    refine ⟨none, 0, 0, ?_, Own.empty _ _ _ _⟩
    exact (Below.heap_alloc (w.alloc _) _ _ (by simp)).trans (heap_alloc_new w _)
  have I0 : ((w.alloc (Obj.cells #[Value.pointer none, Value.slice none 0 0] 53)).iter LS 0).heap[w.heap.size + 1]? = some (.stringIter LS 0) := by
    have := World.iter_heap (w.alloc (Obj.cells #[Value.pointer none, Value.slice none 0 0] 53)) LS 0
    simpa using this
  have E0 : Below w.heap.size w ((w.alloc (Obj.cells #[Value.pointer none, Value.slice none 0 0] 53)).iter LS 0) := (((Ext.refl w).alloc _).alloc _).below
  have Z0 : w.heap.size + 2 ≤ ((w.alloc (Obj.cells #[Value.pointer none, Value.slice none 0 0] 53)).iter LS 0).heap.size := by
    show _ ≤ ((w.heap.push _).push _).size
    simp
  show Code.wp _ _ _ _ ((w.alloc (Obj.cells #[Value.pointer none, Value.slice none 0 0] 53)).iter LS 0)
  generalize (w.alloc (Obj.cells #[Value.pointer none, Value.slice none 0 0] 53)).iter LS 0 = w1 at *
  generalize hH : w.heap.size = H at *
  go_loopw [] (fun wr => ∃ (k : Nat) (p : Value), k ≤ 8 ∧ wr.heap[H + 1]? = some (.stringIter LS k) ∧ Bd wr (H + 2) H p (ltr b k) ∧ (p = .pointer none ∨ p = .pointer (some ⟨H, 0, none⟩)) ∧ H + 2 ≤ wr.heap.size ∧ Below H w wr) (fun wr => 8 - itPos wr (H + 1))
  case atStart => exact ⟨0, _, Nat.zero_le _, I0, B0, Or.inl rfl, Z0, E0⟩
  case round =>
    obtain ⟨k, p, hk, hI, hB, hp, hZ, hE⟩ := hrel
    by_cases h : k < 8
    · have h' : k < LS.size := h
      have hnx := fun ty => Lib.run_next_ascii_at (P := Try.prog) wr (H + 1) LS k ty hI h' (by rw [LS_at k h']; exact letB_lt k)
      rw [LS_at k h'] at hnx
      have I1 := Lib.iterAt_heap wr (H + 1) LS k (k + 1) hI
      have B1 := hB.iter (pos := k + 1) (k := H + 1) (by omega) (by omega)
      have E1 := Lib.below_iterAt hE (k := H + 1) (by omega) LS (k + 1)
      have Z1 : H + 2 ≤ (wr.iterAt (H + 1) LS (k + 1)).heap.size := by rw [Lib.iterAt_size]; exact hZ
      have hM : Hid (itPos wr (H + 1) = k) := itPos_of hI
      clear hI hB hE hZ
      generalize wr.iterAt (H + 1) LS (k + 1) = w2 at *
      have hll := ltr_len b k
      have t2 : (k : Int) < 8 := by omega
      by_cases hon : bitOn b k = true
      · have FW := writeRune_ascii (H + 2) H p (ltr b k) (letB k) w2 (by omega) Z1 hp (letB_lt k) (by omega) B1
        have hl : ltr b (k + 1) = ltr b k ++ [letB k] := by rw [ltr, if_pos hon]
        rw [← hl] at FW
        have hon2 : (bits .and .u8 (b / 2 ^ k) 1 == 1) = true := hon
        clear hl hon B1
        go_wp2_with (go_at_call 24; refine FW.mono ?_; rintro e w3 ⟨rfl, B3, x3⟩)
        go_roundw
        case rel => exact ⟨k + 1, _, by omega, (x3.2 (H + 1) (by omega) (by omega)).trans I1, B3, Or.inr rfl, Nat.le_trans Z1 x3.1.size, E1.trans x3.1⟩
        case measure => rw [hM.out, itPos_of ((x3.2 (H + 1) (by omega) (by omega)).trans I1)]; omega
      · have hl : ltr b (k + 1) = ltr b k := by rw [ltr, if_neg hon, List.append_nil]
        rw [← hl] at B1
        have hon2 : (bits .and .u8 (b / 2 ^ k) 1 == 1) = false := by simpa [bitOn] using hon
        clear hl hon
        go_wp2
        go_roundw
        case rel => exact ⟨k + 1, _, by omega, I1, B1, hp, Z1, E1⟩
        case measure => rw [hM.out, itPos_of I1]; omega
    · have hnx := fun ty => Lib.run_next_end_at (P := Try.prog) wr (H + 1) LS k ty hI (by rw [LS_size]; exact h)
      have hk8 : k = 8 := by omega
      subst hk8
      have FS := bstring_any (H + 2) H p (ltr b 8) wr hs.out (by have := ltr_len b 8; omega) (by omega) hB
      go_wp2_with (go_at_call 25; refine FS.mono ?_; rintro e w3 ⟨rfl, x3⟩)
      go_ret
      exact ⟨rfl, by rw [hH]; exact hE.trans x3⟩

set_option maxRecDepth 100000 in
set_option maxHeartbeats 1000000 in
theorem ptext_none (w : World) : Calls Try.prog 19 #[.int .u8 0] w fun e w' => e = .returned (.string { data := #[45] }) ∧ w' = w := by
  go_enter Try.func19, Try.ntmps19
  go_wp2
  go_ret
  exact ⟨rfl, rfl⟩
theorem ptext_any (b : Int) (w : World) (hb : 0 ≤ b) (hb2 : b < 256) :
    Calls Try.prog 19 #[.int .u8 b] w fun e w' => e = .returned (.string (txt b)) ∧ Below w.heap.size w w' := by
  by_cases h : b = 0
  · subst h
    refine (ptext_none w).mono ?_
    rintro e w' ⟨rfl, rfl⟩
    exact ⟨rfl, Below.refl _ _⟩
  · unfold txt
    rw [if_neg h]
    exact ptext_some b w (by omega) hb2

/-- the buttons whose letters stand in a text -/
def prs (s : ByteArray) : Nat → Int
  | 0 => 0
  | k + 1 => if hasB s ((letB k).toNat : Int) then bits .or .u8 (prs s k) (2 ^ k % 256) else prs s k
theorem prs_u8 (s : ByteArray) (k : Nat) : 0 ≤ prs s k ∧ prs s k < 256 := by
  induction k with
  | zero => exact ⟨Int.le_refl _, by show (0 : Int) < 256; omega⟩
  | succ k ih =>
    rw [prs]
    split
    · have h : ∀ z : Int, 0 ≤ IntKind.u8.wrap z ∧ IntKind.u8.wrap z < 256 := fun z => by rw [wrap_u8_mod]; omega
      unfold bits
      exact h _
    · exact ih

set_option maxRecDepth 100000 in
set_option maxHeartbeats 2000000 in
theorem pparse_any (s : ByteArray) (ok : Bool) (w : World) (hok : ((txt (prs s 8)).toList == s.toList) = ok) :
    Calls Try.prog 17 #[.string s] w fun e w' => e = .returned (.tuple #[.int .u8 (if ok then prs s 8 else 0), .bool ok]) ∧ Below w.heap.size w w' := by
  have HO : Hid (((txt (prs s 8)).toList == s.toList) = ok) := hok
  clear hok
  go_enter Try.func17, Try.ntmps17
  go_wp2
  show Code.wp _ _ _ _ (w.iter LS 0)
  go_loopw [4] (fun v wr => ∃ (k : Nat), k ≤ 8 ∧ v = .int .u8 (prs s k) ∧ wr = w.iter LS k) (fun _ wr => 8 - itPos wr w.heap.size)
  case atStart => exact ⟨0, Nat.zero_le _, rfl, rfl⟩
  case round =>
    obtain ⟨k, hk, rfl, rfl⟩ := hrel
    by_cases h : k < 8
    · have h' : k < LS.size := h
      have hnx := fun ty => run_next_ascii (P := Try.prog) w LS k ty h' (by rw [LS_at k h']; exact letB_lt k)
      rw [LS_at k h'] at hnx
      have FC := fun w => containsRune_ascii s ((letB k).toNat : Int) (by omega) (by have := letB_lt k; omega) w
      have hM : Hid (itPos (w.iter LS k) w.heap.size = k ∧ itPos (w.iter LS (k + 1)) w.heap.size = k + 1) := ⟨itPos_of (World.iter_heap w LS k), itPos_of (World.iter_heap w LS (k + 1))⟩
      have t2 : (k : Int) < 8 := by omega
      by_cases hon : hasB s ((letB k).toNat : Int) = true
      · have hl : Hid (prs s (k + 1) = bits .or .u8 (prs s k) (2 ^ k % 256)) := by show prs s (k + 1) = _; rw [prs, if_pos hon]
        rw [hon] at FC
        go_wp2_with (go_at_call 23; refine (FC _).mono ?_; rintro e w3 ⟨rfl, hq⟩; rw [hq]; clear hq w3)
        go_roundw
        case rel => exact ⟨k + 1, by omega, by rw [hl.out], rfl⟩
        case measure => rw [hM.out.1, hM.out.2]; omega
      · have hl : Hid (prs s (k + 1) = prs s k) := by show prs s (k + 1) = _; rw [prs, if_neg hon]
        rw [show hasB s ((letB k).toNat : Int) = false from by simpa using hon] at FC
        go_wp2_with (go_at_call 23; refine (FC _).mono ?_; rintro e w3 ⟨rfl, hq⟩; rw [hq]; clear hq w3)
        go_roundw
        case rel => exact ⟨k + 1, by omega, by rw [hl.out], rfl⟩
        case measure => rw [hM.out.1, hM.out.2]; omega
    · have hnx := fun ty => run_next_end (P := Try.prog) w LS k ty (by rw [LS_size]; exact h)
      have hk8 : k = 8 := by omega
      subst hk8
      have FT := ptext_any (prs s 8) (w.iter LS 8) (prs_u8 s 8).1 (prs_u8 s 8).2
      have b8 : Below w.heap.size w (w.iter LS 8) := ((Ext.refl w).alloc _).below
      have z8 : w.heap.size ≤ (w.iter LS 8).heap.size := b8.size
      have hok := HO.out
      clear HO
      cases ok
      · go_wp2_with (go_at_call 19; refine FT.mono ?_; rintro e w3 ⟨rfl, x3⟩)
        go_ret2
        exact ⟨rfl, b8.trans (x3.mono z8)⟩
      · go_wp2_with (go_at_call 19; refine FT.mono ?_; rintro e w3 ⟨rfl, x3⟩)
        go_ret2
        exact ⟨rfl, b8.trans (x3.mono z8)⟩

end Go.Proofs.Ytahoebnlihgobaa

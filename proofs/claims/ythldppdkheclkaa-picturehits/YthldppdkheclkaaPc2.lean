/- A new picture unit: its 72025 noughts. No law is claimed here. -/
import Derived.Test.YthldppdkheclkaaPc1
import Derived.Great.Walk
import Derived.Great.Ranges
import Derived.Great.BuildSlice
set_option linter.unusedSimpArgs false
set_option linter.unusedVariables false
namespace Go.Proofs.Ythldppdkheclkaa
open Go.RowKit Go.Great

def same1 : Value → Value → Bool
  | .int k a, .int k' b => decide (k = k') && decide (a = b)
  | .bool a, .bool b => decide (a = b)
  | _, _ => false
theorem same1_eq {a b : Value} (h : same1 a b = true) : a = b := by
  unfold same1 at h
  split at h
  · simp at h; obtain ⟨rfl, rfl⟩ := h; rfl
  · simp at h; subst h; rfl
  · cases h
def stripN (v : Value) : Nat → List Value → Option (List Value)
  | 0, l => some l
  | n + 1, h :: t => if same1 h v then stripN v n t else none
  | _ + 1, [] => none
theorem stripN_eq (v : Value) : ∀ (n : Nat) (l r : List Value), stripN v n l = some r → l = List.replicate n v ++ r := by
  intro n
  induction n with
  | zero => intro l r h; simp [stripN] at h; simp [h]
  | succ n ih =>
    intro l r h
    cases l with
    | nil => simp [stripN] at h
    | cons a t =>
      unfold stripN at h
      split at h
      · rename_i e
        rw [same1_eq e, ih t r h]
        rfl
      · cases h
def stripL : List Value → List Value → Option (List Value)
  | [], l => some l
  | v :: vs, h :: t => if same1 h v then stripL vs t else none
  | _ :: _, [] => none
theorem stripL_eq : ∀ (vs l r : List Value), stripL vs l = some r → l = vs ++ r := by
  intro vs
  induction vs with
  | nil => intro l r h; simp [stripL] at h; simp [h]
  | cons v vs ih =>
    intro l r h
    cases l with
    | nil => simp [stripL] at h
    | cons a t =>
      unfold stripL at h
      split at h
      · rename_i e
        rw [same1_eq e, ih t r h]
        rfl
      · cases h
def zB : Value := .int .u8 0
def zM : List Value := [.bool false, .int .u16 0, .int .u16 0, .int .u8 0, .bool false, zB, zB, zB, zB, zB]
def zM2 : List Value := [.bool false, zB, .int .i64 0, zB, zB, .bool false, zB, .int .i64 0, zB, zB, .bool false, zB, .int .i64 0, zB, zB, .bool false, zB, .int .i64 0, zB, zB,
  .bool false, zB, .int .i64 0, zB, zB, .bool false, zB, .int .i64 0, zB, zB, .bool false, zB, .int .i64 0, zB, zB, .bool false, zB, .int .i64 0, zB, zB,
  .int .i64 0, .bool false, .bool false, .bool false, .int .i64 0, .int .i64 0, .int .i64 0]
def zL : List Value := List.replicate 10272 zB ++ (zM ++ (List.replicate 256 zB ++ (zM2 ++ (List.replicate 61440 zB ++ []))))
def isZ (l : List Value) : Bool :=
  match stripN zB 10272 l with
  | some a => match stripL zM a with
    | some b => match stripN zB 256 b with
      | some c => match stripL zM2 c with
        | some d => match stripN zB 61440 d with
          | some e => e.isEmpty
          | none => false
        | none => false
      | none => false
    | none => false
  | none => false
theorem isZ_eq {l : List Value} (h : isZ l = true) : l = zL := by
  unfold isZ at h
  split at h
  · rename_i a h1
    split at h
    · rename_i b h2
      split at h
      · rename_i c h3
        split at h
        · rename_i d h4
          split at h
          · rename_i e h5
            have : e = [] := by simpa using h
            subst this
            rw [stripN_eq _ _ _ _ h1, stripL_eq _ _ _ h2, stripN_eq _ _ _ _ h3, stripL_eq _ _ _ h4, stripN_eq _ _ _ _ h5]
            rfl
          · cases h
        · cases h
      · cases h
    · cases h
  · cases h
noncomputable def ZP : Array Value := match Try.t85.zero with | some v => v.cells | none => #[]
theorem zp_is : isZ ZP.toList = true := by decide +kernel
theorem zp_eq : ZP.toList = zL := isZ_eq zp_is
theorem app_r (L R : List Value) (n j : Nat) (h : L.length = n) : (L ++ R)[n + j]? = R[j]? := by
  rw [List.getElem?_append_right (by omega)]
  congr 1
  omega
theorem zM_len : zM.length = 10 := rfl
theorem zM2_len : zM2.length = 47 := rfl
theorem zL_0 (i : Nat) (hi : i < 10272) : zL[i]? = some zB := by
  unfold zL
  rw [List.getElem?_append_left (by rw [List.length_replicate]; exact hi), List.getElem?_replicate, if_pos hi]
theorem zL_1' (j : Nat) : zL[10272 + j]? = (zM ++ (List.replicate 256 zB ++ (zM2 ++ (List.replicate 61440 zB ++ []))))[j]? := app_r _ _ 10272 j List.length_replicate
theorem zL_2' (j : Nat) : zL[10282 + j]? = (List.replicate 256 zB ++ (zM2 ++ (List.replicate 61440 zB ++ [])))[j]? := by
  rw [show 10282 + j = 10272 + (10 + j) by omega, zL_1', app_r _ _ 10 j zM_len]
theorem zL_3' (j : Nat) : zL[10538 + j]? = (zM2 ++ (List.replicate 61440 zB ++ []))[j]? := by
  rw [show 10538 + j = 10282 + (256 + j) by omega, zL_2', app_r _ _ 256 j List.length_replicate]
theorem zL_4' (j : Nat) : zL[10585 + j]? = (List.replicate 61440 zB ++ [])[j]? := by
  rw [show 10585 + j = 10538 + (47 + j) by omega, zL_3', app_r _ _ 47 j zM2_len]
theorem zL_1 (j : Nat) (hj : j < 10) : zL[10272 + j]? = zM[j]? := by
  rw [zL_1', List.getElem?_append_left (by rw [zM_len]; exact hj)]
theorem zL_2 (j : Nat) (hj : j < 256) : zL[10282 + j]? = some zB := by
  rw [zL_2', List.getElem?_append_left (by rw [List.length_replicate]; exact hj), List.getElem?_replicate, if_pos hj]
theorem zL_3 (j : Nat) (hj : j < 47) : zL[10538 + j]? = zM2[j]? := by
  rw [zL_3', List.getElem?_append_left (by rw [zM2_len]; exact hj)]
theorem zL_4 (j : Nat) (hj : j < 61440) : zL[10585 + j]? = some zB := by
  rw [zL_4', List.append_nil, List.getElem?_replicate, if_pos hj]
theorem zL_len : zL.length = 72025 := by
  unfold zL
  rw [List.length_append, List.length_append, List.length_append, List.length_append, List.length_append, List.length_replicate, List.length_replicate, List.length_replicate, zM_len, zM2_len]
  rfl
def zA (i : Nat) : Value := (zL[i]?).getD zB
theorem zA_of {i : Nat} {x : Value} (h : zL[i]? = some x) : zA i = x := by simp [zA, h]
theorem zB_is : IsB zB := ⟨0, rfl, by decide, by decide⟩
def c0 : PC := ⟨false, 0, 0, 0, false, 0, 0, 0, 0, 0, 0, false, false, false, 0, 0, 0⟩
theorem zA_ty : Ty c0 zA := by
  refine ⟨fun i hi => by rw [zA_of (zL_0 i hi)]; exact zB_is, fun i hi => by rw [zA_of (zL_2 i hi)]; exact zB_is, fun i hi => ?_, fun i hi => by rw [zA_of (zL_4 i hi)]; exact zB_is,
    zA_of (zL_1 0 (by decide)), zA_of (zL_1 1 (by decide)), zA_of (zL_1 2 (by decide)), zA_of (zL_1 3 (by decide)), zA_of (zL_1 4 (by decide)), zA_of (zL_1 5 (by decide)), zA_of (zL_1 6 (by decide)),
    zA_of (zL_1 7 (by decide)), zA_of (zL_1 8 (by decide)), zA_of (zL_1 9 (by decide)), zA_of (zL_3 40 (by decide)), zA_of (zL_3 41 (by decide)), zA_of (zL_3 42 (by decide)), zA_of (zL_3 43 (by decide)),
    zA_of (zL_3 44 (by decide)), zA_of (zL_3 45 (by decide)), zA_of (zL_3 46 (by decide))⟩
  refine ⟨false, 0, 0, 0, 0, ?_, ?_, ?_, ?_, ?_, by decide, by decide, by decide, by decide⟩
  · exact zA_of ((zL_3 (5 * i) (by omega)).trans (by rcases (by omega : i = 0 ∨ i = 1 ∨ i = 2 ∨ i = 3 ∨ i = 4 ∨ i = 5 ∨ i = 6 ∨ i = 7) with rfl | rfl | rfl | rfl | rfl | rfl | rfl | rfl <;> rfl))
  · exact zA_of ((zL_3 (5 * i + 1) (by omega)).trans (by rcases (by omega : i = 0 ∨ i = 1 ∨ i = 2 ∨ i = 3 ∨ i = 4 ∨ i = 5 ∨ i = 6 ∨ i = 7) with rfl | rfl | rfl | rfl | rfl | rfl | rfl | rfl <;> rfl))
  · exact zA_of ((zL_3 (5 * i + 2) (by omega)).trans (by rcases (by omega : i = 0 ∨ i = 1 ∨ i = 2 ∨ i = 3 ∨ i = 4 ∨ i = 5 ∨ i = 6 ∨ i = 7) with rfl | rfl | rfl | rfl | rfl | rfl | rfl | rfl <;> rfl))
  · exact zA_of ((zL_3 (5 * i + 3) (by omega)).trans (by rcases (by omega : i = 0 ∨ i = 1 ∨ i = 2 ∨ i = 3 ∨ i = 4 ∨ i = 5 ∨ i = 6 ∨ i = 7) with rfl | rfl | rfl | rfl | rfl | rfl | rfl | rfl <;> rfl))
  · exact zA_of ((zL_3 (5 * i + 4) (by omega)).trans (by rcases (by omega : i = 0 ∨ i = 1 ∨ i = 2 ∨ i = 3 ∨ i = 4 ∨ i = 5 ∨ i = 6 ∨ i = 7) with rfl | rfl | rfl | rfl | rfl | rfl | rfl | rfl <;> rfl))
variable {w0 : World}
theorem pnew_any (w : World) :
    Calls Try.prog 13 #[] w fun e w' => e = .returned (.pointer (some ⟨w.heap.size, 0, none⟩)) ∧ PX w w.heap.size c0 w' := by
  go_enter Try.func13, Try.ntmps13
  go_upto_region 1 with (fail)
  first | refine wp_region_lit ?_ | (refine wp_seq ?_; refine wp_region_lit ?_)
  refine wpList_readTo rfl (some 1) rfl (.agg ZP) (by kernel_rfl) ?_
  refine wpList_boxTo rfl 85 _ rfl (some 2) rfl w.heap.size rfl ZP rfl ?_
  have hA : PA w w.heap.size zA (w.alloc (.cells ZP 85 (0, 0))) := by
    refine ⟨⟨ZP, heap_alloc_new w _, ?_, fun i hi => ?_⟩, ((Ext.refl w).alloc _).below⟩
    · have := zL_len; rw [← zp_eq] at this; rw [← Array.length_toList]; exact this
    · have h1 : ZP[i]? = zL[i]? := by rw [← zp_eq, Array.getElem?_toList]
      rw [h1]
      have h2 : i < zL.length := by rw [zL_len]; exact hi
      unfold zA
      rw [List.getElem?_eq_getElem h2]
      rfl
  generalize w.alloc (.cells ZP 85 (0, 0)) = w1 at *
  go_wp2
  go_ret
  exact ⟨rfl, zA, hA, zA_ty⟩

end Go.Proofs.Ythldppdkheclkaa

/- Names of operations (walk). No law is claimed here. -/
import Derived.Test.YtigpmmjbdpnkjaaAluN1
import Derived.Test.YtigpmmjbdpnkjaaAluA
namespace Go.Proofs.Ytigpmmjbdpnkjaa
open Go.RowKit

theorem nil_list : ({ data := #[] } : ByteArray).toList = [] := by decide +kernel

set_option maxRecDepth 100000 in
set_option maxHeartbeats 2000000 in
theorem names_hitS (op x : Int) (ok : Bool) (want z : ByteArray) (w : World) (hop : 0 ≤ op ∧ op < 256) (hs : ¬ 8 < z.size) (k : Nat) (hk : k < 70) (hz : (nm k).toList = (z).toList)
    (F3 : ∀ w, Calls Try.prog 17 #[.int .i64 op] w fun e w' => e = .returned (.string want) ∧ Ext w w')
    (F4 : ∀ w, Calls Try.prog 24 #[.string want] w fun e w' => e = .returned (.tuple #[.int .u8 x, .bool ok]) ∧ w' = w)
    (F5 : ∀ w, Calls Try.prog 25 #[.int .u8 op] w fun e w' => e = .returned (.string want) ∧ w' = w)
    (hw : (ok = true ∧ x = op ∧ ¬ (want.toList = []) ∧ want.toList.isEmpty = false) ∨ (ok = false ∧ want.toList = [] ∧ want.toList.isEmpty = true)) :
    Calls Try.prog 11 #[.int .u8 op, .string z] w fun e w' => e = .returned (.bool true) ∧ Ext w w' := by
  have F0 := awake_any
  have F6 := fun w => kind_any op w
  have F7 := fun w => rkind_any op hop.1 hop.2 w
  have F9 := rnames_any
  have hK : 0 ≤ kindU op ∧ kindU op < 7 := by unfold kindU; split <;> (try split) <;> (try split) <;> (try split) <;> (try split) <;> (try split) <;> omega
  have e1 : IntKind.i64.wrap op = op := IntWalk.i64_in _ ⟨by omega, by omega⟩
  have e2 : IntKind.i64.wrap (kindU op) = kindU op := IntWalk.i64_in _ ⟨by omega, by omega⟩
  generalize kindU op = K at *
  have r5 := ext_drew
  have r6 := ext_ext
  clear hop hK
  have F8 := fun w => find_hit (z) k hk hz w
  have HN : Hid (∀ j, j < k → ((nm j).toList == (z).toList) = false) := fun j hj => by
    rw [beq_eq_false_iff_ne]; intro h
    have := nm_far ⟨j, by omega⟩ ⟨k, hk⟩ (h.trans hz.symm)
    have := congrArg Fin.val this
    simp at this; omega
  have HZ : Hid ((nm k).toList = (z).toList) := hz
  have e3 : IntKind.i64.wrap (k : Int) = k := IntWalk.i64_in _ ⟨by omega, by omega⟩
  clear hz
  have s1 : ¬ ((8 : Int) < (z.size : Int)) := by omega
  clear hs
  rcases hw with ⟨rfl, rfl, hw, hv⟩ | ⟨rfl, hw, hv⟩
  all_goals
    go_enter Try.func11, Try.ntmps11
    go_upto_region 9 with (first | (go_at_call 13; refine (F0 _).mono ?_; rintro e w' ⟨rfl, os, q, rfl⟩) | (go_at_call 17; refine (F3 _).mono ?_; rintro e w' ⟨rfl, os, q, rfl⟩) | (go_at_call 24; refine (F4 _).mono ?_; rintro e w' ⟨rfl, rfl⟩) | (go_at_call 25; refine (F5 _).mono ?_; rintro e w' ⟨rfl, rfl⟩) | (go_at_call 26; refine (F6 _).mono ?_; rintro e w' ⟨rfl, rfl⟩) | (go_at_call 15; refine (F7 _).mono ?_; rintro e w1 ⟨rfl, hE1⟩))
    clear F3 F4 F5 F6 F7
    go_wp2_with (first | (go_at_call 24; refine (F8 _).mono ?_; rintro e w' ⟨rfl, hq⟩; rw [hq]; clear hq w') | (go_at_call 27; refine (F9 _).mono ?_; rintro e w' ⟨rfl, rfl⟩))
    go_loopw [61] (fun i wr => ∃ (j : Nat), j ≤ k ∧ i = .int .i64 j ∧ wr = w1.alloc (.cells nameT 9)) (fun i _ => k - (intOf i).toNat)
    case atStart => exact ⟨0, Nat.zero_le _, rfl, rfl⟩
    case round =>
      obtain ⟨j, hj, rfl, rfl⟩ := hrel
      have tT := nm_T ⟨j, by omega⟩
      simp only at tT
      have u1 : (j : Int) < 70 := by omega
      by_cases h : j = k
      · subst h
        have t2 : ((nm j).toList == (z).toList) = true := by rw [HZ.out]; exact beq_self_eq_true _
        go_wp2
        go_ret
        refine ⟨rfl, ?_⟩
        repeat (first | exact Ext.refl _ | refine Ext.trans ?_ hE1 | refine Ext.alloc ?_ _ | refine Ext.ext ?_ _ _ | refine Ext.drew ?_ | refine Ext.drewN ?_ _)
      · have t2 : ((nm j).toList == (z).toList) = false := HN.out j (by omega)
        go_wp2
        go_roundw
        case rel => exact ⟨j + 1, by omega, by go_num, trivial⟩
        case measure => simp [intOf]; omega

set_option maxRecDepth 100000 in
set_option maxHeartbeats 2000000 in
theorem names_missS (op x : Int) (ok : Bool) (want z : ByteArray) (w : World) (hop : 0 ≤ op ∧ op < 256) (hs : ¬ 8 < z.size) (hz : ∀ j, j < 70 → (nm j).toList ≠ (z).toList)
    (F3 : ∀ w, Calls Try.prog 17 #[.int .i64 op] w fun e w' => e = .returned (.string want) ∧ Ext w w')
    (F4 : ∀ w, Calls Try.prog 24 #[.string want] w fun e w' => e = .returned (.tuple #[.int .u8 x, .bool ok]) ∧ w' = w)
    (F5 : ∀ w, Calls Try.prog 25 #[.int .u8 op] w fun e w' => e = .returned (.string want) ∧ w' = w)
    (hw : (ok = true ∧ x = op ∧ ¬ (want.toList = []) ∧ want.toList.isEmpty = false) ∨ (ok = false ∧ want.toList = [] ∧ want.toList.isEmpty = true)) :
    Calls Try.prog 11 #[.int .u8 op, .string z] w fun e w' => e = .returned (.bool true) ∧ Ext w w' := by
  have F0 := awake_any
  have F6 := fun w => kind_any op w
  have F7 := fun w => rkind_any op hop.1 hop.2 w
  have F9 := rnames_any
  have hK : 0 ≤ kindU op ∧ kindU op < 7 := by unfold kindU; split <;> (try split) <;> (try split) <;> (try split) <;> (try split) <;> (try split) <;> omega
  have e1 : IntKind.i64.wrap op = op := IntWalk.i64_in _ ⟨by omega, by omega⟩
  have e2 : IntKind.i64.wrap (kindU op) = kindU op := IntWalk.i64_in _ ⟨by omega, by omega⟩
  generalize kindU op = K at *
  have r5 := ext_drew
  have r6 := ext_ext
  clear hop hK
  have F8 := fun w => find_miss (z) hz w
  have HN : Hid (∀ j, j < 70 → ((nm j).toList == (z).toList) = false) := fun j hj => by
    rw [beq_eq_false_iff_ne]; exact hz j hj
  clear hz
  have s1 : ¬ ((8 : Int) < (z.size : Int)) := by omega
  clear hs
  rcases hw with ⟨rfl, rfl, hw, hv⟩ | ⟨rfl, hw, hv⟩
  all_goals
    go_enter Try.func11, Try.ntmps11
    go_upto_region 9 with (first | (go_at_call 13; refine (F0 _).mono ?_; rintro e w' ⟨rfl, os, q, rfl⟩) | (go_at_call 17; refine (F3 _).mono ?_; rintro e w' ⟨rfl, os, q, rfl⟩) | (go_at_call 24; refine (F4 _).mono ?_; rintro e w' ⟨rfl, rfl⟩) | (go_at_call 25; refine (F5 _).mono ?_; rintro e w' ⟨rfl, rfl⟩) | (go_at_call 26; refine (F6 _).mono ?_; rintro e w' ⟨rfl, rfl⟩) | (go_at_call 15; refine (F7 _).mono ?_; rintro e w1 ⟨rfl, hE1⟩))
    clear F3 F4 F5 F6 F7
    go_wp2_with (first | (go_at_call 24; refine (F8 _).mono ?_; rintro e w' ⟨rfl, hq⟩; rw [hq]; clear hq w') | (go_at_call 27; refine (F9 _).mono ?_; rintro e w' ⟨rfl, rfl⟩))
    go_loopw [61] (fun i wr => ∃ (j : Nat), j ≤ 70 ∧ i = .int .i64 j ∧ wr = w1.alloc (.cells nameT 9)) (fun i _ => 70 - (intOf i).toNat)
    case atStart => exact ⟨0, Nat.zero_le _, rfl, rfl⟩
    case round =>
      obtain ⟨j, hj, rfl, rfl⟩ := hrel
      by_cases h : j < 70
      · have tT := nm_T ⟨j, h⟩
        simp only at tT
        have u1 : (j : Int) < 70 := by omega
        have t2 : ((nm j).toList == (z).toList) = false := HN.out j h
        go_wp2
        go_roundw
        case rel => exact ⟨j + 1, by omega, by go_num, trivial⟩
        case measure => simp [intOf]; omega
      · have u1 : ¬ ((j : Int) < 70) := by omega
        go_wp2
        go_ret
        refine ⟨rfl, ?_⟩
        repeat (first | exact Ext.refl _ | refine Ext.trans ?_ hE1 | refine Ext.alloc ?_ _ | refine Ext.ext ?_ _ _ | refine Ext.drew ?_ | refine Ext.drewN ?_ _)

set_option maxRecDepth 100000 in
set_option maxHeartbeats 2000000 in
theorem names_hitL (op x : Int) (ok : Bool) (want z : ByteArray) (w : World) (hop : 0 ≤ op ∧ op < 256) (hs : 8 < z.size) (k : Nat) (hk : k < 70) (hz : (nm k).toList = (z.extract 0 8).toList)
    (F3 : ∀ w, Calls Try.prog 17 #[.int .i64 op] w fun e w' => e = .returned (.string want) ∧ Ext w w')
    (F4 : ∀ w, Calls Try.prog 24 #[.string want] w fun e w' => e = .returned (.tuple #[.int .u8 x, .bool ok]) ∧ w' = w)
    (F5 : ∀ w, Calls Try.prog 25 #[.int .u8 op] w fun e w' => e = .returned (.string want) ∧ w' = w)
    (hw : (ok = true ∧ x = op ∧ ¬ (want.toList = []) ∧ want.toList.isEmpty = false) ∨ (ok = false ∧ want.toList = [] ∧ want.toList.isEmpty = true)) :
    Calls Try.prog 11 #[.int .u8 op, .string z] w fun e w' => e = .returned (.bool true) ∧ Ext w w' := by
  have F0 := awake_any
  have F6 := fun w => kind_any op w
  have F7 := fun w => rkind_any op hop.1 hop.2 w
  have F9 := rnames_any
  have hK : 0 ≤ kindU op ∧ kindU op < 7 := by unfold kindU; split <;> (try split) <;> (try split) <;> (try split) <;> (try split) <;> (try split) <;> omega
  have e1 : IntKind.i64.wrap op = op := IntWalk.i64_in _ ⟨by omega, by omega⟩
  have e2 : IntKind.i64.wrap (kindU op) = kindU op := IntWalk.i64_in _ ⟨by omega, by omega⟩
  generalize kindU op = K at *
  have r5 := ext_drew
  have r6 := ext_ext
  clear hop hK
  have F8 := fun w => find_hit (z.extract 0 8) k hk hz w
  have HN : Hid (∀ j, j < k → ((nm j).toList == (z.extract 0 8).toList) = false) := fun j hj => by
    rw [beq_eq_false_iff_ne]; intro h
    have := nm_far ⟨j, by omega⟩ ⟨k, hk⟩ (h.trans hz.symm)
    have := congrArg Fin.val this
    simp at this; omega
  have HZ : Hid ((nm k).toList = (z.extract 0 8).toList) := hz
  have e3 : IntKind.i64.wrap (k : Int) = k := IntWalk.i64_in _ ⟨by omega, by omega⟩
  clear hz
  have s1 : (8 : Int) < (z.size : Int) := by omega
  have s2 : 8 ≤ z.size := by omega
  have s3 : (8 : Int) ≤ (z.size : Int) := by omega
  clear hs
  rcases hw with ⟨rfl, rfl, hw, hv⟩ | ⟨rfl, hw, hv⟩
  all_goals
    go_enter Try.func11, Try.ntmps11
    go_upto_region 9 with (first | (go_at_call 13; refine (F0 _).mono ?_; rintro e w' ⟨rfl, os, q, rfl⟩) | (go_at_call 17; refine (F3 _).mono ?_; rintro e w' ⟨rfl, os, q, rfl⟩) | (go_at_call 24; refine (F4 _).mono ?_; rintro e w' ⟨rfl, rfl⟩) | (go_at_call 25; refine (F5 _).mono ?_; rintro e w' ⟨rfl, rfl⟩) | (go_at_call 26; refine (F6 _).mono ?_; rintro e w' ⟨rfl, rfl⟩) | (go_at_call 15; refine (F7 _).mono ?_; rintro e w1 ⟨rfl, hE1⟩))
    clear F3 F4 F5 F6 F7
    go_wp2_with (first | (go_at_call 24; refine (F8 _).mono ?_; rintro e w' ⟨rfl, hq⟩; rw [hq]; clear hq w') | (go_at_call 27; refine (F9 _).mono ?_; rintro e w' ⟨rfl, rfl⟩))
    go_loopw [61] (fun i wr => ∃ (j : Nat), j ≤ k ∧ i = .int .i64 j ∧ wr = w1.alloc (.cells nameT 9)) (fun i _ => k - (intOf i).toNat)
    case atStart => exact ⟨0, Nat.zero_le _, rfl, rfl⟩
    case round =>
      obtain ⟨j, hj, rfl, rfl⟩ := hrel
      have tT := nm_T ⟨j, by omega⟩
      simp only at tT
      have u1 : (j : Int) < 70 := by omega
      by_cases h : j = k
      · subst h
        have t2 : ((nm j).toList == (z.extract 0 8).toList) = true := by rw [HZ.out]; exact beq_self_eq_true _
        go_wp2
        go_ret
        refine ⟨rfl, ?_⟩
        repeat (first | exact Ext.refl _ | refine Ext.trans ?_ hE1 | refine Ext.alloc ?_ _ | refine Ext.ext ?_ _ _ | refine Ext.drew ?_ | refine Ext.drewN ?_ _)
      · have t2 : ((nm j).toList == (z.extract 0 8).toList) = false := HN.out j (by omega)
        go_wp2
        go_roundw
        case rel => exact ⟨j + 1, by omega, by go_num, trivial⟩
        case measure => simp [intOf]; omega

set_option maxRecDepth 100000 in
set_option maxHeartbeats 2000000 in
theorem names_missL (op x : Int) (ok : Bool) (want z : ByteArray) (w : World) (hop : 0 ≤ op ∧ op < 256) (hs : 8 < z.size) (hz : ∀ j, j < 70 → (nm j).toList ≠ (z.extract 0 8).toList)
    (F3 : ∀ w, Calls Try.prog 17 #[.int .i64 op] w fun e w' => e = .returned (.string want) ∧ Ext w w')
    (F4 : ∀ w, Calls Try.prog 24 #[.string want] w fun e w' => e = .returned (.tuple #[.int .u8 x, .bool ok]) ∧ w' = w)
    (F5 : ∀ w, Calls Try.prog 25 #[.int .u8 op] w fun e w' => e = .returned (.string want) ∧ w' = w)
    (hw : (ok = true ∧ x = op ∧ ¬ (want.toList = []) ∧ want.toList.isEmpty = false) ∨ (ok = false ∧ want.toList = [] ∧ want.toList.isEmpty = true)) :
    Calls Try.prog 11 #[.int .u8 op, .string z] w fun e w' => e = .returned (.bool true) ∧ Ext w w' := by
  have F0 := awake_any
  have F6 := fun w => kind_any op w
  have F7 := fun w => rkind_any op hop.1 hop.2 w
  have F9 := rnames_any
  have hK : 0 ≤ kindU op ∧ kindU op < 7 := by unfold kindU; split <;> (try split) <;> (try split) <;> (try split) <;> (try split) <;> (try split) <;> omega
  have e1 : IntKind.i64.wrap op = op := IntWalk.i64_in _ ⟨by omega, by omega⟩
  have e2 : IntKind.i64.wrap (kindU op) = kindU op := IntWalk.i64_in _ ⟨by omega, by omega⟩
  generalize kindU op = K at *
  have r5 := ext_drew
  have r6 := ext_ext
  clear hop hK
  have F8 := fun w => find_miss (z.extract 0 8) hz w
  have HN : Hid (∀ j, j < 70 → ((nm j).toList == (z.extract 0 8).toList) = false) := fun j hj => by
    rw [beq_eq_false_iff_ne]; exact hz j hj
  clear hz
  have s1 : (8 : Int) < (z.size : Int) := by omega
  have s2 : 8 ≤ z.size := by omega
  have s3 : (8 : Int) ≤ (z.size : Int) := by omega
  clear hs
  rcases hw with ⟨rfl, rfl, hw, hv⟩ | ⟨rfl, hw, hv⟩
  all_goals
    go_enter Try.func11, Try.ntmps11
    go_upto_region 9 with (first | (go_at_call 13; refine (F0 _).mono ?_; rintro e w' ⟨rfl, os, q, rfl⟩) | (go_at_call 17; refine (F3 _).mono ?_; rintro e w' ⟨rfl, os, q, rfl⟩) | (go_at_call 24; refine (F4 _).mono ?_; rintro e w' ⟨rfl, rfl⟩) | (go_at_call 25; refine (F5 _).mono ?_; rintro e w' ⟨rfl, rfl⟩) | (go_at_call 26; refine (F6 _).mono ?_; rintro e w' ⟨rfl, rfl⟩) | (go_at_call 15; refine (F7 _).mono ?_; rintro e w1 ⟨rfl, hE1⟩))
    clear F3 F4 F5 F6 F7
    go_wp2_with (first | (go_at_call 24; refine (F8 _).mono ?_; rintro e w' ⟨rfl, hq⟩; rw [hq]; clear hq w') | (go_at_call 27; refine (F9 _).mono ?_; rintro e w' ⟨rfl, rfl⟩))
    go_loopw [61] (fun i wr => ∃ (j : Nat), j ≤ 70 ∧ i = .int .i64 j ∧ wr = w1.alloc (.cells nameT 9)) (fun i _ => 70 - (intOf i).toNat)
    case atStart => exact ⟨0, Nat.zero_le _, rfl, rfl⟩
    case round =>
      obtain ⟨j, hj, rfl, rfl⟩ := hrel
      by_cases h : j < 70
      · have tT := nm_T ⟨j, h⟩
        simp only at tT
        have u1 : (j : Int) < 70 := by omega
        have t2 : ((nm j).toList == (z.extract 0 8).toList) = false := HN.out j h
        go_wp2
        go_roundw
        case rel => exact ⟨j + 1, by omega, by go_num, trivial⟩
        case measure => simp [intOf]; omega
      · have u1 : ¬ ((j : Int) < 70) := by omega
        go_wp2
        go_ret
        refine ⟨rfl, ?_⟩
        repeat (first | exact Ext.refl _ | refine Ext.trans ?_ hE1 | refine Ext.alloc ?_ _ | refine Ext.ext ?_ _ _ | refine Ext.drew ?_ | refine Ext.drewN ?_ _)

theorem names_any (op x : Int) (ok : Bool) (want z : ByteArray) (w : World) (hop : 0 ≤ op ∧ op < 256)
    (F3 : ∀ w, Calls Try.prog 17 #[.int .i64 op] w fun e w' => e = .returned (.string want) ∧ Ext w w')
    (F4 : ∀ w, Calls Try.prog 24 #[.string want] w fun e w' => e = .returned (.tuple #[.int .u8 x, .bool ok]) ∧ w' = w)
    (F5 : ∀ w, Calls Try.prog 25 #[.int .u8 op] w fun e w' => e = .returned (.string want) ∧ w' = w)
    (hw : (ok = true ∧ x = op ∧ ¬ (want.toList = []) ∧ want.toList.isEmpty = false) ∨ (ok = false ∧ want.toList = [] ∧ want.toList.isEmpty = true)) :
    Calls Try.prog 11 #[.int .u8 op, .string z] w fun e w' => e = .returned (.bool true) ∧ Ext w w' := by
  by_cases hs : 8 < z.size
  · by_cases h : ∃ k, k < 70 ∧ (nm k).toList = (z.extract 0 8).toList
    · obtain ⟨k, hk, hz⟩ := h
      exact names_hitL op x ok want z w hop hs k hk hz F3 F4 F5 hw
    · exact names_missL op x ok want z w hop hs (fun j hj e => h ⟨j, hj, e⟩) F3 F4 F5 hw
  · by_cases h : ∃ k, k < 70 ∧ (nm k).toList = z.toList
    · obtain ⟨k, hk, hz⟩ := h
      exact names_hitS op x ok want z w hop hs k hk hz F3 F4 F5 hw
    · exact names_missS op x ok want z w hop hs (fun j hj e => h ⟨j, hj, e⟩) F3 F4 F5 hw

theorem aluNames_w (op : Int) (z : ByteArray) (w : World) (hop : 0 ≤ op ∧ op < 256) :
    Calls Try.prog 11 #[.int .u8 op, .string z] w fun e w' => e = .returned (.bool true) ∧ Ext w w' := by
  by_cases h : op < 70
  · obtain ⟨n, rfl⟩ : ∃ n : Nat, op = (n : Int) := ⟨op.toNat, by omega⟩
    have hn : n < 70 := by omega
    exact names_any n n true (nm n) z w hop (fun w => rname_any n (nm n) hn (nm_T ⟨n, hn⟩) w) (fun w => find_hit (nm n) n hn rfl w) (fun w => alname_any n hn w) (Or.inl ⟨rfl, rfl, (nm_some ⟨n, hn⟩).1, (nm_some ⟨n, hn⟩).2⟩)
  · have h70 : 70 ≤ op := by omega
    exact names_any op 0 false { data := #[] } z w hop (fun w => rname_none op h70 w) (fun w => find_miss { data := #[] } (fun j hj e => (nm_some ⟨j, hj⟩).1 (e.trans nil_list)) w) (fun w => alname_none op h70 w) (Or.inr ⟨rfl, nil_list, by rw [nil_list]; rfl⟩)

theorem aluNames_walk (op : Int) (z : ByteArray) (w : World) (hop : 0 ≤ op ∧ op < 256) :
    Calls Try.prog 11 #[.int .u8 op, .string z] w fun e w' => e = .returned (.bool true) ∧ Below w.heap.size w w' :=
  (aluNames_w op z w hop).mono fun _ _ h => ⟨h.1, h.2.below⟩

end Go.Proofs.Ytigpmmjbdpnkjaa

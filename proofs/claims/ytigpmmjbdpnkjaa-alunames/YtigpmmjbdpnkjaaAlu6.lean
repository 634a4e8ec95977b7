/- Contracts of package alu: Kind, the tables. No law is claimed here. -/
import Derived.Test.YtigpmmjbdpnkjaaAlu2
import Derived.Laws.EntriesVeiled
import Derived.Deep.WholeRow
namespace Go.Proofs.Ytigpmmjbdpnkjaa
open Go.RowKit

def kindU (op : Int) : Int := if op ≤ 18 then 1 else if op ≤ 30 then 2 else if op ≤ 34 then 3 else if op ≤ 51 then 4 else if op ≤ 59 then 5 else if op ≤ 69 then 6 else 0
set_option maxRecDepth 100000 in
set_option maxHeartbeats 1000000 in
theorem kind_any (op : Int) (w : World) : Calls Try.prog 26 #[.int .u8 op] w fun e w' => e = .returned (.int .u8 (kindU op)) ∧ w' = w := by
  by_cases h0 : op ≤ 18
  · have HK : Hid (kindU op = 1) := by unfold kindU; rw [if_pos h0]; exact rfl
    rw [HK.out]
    go_enter Try.func26, Try.ntmps26
    go_wp2
    go_ret
    exact ⟨rfl, rfl⟩
  by_cases h1 : op ≤ 30
  · have HK : Hid (kindU op = 2) := by unfold kindU; rw [if_neg h0, if_pos h1]; exact rfl
    rw [HK.out]
    go_enter Try.func26, Try.ntmps26
    go_wp2
    go_ret
    exact ⟨rfl, rfl⟩
  by_cases h2 : op ≤ 34
  · have HK : Hid (kindU op = 3) := by unfold kindU; rw [if_neg h0, if_neg h1, if_pos h2]; exact rfl
    rw [HK.out]
    go_enter Try.func26, Try.ntmps26
    go_wp2
    go_ret
    exact ⟨rfl, rfl⟩
  by_cases h3 : op ≤ 51
  · have HK : Hid (kindU op = 4) := by unfold kindU; rw [if_neg h0, if_neg h1, if_neg h2, if_pos h3]; exact rfl
    rw [HK.out]
    go_enter Try.func26, Try.ntmps26
    go_wp2
    go_ret
    exact ⟨rfl, rfl⟩
  by_cases h4 : op ≤ 59
  · have HK : Hid (kindU op = 5) := by unfold kindU; rw [if_neg h0, if_neg h1, if_neg h2, if_neg h3, if_pos h4]; exact rfl
    rw [HK.out]
    go_enter Try.func26, Try.ntmps26
    go_wp2
    go_ret
    exact ⟨rfl, rfl⟩
  by_cases h5 : op ≤ 69
  · have HK : Hid (kindU op = 6) := by unfold kindU; rw [if_neg h0, if_neg h1, if_neg h2, if_neg h3, if_neg h4, if_pos h5]; exact rfl
    rw [HK.out]
    go_enter Try.func26, Try.ntmps26
    go_wp2
    go_ret
    exact ⟨rfl, rfl⟩
  have HK : Hid (kindU op = 0) := by unfold kindU; rw [if_neg h0, if_neg h1, if_neg h2, if_neg h3, if_neg h4, if_neg h5]; exact rfl
  rw [HK.out]
  go_enter Try.func26, Try.ntmps26
  go_wp2
  go_ret
  exact ⟨rfl, rfl⟩

def readsT : Array Value := #[.func (.func 43) #[] #[], .func (.func 44) #[] #[], .func (.func 45) #[] #[], .func (.func 46) #[] #[], .func (.func 47) #[] #[], .func (.func 48) #[] #[], .func (.func 49) #[] #[], .func (.func 50) #[] #[], .func (.func 51) #[] #[], .func (.func 52) #[] #[], .func (.func 53) #[] #[], .func (.func 54) #[] #[], .func (.func 55) #[] #[], .func (.func 56) #[] #[], .func (.func 57) #[] #[], .func (.func 58) #[] #[], .func (.func 59) #[] #[], .func (.func 60) #[] #[], .func (.func 61) #[] #[]]
def readsV : Value := .agg #[.func (.func 43) #[] #[], .func (.func 44) #[] #[], .func (.func 45) #[] #[], .func (.func 46) #[] #[], .func (.func 47) #[] #[], .func (.func 48) #[] #[], .func (.func 49) #[] #[], .func (.func 50) #[] #[], .func (.func 51) #[] #[], .func (.func 52) #[] #[], .func (.func 53) #[] #[], .func (.func 54) #[] #[], .func (.func 55) #[] #[], .func (.func 56) #[] #[], .func (.func 57) #[] #[], .func (.func 58) #[] #[], .func (.func 59) #[] #[], .func (.func 60) #[] #[], .func (.func 61) #[] #[]]
set_option maxRecDepth 100000 in
set_option maxHeartbeats 1000000 in
theorem reads_any (w : World) : Calls Try.prog 35 #[] w fun e w' => e = .returned readsV ∧ Ext w w' := by
  show Calls Try.prog 35 #[] w fun e w' => e = .returned (.agg readsT) ∧ Ext w w'
  have ho : readsT.all (·.oneCell') = true := by unfold readsT; simp [Value.oneCell']
  go_enter Try.func35, Try.ntmps35
  go_upto_region 1 with (fail)
  first | refine wp_region_lit ?_ | (refine wp_seq ?_; refine wp_region_lit ?_)
  refine wpList_build rfl 58 _ rfl (by kernel_rfl) ?_
  have hb : ((Try.prog.built 58 (#[(0, .func 43), (1, .func 44), (2, .func 45), (3, .func 46), (4, .func 47), (5, .func 48), (6, .func 49), (7, .func 50), (8, .func 51), (9, .func 52), (10, .func 53), (11, .func 54), (12, .func 55), (13, .func 56), (14, .func 57), (15, .func 58), (16, .func 59), (17, .func 60), (18, .func 61)].map fun (i, x) => (i, Act.eval { tmps := #[Value.pointer (some { block := w.heap.size, off := 0 }), undef], defers := [] } x)).toList).getD #[]) = readsT := by kernel_rfl
  rw [hb]
  refine wpList_store_row rfl 58 _ _ rfl w.heap.size readsT rfl rfl 58 _ (heap_alloc_last w _) (by kernel_rfl) rfl ho ?_
  rw [World.setRow_alloc_new]
  clear hb ho
  go_wp2
  have hv := run_loadVar_new (P := Try.prog) w 58 readsT _ _ Try.underlying58 (by kernel_rfl)
  refine bodyPost_ret (by simp [results, Try.results35, asAddr, Act.put, hv]) rfl ⟨rfl, ?_⟩
  repeat (first | exact Ext.refl _ | refine Ext.alloc ?_ _ | refine Ext.ext ?_ _ _ | refine Ext.drew ?_ | refine Ext.drewN ?_ _)
def changesT : Array Value := #[.func (.func 62) #[] #[], .func (.func 63) #[] #[], .func (.func 64) #[] #[], .func (.func 65) #[] #[], .func (.func 66) #[] #[], .func (.func 67) #[] #[], .func (.func 68) #[] #[], .func (.func 69) #[] #[], .func (.func 70) #[] #[], .func (.func 71) #[] #[], .func (.func 72) #[] #[], .func (.func 73) #[] #[]]
def changesV : Value := .agg #[.func (.func 62) #[] #[], .func (.func 63) #[] #[], .func (.func 64) #[] #[], .func (.func 65) #[] #[], .func (.func 66) #[] #[], .func (.func 67) #[] #[], .func (.func 68) #[] #[], .func (.func 69) #[] #[], .func (.func 70) #[] #[], .func (.func 71) #[] #[], .func (.func 72) #[] #[], .func (.func 73) #[] #[]]
set_option maxRecDepth 100000 in
set_option maxHeartbeats 1000000 in
theorem changes_any (w : World) : Calls Try.prog 36 #[] w fun e w' => e = .returned changesV ∧ Ext w w' := by
  show Calls Try.prog 36 #[] w fun e w' => e = .returned (.agg changesT) ∧ Ext w w'
  have ho : changesT.all (·.oneCell') = true := by unfold changesT; simp [Value.oneCell']
  go_enter Try.func36, Try.ntmps36
  go_upto_region 1 with (fail)
  first | refine wp_region_lit ?_ | (refine wp_seq ?_; refine wp_region_lit ?_)
  refine wpList_build rfl 61 _ rfl (by kernel_rfl) ?_
  have hb : ((Try.prog.built 61 (#[(0, .func 62), (1, .func 63), (2, .func 64), (3, .func 65), (4, .func 66), (5, .func 67), (6, .func 68), (7, .func 69), (8, .func 70), (9, .func 71), (10, .func 72), (11, .func 73)].map fun (i, x) => (i, Act.eval { tmps := #[Value.pointer (some { block := w.heap.size, off := 0 }), undef], defers := [] } x)).toList).getD #[]) = changesT := by kernel_rfl
  rw [hb]
  refine wpList_store_row rfl 61 _ _ rfl w.heap.size changesT rfl rfl 61 _ (heap_alloc_last w _) (by kernel_rfl) rfl ho ?_
  rw [World.setRow_alloc_new]
  clear hb ho
  go_wp2
  have hv := run_loadVar_new (P := Try.prog) w 61 changesT _ _ Try.underlying61 (by kernel_rfl)
  refine bodyPost_ret (by simp [results, Try.results36, asAddr, Act.put, hv]) rfl ⟨rfl, ?_⟩
  repeat (first | exact Ext.refl _ | refine Ext.alloc ?_ _ | refine Ext.ext ?_ _ _ | refine Ext.drew ?_ | refine Ext.drewN ?_ _)
def selfsT : Array Value := #[.func (.func 74) #[] #[], .func (.func 75) #[] #[], .func (.func 76) #[] #[], .func (.func 77) #[] #[], .func (.func 78) #[] #[], .func (.func 79) #[] #[], .func (.func 80) #[] #[], .func (.func 81) #[] #[], .func (.func 82) #[] #[], .func (.func 83) #[] #[], .func (.func 84) #[] #[], .func (.func 85) #[] #[], .func (.func 86) #[] #[], .func (.func 87) #[] #[], .func (.func 88) #[] #[], .func (.func 89) #[] #[], .func (.func 90) #[] #[]]
def selfsV : Value := .agg #[.func (.func 74) #[] #[], .func (.func 75) #[] #[], .func (.func 76) #[] #[], .func (.func 77) #[] #[], .func (.func 78) #[] #[], .func (.func 79) #[] #[], .func (.func 80) #[] #[], .func (.func 81) #[] #[], .func (.func 82) #[] #[], .func (.func 83) #[] #[], .func (.func 84) #[] #[], .func (.func 85) #[] #[], .func (.func 86) #[] #[], .func (.func 87) #[] #[], .func (.func 88) #[] #[], .func (.func 89) #[] #[], .func (.func 90) #[] #[]]
set_option maxRecDepth 100000 in
set_option maxHeartbeats 1000000 in
theorem selfs_any (w : World) : Calls Try.prog 37 #[] w fun e w' => e = .returned selfsV ∧ Ext w w' := by
  show Calls Try.prog 37 #[] w fun e w' => e = .returned (.agg selfsT) ∧ Ext w w'
  have ho : selfsT.all (·.oneCell') = true := by unfold selfsT; simp [Value.oneCell']
  go_enter Try.func37, Try.ntmps37
  go_upto_region 1 with (fail)
  first | refine wp_region_lit ?_ | (refine wp_seq ?_; refine wp_region_lit ?_)
  refine wpList_build rfl 64 _ rfl (by kernel_rfl) ?_
  have hb : ((Try.prog.built 64 (#[(0, .func 74), (1, .func 75), (2, .func 76), (3, .func 77), (4, .func 78), (5, .func 79), (6, .func 80), (7, .func 81), (8, .func 82), (9, .func 83), (10, .func 84), (11, .func 85), (12, .func 86), (13, .func 87), (14, .func 88), (15, .func 89), (16, .func 90)].map fun (i, x) => (i, Act.eval { tmps := #[Value.pointer (some { block := w.heap.size, off := 0 }), undef], defers := [] } x)).toList).getD #[]) = selfsT := by kernel_rfl
  rw [hb]
  refine wpList_store_row rfl 64 _ _ rfl w.heap.size selfsT rfl rfl 64 _ (heap_alloc_last w _) (by kernel_rfl) rfl ho ?_
  rw [World.setRow_alloc_new]
  clear hb ho
  go_wp2
  have hv := run_loadVar_new (P := Try.prog) w 64 selfsT _ _ Try.underlying64 (by kernel_rfl)
  refine bodyPost_ret (by simp [results, Try.results37, asAddr, Act.put, hv]) rfl ⟨rfl, ?_⟩
  repeat (first | exact Ext.refl _ | refine Ext.alloc ?_ _ | refine Ext.ext ?_ _ _ | refine Ext.drew ?_ | refine Ext.drewN ?_ _)

end Go.Proofs.Ytigpmmjbdpnkjaa

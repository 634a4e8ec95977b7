/- Contracts of package alu: Kind, the tables. No law is claimed here. -/
import Derived.Test.YtigpmmjbdpnkjaaDoorAlu2
import Derived.Laws.EntriesVeiled
import Derived.Deep.WholeRow
namespace Go.Proofs.YtigpmmjbdpnkjaaDoor
open Go.RowKit

def kindU (op : Int) : Int := if op ≤ 18 then 1 else if op ≤ 30 then 2 else if op ≤ 34 then 3 else if op ≤ 51 then 4 else if op ≤ 59 then 5 else if op ≤ 69 then 6 else 0
set_option maxRecDepth 100000 in
set_option maxHeartbeats 1000000 in
theorem kind_any (op : Int) (w : World) : Calls Tryd.prog 14 #[.int .u8 op] w fun e w' => e = .returned (.int .u8 (kindU op)) ∧ w' = w := by
  by_cases h0 : op ≤ 18
  · have HK : Hid (kindU op = 1) := by unfold kindU; rw [if_pos h0]; exact rfl
    rw [HK.out]
    go_enter Tryd.func14, Tryd.ntmps14
    go_wp2
    go_ret
    exact ⟨rfl, rfl⟩
  by_cases h1 : op ≤ 30
  · have HK : Hid (kindU op = 2) := by unfold kindU; rw [if_neg h0, if_pos h1]; exact rfl
    rw [HK.out]
    go_enter Tryd.func14, Tryd.ntmps14
    go_wp2
    go_ret
    exact ⟨rfl, rfl⟩
  by_cases h2 : op ≤ 34
  · have HK : Hid (kindU op = 3) := by unfold kindU; rw [if_neg h0, if_neg h1, if_pos h2]; exact rfl
    rw [HK.out]
    go_enter Tryd.func14, Tryd.ntmps14
    go_wp2
    go_ret
    exact ⟨rfl, rfl⟩
  by_cases h3 : op ≤ 51
  · have HK : Hid (kindU op = 4) := by unfold kindU; rw [if_neg h0, if_neg h1, if_neg h2, if_pos h3]; exact rfl
    rw [HK.out]
    go_enter Tryd.func14, Tryd.ntmps14
    go_wp2
    go_ret
    exact ⟨rfl, rfl⟩
  by_cases h4 : op ≤ 59
  · have HK : Hid (kindU op = 5) := by unfold kindU; rw [if_neg h0, if_neg h1, if_neg h2, if_neg h3, if_pos h4]; exact rfl
    rw [HK.out]
    go_enter Tryd.func14, Tryd.ntmps14
    go_wp2
    go_ret
    exact ⟨rfl, rfl⟩
  by_cases h5 : op ≤ 69
  · have HK : Hid (kindU op = 6) := by unfold kindU; rw [if_neg h0, if_neg h1, if_neg h2, if_neg h3, if_neg h4, if_pos h5]; exact rfl
    rw [HK.out]
    go_enter Tryd.func14, Tryd.ntmps14
    go_wp2
    go_ret
    exact ⟨rfl, rfl⟩
  have HK : Hid (kindU op = 0) := by unfold kindU; rw [if_neg h0, if_neg h1, if_neg h2, if_neg h3, if_neg h4, if_neg h5]; exact rfl
  rw [HK.out]
  go_enter Tryd.func14, Tryd.ntmps14
  go_wp2
  go_ret
  exact ⟨rfl, rfl⟩

def readsT : Array Value := #[.func (.func 17) #[] #[], .func (.func 18) #[] #[], .func (.func 19) #[] #[], .func (.func 20) #[] #[], .func (.func 21) #[] #[], .func (.func 22) #[] #[], .func (.func 23) #[] #[], .func (.func 24) #[] #[], .func (.func 25) #[] #[], .func (.func 26) #[] #[], .func (.func 27) #[] #[], .func (.func 28) #[] #[], .func (.func 29) #[] #[], .func (.func 30) #[] #[], .func (.func 31) #[] #[], .func (.func 32) #[] #[], .func (.func 33) #[] #[], .func (.func 34) #[] #[], .func (.func 35) #[] #[]]
def readsV : Value := .agg #[.func (.func 17) #[] #[], .func (.func 18) #[] #[], .func (.func 19) #[] #[], .func (.func 20) #[] #[], .func (.func 21) #[] #[], .func (.func 22) #[] #[], .func (.func 23) #[] #[], .func (.func 24) #[] #[], .func (.func 25) #[] #[], .func (.func 26) #[] #[], .func (.func 27) #[] #[], .func (.func 28) #[] #[], .func (.func 29) #[] #[], .func (.func 30) #[] #[], .func (.func 31) #[] #[], .func (.func 32) #[] #[], .func (.func 33) #[] #[], .func (.func 34) #[] #[], .func (.func 35) #[] #[]]
set_option maxRecDepth 100000 in
set_option maxHeartbeats 1000000 in
theorem reads_any (w : World) : Calls Tryd.prog 16 #[] w fun e w' => e = .returned readsV ∧ Ext w w' := by
  show Calls Tryd.prog 16 #[] w fun e w' => e = .returned (.agg readsT) ∧ Ext w w'
  have ho : readsT.all (·.oneCell') = true := by unfold readsT; simp [Value.oneCell']
  go_enter Tryd.func16, Tryd.ntmps16
  go_upto_region 1 with (fail)
  first | refine wp_region_lit ?_ | (refine wp_seq ?_; refine wp_region_lit ?_)
  refine wpList_build rfl 41 _ rfl (by kernel_rfl) ?_
  have hb : ((Tryd.prog.built 41 (#[(0, .func 17), (1, .func 18), (2, .func 19), (3, .func 20), (4, .func 21), (5, .func 22), (6, .func 23), (7, .func 24), (8, .func 25), (9, .func 26), (10, .func 27), (11, .func 28), (12, .func 29), (13, .func 30), (14, .func 31), (15, .func 32), (16, .func 33), (17, .func 34), (18, .func 35)].map fun (i, x) => (i, Act.eval { tmps := #[Value.pointer (some { block := w.heap.size, off := 0 }), undef], defers := [] } x)).toList).getD #[]) = readsT := by kernel_rfl
  rw [hb]
  refine wpList_store_row rfl 41 _ _ rfl w.heap.size readsT rfl rfl 41 _ (heap_alloc_last w _) (by kernel_rfl) rfl ho ?_
  rw [World.setRow_alloc_new]
  clear hb ho
  go_wp2
  have hv := run_loadVar_new (P := Tryd.prog) w 41 readsT _ _ Tryd.underlying41 (by kernel_rfl)
  refine bodyPost_ret (by simp [results, Tryd.results16, asAddr, Act.put, hv]) rfl ⟨rfl, ?_⟩
  repeat (first | exact Ext.refl _ | refine Ext.alloc ?_ _ | refine Ext.ext ?_ _ _ | refine Ext.drew ?_ | refine Ext.drewN ?_ _)
end Go.Proofs.YtigpmmjbdpnkjaaDoor

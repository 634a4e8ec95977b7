/- The document's names and kinds of layer 8 (kotatsuref08), and units as it has them. No law is claimed here. -/
import Derived.Test.YtigpmmjbdpnkjaaRU2
import Derived.Test.YtigpmmjbdpnkjaaAlu6
import Derived.Great.BuildSlice
import Derived.LoopN
namespace Go.Proofs.Ytigpmmjbdpnkjaa
open Go.RowKit

/-- the names, by their numbers -/
def nameL : List ByteArray := [{ data := #[78, 79, 80] }, { data := #[79, 82, 65] }, { data := #[65, 78, 68] }, { data := #[69, 79, 82] }, { data := #[65, 68, 67] }, { data := #[83, 66, 67] }, { data := #[67, 77, 80] }, { data := #[67, 80, 88] }, { data := #[67, 80, 89] }, { data := #[76, 68, 65] }, { data := #[76, 68, 88] }, { data := #[76, 68, 89] }, { data := #[66, 73, 84] }, { data := #[76, 65, 88] }, { data := #[65, 78, 67] }, { data := #[65, 76, 82] }, { data := #[65, 82, 82] }, { data := #[65, 88, 83] }, { data := #[76, 65, 83] }, { data := #[65, 83, 76] }, { data := #[76, 83, 82] }, { data := #[82, 79, 76] }, { data := #[82, 79, 82] }, { data := #[73, 78, 67] }, { data := #[68, 69, 67] }, { data := #[83, 76, 79] }, { data := #[82, 76, 65] }, { data := #[83, 82, 69] }, { data := #[82, 82, 65] }, { data := #[68, 67, 80] }, { data := #[73, 83, 67] }, { data := #[83, 84, 65] }, { data := #[83, 84, 88] }, { data := #[83, 84, 89] }, { data := #[83, 65, 88] }, { data := #[84, 65, 88] }, { data := #[84, 65, 89] }, { data := #[84, 88, 65] }, { data := #[84, 89, 65] }, { data := #[84, 83, 88] }, { data := #[84, 88, 83] }, { data := #[73, 78, 88] }, { data := #[73, 78, 89] }, { data := #[68, 69, 88] }, { data := #[68, 69, 89] }, { data := #[67, 76, 67] }, { data := #[83, 69, 67] }, { data := #[67, 76, 73] }, { data := #[83, 69, 73] }, { data := #[67, 76, 86] }, { data := #[67, 76, 68] }, { data := #[83, 69, 68] }, { data := #[66, 80, 76] }, { data := #[66, 77, 73] }, { data := #[66, 86, 67] }, { data := #[66, 86, 83] }, { data := #[66, 67, 67] }, { data := #[66, 67, 83] }, { data := #[66, 78, 69] }, { data := #[66, 69, 81] }, { data := #[74, 77, 80] }, { data := #[74, 83, 82] }, { data := #[82, 84, 83] }, { data := #[82, 84, 73] }, { data := #[66, 82, 75] }, { data := #[80, 72, 65] }, { data := #[80, 72, 80] }, { data := #[80, 76, 65] }, { data := #[80, 76, 80] }, { data := #[74, 65, 77] }]
def nameT : Array Value := #[.string { data := #[78, 79, 80] }, .string { data := #[79, 82, 65] }, .string { data := #[65, 78, 68] }, .string { data := #[69, 79, 82] }, .string { data := #[65, 68, 67] }, .string { data := #[83, 66, 67] }, .string { data := #[67, 77, 80] }, .string { data := #[67, 80, 88] }, .string { data := #[67, 80, 89] }, .string { data := #[76, 68, 65] }, .string { data := #[76, 68, 88] }, .string { data := #[76, 68, 89] }, .string { data := #[66, 73, 84] }, .string { data := #[76, 65, 88] }, .string { data := #[65, 78, 67] }, .string { data := #[65, 76, 82] }, .string { data := #[65, 82, 82] }, .string { data := #[65, 88, 83] }, .string { data := #[76, 65, 83] }, .string { data := #[65, 83, 76] }, .string { data := #[76, 83, 82] }, .string { data := #[82, 79, 76] }, .string { data := #[82, 79, 82] }, .string { data := #[73, 78, 67] }, .string { data := #[68, 69, 67] }, .string { data := #[83, 76, 79] }, .string { data := #[82, 76, 65] }, .string { data := #[83, 82, 69] }, .string { data := #[82, 82, 65] }, .string { data := #[68, 67, 80] }, .string { data := #[73, 83, 67] }, .string { data := #[83, 84, 65] }, .string { data := #[83, 84, 88] }, .string { data := #[83, 84, 89] }, .string { data := #[83, 65, 88] }, .string { data := #[84, 65, 88] }, .string { data := #[84, 65, 89] }, .string { data := #[84, 88, 65] }, .string { data := #[84, 89, 65] }, .string { data := #[84, 83, 88] }, .string { data := #[84, 88, 83] }, .string { data := #[73, 78, 88] }, .string { data := #[73, 78, 89] }, .string { data := #[68, 69, 88] }, .string { data := #[68, 69, 89] }, .string { data := #[67, 76, 67] }, .string { data := #[83, 69, 67] }, .string { data := #[67, 76, 73] }, .string { data := #[83, 69, 73] }, .string { data := #[67, 76, 86] }, .string { data := #[67, 76, 68] }, .string { data := #[83, 69, 68] }, .string { data := #[66, 80, 76] }, .string { data := #[66, 77, 73] }, .string { data := #[66, 86, 67] }, .string { data := #[66, 86, 83] }, .string { data := #[66, 67, 67] }, .string { data := #[66, 67, 83] }, .string { data := #[66, 78, 69] }, .string { data := #[66, 69, 81] }, .string { data := #[74, 77, 80] }, .string { data := #[74, 83, 82] }, .string { data := #[82, 84, 83] }, .string { data := #[82, 84, 73] }, .string { data := #[66, 82, 75] }, .string { data := #[80, 72, 65] }, .string { data := #[80, 72, 80] }, .string { data := #[80, 76, 65] }, .string { data := #[80, 76, 80] }, .string { data := #[74, 65, 77] }]
theorem strInfo : ∃ ie, Try.prog.info? 9 = some ie ∧ ie.zero = some (.string { data := #[] }) ∧ ie.size = 1 := by
  have h : (Try.prog.info? 9).map (fun i => (i.zero, i.size)) = some (some (.string { data := #[] }), 1) := by kernel_rfl
  cases hq : Try.prog.info? 9 with
  | none => rw [hq] at h; cases h
  | some ie =>
    rw [hq] at h
    simp at h
    exact ⟨ie, rfl, h.1, h.2⟩

set_option maxRecDepth 100000 in
set_option maxHeartbeats 1000000 in
theorem rnames_any (w : World) : Calls Try.prog 27 #[] w fun e w' => e = .returned (.slice (some ⟨w.heap.size, 0, none⟩) 70 70) ∧ w' = w.alloc (.cells nameT 9) := by
  obtain ⟨ie, h1, h2, h3⟩ := strInfo
  go_enter Try.func27, Try.ntmps27
  go_upto_region 1 with (fail)
  first | refine wp_region_lit ?_ | (refine wp_seq ?_; refine wp_region_lit ?_)
  refine wpList_buildSlice rfl 47 9 70 _ rfl nameT ie (.string { data := #[] }) Try.underlying47 h1 h2 (by rw [h3]; decide) (by rw [h3]; decide) (by rw [h3]; kernel_rfl) ?_
  clear h1 h2 h3
  go_wp2
  go_ret
  exact ⟨rfl, rfl⟩

set_option maxRecDepth 100000 in
set_option maxHeartbeats 1000000 in
theorem rname_any (n : Nat) (z : ByteArray) (hn : n < 70) (hz : nameT[n]? = some (.string z)) (w : World) :
    Calls Try.prog 17 #[.int .i64 (n : Int)] w fun e w' => e = .returned (.string z) ∧ Ext w w' := by
  have F0 := rnames_any
  have t1 : ¬ ((n : Int) < 0) := by omega
  have t2 : ¬ ((70 : Int) ≤ (n : Int)) := by omega
  have t3 : (n : Int) < 70 := by omega
  go_enter Try.func17, Try.ntmps17
  go_wp2_with (go_at_call 27; refine (F0 _).mono ?_; rintro e w' ⟨rfl, rfl⟩)
  go_ret
  exact ⟨rfl, (Ext.refl _).alloc _⟩

set_option maxRecDepth 100000 in
set_option maxHeartbeats 1000000 in
theorem rname_none (n : Int) (hn : 70 ≤ n) (w : World) :
    Calls Try.prog 17 #[.int .i64 n] w fun e w' => e = .returned (.string { data := #[] }) ∧ Ext w w' := by
  have F0 := rnames_any
  have t1 : ¬ (n < 0) := by omega
  go_enter Try.func17, Try.ntmps17
  go_wp2_with (go_at_call 27; refine (F0 _).mono ?_; rintro e w' ⟨rfl, rfl⟩)
  go_ret
  exact ⟨rfl, (Ext.refl _).alloc _⟩

set_option maxRecDepth 100000 in
set_option maxHeartbeats 1000000 in
theorem own_any (a x y s p : Int) (hu : Ok ⟨a, x, y, s, p⟩) (w : World) :
    Calls Try.prog 14 #[uv a x y s p] w fun e w' => e = .returned (rv a x y s p) ∧ Ext w w' := by
  obtain ⟨⟨ha, ha2⟩, ⟨hx, hx2⟩, ⟨hy, hy2⟩, ⟨hs, hs2⟩, ⟨hp, hp2⟩⟩ := hu
  simp only at ha ha2 hx hx2 hy hy2 hs hs2 hp hp2
  unfold uv rv
  go_enter Try.func14, Try.ntmps14
  go_wp2
  refine bodyPost_ret (by simp [results, Try.results14, go_sem]) rfl ⟨rfl, ?_⟩
  exact ((Ext.refl _).alloc _).alloc _

theorem rkinds_any (w : World) : Calls Try.prog 28 #[] w fun e w' => e = .returned (.slice (some ⟨w.heap.size, 0, none⟩) 6 6) ∧ w' = w.alloc (.cells #[.int .i64 19, .int .i64 12, .int .i64 4, .int .i64 17, .int .i64 8, .int .i64 10] 3) := by
  go_enter Try.func28, Try.ntmps28
  go_wp2
  go_ret
  exact ⟨rfl, rfl⟩
set_option maxRecDepth 100000 in
set_option maxHeartbeats 2000000 in
theorem rkind_any (op : Int) (h0 : 0 ≤ op) (hb : op < 256) (w : World) : Calls Try.prog 15 #[.int .i64 op] w fun e w' => e = .returned (.int .i64 (kindU op)) ∧ Ext w w' := by
  have F0 := rkinds_any
  by_cases h1 : op ≤ 18
  · have HK : Hid (kindU op = 1) := by unfold kindU; rw [if_pos h1]; exact rfl
    have c0 : op < 19 := by omega
    rw [HK.out]
    go_enter Try.func15, Try.ntmps15
    go_wp2_with (go_at_call 28; refine (F0 _).mono ?_; rintro e w' ⟨rfl, rfl⟩)
    refine wp_loop_rounds 7 ?_
    rw [rounds_succ]
    go_wp2
    go_ret
    exact ⟨rfl, (Ext.refl _).alloc _⟩
  by_cases h2 : op ≤ 30
  · have HK : Hid (kindU op = 2) := by unfold kindU; rw [if_neg h1, if_pos h2]; exact rfl
    have c0 : ¬ (op < 19) := by omega
    have c1 : op - 19 < 12 := by omega
    rw [HK.out]
    go_enter Try.func15, Try.ntmps15
    go_wp2_with (go_at_call 28; refine (F0 _).mono ?_; rintro e w' ⟨rfl, rfl⟩)
    refine wp_loop_rounds 7 ?_
    rw [rounds_succ]
    go_wp2
    rw [rounds_succ]
    go_wp2
    go_ret
    exact ⟨rfl, (Ext.refl _).alloc _⟩
  by_cases h3 : op ≤ 34
  · have HK : Hid (kindU op = 3) := by unfold kindU; rw [if_neg h1, if_neg h2, if_pos h3]; exact rfl
    have c0 : ¬ (op < 19) := by omega
    have c1 : ¬ (op - 19 < 12) := by omega
    have c2 : op - 19 - 12 < 4 := by omega
    rw [HK.out]
    go_enter Try.func15, Try.ntmps15
    go_wp2_with (go_at_call 28; refine (F0 _).mono ?_; rintro e w' ⟨rfl, rfl⟩)
    refine wp_loop_rounds 7 ?_
    rw [rounds_succ]
    go_wp2
    rw [rounds_succ]
    go_wp2
    rw [rounds_succ]
    go_wp2
    go_ret
    exact ⟨rfl, (Ext.refl _).alloc _⟩
  by_cases h4 : op ≤ 51
  · have HK : Hid (kindU op = 4) := by unfold kindU; rw [if_neg h1, if_neg h2, if_neg h3, if_pos h4]; exact rfl
    have c0 : ¬ (op < 19) := by omega
    have c1 : ¬ (op - 19 < 12) := by omega
    have c2 : ¬ (op - 19 - 12 < 4) := by omega
    have c3 : op - 19 - 12 - 4 < 17 := by omega
    rw [HK.out]
    go_enter Try.func15, Try.ntmps15
    go_wp2_with (go_at_call 28; refine (F0 _).mono ?_; rintro e w' ⟨rfl, rfl⟩)
    refine wp_loop_rounds 7 ?_
    rw [rounds_succ]
    go_wp2
    rw [rounds_succ]
    go_wp2
    rw [rounds_succ]
    go_wp2
    rw [rounds_succ]
    go_wp2
    go_ret
    exact ⟨rfl, (Ext.refl _).alloc _⟩
  by_cases h5 : op ≤ 59
  · have HK : Hid (kindU op = 5) := by unfold kindU; rw [if_neg h1, if_neg h2, if_neg h3, if_neg h4, if_pos h5]; exact rfl
    have c0 : ¬ (op < 19) := by omega
    have c1 : ¬ (op - 19 < 12) := by omega
    have c2 : ¬ (op - 19 - 12 < 4) := by omega
    have c3 : ¬ (op - 19 - 12 - 4 < 17) := by omega
    have c4 : op - 19 - 12 - 4 - 17 < 8 := by omega
    rw [HK.out]
    go_enter Try.func15, Try.ntmps15
    go_wp2_with (go_at_call 28; refine (F0 _).mono ?_; rintro e w' ⟨rfl, rfl⟩)
    refine wp_loop_rounds 7 ?_
    rw [rounds_succ]
    go_wp2
    rw [rounds_succ]
    go_wp2
    rw [rounds_succ]
    go_wp2
    rw [rounds_succ]
    go_wp2
    rw [rounds_succ]
    go_wp2
    go_ret
    exact ⟨rfl, (Ext.refl _).alloc _⟩
  by_cases h6 : op ≤ 69
  · have HK : Hid (kindU op = 6) := by unfold kindU; rw [if_neg h1, if_neg h2, if_neg h3, if_neg h4, if_neg h5, if_pos h6]; exact rfl
    have c0 : ¬ (op < 19) := by omega
    have c1 : ¬ (op - 19 < 12) := by omega
    have c2 : ¬ (op - 19 - 12 < 4) := by omega
    have c3 : ¬ (op - 19 - 12 - 4 < 17) := by omega
    have c4 : ¬ (op - 19 - 12 - 4 - 17 < 8) := by omega
    have c5 : op - 19 - 12 - 4 - 17 - 8 < 10 := by omega
    rw [HK.out]
    go_enter Try.func15, Try.ntmps15
    go_wp2_with (go_at_call 28; refine (F0 _).mono ?_; rintro e w' ⟨rfl, rfl⟩)
    refine wp_loop_rounds 7 ?_
    rw [rounds_succ]
    go_wp2
    rw [rounds_succ]
    go_wp2
    rw [rounds_succ]
    go_wp2
    rw [rounds_succ]
    go_wp2
    rw [rounds_succ]
    go_wp2
    rw [rounds_succ]
    go_wp2
    go_ret
    exact ⟨rfl, (Ext.refl _).alloc _⟩
  have HK : Hid (kindU op = 0) := by unfold kindU; rw [if_neg h1, if_neg h2, if_neg h3, if_neg h4, if_neg h5, if_neg h6]; exact rfl
  have c0 : ¬ (op < 19) := by omega
  have c1 : ¬ (op - 19 < 12) := by omega
  have c2 : ¬ (op - 19 - 12 < 4) := by omega
  have c3 : ¬ (op - 19 - 12 - 4 < 17) := by omega
  have c4 : ¬ (op - 19 - 12 - 4 - 17 < 8) := by omega
  have c5 : ¬ (op - 19 - 12 - 4 - 17 - 8 < 10) := by omega
  rw [HK.out]
  go_enter Try.func15, Try.ntmps15
  go_wp2_with (go_at_call 28; refine (F0 _).mono ?_; rintro e w' ⟨rfl, rfl⟩)
  refine wp_loop_rounds 7 ?_
  rw [rounds_succ]
  go_wp2
  rw [rounds_succ]
  go_wp2
  rw [rounds_succ]
  go_wp2
  rw [rounds_succ]
  go_wp2
  rw [rounds_succ]
  go_wp2
  rw [rounds_succ]
  go_wp2
  rw [rounds_succ]
  go_wp2
  go_ret
  exact ⟨rfl, (Ext.refl _).alloc _⟩

end Go.Proofs.Ytigpmmjbdpnkjaa

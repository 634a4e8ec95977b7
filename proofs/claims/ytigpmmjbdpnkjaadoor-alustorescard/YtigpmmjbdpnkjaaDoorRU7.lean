/- The document's names and kinds of layer 8 (kotatsuref08), and units as it has them. No law is claimed here. -/
import Derived.Test.YtigpmmjbdpnkjaaDoorRU2
import Derived.Test.YtigpmmjbdpnkjaaDoorAlu6
import Derived.Great.BuildSlice
import Derived.LoopN
namespace Go.Proofs.YtigpmmjbdpnkjaaDoor
open Go.RowKit

/-- the names, by their numbers -/
def nameL : List ByteArray := [{ data := #[78, 79, 80] }, { data := #[79, 82, 65] }, { data := #[65, 78, 68] }, { data := #[69, 79, 82] }, { data := #[65, 68, 67] }, { data := #[83, 66, 67] }, { data := #[67, 77, 80] }, { data := #[67, 80, 88] }, { data := #[67, 80, 89] }, { data := #[76, 68, 65] }, { data := #[76, 68, 88] }, { data := #[76, 68, 89] }, { data := #[66, 73, 84] }, { data := #[76, 65, 88] }, { data := #[65, 78, 67] }, { data := #[65, 76, 82] }, { data := #[65, 82, 82] }, { data := #[65, 88, 83] }, { data := #[76, 65, 83] }, { data := #[65, 83, 76] }, { data := #[76, 83, 82] }, { data := #[82, 79, 76] }, { data := #[82, 79, 82] }, { data := #[73, 78, 67] }, { data := #[68, 69, 67] }, { data := #[83, 76, 79] }, { data := #[82, 76, 65] }, { data := #[83, 82, 69] }, { data := #[82, 82, 65] }, { data := #[68, 67, 80] }, { data := #[73, 83, 67] }, { data := #[83, 84, 65] }, { data := #[83, 84, 88] }, { data := #[83, 84, 89] }, { data := #[83, 65, 88] }, { data := #[84, 65, 88] }, { data := #[84, 65, 89] }, { data := #[84, 88, 65] }, { data := #[84, 89, 65] }, { data := #[84, 83, 88] }, { data := #[84, 88, 83] }, { data := #[73, 78, 88] }, { data := #[73, 78, 89] }, { data := #[68, 69, 88] }, { data := #[68, 69, 89] }, { data := #[67, 76, 67] }, { data := #[83, 69, 67] }, { data := #[67, 76, 73] }, { data := #[83, 69, 73] }, { data := #[67, 76, 86] }, { data := #[67, 76, 68] }, { data := #[83, 69, 68] }, { data := #[66, 80, 76] }, { data := #[66, 77, 73] }, { data := #[66, 86, 67] }, { data := #[66, 86, 83] }, { data := #[66, 67, 67] }, { data := #[66, 67, 83] }, { data := #[66, 78, 69] }, { data := #[66, 69, 81] }, { data := #[74, 77, 80] }, { data := #[74, 83, 82] }, { data := #[82, 84, 83] }, { data := #[82, 84, 73] }, { data := #[66, 82, 75] }, { data := #[80, 72, 65] }, { data := #[80, 72, 80] }, { data := #[80, 76, 65] }, { data := #[80, 76, 80] }, { data := #[74, 65, 77] }]
def nameT : Array Value := #[.string { data := #[78, 79, 80] }, .string { data := #[79, 82, 65] }, .string { data := #[65, 78, 68] }, .string { data := #[69, 79, 82] }, .string { data := #[65, 68, 67] }, .string { data := #[83, 66, 67] }, .string { data := #[67, 77, 80] }, .string { data := #[67, 80, 88] }, .string { data := #[67, 80, 89] }, .string { data := #[76, 68, 65] }, .string { data := #[76, 68, 88] }, .string { data := #[76, 68, 89] }, .string { data := #[66, 73, 84] }, .string { data := #[76, 65, 88] }, .string { data := #[65, 78, 67] }, .string { data := #[65, 76, 82] }, .string { data := #[65, 82, 82] }, .string { data := #[65, 88, 83] }, .string { data := #[76, 65, 83] }, .string { data := #[65, 83, 76] }, .string { data := #[76, 83, 82] }, .string { data := #[82, 79, 76] }, .string { data := #[82, 79, 82] }, .string { data := #[73, 78, 67] }, .string { data := #[68, 69, 67] }, .string { data := #[83, 76, 79] }, .string { data := #[82, 76, 65] }, .string { data := #[83, 82, 69] }, .string { data := #[82, 82, 65] }, .string { data := #[68, 67, 80] }, .string { data := #[73, 83, 67] }, .string { data := #[83, 84, 65] }, .string { data := #[83, 84, 88] }, .string { data := #[83, 84, 89] }, .string { data := #[83, 65, 88] }, .string { data := #[84, 65, 88] }, .string { data := #[84, 65, 89] }, .string { data := #[84, 88, 65] }, .string { data := #[84, 89, 65] }, .string { data := #[84, 83, 88] }, .string { data := #[84, 88, 83] }, .string { data := #[73, 78, 88] }, .string { data := #[73, 78, 89] }, .string { data := #[68, 69, 88] }, .string { data := #[68, 69, 89] }, .string { data := #[67, 76, 67] }, .string { data := #[83, 69, 67] }, .string { data := #[67, 76, 73] }, .string { data := #[83, 69, 73] }, .string { data := #[67, 76, 86] }, .string { data := #[67, 76, 68] }, .string { data := #[83, 69, 68] }, .string { data := #[66, 80, 76] }, .string { data := #[66, 77, 73] }, .string { data := #[66, 86, 67] }, .string { data := #[66, 86, 83] }, .string { data := #[66, 67, 67] }, .string { data := #[66, 67, 83] }, .string { data := #[66, 78, 69] }, .string { data := #[66, 69, 81] }, .string { data := #[74, 77, 80] }, .string { data := #[74, 83, 82] }, .string { data := #[82, 84, 83] }, .string { data := #[82, 84, 73] }, .string { data := #[66, 82, 75] }, .string { data := #[80, 72, 65] }, .string { data := #[80, 72, 80] }, .string { data := #[80, 76, 65] }, .string { data := #[80, 76, 80] }, .string { data := #[74, 65, 77] }]
theorem strInfo : ∃ ie, Tryd.prog.info? 9 = some ie ∧ ie.zero = some (.string { data := #[] }) ∧ ie.size = 1 := by
  have h : (Tryd.prog.info? 9).map (fun i => (i.zero, i.size)) = some (some (.string { data := #[] }), 1) := by kernel_rfl
  cases hq : Tryd.prog.info? 9 with
  | none => rw [hq] at h; cases h
  | some ie =>
    rw [hq] at h
    simp at h
    exact ⟨ie, rfl, h.1, h.2⟩

set_option maxRecDepth 100000 in
set_option maxHeartbeats 1000000 in
theorem rnames_any (w : World) : Calls Tryd.prog 12 #[] w fun e w' => e = .returned (.slice (some ⟨w.heap.size, 0, none⟩) 70 70) ∧ w' = w.alloc (.cells nameT 9) := by
  obtain ⟨ie, h1, h2, h3⟩ := strInfo
  go_enter Tryd.func12, Tryd.ntmps12
  go_upto_region 1 with (fail)
  first | refine wp_region_lit ?_ | (refine wp_seq ?_; refine wp_region_lit ?_)
  refine wpList_buildSlice rfl 35 9 70 _ rfl nameT ie (.string { data := #[] }) Tryd.underlying35 h1 h2 (by rw [h3]; decide) (by rw [h3]; decide) (by rw [h3]; kernel_rfl) ?_
  clear h1 h2 h3
  go_wp2
  go_ret
  exact ⟨rfl, rfl⟩

set_option maxRecDepth 100000 in
set_option maxHeartbeats 1000000 in
theorem rname_any (n : Nat) (z : ByteArray) (hn : n < 70) (hz : nameT[n]? = some (.string z)) (w : World) :
    Calls Tryd.prog 5 #[.int .i64 (n : Int)] w fun e w' => e = .returned (.string z) ∧ Ext w w' := by
  have F0 := rnames_any
  have t1 : ¬ ((n : Int) < 0) := by omega
  have t2 : ¬ ((70 : Int) ≤ (n : Int)) := by omega
  have t3 : (n : Int) < 70 := by omega
  go_enter Tryd.func5, Tryd.ntmps5
  go_wp2_with (go_at_call 12; refine (F0 _).mono ?_; rintro e w' ⟨rfl, rfl⟩)
  go_ret
  exact ⟨rfl, (Ext.refl _).alloc _⟩

set_option maxRecDepth 100000 in
set_option maxHeartbeats 1000000 in
theorem rname_none (n : Int) (hn : 70 ≤ n) (w : World) :
    Calls Tryd.prog 5 #[.int .i64 n] w fun e w' => e = .returned (.string { data := #[] }) ∧ Ext w w' := by
  have F0 := rnames_any
  have t1 : ¬ (n < 0) := by omega
  go_enter Tryd.func5, Tryd.ntmps5
  go_wp2_with (go_at_call 12; refine (F0 _).mono ?_; rintro e w' ⟨rfl, rfl⟩)
  go_ret
  exact ⟨rfl, (Ext.refl _).alloc _⟩

set_option maxRecDepth 100000 in
set_option maxHeartbeats 1000000 in
theorem own_any (a x y s p : Int) (hu : Ok ⟨a, x, y, s, p⟩) (w : World) :
    Calls Tryd.prog 8 #[uv a x y s p] w fun e w' => e = .returned (rv a x y s p) ∧ Ext w w' := by
  obtain ⟨⟨ha, ha2⟩, ⟨hx, hx2⟩, ⟨hy, hy2⟩, ⟨hs, hs2⟩, ⟨hp, hp2⟩⟩ := hu
  simp only at ha ha2 hx hx2 hy hy2 hs hs2 hp hp2
  unfold uv rv
  go_enter Tryd.func8, Tryd.ntmps8
  go_wp2
  refine bodyPost_ret (by simp [results, Tryd.results8, go_sem]) rfl ⟨rfl, ?_⟩
  exact ((Ext.refl _).alloc _).alloc _

end Go.Proofs.YtigpmmjbdpnkjaaDoor

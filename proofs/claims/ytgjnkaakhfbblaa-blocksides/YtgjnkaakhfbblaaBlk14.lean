/- The walk of BlockWants. -/
import Derived.Test.YtgjnkaakhfbblaaBlk12
import Derived.Test.YtgjnkaakhfbblaaBlk13
import Derived.Test.YtgjnkaakhfbblaaK5
import Derived.Deep.DeepCutAuto
namespace Go.Proofs.Ytgjnkaakhfbblaa
open Go.RowKit

theorem made_facts (sign : List UInt8) (side : UInt8) (fs : List Fm) (less : Nat) : fitsB (madeN sign side fs less) (madeN sign side fs less).length = true ∧ (∀ x ∈ madeN sign side fs less, x.data.length ≤ 100000) ∧ (madeN sign side fs less).length ≤ 18 := by
  have h1 := fits_diskN (sign.take 20) side _ (fmBs_file (fs.take 8))
  have h2 := diskN_len (sign.take 20) side _ (fmBs_file (fs.take 8))
  have h3 := disk_data (sign.take 20) side _ (fmBs_data (fs.take 8))
  rw [List.length_map, List.length_take] at h2
  unfold madeN
  generalize diskN (sign.take 20) side ((fs.take 8).map fmB) = L at *
  refine ⟨?_, fun x hx => h3 x (List.mem_of_mem_take hx), by rw [List.length_take]; omega⟩
  rw [fitsB_take _ _ _ (by rw [List.length_take]; exact Nat.min_le_left _ _)]
  exact fitsB_mono h1 (by rw [List.length_take]; exact Nat.min_le_right _ _)

theorem rgt_snoc (l : List Bm) (b : Bm) (h : fitsB l l.length = true) (hl : l.length < 512) : rgtB (l ++ [b]) = (decide (b.kind.toNat = kindN l.length) && decide (b.data.length = sizeN l.length (ahead l l.length))) := by
  have hok : okB (l ++ [b]) l.length = (decide (b.kind.toNat = kindN l.length) && decide (b.data.length = sizeN l.length (ahead l l.length))) := by
    unfold okB
    have hg : (l ++ [b]).getD l.length blkD = b := by rw [List.getD_eq_getElem?_getD, List.getElem?_append_right (Nat.le_refl _)]; simp
    rw [hg]
    rcases Nat.eq_zero_or_pos l.length with h0 | h0
    · rw [h0]; rfl
    · rw [ahead_app l b h0]
  rw [← hok]
  unfold rgtB
  rw [List.length_append, decide_eq_true (by simp; omega), Bool.true_and, Bool.eq_iff_iff, fitsB_iff]
  constructor
  · intro hh; exact hh l.length (by simp)
  · intro hh i hi
    simp at hi
    rcases Nat.lt_or_ge i l.length with h1 | h1
    · rw [okB_app l b i h1]; exact fitsB_iff.1 h i h1
    · have : i = l.length := by omega
      subst this; exact hh

set_option maxRecDepth 100000 in
set_option maxHeartbeats 8000000 in
theorem blockWants_walk (A : Option Addr) (n c : Nat) (fs : List Fm) (z1 z2 z3 : Int) (w : World) (hr : RdX shF w (· < w.heap.size) A n c fs) (hm : c ≤ maxLen) (hok : ∀ f ∈ fs, okF f) (a0 : 0 ≤ z1) (a1 : z1 < 256) (b0 : 0 ≤ z2) (b1 : z2 < 256) (c0 : 0 ≤ z3) (c1 : z3 < 256) :
    Calls Try.prog 5 #[.slice A n c, .int .u8 z1, .int .u8 z2, .int .u8 z3] w fun e w' => e = .returned (.bool true) ∧ Below w.heap.size w w' := by
  have hn' : n ≤ 9223372036854775807 := Nat.le_trans hr.cap hm
  obtain ⟨i0, hi, hz0, hz1, hz2⟩ := info_parts Try.infoBt
  have HOK : Hid (∀ f ∈ fs, okF f) := hok
  obtain ⟨x2, rfl⟩ : ∃ x2 : UInt8, z2 = (x2.toNat : Int) := ⟨UInt8.ofNat z2.toNat, by rw [UInt8.toNat_ofNat']; omega⟩
  obtain ⟨k3, rfl⟩ : ∃ k3 : Nat, z3 = (k3 : Int) := ⟨z3.toNat, by omega⟩
  clear hok
  go_enter Try.func5, Try.ntmps5
  go_wp2_with fail
  refine (awake5_any w).mono ?_
  rintro e w1 ⟨rfl, hb1⟩
  have hB1 : BlE w w1 := hb1
  have r1 := hr.keep (Kp.below hb1 (fun b h => h)) (fun b h => Nat.lt_of_lt_of_le h hb1.size)
  have hM := made_any ⟨#[97]⟩ 0 A n c _ fs z1 w1 r1 (fun b h => h) hn' HOK (by decide) a0 a1
  rw [show ((0 : UInt8).toNat : Int) = 0 from rfl] at hM
  obtain ⟨i1, i2, i3⟩ := made_facts (strN ⟨#[97]⟩) 0 fs z1.toNat
  generalize madeN (strN ⟨#[97]⟩) 0 fs z1.toNat = L at *
  have I2 : Hid (∀ x ∈ L, x.data.length ≤ 100000) := i2
  have I2' : Hid (∀ x ∈ L, x.data.length ≤ 9223372036854775807) := fun x hx => by have := i2 x hx; omega
  have I1 := Lib.hid i1
  have e1 : rgtB L = true := by unfold rgtB; rw [i1, decide_eq_true (by omega)]; rfl
  have e2 : wantN L = (kindN L.length, sizeN L.length (ahead L L.length)) := by unfold wantN; rw [if_pos ⟨by omega, e1⟩]
  clear hb1 i1 i2 hr
  go_wp2_with fail
  refine hM.mono ?_
  rintro e w2 ⟨A2, n2, c2, rfl, r2, hb2⟩
  have hB2 := BlE.below hB1 hb2
  have hn2 : n2 ≤ 18 := by rw [← r2.len]; exact i3
  have HLn := Lib.hid r2.len
  have hW := want_any A2 n2 c2 _ L w2 r2 (fun b h => h) (by omega) I2'
  rw [e2] at hW
  have hq := kindN_lt L.length
  have hs := sizeN_lt L.length (ahead L L.length)
  clear hM r1 hB1 e2 e1
  generalize hk : kindN L.length = q at *
  generalize hz : sizeN L.length (ahead L L.length) = s at *
  have HK := Lib.hid hk
  have HZ := Lib.hid hz
  clear hk hz i3
  go_wp2_with fail
  refine hW.mono ?_
  rintro e w3 ⟨rfl, hb3⟩
  unfold ksV
  have r3 := r2.keep (Kp.below hb3 (fun b h => h)) (fun b h => Nat.lt_of_lt_of_le h hb3.size)
  have hB3 := BlE.below hB2 hb3
  obtain ⟨xq, hxq⟩ : ∃ xq : UInt8, (q : Int) = (xq.toNat : Int) := ⟨UInt8.ofNat q, by rw [UInt8.toNat_ofNat']; omega⟩
  clear hb2 hb3 hB2 r2 hW
  rw [hxq]
  have hmk := Try.mkN .i64 s (by omega)
  obtain ⟨c7, rs7, A7, w7, _⟩ : ∃ (c7 : Nat) (rs7 : List RawB) (A7 : Option Addr) (w7 : World), True := ⟨0, [], none, w, trivial⟩
  go_upto_region 5 with fail
  go_cut [12] (fun v wx => ∃ (A6 : Option Addr) (c6 : Nat), v = .slice A6 (n2 + 1) c6 ∧ RdX shB wx (· < wx.heap.size) A6 (n2 + 1) c6 (L ++ [⟨xq, List.replicate s 0⟩]) ∧ RdX shB wx (· < wx.heap.size) A2 n2 c2 L ∧ BlE w wx)
  case first =>
    go_region_held3 (fun _ => True) (exact trivial) (first
      | ((refine step_app0 shB _ rfl (.tmp 24) (.tmp 25) 26 rfl w3 49 i0 _ 32 Try.underlying26 hi hz0 hz1 hz2 rfl A2 n2 c2 L r3 _ _ rfl rfl ?_ ?_ ?_ ?_ ?_); (focus (simp only [maxLen]; omega)); (focus omega); (focus ((repeat (with_reducible first | (refine OE.zero ?_ ?_; (focus (simp; done)); (focus ((repeat (with_reducible first | exact BlE.refl _ | refine BlE.drew ?_ | refine BlE.alloc ?_)); done))) | refine OE.drew ?_ | refine OE.alloc ?_)); done)); (focus ((repeat (with_reducible first | exact BlE.refl _ | refine BlE.drew ?_ | refine BlE.alloc ?_)); done)); (intro A7 c7 w7 rs7 O7 B7 hP7 hH7))
      | ((refine step_pushB _ rfl (.tmp 26) (.tmp 31) 26 rfl w3 49 i0 _ 32 Try.underlying26 hi hz0 hz1 hz2 rfl A7 n2 c7 rs7 L xq (some ⟨w7.heap.size, 0, none⟩) s s (List.replicate s 0) rfl _ rfl ?_ ?_ ?_ ?_ ?_ ?_ ?_ ?_); (focus (simp only [maxLen]; omega)); (focus omega); (focus ((repeat (with_reducible first | exact O7 | refine OE.drew ?_ | refine OE.alloc ?_)); done)); (focus ((repeat (with_reducible first | (refine Has.made ?_ rfl; (simp; done)) | refine Has.drew ?_ | refine Has.alloc ?_ | (refine hH7 _ _ _ ?_ ?_; rotate_left; (focus (first | omega | (simp; omega)))))); done)); (focus ((repeat (with_reducible first | (refine Has.made ?_ rfl; (simp; done)) | refine Has.drew ?_ | refine Has.alloc ?_ | (refine hH7 _ _ _ ?_ ?_; rotate_left; (focus (first | omega | (simp; omega)))))); done)); (focus ((repeat (with_reducible first | exact B7 | refine BlE.drew ?_ | refine BlE.alloc ?_)); done)); (focus ((repeat (with_reducible first | (refine PE.zeros (T := shB) (base := w3.heap.size) (e0 := 49) (n := n2) (c := c7) (rs := rs7) (xs := L) ?_ ?_; rotate_left; (focus (simp; done)); (focus ((repeat (with_reducible first | exact O7 | refine OE.drew ?_ | refine OE.alloc ?_)); done))) | (refine PE.zeros (T := shB) (base := w3.heap.size) (e0 := 49) (n := 0) (c := 0) (rs := []) (xs := []) ?_ ?_; rotate_left; (focus (simp; done)); (focus ((repeat (with_reducible first | (refine OE.zero ?_ ?_; (focus (simp; done)); (focus ((repeat (with_reducible first | exact BlE.refl _ | refine BlE.drew ?_ | refine BlE.alloc ?_)); done))) | refine OE.drew ?_ | refine OE.alloc ?_)); done))) | (refine PE.zeros0 ?_; (simp; done)) | (refine hP7 _ _ _ _ _ ?_) | (refine PE.newRow ?_ ?_; rotate_left; (focus (simp; done))) | refine PE.drew ?_ | refine PE.alloc ?_)); done)); intro g8 c8 w8 O8 hg8 hat8)
      | ((refine step_pushB _ rfl (.tmp 26) (.tmp 31) 26 rfl w3 49 i0 _ 32 Try.underlying26 hi hz0 hz1 hz2 rfl A7 n2 c7 rs7 L xq (some ⟨w3.heap.size + 1, 0, none⟩) s s (List.replicate s 0) rfl _ rfl ?_ ?_ ?_ ?_ ?_ ?_ ?_ ?_); (focus (simp only [maxLen]; omega)); (focus omega); (focus ((repeat (with_reducible first | exact O7 | refine OE.drew ?_ | refine OE.alloc ?_)); done)); (focus ((repeat (with_reducible first | (refine Has.made ?_ rfl; (simp; done)) | refine Has.drew ?_ | refine Has.alloc ?_ | (refine hH7 _ _ _ ?_ ?_; rotate_left; (focus (first | omega | (simp; omega)))))); done)); (focus ((repeat (with_reducible first | (refine Has.made ?_ rfl; (simp; done)) | refine Has.drew ?_ | refine Has.alloc ?_ | (refine hH7 _ _ _ ?_ ?_; rotate_left; (focus (first | omega | (simp; omega)))))); done)); (focus ((repeat (with_reducible first | exact B7 | refine BlE.drew ?_ | refine BlE.alloc ?_)); done)); (focus ((repeat (with_reducible first | (refine PE.zeros (T := shB) (base := w3.heap.size) (e0 := 49) (n := n2) (c := c7) (rs := rs7) (xs := L) ?_ ?_; rotate_left; (focus (simp; done)); (focus ((repeat (with_reducible first | exact O7 | refine OE.drew ?_ | refine OE.alloc ?_)); done))) | (refine PE.zeros (T := shB) (base := w3.heap.size) (e0 := 49) (n := 0) (c := 0) (rs := []) (xs := []) ?_ ?_; rotate_left; (focus (simp; done)); (focus ((repeat (with_reducible first | (refine OE.zero ?_ ?_; (focus (simp; done)); (focus ((repeat (with_reducible first | exact BlE.refl _ | refine BlE.drew ?_ | refine BlE.alloc ?_)); done))) | refine OE.drew ?_ | refine OE.alloc ?_)); done))) | (refine PE.zeros0 ?_; (simp; done)) | (refine hP7 _ _ _ _ _ ?_) | (refine PE.newRow ?_ ?_; rotate_left; (focus (simp; done))) | refine PE.drew ?_ | refine PE.alloc ?_)); done)); intro g8 c8 w8 O8 hg8 hat8)
      | ((refine step_pushB _ rfl (.tmp 26) (.tmp 31) 26 rfl w3 49 i0 _ 32 Try.underlying26 hi hz0 hz1 hz2 rfl A7 n2 c7 rs7 L xq (some ⟨w3.heap.size, 0, none⟩) s s (List.replicate s 0) rfl _ rfl ?_ ?_ ?_ ?_ ?_ ?_ ?_ ?_); (focus (simp only [maxLen]; omega)); (focus omega); (focus ((repeat (with_reducible first | exact O7 | refine OE.drew ?_ | refine OE.alloc ?_)); done)); (focus ((repeat (with_reducible first | (refine Has.made ?_ rfl; (simp; done)) | refine Has.drew ?_ | refine Has.alloc ?_ | (refine hH7 _ _ _ ?_ ?_; rotate_left; (focus (first | omega | (simp; omega)))))); done)); (focus ((repeat (with_reducible first | (refine Has.made ?_ rfl; (simp; done)) | refine Has.drew ?_ | refine Has.alloc ?_ | (refine hH7 _ _ _ ?_ ?_; rotate_left; (focus (first | omega | (simp; omega)))))); done)); (focus ((repeat (with_reducible first | exact B7 | refine BlE.drew ?_ | refine BlE.alloc ?_)); done)); (focus ((repeat (with_reducible first | (refine PE.zeros (T := shB) (base := w3.heap.size) (e0 := 49) (n := n2) (c := c7) (rs := rs7) (xs := L) ?_ ?_; rotate_left; (focus (simp; done)); (focus ((repeat (with_reducible first | exact O7 | refine OE.drew ?_ | refine OE.alloc ?_)); done))) | (refine PE.zeros (T := shB) (base := w3.heap.size) (e0 := 49) (n := 0) (c := 0) (rs := []) (xs := []) ?_ ?_; rotate_left; (focus (simp; done)); (focus ((repeat (with_reducible first | (refine OE.zero ?_ ?_; (focus (simp; done)); (focus ((repeat (with_reducible first | exact BlE.refl _ | refine BlE.drew ?_ | refine BlE.alloc ?_)); done))) | refine OE.drew ?_ | refine OE.alloc ?_)); done))) | (refine PE.zeros0 ?_; (simp; done)) | (refine hP7 _ _ _ _ _ ?_) | (refine PE.newRow ?_ ?_; rotate_left; (focus (simp; done))) | refine PE.drew ?_ | refine PE.alloc ?_)); done)); intro g8 c8 w8 O8 hg8 hat8))
    all_goals
      have fB : BlE w3 w8 := by (repeat (with_reducible first | exact B7 | refine BlE.drew ?_ | refine BlE.alloc ?_ | refine BlE.grown ?_ hg8 (OE.lo O7)))
      go_wp2
      go_meet
      case rel => exact ⟨_, c8, rfl, OwnX.rd O8 (fun b h => h.1) (fun b h => (OwnX.lt O8 b h).2), r3.keep (Kp.below fB (fun b h => h)) (fun b h => Nat.lt_of_lt_of_le h (BlE.sz fB)), BlE.below hB3 fB⟩
  case rest =>
    obtain ⟨A6, c6, rfl, r6, r3, hB3⟩ := hcut
    clear hmk
    have hmk := Try.mkN .u8 k3 (by omega)
    obtain ⟨c7, rs7, A7, w7, _⟩ : ∃ (c7 : Nat) (rs7 : List RawB) (A7 : Option Addr) (w7 : World), True := ⟨0, [], none, w, trivial⟩
    go_upto_region 6 with fail
    go_cut [13] (fun v wx => ∃ (A5 : Option Addr) (c5 : Nat), v = .slice A5 (n2 + 1) c5 ∧ RdX shB wx (· < wx.heap.size) A5 (n2 + 1) c5 (L ++ [⟨x2, List.replicate k3 0⟩]) ∧ RdX shB wx (· < wx.heap.size) A6 (n2 + 1) c6 (L ++ [⟨xq, List.replicate s 0⟩]) ∧ BlE w wx)
    case first =>
      go_region_held3 (fun _ => True) (exact trivial) (first
        | ((refine step_app0 shB _ rfl (.tmp 33) (.tmp 34) 26 rfl wc 49 i0 _ 32 Try.underlying26 hi hz0 hz1 hz2 rfl A2 n2 c2 L r3 _ _ rfl rfl ?_ ?_ ?_ ?_ ?_); (focus (simp only [maxLen]; omega)); (focus omega); (focus ((repeat (with_reducible first | (refine OE.zero ?_ ?_; (focus (simp; done)); (focus ((repeat (with_reducible first | exact BlE.refl _ | refine BlE.drew ?_ | refine BlE.alloc ?_)); done))) | refine OE.drew ?_ | refine OE.alloc ?_)); done)); (focus ((repeat (with_reducible first | exact BlE.refl _ | refine BlE.drew ?_ | refine BlE.alloc ?_)); done)); (intro A7 c7 w7 rs7 O7 B7 hP7 hH7))
        | ((refine step_pushB _ rfl (.tmp 35) (.tmp 40) 26 rfl wc 49 i0 _ 32 Try.underlying26 hi hz0 hz1 hz2 rfl A7 n2 c7 rs7 L x2 (some ⟨w7.heap.size, 0, none⟩) k3 k3 (List.replicate k3 0) rfl _ rfl ?_ ?_ ?_ ?_ ?_ ?_ ?_ ?_); (focus (simp only [maxLen]; omega)); (focus omega); (focus ((repeat (with_reducible first | exact O7 | refine OE.drew ?_ | refine OE.alloc ?_)); done)); (focus ((repeat (with_reducible first | (refine Has.made ?_ rfl; (simp; done)) | refine Has.drew ?_ | refine Has.alloc ?_ | (refine hH7 _ _ _ ?_ ?_; rotate_left; (focus (first | omega | (simp; omega)))))); done)); (focus ((repeat (with_reducible first | (refine Has.made ?_ rfl; (simp; done)) | refine Has.drew ?_ | refine Has.alloc ?_ | (refine hH7 _ _ _ ?_ ?_; rotate_left; (focus (first | omega | (simp; omega)))))); done)); (focus ((repeat (with_reducible first | exact B7 | refine BlE.drew ?_ | refine BlE.alloc ?_)); done)); (focus ((repeat (with_reducible first | (refine PE.zeros (T := shB) (base := wc.heap.size) (e0 := 49) (n := n2) (c := c7) (rs := rs7) (xs := L) ?_ ?_; rotate_left; (focus (simp; done)); (focus ((repeat (with_reducible first | exact O7 | refine OE.drew ?_ | refine OE.alloc ?_)); done))) | (refine PE.zeros (T := shB) (base := wc.heap.size) (e0 := 49) (n := 0) (c := 0) (rs := []) (xs := []) ?_ ?_; rotate_left; (focus (simp; done)); (focus ((repeat (with_reducible first | (refine OE.zero ?_ ?_; (focus (simp; done)); (focus ((repeat (with_reducible first | exact BlE.refl _ | refine BlE.drew ?_ | refine BlE.alloc ?_)); done))) | refine OE.drew ?_ | refine OE.alloc ?_)); done))) | (refine PE.zeros0 ?_; (simp; done)) | (refine hP7 _ _ _ _ _ ?_) | (refine PE.newRow ?_ ?_; rotate_left; (focus (simp; done))) | refine PE.drew ?_ | refine PE.alloc ?_)); done)); intro g8 c8 w8 O8 hg8 hat8)
        | ((refine step_pushB _ rfl (.tmp 35) (.tmp 40) 26 rfl wc 49 i0 _ 32 Try.underlying26 hi hz0 hz1 hz2 rfl A7 n2 c7 rs7 L x2 (some ⟨wc.heap.size + 1, 0, none⟩) k3 k3 (List.replicate k3 0) rfl _ rfl ?_ ?_ ?_ ?_ ?_ ?_ ?_ ?_); (focus (simp only [maxLen]; omega)); (focus omega); (focus ((repeat (with_reducible first | exact O7 | refine OE.drew ?_ | refine OE.alloc ?_)); done)); (focus ((repeat (with_reducible first | (refine Has.made ?_ rfl; (simp; done)) | refine Has.drew ?_ | refine Has.alloc ?_ | (refine hH7 _ _ _ ?_ ?_; rotate_left; (focus (first | omega | (simp; omega)))))); done)); (focus ((repeat (with_reducible first | (refine Has.made ?_ rfl; (simp; done)) | refine Has.drew ?_ | refine Has.alloc ?_ | (refine hH7 _ _ _ ?_ ?_; rotate_left; (focus (first | omega | (simp; omega)))))); done)); (focus ((repeat (with_reducible first | exact B7 | refine BlE.drew ?_ | refine BlE.alloc ?_)); done)); (focus ((repeat (with_reducible first | (refine PE.zeros (T := shB) (base := wc.heap.size) (e0 := 49) (n := n2) (c := c7) (rs := rs7) (xs := L) ?_ ?_; rotate_left; (focus (simp; done)); (focus ((repeat (with_reducible first | exact O7 | refine OE.drew ?_ | refine OE.alloc ?_)); done))) | (refine PE.zeros (T := shB) (base := wc.heap.size) (e0 := 49) (n := 0) (c := 0) (rs := []) (xs := []) ?_ ?_; rotate_left; (focus (simp; done)); (focus ((repeat (with_reducible first | (refine OE.zero ?_ ?_; (focus (simp; done)); (focus ((repeat (with_reducible first | exact BlE.refl _ | refine BlE.drew ?_ | refine BlE.alloc ?_)); done))) | refine OE.drew ?_ | refine OE.alloc ?_)); done))) | (refine PE.zeros0 ?_; (simp; done)) | (refine hP7 _ _ _ _ _ ?_) | (refine PE.newRow ?_ ?_; rotate_left; (focus (simp; done))) | refine PE.drew ?_ | refine PE.alloc ?_)); done)); intro g8 c8 w8 O8 hg8 hat8)
        | ((refine step_pushB _ rfl (.tmp 35) (.tmp 40) 26 rfl wc 49 i0 _ 32 Try.underlying26 hi hz0 hz1 hz2 rfl A7 n2 c7 rs7 L x2 (some ⟨wc.heap.size, 0, none⟩) k3 k3 (List.replicate k3 0) rfl _ rfl ?_ ?_ ?_ ?_ ?_ ?_ ?_ ?_); (focus (simp only [maxLen]; omega)); (focus omega); (focus ((repeat (with_reducible first | exact O7 | refine OE.drew ?_ | refine OE.alloc ?_)); done)); (focus ((repeat (with_reducible first | (refine Has.made ?_ rfl; (simp; done)) | refine Has.drew ?_ | refine Has.alloc ?_ | (refine hH7 _ _ _ ?_ ?_; rotate_left; (focus (first | omega | (simp; omega)))))); done)); (focus ((repeat (with_reducible first | (refine Has.made ?_ rfl; (simp; done)) | refine Has.drew ?_ | refine Has.alloc ?_ | (refine hH7 _ _ _ ?_ ?_; rotate_left; (focus (first | omega | (simp; omega)))))); done)); (focus ((repeat (with_reducible first | exact B7 | refine BlE.drew ?_ | refine BlE.alloc ?_)); done)); (focus ((repeat (with_reducible first | (refine PE.zeros (T := shB) (base := wc.heap.size) (e0 := 49) (n := n2) (c := c7) (rs := rs7) (xs := L) ?_ ?_; rotate_left; (focus (simp; done)); (focus ((repeat (with_reducible first | exact O7 | refine OE.drew ?_ | refine OE.alloc ?_)); done))) | (refine PE.zeros (T := shB) (base := wc.heap.size) (e0 := 49) (n := 0) (c := 0) (rs := []) (xs := []) ?_ ?_; rotate_left; (focus (simp; done)); (focus ((repeat (with_reducible first | (refine OE.zero ?_ ?_; (focus (simp; done)); (focus ((repeat (with_reducible first | exact BlE.refl _ | refine BlE.drew ?_ | refine BlE.alloc ?_)); done))) | refine OE.drew ?_ | refine OE.alloc ?_)); done))) | (refine PE.zeros0 ?_; (simp; done)) | (refine hP7 _ _ _ _ _ ?_) | (refine PE.newRow ?_ ?_; rotate_left; (focus (simp; done))) | refine PE.drew ?_ | refine PE.alloc ?_)); done)); intro g8 c8 w8 O8 hg8 hat8))
      all_goals
        have fB : BlE wc w8 := by (repeat (with_reducible first | exact B7 | refine BlE.drew ?_ | refine BlE.alloc ?_ | refine BlE.grown ?_ hg8 (OE.lo O7)))
        go_wp2
        go_meet
        case rel => exact ⟨_, c8, rfl, OwnX.rd O8 (fun b h => h.1) (fun b h => (OwnX.lt O8 b h).2), r6.keep (Kp.below fB (fun b h => h)) (fun b h => Nat.lt_of_lt_of_le h (BlE.sz fB)), BlE.below hB3 fB⟩
    case rest =>
      clear hmk r3 r6 hB3
      obtain ⟨A5, c5, rfl, r5, r6, hB3⟩ := hcut
      have eG : rgtB (L ++ [⟨xq, List.replicate s 0⟩]) = true := by
        rw [rgt_snoc L _ I1.out (by rw [HLn.out]; omega), HK.out, HZ.out]
        simp; omega
      have eO : rgtB (L ++ [⟨x2, List.replicate k3 0⟩]) = (decide (x2.toNat = xq.toNat) && decide (k3 = s)) := by
        rw [rgt_snoc L _ I1.out (by rw [HLn.out]; omega), HK.out, HZ.out, show q = xq.toNat by omega]
        simp
      have dG : Hid (∀ x ∈ L ++ [(⟨xq, List.replicate s 0⟩ : Bm)], x.data.length ≤ 9223372036854775807) := fun x hx => by
        rcases List.mem_append.1 hx with h | h
        · exact I2'.out x h
        · rw [List.mem_singleton.1 h]; simp; omega
      have dO : Hid (∀ x ∈ L ++ [(⟨x2, List.replicate k3 0⟩ : Bm)], x.data.length ≤ 9223372036854775807) := fun x hx => by
        rcases List.mem_append.1 hx with h | h
        · exact I2'.out x h
        · rw [List.mem_singleton.1 h]; simp; omega
      generalize L ++ [(⟨xq, List.replicate s 0⟩ : Bm)] = LG at *
      generalize L ++ [(⟨x2, List.replicate k3 0⟩ : Bm)] = LO at *
      generalize hbo : (decide (x2.toNat = xq.toNat) && decide (k3 = s)) = bo at *
      clear I1 I2 I2' HK HZ HOK HLn
      have hR1 := right_any A6 (n2 + 1) c6 _ LG _ r6 (fun b h => h) (by omega) dG
      rw [eG] at hR1
      go_wp2_with fail
      refine hR1.mono ?_
      rintro e v1 ⟨rfl, k1⟩
      have hB4 := BlE.below hB3 k1
      have s5 := r5.keep (Kp.below k1 (fun b h => h)) (fun b h => Nat.lt_of_lt_of_le h k1.size)
      have s6 := r6.keep (Kp.below k1 (fun b h => h)) (fun b h => Nat.lt_of_lt_of_le h k1.size)
      have hR2 := right_any A5 (n2 + 1) c5 _ LO _ s5 (fun b h => h) (by omega) dO
      rw [eO] at hR2
      clear r5 r6 hB3 hR1 k1
      go_wp2_with fail
      refine hR2.mono ?_
      rintro e v2 ⟨rfl, k2⟩
      have hB5 := BlE.below hB4 k2
      have t5 := s5.keep (Kp.below k2 (fun b h => h)) (fun b h => Nat.lt_of_lt_of_le h k2.size)
      have t6 := s6.keep (Kp.below k2 (fun b h => h)) (fun b h => Nat.lt_of_lt_of_le h k2.size)
      clear s5 s6 hR2 k2 hB4
      have hEq : ∃ b1 b2, ((x2.toNat : Int) == (xq.toNat : Int)) = b1 ∧ ((k3 : Int) == (s : Int)) = b2 ∧ bo = (b1 && b2) := by
        refine ⟨_, _, rfl, rfl, ?_⟩
        rw [← hbo]
        congr 1 <;> · rw [Bool.eq_iff_iff]; simp <;> omega
      obtain ⟨b1, b2, q1, q2, q3⟩ := hEq
      clear hbo
      have hlG := t6.len
      have hlO := t5.len
      have hown1 := own5_any A6 (n2 + 1) c6 _ LG v2 t6 (fun b h => h) (by omega)
      have hOwn2 := fun v h => own5_any A5 (n2 + 1) c5 _ LO v h (fun b h => h) (by omega)
      have hRG := fun A n c v h hn => right5_any A n c _ LG v h (fun b h => h) hn dG
      have hRO := fun A n c v h hn => right5_any A n c _ LO v h (fun b h => h) hn dO
      have hSO := fun v h => right_any A5 (n2 + 1) c5 _ LO v h (fun b h => h) (by omega) dO
      rw [eG] at hRG
      rw [eO] at hRO hSO
      clear eG eO dG dO
      cases b1 <;> cases b2 <;> subst q3
      all_goals
        go_wp2_with fail
        refine hown1.mono ?_
        rintro e v3 ⟨A7, n7, c7, rfl, r7, k3'⟩
        have hB6 := BlE.below hB5 k3'
        have u5 := t5.keep (Kp.below k3' (fun b h => h)) (fun b h => Nat.lt_of_lt_of_le h k3'.size)
        have hn7 : n7 ≤ 1000 := by rw [← r7.len]; omega
        go_wp2_with fail
        refine (hRG A7 n7 c7 v3 r7 (by omega)).mono ?_
        rintro e v4 ⟨rfl, k4⟩
        have hB7 := BlE.below hB6 k4
        have p5 := u5.keep (Kp.below k4 (fun b h => h)) (fun b h => Nat.lt_of_lt_of_le h k4.size)
        clear u5 t5 t6 hB5 hB6 k3' k4 r7
        go_wp2_with fail
        refine (hOwn2 v4 p5).mono ?_
        rintro e v5 ⟨A8, n8, c8, rfl, r8, k5⟩
        have hB8 := BlE.below hB7 k5
        have o5 := p5.keep (Kp.below k5 (fun b h => h)) (fun b h => Nat.lt_of_lt_of_le h k5.size)
        have hn8 : n8 ≤ 1000 := by rw [← r8.len]; omega
        go_wp2_with fail
        refine (hRO A8 n8 c8 v5 r8 (by omega)).mono ?_
        rintro e v6 ⟨rfl, k6⟩
        have hB9 := BlE.below hB8 k6
        have m5 := o5.keep (Kp.below k6 (fun b h => h)) (fun b h => Nat.lt_of_lt_of_le h k6.size)
        go_wp2_with fail
        refine (hSO v6 m5).mono ?_
        rintro e v7 ⟨rfl, k7⟩
        have hB10 := BlE.below hB9 k7
        go_wp2
        go_ret
        exact ⟨rfl, hB10⟩

end Go.Proofs.Ytgjnkaakhfbblaa

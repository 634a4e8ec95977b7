/- The document's example of layer 7; groove.Patch. No law is claimed here. -/
import Derived.Test.YtghbgehmaejggaaDoorGrv5
namespace Go.Proofs.YtghbgehmaejggaaDoor
open Go.RowKit

theorem awakeG : gFull (diskN (strN ⟨#[]⟩) 0 []) = 3804 ∧ rgtB (diskN (strN ⟨#[]⟩) 0 []) = true ∧ (diskN (strN ⟨#[]⟩) 0 []).length = 2 ∧ (∀ x ∈ diskN (strN ⟨#[]⟩) 0 [], x.data.length ≤ 100000) := by
  refine ⟨by decide +kernel, by decide +kernel, by decide +kernel, ?_⟩
  intro x hx
  unfold diskN at hx
  simp at hx
  rcases hx with rfl | rfl
  · simp [dheadN_len]
  · simp
theorem grv_len (l : List Bm) : (grvN l).length = gFull l := by rw [← gPart_full]; exact gPart_len l _ (Nat.le_refl _)
theorem grv_low (l : List Bm) (j : Nat) (h : j < 3500) : (grvN l)[j]? = some 0 := by
  unfold grvN
  rw [List.getElem?_append_left (by rw [List.length_replicate]; exact h), List.getElem?_replicate, if_pos h]
theorem grv_first (x : Bm) (l : List Bm) : (grvN (x :: l))[3500]? = some 128 ∧ (grvN (x :: l))[3501]? = some x.kind := by
  unfold grvN
  rw [List.getElem?_append_right (by rw [List.length_replicate]; omega), List.getElem?_append_right (by rw [List.length_replicate]; omega), List.length_replicate]
  simp [gBlk, gHead]

theorem Own.cellAt {w : World} {base g n c : Nat} {e : TypeId} {xs : List UInt8} {j : Nat} {x : UInt8} (h : Own bv w base e (some ⟨g, 0, none⟩) n c xs) (hj : xs[j]? = some x) : w.cell? ⟨g, j, none⟩ = some (bv x) := by
  obtain ⟨hlt, he⟩ := List.getElem_of_getElem? hj
  rw [← he]
  exact h.at_ j hlt

set_option maxRecDepth 100000 in
set_option maxHeartbeats 2000000 in
theorem awake7_any (w : World) : Calls Tryd.prog 4 #[] w fun e w' => e = .returned (.bool true) ∧ Below w.heap.size w w' := by
  have hD := disk_any ⟨#[]⟩ 0 none 0 0 (fun _ => False) [] w RdX.nil (fun b h => h.elim) (by omega) (by simp) (fun x hx => by simp at hx)
  obtain ⟨h1, h2, h4, h5⟩ := awakeG
  have h6 := grv_low (diskN (strN ⟨#[]⟩) 0 []) 3499 (by omega)
  have h7 := grv_first ⟨1, dheadN (strN ⟨#[]⟩) 0⟩ ([⟨2, [u8N (0 % 256)]⟩] ++ ([] : List (List Bm)).flatten)
  have h8 := grv_len (diskN (strN ⟨#[]⟩) 0 [])
  rw [show (⟨1, dheadN (strN ⟨#[]⟩) 0⟩ :: ([⟨2, [u8N (0 % 256)]⟩] ++ ([] : List (List Bm)).flatten) : List Bm) = diskN (strN ⟨#[]⟩) 0 [] from rfl] at h7
  simp only at h7
  generalize diskN (strN ⟨#[]⟩) 0 [] = L at *
  have H5 : Hid (∀ x ∈ L, x.data.length ≤ 100000) := h5
  have H1 := Lib.hid h1
  have H4 := Lib.hid h4
  have H8 := Lib.hid h8
  have H6 := Lib.hid h6
  have H7 := Lib.hid h7
  clear h1 h4 h5 h6 h7 h8
  go_enter Tryd.func4, Tryd.ntmps4
  go_wp2_with ((go_at_call 14; refine hD.mono ?_; rintro e w1 ⟨A1, n1, c1, rfl, r1, hb1⟩; have hn1 : 2 = n1 := H4.out.symm.trans r1.len; subst hn1))
  refine (lay_yes A1 2 c1 (· < w1.heap.size) L w1 r1 (fun b h => h) (by omega) H5 h2 (by rw [H1.out]; omega)).mono ?_
  rintro e w2 ⟨A2, n2, c2, rfl, o2, hb2⟩
  have hn2 : 3804 = n2 := (H8.out.trans H1.out).symm.trans o2.len; subst hn2
  obtain ⟨g, rfl⟩ := o2.zero (by omega)
  have k1 : w2.cell? ⟨g, 3499, none⟩ = some (.int .u8 0) := o2.cellAt H6.out
  have k2 : w2.cell? ⟨g, 3500, none⟩ = some (.int .u8 128) := o2.cellAt H7.out.1
  have k3 : w2.cell? ⟨g, 3501, none⟩ = some (.int .u8 1) := o2.cellAt H7.out.2
  go_wp2
  go_ret
  exact ⟨rfl, hb1.trans (hb2.mono hb1.size)⟩

/-- copy of bytes into a row of the call's own: its run -/
theorem run_copyB {P : Program} (w : World) (dT sT ty elem : TypeId) (hu : P.underlying dT = some (.slice elem)) (hsz : (P.info? elem).map (·.size) = some 1) (g off dLen dCap : Nat) (A2 : Option Addr) (sLen sCap base : Nat) (e : TypeId) (n c B : Nat) (xs ys : List UInt8)
    (hown : Own bv w base e (some ⟨g, 0, none⟩) n c xs) (hr : Rd bv w B A2 sLen sCap ys) (h1 : 1 ≤ sLen) (hn : sLen ≤ dLen) (hfit : off + sLen ≤ n) :
    ∃ w', (Builtin.copy_ #[dT, sT] ty #[.slice (some ⟨g, off, none⟩) dLen dCap, .slice A2 sLen sCap]).run P w = .ok (goInt sLen) w' ∧ Own bv w' base e (some ⟨g, 0, none⟩) n c (lay xs off ys) ∧ w.grownBy w' (some g) := by
  have hl := hr.len
  obtain ⟨b, o2, rfl, _, _⟩ := hr.at_ 0 (by omega)
  obtain ⟨cur, hg, hcs, hown', hgr⟩ := hown.laid off ys (by omega)
  have hcells : ∀ j u, (ys.map bv)[j]? = some u → w.cell? ((⟨b, o2, none⟩ : Addr).add j) = some u := by
    intro j u hu
    rw [List.getElem?_map] at hu
    rcases Nat.lt_or_ge j ys.length with hj | hj
    · obtain ⟨b', off', h, _, hc⟩ := hr.at_ j hj
      injection h with h; injection h with h1 h2; subst h1; subst h2
      rw [List.getElem?_eq_getElem hj] at hu
      simp at hu
      subst hu
      have hadd : (⟨b, o2, Option.none⟩ : Addr).add j = ⟨b, o2 + j, Option.none⟩ := by unfold Addr.add; split <;> simp_all
      rw [hadd]; exact hc
    · rw [List.getElem?_eq_none hj] at hu; cases hu
  have hrun := run_copy_row (P := P) w dT sT ty elem g off dLen dCap ⟨b, o2, none⟩ sLen sCap cur e (ys.map bv) hu hsz hg (by simp; rw [hl]; exact (Nat.min_eq_left hn).symm) hcells (by simp; omega) (by intro v hv; simp at hv; obtain ⟨x, _, rfl⟩ := hv; rfl)
  have hle : (ys.map bv).length = sLen := by simp [hl]
  rw [hle] at hrun
  refine ⟨_, hrun, ?_, ?_⟩
  · have h := hown'
    simp only [hle, List.append_assoc] at h ⊢
    exact h
  · have h := hgr
    simp only [hle, List.append_assoc] at h ⊢
    exact h

end Go.Proofs.YtghbgehmaejggaaDoor

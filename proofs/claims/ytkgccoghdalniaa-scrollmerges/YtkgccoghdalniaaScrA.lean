/- The law package's awake: true. No law is claimed here. -/
import Derived.Test.YtkgccoghdalniaaScrM
import Derived.Lib.SlBytesConst
import Derived.Deep.RegionWith
namespace Go.Proofs.Ytkgccoghdalniaa
open Go.RowKit

/-- a row of one element that was just made -/
theorem RdX.one {ρ α : Type} (T : Shape ρ α) (w : World) (S : Nat → Prop) (cs : Array Value) (e : TypeId) (fr : Nat × Nat) (r : ρ) (x : α) (g : Nat) (hcs : cs = (T.raw r).toArray) (hg : g = w.heap.size) (hok : T.Ok (w.alloc (.cells cs e fr)) S r x) (hS : S g) :
    RdX T (w.alloc (.cells cs e fr)) S (some ⟨g, 0, none⟩) 1 1 [x] := by
  refine ⟨rfl, Nat.le_refl _, fun j hj => ⟨g, 0, rfl, hS, r, fun i u hu => ?_, ?_⟩⟩
  · have hj0 : j = 0 := by simp at hj; omega
    subst hj0; subst hg; subst hcs
    rw [cell_of_row _ _ _ _ _ _ (heap_alloc_new w _)]
    simpa using hu
  · have hj0 : j = 0 := by simp at hj; omega
    subst hj0
    exact hok

theorem rdG_at {k1 k2 : IntKind} {w : World} {S : Nat → Prop} {A : Option Addr} {n c : Nat} {gs : List Gm} (h : RdX (shG k1 k2) w S A n c gs) (j : Nat) (hj : j < gs.length) :
    ∃ b off A' n' c', A = some ⟨b, off, none⟩ ∧ S b ∧ w.cell? ⟨b, off + j * 2, none⟩ = some (.int .u32 gs[j].num) ∧ w.cell? ⟨b, off + j * 2 + 1, none⟩ = some (.slice A' n' c') ∧ RdX (shW k1 k2) w S A' n' c' gs[j].ws := by
  obtain ⟨b, off, e, hb, r, hc, h1, h2⟩ := h.at_ j hj
  refine ⟨b, off, r.A, r.n, r.c, e, hb, ?_, hc 1 _ rfl, h2⟩
  have := hc 0 _ rfl; rw [← h1]; exact this

theorem okG_awake : okG ⟨7, [⟨0, 3, [97, 98]⟩]⟩ := by
  refine ⟨by decide, by decide, by simp, by simp, fun x hx => ?_⟩
  simp at hx; subst hx
  exact ⟨by decide, by decide⟩
theorem allC_one (g : Int) (ws : List Wm) : ((allC [⟨g, ws⟩]).map frameN).flatten = (bytesN g.toNat ws).flatten := by rw [bytes_gcs]; simp [allC]

set_option maxRecDepth 100000 in
set_option maxHeartbeats 4000000 in
theorem awake3_any (w : World) : Calls Try.prog 5 #[] w fun e w' => e = .returned (.bool true) ∧ Below w.heap.size w w' := by
  have kc := fun (C : Array Value) (n c : Nat) => Lib.run_convert_bytes_const (P := Try.prog) w 23 5 C n c Try.underlying23 Try.underlying5
  have q1 : Rd bv (w.alloc (.cells #[.int .u8 97, .int .u8 98] 5 (2, 3))) (w.heap.size + 1) (some ⟨w.heap.size, 0, none⟩) 2 2 [97, 98] := Rd.made (f := bv) w _ _ [97, 98] _ _ _ rfl rfl rfl
  have q2 : RdX (shW .u8 .u32) ((w.alloc (.cells #[.int .u8 97, .int .u8 98] 5 (2, 3))).alloc (.cells #[.int .u8 0, .int .u32 3, .slice (some ⟨w.heap.size, 0, none⟩) 2 2] 44)) (· < w.heap.size + 2) (some ⟨w.heap.size + 1, 0, none⟩) 1 1 [⟨0, 3, [97, 98]⟩] :=
    RdX.one _ _ _ _ _ _ ⟨0, 3, some ⟨w.heap.size, 0, none⟩, 2, 2⟩ _ _ rfl (by simp) ⟨rfl, rfl, (q1.alloc (by simp) _).rdp.keep (Kp.refl _ _) (fun b h => by omega)⟩ (by omega)
  go_enter Try.func5, Try.ntmps5
  go_wp2_with fail
  have q3 := q2.keep (Kp.alloc (fun b h => by simp; omega) (.cells #[.int .u32 7, .slice (some ⟨w.heap.size + 1, 0, none⟩) 1 1] 52)) (fun _ h => h)
  have hbW : Below w.heap.size w (((w.alloc (.cells #[.int .u8 97, .int .u8 98] 5 (2, 3))).alloc (.cells #[.int .u8 0, .int .u32 3, .slice (some ⟨w.heap.size, 0, none⟩) 2 2] 44)).alloc (.cells #[.int .u32 7, .slice (some ⟨w.heap.size + 1, 0, none⟩) 1 1] 52)) :=
    (((Below.refl _ _).alloc (Nat.le_refl _) _).alloc (by simp) _).alloc (by simp; omega) _
  have hsW : (((w.alloc (.cells #[.int .u8 97, .int .u8 98] 5 (2, 3))).alloc (.cells #[.int .u8 0, .int .u32 3, .slice (some ⟨w.heap.size, 0, none⟩) 2 2] 44)).alloc (.cells #[.int .u32 7, .slice (some ⟨w.heap.size + 1, 0, none⟩) 1 1] 52)).heap.size = w.heap.size + 3 := by simp
  have c0 : (((w.alloc (.cells #[.int .u8 97, .int .u8 98] 5 (2, 3))).alloc (.cells #[.int .u8 0, .int .u32 3, .slice (some ⟨w.heap.size, 0, none⟩) 2 2] 44)).alloc (.cells #[.int .u32 7, .slice (some ⟨w.heap.size + 1, 0, none⟩) 1 1] 52)).cell? ⟨w.heap.size + 2, 0, none⟩ = some (.int .u32 7) := by
    have := cell_of_row _ _ 0 _ _ _ (heap_alloc_new ((w.alloc (.cells #[.int .u8 97, .int .u8 98] 5 (2, 3))).alloc (.cells #[.int .u8 0, .int .u32 3, .slice (some ⟨w.heap.size, 0, none⟩) 2 2] 44)) (.cells #[.int .u32 7, .slice (some ⟨w.heap.size + 1, 0, none⟩) 1 1] 52)); simpa using this
  have c1 : (((w.alloc (.cells #[.int .u8 97, .int .u8 98] 5 (2, 3))).alloc (.cells #[.int .u8 0, .int .u32 3, .slice (some ⟨w.heap.size, 0, none⟩) 2 2] 44)).alloc (.cells #[.int .u32 7, .slice (some ⟨w.heap.size + 1, 0, none⟩) 1 1] 52)).cell? ⟨w.heap.size + 2, 1, none⟩ = some (.slice (some ⟨w.heap.size + 1, 0, none⟩) 1 1) := by
    have := cell_of_row _ _ 1 _ _ _ (heap_alloc_new ((w.alloc (.cells #[.int .u8 97, .int .u8 98] 5 (2, 3))).alloc (.cells #[.int .u8 0, .int .u32 3, .slice (some ⟨w.heap.size, 0, none⟩) 2 2] 44)) (.cells #[.int .u32 7, .slice (some ⟨w.heap.size + 1, 0, none⟩) 1 1] 52)); simpa using this
  clear kc q1 q2
  have BY := bytes_any 7 _ 1 1 _ _ _ q3 (fun b h => by rw [hsW]; omega) (by omega) (by omega) (by omega) (by
    intro x hx; simp at hx; subst hx; exact ⟨by decide, by decide, by simp⟩)
  have HSW := Lib.hid hsW
  clear hsW
  generalize (((w.alloc (.cells #[.int .u8 97, .int .u8 98] 5 (2, 3))).alloc (.cells #[.int .u8 0, .int .u32 3, .slice (some ⟨w.heap.size, 0, none⟩) 2 2] 44)).alloc (.cells #[.int .u32 7, .slice (some ⟨w.heap.size + 1, 0, none⟩) 1 1] 52)) = W at *
  refine BY.mono ?_
  rintro e w4 ⟨A4, n4, c4, rfl, r4, hb4⟩
  have hW := HSW.out
  have hs4 := hb4.size
  have hl4 : n4 = 2 := by have := r4.len; simpa [bytesN, recsN] using this.symm
  subst hl4
  have hfl : (bytesN (7 : Int).toNat [⟨0, 3, [97, 98]⟩]).flatten.length = 41 := by simp [bytesN, recsN, recF, frameN_len, recC_len, markC_len]
  go_wp2_with fail
  refine (join_x A4 2 c4 _ _ w4 r4 (fun b h => h.2) (by omega) (by rw [hfl]; omega)).mono ?_
  rintro e w5 ⟨A5, n5, c5, rfl, r5, hb5⟩
  have hs5 := hb5.size
  have hl5 : n5 = 41 := by rw [← r5.len]; exact hfl
  subst hl5
  have hrd := readL_groups [⟨7, [⟨0, 3, [97, 98]⟩]⟩] (by intro g hg; simp at hg; subst hg; exact okG_awake)
  have hfl2 : flen (allC [⟨7, [⟨0, 3, [97, 98]⟩]⟩]) = 41 := by unfold flen; rw [allC_one]; exact hfl
  rw [allC_one, hfl2] at hrd
  have RD := read_any A5 41 c5 w5.heap.size _ w5 r5.rd (Nat.le_refl _) (by omega)
  rw [hrd] at RD
  clear hrd hfl hfl2
  go_wp2_with fail
  refine RD.mono ?_
  rintro e w6 ⟨A6, n6, c6, rfl, r6, hb6⟩
  have hs6 := hb6.size
  obtain rfl : n6 = 1 := by have := r6.len; simpa using this.symm
  obtain ⟨b, off, A7, n7, c7, rfl, hbS, d0, d1, r7⟩ := rdG_at r6 0 (by simp)
  simp only [List.getElem_cons_zero, Nat.zero_mul, Nat.add_zero] at d0 d1 r7
  obtain rfl : n7 = 1 := by have := r7.len; simpa using this.symm
  have bel6 : Below W.heap.size W w6 := (hb4.trans (hb5.mono hs4)).trans (hb6.mono (by omega))
  have e0 : w6.cell? ⟨w.heap.size + 1 + 1, 0, none⟩ = some (.int .u32 7) := (bel6.cell (p := ⟨w.heap.size + 2, 0, none⟩) (by show w.heap.size + 2 < _; omega)).trans c0
  have e1 : w6.cell? ⟨w.heap.size + 1 + 1, 1, none⟩ = some (.slice (some ⟨w.heap.size + 1, 0, none⟩) 1 1) := (bel6.cell (p := ⟨w.heap.size + 2, 1, none⟩) (by show w.heap.size + 2 < _; omega)).trans c1
  have r8 := q3.keep (Kp.below bel6 (fun b h => by omega)) (fun _ h => h)
  go_wp2_with fail
  have hb1 : b < w6.heap.size := hbS
  have hb2 : w.heap.size + 1 + 1 < w6.heap.size := by omega
  clear BY RD q3 c0 c1
  go_region_held3 (fun w' => w'.cell? ⟨b, off, none⟩ = some (.int .u32 7) ∧ w'.cell? ⟨b, off + 1, none⟩ = some (.slice A7 1 c7) ∧ w'.cell? ⟨w.heap.size + 1 + 1, 0, none⟩ = some (.int .u32 7) ∧ w'.cell? ⟨w.heap.size + 1 + 1, 1, none⟩ = some (.slice (some ⟨w.heap.size + 1, 0, none⟩) 1 1))
    (first | exact ⟨d0, d1, e0, e1⟩ | exact ⟨(hb9.cell (p := ⟨b, off, none⟩) hb1).trans d0, (hb9.cell (p := ⟨b, off + 1, none⟩) hb1).trans d1, (hb9.cell (p := ⟨w.heap.size + 1 + 1, 0, none⟩) hb2).trans e0, (hb9.cell (p := ⟨w.heap.size + 1 + 1, 1, none⟩) hb2).trans e1⟩)
    (first | (go_at_call 18; refine (same_grp_yes 7 A7 _ 1 c7 1 1 _ _ _ _ (r7.keep (Kp.drew _ _) (fun _ h => h)) (r8.keep (Kp.drew _ _) (fun _ h => h)) (fun b h => h) (fun b h => by show b < w6.heap.size; omega) (by omega)).mono ?_; rintro e w9 ⟨rfl, hb9⟩))
  all_goals
    go_wp2
    go_ret
    exact ⟨rfl, (hbW.trans (bel6.mono (by omega))).trans ((Below.refl _ _).drew.trans (hb9.mono (by show _ ≤ w6.heap.size; omega)))⟩

end Go.Proofs.Ytkgccoghdalniaa

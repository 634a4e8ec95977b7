/- ToneNil's walk. No law is claimed here. -/
import Derived.Test.YtniclofgnmgmfaaDoorTn13
namespace Go.Proofs.YtniclofgnmgmfaaDoor
open Go.RowKit

theorem rowT_extE (w : World) (n : Nat) (t : TypeId) (l : List Value) (os : List Obj) (q : Nat) (h : n < w.heap.size) : ext (rowT w n t l) os q = rowT (ext w os q) n t l := by
  unfold ext
  rw [rowT_fold os n t l w h, rowT_drewN]
theorem TW.copy {w0 v : World} {m : Nat} {s : TS} (h : TW w0 m s v) :
    Calls Tryd.prog 30 #[.pointer (some ⟨m, 0, none⟩)] v fun e v' => e = .returned (.pointer (some ⟨v.heap.size, 0, none⟩)) ∧ TW v v.heap.size s v' := by
  obtain ⟨⟨w2, rfl, h1, h2, hb2⟩, h3, h4⟩ := h
  have hs : (stT w2 m s).heap.size = w2.heap.size := rowT_size _ _ _ _
  refine (tcopy_any w2 m s h1).mono ?_
  rintro e v' ⟨rfl, w3, rfl, hE, hl⟩
  obtain ⟨os, q, rfl⟩ := hE
  have hb : Below w2.heap.size (stT w2 m s) (stT (ext w2 os q) m s) := by
    have := (Ext.below (⟨os, q, rfl⟩ : Ext (stT w2 m s) (ext (stT w2 m s) os q)))
    rw [hs] at this
    unfold stT at this ⊢
    rwa [rowT_extE _ _ _ _ _ _ h1] at this
  rw [hs]
  exact ⟨rfl, ⟨stT (ext w2 os q) m s, rfl, by unfold stT; rw [rowT_size]; exact hl, (h2.ext ⟨os, q, rfl⟩).row m h4 s, hb⟩, h3, by omega⟩
theorem TW.putx {w0 v : World} {m : Nat} {s : TS} (h : TW w0 m s v) (r b : Int) (hr : 4 ≤ r) :
    Calls Tryd.prog 18 #[.pointer (some ⟨m, 0, none⟩), .int .u8 r, .int .u8 b] v fun e v' => e = .returned (.tuple #[]) ∧ v' = v := by
  obtain ⟨⟨w2, rfl, h1, h2, hb2⟩, h3, h4⟩ := h
  refine (tput_x w2 m s r b h1 hr).mono ?_
  rintro e v' ⟨rfl, rfl⟩
  exact ⟨rfl, congrArg (stT w2 m) (by unfold putT; rw [if_neg (by omega), if_neg (by omega), if_neg (by omega), if_neg (by omega)])⟩

def nilS : TS := quaT (putT (putT (enT (newT 2) true) 0 133) 3 0)
theorem nilS1 : outT nilS = 15 ∧ 0 < nilS.len ∧ outT (enT (clockT nilS) false) = 14 ∧ (enT (clockT nilS) false).len = 0 := by decide +kernel

set_option maxRecDepth 100000 in
set_option maxHeartbeats 1000000 in
theorem toneNil_walk (k r b : Int) (on : Bool) (w : World) (hk : 0 ≤ k ∧ k < 256) (hr : 0 ≤ r ∧ r < 256) (hb : 0 ≤ b ∧ b < 256) (hg : gl w) :
    Calls Tryd.prog 10 #[.int .u8 k, .int .u8 r, .int .u8 b, .bool on] w fun e w' => e = .returned (.bool true) ∧ Below w.heap.size w w' := by
  have FA := awake11_any w hg
  have FN2 := fun w (hg : gl w) => tnew_tw 2 w w (by decide) hg (Below.refl _ _)
  have FK : ∀ v, gl v → Calls Tryd.prog 12 #[.int .u8 k] v fun e v' => (e = .returned (.pointer (if k < 4 then some ⟨v.heap.size, 0, none⟩ else none))) ∧ Below v.heap.size v v' := by
    intro v hv
    by_cases h4 : k < 4
    · refine (tnew_tw k v v ⟨hk.1, h4⟩ hv (Below.refl _ _)).mono ?_
      rintro e v' ⟨rfl, hT⟩
      exact ⟨by rw [if_pos h4], hT.below⟩
    · refine (tnew_nil k v (by omega)).mono ?_
      rintro e v' ⟨rfl, rfl⟩
      exact ⟨by rw [if_neg h4], Below.refl _ _⟩
  obtain ⟨E1, E2, E3, E4⟩ := nilS1
  unfold nilS at E1 E2 E3 E4
  have hw : IntKind.u8.wrap (4 + r % 252) = 4 + r % 252 := by rw [wrap_u8_mod]; omega
  have hq : 4 ≤ 4 + r % 252 := by omega
  generalize newT 2 = s0 at *
  rcases (by omega : k < 4 ∨ ¬ k < 4) with h4 | h4 <;> (first | (simp only [if_pos h4] at FK; have h5 : decide (3 < k) = false := by simp; omega) | (simp only [if_neg h4] at FK; have h5 : decide (3 < k) = true := by simp; omega))
  all_goals
    go_enter Tryd.func10, Tryd.ntmps10
    go_wp2_with (first
      | (go_at_call 11; refine FA.mono ?_; rintro e w1 ⟨rfl, b1⟩; have g1 := hg.below b1)
      | (go_at_call_of 18 (Value.pointer none); refine (tput_nil _ _ _).mono ?_; rintro e w' ⟨rfl, rfl⟩)
      | (go_at_call_of 16 (Value.pointer none); refine (ten_nil _ _).mono ?_; rintro e w' ⟨rfl, rfl⟩)
      | (go_at_call_of 22 (Value.pointer none); refine (tclock_nil _).mono ?_; rintro e w' ⟨rfl, rfl⟩)
      | (go_at_call_of 20 (Value.pointer none); refine (tqua_nil _).mono ?_; rintro e w' ⟨rfl, rfl⟩)
      | (go_at_call_of 26 (Value.pointer none); refine (thalf_nil _).mono ?_; rintro e w' ⟨rfl, rfl⟩)
      | (go_at_call_of 29 (Value.pointer none); refine (tout_nil _).mono ?_; rintro e w' ⟨rfl, rfl⟩)
      | (go_at_call_of 25 (Value.pointer none); refine (tlive_nil _).mono ?_; rintro e w' ⟨rfl, rfl⟩)
      | (go_at_call_of 30 (Value.pointer none); refine (tcopy_nil _).mono ?_; rintro e w' ⟨rfl, rfl⟩)
      | (go_at_call_of 12 (Value.int IntKind.u8 2); refine (FN2 _ g2).mono ?_; rintro e w3 ⟨rfl, hT⟩)
      | (go_at_call_of 12 (Value.int IntKind.u8 k); refine (FK _ g1).mono ?_; rintro e w2 ⟨rfl, b2⟩; have g2 := g1.below b2)
      | (go_at_call 16; refine (hT.en true).mono ?_; clear hT; rintro e w4 ⟨rfl, hT⟩)
      | (go_at_call_of 18 (Value.int IntKind.u8 133); refine (hT.put 0 133 (by decide) (by decide)).mono ?_; clear hT; rintro e w5 ⟨rfl, hT⟩)
      | (go_at_call_of 18 (Value.int IntKind.u8 3); refine (hT.put 3 0 (by decide) (by decide)).mono ?_; clear hT; rintro e w6 ⟨rfl, hT⟩)
      | (go_at_call 20; refine hT.qua.mono ?_; clear hT; rintro e w7 ⟨rfl, hT⟩)
      | (go_at_call 30; refine hT.copy.mono ?_; rintro e w8 ⟨rfl, hC⟩; have hT0 := hT; clear hT)
      | (go_at_call 22; refine hC.clock.mono ?_; clear hC; rintro e w9 ⟨rfl, hC⟩)
      | (go_at_call 16; refine (hC.en false).mono ?_; clear hC; rintro e w10 ⟨rfl, hC⟩; have hT := hT0.past hC.below)
      | (go_at_call 18; refine (hT.putx _ _ hq).mono ?_; rintro e w11 ⟨rfl, rfl⟩; have hO1 := hT.out)
      | (go_at_call 29; refine hO1.mono ?_; clear hO1; rintro e w12 ⟨rfl, q1, rfl⟩; have hO2 := (hC.drewN q1).out)
      | (go_at_call 29; refine hO2.mono ?_; clear hO2; rintro e w13 ⟨rfl, q2, rfl⟩; have hL := 0)
      | (go_at_call 25; clear hL; refine ((hT.drewN _).live).mono ?_; rintro e w14 ⟨rfl, rfl⟩)
      | (go_at_call 25; refine ((hC.drewN _).live).mono ?_; rintro e w15 ⟨rfl, rfl⟩))
    go_ret
    refine ⟨rfl, ?_⟩
    exact ((b1.trans (b2.mono b1.size)).trans (hT.below.mono (Nat.le_trans b1.size b2.size))).trans (still_below _ _ _)

end Go.Proofs.YtniclofgnmgmfaaDoor

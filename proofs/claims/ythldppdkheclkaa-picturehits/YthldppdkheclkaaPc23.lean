/- The picture unit: dot by dot up to the first sprite's hit. No law is claimed here. -/
import Derived.Test.YthldppdkheclkaaPc22
set_option linter.unusedSimpArgs false
set_option linter.unusedVariables false
namespace Go.Proofs.Ythldppdkheclkaa
open Go.RowKit Go.Great

variable {w0 v0 v v' : World} {m : Nat} {A : Nat → Value} {c : PC} {Y X lk k : Int}

theorem P1.congr {A' : Nat → Value} (h : P1 A X) (e : ∀ i, 10538 ≤ i → i < 10578 → A' i = A i) : P1 A' X := by
  obtain ⟨h1, h2, h3, h4⟩ := h
  refine ⟨?_, ?_, ?_, ?_⟩
  · rw [← h1]; unfold selF; rw [e _ (by omega) (by omega)]
  · rw [← h2]; unfold selX; rw [e _ (by omega) (by omega)]
  · rw [← h3]; unfold selL; rw [e _ (by omega) (by omega)]
  · rw [← h4]; unfold selU; rw [e _ (by omega) (by omega)]
theorem drwA_low (A : Nat → Value) (c : PC) (x : Int) (i : Nat) (hi : i < 10585) : drwA A c x i = A i := by
  unfold drwA pixI; exact updV_other _ _ _ _ (by omega)
theorem HI.cntb (h : HI Y X lk k A c) : 0 ≤ c.cnt ∧ c.cnt ≤ 8 := by
  by_cases e1 : c.line < Y ∨ (c.line = Y ∧ c.dot ≤ 257) ∨ shw c 24 = false
  · rw [h.no e1]; decide
  · have hs : shw c 24 = true := by
      rcases Bool.eq_false_or_eq_true (shw c 24) with k | k
      · exact k
      · exact absurd (.inr (.inr k)) e1
    rw [(h.yes (fun q => e1 (by omega)) hs).1]; decide
theorem HI.ok (h : HI Y X lk k A c) (hY : 0 ≤ Y ∧ Y < 230) : COk c :=
  ⟨by rw [h.fr]; decide, ⟨h.line.1, by have := h.line; omega⟩, h.dot, h.lin, h.cntb⟩
theorem movL_w (c : PC) : (withS c (movL c)).con = c.con ∧ (withS c (movL c)).hit = c.hit := ⟨rfl, rfl⟩
theorem hitC_no {x : Int} (h : hitV A c x = false) : hitC A c x = c := by
  unfold hitC; rw [if_neg (by rw [h]; decide)]
/-- the first half of a dot: nothing but what is drawn -/
theorem HI.sec (h : HI Y X lk k A c) (hY : 0 ≤ Y ∧ Y < 230) (hn : 1 ≤ c.dot → c.dot ≤ 256 → hitV A c (c.dot - 1) = false) :
    secC A c = c ∧ ∀ i, i < 10585 → secA A c i = A i := by
  have hl := h.line
  have e0 : fstC c = c := by
    unfold fstC flgC
    split
    · rw [if_neg (by omega), if_neg (by omega)]
    · rfl
  unfold secC secA
  rw [e0]
  split
  · rename_i e
    exact ⟨hitC_no (hn e.2.1 e.2.2), fun i hi => drwA_low _ _ _ _ hi⟩
  · exact ⟨rfl, fun i _ => rfl⟩
theorem HI.step (h : HI Y X lk k A c) (hY : 0 ≤ Y ∧ Y < 230) (hk : 0 ≤ k ∧ k < 256) (hX : 0 ≤ X ∧ X < 256) (hlt : c.line = Y + 1 → c.dot < 1 + fdX X k) :
    HI Y X lk k (fouA A c) (clkC A c) ∧ 341 * (clkC A c).line + (clkC A c).dot = 341 * c.line + c.dot + 1 := by
  have hl := h.line
  have hd := h.dot
  have hf := fdX_b X k hX
  obtain ⟨s1, s2⟩ := h.sec hY (fun e1 e2 => h.hit_no hk hX (c.dot - 1) (by omega) (by omega) (fun e => by have := hlt e; omega))
  have e3 : thiC A c = c ∨ thiC A c = withS c (movL c) := by
    unfold thiC; rw [s1]; split
    · exact .inr rfl
    · exact .inl rfl
  obtain ⟨t1, t2, t3, t4, t5, t6⟩ := thiC_f A h.lin
  have t7 : (thiC A c).con = 0 ∧ (thiC A c).hit = false := by
    rcases e3 with e | e <;> rw [e] <;> exact ⟨h.con, h.hit⟩
  rw [if_neg (by omega)] at t4
  rw [h.msk] at t3
  rw [h.fr] at t4
  have hb2 : HB (secA A c) Y X lk := h.hb.congr fun i hi => s2 i (by omega)
  have hs : shw (thiC A c) 24 = shw c 24 := shw_msk (t3.trans h.msk.symm) 24
  -- what is picked
  have hF : HB (fouA A c) Y X lk ∧ (fouC A c).line = c.line ∧ (fouC A c).dot = c.dot ∧ (fouC A c).msk = k ∧ (fouC A c).con = 0 ∧ (fouC A c).fr = 0 ∧ (fouC A c).hit = false ∧ LIn (scrC (fouC A c)) ∧
      (c.line < Y ∨ (c.line = Y ∧ c.dot < 257) ∨ shw c 24 = false → (fouC A c).cnt = 0) ∧
      (¬ (c.line < Y ∨ (c.line = Y ∧ c.dot < 257)) → shw c 24 = true → (fouC A c).cnt = 1 ∧ P1 (fouA A c) X) := by
    by_cases e : c.dot = 257
    · have hy : c.line ≤ Y := by
        rcases (by omega : c.line ≤ Y ∨ c.line = Y + 1) with q | q
        · exact q
        · have := hlt q; omega
      have k1 : fouA A c = pckA (secA A c) (thiC A c) := if_pos e
      have k2 : fouC A c = pckC (secA A c) (thiC A c) := if_pos e
      obtain ⟨f1, f2, f3, f4, f5, f6, f7⟩ := pckC_f (secA A c) (thiC A c)
      have f8 : (pckC (secA A c) (thiC A c)).con = 0 ∧ (pckC (secA A c) (thiC A c)).hit = false := by
        unfold pckC; split <;> exact t7
      rw [k1, k2]
      have hA : ∀ i, i < 10538 → pckA (secA A c) (thiC A c) i = secA A c i := fun i hi => by
        unfold pckA; split
        · exact selR_other _ _ _ _ (.inl hi)
        · rfl
      refine ⟨hb2.congr hA, f3.trans t1, f4.trans t2, f2.trans t3, f8.1, f5.trans t4, f8.2, by rw [f7]; exact t6, fun q => ?_, fun q q2 => ?_⟩
      · by_cases q2 : shw c 24 = true
        · exact (hb2.pick_no t7.1 (by rw [t1]; omega) (by rw [t1]; rcases q with q | q | q; exact q; omega; rw [q2] at q; exact absurd q (by decide))).2
        · unfold pckC; rw [if_neg (fun z => q2 (hs ▸ z.2))]
      · have hy2 : c.line = Y := by omega
        obtain ⟨p0, p1, p2, p3, p4, p5⟩ := hb2.pick_yes t7.1 (by rw [t1]; omega) (by rw [t1]; exact hy2) (hs.trans q2)
        exact ⟨p0, ⟨p1, p2, p3, p4⟩⟩
    · have k1 : fouA A c = secA A c := if_neg e
      have k2 : fouC A c = thiC A c := if_neg e
      rw [k1, k2]
      refine ⟨hb2, t1, t2, t3, t7.1, t4, t7.2, t6, fun q => ?_, fun q q2 => ?_⟩
      · rw [t5]; exact h.no (by rcases q with q | q | q; exact .inl q; exact .inr (.inl ⟨q.1, by omega⟩); exact .inr (.inr q))
      · obtain ⟨p0, p1⟩ := h.yes (by omega) q2
        exact ⟨t5.trans p0, p1.congr fun i h1 h2 => s2 i (by omega)⟩
  obtain ⟨g0, g1, g2, g3, g4, g5, g6, g7, g8, g9⟩ := hF
  have gs : ∀ d : PC, d.msk = (fouC A c).msk → shw d 24 = shw c 24 := fun d hd => shw_msk (hd.trans (g3.trans h.msk.symm)) 24
  have el : lasC (fouC A c) = 340 := by unfold lasC; rw [if_neg (fun q => by have := q.1; omega)]
  unfold clkC nexC
  rw [el, g2, g1]
  by_cases e : c.dot < 340
  · rw [if_pos e]
    refine ⟨⟨g0, g3, g4, g5, g7, g6, ?_, ?_, ?_, ?_, ?_⟩, ?_⟩
    · show 0 ≤ c.line ∧ c.line ≤ Y + 1; omega
    · show 0 ≤ c.dot + 1 ∧ c.dot + 1 ≤ 340; omega
    · intro q; have q1 : c.line = Y + 1 := q
      have := hlt (by omega)
      show c.dot + 1 ≤ 1 + fdX X k; omega
    · intro q
      refine g8 ?_
      rcases q with q | q | q
      · have q1 : c.line < Y := q
        omega
      · have q1 : c.line = Y := q.1
        have q2 : c.dot + 1 ≤ 257 := q.2
        omega
      · exact .inr (.inr ((gs _ rfl).symm.trans q))
    · intro q q2
      refine g9 (fun z => q ?_) ((gs _ rfl).symm.trans q2)
      rcases z with z | z
      · exact .inl (by show c.line < Y; omega)
      · exact .inr ⟨by show c.line = Y; omega, by show c.dot + 1 ≤ 257; omega⟩
    · show 341 * c.line + (c.dot + 1) = _; omega
  · rw [if_neg e, if_neg (by omega)]
    have hy : c.line ≤ Y := by
      rcases (by omega : c.line ≤ Y ∨ c.line = Y + 1) with q | q
      · exact q
      · have := hlt q; omega
    refine ⟨⟨g0, g3, g4, g5, g7, g6, ?_, ?_, ?_, ?_, ?_⟩, ?_⟩
    · show 0 ≤ c.line + 1 ∧ c.line + 1 ≤ Y + 1; omega
    · exact ⟨Int.le_refl 0, (by decide : (0 : Int) ≤ 340)⟩
    · intro q; show 0 ≤ 1 + fdX X k; omega
    · intro q
      refine g8 ?_
      rcases q with q | q | q
      · have q1 : c.line + 1 < Y := q
        omega
      · have q1 : c.line + 1 = Y := q.1
        omega
      · exact .inr (.inr ((gs _ rfl).symm.trans q))
    · intro q q2
      refine g9 (fun z => q ?_) ((gs _ rfl).symm.trans q2)
      rcases z with z | z
      · rcases (by omega : c.line + 1 < Y ∨ c.line + 1 = Y) with y | y
        · exact .inl y
        · exact .inr ⟨y, (by decide : (0 : Int) ≤ 257)⟩
      · omega
    · show 341 * (c.line + 1) + 0 = _; omega

/-- at the first dot -/
theorem HI.last (h : HI Y X lk k A c) (hY : 0 ≤ Y ∧ Y < 230) (hk : 0 ≤ k ∧ k < 256) (hX : 0 ≤ X ∧ X < 256) (e1 : c.line = Y + 1) (e2 : c.dot = 1 + fdX X k) :
    (clkC A c).hit = (decide (bits .and .u8 k 24 = 24) && decide (fdX X k < 255) && decide (fdX X k < X + 8)) := by
  have hf := fdX_b X k hX
  have hl := h.line
  have e0 : fstC c = c := by
    unfold fstC flgC
    split
    · rw [if_neg (by omega), if_neg (by omega)]
    · rfl
  have k0 : (clkC A c).hit = (fouC A c).hit := by unfold clkC nexC; split <;> rfl
  have k1 : (fouC A c).hit = (thiC A c).hit := by
    unfold fouC; split
    · unfold pckC; split <;> rfl
    · rfl
  have k2 : (thiC A c).hit = (secC A c).hit := by unfold thiC; split <;> rfl
  have k3 : secC A c = hitC A c (fdX X k) := by
    unfold secC; rw [if_pos (by omega), e0, e2, show 1 + fdX X k - 1 = fdX X k by omega]
  have k4 : (hitC A c (fdX X k)).hit = hitV A c (fdX X k) := by
    unfold hitC; split
    · rename_i q; exact q.symm
    · rename_i q; rw [h.hit]; exact (by simpa using q : hitV A c (fdX X k) = false).symm
  rw [k0, k1, k2, k3, k4]
  obtain ⟨b24, b24', b6⟩ := bits_k k hk
  by_cases hs : shw c 24 = true
  · obtain ⟨n1, p⟩ := h.yes (by omega) hs
    rw [hitV_one h.hb h.con h.lin n1 p _ hf.1, h.msk]
    have hx4 : 8 ≤ fdX X k ∨ (¬ bits .and .u8 k 4 = 0 ∧ ¬ bits .and .u8 k 2 = 0) := by
      unfold fdX
      by_cases q : X < 8 ∧ ¬ bits .and .u8 k 6 = 6
      · rw [if_pos q]; exact .inl (by omega)
      · rw [if_neg q]
        by_cases q2 : X < 8
        · exact .inr (b6.1 (by
            by_cases z : bits .and .u8 k 6 = 6
            · exact z
            · exact absurd ⟨q2, z⟩ q))
        · exact .inl (by omega)
    have i16 := shwV_is k 16 4 (fdX X k)
    have i8 := shwV_is k 8 2 (fdX X k)
    have d1 : (decide (shwV k 16 4 (fdX X k) = true ∧ 0 ≤ fdX X k - X ∧ fdX X k - X < 8)) = (decide (¬ bits .and .u8 k 16 = 0) && decide (fdX X k < X + 8)) := by
      rw [← Bool.decide_and]
      refine decide_eq_decide.2 ⟨fun q => ⟨(i16.1 q.1).1, by omega⟩, fun q => ⟨i16.2 ⟨q.1, hx4.imp_right (·.1)⟩, by omega, by omega⟩⟩
    have d2 : shwV k 8 2 (fdX X k) = decide (¬ bits .and .u8 k 8 = 0) := by
      by_cases q : bits .and .u8 k 8 = 0
      · rw [decide_eq_false (fun z => z q)]
        rcases Bool.eq_false_or_eq_true (shwV k 8 2 (fdX X k)) with z | z
        · exact absurd q (i8.1 z).1
        · exact z
      · rw [decide_eq_true q]; exact i8.2 ⟨q, hx4.imp_right (·.2)⟩
    have d3 : decide (bits .and .u8 k 24 = 24) = (decide (¬ bits .and .u8 k 8 = 0) && decide (¬ bits .and .u8 k 16 = 0)) := by
      rw [← Bool.decide_and]; exact decide_eq_decide.2 b24'
    have d4 : decide (fdX X k ≠ 255) = decide (fdX X k < 255) := decide_eq_decide.2 (by omega)
    rw [d1, d2, d3, d4]
    cases decide (¬ bits .and .u8 k 16 = 0) <;> cases decide (¬ bits .and .u8 k 8 = 0) <;> cases decide (fdX X k < 255) <;> cases decide (fdX X k < X + 8) <;> rfl
  · have hs2 : shw c 24 = false := by simpa using hs
    rw [hitV_none (h.no (.inr (.inr hs2)))]
    have : bits .and .u8 k 24 = 0 := by
      have := hs2; unfold shw at this; rw [h.msk] at this; simpa using this
    rw [this]; rfl

end Go.Proofs.Ythldppdkheclkaa

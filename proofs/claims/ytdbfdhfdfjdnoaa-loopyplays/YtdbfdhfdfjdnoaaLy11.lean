/- Both scrolls, side by side: each act keeps them alike; like (walk). No law is claimed here. -/
import Derived.Test.YtdbfdhfdfjdnoaaLy10
namespace Go.Proofs.Ytdbfdhfdfjdnoaa
open Go.RowKit

/-- the scroll that the document's is -/
def lsX (X : XS) : LS := ⟨X.p.n, X.q.n, X.x, X.w⟩
structure XF (X : XS) : Prop where
  p : X.p.F
  q : X.q.F
  x : 0 ≤ X.x ∧ X.x < 8
theorem XF.in {X : XS} (h : XF X) : LIn (lsX X) := ⟨h.p.is.1, h.q.is.1, h.x⟩
theorem ins2 {s : LS} (h : LOk s) : insL (insL s) = insL s := insL_id (insL_in h)
theorem PL.F.is {p : PL} (h : p.F) : (0 ≤ p.n ∧ p.n < 32768) ∧ p.n % 32 = p.c ∧ p.n / 32 % 32 = p.l ∧ p.n / 1024 % 2 = p.a ∧ p.n / 2048 % 2 = p.d ∧ p.n / 4096 = p.r := Fld.is h
/-- s is what the document's X is, as far as its registers go -/
structure Sim (s : LS) (X : XS) : Prop where
  ok : LOk s
  f : XF X
  e : insL s = lsX X
theorem Sim.of {X : XS} (f : XF X) : Sim (lsX X) X := ⟨f.in.ok, f, insL_id f.in⟩

theorem con_sim {s : LS} {X : XS} (h : Sim s X) (b : Int) (hb : 0 ≤ b ∧ b < 256) : conL s b = lsX (conX X b) ∧ XF (conX X b) := by
  have e : conL s b = conL (insL s) b := by unfold conL; rw [ins2 h.ok]
  rw [e, h.e, conL_is h.f.in b hb]
  obtain ⟨p, q, x, w⟩ := X
  obtain ⟨c, l, a, d, r⟩ := q
  obtain ⟨f1, f2, f3, f4, f5⟩ := h.f.q
  simp only at f1 f2 f3 f4 f5
  refine ⟨?_, h.f.p, ⟨f1, f2, ?_, ?_, f5⟩, h.f.x⟩
  · unfold lsX conX PL.n enc
    apply ls_ext <;> first | rfl | (simp only; omega)
  · simp only [conX]; omega
  · simp only [conX]; omega
theorem off_sim {s : LS} {X : XS} (h : Sim s X) (b : Int) (hb : 0 ≤ b ∧ b < 256) : offL s b = lsX (offX X b) ∧ XF (offX X b) := by
  have e : offL s b = offL (insL s) b := by unfold offL; rw [ins2 h.ok]; rfl
  rw [e, h.e]
  obtain ⟨p, q, x, w⟩ := X
  obtain ⟨c, l, a, d, r⟩ := q
  have hin := h.f.in
  obtain ⟨f1, f2, f3, f4, f5⟩ := h.f.q
  simp only at f1 f2 f3 f4 f5
  cases w
  · rw [offL_f hin b hb rfl]
    refine ⟨?_, h.f.p, ⟨?_, f2, f3, f4, f5⟩, ?_⟩
    · unfold lsX offX PL.n enc
      apply ls_ext <;> first | rfl | (simp only [if_false, Bool.false_eq_true]; omega)
    · simp only [offX, if_false, Bool.false_eq_true]; omega
    · simp only [offX, if_false, Bool.false_eq_true]; omega
  · rw [offL_t hin b hb rfl]
    refine ⟨?_, h.f.p, ⟨f1, ?_, f3, f4, ?_⟩, h.f.x⟩
    · unfold lsX offX PL.n enc
      apply ls_ext <;> first | rfl | (simp only [if_true]; omega)
    · simp only [offX, if_true]; omega
    · simp only [offX, if_true]; omega
theorem adr_sim {s : LS} {X : XS} (h : Sim s X) (b : Int) (hb : 0 ≤ b ∧ b < 256) : adrL s b = lsX (adrX X b) ∧ XF (adrX X b) := by
  have e : adrL s b = adrL (insL s) b := by unfold adrL; rw [ins2 h.ok]; rfl
  rw [e, h.e]
  obtain ⟨p, q, x, w⟩ := X
  have hin := h.f.in
  have hq := h.f.q.is.1
  simp only at hq
  cases w
  · rw [adrL_f hin b hb rfl]
    refine ⟨?_, h.f.p, ofP_F _, h.f.x⟩
    unfold lsX adrX
    simp only [if_false, Bool.false_eq_true]
    rw [ofP_n _ (by omega)]
  · rw [adrL_t hin b hb rfl]
    refine ⟨?_, ofP_F _, ofP_F _, h.f.x⟩
    unfold lsX adrX
    simp only [if_true]
    rw [ofP_n _ (by omega)]
theorem look_sim {s : LS} {X : XS} (h : Sim s X) : lookL s = lsX { X with w := false } ∧ XF { X with w := false } := by
  refine ⟨?_, h.f.p, h.f.q, h.f.x⟩
  unfold lookL
  rw [h.e]
  rfl
theorem step_sim {s : LS} {X : XS} (h : Sim s X) (far : Bool) : stepL s far = lsX (stepX X far) ∧ XF (stepX X far) := by
  have hv := h.ok.v
  have e1 : s.v % 32768 = X.p.n := by have := congrArg LS.v h.e; rw [insL_is h.ok] at this; exact this
  have e2 : s.t % 32768 = X.q.n := by have := congrArg LS.t h.e; rw [insL_is h.ok] at this; exact this
  have e3 : s.x % 8 = X.x := by have := congrArg LS.x h.e; rw [insL_is h.ok] at this; exact this
  have e4 : s.w = X.w := congrArg LS.w h.e
  have hk : 0 ≤ (if far = true then (32 : Int) else 1) ∧ (if far = true then (32 : Int) else 1) ≤ 32 := by split <;> omega
  refine ⟨?_, ofP_F _, h.f.q, h.f.x⟩
  unfold stepL stepX lsX
  simp only
  generalize (if far = true then (32 : Int) else 1) = k at *
  rw [insL_is (s := { s with v := IntKind.u16.wrap (s.v + k) }) ⟨by simp only; rw [wrap_u16_mod]; omega, h.ok.t, h.ok.x⟩, wrap_u16_mod, ofP_n _ (by omega), ← e1]
  apply ls_ext <;> first | assumption | (simp only; omega)
theorem rig_sim {s : LS} {X : XS} (h : Sim s X) : rigL s = lsX (rigX X) ∧ XF (rigX X) := by
  have e : rigL s = rigL (insL s) := by unfold rigL; rw [ins2 h.ok]
  rw [e, h.e]
  obtain ⟨g1, g2, _⟩ := rig_f (w := X.w) h.f.p h.f.q.is.1 h.f.x
  exact ⟨g1, g2, h.f.q, h.f.x⟩
theorem dow_sim {s : LS} {X : XS} (h : Sim s X) : dowL s = lsX (dowX X) ∧ XF (dowX X) := by
  have e : dowL s = dowL (insL s) := by unfold dowL; rw [ins2 h.ok]
  rw [e, h.e]
  obtain ⟨g1, g2, _⟩ := dow_f (w := X.w) h.f.p h.f.q.is.1 h.f.x
  exact ⟨g1, g2, h.f.q, h.f.x⟩
theorem lin_sim {s : LS} {X : XS} (h : Sim s X) : linL s = lsX (linX X) ∧ XF (linX X) := by
  have e : linL s = linL (insL s) := by unfold linL; rw [ins2 h.ok]
  rw [e, h.e, linL_is h.f.in]
  obtain ⟨i1, i2, i3, i4, i5, i6⟩ := h.f.p.is
  obtain ⟨j1, j2, j3, j4, j5, j6⟩ := h.f.q.is
  refine ⟨?_, ⟨h.f.q.c, h.f.p.l, h.f.q.a, h.f.p.d, h.f.p.r⟩, h.f.q, h.f.x⟩
  unfold lsX linX
  simp only
  rw [i2, i4, j2, j4]
  clear i1 i2 i3 i4 i5 i6 j1 j2 j3 j4 j5 j6
  apply ls_ext <;> first | rfl | (unfold PL.n enc; simp only; omega)
theorem top_sim {s : LS} {X : XS} (h : Sim s X) : topL s = lsX (topX X) ∧ XF (topX X) := by
  have e : topL s = topL (insL s) := by unfold topL; rw [ins2 h.ok]
  rw [e, h.e, topL_is h.f.in]
  obtain ⟨i1, i2, i3, i4, i5, i6⟩ := h.f.p.is
  obtain ⟨j1, j2, j3, j4, j5, j6⟩ := h.f.q.is
  have i7 : X.p.n / 2048 % 16 = X.p.d + 2 * X.p.r := Fld.is7 h.f.p
  have j7 : X.q.n / 2048 % 16 = X.q.d + 2 * X.q.r := Fld.is7 h.f.q
  refine ⟨?_, ⟨h.f.p.c, h.f.q.l, h.f.p.a, h.f.q.d, h.f.q.r⟩, h.f.q, h.f.x⟩
  unfold lsX topX
  simp only
  rw [i3, j3, i7, j7]
  clear i1 i2 i3 i4 i5 i6 j1 j2 j3 j4 j5 j6 i7 j7
  apply ls_ext <;> first | rfl | (unfold PL.n enc; simp only; omega)
theorem own_sim {v t x : Int} {w : Bool} (h : LOk ⟨v, t, x, w⟩) : Sim ⟨v, t, x, w⟩ ⟨ofP (v % 32768), ofP (t % 32768), x % 8, w⟩ := by
  have h1 := h.v
  have h2 := h.t
  have h3 := h.x
  simp only at h1 h2 h3
  refine ⟨h, ⟨ofP_F _, ofP_F _, by simp only; omega⟩, ?_⟩
  rw [insL_is h]
  unfold lsX
  simp only
  rw [ofP_n _ (by omega), ofP_n _ (by omega)]

end Go.Proofs.Ytdbfdhfdfjdnoaa

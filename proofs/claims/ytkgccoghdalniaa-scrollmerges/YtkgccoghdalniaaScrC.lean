/- What is read of a log that is cut off: plain mathematics. No law is claimed here. -/
import Derived.Test.YtkgccoghdalniaaScrS
namespace Go.Proofs.Ytkgccoghdalniaa
open Go.RowKit

def catF (cs : List (List UInt8)) : List UInt8 := (cs.map frameN).flatten
theorem catF_len (cs : List (List UInt8)) : (catF cs).length = flen cs := rfl
theorem catF_append (cs ds : List (List UInt8)) : catF (cs ++ ds) = catF cs ++ catF ds := by simp [catF]
theorem catF_cons (c : List UInt8) (cs : List (List UInt8)) : catF (c :: cs) = frameN c ++ catF cs := by simp [catF]

theorem readN_stop (f : Nat) (s : Rs) (k e : Nat) (ys : List UInt8) (h : ys.length = 0 ∨ nextE ys = 2) : readN f s k e ys = .ok s.gs e := by
  cases f with
  | zero => rfl
  | succ f =>
    rw [readN_succ]
    by_cases h0 : ys.length = 0
    · rw [if_pos h0]
    · rw [if_neg h0, if_pos (by rcases h with h | h; exact absurd h h0; exact h)]
theorem take_frame (c r : List UInt8) (K : Nat) (hc : c.length ≤ 16777216) (hK : K < 8 + c.length) : ((frameN c ++ r).take K).length = 0 ∨ nextE ((frameN c ++ r).take K) = 2 := by
  have hl := frameN_len c
  rw [List.take_append_of_le_length (by omega)]
  by_cases h0 : K = 0
  · left; subst h0; simp
  · right
    have := frame_cut c K hc (by omega)
    rw [if_neg h0] at this
    exact this

def Keeps (c : List UInt8) : Prop := c.length ≤ 16777216 ∧ ∀ s, ∃ s', takeS s c = some (false, s') ∧ s'.gs = s.gs
theorem read_part (last : List UInt8) (hl : last.length ≤ 16777216) (cs : List (List UInt8)) : ∀ (f : Nat) (s : Rs) (k e K : Nat), (∀ c ∈ cs, Keeps c) → K < flen cs + (8 + last.length) → K < f →
    readN f s k e ((catF (cs ++ [last])).take K) = .ok s.gs e := by
  induction cs with
  | nil =>
    intro f s k e K _ hK hf
    have : catF ([] ++ [last]) = frameN last ++ [] := by simp [catF]
    rw [this]
    exact readN_stop _ _ _ _ _ (take_frame last [] K hl (by simpa [flen] using hK))
  | cons c cs ih =>
    intro f s k e K hc hK hf
    rw [List.cons_append, catF_cons]
    obtain ⟨hcl, hck⟩ := hc c (by simp)
    have hlen := frameN_len c
    rcases Nat.lt_or_ge K (8 + c.length) with h | h
    · exact readN_stop _ _ _ _ _ (take_frame c _ K hcl h)
    · obtain ⟨f, rfl⟩ : ∃ f', f = f' + 1 := ⟨f - 1, by omega⟩
      rw [List.take_append, List.take_of_length_le (by omega), hlen]
      obtain ⟨n1, n2⟩ := next_frame c ((catF (cs ++ [last])).take (K - (c.length + 8))) hcl
      obtain ⟨s', hs', hg⟩ := hck s
      rw [readN_succ, if_neg (by rw [List.length_append]; omega), if_neg (by omega), if_neg (by omega), n2, hs']
      simp only
      have hd : (frameN c ++ (catF (cs ++ [last])).take (K - (c.length + 8))).drop (8 + c.length) = (catF (cs ++ [last])).take (K - (c.length + 8)) := by
        rw [List.drop_append_of_le_length (by omega), List.drop_of_length_le (by omega), List.nil_append]
      rw [hd, ih f s' _ _ _ (fun c' h' => hc c' (by simp [h'])) (by rw [flen_cons] at hK; omega) (by omega), hg]
      simp

theorem keeps_rec (g i : Nat) (x : Wm) (hg : g < 4294967296) (hi : i < 4294967296) (hx : okW x) : Keeps (recX g i x) := by
  refine ⟨?_, fun s => ⟨_, takeS_rec s g i x hg hi hx, ?_⟩⟩
  · have := okW_lt hx; unfold recX; rw [recC_len]; omega
  · split
    · rfl
    · split <;> rfl
theorem keeps_recs (g : Nat) (ws : List Wm) (hg : g < 4294967296) (hn : ws.length ≤ 1000) (hok : ∀ x ∈ ws, okW x) : ∀ c ∈ ws.mapIdx (recX g), Keeps c := by
  intro c hc
  rw [List.mem_mapIdx] at hc
  obtain ⟨i, hi, rfl⟩ := hc
  exact keeps_rec g i _ hg (by omega) (hok _ (List.getElem_mem hi))

theorem allC_cons (g : Gm) (gl : List Gm) : allC (g :: gl) = gcs g.num.toNat g.ws ++ allC gl := by simp [allC]
theorem allC_append (gl hl : List Gm) : allC (gl ++ hl) = allC gl ++ allC hl := by simp [allC]
theorem flen_gcs_pos (g : Nat) (ws : List Wm) : 0 < flen (gcs g ws) := by
  unfold gcs
  rw [flen_append, flen_cons]
  omega

/-- where a log is cut off: the first groups, whole -/
theorem read_cut (gl : List Gm) : ∀ (f : Nat) (gs : List Gm) (num : Int) (k0 e0 K : Nat), (∀ g ∈ gl, okG g) → K ≤ flen (allC gl) → K < f →
    ∃ n, n ≤ gl.length ∧ (∀ i, i < n → flen (allC (gl.take (i + 1))) ≤ K) ∧ (n < gl.length → K < flen (allC (gl.take (n + 1)))) ∧
      readN f ⟨gs, num, []⟩ k0 e0 ((catF (allC gl)).take K) = .ok (gs ++ gl.take n) (if n = 0 then e0 else k0 + flen (allC (gl.take n))) := by
  induction gl with
  | nil =>
    intro f gs num k0 e0 K _ _ _
    refine ⟨0, by simp, by simp, by simp, ?_⟩
    have : (catF (allC ([] : List Gm))).take K = [] := by simp [allC, catF]
    rw [this, readN_nil]
    simp
  | cons g gl ih =>
    intro f gs num k0 e0 K hok hK hf
    obtain ⟨h1, h2, h3, h4, h5⟩ := hok g (by simp)
    have hgn : ((g.num.toNat : Nat) : Int) = g.num := by omega
    rcases Nat.lt_or_ge K (flen (gcs g.num.toNat g.ws)) with h | h
    · refine ⟨0, by simp, by simp, fun _ => ?_, ?_⟩
      · simp only [List.take_succ_cons, List.take_zero, Nat.zero_add]
        rw [allC_cons]
        simpa [allC] using h
      · rw [allC_cons, catF_append, List.take_append_of_le_length (by rw [catF_len]; omega)]
        unfold gcs at h ⊢
        rw [flen_append, flen_cons] at h
        have := read_part (markC g.num.toNat g.ws.length) (by rw [markC_len]; omega) (g.ws.mapIdx (recX g.num.toNat)) f ⟨gs, num, []⟩ k0 e0 K (keeps_recs _ _ (by omega) h4 h5) (by simpa [flen] using h) hf
        rw [this]
        simp
    · have hr := runC_group g.num.toNat g.ws gs num k0 e0 (by omega) h3 (by omega) h5
      have hge := flen_ge (gcs g.num.toNat g.ws)
      have hpos := flen_gcs_pos g.num.toNat g.ws
      obtain ⟨f', hf'⟩ : ∃ f', f = f' + (gcs g.num.toNat g.ws).length := ⟨f - (gcs g.num.toNat g.ws).length, by omega⟩
      rw [allC_cons, flen_append] at hK
      obtain ⟨n, hn, ha, hb, hc⟩ := ih f' (gs ++ [⟨g.num.toNat, g.ws⟩]) 0 (k0 + flen (gcs g.num.toNat g.ws)) (k0 + flen (gcs g.num.toNat g.ws)) (K - flen (gcs g.num.toNat g.ws)) (fun g' h' => hok g' (by simp [h'])) (by omega) (by omega)
      have htk : ∀ j, flen (allC ((g :: gl).take (j + 1))) = flen (gcs g.num.toNat g.ws) + flen (allC (gl.take j)) := fun j => by rw [List.take_succ_cons, allC_cons, flen_append]
      refine ⟨n + 1, by simp; omega, fun i hi => ?_, fun hi => ?_, ?_⟩
      · rw [htk]
        cases i with
        | zero => simp [allC, flen] at h ⊢; exact h
        | succ i => have := ha i (by omega); omega
      · rw [htk]
        have := hb (by simp at hi; omega)
        omega
      · rw [allC_cons, catF_append, List.take_append, List.take_of_length_le (by rw [catF_len]; exact h), catF_len, hf']
        have hrun := readN_run (gcs g.num.toNat g.ws) f' ⟨gs, num, []⟩ k0 e0 _ _ _ ((catF (allC gl)).take (K - flen (gcs g.num.toNat g.ws))) (gcs_len _ _ h5) hr
        rw [show catF (gcs g.num.toNat g.ws) = ((gcs g.num.toNat g.ws).map frameN).flatten from rfl, hrun, hc, if_neg (show ¬ n + 1 = 0 by omega), htk, hgn]
        have hge : (⟨g.num, g.ws⟩ : Gm) = g := rfl
        rw [hge]
        by_cases hn0 : n = 0
        · subst hn0; simp [allC, flen]
        · rw [if_neg hn0]; simp [Nat.add_assoc]

theorem readL_cut (gl : List Gm) (K : Nat) (hok : ∀ g ∈ gl, okG g) (hK : K ≤ flen (allC gl)) :
    ∃ n, n ≤ gl.length ∧ (∀ i, i < n → flen (allC (gl.take (i + 1))) ≤ K) ∧ (n < gl.length → K < flen (allC (gl.take (n + 1)))) ∧
      readL ((catF (allC gl)).take K) = .ok (gl.take n) (if n = 0 then 0 else flen (allC (gl.take n))) := by
  have hlen : ((catF (allC gl)).take K).length = K := by rw [List.length_take, catF_len]; omega
  obtain ⟨n, h1, h2, h3, h4⟩ := read_cut gl (K + 1) [] 0 0 0 K hok hK (by omega)
  refine ⟨n, h1, h2, h3, ?_⟩
  unfold readL
  rw [hlen]
  simpa [rs0] using h4

end Go.Proofs.Ytkgccoghdalniaa

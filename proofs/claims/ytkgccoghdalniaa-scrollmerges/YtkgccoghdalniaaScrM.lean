/- What is read of the bytes of groups: plain mathematics of the log. No law is claimed here. -/
import Derived.Test.YtkgccoghdalniaaScrE
namespace Go.Proofs.Ytkgccoghdalniaa
open Go.RowKit

theorem lay_four (v : Nat) (h : v < 4294967296) : ∃ a b c d : UInt8, layN v 4 = [a, b, c, d] ∧ takeN [a, b, c, d] = v := by
  have hl := layN_len 4 v
  have ht := take_lay 4 v (by rw [pow4]; exact h)
  generalize layN v 4 = l at *
  match l, hl with
  | [a, b, c, d], _ => exact ⟨a, b, c, d, rfl, ht⟩

/-- a write that may be -/
def okW (x : Wm) : Prop := rightB (x.side.toNat : Int) x.pl x.data.length = true ∧ 0 ≤ x.pl
def recX (g i : Nat) (x : Wm) : List UInt8 := recC g i x.side x.pl.toNat x.data

theorem rec_parts (g i a : Nat) (s : UInt8) (d : List UInt8) (hg : g < 4294967296) (hi : i < 4294967296) (ha : a < 4294967296) :
    numC (recC g i s a d) 1 = g ∧ numC (recC g i s a d) 5 = i ∧ numC (recC g i s a d) 10 = a ∧ (recC g i s a d).getD 0 0 = 1 ∧ (recC g i s a d).getD 9 0 = s ∧ (recC g i s a d).drop 14 = d := by
  obtain ⟨g0, g1, g2, g3, e1, f1⟩ := lay_four g hg
  obtain ⟨i0, i1, i2, i3, e2, f2⟩ := lay_four i hi
  obtain ⟨a0, a1, a2, a3, e3, f3⟩ := lay_four a ha
  unfold numC recC
  rw [e1, e2, e3]
  exact ⟨f1, f2, f3, rfl, rfl, rfl⟩
theorem mark_parts (g n : Nat) (hg : g < 4294967296) (hn : n < 4294967296) : numC (markC g n) 1 = g ∧ numC (markC g n) 5 = n ∧ (markC g n).getD 0 0 = 2 := by
  obtain ⟨g0, g1, g2, g3, e1, f1⟩ := lay_four g hg
  obtain ⟨i0, i1, i2, i3, e2, f2⟩ := lay_four n hn
  unfold numC markC
  rw [e1, e2]
  exact ⟨f1, f2, rfl⟩

theorem okW_lt {x : Wm} (h : okW x) : x.pl.toNat < 4294967296 ∧ ((x.pl.toNat : Nat) : Int) = x.pl ∧ 1 ≤ x.data.length ∧ x.data.length ≤ 4096 := by
  have := rightB_true.1 h.1
  have := h.2
  omega
theorem takeS_rec (s : Rs) (g i : Nat) (x : Wm) (hg : g < 4294967296) (hi : i < 4294967296) (hx : okW x) :
    takeS s (recX g i x) = some (false, if (g : Int) = s.num ∧ i = s.ws.length then ⟨s.gs, s.num, s.ws ++ [x]⟩ else if i = 0 then ⟨s.gs, g, [x]⟩ else ⟨s.gs, g, []⟩) := by
  obtain ⟨h1, h2, h3, h4⟩ := okW_lt hx
  obtain ⟨p1, p2, p3, p4, p5, p6⟩ := rec_parts g i x.pl.toNat x.side x.data hg hi h1
  have hl := recC_len g i x.side x.pl.toNat x.data
  have hW : recW (recC g i x.side x.pl.toNat x.data) = x := by unfold recW; rw [p3, p5, p6, h2]
  have hR : isRec (recC g i x.side x.pl.toNat x.data) = true := by unfold isRec; rw [hl, p4]; simp; omega
  have hO : okRec (recC g i x.side x.pl.toNat x.data) = true := by unfold okRec; rw [p5, p3, hl, h2, show x.data.length + 14 - 14 = x.data.length from by omega]; exact hx.1
  unfold recX takeS
  rw [if_pos hR, if_pos hO]
  unfold recordN
  rw [p1, p2, hW]
theorem takeS_mark (s : Rs) (g n : Nat) (hg : g < 4294967296) (hn : n < 4294967296) :
    takeS s (markC g n) = some (if s.ws.length ≠ 0 ∧ (g : Int) = s.num ∧ n = s.ws.length then (true, ⟨s.gs ++ [⟨s.num, s.ws⟩], 0, []⟩) else (false, ⟨s.gs, 0, []⟩)) := by
  obtain ⟨p1, p2, p4⟩ := mark_parts g n hg hn
  have hl := markC_len g n
  have hR : ¬ isRec (markC g n) = true := by unfold isRec; rw [hl]; simp
  have hM : isMark (markC g n) = true := by unfold isMark; rw [hl, p4]; rfl
  unfold takeS
  rw [if_neg hR, if_pos hM]
  unfold markN
  rw [p1, p2]

/-- contents, one behind the other -/
def runC : List (List UInt8) → Rs → Nat → Nat → Option (Rs × Nat × Nat)
  | [], s, k, e => some (s, k, e)
  | c :: cs, s, k, e =>
    match takeS s c with
    | none => none
    | some (d, s') => runC cs s' (k + (8 + c.length)) (if d = true then k + (8 + c.length) else e)
theorem runC_cons (c : List UInt8) (cs : List (List UInt8)) (s : Rs) (k e : Nat) : runC (c :: cs) s k e = (match takeS s c with
    | none => none
    | some (d, s') => runC cs s' (k + (8 + c.length)) (if d = true then k + (8 + c.length) else e)) := rfl
theorem runC_nil (s : Rs) (k e : Nat) : runC [] s k e = some (s, k, e) := rfl
theorem readN_succ (f : Nat) (s : Rs) (k e : Nat) (ys : List UInt8) : readN (f + 1) s k e ys =
    (if ys.length = 0 then .ok s.gs e else if nextE ys = 2 then .ok s.gs e else if nextE ys ≠ 0 then .err (nextE ys) else
    match takeS s (nextC ys) with
    | none => .err 2
    | some (d, s') => readN f s' (k + (8 + (nextC ys).length)) (if d = true then k + (8 + (nextC ys).length) else e) (ys.drop (8 + (nextC ys).length))) := rfl
theorem map_mapIdx' {α β γ : Type} (f : Nat → α → β) (g : β → γ) (l : List α) : (l.mapIdx f).map g = l.mapIdx (fun i x => g (f i x)) := by
  apply List.ext_getElem <;> simp
theorem runC_append (cs ds : List (List UInt8)) : ∀ s k e s' k' e', runC cs s k e = some (s', k', e') → runC (cs ++ ds) s k e = runC ds s' k' e' := by
  induction cs with
  | nil => intro s k e s' k' e' h; simp [runC] at h; obtain ⟨rfl, rfl, rfl⟩ := h; rfl
  | cons c cs ih =>
    intro s k e s' k' e' h
    rw [List.cons_append, runC_cons]
    rw [runC_cons] at h
    cases ht : takeS s c with
    | none => rw [ht] at h; cases h
    | some p => obtain ⟨d, s1⟩ := p; rw [ht] at h; exact ih _ _ _ _ _ _ h
def flen (cs : List (List UInt8)) : Nat := ((cs.map frameN).flatten).length
theorem flen_cons (c : List UInt8) (cs : List (List UInt8)) : flen (c :: cs) = (8 + c.length) + flen cs := by unfold flen; simp [frameN_len]; omega
theorem flen_append (cs ds : List (List UInt8)) : flen (cs ++ ds) = flen cs + flen ds := by unfold flen; simp

theorem readN_run (cs : List (List UInt8)) : ∀ f s k e s' k' e' rest, (∀ c ∈ cs, c.length ≤ 16777216) → runC cs s k e = some (s', k', e') →
    readN (f + cs.length) s k e ((cs.map frameN).flatten ++ rest) = readN f s' k' e' rest := by
  induction cs with
  | nil => intro f s k e s' k' e' rest _ h; simp [runC] at h; obtain ⟨rfl, rfl, rfl⟩ := h; rfl
  | cons c cs ih =>
    intro f s k e s' k' e' rest hc h
    rw [List.map_cons, List.flatten_cons, List.append_assoc, List.length_cons, ← Nat.add_assoc]
    obtain ⟨n1, n2⟩ := next_frame c ((cs.map frameN).flatten ++ rest) (hc c (by simp))
    have hl := frameN_len c
    have he : f + cs.length + 1 = (f + cs.length) + 1 := rfl
    rw [he, readN_succ, if_neg (by simp; intro h; rw [h] at hl; simp at hl), if_neg (by omega), if_neg (by omega), n2]
    rw [runC_cons] at h
    cases ht : takeS s c with
    | none => rw [ht] at h; cases h
    | some p =>
      obtain ⟨d, s1⟩ := p
      rw [ht] at h
      simp only
      have hd : (frameN c ++ ((cs.map frameN).flatten ++ rest)).drop (8 + c.length) = (cs.map frameN).flatten ++ rest := by
        rw [List.drop_append_of_le_length (by omega), List.drop_of_length_le (by omega), List.nil_append]
      rw [hd]
      exact ih f _ _ _ _ _ _ rest (fun c' h' => hc c' (by simp [h'])) h

/-- the contents of a group's frames -/
def gcs (g : Nat) (ws : List Wm) : List (List UInt8) := ws.mapIdx (recX g) ++ [markC g ws.length]
theorem bytes_gcs (g : Nat) (ws : List Wm) : bytesN g ws = (gcs g ws).map frameN := by
  unfold bytesN gcs recsN
  rw [List.map_append, map_mapIdx']
  rfl

theorem runC_recs (g : Nat) (hg : g < 4294967296) (gs : List Gm) : ∀ (n : Nat) (ws : List Wm) (num : Int) (k e : Nat), ws.length = n → n < 4294967296 → 0 < n → (∀ x ∈ ws, okW x) →
    runC (ws.mapIdx (recX g)) ⟨gs, num, []⟩ k e = some (⟨gs, g, ws⟩, k + flen (ws.mapIdx (recX g)), e) := by
  intro n
  induction n with
  | zero => intro ws num k e _ _ h0; omega
  | succ n ih =>
    intro ws num k e hl hn _ hok
    rcases List.eq_nil_or_concat ws with rfl | ⟨vs, x, rfl⟩
    · simp at hl
    · have hlv : vs.length = n := by simp at hl; exact hl
      have hx : okW x := hok x (by simp)
      rw [List.concat_eq_append, List.mapIdx_concat, flen_append]
      rcases Nat.eq_zero_or_pos n with h0 | h0
      · have : vs = [] := List.eq_nil_of_length_eq_zero (by omega)
        subst this
        simp only [List.mapIdx_nil, List.nil_append, List.length_nil]
        rw [runC_cons, takeS_rec _ g 0 x hg (by omega) hx]
        simp only [List.length_nil, and_true, runC]
        have hfl : flen [recX g 0 x] = 8 + (recX g 0 x).length := by rw [flen_cons]; rfl
        by_cases hgn : (g : Int) = num
        · rw [if_pos hgn]; simp only [List.nil_append]; rw [← hgn, hfl]; simp [flen]
        · rw [if_neg hgn]; rw [hfl]; simp [flen]
      · have ih' := ih vs num k e hlv (by omega) h0 (fun y hy => hok y (by simp [hy]))
        rw [runC_append _ _ _ _ _ _ _ _ ih']
        rw [runC_cons, hlv, takeS_rec _ g n x hg (by omega) hx]
        simp only [hlv, and_self, if_true, runC]
        rw [flen_cons]
        simp [flen, Nat.add_assoc]

theorem runC_group (g : Nat) (ws : List Wm) (gs : List Gm) (num : Int) (k e : Nat) (hg : g < 4294967296) (h0 : ws ≠ []) (hn : ws.length < 4294967296) (hok : ∀ x ∈ ws, okW x) :
    runC (gcs g ws) ⟨gs, num, []⟩ k e = some (⟨gs ++ [⟨g, ws⟩], 0, []⟩, k + flen (gcs g ws), k + flen (gcs g ws)) := by
  have hpos : 0 < ws.length := List.length_pos_iff.2 h0
  have h1 := runC_recs g hg gs ws.length ws num k e rfl hn hpos hok
  unfold gcs
  rw [runC_append _ _ _ _ _ _ _ _ h1]
  rw [runC_cons, takeS_mark _ g ws.length hg hn]
  simp only
  rw [if_pos ⟨by omega, trivial, trivial⟩]
  simp only [runC, if_true]
  rw [flen_append, flen_cons]
  simp [flen, Nat.add_assoc]

/-- groups, one behind the other -/
def okG (g : Gm) : Prop := 0 ≤ g.num ∧ g.num < 4294967296 ∧ g.ws ≠ [] ∧ g.ws.length ≤ 1000 ∧ ∀ x ∈ g.ws, okW x
def allC (gl : List Gm) : List (List UInt8) := (gl.map fun g => gcs g.num.toNat g.ws).flatten
theorem runC_groups (gl : List Gm) : ∀ (gs : List Gm) (num : Int) (k e : Nat), (∀ g ∈ gl, okG g) →
    runC (allC gl) ⟨gs, num, []⟩ k e = some (⟨gs ++ gl, if gl = [] then num else 0, []⟩, k + flen (allC gl), if gl = [] then e else k + flen (allC gl)) := by
  induction gl with
  | nil => intro gs num k e _; simp [allC, runC, flen]
  | cons g gl ih =>
    intro gs num k e h
    obtain ⟨h1, h2, h3, h4, h5⟩ := h g (by simp)
    have hgn : ((g.num.toNat : Nat) : Int) = g.num := by omega
    have hr := runC_group g.num.toNat g.ws gs num k e (by omega) h3 (by omega) h5
    have hcons : allC (g :: gl) = gcs g.num.toNat g.ws ++ allC gl := by simp [allC]
    rw [hcons, runC_append _ _ _ _ _ _ _ _ hr, ih _ _ _ _ (fun g' hg' => h g' (by simp [hg'])), flen_append, hgn]
    have hge : (⟨g.num, g.ws⟩ : Gm) = g := rfl
    rw [hge]
    by_cases hn : gl = []
    · subst hn; simp [allC, flen]
    · simp [hn, Nat.add_assoc]

theorem gcs_len (g : Nat) (ws : List Wm) (h : ∀ x ∈ ws, okW x) : ∀ c ∈ gcs g ws, c.length ≤ 16777216 := by
  intro c hc
  unfold gcs at hc
  rw [List.mem_append] at hc
  rcases hc with hc | hc
  · rw [List.mem_mapIdx] at hc
    obtain ⟨i, hi, rfl⟩ := hc
    have := okW_lt (h ws[i] (List.getElem_mem hi))
    unfold recX
    rw [recC_len]; omega
  · simp at hc; subst hc; rw [markC_len]; omega
theorem allC_len (gl : List Gm) (h : ∀ g ∈ gl, okG g) : ∀ c ∈ allC gl, c.length ≤ 16777216 := by
  intro c hc
  simp [allC] at hc
  obtain ⟨_, ⟨g, hg, rfl⟩, hc⟩ := hc
  exact gcs_len _ _ (h g hg).2.2.2.2 c hc

theorem readN_nil (f : Nat) (s : Rs) (k e : Nat) : readN f s k e [] = .ok s.gs e := by cases f <;> simp [readN]
theorem flen_ge (cs : List (List UInt8)) : cs.length ≤ flen cs := by
  induction cs with
  | nil => simp
  | cons c cs ih => rw [flen_cons]; simp; omega
/-- of the bytes of groups the groups are read -/
theorem readL_groups (gl : List Gm) (h : ∀ g ∈ gl, okG g) : readL ((allC gl).map frameN).flatten = .ok gl (flen (allC gl)) := by
  have hr := runC_groups gl [] 0 0 0 h
  have hle := flen_ge (allC gl)
  unfold readL
  have hlen : ((allC gl).map frameN).flatten.length = flen (allC gl) := rfl
  rw [hlen]
  obtain ⟨f, hf⟩ : ∃ f, flen (allC gl) + 1 = f + (allC gl).length := ⟨flen (allC gl) + 1 - (allC gl).length, by omega⟩
  have := readN_run (allC gl) f rs0 0 0 _ _ _ [] (allC_len gl h) hr
  rw [List.append_nil] at this
  rw [hf, this, readN_nil]
  simp
  intro e
  rw [e]
  rfl

end Go.Proofs.Ytkgccoghdalniaa

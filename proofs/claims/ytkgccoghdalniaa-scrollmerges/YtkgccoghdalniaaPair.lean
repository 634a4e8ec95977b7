/- Two rows of the call's own that grow side by side; slices of slices of writes. No law is claimed here. -/
import Derived.Test.YtkgccoghdalniaaScrC
namespace Go.Proofs.Ytkgccoghdalniaa
open Go.RowKit

/-- slices of writes as elements -/
def shL : Shape (Option Addr × Nat × Nat) (List Wm) where
  k := 1
  raw s := [sv s]
  Ok w S s ws := RdX (shW .u8 .u32) w S s.1 s.2.1 s.2.2 ws
  pos := by omega
  len _ := rfl
  one r u h := by simp at h; subst h; rfl
  keep h hk hS := h.keep hk hS
theorem rdL_at {w : World} {S : Nat → Prop} {A : Option Addr} {n c : Nat} {wss : List (List Wm)} (h : RdX shL w S A n c wss) (j : Nat) (hj : j < wss.length) :
    ∃ b off A' n' c', A = some ⟨b, off, none⟩ ∧ S b ∧ w.cell? ⟨b, off + j, none⟩ = some (.slice A' n' c') ∧ RdX (shW .u8 .u32) w S A' n' c' wss[j] := by
  obtain ⟨b, off, e, hb, r, hc, h3⟩ := h.at_ j hj
  refine ⟨b, off, r.1, r.2.1, r.2.2, e, hb, ?_, h3⟩
  have := hc 0 _ rfl
  rw [show off + j * shL.k + 0 = off + j from by show off + j * 1 + 0 = off + j; omega] at this
  exact this
/-- ints as elements -/
def shI : Shape Int Int where
  k := 1
  raw z := [.int .i64 z]
  Ok _ _ r x := r = x
  pos := by omega
  len _ := rfl
  one r u h := by simp at h; subst h; rfl
  keep h _ _ := h
theorem rdI_at {w : World} {S : Nat → Prop} {A : Option Addr} {n c : Nat} {zs : List Int} (h : RdX shI w S A n c zs) (j : Nat) (hj : j < zs.length) :
    ∃ b off, A = some ⟨b, off, none⟩ ∧ S b ∧ w.cell? ⟨b, off + j, none⟩ = some (.int .i64 zs[j]) := by
  obtain ⟨b, off, e, hb, r, hc, h3⟩ := h.at_ j hj
  refine ⟨b, off, e, hb, ?_⟩
  have := hc 0 _ rfl
  rw [show off + j * shI.k + 0 = off + j from by show off + j * 1 + 0 = off + j; omega] at this
  rw [this]
  have h4 : r = zs[j] := h3
  rw [h4]

/-- what two rows lead to: blocks that are none of theirs -/
def SE (w : World) (A A2 : Option Addr) (b : Nat) : Prop := b < w.heap.size ∧ Off A b ∧ Off A2 b
structure Pr {ρ α σ β : Type} (T1 : Shape ρ α) (T2 : Shape σ β) (w : World) (base : Nat) (e1 e2 : TypeId) (A1 : Option Addr) (n1 c1 : Nat) (rs1 : List ρ) (xs1 : List α) (A2 : Option Addr) (n2 c2 : Nat) (rs2 : List σ) (xs2 : List β) : Prop where
  one : OwnX T1 w base e1 (SE w A1 A2) A1 n1 c1 rs1 xs1
  two : OwnX T2 w base e2 (SE w A1 A2) A2 n2 c2 rs2 xs2
  sep : ∀ k, A2.map (·.block) = some k → Off A1 k
theorem Pr.empty {ρ α σ β : Type} (T1 : Shape ρ α) (T2 : Shape σ β) (w : World) (base : Nat) (e1 e2 : TypeId) : Pr T1 T2 w base e1 e2 none 0 0 [] [] none 0 0 [] [] := ⟨OwnX.empty _ _ _ _ _, OwnX.empty _ _ _ _ _, fun k h => by simp at h⟩
section
variable {ρ α σ β : Type} {T1 : Shape ρ α} {T2 : Shape σ β} {w w' : World} {base : Nat} {e1 e2 : TypeId} {A1 : Option Addr} {n1 c1 : Nat} {rs1 : List ρ} {xs1 : List α} {A2 : Option Addr} {n2 c2 : Nat} {rs2 : List σ} {xs2 : List β}
theorem Pr.after (h : Pr T1 T2 w base e1 e2 A1 n1 c1 rs1 xs1 A2 n2 c2 rs2 xs2) (hb : Below w.heap.size w w') : Pr T1 T2 w' base e1 e2 A1 n1 c1 rs1 xs1 A2 n2 c2 rs2 xs2 := by
  have hsub : ∀ b, SE w A1 A2 b → SE w' A1 A2 b := fun b h => ⟨by have := h.1; have := hb.size; omega, h.2⟩
  exact ⟨(h.one.below hb (fun b h => h.1)).sub hsub, (h.two.below hb (fun b h => h.1)).sub hsub, h.sep⟩
theorem Pr.sub1 {g : Nat} (hat : A1.map (·.block) = some g ∨ g = w.heap.size + 1) (hs : w.heap.size ≤ w'.heap.size) : ∀ b, SE w A1 A2 b → SE w' (some ⟨g, 0, none⟩) A2 b :=
  fun b h => ⟨by have := h.1; omega, off_pushed hat (by have := h.1; omega) h.2.1, h.2.2⟩
theorem Pr.sub2 {g : Nat} (hat : A2.map (·.block) = some g ∨ g = w.heap.size + 1) (hs : w.heap.size ≤ w'.heap.size) : ∀ b, SE w A1 A2 b → SE w' A1 (some ⟨g, 0, none⟩) b :=
  fun b h => ⟨by have := h.1; omega, h.2.1, off_pushed hat (by have := h.1; omega) h.2.2⟩
theorem Pr.kp1 (hg : w.grownBy w' (A1.map (·.block))) : Kp (SE w A1 A2) w w' := Kp.grown hg (fun _ h => ⟨h.1, h.2.1⟩)
theorem Pr.kp2 (hg : w.grownBy w' (A2.map (·.block))) : Kp (SE w A1 A2) w w' := Kp.grown hg (fun _ h => ⟨h.1, h.2.2⟩)
theorem Pr.push1 (h : Pr T1 T2 w base e1 e2 A1 n1 c1 rs1 xs1 A2 n2 c2 rs2 xs2) {g cap : Nat} {r : ρ} {x : α} (hown : OwnX T1 w' base e1 (SE w A1 A2) (some ⟨g, 0, none⟩) (n1 + 1) cap (rs1 ++ [r]) (xs1 ++ [x]))
    (hg : w.grownBy w' (A1.map (·.block))) (hat : A1.map (·.block) = some g ∨ g = w.heap.size + 1) : Pr T1 T2 w' base e1 e2 (some ⟨g, 0, none⟩) (n1 + 1) cap (rs1 ++ [r]) (xs1 ++ [x]) A2 n2 c2 rs2 xs2 := by
  have hs := hg.size
  refine ⟨hown.sub (Pr.sub1 hat hs), h.two.keep (fun k hk => hg.block k (h.two.lt k hk).2 (fun e => h.sep k hk e)) (Pr.kp1 hg) (Pr.sub1 hat hs), fun k hk => ?_⟩
  exact off_pushed hat (by have := (h.two.lt k hk).2; omega) (h.sep k hk)
theorem Pr.push2 (h : Pr T1 T2 w base e1 e2 A1 n1 c1 rs1 xs1 A2 n2 c2 rs2 xs2) {g cap : Nat} {r : σ} {x : β} (hown : OwnX T2 w' base e2 (SE w A1 A2) (some ⟨g, 0, none⟩) (n2 + 1) cap (rs2 ++ [r]) (xs2 ++ [x]))
    (hg : w.grownBy w' (A2.map (·.block))) (hat : A2.map (·.block) = some g ∨ g = w.heap.size + 1) : Pr T1 T2 w' base e1 e2 A1 n1 c1 rs1 xs1 (some ⟨g, 0, none⟩) (n2 + 1) cap (rs2 ++ [r]) (xs2 ++ [x]) := by
  have hs := hg.size
  refine ⟨h.one.keep (fun k hk => hg.block k (h.one.lt k hk).2 (fun e => h.sep k e.symm hk.symm)) (Pr.kp2 hg) (Pr.sub2 hat hs), hown.sub (Pr.sub2 hat hs), fun k hk => ?_⟩
  have : k = g := by simpa using hk.symm
  subst this
  rcases hat with e | e
  · exact h.sep k e
  · exact h.one.off (by omega)
end

/-- the groups of ScrollCuts -/
def cutG (wss : List (List Wm)) : List Gm := ((wss.take 5).mapIdx fun i l => (⟨(i : Int), fewN true l⟩ : Gm)).filter (fun g => !g.ws.isEmpty)
theorem cutG_yes (wss : List (List Wm)) (k : Nat) (h : k < wss.length) (h5 : k < 5) (hn : fewN true wss[k] ≠ []) : cutG (wss.take (k + 1)) = cutG (wss.take k) ++ [⟨(k : Int), fewN true wss[k]⟩] := by
  unfold cutG
  rw [List.take_take, List.take_take, Nat.min_eq_right (by omega), Nat.min_eq_right (by omega), List.take_succ_eq_append_getElem h, List.mapIdx_concat, List.filter_append]
  simp [Nat.min_eq_left (Nat.le_of_lt h), hn]
theorem cutG_no (wss : List (List Wm)) (k : Nat) (h : k < wss.length) (hn : ¬ k < 5 ∨ fewN true wss[k] = []) : cutG (wss.take (k + 1)) = cutG (wss.take k) := by
  unfold cutG
  rcases Nat.lt_or_ge k 5 with h5 | h5
  · rw [List.take_take, List.take_take, Nat.min_eq_right (by omega), Nat.min_eq_right (by omega), List.take_succ_eq_append_getElem h, List.mapIdx_concat, List.filter_append]
    have : fewN true wss[k] = [] := by rcases hn with h' | h'; exact absurd h5 h'; exact h'
    simp [Nat.min_eq_left (Nat.le_of_lt h), this]
  · rw [List.take_take, List.take_take, Nat.min_eq_left h5, Nat.min_eq_left (by omega)]
theorem okW_fix (i : Nat) (x : Wm) : okW (fixW true i x) := by
  unfold fixW
  rw [if_pos rfl]
  have hs : ((UInt8.ofNat (x.side.toNat % 8)).toNat) = x.side.toNat % 8 := by rw [UInt8.toNat_ofNat']; omega
  refine ⟨rightB_true.2 ?_, ?_⟩
  · simp only [hs]
    have hd : (if (x.data.take 60).length = 0 then [UInt8.ofNat i] else x.data.take 60).length ≤ 60 ∧ 1 ≤ (if (x.data.take 60).length = 0 then [UInt8.ofNat i] else x.data.take 60).length := by
      split
      · simp
      · rename_i h; constructor
        · simp; omega
        · omega
    generalize (if (x.data.take 60).length = 0 then [UInt8.ofNat i] else x.data.take 60) = d at *
    omega
  · show 0 ≤ x.pl % 65000
    omega
theorem okW_few (ws : List Wm) : ∀ x ∈ fewN true ws, okW x ∧ x.data.length ≤ 60 ∧ x.pl < 65000 := by
  intro x hx
  unfold fewN at hx
  rw [List.mem_mapIdx] at hx
  obtain ⟨i, hi, rfl⟩ := hx
  refine ⟨okW_fix i _, ?_, ?_⟩
  · unfold fixW; rw [if_pos rfl]; simp only; split
    · simp
    · simp; omega
  · unfold fixW; rw [if_pos rfl]; simp only; omega
theorem few_ref (ws : List Wm) : (fewN true ws).map refW = fewN true ws := by
  have : ∀ l : List Wm, (∀ x ∈ l, x.pl < 65000) → l.map refW = l := by
    intro l
    induction l with
    | nil => intro _; rfl
    | cons x l ih =>
      intro h
      rw [List.map_cons, ih (fun y hy => h y (by simp [hy]))]
      have hx := h x (by simp)
      congr 1
      unfold refW
      rw [show min x.pl 100000 = x.pl from by omega]
  exact this _ (fun x hx => (okW_few ws x hx).2.2)
theorem okG_cut (wss : List (List Wm)) : ∀ g ∈ cutG wss, okG g := by
  intro g hg
  unfold cutG at hg
  rw [List.mem_filter, List.mem_mapIdx] at hg
  obtain ⟨⟨i, hi, rfl⟩, hn⟩ := hg
  simp at hi hn
  refine ⟨by show 0 ≤ (i : Int); omega, by show (i : Int) < _; omega, by simpa using hn, ?_, fun x hx => (okW_few _ x hx).1⟩
  show (fewN true _).length ≤ 1000
  rw [fewN_len]; omega
theorem okG_okS {g : Gm} (h : okG g) : okS g := by
  obtain ⟨_, _, _, h4, h5⟩ := h
  refine ⟨by omega, fun x hx => ?_⟩
  have h1 := okW_lt (h5 x hx)
  have h2 := (h5 x hx).2
  have h3 := rightB_true.1 (h5 x hx).1
  omega
def endsL (gl : List Gm) : List Int := (List.range gl.length).map fun i => ((flen (allC (gl.take (i + 1))) : Nat) : Int)
theorem endsL_len (gl : List Gm) : (endsL gl).length = gl.length := by simp [endsL]
theorem endsL_get (gl : List Gm) (i : Nat) (h : i < (endsL gl).length) : (endsL gl)[i] = ((flen (allC (gl.take (i + 1))) : Nat) : Int) := by simp [endsL]
theorem endsL_snoc (gl : List Gm) (g : Gm) : endsL (gl ++ [g]) = endsL gl ++ [((flen (allC (gl ++ [g])) : Nat) : Int)] := by
  apply List.ext_getElem
  · simp [endsL]
  · intro i h1 h2
    rw [endsL_get]
    rw [endsL_len, List.length_append] at h1
    simp at h1
    rcases Nat.lt_or_ge i gl.length with h | h
    · rw [List.getElem_append_left (by rw [endsL_len]; exact h), endsL_get, List.take_append_of_le_length (by omega)]
    · have : i = gl.length := by omega
      subst this
      rw [List.getElem_append_right (by rw [endsL_len]; omega), List.take_of_length_le (by simp)]
      simp
theorem cutG_len (wss : List (List Wm)) : (cutG wss).length ≤ 5 := by
  unfold cutG
  refine Nat.le_trans (List.length_filter_le _ _) ?_
  simp; omega
theorem flen_le (cs : List (List UInt8)) (L : Nat) (h : ∀ c ∈ cs, c.length ≤ L) : flen cs ≤ cs.length * (8 + L) := by
  induction cs with
  | nil => simp [flen]
  | cons c cs ih =>
    rw [flen_cons, List.length_cons, Nat.succ_mul]
    have h1 := ih (fun c' h' => h c' (by simp [h']))
    have h2 := h c (by simp)
    omega
theorem flen_few (g : Nat) (ws : List Wm) : flen (gcs g (fewN true ws)) ≤ 800 := by
  have hl : (gcs g (fewN true ws)).length ≤ 9 := by unfold gcs; rw [List.length_append, List.length_mapIdx, fewN_len]; simp; omega
  have := flen_le (gcs g (fewN true ws)) 74 (fun c hc => by
    unfold gcs at hc
    rw [List.mem_append] at hc
    rcases hc with hc | hc
    · rw [List.mem_mapIdx] at hc
      obtain ⟨i, hi, rfl⟩ := hc
      have := (okW_few ws _ (List.getElem_mem hi)).2.1
      unfold recX; rw [recC_len]; omega
    · simp at hc; subst hc; rw [markC_len]; omega)
  have h2 : (gcs g (fewN true ws)).length * (8 + 74) ≤ 9 * 82 := Nat.mul_le_mul_right _ hl
  omega

end Go.Proofs.Ytkgccoghdalniaa

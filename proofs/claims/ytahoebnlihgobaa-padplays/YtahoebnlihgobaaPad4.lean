/- The document's pad: a bit. No law is claimed here. -/
import Derived.Test.YtahoebnlihgobaaPad3
namespace Go.Proofs.Ytahoebnlihgobaa
open Go.RowKit

/-- a block that was just made, whole -/
theorem Own.fresh {α : Type} {f : α → Value} (w : World) (e : TypeId) (xs : List α) (cs : Array Value) (n g : Nat) (hcs : cs = (xs.map f).toArray) (hn : xs.length = n) (hm : n ≤ maxLen) (hg : g = w.heap.size) :
    Own f (w.alloc (.cells cs e)) w.heap.size e (some ⟨g, 0, none⟩) n n xs := by
  subst hcs; subst hg
  refine ⟨⟨by simp [hn], .inr ⟨w.heap.size, n, _, rfl, Nat.le_refl _, heap_alloc_new w _, Nat.le_refl _, hm, by simp [hn], ?_⟩⟩, hn⟩
  rw [List.take_of_length_le (by simp [hn])]

set_option maxRecDepth 100000 in
set_option maxHeartbeats 1000000 in
theorem qget_any (h : Int) (A : Option Addr) (c : Nat) (t : Bool) (x : Int) (rest : List Int) (S : Nat → Prop) (w : World) (hS : ∀ k, w.heap.size ≤ k → S k) (hr : Rs w S A c (x :: rest)) :
    Calls Try.prog 14 #[qv h A c t] w fun r w' => ∃ A' c', r = .returned (.tuple #[qv h A' c' t, .int .i64 x]) ∧ Rs w' S A' c' (if t then x :: rest else rest ++ [1]) ∧ Below w.heap.size w w' := by
  have m1 := more_cell
  have m2 := more_frozen
  have m3 := more_setCell
  have m4 := more_lt
  obtain ⟨i0, hi, hz0, hz1, hz2⟩ := info_parts Try.infoInt
  have hr0 := hr
  obtain ⟨h1, h2, g, off, rfl, h3, h4, h5⟩ := hr
  have k0 := h5 0 (by simp)
  rw [Nat.add_zero] at k0
  simp only [List.getElem_cons_zero, iv] at k0
  have hlen : rest.length = 7 := by simp at h1; omega
  have k1 : ¬ c = 1 := by omega
  have k2 : 1 ≤ c := by omega
  unfold qv
  cases t
  · rw [if_neg (by decide)]
    have R1 : Hid (∀ w', Below w.heap.size w w' → Rd iv w' w'.heap.size (some ⟨g, off + 1, none⟩) 7 (c - 1) rest) := fun w' hb =>
      ⟨hlen, by omega, fun j hj => ⟨g, off + 1, rfl, Nat.lt_of_lt_of_le h3 hb.size, (hb.cell (p := ⟨g, off + 1 + j, none⟩) h3).trans (by have := h5 (j + 1) (by simp; omega); rw [show off + (j + 1) = off + 1 + j from by omega] at this; simpa using this)⟩⟩
    clear h5 h1
    go_enter Try.func14, Try.ntmps14
    go_upto_region 3 with (fail)
    go_wp2_with (first
      | (at_builtin; refine wpList_app _ oneCell_iv rfl (.tmp 13) (.tmp 16) _ rfl _ 3 i0 _ 8 Try.underlying26 hi hz0 hz1 hz2 rfl (some ⟨w.heap.size + 1 + 1, 0, none⟩) 0 0 [] rfl (Own.fresh _ 3 [] #[] 0 _ rfl rfl (by simp [maxLen]) (by simp)) _ _ 7 (c - 1) rest rfl (R1.out _ ((((Ext.refl w).alloc _).alloc _).alloc _).below) (by simp only [maxLen]; omega) (by omega) (by simp) ?_
         intro A3 c3 w3 ho3 hb3 _
         obtain ⟨os, d, rfl⟩ := more_of (((Below.refl _ _).alloc (Nat.le_refl _) _).trans hb3))
      | (at_builtin; refine wpList_app _ oneCell_iv rfl (.tmp 18) (.tmp 19) _ rfl _ 3 i0 _ 8 Try.underlying26 hi hz0 hz1 hz2 rfl _ 7 _ _ rfl (ho3.alloc _) _ _ 1 1 [1] rfl (Rd.one (f := iv) _ 3 1) (by simp only [maxLen]; omega) (by omega) (by refine Nat.le_trans ?_ (Nat.le_of_lt (by simp; exact Nat.lt_succ_self _)); exact (more_self _ _ _).size) ?_
         intro A4 c4 w4 ho4 hb4 _
         obtain ⟨os4, d4, rfl⟩ := more_of (((more_self _ _ _).alloc ((more_self _ _ _).size) _).trans hb4)))
    refine bodyPost_ret (by simp [results, Try.results14, go_sem, *] <;> (repeat' (first | exact rfl | refine And.intro ?_ ?_))) rfl ⟨A4, c4, rfl, ?_⟩
    exact ⟨ho4.rsOver (by simp) (Nat.le_refl _) (fun k hk => hS k (by simp at hk; omega)) rfl, more_below (((Ext.refl w).alloc _).alloc _).below (by simp; omega) _ _⟩
  · rw [if_pos rfl]
    clear h5 h1
    go_enter Try.func14, Try.ntmps14
    go_wp2
    refine bodyPost_ret (by simp [results, Try.results14, go_sem, *] <;> (repeat' (first | exact rfl | refine And.intro ?_ ?_))) rfl ⟨_, c, rfl, ?_⟩
    have hB : ∀ o1 o2, Below w.heap.size w ((w.alloc o1).alloc o2) := fun o1 o2 => (((Ext.refl w).alloc o1).alloc o2).below
    exact ⟨hr0.up (hB _ _), hB _ _⟩

end Go.Proofs.Ytahoebnlihgobaa

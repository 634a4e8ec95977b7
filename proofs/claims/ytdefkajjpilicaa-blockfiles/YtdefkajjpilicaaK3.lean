/- A row that grows beside other work in a region that draws (out of Pair and RowE); a row of structs that was just made. No law is claimed here. -/
import Derived.Test.YtdefkajjpilicaaK2
import Derived.Deep.RegionHeldLaw
import Derived.Deep.RegionHeld3
namespace Go.Proofs.Ytdefkajjpilicaa
open Go.RowKit

/-- what two rows lead to: blocks that are none of theirs -/
def SE (w : World) (A A2 : Option Addr) (b : Nat) : Prop := b < w.heap.size ∧ Off A b ∧ Off A2 b
theorem Rd.toP {α : Type} {f : α → Value} {w : World} {B b off n c : Nat} {xs : List α} {S : Nat → Prop} (h : Rd f w B (some ⟨b, off, none⟩) n c xs) (hS : S b) : Rdp f w S (some ⟨b, off, none⟩) n c xs :=
  ⟨h.len, h.cap, fun j hj => ⟨b, off, rfl, hS, (rd_cell h j hj).2⟩⟩


/-- reads as xs, apart from the row that lies at Aw -/
def PE {α : Type} (f : α → Value) (w : World) (Aw : Option Addr) (A : Option Addr) (n c : Nat) (xs : List α) : Prop := Rdp f w (SE w Aw none) A n c xs
def XE {ρ α : Type} (T : Shape ρ α) (w : World) (Aw : Option Addr) (A : Option Addr) (n c : Nat) (xs : List α) : Prop := RdX T w (SE w Aw none) A n c xs
/-- the row itself -/
def OE {ρ α : Type} (T : Shape ρ α) (w : World) (base : Nat) (e : TypeId) (Aw : Option Addr) (n c : Nat) (rs : List ρ) (xs : List α) : Prop := OwnX T w base e (SE w Aw none) Aw n c rs xs
theorem SE.mono {w w' : World} {Aw : Option Addr} (hs : w.heap.size ≤ w'.heap.size) : ∀ b, SE w Aw none b → SE w' Aw none b := fun b h => ⟨by have := h.1; omega, h.2⟩
theorem SE.grow {w w' : World} {Aw : Option Addr} {g : Nat} (hat : Aw.map (·.block) = some g ∨ g = w.heap.size) (hs : w.heap.size ≤ w'.heap.size) : ∀ b, SE w Aw none b → SE w' (some ⟨g, 0, none⟩) none b :=
  fun b h => ⟨by have := h.1; omega, off_pushed hat h.1 h.2.1, off_none _⟩
section
variable {α : Type} {f : α → Value} {w w' : World} {Aw A : Option Addr} {n c : Nat} {xs : List α}
theorem PE.below (h : PE f w Aw A n c xs) (hb : Below w.heap.size w w') : PE f w' Aw A n c xs := Rdp.keep h (Kp.below hb (fun _ h => h.1)) (SE.mono hb.size)
theorem PE.alloc (h : PE f w Aw A n c xs) {o : Obj} : PE f (w.alloc o) Aw A n c xs := h.below ((Below.refl _ _).alloc (Nat.le_refl _) o)
theorem PE.drew (h : PE f w Aw A n c xs) : PE f w.drew Aw A n c xs := h.below (Below.refl _ _).drew
theorem PE.grown (h : PE f w Aw A n c xs) {g : Nat} (hg : w.grownBy w' (Aw.map (·.block))) (hat : Aw.map (·.block) = some g ∨ g = w.heap.size) : PE f w' (some ⟨g, 0, none⟩) A n c xs :=
  Rdp.keep h (Kp.grown hg (fun _ h => ⟨h.1, h.2.1⟩)) (SE.grow hat hg.size)
theorem PE.rdE (h : PE f w Aw A n c xs) : RdE f w A n c xs := Rdp.rd h (fun _ h => h.1)
theorem XE.below {ρ α : Type} {T : Shape ρ α} {xs : List α} (h : XE T w Aw A n c xs) (hb : Below w.heap.size w w') : XE T w' Aw A n c xs := RdX.keep h (Kp.below hb (fun _ h => h.1)) (SE.mono hb.size)
theorem XE.alloc {ρ α : Type} {T : Shape ρ α} {xs : List α} (h : XE T w Aw A n c xs) {o : Obj} : XE T (w.alloc o) Aw A n c xs := h.below ((Below.refl _ _).alloc (Nat.le_refl _) o)
theorem XE.drew {ρ α : Type} {T : Shape ρ α} {xs : List α} (h : XE T w Aw A n c xs) : XE T w.drew Aw A n c xs := h.below (Below.refl _ _).drew
end
section
variable {ρ α : Type} {T : Shape ρ α} {w w' : World} {base : Nat} {e : TypeId} {Aw : Option Addr} {n c : Nat} {rs : List ρ} {xs : List α}
theorem OE.below (h : OE T w base e Aw n c rs xs) (hb : Below w.heap.size w w') : OE T w' base e Aw n c rs xs := (OwnX.below h hb (fun _ h => h.1)).sub (SE.mono hb.size)
theorem OE.alloc (h : OE T w base e Aw n c rs xs) {o : Obj} : OE T (w.alloc o) base e Aw n c rs xs := h.below ((Below.refl _ _).alloc (Nat.le_refl _) o)
theorem OE.drew (h : OE T w base e Aw n c rs xs) : OE T w.drew base e Aw n c rs xs := h.below (Below.refl _ _).drew
theorem OE.made {β : Type} {f : β → Value} {ys : List β} (h : OE T w base e Aw n c rs xs) {e0 : TypeId} {fr : Nat × Nat} {cs : Array Value} {g m : Nat} (hcs : cs = (ys.map f).toArray) (hg : g = w.heap.size) (hn : ys.length = m) :
    PE f (w.alloc (.cells cs e0 fr)) Aw (some ⟨g, 0, none⟩) m m ys :=
  (Rd.made (f := f) w e0 fr ys cs g m hcs hg hn).toP ⟨by subst hg; simp, OwnX.off h (by omega), off_none _⟩
theorem OE.fresh {β : Type} {f : β → Value} {ys : List β} {e0 : TypeId} {A : Option Addr} {m d : Nat} (h : OE T w base e Aw n c rs xs) (ho : Own f w' w.heap.size e0 A m d ys) (_hb : Below w.heap.size w w') : PE f w' Aw A m d ys :=
  ho.rdp.keep (Kp.refl _ _) (fun _ hb => ⟨hb.2, OwnX.off h hb.1, off_none _⟩)
theorem OE.fresh' {β : Type} {f : β → Value} {ys : List β} {e0 : TypeId} {A : Option Addr} {m d M : Nat} (h : OE T w base e Aw n c rs xs) (ho : Own f w' M e0 A m d ys) (hM : w.heap.size ≤ M) : PE f w' Aw A m d ys :=
  ho.rdp.keep (Kp.refl _ _) (fun _ hb => ⟨hb.2, OwnX.off h (Nat.le_trans hM hb.1), off_none _⟩)
theorem OE.pushed (h : OE T w base e Aw n c rs xs) {r : ρ} {x : α} {g cap : Nat} (hok : T.Ok w (SE w Aw none) r x) (hown : w'.ownsRow base e T.k (.slice (some ⟨g, 0, none⟩) (n + 1) cap) (n + 1) (rs.flatMap T.raw ++ T.raw r))
    (hg : w.grownBy w' (Aw.map (·.block))) (hat : Aw.map (·.block) = some g ∨ g = w.heap.size) : OE T w' base e (some ⟨g, 0, none⟩) (n + 1) cap (rs ++ [r]) (xs ++ [x]) :=
  (OwnX.pushed h hown hok (Kp.refl _ _) (Kp.grown hg (fun _ h => ⟨h.1, h.2.1⟩))).sub (SE.grow hat hg.size)
end
theorem OE.later {ρ α β : Type} {T : Shape ρ α} {w w' W : World} {base : Nat} {e : TypeId} {Aw : Option Addr} {n c : Nat} {rs : List ρ} {xs : List α} {f : β → Value} {ys : List β} {e0 : TypeId} {A : Option Addr} {m d : Nat} (h : OE T w base e Aw n c rs xs) (hB : BlE w W) (ho : Own f w' W.heap.size e0 A m d ys) : PE f w' Aw A m d ys := OE.fresh' h ho (Below.size hB)
theorem Has.grown {w w' : World} {b i : Nat} {v : Value} {row : Option Nat} (h : Has w b i v) (hg : w.grownBy w' row) (hne : some b ≠ row) : Has w' b i v := ⟨Nat.lt_of_lt_of_le h.1 hg.size, (World.cell?_of_block (a := ⟨b, i, none⟩) (hg.block b h.1 hne)).trans h.2⟩
theorem BlE.grown {w w1 w2 : World} {row : Option Nat} (h : BlE w w1) (hg : w1.grownBy w2 row) (hr : ∀ k, row = some k → w.heap.size ≤ k) : BlE w w2 := Below.grown h hg h.size hr
theorem BlE.sz {w w' : World} (h : BlE w w') : w.heap.size ≤ w'.heap.size := Below.size h
theorem OE.lo {ρ α : Type} {T : Shape ρ α} {w : World} {base : Nat} {e : TypeId} {Aw : Option Addr} {n c : Nat} {rs : List ρ} {xs : List α} (h : OE T w base e Aw n c rs xs) : ∀ k, Aw.map (·.block) = some k → base ≤ k := fun k hk => (OwnX.lt h k hk).1
theorem news_two {w : World} {g : Nat} {v0 v1 : Value} (h0 : Has w g 0 v0) (h1 : Has w g 1 v1) : ∀ (j : Nat) (u : Value), [v0, v1][j]? = some u → w.cell? ((⟨g, 0, none⟩ : Addr).add j) = some u := by
  intro j u hu
  have hadd : ∀ j, (⟨g, 0, Option.none⟩ : Addr).add j = ⟨g, j, Option.none⟩ := fun j => by unfold Addr.add; split <;> simp_all
  rw [hadd]
  match j, hu with
  | 0, hu => simp at hu; subst hu; exact h0.2
  | 1, hu => simp at hu; subst hu; exact h1.2


/-- a row of structs that was just made, whole -/
theorem OwnX.fresh {ρ α : Type} (T : Shape ρ α) (w : World) (e : TypeId) (S : Nat → Prop) (cs : Array Value) (rs : List ρ) (xs : List α) (n g : Nat) (hcs : cs = (rs.flatMap T.raw).toArray) (hn : rs.length = n) (hn2 : xs.length = n) (hm : n ≤ maxLen) (hg : g = w.heap.size)
    (hok : ∀ (j : Nat) (r : ρ) (x : α), rs[j]? = some r → xs[j]? = some x → T.Ok (w.alloc (.cells cs e)) S r x) : OwnX T (w.alloc (.cells cs e)) w.heap.size e S (some ⟨g, 0, none⟩) n n rs xs := by
  subst hg; subst hcs
  have hlen : (rs.flatMap T.raw).length = n * T.k := by
    rw [← hn]
    clear hok
    induction rs generalizing n xs with
    | nil => simp
    | cons r rs ih => rw [List.flatMap_cons, List.length_append, T.len, ih (xs.drop 1) rs.length rfl (by simp at hn; simp; omega) (by simp at hn; omega), List.length_cons, Nat.succ_mul]; omega
  refine ⟨⟨hlen, .inr ⟨w.heap.size, n, _, rfl, Nat.le_refl _, heap_alloc_new w _, Nat.le_refl _, hm, by simpa using hlen, ?_⟩⟩, hn, hn2, hok⟩
  rw [List.take_of_length_le (by rw [hlen]; exact Nat.le_refl _)]

end Go.Proofs.Ytdefkajjpilicaa

/- Words for regions whose order is open and in which a row grows: what is there stays there, whatever comes in between; no side conditions. No law is claimed here. -/
import Derived.Test.YtkmjndmanpanbaaRefS2
namespace Go.Proofs.Ytkmjndmanpanbaa
open Go.RowKit

/-- reads as xs, apart from the row that lies at Aw -/
def PE {α : Type} (f : α → Value) (w : World) (Aw : Option Addr) (A : Option Addr) (n c : Nat) (xs : List α) : Prop := Rdp f w (SE w Aw none) A n c xs
def XE {ρ α : Type} (T : Shape ρ α) (w : World) (Aw : Option Addr) (A : Option Addr) (n c : Nat) (xs : List α) : Prop := RdX T w (SE w Aw none) A n c xs
/-- the row itself -/
def OE {ρ α : Type} (T : Shape ρ α) (w : World) (base : Nat) (e : TypeId) (Aw : Option Addr) (n c : Nat) (rs : List ρ) (xs : List α) : Prop := OwnX T w base e (SE w Aw none) Aw n c rs xs
theorem SE.mono {w w' : World} {Aw : Option Addr} (hs : w.heap.size ≤ w'.heap.size) : ∀ b, SE w Aw none b → SE w' Aw none b := fun b h => ⟨by have := h.1; omega, h.2⟩
theorem SE.grow {w w' : World} {Aw : Option Addr} {g : Nat} (hat : Aw.map (·.block) = some g ∨ g = w.heap.size) (hs : w.heap.size ≤ w'.heap.size) : ∀ b, SE w Aw none b → SE w' (some ⟨g, 0, none⟩) none b :=
  fun b h => ⟨by have := h.1; omega, off_pushed hat h.1 h.2.1, off_none _⟩
section
variable {α : Type} {f : α → Value} {w w' : World} {Aw A : Option Addr} {n c : Nat} {xs : List α}
theorem PE.below (h : PE f w Aw A n c xs) (hb : Below w.heap.size w w') : PE f w' Aw A n c xs := Rdp.keep h (Kp.below hb (fun _ h => h.1)) (SE.mono hb.size)
theorem PE.alloc (h : PE f w Aw A n c xs) {o : Obj} : PE f (w.alloc o) Aw A n c xs := h.below ((Below.refl _ _).alloc (Nat.le_refl _) o)
theorem PE.drew (h : PE f w Aw A n c xs) : PE f w.drew Aw A n c xs := h.below (Below.refl _ _).drew
theorem PE.grown (h : PE f w Aw A n c xs) {g : Nat} (hg : w.grownBy w' (Aw.map (·.block))) (hat : Aw.map (·.block) = some g ∨ g = w.heap.size) : PE f w' (some ⟨g, 0, none⟩) A n c xs :=
  Rdp.keep h (Kp.grown hg (fun _ h => ⟨h.1, h.2.1⟩)) (SE.grow hat hg.size)
theorem PE.rdE (h : PE f w Aw A n c xs) : RdE f w A n c xs := Rdp.rd h (fun _ h => h.1)
theorem XE.below {ρ α : Type} {T : Shape ρ α} {xs : List α} (h : XE T w Aw A n c xs) (hb : Below w.heap.size w w') : XE T w' Aw A n c xs := RdX.keep h (Kp.below hb (fun _ h => h.1)) (SE.mono hb.size)
theorem XE.alloc {ρ α : Type} {T : Shape ρ α} {xs : List α} (h : XE T w Aw A n c xs) {o : Obj} : XE T (w.alloc o) Aw A n c xs := h.below ((Below.refl _ _).alloc (Nat.le_refl _) o)
theorem XE.drew {ρ α : Type} {T : Shape ρ α} {xs : List α} (h : XE T w Aw A n c xs) : XE T w.drew Aw A n c xs := h.below (Below.refl _ _).drew
end
section
variable {ρ α : Type} {T : Shape ρ α} {w w' : World} {base : Nat} {e : TypeId} {Aw : Option Addr} {n c : Nat} {rs : List ρ} {xs : List α}
theorem OE.below (h : OE T w base e Aw n c rs xs) (hb : Below w.heap.size w w') : OE T w' base e Aw n c rs xs := (OwnX.below h hb (fun _ h => h.1)).sub (SE.mono hb.size)
theorem OE.alloc (h : OE T w base e Aw n c rs xs) {o : Obj} : OE T (w.alloc o) base e Aw n c rs xs := h.below ((Below.refl _ _).alloc (Nat.le_refl _) o)
theorem OE.drew (h : OE T w base e Aw n c rs xs) : OE T w.drew base e Aw n c rs xs := h.below (Below.refl _ _).drew
theorem OE.made {β : Type} {f : β → Value} {ys : List β} (h : OE T w base e Aw n c rs xs) {e0 : TypeId} {fr : Nat × Nat} {cs : Array Value} {g m : Nat} (hcs : cs = (ys.map f).toArray) (hg : g = w.heap.size) (hn : ys.length = m) :
    PE f (w.alloc (.cells cs e0 fr)) Aw (some ⟨g, 0, none⟩) m m ys :=
  (Rd.made (f := f) w e0 fr ys cs g m hcs hg hn).toP ⟨by subst hg; simp, OwnX.off h (by omega), off_none _⟩
theorem OE.fresh {β : Type} {f : β → Value} {ys : List β} {e0 : TypeId} {A : Option Addr} {m d : Nat} (h : OE T w base e Aw n c rs xs) (ho : Own f w' w.heap.size e0 A m d ys) (_hb : Below w.heap.size w w') : PE f w' Aw A m d ys :=
  ho.rdp.keep (Kp.refl _ _) (fun _ hb => ⟨hb.2, OwnX.off h hb.1, off_none _⟩)
theorem OE.fresh' {β : Type} {f : β → Value} {ys : List β} {e0 : TypeId} {A : Option Addr} {m d M : Nat} (h : OE T w base e Aw n c rs xs) (ho : Own f w' M e0 A m d ys) (hM : w.heap.size ≤ M) : PE f w' Aw A m d ys :=
  ho.rdp.keep (Kp.refl _ _) (fun _ hb => ⟨hb.2, OwnX.off h (Nat.le_trans hM hb.1), off_none _⟩)
theorem OE.pushed (h : OE T w base e Aw n c rs xs) {r : ρ} {x : α} {g cap : Nat} (hok : T.Ok w (SE w Aw none) r x) (hown : w'.ownsRow base e T.k (.slice (some ⟨g, 0, none⟩) (n + 1) cap) (n + 1) (rs.flatMap T.raw ++ T.raw r))
    (hg : w.grownBy w' (Aw.map (·.block))) (hat : Aw.map (·.block) = some g ∨ g = w.heap.size) : OE T w' base e (some ⟨g, 0, none⟩) (n + 1) cap (rs ++ [r]) (xs ++ [x]) :=
  (OwnX.pushed h hown hok (Kp.refl _ _) (Kp.grown hg (fun _ h => ⟨h.1, h.2.1⟩))).sub (SE.grow hat hg.size)
end
theorem OE.later {ρ α β : Type} {T : Shape ρ α} {w w' W : World} {base : Nat} {e : TypeId} {Aw : Option Addr} {n c : Nat} {rs : List ρ} {xs : List α} {f : β → Value} {ys : List β} {e0 : TypeId} {A : Option Addr} {m d : Nat} (h : OE T w base e Aw n c rs xs) (hB : BlE w W) (ho : Own f w' W.heap.size e0 A m d ys) : PE f w' Aw A m d ys := OE.fresh' h ho (Below.size hB)
theorem OE.ownG {w : World} {base : Nat} {e : TypeId} {Aw : Option Addr} {n c : Nat} {rs : List RawG} {xs : List Gm} (h : OE (shG .i64 .i64) w base e Aw n c rs xs) : w.ownsRow base e 2 (.slice Aw n c) n (rs.flatMap (shG .i64 .i64).raw) := OwnX.own h
theorem Has.grown {w w' : World} {b i : Nat} {v : Value} {row : Option Nat} (h : Has w b i v) (hg : w.grownBy w' row) (hne : some b ≠ row) : Has w' b i v := ⟨Nat.lt_of_lt_of_le h.1 hg.size, (World.cell?_of_block (a := ⟨b, i, none⟩) (hg.block b h.1 hne)).trans h.2⟩
theorem BlE.grown {w w1 w2 : World} {row : Option Nat} (h : BlE w w1) (hg : w1.grownBy w2 row) (hr : ∀ k, row = some k → w.heap.size ≤ k) : BlE w w2 := Below.grown h hg h.size hr
theorem BlE.sz {w w' : World} (h : BlE w w') : w.heap.size ≤ w'.heap.size := Below.size h
theorem OE.lo {ρ α : Type} {T : Shape ρ α} {w : World} {base : Nat} {e : TypeId} {Aw : Option Addr} {n c : Nat} {rs : List ρ} {xs : List α} (h : OE T w base e Aw n c rs xs) : ∀ k, Aw.map (·.block) = some k → base ≤ k := fun k hk => (OwnX.lt h k hk).1
theorem news_two {w : World} {g : Nat} {v0 v1 : Value} (h0 : Has w g 0 v0) (h1 : Has w g 1 v1) : ∀ (j : Nat) (u : Value), [v0, v1][j]? = some u → w.cell? ((⟨g, 0, none⟩ : Addr).add j) = some u := by
  intro j u hu
  have hadd : ∀ j, (⟨g, 0, Option.none⟩ : Addr).add j = ⟨g, j, Option.none⟩ := fun j => by unfold Addr.add; split <;> simp_all
  rw [hadd]
  match j, hu with
  | 0, hu => simp at hu; subst hu; exact h0.2
  | 1, hu => simp at hu; subst hu; exact h1.2

/-- append of one group that was laid some time ago, at a step of a region whose order is open -/
theorem step_pushG {P : Program} {ops : Array Oper} {o : Oper} {a : Act} {K : Act → World → Prop} {Q : Exit → Act → World → Prop} {E : Prop} (w : World) (hgd : o.guard = none) (s x : Operand) (t : TypeId)
    (ho : o.op = .call { callee := .builtin .append, args := #[s, x], argTypes := #[t, t] }) (w0 : World) (e : TypeId) (i : TypeInfo) (z : Value) (bytes : Nat) (ht : P.underlying t = some (.slice e)) (hi : P.info? e = some i) (hz : i.zero = some z)
    (hsize : i.size = 2) (hby : i.bytes = bytes) (hzs : z.cells.size = 2) (Aw : Option Addr) (nw cw : Nat) (rsw : List RawG) (gl : List Gm) (num : Int) (A5 : Option Addr) (n4 c5 : Nat) (ws : List Wm)
    (hs : a.eval s = .slice Aw nw cw) (g0 : Nat) (hx : a.eval x = .slice (some ⟨g0, 0, none⟩) 1 1) (h63 : nw + 1 ≤ maxLen) (hbytes : (nw + 1) * bytes ≤ 140737488355328)
    (hO : OE (shG .i64 .i64) w w0.heap.size e Aw nw cw rsw gl) (h0 : Has w g0 0 (.int .u32 num)) (h1 : Has w g0 1 (.slice A5 n4 c5)) (hB : BlE w0 w) (hX : XE (shW .i64 .i64) w Aw A5 n4 c5 ws)
    (h : ∀ g cap w', OE (shG .i64 .i64) w' w0.heap.size e (some ⟨g, 0, none⟩) (nw + 1) cap (rsw ++ [⟨num, A5, n4, c5⟩]) (gl ++ [⟨num, ws⟩]) → w.grownBy w' (Aw.map (·.block)) → (Aw.map (·.block) = some g ∨ g = w.heap.size) →
      K (a.put o.dst (.slice (some ⟨g, 0, none⟩) (nw + 1) cap)) w') :
    if Region.wanted o (yielded ops a.tmps) = true then Oper.wp P o a w K Q else E := by
  refine step_append_lies w hgd s x t ho w0.heap.size e i z 2 bytes ht hi hz hsize hby hzs (by omega) (.slice Aw nw cw) nw _ hs hO.ownG ⟨g0, 0, none⟩ 1 1 [.int .u32 num, .slice A5 n4 c5] hx rfl (news_two h0 h1) ((shG .i64 .i64).one ⟨num, A5, n4, c5⟩) (by omega) h63 hbytes (Below.size hB) _ rfl ?_
  intro g cap w' hown hg hat _
  rw [ownBlock_slice] at hg hat
  exact h g cap w' (OE.pushed hO (x := ⟨num, ws⟩) ⟨rfl, hX⟩ hown hg hat) hg hat

/-- Join of two slices, the row of which was laid some time ago -/
theorem join_two (w : World) (g : Nat) (A1 A2 : Option Addr) (n1 c1 n2 c2 : Nat) (xs ys : List UInt8) (hr : RdE sv w (some ⟨g, 0, none⟩) 2 2 [(A1, n1, c1), (A2, n2, c2)]) (h1 : RdE bv w A1 n1 c1 xs) (h2 : RdE bv w A2 n2 c2 ys) (ht : n1 + n2 ≤ 1099511627776) :
    Calls Try.prog 11 #[.slice (some ⟨g, 0, none⟩) 2 2] w (RetL bv 5 w (xs ++ ys)) := by
  have := join_any _ 2 2 w.heap.size [(A1, n1, c1), (A2, n2, c2)] [xs, ys] w hr ⟨rfl, fun j s ys hs hy => by
      match j, hs, hy with
      | 0, hs, hy => simp at hs hy; subst hs; subst hy; exact h1
      | 1, hs, hy => simp at hs hy; subst hs; subst hy; exact h2⟩ (Nat.le_refl _) (by omega) (by simp [Rd.len h1, Rd.len h2]; omega)
  simpa using this

/-- the groups of ScrollForms -/
def formG (zs : List Int) (wss : List (List Wm)) : List Gm := (wss.mapIdx fun i l => (⟨zs.getD i 0, fewN true l⟩ : Gm)).filter (fun g => !g.ws.isEmpty)
theorem formG_yes (zs : List Int) (wss : List (List Wm)) (k : Nat) (h : k < wss.length) (hn : fewN true wss[k] ≠ []) : formG zs (wss.take (k + 1)) = formG zs (wss.take k) ++ [⟨zs.getD k 0, fewN true wss[k]⟩] := by
  unfold formG
  rw [List.take_succ_eq_append_getElem h, List.mapIdx_concat, List.filter_append]
  simp [Nat.min_eq_left (Nat.le_of_lt h), hn]
theorem formG_no (zs : List Int) (wss : List (List Wm)) (k : Nat) (h : k < wss.length) (hn : fewN true wss[k] = []) : formG zs (wss.take (k + 1)) = formG zs (wss.take k) := by
  unfold formG
  rw [List.take_succ_eq_append_getElem h, List.mapIdx_concat, List.filter_append]
  simp [Nat.min_eq_left (Nat.le_of_lt h), hn]
theorem okG_form (zs : List Int) (wss : List (List Wm)) (hz : ∀ z ∈ zs, 0 ≤ z ∧ z < 4294967296) : ∀ g ∈ formG zs wss, okG g := by
  intro g hg
  unfold formG at hg
  rw [List.mem_filter, List.mem_mapIdx] at hg
  obtain ⟨⟨i, hi, rfl⟩, hn⟩ := hg
  simp at hn
  have hzi : 0 ≤ zs.getD i 0 ∧ zs.getD i 0 < 4294967296 := by
    rcases Nat.lt_or_ge i zs.length with h | h
    · rw [List.getD_eq_getElem?_getD, List.getElem?_eq_getElem h]; exact hz _ (List.getElem_mem h)
    · rw [List.getD_eq_getElem?_getD, List.getElem?_eq_none h]; simp
  refine ⟨hzi.1, hzi.2, hn, ?_, fun x hx => (okW_few _ x hx).1⟩
  show (fewN true _).length ≤ 1000
  rw [fewN_len]; omega
theorem formG_len (zs : List Int) (wss : List (List Wm)) (k : Nat) : (formG zs (wss.take k)).length ≤ k := by
  unfold formG
  refine Nat.le_trans (List.length_filter_le _ _) ?_
  simp; omega

end Go.Proofs.Ytkmjndmanpanbaa

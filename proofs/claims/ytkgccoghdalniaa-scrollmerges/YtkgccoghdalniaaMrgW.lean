/- A row of writes that the call owns and goes on with, the last one's bytes too. Plain lemmas, no law is claimed here. -/
import Derived.Test.YtkgccoghdalniaaMrgM
namespace Go.Proofs.Ytkgccoghdalniaa
open Go.RowKit

/-- writes as plain elements -/
def shR : Shape RawW RawW where
  k := 3
  raw r := [.int .u8 (r.side.toNat : Int), .int .u32 r.pl, .slice r.A r.n r.c]
  Ok _ _ r x := r = x
  pos := by omega
  len _ := rfl
  one r u h := by simp at h; rcases h with rfl | rfl | rfl <;> rfl
  keep h _ _ := h

/-- append of bytes onto a row of the call's own, at a step of a region whose order is open -/
theorem step_appO {P : Program} {ops : Array Oper} {o : Oper} {a : Act} {K : Act → World → Prop} {Q : Exit → Act → World → Prop} {E : Prop} (w : World) (hgd : o.guard = none) (s x : Operand) (t : TypeId)
    (ho : o.op = .call { callee := .builtin .append, args := #[s, x], argTypes := #[t, t] }) (base : Nat) (e : TypeId) (i : TypeInfo) (z : Value) (bytes : Nat)
    (ht : P.underlying t = some (.slice e)) (hi : P.info? e = some i) (hz : i.zero = some z) (hsize : i.size = 1) (hby : i.bytes = bytes) (hzs : z.cells.size = 1)
    (A : Option Addr) (n c : Nat) (xs : List UInt8) (hs : a.eval s = .slice A n c) (A2 : Option Addr) (m c2 : Nat) (ys : List UInt8) (hx : a.eval x = .slice A2 m c2)
    (h63 : n + m ≤ maxLen) (hbytes : (n + m) * bytes ≤ 140737488355328) (hown : Own bv w base e A n c xs) (B : Nat) (hr : Rd bv w B A2 m c2 ys) (hbase : base ≤ w.heap.size)
    (h : ∀ A' c' w', Own bv w' base e A' (n + m) c' (xs ++ ys) → Below base w w' → w.grownBy w' (A.map (·.block)) → K (a.put o.dst (.slice A' (n + m) c')) w') :
    if Region.wanted o (yielded ops a.tmps) = true then Oper.wp P o a w K Q else E := by
  have hw : Region.wanted o (yielded ops a.tmps) = true := by simp [Region.wanted, hgd]
  rw [if_pos hw]
  obtain ⟨A', c', w', hrun, h2, h3, h4⟩ := run_app (P := P) w oneCell_bv base t o.type e i z bytes ht hi hz hsize hby hzs A n c xs hown B A2 m c2 ys hr h63 hbytes hbase
  unfold Oper.wp execOp
  simp only [ho, resolve, invoke, builtin, Sem.run_bind, Sem.run_pure, Result.andThen_ok, List.map_toArray, List.map_cons, List.map_nil, hs, hx, hrun]
  exact h A' c' w' h2 h3 (by rw [← ownBlock_slice A n c]; exact h4)

structure MG (w : World) (base : Nat) (A : Option Addr) (n c : Nat) (rs : List RawW) (ws : List Wm) (B : Nat) : Prop where
  row : OwnX shR w base 44 (fun _ => False) A n c rs rs
  len : ws.length = n
  init : ∀ (j : Nat) (r : RawW) (x : Wm), j + 1 < n → rs[j]? = some r → ws[j]? = some x → (shW .u8 .u32).Ok w (fun b => base ≤ b ∧ b < B ∧ Off A b) r x
  last : ∀ (j : Nat) (r : RawW) (x : Wm), j + 1 = n → rs[j]? = some r → ws[j]? = some x → r.side = x.side ∧ r.pl = x.pl ∧ Own bv w B 5 r.A r.n r.c x.data
  lo : base ≤ B
  hi : B ≤ w.heap.size
section
variable {w w' : World} {base : Nat} {A : Option Addr} {n c : Nat} {rs : List RawW} {ws : List Wm} {B : Nat}
theorem MG.empty (w : World) (base : Nat) (h : base ≤ w.heap.size) : MG w base none 0 0 [] [] base := ⟨OwnX.empty _ _ _ _ _, rfl, fun j r x hj => by omega, fun j r x hj => by omega, Nat.le_refl _, h⟩
theorem MG.below (h : MG w base A n c rs ws B) (hb : Below w.heap.size w w') : MG w' base A n c rs ws B :=
  ⟨h.row.below hb (fun _ h => h.elim), h.len, fun j r x h1 h2 h3 => (shW .u8 .u32).keep (h.init j r x h1 h2 h3) (Kp.below hb (fun _ hb' => Nat.lt_of_lt_of_le hb'.2.1 h.hi)) (fun _ h => h),
   fun j r x h1 h2 h3 => ⟨(h.last j r x h1 h2 h3).1, (h.last j r x h1 h2 h3).2.1, (h.last j r x h1 h2 h3).2.2.below hb⟩, h.lo, Nat.le_trans h.hi hb.size⟩
/-- all of it, to be read -/
theorem MG.ok (h : MG w base A n c rs ws B) (j : Nat) (r : RawW) (x : Wm) (hr : rs[j]? = some r) (hx : ws[j]? = some x) : (shW .u8 .u32).Ok w (fun b => base ≤ b ∧ b < w.heap.size ∧ Off A b) r x := by
  have hj : j < n := by
    have := (List.getElem?_eq_some_iff.1 hx).1
    rw [h.len] at this; exact this
  rcases Nat.lt_or_ge (j + 1) n with hjn | hjn
  · exact (shW .u8 .u32).keep (h.init j r x hjn hr hx) (Kp.refl _ _) (fun b hb => ⟨hb.1, Nat.lt_of_lt_of_le hb.2.1 h.hi, hb.2.2⟩)
  · obtain ⟨h1, h2, h3⟩ := h.last j r x (by omega) hr hx
    refine ⟨h1, h2, h3.len, h3.rd.cap, fun i hi => ?_⟩
    obtain ⟨b, off, e, hb, hc⟩ := h3.rd.at_ i hi
    refine ⟨b, off, e, ⟨?_, hb, ?_⟩, hc⟩
    · have := (h3.ltA b (by rw [e]; rfl)).1
      have := h.lo; omega
    · intro e2
      exact Ty.ne (h3.ty (k := b) (by rw [e]; rfl)) (h.row.ty e2.symm) (by decide) rfl
theorem MG.rd (h : MG w base A n c rs ws B) : RdX (shW .u8 .u32) w (fun b => base ≤ b ∧ b < w.heap.size) A n c ws := by
  refine ⟨h.len, h.row.capn, fun j hj => ?_⟩
  have hjn : j < n := by rw [← h.len]; exact hj
  obtain ⟨g, rfl, h1, h2, hc⟩ := h.row.cell j hjn
  have hjr : j < rs.length := by rw [h.row.lenr]; exact hjn
  exact ⟨g, 0, rfl, ⟨h1, h2⟩, rs[j], hc, (shW .u8 .u32).keep (h.ok j _ _ (List.getElem?_eq_getElem hjr) (List.getElem?_eq_getElem hj)) (Kp.refl _ _) (fun b hb => ⟨hb.1, hb.2.1⟩)⟩
/-- the last one -/
theorem MG.end_ {m : Nat} (h : MG w base A (m + 1) c rs ws B) : ∃ g A3 n3 c3 x, A = some ⟨g, 0, none⟩ ∧ base ≤ g ∧ g < w.heap.size ∧ ws[m]? = some x ∧ rs[m]? = some ⟨x.side, x.pl, A3, n3, c3⟩ ∧
    w.cell? ⟨g, m * 3, none⟩ = some (.int .u8 (x.side.toNat : Int)) ∧ w.cell? ⟨g, m * 3 + 1, none⟩ = some (.int .u32 x.pl) ∧ w.cell? ⟨g, m * 3 + 2, none⟩ = some (.slice A3 n3 c3) ∧
    Own bv w B 5 A3 n3 c3 x.data ∧ x.data.length = n3 ∧ (∀ i, w.frozen? ⟨g, i, none⟩ = false) := by
  obtain ⟨g, rfl, hb, hg, hc⟩ := h.row.cell m (by omega)
  have hjr : m < rs.length := by rw [h.row.lenr]; omega
  have hjx : m < ws.length := by rw [h.len]; omega
  obtain ⟨h1, h2, h3⟩ := h.last m _ _ rfl (List.getElem?_eq_getElem hjr) (List.getElem?_eq_getElem hjx)
  have c0 := hc 0 _ rfl
  have c1 := hc 1 _ rfl
  have c2 := hc 2 _ rfl
  rw [show 0 + m * shR.k + 0 = m * 3 from by show 0 + m * 3 + 0 = m * 3; omega] at c0
  rw [show 0 + m * shR.k + 1 = m * 3 + 1 from by show 0 + m * 3 + 1 = m * 3 + 1; omega] at c1
  rw [show 0 + m * shR.k + 2 = m * 3 + 2 from by show 0 + m * 3 + 2 = m * 3 + 2; omega] at c2
  refine ⟨g, rs[m].A, rs[m].n, rs[m].c, ws[m], rfl, hb, hg, List.getElem?_eq_getElem hjx, ?_, by rw [← h1]; exact c0, by rw [← h2]; exact c1, c2, h3, h3.len, fun i => h.row.own.frozenAt i⟩
  rw [List.getElem?_eq_getElem hjr, ← h1, ← h2]
/-- one more at the end -/
theorem MG.pushed (h : MG w base A n c rs ws B) {w1 w2 : World} {g cap : Nat} {r : RawW} {x : Wm} (hb : Below w.heap.size w w1) (hrow : OwnX shR w2 base 44 (fun _ => False) (some ⟨g, 0, none⟩) (n + 1) cap (rs ++ [r]) (rs ++ [r]))
    (hg : w1.grownBy w2 (A.map (·.block))) (hat : A.map (·.block) = some g ∨ w.heap.size ≤ g) (h1 : r.side = x.side) (h2 : r.pl = x.pl) (h3 : Own bv w1 w.heap.size 5 r.A r.n r.c x.data) :
    MG w2 base (some ⟨g, 0, none⟩) (n + 1) cap (rs ++ [r]) (ws ++ [x]) w.heap.size := by
  have hs1 := hb.size
  have hs2 := hg.size
  refine ⟨hrow, by simp [h.len], fun j r' x' hj hr hx => ?_, fun j r' x' hj hr hx => ?_, Nat.le_trans h.lo h.hi, Nat.le_trans hs1 hs2⟩
  · rw [List.getElem?_append_left (by rw [h.row.lenr]; omega)] at hr
    rw [List.getElem?_append_left (by rw [h.len]; omega)] at hx
    refine (shW .u8 .u32).keep (h.ok j r' x' hr hx) (fun b hb' => (hg.block b (by omega) hb'.2.2).trans (hb.block b hb'.2.1)) (fun b hb' => ⟨hb'.1, hb'.2.1, ?_⟩)
    rw [off_some]
    rintro rfl
    rcases hat with e | e
    · exact hb'.2.2 e.symm
    · omega
  · obtain rfl : j = n := by omega
    rw [List.getElem?_append_right (by rw [h.row.lenr]; omega), h.row.lenr, Nat.sub_self] at hr
    rw [List.getElem?_append_right (by rw [h.len]; omega), h.len, Nat.sub_self] at hx
    simp at hr hx
    subst hr; subst hx
    exact ⟨h1, h2, h3.kept hg fun k hk e => by
      have t1 := h3.ty hk
      have t2 := h.row.ty e.symm
      obtain ⟨cur, fr, t2⟩ := t2
      exact Ty.ne t1 (show Ty w1 k 44 from ⟨cur, fr, (hb.block k (h.row.lt k e.symm).2).trans t2⟩) (by decide) rfl⟩
/-- the last one goes on -/
theorem MG.joined {m g : Nat} (h : MG w base (some ⟨g, 0, none⟩) (m + 1) c rs ws B) {A3 : Option Addr} {n3 c3 : Nat} {x : Wm} {A5 : Option Addr} {n5 c5 : Nat} {ys : List UInt8} (hr : rs[m]? = some ⟨x.side, x.pl, A3, n3, c3⟩) (ho : Own bv w B 5 A3 n3 c3 x.data)
    (ho2 : Own bv w' B 5 A5 n5 c5 (x.data ++ ys)) (hb : Below B w w') (hg : w.grownBy w' (A3.map (·.block))) :
    MG (w'.setCell ⟨g, m * 3 + 2, none⟩ (.slice A5 n5 c5)) base (some ⟨g, 0, none⟩) (m + 1) c (rs.set m ⟨x.side, x.pl, A5, n5, c5⟩) (ws.set m ⟨x.side, x.pl, x.data ++ ys⟩) B := by
  have hjr : m < rs.length := by rw [h.row.lenr]; omega
  have hrm : rs[m] = ⟨x.side, x.pl, A3, n3, c3⟩ := by rw [List.getElem?_eq_getElem hjr] at hr; injection hr
  have hrow' : OwnX shR w' base 44 (fun _ => False) (some ⟨g, 0, none⟩) (m + 1) c rs rs := h.row.keep (fun k hk => hg.block k (h.row.lt k hk).2 (fun e => Ty.ne (h.row.ty hk) (ho.ty e.symm) (by decide) rfl)) (fun b hb => hb.elim) (fun _ h => h)
  have hf := hrow'.field m 2 ⟨x.side, x.pl, A5, n5, c5⟩ ⟨x.side, x.pl, A5, n5, c5⟩ (.slice A5 n5 c5) (m * 3 + 2) (by omega) (by show 2 < 3; omega) rfl (by rw [hrm]; rfl) rfl (fun b hb => hb.elim)
  refine ⟨hf.1, by simp [h.len], fun j r x' hj h1 h2 => ?_, fun j r x' hj h1 h2 => ?_, h.lo, by simpa using Nat.le_trans h.hi hb.size⟩
  · rw [List.getElem?_set_ne (by omega)] at h1 h2
    exact (shW .u8 .u32).keep (h.init j r x' hj h1 h2) (fun b hb' => (Below.heap_setCell w' _ _ b (off_some.1 hb'.2.2)).trans (hb.block b hb'.2.1)) (fun _ h => h)
  · obtain rfl : j = m := by omega
    rw [List.getElem?_set_self hjr] at h1
    rw [List.getElem?_set_self (by rw [h.len]; omega)] at h2
    injection h1 with h1; injection h2 with h2
    subst h1; subst h2
    refine ⟨rfl, rfl, ho2.kept hf.2 fun k hk e => ?_⟩
    exact Ty.ne (ho2.ty hk) (hrow'.ty (k := k) e.symm) (by decide) rfl
theorem MG.drew (h : MG w base A n c rs ws B) : MG w.drew base A n c rs ws B := h.below ((Below.refl _ _).drew)
theorem MG.drewN (h : MG w base A n c rs ws B) {k : Nat} : MG (w.drewN k) base A n c rs ws B := h.below (Still.below ⟨k, rfl⟩ _)
/-- the last one's cell while its bytes went on -/
theorem MG.mid {m g : Nat} (h : MG w base (some ⟨g, 0, none⟩) (m + 1) c rs ws B) {A3 : Option Addr} {n3 c3 : Nat} {xd : List UInt8} (ho : Own bv w B 5 A3 n3 c3 xd) (hc : w.cell? ⟨g, m * 3 + 2, none⟩ = some (.slice A3 n3 c3)) (hg : w.grownBy w' (A3.map (·.block))) :
    w'.cell? ⟨g, m * 3 + 2, none⟩ = some (.slice A3 n3 c3) ∧ (∀ i, w'.frozen? ⟨g, i, none⟩ = false) := by
  have hrow' : OwnX shR w' base 44 (fun _ => False) (some ⟨g, 0, none⟩) (m + 1) c rs rs := h.row.keep (fun k hk => hg.block k (h.row.lt k hk).2 (fun e => Ty.ne (h.row.ty hk) (ho.ty e.symm) (by decide) rfl)) (fun b hb => hb.elim) (fun _ h => h)
  exact ⟨(World.cell?_of_block (a := ⟨g, m * 3 + 2, none⟩) (hg.block g (h.row.lt g rfl).2 (fun e => Ty.ne (h.row.ty (k := g) rfl) (ho.ty e.symm) (by decide) rfl))).trans hc, fun i => hrow'.own.frozenAt i⟩
end

end Go.Proofs.Ytkgccoghdalniaa

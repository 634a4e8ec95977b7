/- Bits of bytes: what the contracts of package alu name, as numbers. Plain lemmas, no law is claimed here. -/
import Derived.Test.YtigpmmjbdpnkjaaDoorAlu2
namespace Go.Proofs.YtigpmmjbdpnkjaaDoor

/-- registers that are bytes -/
def Ok (u : Un) : Prop := (0 ≤ u.a ∧ u.a < 256) ∧ (0 ≤ u.x ∧ u.x < 256) ∧ (0 ≤ u.y ∧ u.y < 256) ∧ (0 ≤ u.s ∧ u.s < 256) ∧ (0 ≤ u.p ∧ u.p < 256)
/-- a number's lowest eight bits -/
def bv8 (n : Int) : BitVec 8 := BitVec.ofInt 8 n
theorem wrap_v8 (v : BitVec 8) : IntKind.u8.wrap (v.toNat : Int) = (v.toNat : Int) := wrap_uns .u8 rfl _ v.isLt
theorem bits_and (x y : Int) : bits .and .u8 x y = ((bv8 x &&& bv8 y).toNat : Int) := wrap_v8 _
theorem bits_or (x y : Int) : bits .or .u8 x y = ((bv8 x ||| bv8 y).toNat : Int) := wrap_v8 _
theorem bits_xor (x y : Int) : bits .xor .u8 x y = ((bv8 x ^^^ bv8 y).toNat : Int) := wrap_v8 _
theorem bits_andNot (x y : Int) : bits .andNot .u8 x y = ((bv8 x &&& ~~~ bv8 y).toNat : Int) := wrap_v8 _
theorem bv8_nat (v : BitVec 8) : bv8 (v.toNat : Int) = v := by
  unfold bv8; rw [BitVec.ofInt_natCast, BitVec.ofNat_toNat]; simp
theorem nat_bv8 (n : Int) (h : 0 ≤ n ∧ n < 256) : ((bv8 n).toNat : Int) = n := by
  obtain ⟨k, rfl⟩ : ∃ k : Nat, n = (k : Int) := ⟨n.toNat, by omega⟩
  have := ofInt_nat 8 k (by omega)
  unfold bv8; rw [this]
theorem bv8_fl (p b : Int) (on : Bool) : bv8 (fl p b on) = if on then (bv8 p &&& ~~~ bv8 b) ||| bv8 b else bv8 p &&& ~~~ bv8 b := by
  unfold fl
  cases on
  · rw [if_neg (by decide), if_neg (by decide), bits_andNot, bv8_nat]
  · rw [if_pos rfl, if_pos rfl, bits_or, bits_andNot, bv8_nat, bv8_nat]
theorem fl_u8 (p b : Int) (on : Bool) : 0 ≤ fl p b on ∧ fl p b on < 256 := by
  unfold fl; split <;> exact bits_u8 _ _ _

theorem v_or_and (p b : BitVec 8) : (p &&& ~~~ b ||| b) &&& b = b := by
  ext i hi; simp; cases p[i] <;> cases b[i] <;> simp
theorem v_not_and (p b : BitVec 8) : p &&& ~~~ b &&& b = 0#8 := by
  ext i hi; simp
theorem v_or_not (p b : BitVec 8) : (p &&& ~~~ b ||| b) &&& ~~~ b = p &&& ~~~ b := by
  ext i hi; simp; cases p[i] <;> cases b[i] <;> rfl
theorem v_not_not (p b : BitVec 8) : p &&& ~~~ b &&& ~~~ b = p &&& ~~~ b := by
  ext i hi; simp
theorem v_or_other (p b g : BitVec 8) (h : b &&& g = 0#8) : (p &&& ~~~ b ||| b) &&& g = p &&& g := by
  ext i hi
  have := congrArg (·[i]) h
  simp at this
  simp; revert this; cases p[i] <;> cases b[i] <;> cases g[i] <;> simp
theorem v_not_other (p b g : BitVec 8) (h : b &&& g = 0#8) : p &&& ~~~ b &&& g = p &&& g := by
  ext i hi
  have := congrArg (·[i]) h
  simp at this
  simp; revert this; cases p[i] <;> cases b[i] <;> cases g[i] <;> simp
theorem v_xor_and (p q m : BitVec 8) (h : q &&& m = p &&& m) : (q ^^^ p) &&& m = 0#8 := by
  ext i hi
  have := congrArg (·[i]) h
  simp at this
  simp; revert this; cases p[i] <;> cases q[i] <;> cases m[i] <;> simp

/-- flags set or cleared: these themselves -/
theorem fl_and (p b : Int) (on : Bool) (hb : 0 ≤ b ∧ b < 256) : bits .and .u8 (fl p b on) b = if on then b else 0 := by
  rw [bits_and, bv8_fl]
  cases on
  · rw [if_neg (by decide), if_neg (by decide), v_not_and]; rfl
  · rw [if_pos rfl, if_pos rfl, v_or_and, nat_bv8 b hb]
theorem fl_andNot (p b : Int) (on : Bool) : bits .andNot .u8 (fl p b on) b = bits .andNot .u8 p b := by
  rw [bits_andNot, bv8_fl, bits_andNot]
  cases on
  · rw [if_neg (by decide), v_not_not]
  · rw [if_pos rfl, v_or_not]
/-- .. and others -/
theorem fl_other (p b g : Int) (on : Bool) (h : bv8 b &&& bv8 g = 0#8) : bv8 (fl p b on) &&& bv8 g = bv8 p &&& bv8 g := by
  rw [bv8_fl]
  cases on
  · rw [if_neg (by decide), v_not_other _ _ _ h]
  · rw [if_pos rfl, v_or_other _ _ _ h]
theorem fl_and_other (p b g : Int) (on : Bool) (h : bv8 b &&& bv8 g = 0#8) : bits .and .u8 (fl p b on) g = bits .and .u8 p g := by
  rw [bits_and, fl_other _ _ _ _ h, bits_and]

/-- five cells of a block -/
def Bx (v : World) (b : Nat) (k : IntKind) (a x y s p : Int) : Prop :=
  b < v.heap.size ∧ v.cell? ⟨b, 0, none⟩ = some (.int k a) ∧ v.cell? ⟨b, 1, none⟩ = some (.int k x) ∧ v.cell? ⟨b, 2, none⟩ = some (.int k y) ∧ v.cell? ⟨b, 3, none⟩ = some (.int k s) ∧ v.cell? ⟨b, 4, none⟩ = some (.int k p)
theorem Bx.ext {v v' : World} {b : Nat} {k : IntKind} {a x y s p : Int} (h : Bx v b k a x y s p) (hE : Ext v v') : Bx v' b k a x y s p := by
  obtain ⟨os, q, rfl⟩ := hE
  exact bx_ext h os q
theorem Bx.made (w : World) (k : IntKind) (a x y s p : Int) (t : TypeId) : Bx (w.alloc (.cells #[.int k a, .int k x, .int k y, .int k s, .int k p] t)) w.heap.size k a x y s p := by
  refine ⟨by simp, ?_, ?_, ?_, ?_, ?_⟩ <;> exact cell_of_row _ _ _ _ _ _ (heap_alloc_new w _)
/-- the cells of a box, behind whatever was made since -/
theorem boxE {w v : World} {k : IntKind} {a x y s p : Int} {t : TypeId} (hE : Ext (w.alloc (.cells #[.int k a, .int k x, .int k y, .int k s, .int k p] t)) v) : Bx v w.heap.size k a x y s p :=
  (Bx.made w k a x y s p t).ext hE
/-- .. and behind another box -/
theorem Bx.past {v v' : World} {b : Nat} {k : IntKind} {a x y s p : Int} {o : Obj} (h : Bx v b k a x y s p) (hE : Ext (v.alloc o) v') : Bx v' b k a x y s p :=
  h.ext (((Ext.refl v).alloc o).trans hE)
theorem ext_on {w v u : World} {os : List Obj} {q : Nat} (h : Ext (ext w os q) v) (k : u = w := by rfl) : Ext u v := by
  subst k; exact ((Ext.refl _).ext os q).trans h

theorem ext_lt1 (w : World) (os : List Obj) (q : Nat) (b : Nat) (h : b < w.heap.size) : b < (ext w os q).heap.size + 1 := Nat.lt_succ_of_lt (ext_lt w os q b h)

theorem bx_drew {v : World} {b : Nat} {k : IntKind} {a x y s p : Int} (h : Bx v b k a x y s p) : Bx v.drew b k a x y s p := h

end Go.Proofs.YtigpmmjbdpnkjaaDoor

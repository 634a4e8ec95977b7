/- The contracts of package scroll's reader: next, record, mark, take. No law is claimed here. -/
import Derived.Test.YtkgccoghdalniaaScrB
import Derived.Deep.RegionHeld3
import Derived.StillTailTactics
namespace Go.Proofs.Ytkgccoghdalniaa
open Go.RowKit

structure Gm where
  num : Int
  ws : List Wm
structure RawG where
  num : Int
  A : Option Addr
  n : Nat
  c : Nat
def shG (k1 k2 : IntKind) : Shape RawG Gm where
  k := 2
  raw r := [.int .u32 r.num, .slice r.A r.n r.c]
  Ok w S r x := r.num = x.num ∧ RdX (shW k1 k2) w S r.A r.n r.c x.ws
  pos := by omega
  len _ := rfl
  one r u h := by simp at h; rcases h with rfl | rfl <;> rfl
  keep h hk hS := ⟨h.1, h.2.keep hk hS⟩

set_option maxRecDepth 100000 in
set_option maxHeartbeats 1000000 in
theorem rdnext_any (R : Nat) (A : Option Addr) (n c : Nat) (w : World) (hc : w.cell? ⟨R, 2, none⟩ = some (.slice A n c)) (hn : n ≤ 1000000) :
    Calls Try.prog 44 #[.pointer (some ⟨R, 0, none⟩)] w fun e w' => e = .returned (.int .u32 (n : Int)) ∧ w = w' := by
  go_enter Try.func44, Try.ntmps44
  go_wp2
  go_ret
  exact ⟨rfl, rfl⟩

theorem setCell_drewN (v : World) (q : Nat) (p : Addr) (u : Value) : (v.drewN q).setCell p u = (v.setCell p u).drewN q := by
  unfold World.setCell World.drewN; rfl
theorem alloc_drewN (v : World) (q : Nat) (o : Obj) : (v.drewN q).alloc o = (v.alloc o).drewN q := rfl

/-- the blocks that a reader's groups and writes may lead to -/
def SS (w : World) (R : Nat) (Ag Aw : Option Addr) (b : Nat) : Prop := b < w.heap.size ∧ b ≠ R ∧ Off Ag b ∧ Off Aw b

/-- a reader in memory -/
structure RdrX (w : World) (base R : Nat) (Ag : Option Addr) (ng cg : Nat) (rgs : List RawG) (gs : List Gm) (num : Int) (Aw : Option Addr) (nw cw : Nat) (rws : List RawW) (ws : List Wm) : Prop where
  c0 : w.cell? ⟨R, 0, none⟩ = some (.slice Ag ng cg)
  c1 : w.cell? ⟨R, 1, none⟩ = some (.int .u32 num)
  c2 : w.cell? ⟨R, 2, none⟩ = some (.slice Aw nw cw)
  fz : ∀ i, w.frozen? ⟨R, i, none⟩ = false
  gO : OwnX (shG .u8 .u32) w base 52 (SS w R Ag Aw) Ag ng cg rgs gs
  wO : OwnX (shW .u8 .u32) w base 44 (SS w R Ag Aw) Aw nw cw rws ws
  oG : Off Ag R
  oW : Off Aw R
  oGW : ∀ k, Aw.map (·.block) = some k → Off Ag k
  lo : base ≤ R
  hi : R < w.heap.size

theorem RdrX.below {w w' : World} {base R : Nat} {Ag : Option Addr} {ng cg : Nat} {rgs : List RawG} {gs : List Gm} {num : Int} {Aw : Option Addr} {nw cw : Nat} {rws : List RawW} {ws : List Wm}
    (h : RdrX w base R Ag ng cg rgs gs num Aw nw cw rws ws) (hb : Below w.heap.size w w') : RdrX w' base R Ag ng cg rgs gs num Aw nw cw rws ws := by
  have hs := hb.size
  have hsub : ∀ b, SS w R Ag Aw b → SS w' R Ag Aw b := fun b h => ⟨by have := h.1; omega, h.2⟩
  exact ⟨(hb.cell (p := ⟨R, 0, none⟩) h.hi).trans h.c0, (hb.cell (p := ⟨R, 1, none⟩) h.hi).trans h.c1, (hb.cell (p := ⟨R, 2, none⟩) h.hi).trans h.c2, fun i => (hb.frozen (p := ⟨R, i, none⟩) h.hi).trans (h.fz i),
    (h.gO.below hb (fun b h => h.1)).sub hsub, (h.wO.below hb (fun b h => h.1)).sub hsub, h.oG, h.oW, h.oGW, h.lo, Nat.lt_of_lt_of_le h.hi hs⟩

/-- the group that was begun is left, another begun -/
theorem RdrX.reset {w : World} {base R : Nat} {Ag : Option Addr} {ng cg : Nat} {rgs : List RawG} {gs : List Gm} {num : Int} {Aw : Option Addr} {nw cw : Nat} {rws : List RawW} {ws : List Wm}
    (h : RdrX w base R Ag ng cg rgs gs num Aw nw cw rws ws) (g : Int) : RdrX ((w.setCell ⟨R, 1, none⟩ (.int .u32 g)).setCell ⟨R, 2, none⟩ (.slice none 0 0)) base R Ag ng cg rgs gs g none 0 0 [] [] := by
  have hk : Kp (SS w R Ag Aw) w ((w.setCell ⟨R, 1, none⟩ (.int .u32 g)).setCell ⟨R, 2, none⟩ (.slice none 0 0)) :=
    (Kp.setCell (fun b h => h.2.1) _).trans (Kp.setCell (fun b h => h.2.1) _)
  refine ⟨?_, ?_, ?_, ?_, ?_, OwnX.empty _ _ _ _ _, h.oG, off_none _, fun k hk => by simp at hk, h.lo, by simpa using h.hi⟩
  · rw [World.cell?_setCell_other _ _ _ _ (by simp), World.cell?_setCell_other _ _ _ _ (by simp)]; exact h.c0
  · rw [World.cell?_setCell_other _ _ _ _ (by simp)]; exact World.cell?_setCell_same _ _ _ h.c1
  · exact World.cell?_setCell_same _ _ _ ((World.cell?_setCell_other _ _ _ _ (by simp)).trans h.c2)
  · intro i; simp [h.fz i]
  · refine h.gO.keep (fun k hk' => ?_) hk (fun b hb => ⟨by simpa using hb.1, hb.2.1, hb.2.2.1, off_none _⟩)
    have : k ≠ R := fun e => by subst e; exact h.oG hk'.symm
    rw [Below.heap_setCell _ _ _ _ this, Below.heap_setCell _ _ _ _ this]

/-- one write more -/
theorem RdrX.pushW {W w1 : World} {base R : Nat} {Ag : Option Addr} {ng cg : Nat} {rgs : List RawG} {gs : List Gm} {num : Int} {Aw : Option Addr} {nw cw : Nat} {rws : List RawW} {ws : List Wm}
    (h : RdrX W base R Ag ng cg rgs gs num Aw nw cw rws ws) {r : RawW} {x : Wm} {g cap : Nat} (hok : (shW .u8 .u32).Ok W (SS W R Ag Aw) r x)
    (hown : w1.ownsRow base 44 3 (.slice (some ⟨g, 0, none⟩) (nw + 1) cap) (nw + 1) (rws.flatMap (shW .u8 .u32).raw ++ (shW .u8 .u32).raw r)) (hgr : W.grownBy w1 (Aw.map (·.block))) (hat : Aw.map (·.block) = some g ∨ g = W.heap.size) (hlt : g < w1.heap.size) :
    RdrX (w1.setCell ⟨R, 2, none⟩ (.slice (some ⟨g, 0, none⟩) (nw + 1) cap)) base R Ag ng cg rgs gs num (some ⟨g, 0, none⟩) (nw + 1) cap (rws ++ [r]) (ws ++ [x]) := by
  have hk : Kp (SS W R Ag Aw) W w1 := Kp.grown hgr (fun b hb => ⟨hb.1, hb.2.2.2⟩)
  have hbR : w1.heap[R]? = W.heap[R]? := hgr.block R h.hi h.oW
  have hcR : ∀ i, w1.cell? ⟨R, i, none⟩ = W.cell? ⟨R, i, none⟩ := fun i => World.cell?_of_block (w := W) (a := ⟨R, i, none⟩) hbR
  have hfR : ∀ i, w1.frozen? ⟨R, i, none⟩ = W.frozen? ⟨R, i, none⟩ := fun i => World.frozen?_of_block (w := W) (a := ⟨R, i, none⟩) hbR
  have hgR : g ≠ R := by rcases hat with e | e
                         · intro e2; subst e2; exact h.oW e.symm
                         · have := h.hi; omega
  have hks : Kp (SS W R Ag Aw) w1 (w1.setCell ⟨R, 2, none⟩ (.slice (some ⟨g, 0, none⟩) (nw + 1) cap)) := Kp.setCell (fun b hb => hb.2.1) _
  have hsub : ∀ b, SS W R Ag Aw b → SS (w1.setCell ⟨R, 2, none⟩ (.slice (some ⟨g, 0, none⟩) (nw + 1) cap)) R Ag (some ⟨g, 0, none⟩) b :=
    fun b hb => ⟨by have := hgr.size; have := hb.1; simp; omega, hb.2.1, hb.2.2.1, off_pushed hat hb.1 hb.2.2.2⟩
  have hO := (h.wO.pushed hown hok (Kp.refl _ _) hk)
  refine ⟨?_, ?_, ?_, ?_, ?_, ?_, h.oG, ?_, ?_, h.lo, ?_⟩
  · rw [World.cell?_setCell_other _ _ _ _ (by simp), hcR]; exact h.c0
  · rw [World.cell?_setCell_other _ _ _ _ (by simp), hcR]; exact h.c1
  · exact World.cell?_setCell_same _ _ _ ((hcR 2).trans h.c2)
  · intro i; rw [World.frozen?_setCell, hfR]; exact h.fz i
  · refine h.gO.keep (fun k hk' => ?_) (hk.trans hks) hsub
    have hne : k ≠ R := fun e => by subst e; exact h.oG hk'.symm
    have hnw : some k ≠ Aw.map (·.block) := fun e => h.oGW k e.symm hk'.symm
    rw [Below.heap_setCell _ _ _ _ hne]
    exact hgr.block k (h.gO.lt k hk').2 hnw
  · refine hO.keep (fun k hk' => ?_) hks hsub
    have : k = g := by simpa using hk'.symm
    rw [Below.heap_setCell _ _ _ _ (by rw [this]; exact hgR)]
  · rw [off_some]; exact fun e => hgR e.symm
  · intro k hk'
    have : k = g := by simpa using hk'.symm
    subst this
    rcases hat with e | e
    · exact h.oGW k e
    · exact h.gO.off (by omega)
  · simp; have := hgr.size; have := h.hi; omega

/-- one group more -/
theorem RdrX.pushG {W w1 : World} {base R : Nat} {Ag : Option Addr} {ng cg : Nat} {rgs : List RawG} {gs : List Gm} {num : Int}
    (h : RdrX W base R Ag ng cg rgs gs num none 0 0 [] []) {r : RawG} {x : Gm} {g cap : Nat} (hok : (shG .u8 .u32).Ok W (SS W R Ag none) r x)
    (hown : w1.ownsRow base 52 2 (.slice (some ⟨g, 0, none⟩) (ng + 1) cap) (ng + 1) (rgs.flatMap (shG .u8 .u32).raw ++ (shG .u8 .u32).raw r)) (hgr : W.grownBy w1 (Ag.map (·.block))) (hat : Ag.map (·.block) = some g ∨ g = W.heap.size) :
    RdrX (w1.setCell ⟨R, 0, none⟩ (.slice (some ⟨g, 0, none⟩) (ng + 1) cap)) base R (some ⟨g, 0, none⟩) (ng + 1) cap (rgs ++ [r]) (gs ++ [x]) num none 0 0 [] [] := by
  have hk : Kp (SS W R Ag none) W w1 := Kp.grown hgr (fun b hb => ⟨hb.1, hb.2.2.1⟩)
  have hbR : w1.heap[R]? = W.heap[R]? := hgr.block R h.hi h.oG
  have hcR : ∀ i, w1.cell? ⟨R, i, none⟩ = W.cell? ⟨R, i, none⟩ := fun i => World.cell?_of_block (w := W) (a := ⟨R, i, none⟩) hbR
  have hfR : ∀ i, w1.frozen? ⟨R, i, none⟩ = W.frozen? ⟨R, i, none⟩ := fun i => World.frozen?_of_block (w := W) (a := ⟨R, i, none⟩) hbR
  have hgR : g ≠ R := by rcases hat with e | e
                         · intro e2; subst e2; exact h.oG e.symm
                         · have := h.hi; omega
  have hks : Kp (SS W R Ag none) w1 (w1.setCell ⟨R, 0, none⟩ (.slice (some ⟨g, 0, none⟩) (ng + 1) cap)) := Kp.setCell (fun b hb => hb.2.1) _
  have hsub : ∀ b, SS W R Ag none b → SS (w1.setCell ⟨R, 0, none⟩ (.slice (some ⟨g, 0, none⟩) (ng + 1) cap)) R (some ⟨g, 0, none⟩) none b :=
    fun b hb => ⟨by have := hgr.size; have := hb.1; simp; omega, hb.2.1, off_pushed hat hb.1 hb.2.2.1, off_none _⟩
  have hO := (h.gO.pushed hown hok (Kp.refl _ _) hk)
  refine ⟨?_, ?_, ?_, ?_, ?_, OwnX.empty _ _ _ _ _, ?_, off_none _, fun k hk => by simp at hk, h.lo, ?_⟩
  · exact World.cell?_setCell_same _ _ _ ((hcR 0).trans h.c0)
  · rw [World.cell?_setCell_other _ _ _ _ (by simp), hcR]; exact h.c1
  · rw [World.cell?_setCell_other _ _ _ _ (by simp), hcR]; exact h.c2
  · intro i; rw [World.frozen?_setCell, hfR]; exact h.fz i
  · refine hO.keep (fun k hk' => ?_) hks hsub
    have : k = g := by simpa using hk'.symm
    rw [Below.heap_setCell _ _ _ _ (by rw [this]; exact hgR)]
  · rw [off_some]; exact fun e => hgR e.symm
  · simp; have := hgr.size; have := h.hi; omega

end Go.Proofs.Ytkgccoghdalniaa

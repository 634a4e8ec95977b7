/- The picture unit's state: its great cells, its single cells, all other blocks. No law is claimed here. -/
import Derived.Test.YthldppdkheclkaaPc8
set_option linter.unusedSimpArgs false
set_option linter.unusedVariables false
namespace Go.Proofs.Ythldppdkheclkaa
open Go.RowKit Go.Great

/-- all blocks but m are as they were -/
def Kb (m : Nat) (v v' : World) : Prop := v.heap.size ≤ v'.heap.size ∧ ∀ b, b < v.heap.size → b ≠ m → v'.heap[b]? = v.heap[b]?
theorem Kb.refl (m : Nat) (v : World) : Kb m v v := ⟨Nat.le_refl _, fun _ _ _ => rfl⟩
theorem Kb.trans {m : Nat} {a b c : World} (h : Kb m a b) (k : Kb m b c) : Kb m a c :=
  ⟨Nat.le_trans h.1 k.1, fun i hi h1 => (k.2 i (Nat.lt_of_lt_of_le hi h.1) h1).trans (h.2 i hi h1)⟩
theorem Kb.of_below {m : Nat} {v v' : World} (h : Below v.heap.size v v') : Kb m v v' := ⟨h.size, fun b hb _ => h.block b hb⟩
theorem Kb.set (m i : Nat) (v : World) (x : Value) : Kb m v (v.setCell ⟨m, i, none⟩ x) :=
  ⟨by simp, fun b _ h => by simp [World.setCell, Array.getElem?_modify, Ne.symm h]⟩
/-- a cell that is great -/
def Big (i : Nat) : Prop := i < 10272 ∨ (10282 ≤ i ∧ i < 10578) ∨ 10585 ≤ i
def EqB (A A' : Nat → Value) : Prop := ∀ i, Big i → A' i = A i
theorem EqB.refl (A : Nat → Value) : EqB A A := fun _ _ => rfl
theorem EqB.one {A A' : Nat → Value} (h : EqB A A') (k : Nat) (x : Value) (hk : ¬ Big k) : EqB A (updV A' k x) := fun i hi => by
  rw [updV_other _ _ _ _ (fun (e : i = k) => hk (by rw [← e]; exact hi))]; exact h i hi
theorem EqB.upd {A A' : Nat → Value} (h : EqB A A') (k : Nat) (x : Value) : EqB (updV A k x) (updV A' k x) := fun i hi => by
  by_cases e : i = k
  · subst e; rw [updV_same, updV_same]
  · rw [updV_other _ _ _ _ e, updV_other _ _ _ _ e]; exact h i hi
theorem EqB.symm {A A' : Nat → Value} (h : EqB A A') : EqB A' A := fun i hi => (h i hi).symm
/-- what the great cells are -/
structure TB (A : Nat → Value) : Prop where
  mem : ∀ i, i < 10272 → IsB (A i)
  sp : ∀ i, i < 256 → IsB (A (10282 + i))
  sel : ∀ i, i < 8 → IsS A (10538 + 5 * i)
  rows : ∀ i, i < 61440 → IsB (A (10585 + i))
theorem Ty.tb {c : PC} {A A' : Nat → Value} (h : Ty c A') (e : EqB A A') : TB A := by
  refine ⟨fun i hi => ?_, fun i hi => ?_, fun i hi => ?_, fun i hi => ?_⟩
  · rw [← e i (.inl hi)]; exact h.mem i hi
  · rw [← e (10282 + i) (.inr (.inl (by omega)))]; exact h.sp i hi
  · obtain ⟨f, a, z, l, u, h0, h1, h2, h3, h4, h5⟩ := h.sel i hi
    have k := fun j (hj : j < 5) => e (10538 + 5 * i + j) (.inr (.inl (by omega)))
    exact ⟨f, a, z, l, u, (k 0 (by decide)).symm.trans h0, (k 1 (by decide)).symm.trans h1, (k 2 (by decide)).symm.trans h2, (k 3 (by decide)).symm.trans h3, (k 4 (by decide)).symm.trans h4, h5⟩
  · rw [← e (10585 + i) (.inr (.inr (by omega)))]; exact h.rows i hi

/-- the state: great cells A, single cells c; below m as in w0, all other blocks as in v0 -/
structure ST (w0 v0 : World) (m : Nat) (A : Nat → Value) (c : PC) (v : World) : Prop where
  ex : ∃ A', PA w0 m A' v ∧ Ty c A' ∧ EqB A A'
  kb : Kb m v0 v
variable {w0 v0 v v' : World} {m : Nat} {A : Nat → Value} {c : PC}
theorem ST.px (h : ST w0 v0 m A c v) : PX w0 m c v := by
  obtain ⟨A', hA, hT, _⟩ := h.ex
  exact ⟨A', hA, hT⟩
theorem ST.tb (h : ST w0 v0 m A c v) : TB A := by
  obtain ⟨A', hA, hT, he⟩ := h.ex
  exact hT.tb he
theorem ST.lt (h : ST w0 v0 m A c v) : m < v.heap.size := h.px.lt
theorem ST.of (hA : PA w0 m A v) (hT : Ty c A) : ST w0 v m A c v := ⟨⟨A, hA, hT, EqB.refl A⟩, Kb.refl m v⟩
theorem ST.past (h : ST w0 v0 m A c v) (hb : Below v.heap.size v v') : ST w0 v0 m A c v' := by
  obtain ⟨⟨A', hA, hT, he⟩, hk⟩ := h
  exact ⟨⟨A', hA.past hb, hT, he⟩, hk.trans (Kb.of_below hb)⟩
theorem ST.drew (h : ST w0 v0 m A c v) : ST w0 v0 m A c v.drew := h.past (Below.refl _ _).drew
theorem ST.drewN (h : ST w0 v0 m A c v) (q : Nat) : ST w0 v0 m A c (v.drewN q) := h.past (still_below _ _ _)
theorem ST.fz (h : ST w0 v0 m A c v) (i : Nat) : v.frozen? ⟨m, i, none⟩ = false := by
  obtain ⟨⟨A', hA, hT, he⟩, hk⟩ := h
  exact hA.fz i
theorem ST.big (h : ST w0 v0 m A c v) (i : Nat) (hi : Big i) (hl : i < 72025) : v.cell? ⟨m, i, none⟩ = some (A i) := by
  obtain ⟨⟨A', hA, hT, he⟩, hk⟩ := h
  exact (hA.cell i hl).trans (congrArg some (he i hi))
/-- a byte is written -/
theorem ST.byte (h : ST w0 v0 m A c v) (k : Nat) (x : Int) (hk : k < 10272 ∨ (10282 ≤ k ∧ k < 10538) ∨ 10585 ≤ k) (hx : 0 ≤ x ∧ x < 256) : ST w0 v0 m (updV A k (.int .u8 x)) c (v.setCell ⟨m, k, none⟩ (.int .u8 x)) := by
  obtain ⟨⟨A', hA, hT, he⟩, hb⟩ := h
  exact ⟨⟨_, hA.set k _, hT.byte k x hk hx, he.upd k _⟩, hb.trans (Kb.set _ _ _ _)⟩
theorem ST.c_up (h : ST w0 v0 m A c v) : v.cell? ⟨m, 10272, none⟩ = some (.bool c.up) := by
  obtain ⟨⟨A', hA, hT, he⟩, hk⟩ := h
  exact (hA.cell _ (by decide)).trans (congrArg some hT.up)
theorem ST.set_up (h : ST w0 v0 m A c v) (x : Bool) : ST w0 v0 m A { c with up := x } (v.setCell ⟨m, 10272, none⟩ (.bool x)) := by
  obtain ⟨⟨A', hA, hT, he⟩, hb⟩ := h
  exact ⟨⟨_, hA.set _ _, hT.set_up x, he.one _ _ (by unfold Big; omega)⟩, hb.trans (Kb.set _ _ _ _)⟩
theorem ST.c_V (h : ST w0 v0 m A c v) : v.cell? ⟨m, 10273, none⟩ = some (.int .u16 c.V) := by
  obtain ⟨⟨A', hA, hT, he⟩, hk⟩ := h
  exact (hA.cell _ (by decide)).trans (congrArg some hT.V)
theorem ST.set_V (h : ST w0 v0 m A c v) (x : Int) : ST w0 v0 m A { c with V := x } (v.setCell ⟨m, 10273, none⟩ (.int .u16 x)) := by
  obtain ⟨⟨A', hA, hT, he⟩, hb⟩ := h
  exact ⟨⟨_, hA.set _ _, hT.set_V x, he.one _ _ (by unfold Big; omega)⟩, hb.trans (Kb.set _ _ _ _)⟩
theorem ST.c_T (h : ST w0 v0 m A c v) : v.cell? ⟨m, 10274, none⟩ = some (.int .u16 c.T) := by
  obtain ⟨⟨A', hA, hT, he⟩, hk⟩ := h
  exact (hA.cell _ (by decide)).trans (congrArg some hT.T)
theorem ST.set_T (h : ST w0 v0 m A c v) (x : Int) : ST w0 v0 m A { c with T := x } (v.setCell ⟨m, 10274, none⟩ (.int .u16 x)) := by
  obtain ⟨⟨A', hA, hT, he⟩, hb⟩ := h
  exact ⟨⟨_, hA.set _ _, hT.set_T x, he.one _ _ (by unfold Big; omega)⟩, hb.trans (Kb.set _ _ _ _)⟩
theorem ST.c_X (h : ST w0 v0 m A c v) : v.cell? ⟨m, 10275, none⟩ = some (.int .u8 c.X) := by
  obtain ⟨⟨A', hA, hT, he⟩, hk⟩ := h
  exact (hA.cell _ (by decide)).trans (congrArg some hT.X)
theorem ST.set_X (h : ST w0 v0 m A c v) (x : Int) : ST w0 v0 m A { c with X := x } (v.setCell ⟨m, 10275, none⟩ (.int .u8 x)) := by
  obtain ⟨⟨A', hA, hT, he⟩, hb⟩ := h
  exact ⟨⟨_, hA.set _ _, hT.set_X x, he.one _ _ (by unfold Big; omega)⟩, hb.trans (Kb.set _ _ _ _)⟩
theorem ST.c_W (h : ST w0 v0 m A c v) : v.cell? ⟨m, 10276, none⟩ = some (.bool c.W) := by
  obtain ⟨⟨A', hA, hT, he⟩, hk⟩ := h
  exact (hA.cell _ (by decide)).trans (congrArg some hT.W)
theorem ST.set_W (h : ST w0 v0 m A c v) (x : Bool) : ST w0 v0 m A { c with W := x } (v.setCell ⟨m, 10276, none⟩ (.bool x)) := by
  obtain ⟨⟨A', hA, hT, he⟩, hb⟩ := h
  exact ⟨⟨_, hA.set _ _, hT.set_W x, he.one _ _ (by unfold Big; omega)⟩, hb.trans (Kb.set _ _ _ _)⟩
theorem ST.c_con (h : ST w0 v0 m A c v) : v.cell? ⟨m, 10277, none⟩ = some (.int .u8 c.con) := by
  obtain ⟨⟨A', hA, hT, he⟩, hk⟩ := h
  exact (hA.cell _ (by decide)).trans (congrArg some hT.con)
theorem ST.set_con (h : ST w0 v0 m A c v) (x : Int) : ST w0 v0 m A { c with con := x } (v.setCell ⟨m, 10277, none⟩ (.int .u8 x)) := by
  obtain ⟨⟨A', hA, hT, he⟩, hb⟩ := h
  exact ⟨⟨_, hA.set _ _, hT.set_con x, he.one _ _ (by unfold Big; omega)⟩, hb.trans (Kb.set _ _ _ _)⟩
theorem ST.c_msk (h : ST w0 v0 m A c v) : v.cell? ⟨m, 10278, none⟩ = some (.int .u8 c.msk) := by
  obtain ⟨⟨A', hA, hT, he⟩, hk⟩ := h
  exact (hA.cell _ (by decide)).trans (congrArg some hT.msk)
theorem ST.set_msk (h : ST w0 v0 m A c v) (x : Int) : ST w0 v0 m A { c with msk := x } (v.setCell ⟨m, 10278, none⟩ (.int .u8 x)) := by
  obtain ⟨⟨A', hA, hT, he⟩, hb⟩ := h
  exact ⟨⟨_, hA.set _ _, hT.set_msk x, he.one _ _ (by unfold Big; omega)⟩, hb.trans (Kb.set _ _ _ _)⟩
theorem ST.c_bus (h : ST w0 v0 m A c v) : v.cell? ⟨m, 10279, none⟩ = some (.int .u8 c.bus) := by
  obtain ⟨⟨A', hA, hT, he⟩, hk⟩ := h
  exact (hA.cell _ (by decide)).trans (congrArg some hT.bus)
theorem ST.set_bus (h : ST w0 v0 m A c v) (x : Int) : ST w0 v0 m A { c with bus := x } (v.setCell ⟨m, 10279, none⟩ (.int .u8 x)) := by
  obtain ⟨⟨A', hA, hT, he⟩, hb⟩ := h
  exact ⟨⟨_, hA.set _ _, hT.set_bus x, he.one _ _ (by unfold Big; omega)⟩, hb.trans (Kb.set _ _ _ _)⟩
theorem ST.c_buf (h : ST w0 v0 m A c v) : v.cell? ⟨m, 10280, none⟩ = some (.int .u8 c.buf) := by
  obtain ⟨⟨A', hA, hT, he⟩, hk⟩ := h
  exact (hA.cell _ (by decide)).trans (congrArg some hT.buf)
theorem ST.set_buf (h : ST w0 v0 m A c v) (x : Int) : ST w0 v0 m A { c with buf := x } (v.setCell ⟨m, 10280, none⟩ (.int .u8 x)) := by
  obtain ⟨⟨A', hA, hT, he⟩, hb⟩ := h
  exact ⟨⟨_, hA.set _ _, hT.set_buf x, he.one _ _ (by unfold Big; omega)⟩, hb.trans (Kb.set _ _ _ _)⟩
theorem ST.c_ad (h : ST w0 v0 m A c v) : v.cell? ⟨m, 10281, none⟩ = some (.int .u8 c.ad) := by
  obtain ⟨⟨A', hA, hT, he⟩, hk⟩ := h
  exact (hA.cell _ (by decide)).trans (congrArg some hT.ad)
theorem ST.set_ad (h : ST w0 v0 m A c v) (x : Int) : ST w0 v0 m A { c with ad := x } (v.setCell ⟨m, 10281, none⟩ (.int .u8 x)) := by
  obtain ⟨⟨A', hA, hT, he⟩, hb⟩ := h
  exact ⟨⟨_, hA.set _ _, hT.set_ad x, he.one _ _ (by unfold Big; omega)⟩, hb.trans (Kb.set _ _ _ _)⟩
theorem ST.c_cnt (h : ST w0 v0 m A c v) : v.cell? ⟨m, 10578, none⟩ = some (.int .i64 c.cnt) := by
  obtain ⟨⟨A', hA, hT, he⟩, hk⟩ := h
  exact (hA.cell _ (by decide)).trans (congrArg some hT.cnt)
theorem ST.set_cnt (h : ST w0 v0 m A c v) (x : Int) : ST w0 v0 m A { c with cnt := x } (v.setCell ⟨m, 10578, none⟩ (.int .i64 x)) := by
  obtain ⟨⟨A', hA, hT, he⟩, hb⟩ := h
  exact ⟨⟨_, hA.set _ _, hT.set_cnt x, he.one _ _ (by unfold Big; omega)⟩, hb.trans (Kb.set _ _ _ _)⟩
theorem ST.c_blank (h : ST w0 v0 m A c v) : v.cell? ⟨m, 10579, none⟩ = some (.bool c.blank) := by
  obtain ⟨⟨A', hA, hT, he⟩, hk⟩ := h
  exact (hA.cell _ (by decide)).trans (congrArg some hT.blank)
theorem ST.set_blank (h : ST w0 v0 m A c v) (x : Bool) : ST w0 v0 m A { c with blank := x } (v.setCell ⟨m, 10579, none⟩ (.bool x)) := by
  obtain ⟨⟨A', hA, hT, he⟩, hb⟩ := h
  exact ⟨⟨_, hA.set _ _, hT.set_blank x, he.one _ _ (by unfold Big; omega)⟩, hb.trans (Kb.set _ _ _ _)⟩
theorem ST.c_hit (h : ST w0 v0 m A c v) : v.cell? ⟨m, 10580, none⟩ = some (.bool c.hit) := by
  obtain ⟨⟨A', hA, hT, he⟩, hk⟩ := h
  exact (hA.cell _ (by decide)).trans (congrArg some hT.hit)
theorem ST.set_hit (h : ST w0 v0 m A c v) (x : Bool) : ST w0 v0 m A { c with hit := x } (v.setCell ⟨m, 10580, none⟩ (.bool x)) := by
  obtain ⟨⟨A', hA, hT, he⟩, hb⟩ := h
  exact ⟨⟨_, hA.set _ _, hT.set_hit x, he.one _ _ (by unfold Big; omega)⟩, hb.trans (Kb.set _ _ _ _)⟩
theorem ST.c_over (h : ST w0 v0 m A c v) : v.cell? ⟨m, 10581, none⟩ = some (.bool c.over) := by
  obtain ⟨⟨A', hA, hT, he⟩, hk⟩ := h
  exact (hA.cell _ (by decide)).trans (congrArg some hT.over)
theorem ST.set_over (h : ST w0 v0 m A c v) (x : Bool) : ST w0 v0 m A { c with over := x } (v.setCell ⟨m, 10581, none⟩ (.bool x)) := by
  obtain ⟨⟨A', hA, hT, he⟩, hb⟩ := h
  exact ⟨⟨_, hA.set _ _, hT.set_over x, he.one _ _ (by unfold Big; omega)⟩, hb.trans (Kb.set _ _ _ _)⟩
theorem ST.c_line (h : ST w0 v0 m A c v) : v.cell? ⟨m, 10582, none⟩ = some (.int .i64 c.line) := by
  obtain ⟨⟨A', hA, hT, he⟩, hk⟩ := h
  exact (hA.cell _ (by decide)).trans (congrArg some hT.line)
theorem ST.set_line (h : ST w0 v0 m A c v) (x : Int) : ST w0 v0 m A { c with line := x } (v.setCell ⟨m, 10582, none⟩ (.int .i64 x)) := by
  obtain ⟨⟨A', hA, hT, he⟩, hb⟩ := h
  exact ⟨⟨_, hA.set _ _, hT.set_line x, he.one _ _ (by unfold Big; omega)⟩, hb.trans (Kb.set _ _ _ _)⟩
theorem ST.c_dot (h : ST w0 v0 m A c v) : v.cell? ⟨m, 10583, none⟩ = some (.int .i64 c.dot) := by
  obtain ⟨⟨A', hA, hT, he⟩, hk⟩ := h
  exact (hA.cell _ (by decide)).trans (congrArg some hT.dot)
theorem ST.set_dot (h : ST w0 v0 m A c v) (x : Int) : ST w0 v0 m A { c with dot := x } (v.setCell ⟨m, 10583, none⟩ (.int .i64 x)) := by
  obtain ⟨⟨A', hA, hT, he⟩, hb⟩ := h
  exact ⟨⟨_, hA.set _ _, hT.set_dot x, he.one _ _ (by unfold Big; omega)⟩, hb.trans (Kb.set _ _ _ _)⟩
theorem ST.c_fr (h : ST w0 v0 m A c v) : v.cell? ⟨m, 10584, none⟩ = some (.int .i64 c.fr) := by
  obtain ⟨⟨A', hA, hT, he⟩, hk⟩ := h
  exact (hA.cell _ (by decide)).trans (congrArg some hT.fr)
theorem ST.set_fr (h : ST w0 v0 m A c v) (x : Int) : ST w0 v0 m A { c with fr := x } (v.setCell ⟨m, 10584, none⟩ (.int .i64 x)) := by
  obtain ⟨⟨A', hA, hT, he⟩, hb⟩ := h
  exact ⟨⟨_, hA.set _ _, hT.set_fr x, he.one _ _ (by unfold Big; omega)⟩, hb.trans (Kb.set _ _ _ _)⟩
theorem ST.sc (h : ST w0 v0 m A c v) : SC v m (scrC c) := h.px.sc
theorem ST.putS (h : ST w0 v0 m A c v) (s : LS) : ST w0 v0 m A (withS c s) ((((v.setCell ⟨m, 10273, none⟩ (.int .u16 s.v)).setCell ⟨m, 10274, none⟩ (.int .u16 s.t)).setCell ⟨m, 10275, none⟩ (.int .u8 s.x)).setCell ⟨m, 10276, none⟩ (.bool s.w)) :=
  (((h.set_V s.v).set_T s.t).set_X s.x).set_W s.w

/-- what is read of the great cells alone -/
theorem memV_eq {A A' : Nat → Value} (e : EqB A A') (up : Bool) (a : Int) : memV A' up a = memV A up a := by
  unfold memV; rw [e _ (.inl (adr_lt up a))]
theorem selF_eq {A A' : Nat → Value} (e : EqB A A') (i : Nat) (hi : i < 8) : selF A' i = selF A i := by unfold selF; rw [e _ (.inr (.inl (by omega)))]
theorem selA_eq {A A' : Nat → Value} (e : EqB A A') (i : Nat) (hi : i < 8) : selA A' i = selA A i := by unfold selA; rw [e _ (.inr (.inl (by omega)))]
theorem selX_eq {A A' : Nat → Value} (e : EqB A A') (i : Nat) (hi : i < 8) : selX A' i = selX A i := by unfold selX; rw [e _ (.inr (.inl (by omega)))]
theorem selL_eq {A A' : Nat → Value} (e : EqB A A') (i : Nat) (hi : i < 8) : selL A' i = selL A i := by unfold selL; rw [e _ (.inr (.inl (by omega)))]
theorem selU_eq {A A' : Nat → Value} (e : EqB A A') (i : Nat) (hi : i < 8) : selU A' i = selU A i := by unfold selU; rw [e _ (.inr (.inl (by omega)))]
theorem tilN_eq {A A' : Nat → Value} (e : EqB A A') (c : PC) (x : Int) : tilN A' c x = tilN A c x := by
  unfold tilN tilT; simp only [memV_eq e]
theorem tilP_eq {A A' : Nat → Value} (e : EqB A A') (c : PC) (x : Int) : tilP A' c x = tilP A c x := by
  unfold tilP; simp only [memV_eq e]
theorem hitS_eq {A A' : Nat → Value} (e : EqB A A') (x : Int) (i : Nat) (hi : i < 8) : hitS A' x i = hitS A x i := by
  unfold hitS; rw [selX_eq e i hi, selL_eq e i hi, selU_eq e i hi]
theorem find_congr {f g : Nat → Bool} : ∀ (l : List Nat), (∀ i ∈ l, f i = g i) → l.find? f = l.find? g
  | [], _ => rfl
  | a :: l, h => by
    simp only [List.find?_cons, h a (by simp)]
    split
    · rfl
    · exact find_congr l fun i hi => h i (by simp [hi])
theorem sprI_eq {A A' : Nat → Value} (e : EqB A A') {c : PC} (hn : 0 ≤ c.cnt ∧ c.cnt ≤ 8) (x : Int) : sprI A' c x = sprI A c x := by
  unfold sprI fstS
  split
  · exact find_congr _ fun i hi => hitS_eq e x i (by have : i < c.cnt.toNat := by simpa using hi
                                                     omega)
  · rfl
theorem spF_eq {A A' : Nat → Value} (e : EqB A A') {c : PC} (hn : 0 ≤ c.cnt ∧ c.cnt ≤ 8) (x : Int) : spF A' c x = spF A c x := by
  have k := sprI_eq e hn x
  unfold spF; rw [k]; split
  · rename_i i h; exact selF_eq e i (sprI_lt hn h)
  · rfl
theorem spA_eq {A A' : Nat → Value} (e : EqB A A') {c : PC} (hn : 0 ≤ c.cnt ∧ c.cnt ≤ 8) (x : Int) : spA A' c x = spA A c x := by
  have k := sprI_eq e hn x
  unfold spA; rw [k]; split
  · rename_i i h; exact selA_eq e i (sprI_lt hn h)
  · rfl
theorem spX_eq {A A' : Nat → Value} (e : EqB A A') {c : PC} (hn : 0 ≤ c.cnt ∧ c.cnt ≤ 8) (x : Int) : spX A' c x = spX A c x := by
  have k := sprI_eq e hn x
  unfold spX; rw [k]; split
  · rename_i i h; exact selX_eq e i (sprI_lt hn h)
  · rfl
theorem spL_eq {A A' : Nat → Value} (e : EqB A A') {c : PC} (hn : 0 ≤ c.cnt ∧ c.cnt ≤ 8) (x : Int) : spL A' c x = spL A c x := by
  have k := sprI_eq e hn x
  unfold spL; rw [k]; split
  · rename_i i h; exact selL_eq e i (sprI_lt hn h)
  · rfl
theorem spU_eq {A A' : Nat → Value} (e : EqB A A') {c : PC} (hn : 0 ≤ c.cnt ∧ c.cnt ≤ 8) (x : Int) : spU A' c x = spU A c x := by
  have k := sprI_eq e hn x
  unfold spU; rw [k]; split
  · rename_i i h; exact selU_eq e i (sprI_lt hn h)
  · rfl
theorem spN_eq {A A' : Nat → Value} (e : EqB A A') {c : PC} (hn : 0 ≤ c.cnt ∧ c.cnt ≤ 8) (x : Int) : spN A' c x = spN A c x := by
  have k := sprI_eq e hn x
  unfold spN; rw [k]; split
  · rename_i i h; rw [selL_eq e i (sprI_lt hn h), selU_eq e i (sprI_lt hn h), selX_eq e i (sprI_lt hn h)]
  · rfl

theorem ST.mget (h : ST w0 v0 m A c v) (a : Int) (ha : 0 ≤ a ∧ a < 65536) :
    Calls Try.prog 50 #[.pointer (some ⟨m, 0, none⟩), .int .u16 a] v fun e v' => e = .returned (.int .u8 (memV A c.up a)) ∧ Below v.heap.size v v' := by
  obtain ⟨⟨A', hA, hT, he⟩, hk⟩ := h
  have := pmget_any hA hT a ha
  rwa [memV_eq he] at this
theorem ST.mstrip (h : ST w0 v0 m A c v) (a : Int) (ha : 0 ≤ a ∧ a < 65528) :
    Calls Try.prog 92 #[.pointer (some ⟨m, 0, none⟩), .int .u16 a] v fun e v' => e = .returned (.agg #[.int .u8 (memV A c.up a), .int .u8 (memV A c.up (a + 8))]) ∧ Below v.heap.size v v' := by
  obtain ⟨⟨A', hA, hT, he⟩, hk⟩ := h
  have := pmstrip_any hA hT a ha
  rwa [memV_eq he, memV_eq he] at this
theorem ST.tile (h : ST w0 v0 m A c v) (hS : LIn (scrC c)) (x : Int) (hx : 0 ≤ x ∧ x < 256) :
    Calls Try.prog 90 #[.pointer (some ⟨m, 0, none⟩), .int .i64 x] v fun e v' => e = .returned (.tuple #[.int .u8 (tilN A c x), .int .u8 (tilP A c x)]) ∧ Below v.heap.size v v' := by
  obtain ⟨⟨A', hA, hT, he⟩, hk⟩ := h
  have := ptileDot_any hA hT hS x hx
  rwa [tilN_eq he, tilP_eq he] at this
theorem ST.sprite (h : ST w0 v0 m A c v) (hn : 0 ≤ c.cnt ∧ c.cnt ≤ 8) (x : Int) (hx : 0 ≤ x ∧ x < 256) :
    Calls Try.prog 91 #[.pointer (some ⟨m, 0, none⟩), .int .i64 x] v fun e v' => e = .returned (.tuple #[sprV (spF A c x) (spA A c x) (spX A c x) (spL A c x) (spU A c x), .int .u8 (spN A c x)]) ∧ Below v.heap.size v v' := by
  obtain ⟨⟨A', hA, hT, he⟩, hk⟩ := h
  have := pspriteDot_any hA hT hn x hx
  rwa [spF_eq he hn, spA_eq he hn, spX_eq he hn, spL_eq he hn, spU_eq he hn, spN_eq he hn] at this
theorem TB.mem_is (h : TB A) (up : Bool) (a : Int) : A (adr up a) = .int .u8 (memV A up a) ∧ 0 ≤ memV A up a ∧ memV A up a < 256 := (h.mem _ (adr_lt up a)).val
theorem ST.spA_b (h : ST w0 v0 m A c v) (hn : 0 ≤ c.cnt ∧ c.cnt ≤ 8) (x : Int) : 0 ≤ spA A c x ∧ spA A c x < 256 := by
  obtain ⟨⟨A', hA, hT, he⟩, hk⟩ := h
  have := Go.Proofs.Ythldppdkheclkaa.spA_b hT hn x
  rwa [spA_eq he hn] at this

end Go.Proofs.Ythldppdkheclkaa

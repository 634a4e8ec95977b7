/- The picture unit: which sprites are picked. No law is claimed here. -/
import Derived.Test.YthldppdkheclkaaPc14
set_option linter.unusedSimpArgs false
set_option linter.unusedVariables false
namespace Go.Proofs.Ythldppdkheclkaa
open Go.RowKit Go.Great

variable {w0 v0 v v' : World} {m : Nat} {A : Nat → Value} {c : PC}

/-- a picked sprite is written -/
def upd5 (A : Nat → Value) (k : Nat) (f : Bool) (a x l u : Int) : Nat → Value :=
  updV (updV (updV (updV (updV A (10538 + k * 5) (.bool f)) (10538 + k * 5 + 1) (.int .u8 a)) (10538 + k * 5 + 2) (.int .i64 x)) (10538 + k * 5 + 3) (.int .u8 l)) (10538 + k * 5 + 4) (.int .u8 u)
theorem upd5_other (A : Nat → Value) (k : Nat) (f : Bool) (a x l u : Int) (i : Nat) (h : i < 10538 + k * 5 ∨ 10538 + k * 5 + 5 ≤ i) : upd5 A k f a x l u i = A i := by
  unfold upd5
  rw [updV_other _ _ _ _ (by omega), updV_other _ _ _ _ (by omega), updV_other _ _ _ _ (by omega), updV_other _ _ _ _ (by omega), updV_other _ _ _ _ (by omega)]
theorem upd5_0 (A : Nat → Value) (k : Nat) (f : Bool) (a x l u : Int) : upd5 A k f a x l u (10538 + k * 5) = .bool f := by
  unfold upd5
  rw [updV_other _ _ _ _ (by omega), updV_other _ _ _ _ (by omega), updV_other _ _ _ _ (by omega), updV_other _ _ _ _ (by omega), updV_same]
theorem upd5_1 (A : Nat → Value) (k : Nat) (f : Bool) (a x l u : Int) : upd5 A k f a x l u (10538 + k * 5 + 1) = .int .u8 a := by
  unfold upd5
  rw [updV_other _ _ _ _ (by omega), updV_other _ _ _ _ (by omega), updV_other _ _ _ _ (by omega), updV_same]
theorem upd5_2 (A : Nat → Value) (k : Nat) (f : Bool) (a x l u : Int) : upd5 A k f a x l u (10538 + k * 5 + 2) = .int .i64 x := by
  unfold upd5
  rw [updV_other _ _ _ _ (by omega), updV_other _ _ _ _ (by omega), updV_same]
theorem upd5_3 (A : Nat → Value) (k : Nat) (f : Bool) (a x l u : Int) : upd5 A k f a x l u (10538 + k * 5 + 3) = .int .u8 l := by
  unfold upd5
  rw [updV_other _ _ _ _ (by omega), updV_same]
theorem upd5_4 (A : Nat → Value) (k : Nat) (f : Bool) (a x l u : Int) : upd5 A k f a x l u (10538 + k * 5 + 4) = .int .u8 u := by
  unfold upd5
  rw [updV_same]
theorem Ty.put5 (h : Ty c A) (k : Nat) (hk : k < 8) (f : Bool) (a x l u : Int) (ha : 0 ≤ a ∧ a < 256) (hx : 0 ≤ x ∧ x < 256) (hl : 0 ≤ l ∧ l < 256) (hu : 0 ≤ u ∧ u < 256) : Ty c (upd5 A k f a x l u) := by
  have o := fun i hi => upd5_other A k f a x l u i hi
  have isB : ∀ i, i < 10538 + k * 5 ∨ 10538 + k * 5 + 5 ≤ i → IsB (A i) → IsB (upd5 A k f a x l u i) := fun i hi hb => by rw [o i hi]; exact hb
  refine ⟨fun i hi => isB _ (by omega) (h.mem i hi), fun i hi => isB _ (by omega) (h.sp i hi), fun i hi => ?_, fun i hi => isB _ (by omega) (h.rows i hi), ?_, ?_, ?_, ?_, ?_, ?_, ?_, ?_, ?_, ?_, ?_, ?_, ?_, ?_, ?_, ?_, ?_⟩
  · by_cases e : i = k
    · subst e
      rw [Nat.mul_comm 5 i]
      exact ⟨f, a, x, l, u, upd5_0 .., upd5_1 .., upd5_2 .., upd5_3 .., upd5_4 .., ha, hx, hl, hu⟩
    · obtain ⟨f', a', z, l', u', h0, h1, h2, h3, h4, h5⟩ := h.sel i hi
      exact ⟨f', a', z, l', u', (o _ (by omega)).trans h0, (o _ (by omega)).trans h1, (o _ (by omega)).trans h2, (o _ (by omega)).trans h3, (o _ (by omega)).trans h4, h5⟩
  · exact (o _ (by omega)).trans h.up
  · exact (o _ (by omega)).trans h.V
  · exact (o _ (by omega)).trans h.T
  · exact (o _ (by omega)).trans h.X
  · exact (o _ (by omega)).trans h.W
  · exact (o _ (by omega)).trans h.con
  · exact (o _ (by omega)).trans h.msk
  · exact (o _ (by omega)).trans h.bus
  · exact (o _ (by omega)).trans h.buf
  · exact (o _ (by omega)).trans h.ad
  · exact (o _ (by omega)).trans h.cnt
  · exact (o _ (by omega)).trans h.blank
  · exact (o _ (by omega)).trans h.hit
  · exact (o _ (by omega)).trans h.over
  · exact (o _ (by omega)).trans h.line
  · exact (o _ (by omega)).trans h.dot
  · exact (o _ (by omega)).trans h.fr
theorem ST.put5 (h : ST w0 v0 m A c v) (k : Nat) (hk : k < 8) (f : Bool) (a x l u : Int) (ha : 0 ≤ a ∧ a < 256) (hx : 0 ≤ x ∧ x < 256) (hl : 0 ≤ l ∧ l < 256) (hu : 0 ≤ u ∧ u < 256) :
    ST w0 v0 m (upd5 A k f a x l u) c (((((v.setCell ⟨m, 10538 + k * 5, none⟩ (.bool f)).setCell ⟨m, 10538 + k * 5 + 1, none⟩ (.int .u8 a)).setCell ⟨m, 10538 + k * 5 + 2, none⟩ (.int .i64 x)).setCell ⟨m, 10538 + k * 5 + 3, none⟩ (.int .u8 l)).setCell ⟨m, 10538 + k * 5 + 4, none⟩ (.int .u8 u)) := by
  obtain ⟨⟨A', hA, hT, he⟩, hb⟩ := h
  refine ⟨⟨upd5 A' k f a x l u, ((((hA.set _ _).set _ _).set _ _).set _ _).set _ _, hT.put5 k hk f a x l u ha hx hl hu, ?_⟩, (((((hb.trans (Kb.set _ _ _ _)).trans (Kb.set _ _ _ _)).trans (Kb.set _ _ _ _)).trans (Kb.set _ _ _ _)).trans (Kb.set _ _ _ _))⟩
  unfold upd5
  exact ((((he.upd _ _).upd _ _).upd _ _).upd _ _).upd _ _

/-- the row of the line in the sprite i; is it on the line? -/
def visR (A : Nat → Value) (c : PC) (i : Nat) : Int := c.line - spV A (4 * i)
def visS (A : Nat → Value) (c : PC) (i : Nat) : Bool := decide (0 ≤ visR A c i) && decide (visR A c i < heiV c)
/-- what is picked of the first i sprites -/
def selR (A : Nat → Value) (c : PC) : Nat → (Nat → Value) × Nat
  | 0 => (A, 0)
  | i + 1 => if visS A c i = true ∧ (selR A c i).2 < 8 then
      (upd5 (selR A c i).1 (selR A c i).2 (((4 * i : Nat) : Int) == 0) (spV A (4 * i + 2)) (spV A (4 * i + 3)) (rdL A c (4 * i) (visR A c i)) (rdU A c (4 * i) (visR A c i)), (selR A c i).2 + 1)
    else selR A c i
/-- are there too many? -/
def selO (A : Nat → Value) (c : PC) : Nat → Bool
  | 0 => false
  | i + 1 => selO A c i || (visS A c i && decide (8 ≤ (selR A c i).2))
theorem selR_le (A : Nat → Value) (c : PC) : ∀ i, (selR A c i).2 ≤ 8
  | 0 => Nat.zero_le _
  | i + 1 => by
    have := selR_le A c i
    rw [selR]
    split
    · rename_i h; show (selR A c i).2 + 1 ≤ 8; omega
    · exact this
theorem selR_no {A : Nat → Value} {c : PC} {i : Nat} (h : visS A c i = false) : selR A c (i + 1) = selR A c i := by
  rw [selR, if_neg (fun k => by rw [h] at k; exact absurd k.1 (by decide))]
theorem selO_no {A : Nat → Value} {c : PC} {i : Nat} (h : visS A c i = false) : selO A c (i + 1) = selO A c i := by
  rw [selO, h]; simp
theorem selR_yes {A : Nat → Value} {c : PC} {i : Nat} (h : visS A c i = true) (k : (selR A c i).2 < 8) : selR A c (i + 1) = (upd5 (selR A c i).1 (selR A c i).2 (((4 * i : Nat) : Int) == 0) (spV A (4 * i + 2)) (spV A (4 * i + 3)) (rdL A c (4 * i) (visR A c i)) (rdU A c (4 * i) (visR A c i)), (selR A c i).2 + 1) := by
  rw [selR, if_pos ⟨h, k⟩]
theorem selO_yes {A : Nat → Value} {c : PC} {i : Nat} (k : (selR A c i).2 < 8) : selO A c (i + 1) = selO A c i := by
  rw [selO, decide_eq_false (by omega)]; simp
theorem selR_stay {A : Nat → Value} {c : PC} {i : Nat} (h : (selR A c i).2 = 8) : ∀ k, selR A c (i + k) = selR A c i
  | 0 => rfl
  | k + 1 => by
    have e := selR_stay h k
    rw [show i + (k + 1) = (i + k) + 1 from rfl, selR, e, if_neg (by omega)]
theorem selO_stay {A : Nat → Value} {c : PC} {i : Nat} (h : selO A c i = true) : ∀ k, selO A c (i + k) = true
  | 0 => h
  | k + 1 => by rw [show i + (k + 1) = (i + k) + 1 from rfl, selO, selO_stay h k]; rfl
theorem selO_full {A : Nat → Value} {c : PC} {i : Nat} (h : visS A c i = true) (k : (selR A c i).2 = 8) : selO A c (i + 1) = true := by
  rw [selO, h, decide_eq_true (by omega)]; simp
theorem selR_other (A : Nat → Value) (c : PC) : ∀ i k, k < 10538 ∨ 10578 ≤ k → (selR A c i).1 k = A k
  | 0, _, _ => rfl
  | i + 1, k, hk => by
    have e := selR_other A c i k hk
    have l := selR_le A c i
    rw [selR]
    split
    · rename_i h; exact (upd5_other _ _ _ _ _ _ _ _ (by omega)).trans e
    · exact e
theorem selR_sp (A : Nat → Value) (c : PC) (i k : Nat) (hk : k < 256) : spV (selR A c i).1 k = spV A k := by
  unfold spV; rw [selR_other _ _ _ _ (.inl (by omega))]
theorem selR_mem (A : Nat → Value) (c : PC) (i : Nat) (up : Bool) (a : Int) : memV (selR A c i).1 up a = memV A up a := by
  have := adr_lt up a
  unfold memV; rw [selR_other _ _ _ _ (.inl (by omega))]
theorem rd_congr {A A' : Nat → Value} (c : PC) (n : Int) (j : Nat) (r : Int) (h1 : spV A' (j + 1) = spV A (j + 1)) (h2 : spV A' (j + 2) = spV A (j + 2)) (hm : ∀ up a, memV A' up a = memV A up a) :
    rdL A' { c with cnt := n } j r = rdL A c j r ∧ rdU A' { c with cnt := n } j r = rdU A c j r := by
  have eW : rdW A' { c with cnt := n } j r = rdW A c j r := by unfold rdW; rw [h2]; rfl
  have eT : rdT A' { c with cnt := n } j r = rdT A c j r := by unfold rdT; rw [eW, h1]; rfl
  constructor
  · unfold rdL; rw [h2, eT, hm]
  · unfold rdU; rw [h2, eT, hm]
def pckA (A : Nat → Value) (c : PC) : Nat → Value := if c.line < 240 ∧ shw c 24 = true then (selR A c 64).1 else A
def pckC (A : Nat → Value) (c : PC) : PC := if c.line < 240 ∧ shw c 24 = true then { c with cnt := ((selR A c 64).2 : Int), over := c.over || selO A c 64 } else { c with cnt := 0 }
theorem pckC_f (A : Nat → Value) (c : PC) : (pckC A c).up = c.up ∧ (pckC A c).msk = c.msk ∧ (pckC A c).line = c.line ∧ (pckC A c).dot = c.dot ∧ (pckC A c).fr = c.fr ∧ (0 ≤ (pckC A c).cnt ∧ (pckC A c).cnt ≤ 8) ∧ scrC (pckC A c) = scrC c := by
  have := selR_le A c 64
  unfold pckC; split
  · exact ⟨rfl, rfl, rfl, rfl, rfl, ⟨by show (0 : Int) ≤ ((selR A c 64).2 : Int); omega, by show ((selR A c 64).2 : Int) ≤ 8; omega⟩, rfl⟩
  · exact ⟨rfl, rfl, rfl, rfl, rfl, ⟨Int.le_refl 0, (by decide : (0 : Int) ≤ 8)⟩, rfl⟩

set_option maxRecDepth 100000 in
set_option maxHeartbeats 2000000 in
theorem ST.pick_no (h : ST w0 v0 m A c v) (hn : ¬ (c.line < 240 ∧ shw c 24 = true)) :
    Calls Try.prog 59 #[.pointer (some ⟨m, 0, none⟩)] v fun e v' => e = .returned (.tuple #[]) ∧ ST w0 v0 m A { c with cnt := 0 } v' := by
  have h1 := h.set_cnt 0
  have q0 := h.c_cnt
  have q1 := h1.c_line
  have z1 := h.fz 10578
  have FR := prenders_any h1.px
  rw [show shw { c with cnt := 0 } 24 = shw c 24 from rfl] at FR
  change _ = some (Value.int IntKind.i64 c.line) at q1
  by_cases e1 : c.line < 240
  · have e2 : shw c 24 = false := by simpa using fun k => hn ⟨e1, k⟩
    rw [e2] at FR
    go_enter Try.func59, Try.ntmps59
    go_wp2_with (go_at_call 57; refine FR.mono ?_; rintro e w2 ⟨rfl, rfl⟩)
    (first | refine bodyPost_end (results_none rfl _ _ _) rfl ?_ | refine bodyPost_ret (results_none rfl _ _ _) rfl ?_)
    exact ⟨rfl, h1⟩
  · have e2 : 240 ≤ c.line := by omega
    go_enter Try.func59, Try.ntmps59
    go_wp2
    (first | refine bodyPost_end (results_none rfl _ _ _) rfl ?_ | refine bodyPost_ret (results_none rfl _ _ _) rfl ?_)
    exact ⟨rfl, h1⟩

end Go.Proofs.Ythldppdkheclkaa

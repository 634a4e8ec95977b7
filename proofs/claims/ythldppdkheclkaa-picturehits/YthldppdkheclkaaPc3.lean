/- The picture unit: its methods. No law is claimed here. -/
import Derived.Test.YthldppdkheclkaaPc2
import Derived.Test.YthldppdkheclkaaMoreQ
import Derived.Test.YthldppdkheclkaaLy3
import Derived.Laws.ResultCell
set_option linter.unusedSimpArgs false
set_option linter.unusedVariables false
namespace Go.Proofs.Ythldppdkheclkaa
open Go.RowKit Go.Great

variable {w0 v v' : World} {m : Nat} {A : Nat → Value} {c : PC}

theorem natP (a : Int) (h : 0 ≤ a) : ∃ j : Nat, a = j := ⟨a.toNat, by omega⟩
/-- is anything shown? -/
def shw (c : PC) (k : Int) : Bool := !decide (bits .and .u8 c.msk k = 0)

set_option maxRecDepth 100000 in
set_option maxHeartbeats 1000000 in
theorem PX.lt (h : PX w0 m c v) : m < v.heap.size := by
  obtain ⟨A, hA, _⟩ := h
  exact hA.lt
theorem PX.bel (h : PX w0 m c v) : Below m w0 v := by
  obtain ⟨A, hA, _⟩ := h
  exact hA.bel
set_option maxRecDepth 100000 in
set_option maxHeartbeats 1000000 in
theorem prenders_any (h : PX w0 m c v) :
    Calls Try.prog 57 #[.pointer (some ⟨m, 0, none⟩)] v fun e v' => e = .returned (.bool (shw c 24)) ∧ v' = v := by
  obtain ⟨A, hA, hT⟩ := h
  have q1 : v.cell? ⟨m, 10278, none⟩ = some (.int .u8 c.msk) := (hA.cell 10278 (by decide)).trans (congrArg some hT.msk)
  unfold shw
  generalize c.msk = k at *
  go_enter Try.func57, Try.ntmps57
  go_wp2
  go_ret
  exact ⟨rfl, rfl⟩

set_option maxRecDepth 100000 in
set_option maxHeartbeats 1000000 in
theorem plastOfLine_any (h : PX w0 m c v) (hf : 0 ≤ c.fr) :
    Calls Try.prog 89 #[.pointer (some ⟨m, 0, none⟩)] v fun e v' => e = .returned (.int .i64 (if c.line = 261 ∧ c.fr % 2 = 0 ∧ shw c 24 = true then 339 else 340)) ∧ v' = v := by
  have FR := prenders_any h
  obtain ⟨A, hA, hT⟩ := h
  have q1 : v.cell? ⟨m, 10582, none⟩ = some (.int .i64 c.line) := (hA.cell 10582 (by decide)).trans (congrArg some hT.line)
  have q2 : v.cell? ⟨m, 10584, none⟩ = some (.int .i64 c.fr) := (hA.cell 10584 (by decide)).trans (congrArg some hT.fr)
  generalize shw c 24 = r at *
  generalize c.line = l at *
  generalize c.fr = f at *
  go_enter Try.func89, Try.ntmps89
  go_wp2_with (go_at_call 57; refine FR.mono ?_; rintro e w2 ⟨rfl, rfl⟩)
  all_goals go_ret
  all_goals first | exact ⟨rfl, rfl⟩ | (exfalso; simp_all; done)

/-- the dot that follows -/
def lasC (c : PC) : Int := if c.line = 261 ∧ c.fr % 2 = 0 ∧ shw c 24 = true then 339 else 340
def nexC (c : PC) : PC := if c.dot < lasC c then { c with dot := c.dot + 1 } else { c with dot := 0, line := if c.line = 261 then 0 else c.line + 1 }
set_option maxRecDepth 100000 in
set_option maxHeartbeats 1000000 in
theorem pnextDot_any (h : PX w0 m c v) (hf : 0 ≤ c.fr) (hl : 0 ≤ c.line ∧ c.line ≤ 261) (hd : 0 ≤ c.dot ∧ c.dot ≤ 340) :
    Calls Try.prog 60 #[.pointer (some ⟨m, 0, none⟩)] v fun e v' => e = .returned (.tuple #[]) ∧ PX w0 m (nexC c) v' := by
  have QL := fun n => Calls.more_q (w := v) (n := n) ((plastOfLine_any (h.past (mP_below v n)) hf).mono fun _ _ hh => ⟨hh.1, by rw [hh.2]; exact Below.refl _ _⟩)
  rw [show (if c.line = 261 ∧ c.fr % 2 = 0 ∧ shw c 24 = true then (339 : Int) else 340) = lasC c from rfl] at QL
  have hm := h.lt
  have x2 : ∀ n, (mP v n).cell? ⟨m, 10583, none⟩ = some (.int .i64 c.dot) := fun n => mP_cell hm (by obtain ⟨A, hA, hT⟩ := h; exact (hA.cell 10583 (by decide)).trans (congrArg some hT.dot)) n
  have bl : 339 ≤ lasC c ∧ lasC c ≤ 340 := by unfold lasC; split <;> omega
  have hp := fun n => h.past (mP_below v n)
  clear h
  have n1 : c.dot < lasC c → nexC c = { c with dot := c.dot + 1 } := fun e => if_pos e
  have n2 : ¬ c.dot < lasC c → c.line = 261 → nexC c = { c with dot := 0, line := 0 } := fun e e' => by unfold nexC; rw [if_neg e, if_pos e']
  have n3 : ¬ c.dot < lasC c → ¬ c.line = 261 → nexC c = { c with dot := 0, line := c.line + 1 } := fun e e' => by unfold nexC; rw [if_neg e, if_neg e']
  generalize nexC c = N at *
  generalize lasC c = L at *
  go_enter Try.func60, Try.ntmps60
  go_upto_region 0 with (fail)
  refine wp_region_more (by kernel_rfl) (by kernel_rfl) ?_
  repeat (go_big_quiet_step (first | (go_at_call 89; exact QL _)))
  refine wpQuiet_nil ?_
  intro w9 hw
  obtain ⟨nq, rfl⟩ := hw
  obtain ⟨A, hA, hT⟩ := hp nq
  clear QL x2 hm hp
  generalize mP v nq = v1 at *
  have q1 : v1.cell? ⟨m, 10582, none⟩ = some (.int .i64 c.line) := (hA.cell 10582 (by decide)).trans (congrArg some hT.line)
  have q2 : v1.cell? ⟨m, 10583, none⟩ = some (.int .i64 c.dot) := (hA.cell 10583 (by decide)).trans (congrArg some hT.dot)
  have z1 := hA.fz 10582
  have z2 := hA.fz 10583
  by_cases e1 : c.dot < L
  · obtain rfl := n1 e1
    clear n2 n3
    go_wp2
    (first | refine bodyPost_end (results_none rfl _ _ _) rfl ?_ | refine bodyPost_ret (results_none rfl _ _ _) rfl ?_)
    exact ⟨rfl, _, hA.set 10583 _, hT.set_dot (c.dot + 1)⟩
  · by_cases e2 : c.line = 261
    · obtain rfl := n2 e1 e2
      clear n3
      rw [e2] at q1
      go_wp2
      (first | refine bodyPost_end (results_none rfl _ _ _) rfl ?_ | refine bodyPost_ret (results_none rfl _ _ _) rfl ?_)
      exact ⟨rfl, _, ((hA.set 10583 _).set 10582 _).set 10582 _, ((hT.set_dot 0).set_line 262).set_line 0⟩
    · obtain rfl := n3 e1 e2
      clear n2
      have e3 : ¬ 261 < c.line + 1 := by omega
      go_wp2
      (first | refine bodyPost_end (results_none rfl _ _ _) rfl ?_ | refine bodyPost_ret (results_none rfl _ _ _) rfl ?_)
      exact ⟨rfl, _, (hA.set 10583 _).set 10582 _, (hT.set_dot 0).set_line (c.line + 1)⟩

def flgC (c : PC) : PC := if c.line = 241 then { c with blank := true, fr := c.fr + 1 } else if c.line = 261 then { c with blank := false, hit := false, over := false } else c
set_option maxRecDepth 100000 in
set_option maxHeartbeats 1000000 in
theorem pchangeFlags_any (h : PX w0 m c v) (hf : 0 ≤ c.fr ∧ c.fr < 4611686018427387904) :
    Calls Try.prog 55 #[.pointer (some ⟨m, 0, none⟩)] v fun e v' => e = .returned (.tuple #[]) ∧ PX w0 m (flgC c) v' := by
  obtain ⟨A, hA, hT⟩ := h
  have q1 : v.cell? ⟨m, 10582, none⟩ = some (.int .i64 c.line) := (hA.cell 10582 (by decide)).trans (congrArg some hT.line)
  have q2 : v.cell? ⟨m, 10584, none⟩ = some (.int .i64 c.fr) := (hA.cell 10584 (by decide)).trans (congrArg some hT.fr)
  have q3 : v.cell? ⟨m, 10579, none⟩ = some (.bool c.blank) := (hA.cell 10579 (by decide)).trans (congrArg some hT.blank)
  have q4 : v.cell? ⟨m, 10580, none⟩ = some (.bool c.hit) := (hA.cell 10580 (by decide)).trans (congrArg some hT.hit)
  have q5 : v.cell? ⟨m, 10581, none⟩ = some (.bool c.over) := (hA.cell 10581 (by decide)).trans (congrArg some hT.over)
  have z1 := hA.fz 10584
  have z2 := hA.fz 10579
  have z3 := hA.fz 10580
  have z4 := hA.fz 10581
  rcases (by omega : c.line = 241 ∨ c.line = 261 ∨ (c.line ≠ 241 ∧ c.line ≠ 261)) with e | e | ⟨e, e'⟩
  · rw [e] at q1
    have ec : flgC c = { c with blank := true, fr := c.fr + 1 } := if_pos e
    rw [ec]
    clear ec
    go_enter Try.func55, Try.ntmps55
    go_wp2
    (first | refine bodyPost_end (results_none rfl _ _ _) rfl ?_ | refine bodyPost_ret (results_none rfl _ _ _) rfl ?_)
    exact ⟨rfl, _, (hA.set 10579 _).set 10584 _, (hT.set_blank true).set_fr (c.fr + 1)⟩
  · rw [e] at q1
    have ec : flgC c = { c with blank := false, hit := false, over := false } := (if_neg (by omega)).trans (if_pos e)
    rw [ec]
    clear ec
    go_enter Try.func55, Try.ntmps55
    go_wp2
    (first | refine bodyPost_end (results_none rfl _ _ _) rfl ?_ | refine bodyPost_ret (results_none rfl _ _ _) rfl ?_)
    exact ⟨rfl, _, ((hA.set 10579 _).set 10580 _).set 10581 _, ((hT.set_blank false).set_hit false).set_over false⟩
  · have ec : flgC c = c := (if_neg e).trans (if_neg e')
    rw [ec]
    clear ec
    go_enter Try.func55, Try.ntmps55
    go_wp2
    all_goals first | (exfalso; simp_all; done) | skip
    (first | refine bodyPost_end (results_none rfl _ _ _) rfl ?_ | refine bodyPost_ret (results_none rfl _ _ _) rfl ?_)
    exact ⟨rfl, _, hA, hT⟩

theorem IsS.nil : IsS zA 10538 := zA_ty.sel 0 (by decide)

set_option maxRecDepth 100000 in
set_option maxHeartbeats 1000000 in
theorem pshows_dark (h : PX w0 m c v) (hk : c.msk = 0) (a b x : Int) (ha : bits .and .u8 0 a = 0) :
    Calls Try.prog 95 #[.pointer (some ⟨m, 0, none⟩), .int .u8 a, .int .u8 b, .int .i64 x] v fun e v' => e = .returned (.bool false) ∧ v' = v := by
  obtain ⟨A, hA, hT⟩ := h
  have q1 : v.cell? ⟨m, 10278, none⟩ = some (.int .u8 0) := (hA.cell 10278 (by decide)).trans (congrArg some (hk ▸ hT.msk))
  go_enter Try.func95, Try.ntmps95
  go_wp2
  go_ret
  exact ⟨rfl, rfl⟩

set_option maxRecDepth 100000 in
set_option maxHeartbeats 1000000 in
theorem ptileDot_dark (h : PX w0 m c v) (hk : c.msk = 0) (x : Int) :
    Calls Try.prog 90 #[.pointer (some ⟨m, 0, none⟩), .int .i64 x] v fun e v' => e = .returned (.tuple #[.int .u8 0, .int .u8 0]) ∧ v' = v := by
  have FS := pshows_dark h hk 8 2 x (by decide +kernel)
  go_enter Try.func90, Try.ntmps90
  go_wp2_with (go_at_call 95; refine FS.mono ?_; rintro e w2 ⟨rfl, rfl⟩)
  (first | refine bodyPost_end (results_tmp2 rfl _ _ _) rfl ?_ | refine bodyPost_ret (results_tmp2 rfl _ _ _) rfl ?_)
  exact ⟨rfl, rfl⟩

theorem results_row_tmp {P : Program} {fn : Func} {p u : Tmp} {ty : TypeId} (h : fn.results = #[.cell p ty, .tmp u]) (tmps : Array Value) (w : World) (g : Nat) (t : TypeId) (cs : Array Value) (fr : Nat × Nat) (d : TypeDesc)
    (hp : tmps.getD p undef = .pointer (some ⟨g, 0, none⟩)) (hg : w.heap[g]? = some (.cells cs t fr))
    (hu : P.underlying ty = some d) (hd : (match d with | .struct _ | .array _ _ => true | _ => false) = true) (hi : (P.info? ty).map (·.size) = some cs.size) :
    (results fn tmps).run P w = .ok (.tuple #[.agg cs, tmps.getD u undef]) w := by
  rw [results_cell_tmp h, hp]
  simp [asAddr, run_loadVar_row w g t ty cs fr d hg hu hd hi]
def sprV (f : Bool) (a x l u : Int) : Value := .agg #[.bool f, .int .u8 a, .int .i64 x, .int .u8 l, .int .u8 u]

set_option maxRecDepth 100000 in
set_option maxHeartbeats 1000000 in
theorem pspriteDot_dark (h : PX w0 m c v) (hk : c.msk = 0) (x : Int) :
    Calls Try.prog 91 #[.pointer (some ⟨m, 0, none⟩), .int .i64 x] v fun e v' => e = .returned (.tuple #[sprV false 0 0 0 0, .int .u8 0]) ∧ Below v.heap.size v v' := by
  have FS := fun (u : World) (hu : PX w0 m c u) => pshows_dark hu hk 16 4 x (by decide +kernel)
  unfold sprV
  go_enter Try.func91, Try.ntmps91
  go_upto_region 1 with (fail)
  have hb : Below v.heap.size v (v.alloc (.cells #[.bool false, .int .u8 0, .int .i64 0, .int .u8 0, .int .u8 0] 81)) := ((Ext.refl _).alloc _).below
  have h1 := h.past hb
  have ha := heap_alloc_new v (.cells #[.bool false, .int .u8 0, .int .i64 0, .int .u8 0, .int .u8 0] 81)
  go_wp2_with (go_at_call 95; refine (FS _ h1).mono ?_; rintro e w2 ⟨rfl, rfl⟩)
  (first | refine bodyPost_end (results_row_tmp rfl _ _ v.heap.size 81 #[.bool false, .int .u8 0, .int .i64 0, .int .u8 0, .int .u8 0] (0, 0) _ rfl ?_ Try.underlying81 rfl (by kernel_rfl)) rfl ⟨rfl, ?_⟩ | refine bodyPost_ret (results_row_tmp rfl _ _ v.heap.size 81 #[.bool false, .int .u8 0, .int .i64 0, .int .u8 0, .int .u8 0] (0, 0) _ rfl ?_ Try.underlying81 rfl (by kernel_rfl)) rfl ⟨rfl, ?_⟩)
  all_goals clear FS h1 hb ha
  · exact heap_alloc_new v _
  · exact ((Ext.refl _).alloc _).below

set_option maxRecDepth 100000 in
set_option maxHeartbeats 1000000 in
theorem pcolour_dark (h : PX w0 m c v) (hk : c.msk = 0) (x : Int) (hx : 0 ≤ x ∧ x < 256) :
    Calls Try.prog 82 #[.pointer (some ⟨m, 0, none⟩), .int .i64 x] v fun e v' => e = .returned (.int .u8 0) ∧ Below v.heap.size v v' := by
  have FT := ptileDot_dark h hk x
  have FS := pspriteDot_dark h hk x
  unfold sprV at FS
  go_enter Try.func82, Try.ntmps82
  go_wp2_with (first | (go_at_call 90; refine FT.mono ?_; rintro e w2 ⟨rfl, rfl⟩) | (go_at_call 91; refine FS.mono ?_; rintro e w2 ⟨rfl, b2⟩))
  go_ret
  exact ⟨rfl, b2.trans (((Ext.refl _).alloc _).below.mono b2.size)⟩

set_option maxRecDepth 100000 in
set_option maxHeartbeats 1000000 in
theorem m16383 (v : Int) (hv : 0 ≤ v ∧ v < 65536) : bits .and .u16 v 16383 = v % 16384 := nat_mask v 16383 (fun v => v % 16384) hv (by decide) fun n _ => by
  rw [show n &&& 16383 = _ from fld n 0 14]; simp only [Nat.pow_zero, Nat.div_one, Nat.mul_one, show (2 : Nat) ^ 14 = 16384 from rfl]; omega

/-- a byte's number -/
def bI (y : Value) : Int := match y with | .int _ x => x | _ => 0
theorem IsB.val {y : Value} (h : IsB y) : y = .int .u8 (bI y) ∧ 0 ≤ bI y ∧ bI y < 256 := by
  obtain ⟨x, rfl, h0, h1⟩ := h
  exact ⟨rfl, h0, h1⟩
/-- where a place of the memory lies -/
def adr (up : Bool) (a : Int) : Nat := if a % 16384 < 8192 then (a % 16384).toNat else if a % 16384 < 16128 then 8192 + (mirN (a % 16384) up).toNat else 10240 + (colN (a % 16384)).toNat
theorem mirN_b (a : Int) (up : Bool) : 0 ≤ mirN a up ∧ mirN a up < 2048 := by
  unfold mirN
  cases up <;> simp only [if_true, if_false, Bool.false_eq_true] <;> omega
theorem colN_b (a : Int) : 0 ≤ colN a ∧ colN a < 32 := by
  unfold colN
  split <;> omega
theorem adr_lt (up : Bool) (a : Int) : adr up a < 10272 := by
  have h1 := mirN_b (a % 16384) up
  have h2 := colN_b (a % 16384)
  unfold adr
  split
  · omega
  · split <;> omega
def memV (A : Nat → Value) (up : Bool) (a : Int) : Int := bI (A (adr up a))
theorem memV_is (hT : Ty c A) (a : Int) : A (adr c.up a) = .int .u8 (memV A c.up a) ∧ 0 ≤ memV A c.up a ∧ memV A c.up a < 256 := (hT.mem _ (adr_lt c.up a)).val

set_option maxRecDepth 100000 in
set_option maxHeartbeats 1000000 in
theorem pmget_any (hA : PA w0 m A v) (hT : Ty c A) (a : Int) (ha : 0 ≤ a ∧ a < 65536) :
    Calls Try.prog 50 #[.pointer (some ⟨m, 0, none⟩), .int .u16 a] v fun e v' => e = .returned (.int .u8 (memV A c.up a)) ∧ Below v.heap.size v v' := by
  have k1 := m16383 a ha
  obtain ⟨hb, hb0, hb1⟩ := memV_is hT a
  have q1 : v.cell? ⟨m, adr c.up a, none⟩ = some (.int .u8 (memV A c.up a)) := (hA.cell _ (by have := adr_lt c.up a; omega)).trans (congrArg some hb)
  have q2 : v.cell? ⟨m, 10272, none⟩ = some (.bool c.up) := (hA.cell 10272 (by decide)).trans (congrArg some hT.up)
  have hm := hA.lt
  generalize memV A c.up a = B at *
  clear hb
  generalize c.up = up at *
  rcases (by omega : a % 16384 < 8192 ∨ (8192 ≤ a % 16384 ∧ a % 16384 < 16128) ∨ 16128 ≤ a % 16384) with e | ⟨e, e'⟩ | e
  · obtain ⟨j, hj⟩ := natP (a % 16384) (by omega)
    have ea : adr up a = j := by unfold adr; rw [if_pos e]; omega
    rw [ea] at q1
    rw [hj] at k1 e
    clear hT hA hj ha ea
    go_enter Try.func50, Try.ntmps50
    go_wp2
    go_ret
    exact ⟨rfl, Below.refl _ _⟩
  · have hM := mirN_b (a % 16384) up
    have FM := fun u => mirror_any (a % 16384) up u (by omega)
    obtain ⟨k, hk⟩ := natP (mirN (a % 16384) up) hM.1
    have ea : adr up a = 8192 + k := by unfold adr; rw [if_neg (by omega), if_pos e']; omega
    rw [ea] at q1
    rw [hk] at hM FM
    generalize a % 16384 = a1 at *
    have x1 : ∀ n, (mP v n).cell? ⟨m, 8192 + k, none⟩ = some (.int .u8 B) := fun n => mP_cell hm q1 n
    have x2 : ∀ n, (mP v n).cell? ⟨m, 10272, none⟩ = some (.bool up) := fun n => mP_cell hm q2 n
    have QM := fun n => Calls.more_q (w := v) (n := n) ((FM (mP v n)).mono fun _ _ hh => ⟨hh.1, by rw [hh.2]; exact Below.refl _ _⟩)
    clear hT hA hk ea q1 q2 FM
    go_enter Try.func50, Try.ntmps50
    go_upto_region 5 with (fail)
    refine wp_region_more (by kernel_rfl) (by kernel_rfl) ?_
    repeat (go_big_quiet_step (first | (go_at_call 73; exact QM _)))
    refine wpQuiet_nil ?_
    intro w9 hw
    obtain ⟨nq, rfl⟩ := hw
    go_wp2
    go_ret
    exact ⟨rfl, mP_below v nq⟩
  · have hM := colN_b (a % 16384)
    have FM := fun u => colour_any (a % 16384) u (by omega)
    obtain ⟨k, hk⟩ := natP (colN (a % 16384)) hM.1
    have ea : adr up a = 10240 + k := by unfold adr; rw [if_neg (by omega), if_neg (by omega)]; omega
    rw [ea] at q1
    rw [hk] at hM FM
    have e2 : a % 16384 < 16384 := by omega
    generalize a % 16384 = a1 at *
    have x1 : ∀ n, (mP v n).cell? ⟨m, 10240 + k, none⟩ = some (.int .u8 B) := fun n => mP_cell hm q1 n
    have QM := fun n => Calls.more_q (w := v) (n := n) ((FM (mP v n)).mono fun _ _ hh => ⟨hh.1, by rw [hh.2]; exact Below.refl _ _⟩)
    clear hT hA hk ea q1 q2 FM
    go_enter Try.func50, Try.ntmps50
    go_upto_region 6 with (fail)
    refine wp_region_more (by kernel_rfl) (by kernel_rfl) ?_
    repeat (go_big_quiet_step (first | (go_at_call 74; exact QM _)))
    refine wpQuiet_nil ?_
    intro w9 hw
    obtain ⟨nq, rfl⟩ := hw
    go_wp2
    go_ret
    exact ⟨rfl, mP_below v nq⟩

end Go.Proofs.Ythldppdkheclkaa

/- The picture unit: looks, the control register, NMI, Frame. No law is claimed here. -/
import Derived.Test.YthldppdkheclkaaPc4
set_option linter.unusedSimpArgs false
set_option linter.unusedVariables false
namespace Go.Proofs.Ythldppdkheclkaa
open Go.RowKit Go.Great

variable {w0 v v' : World} {m : Nat} {A : Nat → Value} {c : PC}

def scrC (c : PC) : LS := ⟨c.V, c.T, c.X, c.W⟩
def withS (c : PC) (s : LS) : PC := { c with V := s.v, T := s.t, X := s.x, W := s.w }
/-- the cells of its scroll -/
structure SC (v : World) (m : Nat) (s : LS) : Prop where
  c0 : v.cell? ⟨m, 10273, none⟩ = some (.int .u16 s.v)
  c1 : v.cell? ⟨m, 10274, none⟩ = some (.int .u16 s.t)
  c2 : v.cell? ⟨m, 10275, none⟩ = some (.int .u8 s.x)
  c3 : v.cell? ⟨m, 10276, none⟩ = some (.bool s.w)
  z0 : v.frozen? ⟨m, 10273, none⟩ = false
  z1 : v.frozen? ⟨m, 10274, none⟩ = false
  z2 : v.frozen? ⟨m, 10275, none⟩ = false
  z3 : v.frozen? ⟨m, 10276, none⟩ = false
theorem PX.sc (h : PX w0 m c v) : SC v m (scrC c) := by
  obtain ⟨A, hA, hT⟩ := h
  exact ⟨(hA.cell _ (by decide)).trans (congrArg some hT.V), (hA.cell _ (by decide)).trans (congrArg some hT.T), (hA.cell _ (by decide)).trans (congrArg some hT.X), (hA.cell _ (by decide)).trans (congrArg some hT.W), hA.fz _, hA.fz _, hA.fz _, hA.fz _⟩
theorem PX.putS (h : PX w0 m c v) (s : LS) : PX w0 m (withS c s) ((((v.setCell ⟨m, 10273, none⟩ (.int .u16 s.v)).setCell ⟨m, 10274, none⟩ (.int .u16 s.t)).setCell ⟨m, 10275, none⟩ (.int .u8 s.x)).setCell ⟨m, 10276, none⟩ (.bool s.w)) := by
  obtain ⟨A, hA, hT⟩ := h
  exact ⟨_, (((hA.set 10273 _).set 10274 _).set 10275 _).set 10276 _, (((hT.set_V s.v).set_T s.t).set_X s.x).set_W s.w⟩
theorem PX.drew (h : PX w0 m c v) : PX w0 m c v.drew := h.past (Below.refl _ _).drew
theorem PX.drewN (h : PX w0 m c v) (q : Nat) : PX w0 m c (v.drewN q) := h.past (still_below _ _ _)
theorem PX.set_blank (h : PX w0 m c v) (x : Bool) : PX w0 m { c with blank := x } (v.setCell ⟨m, 10579, none⟩ (.bool x)) := by
  obtain ⟨A, hA, hT⟩ := h
  exact ⟨_, hA.set _ _, hT.set_blank x⟩
theorem PX.set_bus (h : PX w0 m c v) (x : Int) : PX w0 m { c with bus := x } (v.setCell ⟨m, 10279, none⟩ (.int .u8 x)) := by
  obtain ⟨A, hA, hT⟩ := h
  exact ⟨_, hA.set _ _, hT.set_bus x⟩
theorem PX.set_con (h : PX w0 m c v) (x : Int) : PX w0 m { c with con := x } (v.setCell ⟨m, 10277, none⟩ (.int .u8 x)) := by
  obtain ⟨A, hA, hT⟩ := h
  exact ⟨_, hA.set _ _, hT.set_con x⟩
theorem PX.set_msk (h : PX w0 m c v) (x : Int) : PX w0 m { c with msk := x } (v.setCell ⟨m, 10278, none⟩ (.int .u8 x)) := by
  obtain ⟨A, hA, hT⟩ := h
  exact ⟨_, hA.set _ _, hT.set_msk x⟩

/-- what a look tells -/
def lkB (b : Int) (o h k : Bool) : Int :=
  let b0 := bits .and .u8 b 31
  let b1 := if o then bits .or .u8 b0 32 else b0
  let b2 := if h then bits .or .u8 b1 64 else b1
  if k then bits .or .u8 b2 128 else b2
def lkC (c : PC) : PC := { withS { c with blank := false } (lookL (scrC c)) with bus := lkB c.bus c.over c.hit c.blank }

set_option maxRecDepth 100000 in
set_option maxHeartbeats 2000000 in
theorem plook_any (h : PX w0 m c v) :
    Calls Try.prog 41 #[.pointer (some ⟨m, 0, none⟩)] v fun e v' => e = .returned (.int .u8 (lkB c.bus c.over c.hit c.blank)) ∧ PX w0 m (withS { c with blank := false } (lookL (scrC c))) v' := by
  have hP := h.set_blank false
  obtain ⟨A, hA, hT⟩ := h
  have q1 : v.cell? ⟨m, 10279, none⟩ = some (.int .u8 c.bus) := (hA.cell _ (by decide)).trans (congrArg some hT.bus)
  have q2 : v.cell? ⟨m, 10581, none⟩ = some (.bool c.over) := (hA.cell _ (by decide)).trans (congrArg some hT.over)
  have q3 : v.cell? ⟨m, 10580, none⟩ = some (.bool c.hit) := (hA.cell _ (by decide)).trans (congrArg some hT.hit)
  have q4 : v.cell? ⟨m, 10579, none⟩ = some (.bool c.blank) := (hA.cell _ (by decide)).trans (congrArg some hT.blank)
  have z4 := hA.fz 10579
  clear hA hT
  rw [show lookL (scrC c) = lookL (scrC { c with blank := false }) from rfl]
  change PX w0 m { c with blank := false } _ at hP
  generalize hc : ({ c with blank := false } : PC) = c2 at *
  generalize c.bus = B at *
  generalize c.over = o at *
  generalize c.hit = t at *
  generalize c.blank = k at *
  clear hc
  have FL := fun u => lyLook_any (scrC c2).v (scrC c2).t (scrC c2).x (scrC c2).w u
  rw [show (⟨(scrC c2).v, (scrC c2).t, (scrC c2).x, (scrC c2).w⟩ : LS) = scrC c2 from rfl] at FL
  generalize lookL (scrC c2) = L at *
  unfold ls lv at FL
  cases o <;> cases t <;> cases k
  all_goals
    go_enter Try.func41, Try.ntmps41
    go_upto_region 9 with (fail)
    clear q1 q2 q3 q4 z4
    generalize v.setCell ⟨m, 10579, none⟩ (.bool false) = v1 at *
    obtain ⟨s0, s1, s2, s3, y0, y1, y2, y3⟩ := hP.sc
    go_upto_region 10 with (go_at_call 70; refine (FL v1).mono ?_; clear FL s0 s1 s2 s3 y0 y1 y2 y3; rintro e v2 ⟨rfl, hE⟩; have hP2 := hP.past hE.below; obtain ⟨s0, s1, s2, s3, y0, y1, y2, y3⟩ := hP2.sc; clear hP hE)
    have hP3 := hP2.putS L
    clear hP2 s0 s1 s2 s3 y0 y1 y2 y3
    go_wp2
    go_ret
    exact ⟨rfl, hP3⟩

set_option maxRecDepth 100000 in
set_option maxHeartbeats 2000000 in
theorem pGet2_any (h : PX w0 m c v) :
    Calls Try.prog 17 #[.pointer (some ⟨m, 0, none⟩), .int .u8 2] v fun e v' => e = .returned (.int .u8 (lkB c.bus c.over c.hit c.blank)) ∧ PX w0 m (lkC c) v' := by
  have FL := plook_any h
  unfold lkC
  generalize withS { c with blank := false } (lookL (scrC c)) = c2 at *
  generalize lkB c.bus c.over c.hit c.blank = B at *
  go_enter Try.func17, Try.ntmps17
  go_upto_region 11 with (go_at_call 41; refine FL.mono ?_; clear FL; rintro e v2 ⟨rfl, h2⟩; have q1 : v2.cell? ⟨m, 10279, none⟩ = some (.int .u8 c2.bus) := (by obtain ⟨A, hA, hT⟩ := h2; exact (hA.cell _ (by decide)).trans (congrArg some hT.bus)); have z1 : v2.frozen? ⟨m, 10279, none⟩ = false := (by obtain ⟨A, hA, hT⟩ := h2; exact hA.fz _))
  have h3 := h2.set_bus B
  go_wp2
  go_ret
  exact ⟨rfl, h3⟩

/-- what a write to the control register leaves -/
def conC (c : PC) (b : Int) : PC := withS { c with bus := b, con := b } (conL (scrC c) b)
set_option maxRecDepth 100000 in
set_option maxHeartbeats 2000000 in
theorem pPut0_any (h : PX w0 m c v) (b : Int) :
    Calls Try.prog 31 #[.pointer (some ⟨m, 0, none⟩), .int .u8 0, .int .u8 b] v fun e v' => e = .returned (.tuple #[]) ∧ PX w0 m (conC c b) v' := by
  have hP := (h.set_bus b).set_con b
  obtain ⟨A, hA, hT⟩ := h
  have q1 : v.cell? ⟨m, 10279, none⟩ = some (.int .u8 c.bus) := (hA.cell _ (by decide)).trans (congrArg some hT.bus)
  have q2 : v.cell? ⟨m, 10277, none⟩ = some (.int .u8 c.con) := (hA.cell _ (by decide)).trans (congrArg some hT.con)
  have z1 := hA.fz 10279
  have z2 := hA.fz 10277
  clear hA hT
  unfold conC
  rw [show conL (scrC c) b = conL (scrC { c with bus := b, con := b }) b from rfl]
  change PX w0 m { c with bus := b, con := b } _ at hP
  generalize hc : ({ c with bus := b, con := b } : PC) = c2 at *
  clear hc
  have FL := fun u => lyControl_any (scrC c2).v (scrC c2).t (scrC c2).x (scrC c2).w b u
  rw [show (⟨(scrC c2).v, (scrC c2).t, (scrC c2).x, (scrC c2).w⟩ : LS) = scrC c2 from rfl] at FL
  generalize conL (scrC c2) b = L at *
  unfold ls lv at FL
  go_enter Try.func31, Try.ntmps31
  go_upto_region 5 with (fail)
  clear q1 q2 z1 z2
  generalize (v.setCell ⟨m, 10279, none⟩ (.int .u8 b)).setCell ⟨m, 10277, none⟩ (.int .u8 b) = v1 at *
  obtain ⟨s0, s1, s2, s3, y0, y1, y2, y3⟩ := hP.sc
  go_wp2_with (go_at_call 52; refine (FL v1).mono ?_; clear FL s0 s1 s2 s3 y0 y1 y2 y3; rintro e v2 ⟨rfl, hE⟩; have hP2 := hP.past hE.below; obtain ⟨s0, s1, s2, s3, y0, y1, y2, y3⟩ := hP2.sc; clear hP hE)
  have hP3 := hP2.putS L
  (first | refine bodyPost_end (results_none rfl _ _ _) rfl ?_ | refine bodyPost_ret (results_none rfl _ _ _) rfl ?_)
  exact ⟨rfl, hP3⟩

set_option maxRecDepth 100000 in
set_option maxHeartbeats 1000000 in
theorem pNMI_any (h : PX w0 m c v) :
    Calls Try.prog 33 #[.pointer (some ⟨m, 0, none⟩)] v fun e v' => e = .returned (.bool (c.blank && !decide (bits .and .u8 c.con 128 = 0))) ∧ v' = v := by
  obtain ⟨A, hA, hT⟩ := h
  have q1 : v.cell? ⟨m, 10579, none⟩ = some (.bool c.blank) := (hA.cell _ (by decide)).trans (congrArg some hT.blank)
  have q2 : v.cell? ⟨m, 10277, none⟩ = some (.int .u8 c.con) := (hA.cell _ (by decide)).trans (congrArg some hT.con)
  generalize c.blank = k at *
  generalize c.con = n at *
  cases k
  all_goals
    go_enter Try.func33, Try.ntmps33
    go_wp2
    go_ret
    exact ⟨rfl, rfl⟩

set_option maxRecDepth 100000 in
set_option maxHeartbeats 1000000 in
theorem pFrame_any (h : PX w0 m c v) :
    Calls Try.prog 34 #[.pointer (some ⟨m, 0, none⟩)] v fun e v' => e = .returned (.int .i64 c.fr) ∧ v' = v := by
  obtain ⟨A, hA, hT⟩ := h
  have q1 : v.cell? ⟨m, 10584, none⟩ = some (.int .i64 c.fr) := (hA.cell _ (by decide)).trans (congrArg some hT.fr)
  go_enter Try.func34, Try.ntmps34
  go_wp2
  go_ret
  exact ⟨rfl, rfl⟩

end Go.Proofs.Ythldppdkheclkaa

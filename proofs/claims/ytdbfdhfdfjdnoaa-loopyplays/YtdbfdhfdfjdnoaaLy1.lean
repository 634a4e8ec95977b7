/- Contracts of package loopy: the scroll's methods as functions of numbers. No law is claimed here. -/
import Derived.Test.YtdbfdhfdfjdnoaaBase
import Derived.Test.YtdbfdhfdfjdnoaaBits
import Derived.Test.YtdbfdhfdfjdnoaaAlu1
namespace Go.Proofs.Ytdbfdhfdfjdnoaa
open Go.RowKit

/-- a scroll's value -/
def lv (v t x : Int) (w : Bool) : Value := .agg #[.int .u16 v, .int .u16 t, .int .u8 x, .bool w]
structure LS where
  v : Int
  t : Int
  x : Int
  w : Bool
def ls (s : LS) : Value := lv s.v s.t s.x s.w
def insL (s : LS) : LS := ⟨bits .and .u16 s.v 32767, bits .and .u16 s.t 32767, bits .and .u8 s.x 7, s.w⟩
def withL (r m v : Int) : Int := bits .or .u16 (bits .andNot .u16 r m) (bits .and .u16 v m)
def conL (s : LS) (b : Int) : LS := { insL s with t := withL (insL s).t 3072 (IntKind.u16.wrap (IntKind.u16.wrap b * 1024)) }
def til (b : Int) : Int := IntKind.u16.wrap b / 8
def offL (s : LS) (b : Int) : LS :=
  if s.w = true then { insL s with t := withL (withL (insL s).t 992 (IntKind.u16.wrap (til b * 32))) 28672 (IntKind.u16.wrap (IntKind.u16.wrap b * 4096)), w := false }
  else { insL s with t := withL (insL s).t 31 (til b), x := bits .and .u8 b 7, w := true }
def adrL (s : LS) (b : Int) : LS :=
  if s.w = true then { insL s with t := withL (insL s).t 255 (IntKind.u16.wrap b), v := withL (insL s).t 255 (IntKind.u16.wrap b), w := false }
  else { insL s with t := withL (insL s).t 32512 (IntKind.u16.wrap (IntKind.u16.wrap (bits .and .u8 b 63) * 256)), w := true }
def lookL (s : LS) : LS := { insL s with w := false }
def stepL (s : LS) (far : Bool) : LS := insL { s with v := IntKind.u16.wrap (s.v + (if far then 32 else 1)) }
def rigL (s : LS) : LS :=
  if (bits .and .u16 (insL s).v 31 == 31) = true then { insL s with v := bits .xor .u16 (bits .andNot .u16 (insL s).v 31) 1024 } else { insL s with v := IntKind.u16.wrap ((insL s).v + 1) }
def dowV (v : Int) : Int :=
  if (bits .and .u16 v 992 == 928) = true then bits .xor .u16 (bits .andNot .u16 v 992) 2048 else if (bits .and .u16 v 992 == 992) = true then bits .andNot .u16 v 992 else IntKind.u16.wrap (v + 32)
def dowL (s : LS) : LS :=
  if (bits .and .u16 (insL s).v 28672 == 28672) = true then { insL s with v := dowV (bits .andNot .u16 (insL s).v 28672) } else { insL s with v := IntKind.u16.wrap ((insL s).v + 4096) }
def linL (s : LS) : LS := { insL s with v := withL (insL s).v 1055 (insL s).t }
def topL (s : LS) : LS := { insL s with v := withL (insL s).v 31712 (insL s).t }

set_option maxRecDepth 100000 in
set_option maxHeartbeats 1000000 in
theorem lywith_any (r m v : Int) (w : World) :
    Calls Try.prog 41 #[.int .u16 r, .int .u16 m, .int .u16 v] w fun e w' => e = .returned (.int .u16 (withL r m v)) ∧ w' = w := by
  go_enter Try.func41, Try.ntmps41
  go_wp2
  go_ret
  exact ⟨rfl, rfl⟩

set_option maxRecDepth 100000 in
set_option maxHeartbeats 1000000 in
theorem lyinside_any (v t x : Int) (wr : Bool) (w : World) :
    Calls Try.prog 40 #[lv v t x wr] w fun e w' => e = .returned (ls (insL ⟨v, t, x, wr⟩)) ∧ Ext w w' := by
  have r1 := ext_cell
  have r2 := ext_frozen
  have r3 := ext_setCell
  have r4 := ext_lt
  have r5 := ext_drew
  have r6 := ext_ext
  unfold ls lv
  go_enter Try.func40, Try.ntmps40
  go_wp2_with (fail)
  all_goals
    refine bodyPost_ret (by simp [results, Try.results40, go_sem, *] <;> (repeat' (first | exact rfl | refine And.intro ?_ ?_))) rfl ⟨rfl, ?_⟩
    repeat (first | exact Ext.refl _ | refine Ext.alloc ?_ _ | refine Ext.ext ?_ _ _ | refine Ext.drew ?_ | refine Ext.drewN ?_ _)

set_option maxRecDepth 100000 in
set_option maxHeartbeats 1000000 in
theorem lyControl_any (v t x : Int) (wr : Bool) (b : Int) (w : World) :
    Calls Try.prog 12 #[lv v t x wr, .int .u8 b] w fun e w' => e = .returned (ls (conL ⟨v, t, x, wr⟩ b)) ∧ Ext w w' := by
  have F0 := lyinside_any
  unfold ls lv at F0
  have F1 := lywith_any
  have r1 := ext_cell
  have r2 := ext_frozen
  have r3 := ext_setCell
  have r4 := ext_lt
  have r5 := ext_drew
  have r6 := ext_ext
  unfold ls lv
  go_enter Try.func12, Try.ntmps12
  go_wp2_with (first | (go_at_call 40; refine (F0 _ _ _ _ _).mono ?_; rintro e w' ⟨rfl, os, q, rfl⟩) | (go_at_call 41; refine (F1 _ _ _ _).mono ?_; rintro e w' ⟨rfl, rfl⟩))
  all_goals
    refine bodyPost_ret (by simp [results, Try.results12, go_sem, *] <;> (repeat' (first | exact rfl | refine And.intro ?_ ?_))) rfl ⟨rfl, ?_⟩
    repeat (first | exact Ext.refl _ | refine Ext.alloc ?_ _ | refine Ext.ext ?_ _ _ | refine Ext.drew ?_ | refine Ext.drewN ?_ _)

set_option maxRecDepth 100000 in
set_option maxHeartbeats 1000000 in
theorem lyOffset_any (v t x : Int) (wr : Bool) (b : Int) (w : World) :
    Calls Try.prog 14 #[lv v t x wr, .int .u8 b] w fun e w' => e = .returned (ls (offL ⟨v, t, x, wr⟩ b)) ∧ Ext w w' := by
  have F0 := lyinside_any
  unfold ls lv at F0
  have F1 := lywith_any
  have r1 := ext_cell
  have r2 := ext_frozen
  have r3 := ext_setCell
  have r4 := ext_lt
  have r5 := ext_drew
  have r6 := ext_ext
  cases wr
  all_goals
    unfold ls lv
    go_enter Try.func14, Try.ntmps14
    go_wp2_with (first | (go_at_call 40; refine (F0 _ _ _ _ _).mono ?_; rintro e w' ⟨rfl, os, q, rfl⟩) | (go_at_call 41; refine (F1 _ _ _ _).mono ?_; rintro e w' ⟨rfl, rfl⟩))
    all_goals
      refine bodyPost_ret (by simp [results, Try.results14, go_sem, *] <;> (repeat' (first | exact rfl | refine And.intro ?_ ?_))) rfl ⟨rfl, ?_⟩
      repeat (first | exact Ext.refl _ | refine Ext.alloc ?_ _ | refine Ext.ext ?_ _ _ | refine Ext.drew ?_ | refine Ext.drewN ?_ _)

set_option maxRecDepth 100000 in
set_option maxHeartbeats 1000000 in
theorem lyAddress_any (v t x : Int) (wr : Bool) (b : Int) (w : World) :
    Calls Try.prog 16 #[lv v t x wr, .int .u8 b] w fun e w' => e = .returned (ls (adrL ⟨v, t, x, wr⟩ b)) ∧ Ext w w' := by
  have F0 := lyinside_any
  unfold ls lv at F0
  have F1 := lywith_any
  have r1 := ext_cell
  have r2 := ext_frozen
  have r3 := ext_setCell
  have r4 := ext_lt
  have r5 := ext_drew
  have r6 := ext_ext
  cases wr
  all_goals
    unfold ls lv
    go_enter Try.func16, Try.ntmps16
    go_wp2_with (first | (go_at_call 40; refine (F0 _ _ _ _ _).mono ?_; rintro e w' ⟨rfl, os, q, rfl⟩) | (go_at_call 41; refine (F1 _ _ _ _).mono ?_; rintro e w' ⟨rfl, rfl⟩))
    all_goals
      refine bodyPost_ret (by simp [results, Try.results16, go_sem, *] <;> (repeat' (first | exact rfl | refine And.intro ?_ ?_))) rfl ⟨rfl, ?_⟩
      repeat (first | exact Ext.refl _ | refine Ext.alloc ?_ _ | refine Ext.ext ?_ _ _ | refine Ext.drew ?_ | refine Ext.drewN ?_ _)

set_option maxRecDepth 100000 in
set_option maxHeartbeats 1000000 in
theorem lyLook_any (v t x : Int) (wr : Bool) (w : World) :
    Calls Try.prog 18 #[lv v t x wr] w fun e w' => e = .returned (ls (lookL ⟨v, t, x, wr⟩)) ∧ Ext w w' := by
  have F0 := lyinside_any
  unfold ls lv at F0
  have r1 := ext_cell
  have r2 := ext_frozen
  have r3 := ext_setCell
  have r4 := ext_lt
  have r5 := ext_drew
  have r6 := ext_ext
  unfold ls lv
  go_enter Try.func18, Try.ntmps18
  go_wp2_with (first | (go_at_call 40; refine (F0 _ _ _ _ _).mono ?_; rintro e w' ⟨rfl, os, q, rfl⟩))
  all_goals
    refine bodyPost_ret (by simp [results, Try.results18, go_sem, *] <;> (repeat' (first | exact rfl | refine And.intro ?_ ?_))) rfl ⟨rfl, ?_⟩
    repeat (first | exact Ext.refl _ | refine Ext.alloc ?_ _ | refine Ext.ext ?_ _ _ | refine Ext.drew ?_ | refine Ext.drewN ?_ _)

set_option maxRecDepth 100000 in
set_option maxHeartbeats 1000000 in
theorem lyStep_any (v t x : Int) (wr : Bool) (far : Bool) (w : World) :
    Calls Try.prog 19 #[lv v t x wr, .bool far] w fun e w' => e = .returned (ls (stepL ⟨v, t, x, wr⟩ far)) ∧ Ext w w' := by
  have F0 := lyinside_any
  unfold ls lv at F0
  have r1 := ext_cell
  have r2 := ext_frozen
  have r3 := ext_setCell
  have r4 := ext_lt
  have r5 := ext_drew
  have r6 := ext_ext
  cases far
  all_goals
    unfold ls lv
    go_enter Try.func19, Try.ntmps19
    go_wp2_with (first | (go_at_call 40; refine (F0 _ _ _ _ _).mono ?_; rintro e w' ⟨rfl, os, q, rfl⟩))
    all_goals
      refine bodyPost_ret (by simp [results, Try.results19, go_sem, *] <;> (repeat' (first | exact rfl | refine And.intro ?_ ?_))) rfl ⟨rfl, ?_⟩
      repeat (first | exact Ext.refl _ | refine Ext.alloc ?_ _ | refine Ext.ext ?_ _ _ | refine Ext.drew ?_ | refine Ext.drewN ?_ _)

set_option maxRecDepth 100000 in
set_option maxHeartbeats 1000000 in
theorem lyRight_any (v t x : Int) (wr : Bool) (w : World) :
    Calls Try.prog 21 #[lv v t x wr] w fun e w' => e = .returned (ls (rigL ⟨v, t, x, wr⟩)) ∧ Ext w w' := by
  have F0 := lyinside_any
  unfold ls lv at F0
  have r1 := ext_cell
  have r2 := ext_frozen
  have r3 := ext_setCell
  have r4 := ext_lt
  have r5 := ext_drew
  have r6 := ext_ext
  unfold ls lv
  go_enter Try.func21, Try.ntmps21
  go_wp2_with (first | (go_at_call 40; refine (F0 _ _ _ _ _).mono ?_; rintro e w' ⟨rfl, os, q, rfl⟩))
  all_goals
    refine bodyPost_ret (by simp [results, Try.results21, go_sem, *] <;> (repeat' (first | exact rfl | refine And.intro ?_ ?_ | (clear r1 r2 r3 r4 r5 r6; simp_all [rigL]; done)))) rfl ⟨rfl, ?_⟩
    repeat (first | exact Ext.refl _ | refine Ext.alloc ?_ _ | refine Ext.ext ?_ _ _ | refine Ext.drew ?_ | refine Ext.drewN ?_ _)

set_option maxRecDepth 100000 in
set_option maxHeartbeats 1000000 in
theorem lyDown_any (v t x : Int) (wr : Bool) (w : World) :
    Calls Try.prog 23 #[lv v t x wr] w fun e w' => e = .returned (ls (dowL ⟨v, t, x, wr⟩)) ∧ Ext w w' := by
  have F0 := lyinside_any
  unfold ls lv at F0
  have r1 := ext_cell
  have r2 := ext_frozen
  have r3 := ext_setCell
  have r4 := ext_lt
  have r5 := ext_drew
  have r6 := ext_ext
  unfold ls lv
  go_enter Try.func23, Try.ntmps23
  go_wp2_with (first | (go_at_call 40; refine (F0 _ _ _ _ _).mono ?_; rintro e w' ⟨rfl, os, q, rfl⟩))
  all_goals
    refine bodyPost_ret (by simp [results, Try.results23, go_sem, *] <;> (repeat' (first | exact rfl | refine And.intro ?_ ?_ | (clear r1 r2 r3 r4 r5 r6; simp_all [dowL, dowV]; done)))) rfl ⟨rfl, ?_⟩
    repeat (first | exact Ext.refl _ | refine Ext.alloc ?_ _ | refine Ext.ext ?_ _ _ | refine Ext.drew ?_ | refine Ext.drewN ?_ _)

set_option maxRecDepth 100000 in
set_option maxHeartbeats 1000000 in
theorem lyLine_any (v t x : Int) (wr : Bool) (w : World) :
    Calls Try.prog 25 #[lv v t x wr] w fun e w' => e = .returned (ls (linL ⟨v, t, x, wr⟩)) ∧ Ext w w' := by
  have F0 := lyinside_any
  unfold ls lv at F0
  have F1 := lywith_any
  have r1 := ext_cell
  have r2 := ext_frozen
  have r3 := ext_setCell
  have r4 := ext_lt
  have r5 := ext_drew
  have r6 := ext_ext
  unfold ls lv
  go_enter Try.func25, Try.ntmps25
  go_wp2_with (first | (go_at_call 40; refine (F0 _ _ _ _ _).mono ?_; rintro e w' ⟨rfl, os, q, rfl⟩) | (go_at_call 41; refine (F1 _ _ _ _).mono ?_; rintro e w' ⟨rfl, rfl⟩))
  all_goals
    refine bodyPost_ret (by simp [results, Try.results25, go_sem, *] <;> (repeat' (first | exact rfl | refine And.intro ?_ ?_))) rfl ⟨rfl, ?_⟩
    repeat (first | exact Ext.refl _ | refine Ext.alloc ?_ _ | refine Ext.ext ?_ _ _ | refine Ext.drew ?_ | refine Ext.drewN ?_ _)

set_option maxRecDepth 100000 in
set_option maxHeartbeats 1000000 in
theorem lyTop_any (v t x : Int) (wr : Bool) (w : World) :
    Calls Try.prog 27 #[lv v t x wr] w fun e w' => e = .returned (ls (topL ⟨v, t, x, wr⟩)) ∧ Ext w w' := by
  have F0 := lyinside_any
  unfold ls lv at F0
  have F1 := lywith_any
  have r1 := ext_cell
  have r2 := ext_frozen
  have r3 := ext_setCell
  have r4 := ext_lt
  have r5 := ext_drew
  have r6 := ext_ext
  unfold ls lv
  go_enter Try.func27, Try.ntmps27
  go_wp2_with (first | (go_at_call 40; refine (F0 _ _ _ _ _).mono ?_; rintro e w' ⟨rfl, os, q, rfl⟩) | (go_at_call 41; refine (F1 _ _ _ _).mono ?_; rintro e w' ⟨rfl, rfl⟩))
  all_goals
    refine bodyPost_ret (by simp [results, Try.results27, go_sem, *] <;> (repeat' (first | exact rfl | refine And.intro ?_ ?_))) rfl ⟨rfl, ?_⟩
    repeat (first | exact Ext.refl _ | refine Ext.alloc ?_ _ | refine Ext.ext ?_ _ _ | refine Ext.drew ?_ | refine Ext.drewN ?_ _)

end Go.Proofs.Ytdbfdhfdfjdnoaa

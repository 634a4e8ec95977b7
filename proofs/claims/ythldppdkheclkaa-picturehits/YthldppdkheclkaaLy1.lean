/- Contracts of package loopy: the scroll's methods as functions of numbers. No law is claimed here. -/
import Derived.Test.YthldppdkheclkaaBase
import Derived.Test.YthldppdkheclkaaBits
import Derived.Test.YthldppdkheclkaaAlu1
namespace Go.Proofs.Ythldppdkheclkaa
open Go.RowKit

/-- a scroll's value -/
def lv (v t x : Int) (w : Bool) : Value := .agg #[.int .u16 v, .int .u16 t, .int .u8 x, .bool w]
structure LS where
  v : Int
  t : Int
  x : Int
  w : Bool
def ls (s : LS) : Value := lv s.v s.t s.x s.w
def insL (s : LS) : LS := ⟨bits .and .u16 s.v 32767, bits .and .u16 s.t 32767, bits .and .u8 s.x 7, s.w⟩
def withL (r m v : Int) : Int := bits .or .u16 (bits .andNot .u16 r m) (bits .and .u16 v m)
def conL (s : LS) (b : Int) : LS := { insL s with t := withL (insL s).t 3072 (IntKind.u16.wrap (IntKind.u16.wrap b * 1024)) }
def til (b : Int) : Int := IntKind.u16.wrap b / 8
def offL (s : LS) (b : Int) : LS :=
  if s.w = true then { insL s with t := withL (withL (insL s).t 992 (IntKind.u16.wrap (til b * 32))) 28672 (IntKind.u16.wrap (IntKind.u16.wrap b * 4096)), w := false }
  else { insL s with t := withL (insL s).t 31 (til b), x := bits .and .u8 b 7, w := true }
def adrL (s : LS) (b : Int) : LS :=
  if s.w = true then { insL s with t := withL (insL s).t 255 (IntKind.u16.wrap b), v := withL (insL s).t 255 (IntKind.u16.wrap b), w := false }
  else { insL s with t := withL (insL s).t 32512 (IntKind.u16.wrap (IntKind.u16.wrap (bits .and .u8 b 63) * 256)), w := true }
def lookL (s : LS) : LS := { insL s with w := false }
def stepL (s : LS) (far : Bool) : LS := insL { s with v := IntKind.u16.wrap (s.v + (if far then 32 else 1)) }
def rigL (s : LS) : LS :=
  if (bits .and .u16 (insL s).v 31 == 31) = true then { insL s with v := bits .xor .u16 (bits .andNot .u16 (insL s).v 31) 1024 } else { insL s with v := IntKind.u16.wrap ((insL s).v + 1) }
def dowV (v : Int) : Int :=
  if (bits .and .u16 v 992 == 928) = true then bits .xor .u16 (bits .andNot .u16 v 992) 2048 else if (bits .and .u16 v 992 == 992) = true then bits .andNot .u16 v 992 else IntKind.u16.wrap (v + 32)
def dowL (s : LS) : LS :=
  if (bits .and .u16 (insL s).v 28672 == 28672) = true then { insL s with v := dowV (bits .andNot .u16 (insL s).v 28672) } else { insL s with v := IntKind.u16.wrap ((insL s).v + 4096) }
def linL (s : LS) : LS := { insL s with v := withL (insL s).v 1055 (insL s).t }
def topL (s : LS) : LS := { insL s with v := withL (insL s).v 31712 (insL s).t }

set_option maxRecDepth 100000 in
set_option maxHeartbeats 1000000 in
theorem lywith_any (r m v : Int) (w : World) :
    Calls Try.prog 81 #[.int .u16 r, .int .u16 m, .int .u16 v] w fun e w' => e = .returned (.int .u16 (withL r m v)) ∧ w' = w := by
  go_enter Try.func81, Try.ntmps81
  go_wp2
  go_ret
  exact ⟨rfl, rfl⟩

set_option maxRecDepth 100000 in
set_option maxHeartbeats 1000000 in
theorem lyinside_any (v t x : Int) (wr : Bool) (w : World) :
    Calls Try.prog 80 #[lv v t x wr] w fun e w' => e = .returned (ls (insL ⟨v, t, x, wr⟩)) ∧ Ext w w' := by
  have r1 := ext_cell
  have r2 := ext_frozen
  have r3 := ext_setCell
  have r4 := ext_lt
  have r5 := ext_drew
  have r6 := ext_ext
  unfold ls lv
  go_enter Try.func80, Try.ntmps80
  go_wp2_with (fail)
  all_goals
    refine bodyPost_ret (by simp [results, Try.results80, go_sem, *] <;> (repeat' (first | exact rfl | refine And.intro ?_ ?_))) rfl ⟨rfl, ?_⟩
    repeat (first | exact Ext.refl _ | refine Ext.alloc ?_ _ | refine Ext.ext ?_ _ _ | refine Ext.drew ?_ | refine Ext.drewN ?_ _)

set_option maxRecDepth 100000 in
set_option maxHeartbeats 1000000 in
theorem lyControl_any (v t x : Int) (wr : Bool) (b : Int) (w : World) :
    Calls Try.prog 52 #[lv v t x wr, .int .u8 b] w fun e w' => e = .returned (ls (conL ⟨v, t, x, wr⟩ b)) ∧ Ext w w' := by
  have F0 := lyinside_any
  unfold ls lv at F0
  have F1 := lywith_any
  have r1 := ext_cell
  have r2 := ext_frozen
  have r3 := ext_setCell
  have r4 := ext_lt
  have r5 := ext_drew
  have r6 := ext_ext
  unfold ls lv
  go_enter Try.func52, Try.ntmps52
  go_wp2_with (first | (go_at_call 80; refine (F0 _ _ _ _ _).mono ?_; rintro e w' ⟨rfl, os, q, rfl⟩) | (go_at_call 81; refine (F1 _ _ _ _).mono ?_; rintro e w' ⟨rfl, rfl⟩))
  all_goals
    refine bodyPost_ret (by simp [results, Try.results52, go_sem, *] <;> (repeat' (first | exact rfl | refine And.intro ?_ ?_))) rfl ⟨rfl, ?_⟩
    repeat (first | exact Ext.refl _ | refine Ext.alloc ?_ _ | refine Ext.ext ?_ _ _ | refine Ext.drew ?_ | refine Ext.drewN ?_ _)

set_option maxRecDepth 100000 in
set_option maxHeartbeats 1000000 in
theorem lyOffset_any (v t x : Int) (wr : Bool) (b : Int) (w : World) :
    Calls Try.prog 53 #[lv v t x wr, .int .u8 b] w fun e w' => e = .returned (ls (offL ⟨v, t, x, wr⟩ b)) ∧ Ext w w' := by
  have F0 := lyinside_any
  unfold ls lv at F0
  have F1 := lywith_any
  have r1 := ext_cell
  have r2 := ext_frozen
  have r3 := ext_setCell
  have r4 := ext_lt
  have r5 := ext_drew
  have r6 := ext_ext
  cases wr
  all_goals
    unfold ls lv
    go_enter Try.func53, Try.ntmps53
    go_wp2_with (first | (go_at_call 80; refine (F0 _ _ _ _ _).mono ?_; rintro e w' ⟨rfl, os, q, rfl⟩) | (go_at_call 81; refine (F1 _ _ _ _).mono ?_; rintro e w' ⟨rfl, rfl⟩))
    all_goals
      refine bodyPost_ret (by simp [results, Try.results53, go_sem, *] <;> (repeat' (first | exact rfl | refine And.intro ?_ ?_))) rfl ⟨rfl, ?_⟩
      repeat (first | exact Ext.refl _ | refine Ext.alloc ?_ _ | refine Ext.ext ?_ _ _ | refine Ext.drew ?_ | refine Ext.drewN ?_ _)

set_option maxRecDepth 100000 in
set_option maxHeartbeats 1000000 in
theorem lyAddress_any (v t x : Int) (wr : Bool) (b : Int) (w : World) :
    Calls Try.prog 54 #[lv v t x wr, .int .u8 b] w fun e w' => e = .returned (ls (adrL ⟨v, t, x, wr⟩ b)) ∧ Ext w w' := by
  have F0 := lyinside_any
  unfold ls lv at F0
  have F1 := lywith_any
  have r1 := ext_cell
  have r2 := ext_frozen
  have r3 := ext_setCell
  have r4 := ext_lt
  have r5 := ext_drew
  have r6 := ext_ext
  cases wr
  all_goals
    unfold ls lv
    go_enter Try.func54, Try.ntmps54
    go_wp2_with (first | (go_at_call 80; refine (F0 _ _ _ _ _).mono ?_; rintro e w' ⟨rfl, os, q, rfl⟩) | (go_at_call 81; refine (F1 _ _ _ _).mono ?_; rintro e w' ⟨rfl, rfl⟩))
    all_goals
      refine bodyPost_ret (by simp [results, Try.results54, go_sem, *] <;> (repeat' (first | exact rfl | refine And.intro ?_ ?_))) rfl ⟨rfl, ?_⟩
      repeat (first | exact Ext.refl _ | refine Ext.alloc ?_ _ | refine Ext.ext ?_ _ _ | refine Ext.drew ?_ | refine Ext.drewN ?_ _)

set_option maxRecDepth 100000 in
set_option maxHeartbeats 1000000 in
theorem lyLook_any (v t x : Int) (wr : Bool) (w : World) :
    Calls Try.prog 70 #[lv v t x wr] w fun e w' => e = .returned (ls (lookL ⟨v, t, x, wr⟩)) ∧ Ext w w' := by
  have F0 := lyinside_any
  unfold ls lv at F0
  have r1 := ext_cell
  have r2 := ext_frozen
  have r3 := ext_setCell
  have r4 := ext_lt
  have r5 := ext_drew
  have r6 := ext_ext
  unfold ls lv
  go_enter Try.func70, Try.ntmps70
  go_wp2_with (first | (go_at_call 80; refine (F0 _ _ _ _ _).mono ?_; rintro e w' ⟨rfl, os, q, rfl⟩))
  all_goals
    refine bodyPost_ret (by simp [results, Try.results70, go_sem, *] <;> (repeat' (first | exact rfl | refine And.intro ?_ ?_))) rfl ⟨rfl, ?_⟩
    repeat (first | exact Ext.refl _ | refine Ext.alloc ?_ _ | refine Ext.ext ?_ _ _ | refine Ext.drew ?_ | refine Ext.drewN ?_ _)

set_option maxRecDepth 100000 in
set_option maxHeartbeats 1000000 in
theorem lyStep_any (v t x : Int) (wr : Bool) (far : Bool) (w : World) :
    Calls Try.prog 71 #[lv v t x wr, .bool far] w fun e w' => e = .returned (ls (stepL ⟨v, t, x, wr⟩ far)) ∧ Ext w w' := by
  have F0 := lyinside_any
  unfold ls lv at F0
  have r1 := ext_cell
  have r2 := ext_frozen
  have r3 := ext_setCell
  have r4 := ext_lt
  have r5 := ext_drew
  have r6 := ext_ext
  cases far
  all_goals
    unfold ls lv
    go_enter Try.func71, Try.ntmps71
    go_wp2_with (first | (go_at_call 80; refine (F0 _ _ _ _ _).mono ?_; rintro e w' ⟨rfl, os, q, rfl⟩))
    all_goals
      refine bodyPost_ret (by simp [results, Try.results71, go_sem, *] <;> (repeat' (first | exact rfl | refine And.intro ?_ ?_))) rfl ⟨rfl, ?_⟩
      repeat (first | exact Ext.refl _ | refine Ext.alloc ?_ _ | refine Ext.ext ?_ _ _ | refine Ext.drew ?_ | refine Ext.drewN ?_ _)

set_option maxRecDepth 100000 in
set_option maxHeartbeats 1000000 in
theorem lyRight_any (v t x : Int) (wr : Bool) (w : World) :
    Calls Try.prog 85 #[lv v t x wr] w fun e w' => e = .returned (ls (rigL ⟨v, t, x, wr⟩)) ∧ Ext w w' := by
  have F0 := lyinside_any
  unfold ls lv at F0
  have r1 := ext_cell
  have r2 := ext_frozen
  have r3 := ext_setCell
  have r4 := ext_lt
  have r5 := ext_drew
  have r6 := ext_ext
  unfold ls lv
  go_enter Try.func85, Try.ntmps85
  go_wp2_with (first | (go_at_call 80; refine (F0 _ _ _ _ _).mono ?_; rintro e w' ⟨rfl, os, q, rfl⟩))
  all_goals
    refine bodyPost_ret (by simp [results, Try.results85, go_sem, *] <;> (repeat' (first | exact rfl | refine And.intro ?_ ?_ | (clear r1 r2 r3 r4 r5 r6; simp_all [rigL]; done)))) rfl ⟨rfl, ?_⟩
    repeat (first | exact Ext.refl _ | refine Ext.alloc ?_ _ | refine Ext.ext ?_ _ _ | refine Ext.drew ?_ | refine Ext.drewN ?_ _)

set_option maxRecDepth 100000 in
set_option maxHeartbeats 1000000 in
theorem lyDown_any (v t x : Int) (wr : Bool) (w : World) :
    Calls Try.prog 83 #[lv v t x wr] w fun e w' => e = .returned (ls (dowL ⟨v, t, x, wr⟩)) ∧ Ext w w' := by
  have F0 := lyinside_any
  unfold ls lv at F0
  have r1 := ext_cell
  have r2 := ext_frozen
  have r3 := ext_setCell
  have r4 := ext_lt
  have r5 := ext_drew
  have r6 := ext_ext
  unfold ls lv
  go_enter Try.func83, Try.ntmps83
  go_wp2_with (first | (go_at_call 80; refine (F0 _ _ _ _ _).mono ?_; rintro e w' ⟨rfl, os, q, rfl⟩))
  all_goals
    refine bodyPost_ret (by simp [results, Try.results83, go_sem, *] <;> (repeat' (first | exact rfl | refine And.intro ?_ ?_ | (clear r1 r2 r3 r4 r5 r6; simp_all [dowL, dowV]; done)))) rfl ⟨rfl, ?_⟩
    repeat (first | exact Ext.refl _ | refine Ext.alloc ?_ _ | refine Ext.ext ?_ _ _ | refine Ext.drew ?_ | refine Ext.drewN ?_ _)

set_option maxRecDepth 100000 in
set_option maxHeartbeats 1000000 in
theorem lyLine_any (v t x : Int) (wr : Bool) (w : World) :
    Calls Try.prog 84 #[lv v t x wr] w fun e w' => e = .returned (ls (linL ⟨v, t, x, wr⟩)) ∧ Ext w w' := by
  have F0 := lyinside_any
  unfold ls lv at F0
  have F1 := lywith_any
  have r1 := ext_cell
  have r2 := ext_frozen
  have r3 := ext_setCell
  have r4 := ext_lt
  have r5 := ext_drew
  have r6 := ext_ext
  unfold ls lv
  go_enter Try.func84, Try.ntmps84
  go_wp2_with (first | (go_at_call 80; refine (F0 _ _ _ _ _).mono ?_; rintro e w' ⟨rfl, os, q, rfl⟩) | (go_at_call 81; refine (F1 _ _ _ _).mono ?_; rintro e w' ⟨rfl, rfl⟩))
  all_goals
    refine bodyPost_ret (by simp [results, Try.results84, go_sem, *] <;> (repeat' (first | exact rfl | refine And.intro ?_ ?_))) rfl ⟨rfl, ?_⟩
    repeat (first | exact Ext.refl _ | refine Ext.alloc ?_ _ | refine Ext.ext ?_ _ _ | refine Ext.drew ?_ | refine Ext.drewN ?_ _)

set_option maxRecDepth 100000 in
set_option maxHeartbeats 1000000 in
theorem lyTop_any (v t x : Int) (wr : Bool) (w : World) :
    Calls Try.prog 86 #[lv v t x wr] w fun e w' => e = .returned (ls (topL ⟨v, t, x, wr⟩)) ∧ Ext w w' := by
  have F0 := lyinside_any
  unfold ls lv at F0
  have F1 := lywith_any
  have r1 := ext_cell
  have r2 := ext_frozen
  have r3 := ext_setCell
  have r4 := ext_lt
  have r5 := ext_drew
  have r6 := ext_ext
  unfold ls lv
  go_enter Try.func86, Try.ntmps86
  go_wp2_with (first | (go_at_call 80; refine (F0 _ _ _ _ _).mono ?_; rintro e w' ⟨rfl, os, q, rfl⟩) | (go_at_call 81; refine (F1 _ _ _ _).mono ?_; rintro e w' ⟨rfl, rfl⟩))
  all_goals
    refine bodyPost_ret (by simp [results, Try.results86, go_sem, *] <;> (repeat' (first | exact rfl | refine And.intro ?_ ?_))) rfl ⟨rfl, ?_⟩
    repeat (first | exact Ext.refl _ | refine Ext.alloc ?_ _ | refine Ext.ext ?_ _ _ | refine Ext.drew ?_ | refine Ext.drewN ?_ _)

end Go.Proofs.Ythldppdkheclkaa

/- The document's numbers of layer 8: flags (kotatsuref08). No law is claimed here. -/
import Derived.Test.YtigpmmjbdpnkjaaAluB
import Derived.Deep.RegionLaw
namespace Go.Proofs.Ytigpmmjbdpnkjaa
open Go.RowKit

/-- a unit's value, with numbers -/
def rv (a x y s p : Int) : Value := .agg #[.int .i64 a, .int .i64 x, .int .i64 y, .int .i64 s, .int .i64 p]
def rr (u : Un) : Value := rv u.a u.x u.y u.s u.p

set_option maxRecDepth 100000 in
set_option maxHeartbeats 1000000 in
theorem rhas_any (p f : Int) (hp : 0 ≤ p) (hp2 : p < 256) (hf : 1 ≤ f) (hf2 : f < 256) (w : World) :
    Calls Try.prog 33 #[.int .i64 p, .int .i64 f] w fun e w' => e = .returned (.int .i64 (p / f % 2)) ∧ w' = w := by
  have e1 : p.tdiv f = p / f := Int.tdiv_eq_ediv_of_nonneg hp
  have e0 : 0 ≤ p / f := Int.ediv_nonneg hp (by omega)
  have e3 : p / f < 256 := Int.lt_of_le_of_lt (Int.ediv_le_self f hp) hp2
  have e2 : (p / f).tmod 2 = p / f % 2 := Int.tmod_eq_emod_of_nonneg e0
  have hne : f ≠ 0 := by omega
  go_enter Try.func33, Try.ntmps33
  go_wp2
  go_ret
  exact ⟨rfl, rfl⟩

/-- 1, if something is so -/
def yesN (b : Bool) : Int := if b then 1 else 0
/-- a byte with its sign -/
def sgnN (m : Int) : Int := if 127 < m then m - 256 else m
set_option maxRecDepth 100000 in
set_option maxHeartbeats 1000000 in
theorem ryes_any (b : Bool) (w : World) : Calls Try.prog 34 #[.bool b] w fun e w' => e = .returned (.int .i64 (yesN b)) ∧ w' = w := by
  cases b
  all_goals
    go_enter Try.func34, Try.ntmps34
    go_wp2
    go_ret
    exact ⟨rfl, rfl⟩

set_option maxRecDepth 100000 in
set_option maxHeartbeats 1000000 in
theorem rsigned_any (m : Int) (hm : 0 ≤ m) (hm2 : m < 256) (w : World) : Calls Try.prog 42 #[.int .i64 m] w fun e w' => e = .returned (.int .i64 (sgnN m)) ∧ w' = w := by
  by_cases h : 127 < m
  · have HS : Hid (sgnN m = m - 256) := by unfold sgnN; exact if_pos h
    rw [HS.out]
    go_enter Try.func42, Try.ntmps42
    go_wp2
    go_ret
    exact ⟨rfl, rfl⟩
  · have HS : Hid (sgnN m = m) := by unfold sgnN; exact if_neg h
    rw [HS.out]
    go_enter Try.func42, Try.ntmps42
    go_wp2
    go_ret
    exact ⟨rfl, rfl⟩

set_option maxRecDepth 100000 in
set_option maxHeartbeats 1000000 in
theorem rset_raw (a x y s p f on : Int) (hp : 0 ≤ p) (hp2 : p < 256) (hf : 1 ≤ f) (hf2 : f < 256) (ho : 0 ≤ on) (ho2 : on ≤ 1) (w : World) :
    Calls Try.prog 32 #[rv a x y s p, .int .i64 f, .int .i64 on] w fun e w' => e = .returned (rv a x y s (p + (on - p / f % 2) * f)) ∧ Ext w w' := by
  have F0 := fun w => rhas_any p f hp hp2 hf hf2 w
  have b1 : 0 ≤ p / f % 2 := by omega
  have b2 : p / f % 2 < 2 := by omega
  generalize p / f % 2 = c at *
  have m1 : -256 < (on - c) * f := by
    have : (on - c) = -1 ∨ on - c = 0 ∨ on - c = 1 := by omega
    rcases this with h | h | h <;> rw [h] <;> omega
  have m2 : (on - c) * f < 256 := by
    have : (on - c) = -1 ∨ on - c = 0 ∨ on - c = 1 := by omega
    rcases this with h | h | h <;> rw [h] <;> omega
  have e1 : IntKind.i64.wrap (on - c) = on - c := IntWalk.i64_in _ ⟨by omega, by omega⟩
  have e2 : IntKind.i64.wrap ((on - c) * f) = (on - c) * f := IntWalk.i64_in _ ⟨by omega, by omega⟩
  have e3 : IntKind.i64.wrap (p + (on - c) * f) = p + (on - c) * f := IntWalk.i64_in _ ⟨by omega, by omega⟩
  clear m1 m2 b1 b2 hp hp2 hf hf2 ho ho2
  unfold rv
  go_enter Try.func32, Try.ntmps32
  go_upto_region 1 with (fail)
  go_region_law (first | (go_simp; go_at_call 33; refine (F0 _).mono ?_; rintro e w' ⟨rfl, rfl⟩))
  all_goals
    go_wp2
    refine bodyPost_ret (by simp [results, Try.results32, go_sem, *] <;> (repeat' (first | exact rfl | refine And.intro ?_ ?_))) rfl ⟨rfl, ?_⟩
    repeat (first | exact Ext.refl _ | refine Ext.alloc ?_ _ | refine Ext.ext ?_ _ _ | refine Ext.drew ?_ | refine Ext.drewN ?_ _)

end Go.Proofs.Ytigpmmjbdpnkjaa

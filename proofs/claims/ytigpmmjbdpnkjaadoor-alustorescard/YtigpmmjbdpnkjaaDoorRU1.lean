/- The document's numbers of layer 8: flags (kotatsuref08). No law is claimed here. -/
import Derived.Test.YtigpmmjbdpnkjaaDoorAluB
import Derived.Deep.RegionLaw
namespace Go.Proofs.YtigpmmjbdpnkjaaDoor
open Go.RowKit

/-- a unit's value, with numbers -/
def rv (a x y s p : Int) : Value := .agg #[.int .i64 a, .int .i64 x, .int .i64 y, .int .i64 s, .int .i64 p]
def rr (u : Un) : Value := rv u.a u.x u.y u.s u.p

set_option maxRecDepth 100000 in
set_option maxHeartbeats 1000000 in
theorem rhas_any (p f : Int) (hp : 0 ≤ p) (hp2 : p < 256) (hf : 1 ≤ f) (hf2 : f < 256) (w : World) :
    Calls Tryd.prog 15 #[.int .i64 p, .int .i64 f] w fun e w' => e = .returned (.int .i64 (p / f % 2)) ∧ w' = w := by
  have e1 : p.tdiv f = p / f := Int.tdiv_eq_ediv_of_nonneg hp
  have e0 : 0 ≤ p / f := Int.ediv_nonneg hp (by omega)
  have e3 : p / f < 256 := Int.lt_of_le_of_lt (Int.ediv_le_self f hp) hp2
  have e2 : (p / f).tmod 2 = p / f % 2 := Int.tmod_eq_emod_of_nonneg e0
  have hne : f ≠ 0 := by omega
  go_enter Tryd.func15, Tryd.ntmps15
  go_wp2
  go_ret
  exact ⟨rfl, rfl⟩

/-- 1, if something is so -/
def yesN (b : Bool) : Int := if b then 1 else 0
/-- a byte with its sign -/
def sgnN (m : Int) : Int := if 127 < m then m - 256 else m
end Go.Proofs.YtigpmmjbdpnkjaaDoor

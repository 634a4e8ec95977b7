/- Sums (walk). No law is claimed here. -/
import Derived.Test.YtigpmmjbdpnkjaaAluA
namespace Go.Proofs.Ytigpmmjbdpnkjaa
open Go.RowKit

theorem adcA (u : Un) (m : Int) : (adcU u m).a = (u.a + m + bits .and .u8 u.p 1) % 256 := rfl
theorem adcX (u : Un) (m : Int) : (adcU u m).x = u.x := rfl
theorem adcY (u : Un) (m : Int) : (adcU u m).y = u.y := rfl
theorem adcS (u : Un) (m : Int) : (adcU u m).s = u.s := rfl
theorem adcC (u : Un) (m : Int) : bits .and .u8 (adcU u m).p 1 = if 255 < u.a + m + bits .and .u8 u.p 1 then 1 else 0 := by
  show bits .and .u8 (fl (fl (fl (fl u.p 1 _) 64 _) 128 _) 2 _) 1 = _
  rw [fl_and_other _ _ _ _ rfl, fl_and_other _ _ _ _ rfl, fl_and_other _ _ _ _ rfl, fl_and _ _ _ (by omega)]
  simp only [decide_eq_true_eq]
theorem adcO (u : Un) (m : Int) : bits .and .u8 (adcU u m).p 64 = if (bits .and .u8 u.a 128 == bits .and .u8 m 128) && (bits .and .u8 u.a 128 != bits .and .u8 ((u.a + m + bits .and .u8 u.p 1) % 256) 128) then 64 else 0 := by
  show bits .and .u8 (fl (fl (fl (fl u.p 1 _) 64 _) 128 _) 2 _) 64 = _
  rw [fl_and_other _ _ _ _ rfl, fl_and_other _ _ _ _ rfl, fl_and _ _ _ (by omega)]
theorem and128 : ∀ n : Fin 256, bits .and .u8 (n.val : Int) 128 = if 128 ≤ n.val then 128 else 0 := by decide +kernel
theorem and1 : ∀ n : Fin 256, bits .and .u8 (n.val : Int) 1 = ((n.val % 2 : Nat) : Int) := by decide +kernel
theorem top_bit (n : Int) (h : 0 ≤ n ∧ n < 256) : bits .and .u8 n 128 = if 128 ≤ n then 128 else 0 := by
  obtain ⟨k, rfl⟩ : ∃ k : Nat, n = (k : Int) := ⟨n.toNat, by omega⟩
  rw [and128 ⟨k, by omega⟩]
  by_cases h : 128 ≤ k
  · rw [if_pos h, if_pos (by omega)]
  · rw [if_neg h, if_neg (by omega)]
theorem low_bit (n : Int) (h : 0 ≤ n ∧ n < 256) : bits .and .u8 n 1 = n % 2 := by
  obtain ⟨k, rfl⟩ : ∃ k : Nat, n = (k : Int) := ⟨n.toNat, by omega⟩
  rw [and1 ⟨k, by omega⟩]; show ((k % 2 : Nat) : Int) = _; omega
theorem i8_in (n : Int) (h : 0 ≤ n ∧ n < 256) : IntKind.i8.wrap n = if 128 ≤ n then n - 256 else n := by
  obtain ⟨k, rfl⟩ : ∃ k : Nat, n = (k : Int) := ⟨n.toNat, by omega⟩
  have : ∀ n : Fin 256, IntKind.i8.wrap (n.val : Int) = if 128 ≤ n.val then (n.val : Int) - 256 else n.val := by decide +kernel
  rw [this ⟨k, by omega⟩]
  by_cases h : 128 ≤ k
  · rw [if_pos h, if_pos (by omega)]
  · rw [if_neg h, if_neg (by omega)]

/-- the sum with signs is no byte just where the signs say so -/
theorem over_iff (a m c : Int) (ha : 0 ≤ a ∧ a < 256) (hm : 0 ≤ m ∧ m < 256) (hc : 0 ≤ c ∧ c < 2) :
    (((if (bits .and .u8 a 128 == bits .and .u8 m 128) && (bits .and .u8 a 128 != bits .and .u8 ((a + m + c) % 256) 128) then (64 : Int) else 0) != 0) ==
      (IntKind.i8.wrap a + IntKind.i8.wrap m + c != IntKind.i8.wrap ((a + m + c) % 256))) = true := by
  rw [top_bit a ha, top_bit m hm, top_bit ((a + m + c) % 256) (by omega), i8_in a ha, i8_in m hm, i8_in ((a + m + c) % 256) (by omega)]
  by_cases h1 : 128 ≤ a <;> by_cases h2 : 128 ≤ m <;> by_cases h3 : 128 ≤ (a + m + c) % 256 <;> simp [h1, h2, h3] <;> omega

set_option maxRecDepth 100000 in
set_option maxHeartbeats 1000000 in
theorem aluAdds_w (a x y s p m : Int) (w : World) (hu : Ok ⟨a, x, y, s, p⟩) (hm : 0 ≤ m ∧ m < 256) :
    Calls Try.prog 6 #[uv a x y s p, .int .u8 m] w fun e w' => e = .returned (.bool true) ∧ Ext w w' := by
  obtain ⟨⟨ha, ha2⟩, _, _, _, hp⟩ := hu
  simp only at ha ha2 hp
  have F0 := awake_any
  have F1 := fun w => Read_adc a x y s p m ha ha2 hm.1 hm.2 w
  unfold uu uv at F1
  have k1 := adcA ⟨a, x, y, s, p⟩ m
  have k2 := adcC ⟨a, x, y, s, p⟩ m
  have k3 := adcO ⟨a, x, y, s, p⟩ m
  have k4 := adcX ⟨a, x, y, s, p⟩ m
  have k5 := adcY ⟨a, x, y, s, p⟩ m
  have k6 := adcS ⟨a, x, y, s, p⟩ m
  generalize adcU ⟨a, x, y, s, p⟩ m = X at *
  simp only at k1 k2 k3 k4 k5 k6
  have hc : 0 ≤ bits .and .u8 p 1 ∧ bits .and .u8 p 1 < 2 := by rw [low_bit p hp]; omega
  have k7 := over_iff a m _ ⟨ha, ha2⟩ hm hc
  have b1 : IntKind.i8.wrap a = if 128 ≤ a then a - 256 else a := i8_in a ⟨ha, ha2⟩
  have b2 : IntKind.i8.wrap m = if 128 ≤ m then m - 256 else m := i8_in m hm
  have b3 := i8_in ((a + m + bits .and .u8 p 1) % 256) (by omega)
  rw [← k3, ← k1] at k7
  rw [← k1] at b3
  have c1 : -128 ≤ IntKind.i8.wrap a ∧ IntKind.i8.wrap a < 128 := by rw [b1]; split <;> omega
  have c2 : -128 ≤ IntKind.i8.wrap m ∧ IntKind.i8.wrap m < 128 := by rw [b2]; split <;> omega
  have c3 : -128 ≤ IntKind.i8.wrap X.a ∧ IntKind.i8.wrap X.a < 128 := by rw [b3]; split <;> omega
  have hX : 0 ≤ X.a ∧ X.a < 256 := by omega
  have hC : 0 ≤ bits .and .u8 X.p 1 ∧ bits .and .u8 X.p 1 < 2 := by rw [k2]; split <;> omega
  have k8 : 256 * bits .and .u8 X.p 1 + X.a = a + m + bits .and .u8 p 1 := by rw [k1, k2]; split <;> omega
  clear k1 k2 k3 b1 b2 b3
  have e1 : IntKind.i64.wrap (IntKind.i8.wrap a) = IntKind.i8.wrap a := IntWalk.i64_in _ ⟨by omega, by omega⟩
  have e2 : IntKind.i64.wrap (IntKind.i8.wrap m) = IntKind.i8.wrap m := IntWalk.i64_in _ ⟨by omega, by omega⟩
  have e3 : IntKind.i64.wrap (IntKind.i8.wrap X.a) = IntKind.i8.wrap X.a := IntWalk.i64_in _ ⟨by omega, by omega⟩
  obtain ⟨c1, c1'⟩ := c1
  obtain ⟨c2, c2'⟩ := c2
  obtain ⟨c3, c3'⟩ := c3
  obtain ⟨hX, hX'⟩ := hX
  obtain ⟨hC, hC'⟩ := hC
  obtain ⟨hc, hc'⟩ := hc
  obtain ⟨hm, hm'⟩ := hm
  have r1 := ext_cell
  have r2 := ext_frozen
  have r3 := ext_setCell
  have r4 := ext_lt
  have r5 := ext_drew
  have r6 := ext_ext
  unfold uv
  go_enter Try.func6, Try.ntmps6
  go_wp2_with (first | (go_at_call 13; refine (F0 _).mono ?_; rintro e w' ⟨rfl, os, q, rfl⟩) | (go_at_call 18; refine (F1 _).mono ?_; rintro e w' ⟨rfl, os, q, rfl⟩))
  go_ret
  refine ⟨rfl, ?_⟩
  repeat (first | exact Ext.refl _ | refine Ext.alloc ?_ _ | refine Ext.ext ?_ _ _ | refine Ext.drew ?_ | refine Ext.drewN ?_ _)

theorem aluAdds_walk (a x y s p m : Int) (w : World) (hu : Ok ⟨a, x, y, s, p⟩) (hm : 0 ≤ m ∧ m < 256) :
    Calls Try.prog 6 #[uv a x y s p, .int .u8 m] w fun e w' => e = .returned (.bool true) ∧ Below w.heap.size w w' :=
  (aluAdds_w a x y s p m w hu hm).mono fun _ _ h => ⟨h.1, h.2.below⟩

end Go.Proofs.Ytigpmmjbdpnkjaa

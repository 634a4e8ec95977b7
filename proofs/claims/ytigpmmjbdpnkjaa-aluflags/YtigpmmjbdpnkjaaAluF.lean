/- No operation touches flags that its rule doesn't name (walk). No law is claimed here. -/
import Derived.Test.YtigpmmjbdpnkjaaAluA
import Derived.Test.YtigpmmjbdpnkjaaAlu8
import Derived.Test.YtigpmmjbdpnkjaaAlu9
import Derived.Test.YtigpmmjbdpnkjaaAlu10
namespace Go.Proofs.Ytigpmmjbdpnkjaa
open Go.RowKit

/-- the flags of the mask g are what they were -/
def KF (g : Int) (p q : Int) : Prop := bv8 q &&& bv8 g = bv8 p &&& bv8 g
theorem KF.refl (g p : Int) : KF g p p := rfl
theorem KF.fl {g p q : Int} (h : KF g p q) (f : Int) (on : Bool) (hf : bv8 f &&& bv8 g = 0#8) : KF g p (fl q f on) := by
  unfold KF; rw [fl_other q f g on hf]; exact h
theorem z1_60 : bv8 1 &&& bv8 60 = 0#8 := by decide
theorem z2_60 : bv8 2 &&& bv8 60 = 0#8 := by decide
theorem z64_60 : bv8 64 &&& bv8 60 = 0#8 := by decide
theorem z128_60 : bv8 128 &&& bv8 60 = 0#8 := by decide
theorem z4_56 : bv8 4 &&& bv8 56 = 0#8 := by decide
theorem z8_52 : bv8 8 &&& bv8 52 = 0#8 := by decide
theorem KF.sg {g p : Int} {u : Un} (h : KF g p u.p) (m : Int) (h1 : bv8 128 &&& bv8 g = 0#8) (h2 : bv8 2 &&& bv8 g = 0#8) : KF g p (sgU u m).p := (h.fl 128 _ h1).fl 2 _ h2
theorem KF.done {g p q : Int} (h : KF g p q) : bits .and .u8 (bits .xor .u8 q p) g = 0 := by
  rw [bits_and, bits_xor, bv8_nat, v_xor_and _ _ _ h]; rfl

set_option maxRecDepth 100000 in
set_option maxHeartbeats 1000000 in
theorem read_ex (a x y s p op m : Int) (ha : 0 ≤ a ∧ a < 256) (hm : 0 ≤ m ∧ m < 256) (hop : 0 ≤ op) :
    ∃ R : Un, KF 60 p R.p ∧ ∀ w, Calls Try.prog 18 #[uv a x y s p, .int .u8 op, .int .u8 m] w fun e w' => e = .returned (uu R) ∧ Ext w w' := by
  by_cases h0 : op = 0
  · subst h0; refine ⟨_, ?_, fun w => Read_nop a x y s p m w⟩; exact KF.refl 60 p
  by_cases h1 : op = 1
  · subst h1; refine ⟨_, ?_, fun w => Read_ora a x y s p m w⟩; exact KF.fl (KF.fl (KF.refl 60 p) 128 _ z128_60) 2 _ z2_60
  by_cases h2 : op = 2
  · subst h2; refine ⟨_, ?_, fun w => Read_and a x y s p m w⟩; exact KF.fl (KF.fl (KF.refl 60 p) 128 _ z128_60) 2 _ z2_60
  by_cases h3 : op = 3
  · subst h3; refine ⟨_, ?_, fun w => Read_eor a x y s p m w⟩; exact KF.fl (KF.fl (KF.refl 60 p) 128 _ z128_60) 2 _ z2_60
  by_cases h4 : op = 4
  · subst h4; refine ⟨_, ?_, fun w => Read_adc a x y s p m ha.1 ha.2 hm.1 hm.2 w⟩; exact KF.fl (KF.fl (KF.fl (KF.fl (KF.refl 60 p) 1 _ z1_60) 64 _ z64_60) 128 _ z128_60) 2 _ z2_60
  by_cases h5 : op = 5
  · subst h5; refine ⟨_, ?_, fun w => Read_sbc a x y s p m ha.1 ha.2 w⟩; exact KF.fl (KF.fl (KF.fl (KF.fl (KF.refl 60 p) 1 _ z1_60) 64 _ z64_60) 128 _ z128_60) 2 _ z2_60
  by_cases h6 : op = 6
  · subst h6; refine ⟨_, ?_, fun w => Read_cmp a x y s p m w⟩; exact KF.fl (KF.fl (KF.fl (KF.refl 60 p) 1 _ z1_60) 128 _ z128_60) 2 _ z2_60
  by_cases h7 : op = 7
  · subst h7; refine ⟨_, ?_, fun w => Read_cpx a x y s p m w⟩; exact KF.fl (KF.fl (KF.fl (KF.refl 60 p) 1 _ z1_60) 128 _ z128_60) 2 _ z2_60
  by_cases h8 : op = 8
  · subst h8; refine ⟨_, ?_, fun w => Read_cpy a x y s p m w⟩; exact KF.fl (KF.fl (KF.fl (KF.refl 60 p) 1 _ z1_60) 128 _ z128_60) 2 _ z2_60
  by_cases h9 : op = 9
  · subst h9; refine ⟨_, ?_, fun w => Read_lda a x y s p m w⟩; exact KF.fl (KF.fl (KF.refl 60 p) 128 _ z128_60) 2 _ z2_60
  by_cases h10 : op = 10
  · subst h10; refine ⟨_, ?_, fun w => Read_ldx a x y s p m w⟩; exact KF.fl (KF.fl (KF.refl 60 p) 128 _ z128_60) 2 _ z2_60
  by_cases h11 : op = 11
  · subst h11; refine ⟨_, ?_, fun w => Read_ldy a x y s p m w⟩; exact KF.fl (KF.fl (KF.refl 60 p) 128 _ z128_60) 2 _ z2_60
  by_cases h12 : op = 12
  · subst h12; refine ⟨_, ?_, fun w => Read_bit a x y s p m w⟩; exact KF.fl (KF.fl (KF.fl (KF.refl 60 p) 128 _ z128_60) 64 _ z64_60) 2 _ z2_60
  by_cases h13 : op = 13
  · subst h13; refine ⟨_, ?_, fun w => Read_lax a x y s p m w⟩; exact KF.fl (KF.fl (KF.fl (KF.fl (KF.refl 60 p) 128 _ z128_60) 2 _ z2_60) 128 _ z128_60) 2 _ z2_60
  by_cases h14 : op = 14
  · subst h14; refine ⟨_, ?_, fun w => Read_anc a x y s p m w⟩; exact KF.fl (KF.fl (KF.fl (KF.refl 60 p) 128 _ z128_60) 2 _ z2_60) 1 _ z1_60
  by_cases h15 : op = 15
  · subst h15; refine ⟨_, ?_, fun w => Read_alr a x y s p m w⟩; exact KF.fl (KF.fl (KF.fl (KF.fl (KF.fl (KF.refl 60 p) 128 _ z128_60) 2 _ z2_60) 1 _ z1_60) 128 _ z128_60) 2 _ z2_60
  by_cases h16 : op = 16
  · subst h16; refine ⟨_, ?_, fun w => Read_arr a x y s p m w⟩; exact KF.fl (KF.fl (KF.fl (KF.fl (KF.fl (KF.fl (KF.fl (KF.refl 60 p) 128 _ z128_60) 2 _ z2_60) 1 _ z1_60) 128 _ z128_60) 2 _ z2_60) 1 _ z1_60) 64 _ z64_60
  by_cases h17 : op = 17
  · subst h17; refine ⟨_, ?_, fun w => Read_axs a x y s p m w⟩; exact KF.fl (KF.fl (KF.fl (KF.fl (KF.fl (KF.refl 60 p) 1 _ z1_60) 128 _ z128_60) 2 _ z2_60) 128 _ z128_60) 2 _ z2_60
  by_cases h18 : op = 18
  · subst h18; refine ⟨_, ?_, fun w => Read_las a x y s p m w⟩; exact KF.fl (KF.fl (KF.fl (KF.fl (KF.refl 60 p) 128 _ z128_60) 2 _ z2_60) 128 _ z128_60) 2 _ z2_60
  exact ⟨⟨a, x, y, s, p⟩, KF.refl _ _, fun w => Read_other a x y s p op m w (by unfold kindU; rw [if_neg (by omega)]; split <;> (try split) <;> (try split) <;> (try split) <;> (try split) <;> omega)⟩

set_option maxRecDepth 100000 in
set_option maxHeartbeats 1000000 in
theorem change_ex (a x y s p op m : Int) (ha : 0 ≤ a ∧ a < 256) (hop : 0 ≤ op) :
    ∃ R : Un × Int, KF 60 p R.1.p ∧ ∀ w, Calls Try.prog 20 #[uv a x y s p, .int .u8 op, .int .u8 m] w fun e w' => e = .returned (.tuple #[uu R.1, .int .u8 R.2]) ∧ Ext w w' := by
  by_cases h0 : op = 19
  · subst h0; refine ⟨_, ?_, fun w => Change_asl a x y s p m w⟩; exact KF.fl (KF.fl (KF.fl (KF.refl 60 p) 1 _ z1_60) 128 _ z128_60) 2 _ z2_60
  by_cases h1 : op = 20
  · subst h1; refine ⟨_, ?_, fun w => Change_lsr a x y s p m w⟩; exact KF.fl (KF.fl (KF.fl (KF.refl 60 p) 1 _ z1_60) 128 _ z128_60) 2 _ z2_60
  by_cases h2 : op = 21
  · subst h2; refine ⟨_, ?_, fun w => Change_rol a x y s p m w⟩; exact KF.fl (KF.fl (KF.fl (KF.refl 60 p) 1 _ z1_60) 128 _ z128_60) 2 _ z2_60
  by_cases h3 : op = 22
  · subst h3; refine ⟨_, ?_, fun w => Change_ror a x y s p m w⟩; exact KF.fl (KF.fl (KF.fl (KF.refl 60 p) 1 _ z1_60) 128 _ z128_60) 2 _ z2_60
  by_cases h4 : op = 23
  · subst h4; refine ⟨_, ?_, fun w => Change_inc a x y s p m w⟩; exact KF.fl (KF.fl (KF.refl 60 p) 128 _ z128_60) 2 _ z2_60
  by_cases h5 : op = 24
  · subst h5; refine ⟨_, ?_, fun w => Change_dec a x y s p m w⟩; exact KF.fl (KF.fl (KF.refl 60 p) 128 _ z128_60) 2 _ z2_60
  by_cases h6 : op = 25
  · subst h6; refine ⟨_, ?_, fun w => Change_slo a x y s p m w⟩; exact KF.fl (KF.fl (KF.fl (KF.fl (KF.fl (KF.refl 60 p) 1 _ z1_60) 128 _ z128_60) 2 _ z2_60) 128 _ z128_60) 2 _ z2_60
  by_cases h7 : op = 26
  · subst h7; refine ⟨_, ?_, fun w => Change_rla a x y s p m w⟩; exact KF.fl (KF.fl (KF.fl (KF.fl (KF.fl (KF.refl 60 p) 1 _ z1_60) 128 _ z128_60) 2 _ z2_60) 128 _ z128_60) 2 _ z2_60
  by_cases h8 : op = 27
  · subst h8; refine ⟨_, ?_, fun w => Change_sre a x y s p m w⟩; exact KF.fl (KF.fl (KF.fl (KF.fl (KF.fl (KF.refl 60 p) 1 _ z1_60) 128 _ z128_60) 2 _ z2_60) 128 _ z128_60) 2 _ z2_60
  by_cases h9 : op = 28
  · subst h9; refine ⟨_, ?_, fun w => Change_rra a x y s p m ha.1 ha.2 w⟩; exact KF.fl (KF.fl (KF.fl (KF.fl (KF.fl (KF.fl (KF.fl (KF.refl 60 p) 1 _ z1_60) 128 _ z128_60) 2 _ z2_60) 1 _ z1_60) 64 _ z64_60) 128 _ z128_60) 2 _ z2_60
  by_cases h10 : op = 29
  · subst h10; refine ⟨_, ?_, fun w => Change_dcp a x y s p m w⟩; exact KF.fl (KF.fl (KF.fl (KF.fl (KF.fl (KF.refl 60 p) 128 _ z128_60) 2 _ z2_60) 1 _ z1_60) 128 _ z128_60) 2 _ z2_60
  by_cases h11 : op = 30
  · subst h11; refine ⟨_, ?_, fun w => Change_isc a x y s p m ha.1 ha.2 w⟩; exact KF.fl (KF.fl (KF.fl (KF.fl (KF.fl (KF.fl (KF.refl 60 p) 128 _ z128_60) 2 _ z2_60) 1 _ z1_60) 64 _ z64_60) 128 _ z128_60) 2 _ z2_60
  exact ⟨(⟨a, x, y, s, p⟩, m), KF.refl _ _, fun w => Change_other a x y s p op m w (by
    unfold kindU
    by_cases h : op ≤ 18
    · rw [if_pos h]; omega
    · rw [if_neg h, if_neg (by omega)]; split <;> (try split) <;> (try split) <;> (try split) <;> omega)⟩

/-- what Self leaves alone -/
def stillG (op : Int) : Int := if op = 47 ∨ op = 48 then 56 else if op = 50 ∨ op = 51 then 52 else 60
set_option maxRecDepth 100000 in
set_option maxHeartbeats 1000000 in
theorem self_ex (a x y s p op : Int) (hop : 0 ≤ op) :
    ∃ R : Un, KF (stillG op) p R.p ∧ ∀ w, Calls Try.prog 21 #[uv a x y s p, .int .u8 op] w fun e w' => e = .returned (uu R) ∧ Ext w w' := by
  by_cases h0 : op = 35
  · subst h0; refine ⟨_, ?_, fun w => Self_tax a x y s p w⟩; show KF 60 p _; exact KF.fl (KF.fl (KF.refl 60 p) 128 _ z128_60) 2 _ z2_60
  by_cases h1 : op = 36
  · subst h1; refine ⟨_, ?_, fun w => Self_tay a x y s p w⟩; show KF 60 p _; exact KF.fl (KF.fl (KF.refl 60 p) 128 _ z128_60) 2 _ z2_60
  by_cases h2 : op = 37
  · subst h2; refine ⟨_, ?_, fun w => Self_txa a x y s p w⟩; show KF 60 p _; exact KF.fl (KF.fl (KF.refl 60 p) 128 _ z128_60) 2 _ z2_60
  by_cases h3 : op = 38
  · subst h3; refine ⟨_, ?_, fun w => Self_tya a x y s p w⟩; show KF 60 p _; exact KF.fl (KF.fl (KF.refl 60 p) 128 _ z128_60) 2 _ z2_60
  by_cases h4 : op = 39
  · subst h4; refine ⟨_, ?_, fun w => Self_tsx a x y s p w⟩; show KF 60 p _; exact KF.fl (KF.fl (KF.refl 60 p) 128 _ z128_60) 2 _ z2_60
  by_cases h5 : op = 40
  · subst h5; refine ⟨_, ?_, fun w => Self_txs a x y s p w⟩; show KF 60 p _; exact KF.refl 60 p
  by_cases h6 : op = 41
  · subst h6; refine ⟨_, ?_, fun w => Self_inx a x y s p w⟩; show KF 60 p _; exact KF.fl (KF.fl (KF.refl 60 p) 128 _ z128_60) 2 _ z2_60
  by_cases h7 : op = 42
  · subst h7; refine ⟨_, ?_, fun w => Self_iny a x y s p w⟩; show KF 60 p _; exact KF.fl (KF.fl (KF.refl 60 p) 128 _ z128_60) 2 _ z2_60
  by_cases h8 : op = 43
  · subst h8; refine ⟨_, ?_, fun w => Self_dex a x y s p w⟩; show KF 60 p _; exact KF.fl (KF.fl (KF.refl 60 p) 128 _ z128_60) 2 _ z2_60
  by_cases h9 : op = 44
  · subst h9; refine ⟨_, ?_, fun w => Self_dey a x y s p w⟩; show KF 60 p _; exact KF.fl (KF.fl (KF.refl 60 p) 128 _ z128_60) 2 _ z2_60
  by_cases h10 : op = 45
  · subst h10; refine ⟨_, ?_, fun w => Self_clc a x y s p w⟩; show KF 60 p _; exact KF.fl (KF.refl 60 p) 1 false z1_60
  by_cases h11 : op = 46
  · subst h11; refine ⟨_, ?_, fun w => Self_sec a x y s p w⟩; show KF 60 p _; exact KF.fl (KF.refl 60 p) 1 true z1_60
  by_cases h12 : op = 47
  · subst h12; refine ⟨_, ?_, fun w => Self_cli a x y s p w⟩; show KF 56 p _; exact KF.fl (KF.refl 56 p) 4 false z4_56
  by_cases h13 : op = 48
  · subst h13; refine ⟨_, ?_, fun w => Self_sei a x y s p w⟩; show KF 56 p _; exact KF.fl (KF.refl 56 p) 4 true z4_56
  by_cases h14 : op = 49
  · subst h14; refine ⟨_, ?_, fun w => Self_clv a x y s p w⟩; show KF 60 p _; exact KF.fl (KF.refl 60 p) 64 false z64_60
  by_cases h15 : op = 50
  · subst h15; refine ⟨_, ?_, fun w => Self_cld a x y s p w⟩; show KF 52 p _; exact KF.fl (KF.refl 52 p) 8 false z8_52
  by_cases h16 : op = 51
  · subst h16; refine ⟨_, ?_, fun w => Self_sed a x y s p w⟩; show KF 52 p _; exact KF.fl (KF.refl 52 p) 8 true z8_52
  by_cases j0 : op = 19
  · subst j0; refine ⟨_, ?_, fun w => Self_asl a x y s p w⟩; show KF 60 p _; exact KF.fl (KF.fl (KF.fl (KF.refl 60 p) 1 _ z1_60) 128 _ z128_60) 2 _ z2_60
  by_cases j1 : op = 20
  · subst j1; refine ⟨_, ?_, fun w => Self_lsr a x y s p w⟩; show KF 60 p _; exact KF.fl (KF.fl (KF.fl (KF.refl 60 p) 1 _ z1_60) 128 _ z128_60) 2 _ z2_60
  by_cases j2 : op = 21
  · subst j2; refine ⟨_, ?_, fun w => Self_rol a x y s p w⟩; show KF 60 p _; exact KF.fl (KF.fl (KF.fl (KF.refl 60 p) 1 _ z1_60) 128 _ z128_60) 2 _ z2_60
  by_cases j3 : op = 22
  · subst j3; refine ⟨_, ?_, fun w => Self_ror a x y s p w⟩; show KF 60 p _; exact KF.fl (KF.fl (KF.fl (KF.refl 60 p) 1 _ z1_60) 128 _ z128_60) 2 _ z2_60
  exact ⟨⟨a, x, y, s, p⟩, KF.refl _ _, fun w => Self_other a x y s p op w (by
    unfold kindU
    by_cases h : op ≤ 34
    · split <;> (try split) <;> (try split) <;> omega
    · rw [if_neg (by omega), if_neg (by omega), if_neg (by omega), if_neg (by omega)]; split <;> (try split) <;> omega) (by omega)⟩

set_option maxRecDepth 100000 in
set_option maxHeartbeats 2000000 in
theorem aluFlags_w (a x y s p op m : Int) (w : World) (hu : Ok ⟨a, x, y, s, p⟩) (hop : 0 ≤ op ∧ op < 256) (hm : 0 ≤ m ∧ m < 256) :
    Calls Try.prog 10 #[uv a x y s p, .int .u8 op, .int .u8 m] w fun e w' => e = .returned (.bool true) ∧ Ext w w' := by
  have F0 := awake_any
  obtain ⟨X, hX, F1⟩ := read_ex a x y s p op m hu.1 hm hop.1
  obtain ⟨Y, hY, F2⟩ := change_ex a x y s p op m hu.1 hop.1
  obtain ⟨Z, hZ, F3⟩ := self_ex a x y s p op hop.1
  unfold uu uv at F1 F2 F3
  have low : ∀ {g q : Int}, KF 60 p q → bv8 g &&& bv8 60 = bv8 g → KF g p q := fun {g q} h e => by
    unfold KF at *
    rw [← e, BitVec.and_comm (bv8 g), ← BitVec.and_assoc, h, BitVec.and_assoc]
  have e47 : bits .andNot .u8 60 4 = 56 := by decide +kernel
  have e50 : bits .andNot .u8 60 8 = 52 := by decide +kernel
  clear hu hop hm

  by_cases h47 : op = 47 ∨ op = 48
  · have q3 := (show KF 56 p Z.p by unfold stillG at hZ; rwa [if_pos h47] at hZ).done
    have q1 := (low (g := 56) hX rfl).done
    have q2 := (low (g := 56) hY rfl).done
    have t1 : (op == 50) = false := by rw [beq_eq_false_iff_ne]; omega
    have t2 : (op == 51) = false := by rw [beq_eq_false_iff_ne]; omega
    clear hX hY hZ low e50
    rcases h47 with rfl | rfl
    all_goals
      have r1 := ext_cell
      have r2 := ext_frozen
      have r3 := ext_setCell
      have r4 := ext_lt
      have r5 := ext_drew
      have r6 := ext_ext
      have r7 := ext_lt1
      unfold uv
      go_enter Try.func10, Try.ntmps10
      go_upto_region 5 with (first | (go_at_call 13; refine (F0 _).mono ?_; rintro e w' ⟨rfl, os, q, rfl⟩) | (go_at_call 18; refine (F1 _).mono ?_; rintro e w1 ⟨rfl, hE1⟩; have B1 := boxE (ext_on hE1); obtain ⟨z1, c0, c1, c2, c3, c4⟩ := id B1))
      have z1' := Nat.lt_succ_of_lt z1
      simp only [Nat.succ_eq_add_one] at z1'
      go_upto_region 6 with (go_at_call 20; refine (F2 _).mono ?_; rintro e w2 ⟨rfl, hE2⟩; have B2 := boxE hE2; have B3 := B1.past hE2; obtain ⟨y1, d0, d1, d2, d3, d4⟩ := id B2; obtain ⟨y2, e0, e1, e2, e3, e4⟩ := id B3)
      have y1' := Nat.lt_succ_of_lt y1
      have y2' := Nat.lt_succ_of_lt y2
      simp only [Nat.succ_eq_add_one] at y1' y2'
      go_upto_region 7 with (go_at_call 21; refine (F3 _).mono ?_; rintro e w3 ⟨rfl, hE3⟩; have B4 := boxE hE3; have B5 := B2.past hE3; have B6 := B3.past hE3; obtain ⟨x1, f0, f1, f2, f3, f4⟩ := id B4; obtain ⟨x2, g0, g1, g2, g3, g4⟩ := id B5; obtain ⟨x3, k0, k1, k2, k3, k4⟩ := id B6)
      go_wp2
      go_ret
      refine ⟨rfl, ?_⟩
      repeat (first | exact Ext.refl _ | refine Ext.trans ?_ hE3 | refine Ext.trans ?_ hE2 | refine Ext.trans ?_ hE1 | refine Ext.alloc ?_ _ | refine Ext.ext ?_ _ _ | refine Ext.drew ?_ | refine Ext.drewN ?_ _)
  by_cases h50 : op = 50 ∨ op = 51
  · have q3 := (show KF 52 p Z.p by unfold stillG at hZ; rwa [if_neg h47, if_pos h50] at hZ).done
    have q1 := (low (g := 52) hX rfl).done
    have q2 := (low (g := 52) hY rfl).done
    clear hX hY hZ low e47 h47
    rcases h50 with rfl | rfl
    all_goals
      have r1 := ext_cell
      have r2 := ext_frozen
      have r3 := ext_setCell
      have r4 := ext_lt
      have r5 := ext_drew
      have r6 := ext_ext
      have r7 := ext_lt1
      unfold uv
      go_enter Try.func10, Try.ntmps10
      go_upto_region 5 with (first | (go_at_call 13; refine (F0 _).mono ?_; rintro e w' ⟨rfl, os, q, rfl⟩) | (go_at_call 18; refine (F1 _).mono ?_; rintro e w1 ⟨rfl, hE1⟩; have B1 := boxE (ext_on hE1); obtain ⟨z1, c0, c1, c2, c3, c4⟩ := id B1))
      have z1' := Nat.lt_succ_of_lt z1
      simp only [Nat.succ_eq_add_one] at z1'
      go_upto_region 6 with (go_at_call 20; refine (F2 _).mono ?_; rintro e w2 ⟨rfl, hE2⟩; have B2 := boxE hE2; have B3 := B1.past hE2; obtain ⟨y1, d0, d1, d2, d3, d4⟩ := id B2; obtain ⟨y2, e0, e1, e2, e3, e4⟩ := id B3)
      have y1' := Nat.lt_succ_of_lt y1
      have y2' := Nat.lt_succ_of_lt y2
      simp only [Nat.succ_eq_add_one] at y1' y2'
      go_upto_region 7 with (go_at_call 21; refine (F3 _).mono ?_; rintro e w3 ⟨rfl, hE3⟩; have B4 := boxE hE3; have B5 := B2.past hE3; have B6 := B3.past hE3; obtain ⟨x1, f0, f1, f2, f3, f4⟩ := id B4; obtain ⟨x2, g0, g1, g2, g3, g4⟩ := id B5; obtain ⟨x3, k0, k1, k2, k3, k4⟩ := id B6)
      go_wp2
      go_ret
      refine ⟨rfl, ?_⟩
      repeat (first | exact Ext.refl _ | refine Ext.trans ?_ hE3 | refine Ext.trans ?_ hE2 | refine Ext.trans ?_ hE1 | refine Ext.alloc ?_ _ | refine Ext.ext ?_ _ _ | refine Ext.drew ?_ | refine Ext.drewN ?_ _)
  have q3 := (show KF 60 p Z.p by unfold stillG at hZ; rwa [if_neg h47, if_neg h50] at hZ).done
  have q1 := hX.done
  have q2 := hY.done
  have t1 : (op == 50) = false := by rw [beq_eq_false_iff_ne]; omega
  have t2 : (op == 51) = false := by rw [beq_eq_false_iff_ne]; omega
  have t3 : (op == 47) = false := by rw [beq_eq_false_iff_ne]; omega
  have t4 : (op == 48) = false := by rw [beq_eq_false_iff_ne]; omega
  clear hX hY hZ low h47 h50 e47 e50
  have r1 := ext_cell
  have r2 := ext_frozen
  have r3 := ext_setCell
  have r4 := ext_lt
  have r5 := ext_drew
  have r6 := ext_ext
  have r7 := ext_lt1
  unfold uv
  go_enter Try.func10, Try.ntmps10
  go_upto_region 5 with (first | (go_at_call 13; refine (F0 _).mono ?_; rintro e w' ⟨rfl, os, q, rfl⟩) | (go_at_call 18; refine (F1 _).mono ?_; rintro e w1 ⟨rfl, hE1⟩; have B1 := boxE (ext_on hE1); obtain ⟨z1, c0, c1, c2, c3, c4⟩ := id B1))
  have z1' := Nat.lt_succ_of_lt z1
  simp only [Nat.succ_eq_add_one] at z1'
  go_upto_region 6 with (go_at_call 20; refine (F2 _).mono ?_; rintro e w2 ⟨rfl, hE2⟩; have B2 := boxE hE2; have B3 := B1.past hE2; obtain ⟨y1, d0, d1, d2, d3, d4⟩ := id B2; obtain ⟨y2, e0, e1, e2, e3, e4⟩ := id B3)
  have y1' := Nat.lt_succ_of_lt y1
  have y2' := Nat.lt_succ_of_lt y2
  simp only [Nat.succ_eq_add_one] at y1' y2'
  go_upto_region 7 with (go_at_call 21; refine (F3 _).mono ?_; rintro e w3 ⟨rfl, hE3⟩; have B4 := boxE hE3; have B5 := B2.past hE3; have B6 := B3.past hE3; obtain ⟨x1, f0, f1, f2, f3, f4⟩ := id B4; obtain ⟨x2, g0, g1, g2, g3, g4⟩ := id B5; obtain ⟨x3, k0, k1, k2, k3, k4⟩ := id B6)
  go_wp2
  go_ret
  refine ⟨rfl, ?_⟩
  repeat (first | exact Ext.refl _ | refine Ext.trans ?_ hE3 | refine Ext.trans ?_ hE2 | refine Ext.trans ?_ hE1 | refine Ext.alloc ?_ _ | refine Ext.ext ?_ _ _ | refine Ext.drew ?_ | refine Ext.drewN ?_ _)

theorem aluFlags_walk (a x y s p op m : Int) (w : World) (hu : Ok ⟨a, x, y, s, p⟩) (hop : 0 ≤ op ∧ op < 256) (hm : 0 ≤ m ∧ m < 256) :
    Calls Try.prog 10 #[uv a x y s p, .int .u8 op, .int .u8 m] w fun e w' => e = .returned (.bool true) ∧ Below w.heap.size w w' :=
  (aluFlags_w a x y s p op m w hu hop hm).mono fun _ _ h => ⟨h.1, h.2.below⟩

end Go.Proofs.Ytigpmmjbdpnkjaa

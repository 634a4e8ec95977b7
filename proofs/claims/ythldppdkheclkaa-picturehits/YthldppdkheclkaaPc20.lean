/- The picture unit: writes of memory and of sprites. No law is claimed here. -/
import Derived.Test.YthldppdkheclkaaPc19
set_option linter.unusedSimpArgs false
set_option linter.unusedVariables false
namespace Go.Proofs.Ythldppdkheclkaa
open Go.RowKit Go.Great

variable {w0 v0 v v' : World} {m : Nat} {A : Nat → Value} {c : PC}

/-- what a write leaves -/
def pokV (a b : Int) : Int := if a % 16384 < 16128 then b else bits .and .u8 b 63
theorem and63_b (b : Int) : 0 ≤ bits .and .u8 b 63 ∧ bits .and .u8 b 63 < 256 := by
  obtain ⟨k, hk⟩ : ∃ k, bits .and .u8 b 63 = IntKind.u8.wrap k := ⟨_, rfl⟩
  rw [hk, wrap_u8_mod]
  omega

set_option maxRecDepth 100000 in
set_option maxHeartbeats 2000000 in
theorem ST.mput (h : ST w0 v0 m A c v) (a : Int) (ha : 0 ≤ a ∧ a < 65536) (b : Int) (hb : 0 ≤ b ∧ b < 256) :
    Calls Try.prog 48 #[.pointer (some ⟨m, 0, none⟩), .int .u16 a, .int .u8 b] v fun e v' => e = .returned (.tuple #[]) ∧ ST w0 v0 m (updV A (adr c.up a) (.int .u8 (pokV a b))) c v' := by
  have k1 := m16383 a ha
  have ep : pokV a b = if a % 16384 < 16128 then b else bits .and .u8 b 63 := rfl
  have b63 := and63_b b
  have hl := adr_lt c.up a
  have o1 := h.big (adr c.up a) (.inl hl) (by omega)
  have z1 := h.fz (adr c.up a)
  have q2 := h.c_up
  have hP := fun (x : Int) (hx : 0 ≤ x ∧ x < 256) => h.byte (adr c.up a) x (.inl hl) hx
  have hQ := fun (x : Int) (hx : 0 ≤ x ∧ x < 256) => h.drew.byte (adr c.up a) x (.inl hl) hx
  rcases (by omega : a % 16384 < 8192 ∨ (8192 ≤ a % 16384 ∧ a % 16384 < 16128) ∨ 16128 ≤ a % 16384) with e | ⟨e, e'⟩ | e
  · obtain ⟨j, hj⟩ := natP (a % 16384) (by omega)
    have ea : adr c.up a = j := by unfold adr; rw [if_pos e]; omega
    rw [if_pos (by omega)] at ep
    rw [ep]
    rw [ea] at o1 z1 hP ⊢
    replace hP := hP b hb
    rw [hj] at k1 e
    clear hj ea hQ b63 ep hl h
    go_enter Try.func48, Try.ntmps48
    go_wp2
    (first | refine bodyPost_end (results_none rfl _ _ _) rfl ?_ | refine bodyPost_ret (results_none rfl _ _ _) rfl ?_)
    exact ⟨rfl, hP⟩
  · have hM := mirN_b (a % 16384) c.up
    have FM := fun u => (mirror_any (a % 16384) c.up u (by omega)).mono fun _ _ h => And.intro h.1 h.2.symm
    obtain ⟨k, hk⟩ := natP (mirN (a % 16384) c.up) hM.1
    have ea : adr c.up a = 8192 + k := by unfold adr; rw [if_neg (by omega), if_pos e']; omega
    rw [if_pos (by omega)] at ep
    rw [ep]
    rw [ea] at o1 z1 hP hQ ⊢
    rw [hk] at hM FM
    replace hP := hP b hb
    replace hQ := hQ b hb
    generalize a % 16384 = a1 at *
    clear ea b63 ep hl h
    go_enter Try.func48, Try.ntmps48
    go_upto_region 5 with (fail)
    go_region_held3 (fun x => x.cell? ⟨m, 10272, none⟩ = some (.bool c.up)) (first | assumption | exact q2 | exact hP.c_up | exact hQ.c_up | exact hP.drew.c_up) (first | (go_at_call 73; refine (FM _).mono ?_; rintro e x ⟨rfl, rfl⟩))
    go_wp2
    (first | refine bodyPost_end (results_none rfl _ _ _) rfl ?_ | refine bodyPost_ret (results_none rfl _ _ _) rfl ?_)
    exact ⟨rfl, by first | exact hQ | exact hP.drew⟩
  · have hM := colN_b (a % 16384)
    have FM := fun u => (colour_any (a % 16384) u (by omega)).mono fun _ _ h => And.intro h.1 h.2.symm
    obtain ⟨k, hk⟩ := natP (colN (a % 16384)) hM.1
    have ea : adr c.up a = 10240 + k := by unfold adr; rw [if_neg (by omega), if_neg (by omega)]; omega
    rw [if_neg (by omega)] at ep
    rw [ep]
    rw [ea] at o1 z1 hP hQ ⊢
    rw [hk] at hM FM
    replace hP := hP _ b63
    replace hQ := hQ _ b63
    have e2 : a % 16384 < 16384 := by omega
    generalize a % 16384 = a1 at *
    clear ea ep hl h
    go_enter Try.func48, Try.ntmps48
    go_upto_region 1 with (fail)
    go_region_held3 (fun _ => True) (exact trivial) (first | (go_at_call 74; refine (FM _).mono ?_; rintro e x ⟨rfl, rfl⟩))
    go_wp2
    (first | refine bodyPost_end (results_none rfl _ _ _) rfl ?_ | refine bodyPost_ret (results_none rfl _ _ _) rfl ?_)
    exact ⟨rfl, by first | exact hQ | exact hP.drew⟩

set_option maxRecDepth 100000 in
set_option maxHeartbeats 1000000 in
theorem ST.poke (h : ST w0 v0 m A c v) (a : Int) (ha : 0 ≤ a ∧ a < 65536) (b : Int) (hb : 0 ≤ b ∧ b < 256) :
    Calls Try.prog 19 #[.pointer (some ⟨m, 0, none⟩), .int .u16 a, .int .u8 b] v fun e v' => e = .returned (.tuple #[]) ∧ ST w0 v0 m (updV A (adr c.up a) (.int .u8 (pokV a b))) c v' := by
  have FM := h.mput a ha b hb
  generalize updV A (adr c.up a) (.int .u8 (pokV a b)) = A2 at *
  go_enter Try.func19, Try.ntmps19
  go_wp2_with (go_at_call 48; refine FM.mono ?_; rintro e x ⟨rfl, h2⟩)
  (first | refine bodyPost_end (results_none rfl _ _ _) rfl ?_ | refine bodyPost_ret (results_none rfl _ _ _) rfl ?_)
  exact ⟨rfl, h2⟩

set_option maxRecDepth 100000 in
set_option maxHeartbeats 2000000 in
theorem ST.put4 (h : ST w0 v0 m A c v) (j : Nat) (hj : c.ad = j) (hj2 : j < 256) (b : Int) (hb : 0 ≤ b ∧ b < 256) :
    Calls Try.prog 31 #[.pointer (some ⟨m, 0, none⟩), .int .u8 4, .int .u8 b] v fun e v' => e = .returned (.tuple #[]) ∧ ST w0 v0 m (updV A (10282 + j) (.int .u8 b)) { c with bus := b, ad := ((j : Int) + 1) % 256 } v' := by
  have h1 := h.set_bus b
  have o0 := h.c_bus
  have z0 := h.fz 10279
  have z1 := h1.fz (10282 + j)
  have z2 := h1.fz 10281
  have o1 := h1.big (10282 + j) (.inr (.inl (by omega))) (by omega)
  have o2 : (v.setCell ⟨m, 10279, none⟩ (.int .u8 b)).cell? ⟨m, 10281, none⟩ = some (.int .u8 (j : Int)) := h1.c_ad.trans (by show some (Value.int IntKind.u8 c.ad) = _; rw [hj])
  have h2 := h1.drew.byte (10282 + j) b (.inr (.inl (by omega))) hb
  have o3 : ((v.setCell ⟨m, 10279, none⟩ (.int .u8 b)).drew.setCell ⟨m, 10282 + j, none⟩ (.int .u8 b)).cell? ⟨m, 10281, none⟩ = some (.int .u8 (j : Int)) := h2.c_ad.trans (by show some (Value.int IntKind.u8 c.ad) = _; rw [hj])
  have z3 := h2.fz 10281
  have h3 := h2.set_ad (((j : Int) + 1) % 256)
  have w1 : IntKind.u8.wrap ((j : Int) + 1) = ((j : Int) + 1) % 256 := wrap_u8_mod _
  have k1 : (j : Int) < 256 := by omega
  clear h h1 h2
  go_enter Try.func31, Try.ntmps31
  go_upto_region 11 with (fail)
  generalize v.setCell ⟨m, 10279, none⟩ (.int .u8 b) = v1 at *
  go_still_tail 9, (by kernel_rfl)
  go_wp2
  (first | refine bodyPost_end (results_none rfl _ _ _) rfl ?_ | refine bodyPost_ret (results_none rfl _ _ _) rfl ?_)
  exact ⟨rfl, h3⟩

end Go.Proofs.Ythldppdkheclkaa

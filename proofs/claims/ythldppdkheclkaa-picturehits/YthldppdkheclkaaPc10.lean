/- The picture unit: colours, and a dot that is drawn. No law is claimed here. -/
import Derived.Test.YthldppdkheclkaaPc9
set_option linter.unusedSimpArgs false
set_option linter.unusedVariables false
namespace Go.Proofs.Ythldppdkheclkaa
open Go.RowKit Go.Great

variable {w0 v0 v v' : World} {m : Nat} {A : Nat → Value} {c : PC}

/-- is the first sprite hit at x? -/
def hitV (A : Nat → Value) (c : PC) (x : Int) : Bool := spF A c x && decide (tilN A c x ≠ 0) && decide (x ≠ 255)
/-- which colour is seen at x -/
def colV (A : Nat → Value) (c : PC) (x : Int) : Int :=
  if spN A c x ≠ 0 ∧ (tilN A c x = 0 ∨ bits .and .u8 (spA A c x) 32 = 0) then 16 + spA A c x % 4 * 4 + spN A c x
  else if tilN A c x ≠ 0 then tilP A c x * 4 + tilN A c x else 0
def hitC (A : Nat → Value) (c : PC) (x : Int) : PC := if hitV A c x = true then { c with hit := true } else c
theorem colV_b (A : Nat → Value) (c : PC) (x : Int) : 0 ≤ colV A c x ∧ colV A c x < 32 := by
  have h1 := tilN_b A c x
  have h2 := tilP_b A c x
  have h3 := spN_b A c x
  unfold colV
  split
  · omega
  · split <;> omega

set_option maxRecDepth 100000 in
set_option maxHeartbeats 4000000 in
theorem ST.colour (h : ST w0 v0 m A c v) (hS : LIn (scrC c)) (hn : 0 ≤ c.cnt ∧ c.cnt ≤ 8) (x : Int) (hx : 0 ≤ x ∧ x < 256) :
    Calls Try.prog 82 #[.pointer (some ⟨m, 0, none⟩), .int .i64 x] v fun e v' => e = .returned (.int .u8 (colV A c x)) ∧ ST w0 v0 m A (hitC A c x) v' := by
  have FT := h.tile hS x hx
  have FS := fun (u : World) (hu : ST w0 v0 m A c u) => hu.sprite hn x hx
  have bT := tilN_b A c x
  have bP := tilP_b A c x
  have bN := spN_b A c x
  have bA := h.spA_b hn x
  have k3 := b3 _ bA
  have eH : hitC A c x = if (spF A c x && decide (tilN A c x ≠ 0) && decide (x ≠ 255)) = true then { c with hit := true } else c := rfl
  have eC : colV A c x = if spN A c x ≠ 0 ∧ (tilN A c x = 0 ∨ bits .and .u8 (spA A c x) 32 = 0) then 16 + spA A c x % 4 * 4 + spN A c x
    else if tilN A c x ≠ 0 then tilP A c x * 4 + tilN A c x else 0 := rfl
  unfold sprV at FS
  generalize hitC A c x = c2 at *
  generalize colV A c x = C at *
  generalize tilN A c x = n at *
  generalize tilP A c x = p at *
  generalize spF A c x = f at *
  generalize spA A c x = a at *
  generalize spX A c x = X at *
  generalize spL A c x = l at *
  generalize spU A c x = u at *
  generalize spN A c x = N at *
  obtain ⟨a4, ha4⟩ : ∃ a4, a % 4 = a4 := ⟨_, rfl⟩
  rw [ha4] at k3 eC
  have z1 : IntKind.u8.wrap (a4 * 4) = a4 * 4 := by rw [wrap_u8_mod]; omega
  have z2 : IntKind.u8.wrap (16 + a4 * 4) = 16 + a4 * 4 := by rw [wrap_u8_mod]; omega
  have z3 : IntKind.u8.wrap (16 + a4 * 4 + N) = 16 + a4 * 4 + N := by rw [wrap_u8_mod]; omega
  have z4 : IntKind.u8.wrap (p * 4) = p * 4 := by rw [wrap_u8_mod]; omega
  have z5 : IntKind.u8.wrap (p * 4 + n) = p * 4 + n := by rw [wrap_u8_mod]; omega
  go_enter Try.func82, Try.ntmps82
  go_upto_region 3 with (first | (go_at_call 90; refine FT.mono ?_; clear FT; rintro e v1 ⟨rfl, b1⟩; have h1 := h.past b1) | (go_at_call 91; refine (FS _ h1).mono ?_; clear FS; rintro e v2 ⟨rfl, b2⟩; have h2 := h1.past b2))
  have h3 := h2.past ((Ext.refl v2).alloc (.cells #[.bool f, .int .u8 a, .int .i64 X, .int .u8 l, .int .u8 u] 81)).below
  have hB := B5.made v2 f a X l u 81
  have hm2 : m ≠ v2.heap.size := by have := h2.lt; omega
  clear h h1 h2 b1 b2
  generalize hv3 : v2.alloc (.cells #[.bool f, .int .u8 a, .int .i64 X, .int .u8 l, .int .u8 u] 81) = v3 at *
  clear hv3
  obtain ⟨gl, g0, g1, g2, g3, g4, gz⟩ := hB
  have y1 := h3.fz 10580
  have y2 := h3.c_hit
  have hH := h3.set_hit true
  have g1' : (v3.setCell ⟨m, 10580, none⟩ (.bool true)).cell? ⟨v2.heap.size, 1, none⟩ = some (.int .u8 a) := by rw [← g1]; simp [go_sem, hm2, Ne.symm hm2]
  rcases (by
    rcases Bool.eq_false_or_eq_true f with e1 | e1
    · by_cases e2 : n = 0
      · exact .inr (.inr (.inl e2))
      · by_cases e3 : x = 255
        · exact .inr (.inr (.inr ⟨e1, e2, e3⟩))
        · exact .inl ⟨e1, e2, e3⟩
    · exact .inr (.inl e1) : (f = true ∧ n ≠ 0 ∧ x ≠ 255) ∨ f = false ∨ n = 0 ∨ (f = true ∧ n ≠ 0 ∧ x = 255)) with ⟨t1, t2, t3⟩ | t1 | t1 | ⟨t1, t2, t3⟩
  · have d2 : (n != 0) = true := by simp [t2]
    have d3 : (x != 255) = true := by simp [t3]
    rw [if_pos (by simp [t1, t2, t3])] at eH
    subst t1
    go_upto_region 5 with (fail)
    rw [← eH] at hH
    clear g0 g1 g2 g3 g4 gz y1 y2 h3 gl d2 d3 eH
    generalize v3.setCell ⟨m, 10580, none⟩ (.bool true) = v5 at *
    rcases (by omega : N = 0 ∨ N ≠ 0) with e1 | e1
    · have d4 : (N != 0) = false := by simp [e1]
      rw [if_neg (by simp [e1])] at eC
      rcases (by omega : n = 0 ∨ n ≠ 0) with e2 | e2
      · first
          | (exfalso; omega)
          | (have d5 : (n != 0) = false := by simp [e2]
             rw [if_neg (by simp [e2])] at eC
             subst eC
             go_wp2
             go_ret
             exact ⟨rfl, hH⟩)
      · first
          | (exfalso; omega)
          | (have d5 : (n != 0) = true := by simp [e2]
             rw [if_pos e2] at eC
             subst eC
             go_wp2
             go_ret
             exact ⟨rfl, hH⟩)
    · have d4 : (N != 0) = true := by simp [e1]
      rcases (by omega : n = 0 ∨ n ≠ 0) with e2 | e2
      · first
          | (exfalso; omega)
          | (have d5 : (n == 0) = true := by simp [e2]
             rw [if_pos ⟨e1, .inl e2⟩] at eC
             subst eC
             go_wp2
             go_ret
             exact ⟨rfl, hH⟩)
      · first
          | (exfalso; omega)
          | (have d5 : (n == 0) = false := by simp [e2]
             have d6 : (n != 0) = true := by simp [e2]
             by_cases e3 : bits .and .u8 a 32 = 0
             · rw [if_pos ⟨e1, .inr e3⟩] at eC
               subst eC
               go_wp2
               go_ret
               exact ⟨rfl, hH⟩
             · have d7 : (bits .and .u8 a 32 == 0) = false := by simp [e3]
               rw [if_neg (by simp [e2, e3]), if_pos e2] at eC
               subst eC
               go_wp2
               go_ret
               exact ⟨rfl, hH⟩)
  · rw [if_neg (by simp [t1])] at eH
    subst t1
    go_upto_region 5 with (fail)
    rw [← eH] at h3
    clear g0 g1' g2 g3 g4 gz y1 y2 hH gl eH
    rcases (by omega : N = 0 ∨ N ≠ 0) with e1 | e1
    · have d4 : (N != 0) = false := by simp [e1]
      rw [if_neg (by simp [e1])] at eC
      rcases (by omega : n = 0 ∨ n ≠ 0) with e2 | e2
      · first
          | (exfalso; omega)
          | (have d5 : (n != 0) = false := by simp [e2]
             rw [if_neg (by simp [e2])] at eC
             subst eC
             go_wp2
             go_ret
             exact ⟨rfl, h3⟩)
      · first
          | (exfalso; omega)
          | (have d5 : (n != 0) = true := by simp [e2]
             rw [if_pos e2] at eC
             subst eC
             go_wp2
             go_ret
             exact ⟨rfl, h3⟩)
    · have d4 : (N != 0) = true := by simp [e1]
      rcases (by omega : n = 0 ∨ n ≠ 0) with e2 | e2
      · first
          | (exfalso; omega)
          | (have d5 : (n == 0) = true := by simp [e2]
             rw [if_pos ⟨e1, .inl e2⟩] at eC
             subst eC
             go_wp2
             go_ret
             exact ⟨rfl, h3⟩)
      · first
          | (exfalso; omega)
          | (have d5 : (n == 0) = false := by simp [e2]
             have d6 : (n != 0) = true := by simp [e2]
             by_cases e3 : bits .and .u8 a 32 = 0
             · rw [if_pos ⟨e1, .inr e3⟩] at eC
               subst eC
               go_wp2
               go_ret
               exact ⟨rfl, h3⟩
             · have d7 : (bits .and .u8 a 32 == 0) = false := by simp [e3]
               rw [if_neg (by simp [e2, e3]), if_pos e2] at eC
               subst eC
               go_wp2
               go_ret
               exact ⟨rfl, h3⟩)
  · rw [if_neg (by simp [t1])] at eH
    have d2 : (n != 0) = false := by simp [t1]
    cases f
    all_goals
      go_upto_region 5 with (fail)
      rw [← eH] at h3
      clear g0 g1' g2 g3 g4 gz y1 y2 hH gl eH d2
      rcases (by omega : N = 0 ∨ N ≠ 0) with e1 | e1
      · have d4 : (N != 0) = false := by simp [e1]
        rw [if_neg (by simp [e1])] at eC
        rcases (by omega : n = 0 ∨ n ≠ 0) with e2 | e2
        · first
            | (exfalso; omega)
            | (have d5 : (n != 0) = false := by simp [e2]
               rw [if_neg (by simp [e2])] at eC
               subst eC
               go_wp2
               go_ret
               exact ⟨rfl, h3⟩)
        · first
            | (exfalso; omega)
            | (have d5 : (n != 0) = true := by simp [e2]
               rw [if_pos e2] at eC
               subst eC
               go_wp2
               go_ret
               exact ⟨rfl, h3⟩)
      · have d4 : (N != 0) = true := by simp [e1]
        rcases (by omega : n = 0 ∨ n ≠ 0) with e2 | e2
        · first
            | (exfalso; omega)
            | (have d5 : (n == 0) = true := by simp [e2]
               rw [if_pos ⟨e1, .inl e2⟩] at eC
               subst eC
               go_wp2
               go_ret
               exact ⟨rfl, h3⟩)
        · first
            | (exfalso; omega)
            | (have d5 : (n == 0) = false := by simp [e2]
               have d6 : (n != 0) = true := by simp [e2]
               by_cases e3 : bits .and .u8 a 32 = 0
               · rw [if_pos ⟨e1, .inr e3⟩] at eC
                 subst eC
                 go_wp2
                 go_ret
                 exact ⟨rfl, h3⟩
               · have d7 : (bits .and .u8 a 32 == 0) = false := by simp [e3]
                 rw [if_neg (by simp [e2, e3]), if_pos e2] at eC
                 subst eC
                 go_wp2
                 go_ret
                 exact ⟨rfl, h3⟩)
  · rw [if_neg (by simp [t3])] at eH
    have d2 : (n != 0) = true := by simp [t2]
    have d3 : (x != 255) = false := by simp [t3]
    subst t1
    go_upto_region 5 with (fail)
    rw [← eH] at h3
    clear g0 g1' g2 g3 g4 gz y1 y2 hH gl eH d2 d3
    rcases (by omega : N = 0 ∨ N ≠ 0) with e1 | e1
    · have d4 : (N != 0) = false := by simp [e1]
      rw [if_neg (by simp [e1])] at eC
      rcases (by omega : n = 0 ∨ n ≠ 0) with e2 | e2
      · first
          | (exfalso; omega)
          | (have d5 : (n != 0) = false := by simp [e2]
             rw [if_neg (by simp [e2])] at eC
             subst eC
             go_wp2
             go_ret
             exact ⟨rfl, h3⟩)
      · first
          | (exfalso; omega)
          | (have d5 : (n != 0) = true := by simp [e2]
             rw [if_pos e2] at eC
             subst eC
             go_wp2
             go_ret
             exact ⟨rfl, h3⟩)
    · have d4 : (N != 0) = true := by simp [e1]
      rcases (by omega : n = 0 ∨ n ≠ 0) with e2 | e2
      · first
          | (exfalso; omega)
          | (have d5 : (n == 0) = true := by simp [e2]
             rw [if_pos ⟨e1, .inl e2⟩] at eC
             subst eC
             go_wp2
             go_ret
             exact ⟨rfl, h3⟩)
      · first
          | (exfalso; omega)
          | (have d5 : (n == 0) = false := by simp [e2]
             have d6 : (n != 0) = true := by simp [e2]
             by_cases e3 : bits .and .u8 a 32 = 0
             · rw [if_pos ⟨e1, .inr e3⟩] at eC
               subst eC
               go_wp2
               go_ret
               exact ⟨rfl, h3⟩
             · have d7 : (bits .and .u8 a 32 == 0) = false := by simp [e3]
               rw [if_neg (by simp [e2, e3]), if_pos e2] at eC
               subst eC
               go_wp2
               go_ret
               exact ⟨rfl, h3⟩)

end Go.Proofs.Ythldppdkheclkaa

/- The picture unit: the loop that picks sprites. No law is claimed here. -/
import Derived.Test.YthldppdkheclkaaPc15
set_option linter.unusedSimpArgs false
set_option linter.unusedVariables false
namespace Go.Proofs.Ythldppdkheclkaa
open Go.RowKit Go.Great

variable {w0 v0 v v' : World} {m : Nat} {A : Nat → Value} {c : PC}

set_option maxRecDepth 100000 in
set_option maxHeartbeats 4000000 in
theorem ST.pick_yes (h : ST w0 v0 m A c v) (hl : 0 ≤ c.line) (e0 : c.line < 240) (e1 : shw c 24 = true) :
    Calls Try.prog 59 #[.pointer (some ⟨m, 0, none⟩)] v fun e v' => e = .returned (.tuple #[]) ∧ ST w0 v0 m (pckA A c) (pckC A c) v' := by
  have eA : pckA A c = (selR A c 64).1 := if_pos ⟨e0, e1⟩
  have eC : pckC A c = { c with cnt := ((selR A c 64).2 : Int), over := c.over || selO A c 64 } := if_pos ⟨e0, e1⟩
  have FE : ∀ v', selO A c 64 = false → ST w0 v0 m (selR A c 64).1 { c with cnt := ((selR A c 64).2 : Int) } v' → ST w0 v0 m (pckA A c) (pckC A c) v' := fun v' ho hs => by
    rw [eA, eC, ho, Bool.or_false]; exact hs
  have FO : ∀ v' j, j < 64 → (selR A c j).2 = 8 → visS A c j = true → ST w0 v0 m (selR A c j).1 { c with cnt := ((selR A c j).2 : Int), over := true } v' → ST w0 v0 m (pckA A c) (pckC A c) v' := fun v' j hj h8 hv hs => by
    have a1 := selR_stay h8 (64 - j)
    have a2 := selO_stay (selO_full hv h8) (63 - j)
    rw [show j + (64 - j) = 64 by omega] at a1
    rw [show j + 1 + (63 - j) = 64 by omega] at a2
    rw [eA, eC, a1, a2, Bool.or_true]; exact hs
  clear eA eC
  have h1 := h.set_cnt 0
  have q0 := h.c_cnt
  have q1 := h1.c_line
  have z1 := h.fz 10578
  have FR := prenders_any h1.px
  rw [show shw { c with cnt := 0 } 24 = shw c 24 from rfl, e1] at FR
  change _ = some (Value.int IntKind.i64 c.line) at q1
  have hN : selR A c 0 = (A, 0) := rfl
  have TB0 := h.tb
  generalize pckA A c = A9 at *
  generalize pckC A c = c9 at *
  go_enter Try.func59, Try.ntmps59
  go_upto_region 3 with (go_at_call 57; refine FR.mono ?_; clear FR; rintro e w2 ⟨rfl, e9⟩; rw [e9]; clear e9 w2)
  clear q0 q1 z1
  generalize v.setCell ⟨m, 10578, none⟩ (.int .i64 0) = v1 at *
  go_loopw [2] (fun i wr => ∃ j p : Nat, i = .int .i64 p ∧ p = 4 * j ∧ j ≤ 64 ∧ selO A c j = false ∧ ST w0 v0 m (selR A c j).1 { c with cnt := ((selR A c j).2 : Int) } wr) (fun i _ => 256 - (intOf i).toNat)
  case atStart => exact ⟨0, 0, rfl, rfl, by omega, rfl, h1⟩
  case round =>
    clear h1 h
    obtain ⟨x1, rfl⟩ : ∃ x1, x1 = wr := ⟨wr, rfl⟩
    obtain ⟨j, p, rfl, ep, hj, ho, hS⟩ := hrel
    by_cases t1 : (p : Int) < 256
    · have hj2 : j < 64 := by omega
      have hV := selR_no (A := A) (c := c) (i := j)
      have hW := selO_no (A := A) (c := c) (i := j)
      have hY := selR_yes (A := A) (c := c) (i := j)
      have hX := selO_yes (A := A) (c := c) (i := j)
      have hF := fun v' => FO v' j hj2
      have hLe := selR_le A c j
      have eR := visR A c j
      obtain ⟨s1, b1⟩ := TB0.sp_is p (by omega)
      have s2 := selR_other A c j (10282 + p) (.inl (by omega))
      have e2 : visR A c j = c.line - spV A p := by rw [ep]; rfl
      have e3 : visS A c j = (decide (0 ≤ visR A c j) && decide (visR A c j < heiV c)) := rfl
      have FD := fun (u : World) (hu : ST w0 v0 m (selR A c j).1 { c with cnt := ((selR A c j).2 : Int) } u) (hr : 0 ≤ visR A c j ∧ visR A c j < heiV c) => hu.rdS p (visR A c j) (by omega) hr
      have k1 := selR_sp A c j (p + 1) (by omega)
      have k2 := selR_sp A c j (p + 2) (by omega)
      have k3 := selR_sp A c j (p + 3) (by omega)
      obtain ⟨d1, d2⟩ := rd_congr (A' := (selR A c j).1) c ((selR A c j).2 : Int) p (visR A c j) k1 k2 (selR_mem A c j)
      rw [k2, k3, d1, d2] at FD
      have l2 := (TB0.sp_is (p + 2) (by omega)).2
      have l3 := (TB0.sp_is (p + 3) (by omega)).2
      have l4 := rdL_b TB0 c p (visR A c j)
      have l5 := rdU_b TB0 c p (visR A c j)
      rw [← ep] at hY
      clear k1 k2 k3 d1 d2 FO FE eR
      have qs : x1.cell? ⟨m, 10282 + p, none⟩ = some (.int .u8 (spV A p)) := (hS.big (10282 + p) (.inr (.inl (by omega))) (by omega)).trans (congrArg some (s2.trans s1))
      have ql : x1.cell? ⟨m, 10582, none⟩ = some (.int .i64 c.line) := hS.c_line
      have qc : x1.cell? ⟨m, 10578, none⟩ = some (.int .i64 ((selR A c j).2 : Int)) := hS.c_cnt
      have z1 := hS.fz 10578
      have z2 := hS.fz 10581
      have qo : x1.cell? ⟨m, 10581, none⟩ = some (.bool c.over) := hS.c_over
      have FH := fun (u : World) (hu : ST w0 v0 m (selR A c j).1 { c with cnt := ((selR A c j).2 : Int) } u) => (pheight_any hu.px).mono fun _ _ h => And.intro h.1 h.2.symm
      rw [show heiV { c with cnt := ((selR A c j).2 : Int) } = heiV c from rfl] at FH
      have hH := heiV_is c
      have hO := fun (x : Bool) => hS.set_over x
      generalize hA1 : (selR A c j).1 = A1 at *
      generalize hn1 : (selR A c j).2 = n at *
      generalize visR A c j = R at *
      generalize spV A p = y at *
      clear s1 s2
      have w1 : IntKind.i64.wrap y = y := IntWalk.i64_in _ ⟨by omega, by omega⟩
      have w2 : IntKind.i64.wrap (c.line - y) = R := by rw [← e2]; exact IntWalk.i64_in _ ⟨by omega, by omega⟩
      have w4 : IntKind.i64.wrap ((n : Int) + 1) = ((n + 1 : Nat) : Int) := (IntWalk.i64_in _ ⟨by omega, by omega⟩).trans (by omega)
      have g0 : (0 : Int) ≤ p := by omega
      have ep4 : p + 4 = 4 * (j + 1) := by omega
      have bR : (R < 0 ∨ (0 ≤ R ∧ heiV c ≤ R) ∨ (0 ≤ R ∧ R < heiV c)) := by omega
      have hj3 : j + 1 ≤ 64 := by omega
      have hme : 256 - (p + 4) < 256 - p := by omega
      have w5 : IntKind.i64.wrap R = R := IntWalk.i64_in _ ⟨by omega, by omega⟩
      replace e2 := e2.symm
      clear ep hj hj2 b1 hH
      go_upto_region 5 with (fail)
      go_quiet (fail)
      rcases bR with r0 | ⟨r0, r1⟩ | ⟨r0, r1⟩
      · have e4 : visS A c j = false := by rw [e3, decide_eq_false (by omega)]; rfl
        replace hV := hV e4
        replace hW := (hW e4).trans ho
        clear hY hX hF e3 FD hO
        go_wp2
        go_roundw
        case rel => exact ⟨j + 1, p + 4, by go_num, ep4, hj3, hW, by rw [hV, hA1, hn1]; exact hS.drewN _⟩
        case measure => simp [intOf]; omega
      · have e4 : visS A c j = false := by rw [e3, decide_eq_false (fun k : R < heiV c => absurd r1 (by omega))]; simp
        replace hV := hV e4
        replace hW := (hW e4).trans ho
        clear hY hX hF e3 FD hO
        have r2 : ¬ R < 0 := by omega
        go_wp2_with (go_at_call 87; refine (FH _ (by first | exact hS | exact hS.drewN _)).mono ?_; clear FH; rintro e y2 ⟨rfl, rfl⟩)
        go_roundw
        case rel => exact ⟨j + 1, p + 4, by go_num, ep4, hj3, hW, by rw [hV, hA1, hn1]; exact hS.drewN _⟩
        case measure => simp [intOf]; omega
      · have e4 : visS A c j = true := by rw [e3, decide_eq_true r0, decide_eq_true r1]; rfl
        have r2 : ¬ R < 0 := by omega
        have r3 : ¬ heiV c ≤ R := by omega
        clear hV hW hO e3
        by_cases n8 : n = 8
        · clear hY hX FD
          replace hF := fun v' => hF v' n8 e4
          have n9 : ((n : Int) == 8) = true := by simp; omega
          clear n8
          go_wp2_with (go_at_call 87; refine (FH _ (by first | exact hS | exact hS.drewN _)).mono ?_; clear FH; rintro e y2 ⟨rfl, rfl⟩)
          (first | refine bodyPost_end (results_none rfl _ _ _) rfl ?_ | refine bodyPost_ret (results_none rfl _ _ _) rfl ?_)
          exact ⟨rfl, hF _ ((hS.drewN _).set_over true)⟩
        · have hn8 : n < 8 := by omega
          have n9 : ((n : Int) == 8) = false := by simp; omega
          have n10 : (n : Int) < 8 := by omega
          replace hY := hY e4 hn8
          replace hX := (hX hn8).trans ho
          unfold sprV at FD
          clear hF z2 qo hLe n8
          generalize spV A (p + 2) = p2 at *
          generalize spV A (p + 3) = p3 at *
          generalize rdL A c p R = L at *
          generalize rdU A c p R = U at *
          generalize hf : ((p : Int) == 0) = f at *
          go_upto_region 9 with (go_at_call 87; refine (FH _ (by first | exact hS | exact hS.drewN _)).mono ?_; clear FH; rintro e y2 ⟨rfl, rfl⟩)
          have hS2 := hS.drewN nq
          clear hS qs ql qc z1
          generalize x1.drewN nq = x2 at *
          have q2 : x2.cell? ⟨m, 10578, none⟩ = some (.int .i64 (n : Int)) := hS2.c_cnt
          have hm2 := hS2.lt
          have i0 : Big (10538 + n * 5) := .inr (.inl (by omega))
          have i1 : Big (10538 + n * 5 + 1) := .inr (.inl (by omega))
          have i2 : Big (10538 + n * 5 + 2) := .inr (.inl (by omega))
          have i3 : Big (10538 + n * 5 + 3) := .inr (.inl (by omega))
          have i4 : Big (10538 + n * 5 + 4) := .inr (.inl (by omega))
          go_region_held3 (fun x => m < x.heap.size ∧ x.cell? ⟨m, 10578, none⟩ = some (.int .i64 (n : Int))) (first | assumption | exact ⟨hm2, q2⟩ | exact ⟨Nat.lt_of_lt_of_le hm2 k2.size, (k2.cell hm2).trans q2⟩ | exact ⟨hP5.lt, hP5.c_cnt⟩) ((go_at_call 88; refine (FD _ (by first | exact hS2 | exact hS2.drew) ⟨r0, r1⟩).mono ?_; rintro e y2 ⟨rfl, k2⟩; replace k2 : Below x2.heap.size x2 y2 := (by first | exact k2 | exact (Below.refl _ _).drew.trans k2); have hS3 := hS2.past k2; have o0 := hS3.big (10538 + n * 5) i0 (by omega); have o1 := hS3.big (10538 + n * 5 + 1) i1 (by omega); have o2 := hS3.big (10538 + n * 5 + 2) i2 (by omega); have o3 := hS3.big (10538 + n * 5 + 3) i3 (by omega); have o4 := hS3.big (10538 + n * 5 + 4) i4 (by omega); have oz := hS3.fz; have hP5 := (hS2.past k2).put5 n hn8 f p2 p3 L U l2 l3 l4 l5))
          rename_i hHeld
          clear hHeld o0 o1 o2 o3 o4 oz hS3 hS2 k2 q2 hm2 FD i0 i1 i2 i3 i4
          generalize ((((y2.setCell ⟨m, 10538 + n * 5, none⟩ (.bool f)).setCell ⟨m, 10538 + n * 5 + 1, none⟩ (.int .u8 p2)).setCell ⟨m, 10538 + n * 5 + 2, none⟩ (.int .i64 p3)).setCell ⟨m, 10538 + n * 5 + 3, none⟩ (.int .u8 L)).setCell ⟨m, 10538 + n * 5 + 4, none⟩ (.int .u8 U) = x5 at *
          have q2 : x5.cell? ⟨m, 10578, none⟩ = some (.int .i64 (n : Int)) := hP5.c_cnt
          have z1 := hP5.fz 10578
          have hP6 := hP5.set_cnt ((n : Int) + 1)
          clear hP5
          replace w4 : IntKind.i64.wrap ((n : Int) + 1) = (n : Int) + 1 := w4.trans (by omega)
          have en : ((n + 1 : Nat) : Int) = (n : Int) + 1 := by omega
          go_wp2
          go_roundw
          case rel => exact ⟨j + 1, p + 4, by go_num, ep4, hj3, hX, by rw [hY]; show ST w0 v0 m _ { c with cnt := ((n + 1 : Nat) : Int) } _; rw [en]; exact hP6⟩
          case measure => simp [intOf]; omega
    · have e64 : j = 64 := by omega
      subst e64
      clear FO
      go_wp2
      (first | refine bodyPost_end (results_none rfl _ _ _) rfl ?_ | refine bodyPost_ret (results_none rfl _ _ _) rfl ?_)
      exact ⟨rfl, FE _ ho hS⟩

end Go.Proofs.Ythldppdkheclkaa

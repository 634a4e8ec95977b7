/- The contract of scroll.Merge. No law is claimed here. -/
import Derived.Test.YtkgccoghdalniaaMrgC
import Derived.Test.YtkgccoghdalniaaMrgC2
import Derived.Test.YtkgccoghdalniaaRdE
import Derived.Deep.RegionLaw
import Derived.IntWalk
namespace Go.Proofs.Ytkgccoghdalniaa
open Go.RowKit

def okP (x : Wm) : Prop := 0 ≤ x.pl ∧ x.pl < 4294967296 ∧ x.data.length ≤ 4096
theorem mstep_plain {out : List Wm} {y : Wm} (h : ∀ x ∈ out, okP x) (hy : okP y) : ∀ x ∈ mstep out y, okP x := by
  rcases List.eq_nil_or_concat out with rfl | ⟨o, x, rfl⟩
  · intro z hz; rw [mstep_nil] at hz; simp at hz; subst hz; exact hy
  · rw [List.concat_eq_append] at *
    rw [mstep_snoc]
    intro z hz
    split at hz
    · rename_i hj
      rcases List.mem_append.1 hz with hz | hz
      · exact h z (by simp [hz])
      · simp at hz; subst hz
        have := h x (by simp)
        exact ⟨this.1, this.2.1, by have := (joinB_true.1 hj).2.2; unfold joinW; simp only [List.length_append]; exact this⟩
    · rcases List.mem_append.1 hz with hz | hz
      · exact h z hz
      · simp at hz; subst hz; exact hy
theorem mgN_plain {ws : List Wm} (h : ∀ x ∈ ws, okP x) : ∀ x ∈ mgN ws, okP x := by
  have : ∀ (ws out : List Wm), (∀ x ∈ ws, okP x) → (∀ x ∈ out, okP x) → ∀ x ∈ ws.foldl mstep out, okP x := by
    intro ws
    induction ws with
    | nil => intro out _ h2; exact h2
    | cons y ws ih => intro out h1 h2; rw [List.foldl_cons]; exact ih _ (fun x hx => h1 x (by simp [hx])) (mstep_plain h2 (h1 y (by simp)))
  exact this ws [] h (fun x hx => by simp at hx)

theorem stR (w : World) : Still w w := ⟨0, rfl⟩
theorem stD {w v : World} (h : Still w v) : Still w v.drew := h.more 1
theorem stN {w v : World} {k : Nat} (h : Still w v) : Still w (v.drewN k) := h.more k

/-- step_appO, with what follows of it in one word -/
theorem step_appG {P : Program} {ops : Array Oper} {o : Oper} {a : Act} {K : Act → World → Prop} {Q : Exit → Act → World → Prop} {E : Prop} (w : World) (hgd : o.guard = none) (s x : Operand) (t : TypeId)
    (ho : o.op = .call { callee := .builtin .append, args := #[s, x], argTypes := #[t, t] }) (base : Nat) (e : TypeId) (i : TypeInfo) (z : Value) (bytes : Nat)
    (ht : P.underlying t = some (.slice e)) (hi : P.info? e = some i) (hz : i.zero = some z) (hsize : i.size = 1) (hby : i.bytes = bytes) (hzs : z.cells.size = 1)
    (A : Option Addr) (n c : Nat) (xs : List UInt8) (hs : a.eval s = .slice A n c) (A2 : Option Addr) (m c2 : Nat) (ys : List UInt8) (hx : a.eval x = .slice A2 m c2)
    (F : Option Addr → Nat → World → Prop) (B : Nat) (h63 : n + m ≤ maxLen) (hbytes : (n + m) * bytes ≤ 140737488355328)
    (hall : Own bv w base e A n c xs ∧ Rd bv w B A2 m c2 ys ∧ base ≤ w.heap.size ∧ ∀ A' c' w', Own bv w' base e A' (n + m) c' (xs ++ ys) → Below base w w' → w.grownBy w' (A.map (·.block)) → F A' c' w')
    (h : ∀ A' c' w', F A' c' w' → K (a.put o.dst (.slice A' (n + m) c')) w') :
    if Region.wanted o (yielded ops a.tmps) = true then Oper.wp P o a w K Q else E :=
  step_appO w hgd s x t ho base e i z bytes ht hi hz hsize hby hzs A n c xs hs A2 m c2 ys hx h63 hbytes hall.1 B hall.2.1 hall.2.2.1 (fun A' c' w' h1 h2 h3 => h A' c' w' (hall.2.2.2 A' c' w' h1 h2 h3))

/-- what Merge answers -/
def RetMg (w : World) (ws : List Wm) (e : Ending) (w' : World) : Prop :=
  ∃ A n c, e = .returned (.slice A n c) ∧ RdX (shW .u8 .u32) w' (fun b => w.heap.size ≤ b ∧ b < w'.heap.size) A n c (mgN ws) ∧ Below w.heap.size w w'

set_option maxRecDepth 100000 in
set_option maxHeartbeats 8000000 in
theorem merge_any (A : Option Addr) (n c : Nat) (S : Nat → Prop) (ws : List Wm) (w : World) (hr : RdX (shW .u8 .u32) w S A n c ws) (hS : ∀ b, S b → b < w.heap.size) (hn : n ≤ 1000) (hp : Hid (∀ x ∈ ws, okP x)) :
    Calls Try.prog 13 #[.slice A n c] w (RetMg w ws) := by
  have HL := Lib.hid hr.len
  obtain ⟨i0, hi, hz0, hz1, hz2⟩ := info_parts Try.infoWt
  obtain ⟨j0, hj, hy0, hy1, hy2⟩ := info_parts Try.infoU8
  go_enter Try.func13, Try.ntmps13
  go_wp2
  go_loopw [3, 9] (fun v i wr => ∃ (k : Nat) (A1 : Option Addr) (n1 c1 : Nat) (rs1 : List RawW) (B : Nat), k ≤ n ∧ n1 ≤ k ∧ i = .int .i64 k ∧ v = .slice A1 n1 c1 ∧ MG wr w.heap.size A1 n1 c1 rs1 (mgN (ws.take k)) B ∧ Below w.heap.size w wr)
    (fun _ i _ => n - (intOf i).toNat)
  case atStart => exact ⟨0, none, 0, 0, [], _, Nat.zero_le _, Nat.zero_le _, rfl, rfl, MG.empty _ _ (Nat.le_refl _), Below.refl _ _⟩
  case round =>
    obtain ⟨k, A1, n1, c1, rs1, B, hk, hnk, rfl, rfl, hmg, hb⟩ := hrel
    have hsz := hb.size
    by_cases hlt : k < n
    · have hkx : k < ws.length := by rw [HL.out]; exact hlt
      obtain ⟨b, off, A3, n3, c3, rfl, hSb, hc0, hc1, hc2, hrd⟩ := rdW_at (hr.keep (Kp.below hb hS) (fun _ h => h)) k hkx
      have hpx := hp.out ws[k] (List.getElem_mem hkx)
      have HT := Lib.hid (mgN_snoc ws k hkx)
      have HPL := Lib.hid (mgN_plain (ws := ws.take k) (fun x hx => hp.out x (List.mem_of_mem_take hx)))
      have hl3 := hrd.len
      have r3 := (hrd.rd (B := wr.heap.size) (fun b h => Nat.lt_of_lt_of_le (hS b h) hsz)).alloc (Nat.le_refl _) (.cells #[.int .u8 (ws[k].side.toNat : Int), .int .u32 ws[k].pl, .slice A3 n3 c3] 44)
      generalize hout : mgN (ws.take k) = out1 at *
      clear hout
      generalize ws[k] = x at *
      obtain ⟨xs, xa, xd⟩ := x
      unfold okP at hpx
      simp only at hc0 hc1 hpx hl3 r3
      clear hrd
      obtain ⟨hp0, hp1, hp2⟩ := hpx
      have hxs := xs.toNat_lt
      have hn3 : n3 ≤ 4096 := by omega
      have HL3 := Lib.hid hl3
      clear hl3 hp2
      go_upto_region 5 with fail
      have k0 : (wr.alloc (.cells #[.int .u8 (xs.toNat : Int), .int .u32 xa, .slice A3 n3 c3] 44)).cell? ⟨wr.heap.size, 0, none⟩ = some (.int .u8 (xs.toNat : Int)) := box_cell (Below.refl _ _) 0
      have k1 : (wr.alloc (.cells #[.int .u8 (xs.toNat : Int), .int .u32 xa, .slice A3 n3 c3] 44)).cell? ⟨wr.heap.size, 1, none⟩ = some (.int .u32 xa) := box_cell (Below.refl _ _) 1
      have k2 : (wr.alloc (.cells #[.int .u8 (xs.toNat : Int), .int .u32 xa, .slice A3 n3 c3] 44)).cell? ⟨wr.heap.size, 2, none⟩ = some (.slice A3 n3 c3) := box_cell (Below.refl _ _) 2
      have hsW : (wr.alloc (.cells #[.int .u8 (xs.toNat : Int), .int .u32 xa, .slice A3 n3 c3] 44)).heap.size = wr.heap.size + 1 := by simp
      have hbW : Below w.heap.size w (wr.alloc (.cells #[.int .u8 (xs.toNat : Int), .int .u32 xa, .slice A3 n3 c3] 44)) := hb.alloc hsz _
      have mgB := hmg.below ((Below.refl wr.heap.size wr).alloc (Nat.le_refl _) (.cells #[.int .u8 (xs.toNat : Int), .int .u32 xa, .slice A3 n3 c3] 44))
      clear hmg hb hc0 hc1 hc2
      generalize wr.alloc (.cells #[.int .u8 (xs.toNat : Int), .int .u32 xa, .slice A3 n3 c3] 44) = Wb at *
      have hL1 : wr.heap.size < Wb.heap.size := by omega
      generalize wr.heap.size = L at *
      have FC : ∀ v, BlE Wb v → Calls Try.prog 25 #[.agg #[.int .u8 (xs.toNat : Int), .int .u32 xa, .slice A3 n3 c3]] v (fun e w' => ∃ A' c', e = .returned (.agg #[.int .u8 (xs.toNat : Int), .int .u32 xa, .slice A' n3 c']) ∧ Own bv w' v.heap.size 5 A' n3 c' xd ∧ Below v.heap.size v w') := fun v hv =>
        wcopied_any xs xa A3 n3 c3 xd v ((r3.belowLe hv (by omega)).more (by have := Below.size hv; omega)) (by omega)
      have hpush : ∀ (q : Nat) (v w1 w6 : World) (A5 : Option Addr) (c5 : Nat), MG v w.heap.size A1 n1 c1 rs1 out1 B → BlE Wb v → Below v.heap.size v w1 → Below w.heap.size w w1 := fun _ v w1 _ _ _ _ hv h1 => (hbW.trans (Below.mono hv (by omega))).trans (h1.mono (by have := Below.size hv; omega))
      cases n1 with
      | zero =>
        have ho : out1 = [] := List.eq_nil_of_length_eq_zero mgB.len
        have hrs : rs1 = [] := List.eq_nil_of_length_eq_zero mgB.row.lenr
        subst ho; subst hrs
        go_upto_region 6 with fail
        go_quiet (fail)
        obtain ⟨v, hv⟩ : ∃ v, v = Wb.drewN nq := ⟨_, rfl⟩
        have mgv : MG v w.heap.size A1 0 c1 [] [] B := by rw [hv]; exact mgB.drewN
        have bv9 : BlE Wb v := by rw [hv]; exact BlE.drewN (BlE.refl _)
        have kv : v.cell? ⟨L, 0, none⟩ = some (.int .u8 (xs.toNat : Int)) ∧ v.cell? ⟨L, 1, none⟩ = some (.int .u32 xa) ∧ v.cell? ⟨L, 2, none⟩ = some (.slice A3 n3 c3) := by rw [hv]; exact ⟨k0, k1, k2⟩
        rw [← hv]
        obtain ⟨kv0, kv1, kv2⟩ := kv
        clear hv
        have FCv := FC v bv9
        have hvs := Below.size bv9
        go_wp2_with (first
          | (go_at_call 25; refine FCv.mono ?_; rintro e w1 ⟨A5, c5, rfl, o5, x5⟩; (have mg1 := mgv.below x5); (have z1 := x5.size))
          | (at_builtin
             refine wpList_push shR _ rfl (.tmp 40) (.tmp 43) 37 rfl w.heap.size 44 i0 _ 32 Try.underlying37 hi hz0 hz1 hz2 rfl (fun _ => False) A1 0 c1 [] [] rfl mg1.row _ _ _ _ _ ⟨xs, xa, A5, n3, c5⟩ ⟨xs, xa, A5, n3, c5⟩ rfl rfl rfl rfl (fun b h => h.elim) (by simp only [maxLen]; omega) (by omega) (by omega) ?_
             intro g6 c6 w6 hown6 hg6 hat6 hlt6))
        have mg6 := MG.pushed (x := ⟨xs, xa, xd⟩) mgv x5 hown6 hg6 (hat6.imp id (fun h => by omega)) rfl rfl o5
        have bl6 := (hpush 0 v w1 w6 A5 c5 mgv bv9 x5).grown hg6 (by omega) (fun q hq => (mg1.row.lt q hq).1)
        go_roundw
        case rel => exact ⟨k + 1, _, 0 + 1, c6, _, _, by omega, by omega, by go_num, rfl, by rw [HT.out]; exact mg6, bl6⟩
        case measure => simp [intOf]; omega
      | succ m =>
        obtain ⟨g, A7, n7, c7, y, rfl, hg1, hg2, hy, hry, d0, d1, d2, o7, hn7, hfz⟩ := mgB.end_
        have hpy := HPL.out y (List.mem_of_getElem? hy)
        obtain ⟨ys, ya, yd⟩ := y
        unfold okP at hpy
        simp only at hpy hry d0 d1 d2 o7 hn7
        obtain ⟨hq0, hq1, hq2⟩ := hpy
        have hn7' : n7 ≤ 4096 := by omega
        have HN7 := Lib.hid hn7
        clear hn7 hq2
        have hys := ys.toNat_lt
        have hm1 : (m : Int) < (m : Int) + 1 := by omega
        have hm0 : (0 : Int) < (m : Int) + 1 := by omega
        have e1 : IntKind.i64.wrap (m : Int) = (m : Int) := IntWalk.i64_in _ (by omega)
        have hgL : g < Wb.heap.size := hg2
        have keep6 : ∀ v, BlE Wb v → (v.cell? ⟨g, m * 3, none⟩ = some (.int .u8 (ys.toNat : Int)) ∧ v.cell? ⟨g, m * 3 + 1, none⟩ = some (.int .u32 ya) ∧ v.cell? ⟨g, m * 3 + 2, none⟩ = some (.slice A7 n7 c7) ∧ v.cell? ⟨L, 0, none⟩ = some (.int .u8 (xs.toNat : Int)) ∧ v.cell? ⟨L, 1, none⟩ = some (.int .u32 xa) ∧ v.cell? ⟨L, 2, none⟩ = some (.slice A3 n3 c3)) := fun v hv =>
          ⟨(Below.cell (p := ⟨g, m * 3, none⟩) hv hgL).trans d0, (Below.cell (p := ⟨g, m * 3 + 1, none⟩) hv hgL).trans d1, (Below.cell (p := ⟨g, m * 3 + 2, none⟩) hv hgL).trans d2, (Below.cell (p := ⟨L, 0, none⟩) hv hL1).trans k0, (Below.cell (p := ⟨L, 1, none⟩) hv hL1).trans k1, (Below.cell (p := ⟨L, 2, none⟩) hv hL1).trans k2⟩
        have FJ0 : ∀ v, BlE Wb v → Calls Try.prog 24 #[.agg #[.int .u8 (ys.toNat : Int), .int .u32 ya, .slice A7 n7 c7], .agg #[.int .u8 (xs.toNat : Int), .int .u32 xa, .slice A3 n3 c3]] v (fun e w' => e = .returned (.bool (joinB ⟨ys, ya, yd⟩ ⟨xs, xa, xd⟩)) ∧ BlE Wb w') := fun v hv =>
          (wjoins_any ys xs ya xa A7 n7 c7 A3 n3 c3 v hq0 hq1 (by omega) hp0 hp1 (by omega)).mono fun e w' h => ⟨by
            have e9 : joinB ⟨ys, ya, yd⟩ ⟨xs, xa, xd⟩ = (decide (ys = xs) && decide (ya + (n7 : Int) = xa) && decide (n7 + n3 ≤ 4096)) := by
              unfold joinB; simp only; rw [HN7.out, HL3.out]
            rw [e9]; exact h.1, BlE.below hv h.2⟩
        by_cases hj9 : joinB ⟨ys, ya, yd⟩ ⟨xs, xa, xd⟩ = true
        · have HM := Lib.hid (mstep_yes mgB.len hy hj9)
          rw [hj9] at FJ0
          clear hj9
          go_upto_region 6 with fail
          have Q : ∀ n', Calls Try.prog 24 #[.agg #[.int .u8 (ys.toNat : Int), .int .u32 ya, .slice A7 n7 c7], .agg #[.int .u8 (xs.toNat : Int), .int .u32 xa, .slice A3 n3 c3]] (mP Wb n') (fun e w' => e = .returned (.bool true) ∧ ∃ m, w' = mP Wb m) := fun n' =>
            (FJ0 _ (mP_below Wb n')).mono fun e w' h => ⟨h.1, mP_of h.2⟩
          have q0 : ∀ n', (mP Wb n').cell? ⟨g, m * 3, none⟩ = some (.int .u8 (ys.toNat : Int)) := fun n' => mP_cell hgL d0 n'
          have q1 : ∀ n', (mP Wb n').cell? ⟨g, m * 3 + 1, none⟩ = some (.int .u32 ya) := fun n' => mP_cell hgL d1 n'
          have q2 : ∀ n', (mP Wb n').cell? ⟨g, m * 3 + 2, none⟩ = some (.slice A7 n7 c7) := fun n' => mP_cell hgL d2 n'
          have q3 : ∀ n', (mP Wb n').cell? ⟨L, 0, none⟩ = some (.int .u8 (xs.toNat : Int)) := fun n' => mP_cell hL1 k0 n'
          have q4 : ∀ n', (mP Wb n').cell? ⟨L, 1, none⟩ = some (.int .u32 xa) := fun n' => mP_cell hL1 k1 n'
          have q5 : ∀ n', (mP Wb n').cell? ⟨L, 2, none⟩ = some (.slice A3 n3 c3) := fun n' => mP_cell hL1 k2 n'
          refine wp_region_more (by kernel_rfl) (by kernel_rfl) ?_
          repeat (go_big_quiet_step (first | (go_at_call 24; exact Q _)))
          refine wpQuiet_nil ?_
          intro w9 hw'
          have hb9 : BlE Wb w9 := by obtain ⟨nq, rfl⟩ := hw'; exact mP_below Wb nq
          clear hw' q0 q1 q2 q3 q4 q5 Q
          all_goals
            have mg9 := mgB.below hb9
            have z9 := Below.size hb9
            obtain ⟨D0, D1, D2, K0, K1, K2⟩ := keep6 w9 hb9
            have o9 := o7.below (Below.mono hb9 (Nat.le_refl _))
            have r9 := r3.belowLe hb9 (by omega : L ≤ Wb.heap.size)
            have bl9 : Below w.heap.size w w9 := hbW.trans (Below.mono hb9 (by omega))
            have hlo := mg9.lo
            have hhi := mg9.hi
            have hfz9 : ∀ i, w9.frozen? ⟨g, i, none⟩ = false := fun i => mg9.row.own.frozenAt i
            obtain ⟨F0, hF0⟩ : ∃ F0 : Option Addr → Nat → World → Prop, F0 = fun A' c' w' => w'.cell? ⟨g, m * 3 + 2, none⟩ = some (.slice A7 n7 c7) ∧ (∀ i, w'.frozen? ⟨g, i, none⟩ = false) ∧
              Hid (MG (w'.setCell ⟨g, m * 3 + 2, none⟩ (.slice A' (n7 + n3) c')) w.heap.size (some ⟨g, 0, none⟩) (m + 1) c1 (rs1.set m ⟨ys, ya, A', n7 + n3, c'⟩) (out1.set m ⟨ys, ya, yd ++ xd⟩) B ∧ Below w.heap.size w (w'.setCell ⟨g, m * 3 + 2, none⟩ (.slice A' (n7 + n3) c'))) := ⟨_, rfl⟩
            have FM : ∀ v, Still w9 v → (Own bv v B 5 A7 n7 c7 yd ∧ Rd bv v L A3 n3 c3 xd ∧ B ≤ v.heap.size ∧ ∀ A' c' w', Own bv w' B 5 A' (n7 + n3) c' (yd ++ xd) → Below B v w' → v.grownBy w' (A7.map (·.block)) → F0 A' c' w') := by
              rintro v ⟨q, rfl⟩
              refine ⟨o9.drewN q, r9.drewN q, hhi, fun A' c' w' h1 h2 h3 => ?_⟩
              rw [hF0]
              have hm := MG.mid (mg9.drewN (k := q)) (o9.drewN q) D2 h3
              exact ⟨hm.1, hm.2, ⟨MG.joined (x := ⟨ys, ya, yd⟩) (mg9.drewN (k := q)) hry (o9.drewN q) h1 h2 h3, Below.setCell (((bl9.trans (Still.below ⟨q, rfl⟩ _))).trans (h2.mono hlo)) hg1 _⟩⟩
            clear mg9 o9 r9 hlo hhi d0 d1 d2 k0 k1 k2 hfz
            go_upto_region 7 with fail
            go_region_law (first | (refine step_appG _ rfl (.tmp 34) (.tmp 36) 23 rfl B 5 j0 _ 1 Try.underlying23 hj hy0 hy1 hy2 rfl A7 n7 c7 yd rfl A3 n3 c3 xd rfl F0 L ?_ ?_ ?_ ?_; (focus (simp only [maxLen]; omega)); (focus omega); (focus (refine FM _ ?_; (repeat (with_reducible first | exact stR _ | refine stD ?_ | refine stN ?_)); done)); (intro A5 c5 w5 h5); (rw [hF0] at h5); (obtain ⟨X2, hz5, H5⟩ := h5)))
            all_goals
              go_wp2
              go_roundw
              case rel => exact ⟨k + 1, _, m + 1, c1, _, B, by omega, by omega, by go_num, rfl, by rw [HT.out, HM.out]; exact H5.out.1, H5.out.2⟩
              case measure => simp [intOf]; omega
        · have hj9' : joinB ⟨ys, ya, yd⟩ ⟨xs, xa, xd⟩ = false := by simpa using hj9
          have HM := Lib.hid (mstep_no mgB.len hy hj9')
          rw [hj9'] at FJ0
          clear hj9 hj9'
          go_upto_region 6 with fail
          have Q : ∀ n', Calls Try.prog 24 #[.agg #[.int .u8 (ys.toNat : Int), .int .u32 ya, .slice A7 n7 c7], .agg #[.int .u8 (xs.toNat : Int), .int .u32 xa, .slice A3 n3 c3]] (mP Wb n') (fun e w' => e = .returned (.bool false) ∧ ∃ m, w' = mP Wb m) := fun n' =>
            (FJ0 _ (mP_below Wb n')).mono fun e w' h => ⟨h.1, mP_of h.2⟩
          have q0 : ∀ n', (mP Wb n').cell? ⟨g, m * 3, none⟩ = some (.int .u8 (ys.toNat : Int)) := fun n' => mP_cell hgL d0 n'
          have q1 : ∀ n', (mP Wb n').cell? ⟨g, m * 3 + 1, none⟩ = some (.int .u32 ya) := fun n' => mP_cell hgL d1 n'
          have q2 : ∀ n', (mP Wb n').cell? ⟨g, m * 3 + 2, none⟩ = some (.slice A7 n7 c7) := fun n' => mP_cell hgL d2 n'
          have q3 : ∀ n', (mP Wb n').cell? ⟨L, 0, none⟩ = some (.int .u8 (xs.toNat : Int)) := fun n' => mP_cell hL1 k0 n'
          have q4 : ∀ n', (mP Wb n').cell? ⟨L, 1, none⟩ = some (.int .u32 xa) := fun n' => mP_cell hL1 k1 n'
          have q5 : ∀ n', (mP Wb n').cell? ⟨L, 2, none⟩ = some (.slice A3 n3 c3) := fun n' => mP_cell hL1 k2 n'
          refine wp_region_more (by kernel_rfl) (by kernel_rfl) ?_
          repeat (go_big_quiet_step (first | (go_at_call 24; exact Q _)))
          refine wpQuiet_nil ?_
          intro w9 hw'
          have hb9 : BlE Wb w9 := by obtain ⟨nq, rfl⟩ := hw'; exact mP_below Wb nq
          clear hw' q0 q1 q2 q3 q4 q5 Q
          all_goals
            have mg9 := mgB.below hb9
            have z9 := Below.size hb9
            obtain ⟨D0, D1, D2, K0, K1, K2⟩ := keep6 w9 hb9
            have FCv := FC w9 hb9
            clear d0 d1 d2 k0 k1 k2 hfz
            go_wp2_with (first
              | (go_at_call 25; refine FCv.mono ?_; rintro e w1 ⟨A5, c5, rfl, o5, x5⟩; (have mg1 := mg9.below x5); (have z1 := x5.size))
              | (at_builtin
                 refine wpList_push shR _ rfl (.tmp 40) (.tmp 43) 37 rfl w.heap.size 44 i0 _ 32 Try.underlying37 hi hz0 hz1 hz2 rfl (fun _ => False) (some ⟨g, 0, none⟩) (m + 1) c1 rs1 rs1 rfl mg1.row _ _ _ _ _ ⟨xs, xa, A5, n3, c5⟩ ⟨xs, xa, A5, n3, c5⟩ rfl rfl rfl rfl (fun b h => h.elim) (by simp only [maxLen]; omega) (by omega) (by omega) ?_
                 intro g6 c6 w6 hown6 hg6 hat6 hlt6))
            have mg6 := MG.pushed (x := ⟨xs, xa, xd⟩) mg9 x5 hown6 hg6 (hat6.imp id (fun h => by omega)) rfl rfl o5
            have bl6 := (hpush 0 w9 w1 w6 A5 c5 mg9 hb9 x5).grown hg6 (by omega) (fun q hq => (mg1.row.lt q hq).1)
            go_roundw
            case rel => exact ⟨k + 1, _, m + 1 + 1, c6, _, _, by omega, by omega, by go_num, rfl, by rw [HT.out, HM.out]; exact mg6, bl6⟩
            case measure => simp [intOf]; omega
    · go_wp2
      go_ret
      have := hmg.rd
      rw [List.take_of_length_le (l := ws) (by rw [HL.out]; omega)] at this
      exact ⟨_, _, _, rfl, this, hb⟩

end Go.Proofs.Ytkgccoghdalniaa

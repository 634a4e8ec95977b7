/- like, of layer 11 (walk). No law is claimed here. -/
import Derived.Test.YtgnafnjhbdefaaaDoorTr15
import Derived.Test.YtgnafnjhbdefaaaDoorMoreQ
set_option linter.unusedSimpArgs false
set_option linter.unusedVariables false
namespace Go.Proofs.YtgnafnjhbdefaaaDoor
open Go.RowKit Go.Great

theorem out_b {s : TS} (ok : TOk s) : 0 ≤ outT s ∧ outT s < 256 := by
  have h1 := ok.ctl
  have h2 := ok.lev
  have h3 := ok.stp
  unfold outT volT
  (repeat' split) <;> omega

set_option maxRecDepth 100000 in
set_option maxHeartbeats 2000000 in
theorem like11_any {w0 v : World} {m : Nat} {s : TS} {x : RT} (h : BW w0 m s x.row x.cr (rwl s) v) (hR : Rl s x) :
    Calls Tryd.prog 15 #[.pointer (some ⟨m, 0, none⟩), rtv x] v fun e v' => e = .returned (.bool true) ∧ Below v.heap.size v v' := by
  have ok := h.ok
  have FO := fun (u : World) (hu : BW w0 m s x.row x.cr (rwl s) u) => rs_out hu hR ok
  have hO := out_b ok
  obtain ⟨W, hW, hB, hL⟩ := box1 v x
  have hbw : BW w0 m s x.row x.cr (rwl s) (rT W v.heap.size x) := h.past (rowT_below hB _ (Nat.le_refl _) _ _)
  have hBv : Below v.heap.size v (rT W v.heap.size x) := rowT_below hB _ (Nat.le_refl _) _ _
  have FT := fun (n : MQ) => (hbw.past (mP_below _ n)).out
  have FL := fun (n : MQ) => (hbw.past (mP_below _ n)).live
  replace FO := fun (n : MQ) => FO _ (hbw.past (mP_below _ n))
  have hlt : v.heap.size < (rT W v.heap.size x).heap.size := by unfold rT; rw [rowT_size]; exact hL
  obtain ⟨c0, c1, c2, c3, c4, c5, c6, c7, c8, c9, c10, c11, c12, c13, c14, c15, c16, fz⟩ := rT_cf W v.heap.size x hL
  rw [hR.len] at c6
  generalize outT s = O at *
  have e1 : IntKind.i64.wrap O = O := IntWalk.i64_in _ ⟨by omega, by omega⟩
  go_enter Tryd.func15, Tryd.ntmps15
  first | refine wp_region_lit ?_ | (refine wp_seq ?_; refine wp_region_lit ?_)
  refine wpList_boxTo rfl 29 _ rfl (some 3) rfl v.heap.size rfl x.cells.toArray rfl ?_
  rw [hW]
  unfold rtv RT.cells at FO
  rw [hR.len] at FO
  generalize rT W v.heap.size x = U at *
  clear hW hB hL
  have x0 : ∀ n, (mP U n).cell? ⟨v.heap.size, 0, none⟩ = some (.int .i64 x.kind) := fun n => mP_cell hlt c0 n
  have x1 : ∀ n, (mP U n).cell? ⟨v.heap.size, 1, none⟩ = some (.bool x.on) := fun n => mP_cell hlt c1 n
  have x2 : ∀ n, (mP U n).cell? ⟨v.heap.size, 2, none⟩ = some (.int .i64 x.r0) := fun n => mP_cell hlt c2 n
  have x3 : ∀ n, (mP U n).cell? ⟨v.heap.size, 3, none⟩ = some (.int .i64 x.r1) := fun n => mP_cell hlt c3 n
  have x4 : ∀ n, (mP U n).cell? ⟨v.heap.size, 4, none⟩ = some (.int .i64 x.r2) := fun n => mP_cell hlt c4 n
  have x5 : ∀ n, (mP U n).cell? ⟨v.heap.size, 5, none⟩ = some (.int .i64 x.r3) := fun n => mP_cell hlt c5 n
  have x6 : ∀ n, (mP U n).cell? ⟨v.heap.size, 6, none⟩ = some (.int .i64 s.len) := fun n => mP_cell hlt c6 n
  have x7 : ∀ n, (mP U n).cell? ⟨v.heap.size, 7, none⟩ = some (.int .i64 x.tim) := fun n => mP_cell hlt c7 n
  have x8 : ∀ n, (mP U n).cell? ⟨v.heap.size, 8, none⟩ = some (.int .i64 x.per) := fun n => mP_cell hlt c8 n
  have x9 : ∀ n, (mP U n).cell? ⟨v.heap.size, 9, none⟩ = some (.int .i64 x.stp) := fun n => mP_cell hlt c9 n
  have x10 : ∀ n, (mP U n).cell? ⟨v.heap.size, 10, none⟩ = some (.bool x.anew) := fun n => mP_cell hlt c10 n
  have x11 : ∀ n, (mP U n).cell? ⟨v.heap.size, 11, none⟩ = some (.bool x.swept) := fun n => mP_cell hlt c11 n
  have x12 : ∀ n, (mP U n).cell? ⟨v.heap.size, 12, none⟩ = some (.int .i64 x.lev) := fun n => mP_cell hlt c12 n
  have x13 : ∀ n, (mP U n).cell? ⟨v.heap.size, 13, none⟩ = some (.int .i64 x.cnt) := fun n => mP_cell hlt c13 n
  have x14 : ∀ n, (mP U n).cell? ⟨v.heap.size, 14, none⟩ = some (.int .i64 x.lin) := fun n => mP_cell hlt c14 n
  have x15 : ∀ n, (mP U n).cell? ⟨v.heap.size, 15, none⟩ = some (.int .i64 x.swp) := fun n => mP_cell hlt c15 n
  have x16 : ∀ n, (mP U n).cell? ⟨v.heap.size, 16, none⟩ = some (.slice x.row x.nr x.cr) := fun n => mP_cell hlt c16 n
  have QO := fun n => Calls.more_q ((FO n).mono fun _ _ hh => ⟨hh.1, hh.2⟩)
  have QT := fun n => Calls.more_q (w := U) (n := n) ((FT n).mono fun _ _ hh => ⟨hh.1, by obtain ⟨q, e⟩ := hh.2; rw [e]; exact still_below _ _ _⟩)
  have QL := fun n => Calls.more_q (w := U) (n := n) ((FL n).mono fun _ _ hh => ⟨hh.1, by rw [hh.2]; exact Below.refl _ _⟩)
  clear FO FT FL hbw h hR c0 c1 c2 c3 c4 c5 c6 c7 c8 c9 c10 c11 c12 c13 c14 c15 c16 fz
  go_upto_region 1 with (fail)
  refine wp_region_more (by kernel_rfl) (by kernel_rfl) ?_
  repeat (go_big_quiet_step (first | (go_at_call 34; exact QO _) | (go_at_call 29; exact QT _) | (go_at_call 25; exact QL _)))
  refine wpQuiet_nil ?_
  intro w9 hw
  obtain ⟨nq, rfl⟩ := hw
  have hB3 := hBv.trans ((mP_below U nq).mono hBv.size)
  go_wp2
  go_ret
  exact ⟨rfl, hB3⟩

end Go.Proofs.YtgnafnjhbdefaaaDoor

/- Acts of layer 14: their shape; like (walk). No law is claimed here. -/
import Derived.Test.YtdbfdhfdfjdnoaaFrameX
import Derived.Test.YtdbfdhfdfjdnoaaLy11
namespace Go.Proofs.Ytdbfdhfdfjdnoaa
open Go.ChangeShapes Go.WideShapes Go.ChangeAt Go.RowKit Go.Deep Go.Joins

/-- an act: what to do, a byte -/
def shA2 : Shape (Int × Int) (Int × Int) where
  k := 2
  raw y := [.int .u8 y.1, .int .u8 y.2]
  Ok _ _ r y := r = y
  pos := by omega
  len _ := rfl
  one r u h := by simp at h; rcases h with rfl | rfl <;> rfl
  keep h _ _ := h
def okA2 (y : Int × Int) : Prop := (0 ≤ y.1 ∧ y.1 < 256) ∧ (0 ≤ y.2 ∧ y.2 < 256)
theorem rdA2_at {w : World} {S : Nat → Prop} {A : Option Addr} {n c : Nat} {l : List (Int × Int)} (h : RdX shA2 w S A n c l) (j : Nat) (hj : j < l.length) :
    ∃ b off, A = some ⟨b, off, none⟩ ∧ S b ∧ w.cell? ⟨b, off + j * 2, none⟩ = some (.int .u8 l[j].1) ∧ w.cell? ⟨b, off + j * 2 + 1, none⟩ = some (.int .u8 l[j].2) := by
  obtain ⟨b, off, e, hb, r, hc, ho⟩ := h.at_ j hj
  have ho' : r = l[j] := ho
  subst ho'
  exact ⟨b, off, e, hb, hc 0 _ rfl, hc 1 _ rfl⟩

set_option maxRecDepth 100000 in
set_option maxHeartbeats 400000 in
theorem open_act14 {H : Type} {enc : TypeId × Value → H} {W : World} (fuel : Nat) (cs : List Value) (x : DataW H × List MemPlace) (h : DataW.trod enc Try.prog W 0 (fun _ => true) true fuel 33 cs = some x) :
    ∃ (r : Int × Int) (y : Int × Int), cs = shA2.raw r ∧ shA2.Ok W (· < W.heap.size) r y ∧ okA2 y := by
  obtain ⟨ys, n, _, _, hlen, hyl, hf⟩ := DataW.trod_struct Try.underlying33 h
  have c1 : Try.prog.cellsOf 5 = 1 := by kernel_rfl
  have c4 : Try.prog.cellsOf 33 = 2 := by kernel_rfl
  rw [c4] at hlen
  have h0 := hf 0 _ rfl
  have h1 := hf 1 _ rfl
  have hyl' : ys.length = 2 := hyl
  match cs, hlen, ys, hyl' with
  | [v0, v1], _, [y0, y1], _ =>
    have e0 : DataW.trod enc Try.prog W 0 (fun _ => true) true n 5 [v0] = some y0 := by simpa [c1] using h0
    have e1 : DataW.trod enc Try.prog W 0 (fun _ => true) true n 5 [v1] = some y1 := by simpa [c1] using h1
    obtain ⟨z0, q0, _, w0⟩ := DataW.trod_int Try.underlying5 e0
    obtain ⟨z1, q1, _, w1⟩ := DataW.trod_int Try.underlying5 e1
    simp at q0 q1
    subst q0; subst q1
    have b0 := bounds_u8 w0
    have b1 := bounds_u8 w1
    exact ⟨(z0, z1), (z0, z1), rfl, rfl, ⟨by omega, by omega⟩, ⟨by omega, by omega⟩⟩

set_option maxRecDepth 100000 in
set_option maxHeartbeats 400000 in
theorem rd_acts14 {H : Type} {enc : TypeId × Value → H} {W : World} {a : Option Addr} {n c : Nat} {d : DataW H} {p : List MemPlace} (h : DataW.Trod enc Try.prog W 0 (fun _ => true) true 25 (.slice a n c) d p) :
    ∃ l : List (Int × Int), RdX shA2 W (· < W.heap.size) a n c l ∧ c ≤ maxLen ∧ ∀ y ∈ l, okA2 y := by
  obtain ⟨fuel, hf⟩ := h
  obtain ⟨a', n', c', xs, e, hr, hm, hq⟩ := openX shA2 okA2 Try.underlying25 (by kernel_rfl) open_act14 hf
  simp [Value.cells] at e
  obtain ⟨rfl, rfl, rfl⟩ := e
  exact ⟨xs, hr, hm, hq⟩

set_option maxRecDepth 100000 in
set_option maxHeartbeats 2000000 in
theorem like14_any (X : XS) (w : World) (h : XF X) :
    Calls Try.prog 29 #[ls (lsX X), xs X] w fun e w' => e = .returned (.bool true) ∧ Below w.heap.size w w' := by
  have FP := fun w => rbits_p X.p w h.p
  have FQ := fun w => rbits_p X.q w h.q
  have hp := h.p.is.1
  have hq := h.q.is.1
  have hx := h.x
  obtain ⟨⟨c, l, a, d, r⟩, ⟨c', l', a', d', r'⟩, x, wr⟩ := X
  unfold pv at FP FQ
  unfold lsX ls lv xs xv
  simp only at hp hq hx FP FQ ⊢
  generalize (⟨c, l, a, d, r⟩ : PL).n = V at *
  generalize (⟨c', l', a', d', r'⟩ : PL).n = T at *
  have e1 : IntKind.i64.wrap V = V := IntWalk.i64_in _ ⟨by omega, by omega⟩
  have e2 : IntKind.i64.wrap T = T := IntWalk.i64_in _ ⟨by omega, by omega⟩
  have e3 : IntKind.i64.wrap x = x := IntWalk.i64_in _ ⟨by omega, by omega⟩
  clear h
  go_enter Try.func29, Try.ntmps29
  go_upto_region 1 with (fail)
  have hb : B4 _ _ ⟨V, T, x, wr⟩ := (B4.made w ⟨V, T, x, wr⟩ 24).ext ((Ext.refl _).alloc (.cells #[.int .i64 c, .int .i64 l, .int .i64 a, .int .i64 d, .int .i64 r, .int .i64 c', .int .i64 l', .int .i64 a', .int .i64 d', .int .i64 r', .int .i64 x, .bool wr] 30))
  have hx2 := B12.made (w.alloc (.cells #[.int .u16 V, .int .u16 T, .int .u8 x, .bool wr] 24)) ⟨c, l, a, d, r⟩ ⟨c', l', a', d', r'⟩ x wr 30
  have hsz : (w.alloc (.cells #[.int .u16 V, .int .u16 T, .int .u8 x, .bool wr] 24)).heap.size = w.heap.size + 1 := by simp
  have hE : Ext w ((w.alloc (.cells #[.int .u16 V, .int .u16 T, .int .u8 x, .bool wr] 24)).alloc (.cells #[.int .i64 c, .int .i64 l, .int .i64 a, .int .i64 d, .int .i64 r, .int .i64 c', .int .i64 l', .int .i64 a', .int .i64 d', .int .i64 r', .int .i64 x, .bool wr] 30)) := ((Ext.refl w).alloc _).alloc _
  rw [hsz] at hx2
  simp only at hb hx2
  generalize (w.alloc (.cells #[.int .u16 V, .int .u16 T, .int .u8 x, .bool wr] 24)).alloc (.cells #[.int .i64 c, .int .i64 l, .int .i64 a, .int .i64 d, .int .i64 r, .int .i64 c', .int .i64 l', .int .i64 a', .int .i64 d', .int .i64 r', .int .i64 x, .bool wr] 30) = W at *
  have q0 : ∀ n, (mP W n).cell? ⟨w.heap.size, 0, none⟩ = some (.int .u16 V) := fun n => mP_cell hb.lt hb.c0 n
  have q1 : ∀ n, (mP W n).cell? ⟨w.heap.size, 1, none⟩ = some (.int .u16 T) := fun n => mP_cell hb.lt hb.c1 n
  have q2 : ∀ n, (mP W n).cell? ⟨w.heap.size, 2, none⟩ = some (.int .u8 x) := fun n => mP_cell hb.lt hb.c2 n
  have q3 : ∀ n, (mP W n).cell? ⟨w.heap.size, 3, none⟩ = some (.bool wr) := fun n => mP_cell hb.lt hb.c3 n
  have x0 : ∀ n, (mP W n).cell? ⟨w.heap.size + 1, 0, none⟩ = some (.int .i64 c) := fun n => mP_cell hx2.lt hx2.c0 n
  have x1 : ∀ n, (mP W n).cell? ⟨w.heap.size + 1, 1, none⟩ = some (.int .i64 l) := fun n => mP_cell hx2.lt hx2.c1 n
  have x2 : ∀ n, (mP W n).cell? ⟨w.heap.size + 1, 2, none⟩ = some (.int .i64 a) := fun n => mP_cell hx2.lt hx2.c2 n
  have x3 : ∀ n, (mP W n).cell? ⟨w.heap.size + 1, 3, none⟩ = some (.int .i64 d) := fun n => mP_cell hx2.lt hx2.c3 n
  have x4 : ∀ n, (mP W n).cell? ⟨w.heap.size + 1, 4, none⟩ = some (.int .i64 r) := fun n => mP_cell hx2.lt hx2.c4 n
  have x5 : ∀ n, (mP W n).cell? ⟨w.heap.size + 1, 5, none⟩ = some (.int .i64 c') := fun n => mP_cell hx2.lt hx2.c5 n
  have x6 : ∀ n, (mP W n).cell? ⟨w.heap.size + 1, 6, none⟩ = some (.int .i64 l') := fun n => mP_cell hx2.lt hx2.c6 n
  have x7 : ∀ n, (mP W n).cell? ⟨w.heap.size + 1, 7, none⟩ = some (.int .i64 a') := fun n => mP_cell hx2.lt hx2.c7 n
  have x8 : ∀ n, (mP W n).cell? ⟨w.heap.size + 1, 8, none⟩ = some (.int .i64 d') := fun n => mP_cell hx2.lt hx2.c8 n
  have x9 : ∀ n, (mP W n).cell? ⟨w.heap.size + 1, 9, none⟩ = some (.int .i64 r') := fun n => mP_cell hx2.lt hx2.c9 n
  have x10 : ∀ n, (mP W n).cell? ⟨w.heap.size + 1, 10, none⟩ = some (.int .i64 x) := fun n => mP_cell hx2.lt hx2.c10 n
  have x11 : ∀ n, (mP W n).cell? ⟨w.heap.size + 1, 11, none⟩ = some (.bool wr) := fun n => mP_cell hx2.lt hx2.c11 n
  have QP : ∀ n, Calls Try.prog 42 #[.agg #[.int .i64 c, .int .i64 l, .int .i64 a, .int .i64 d, .int .i64 r]] (mP W n) (fun e w' => e = .returned (.int .i64 V) ∧ ∃ m, w' = mP W m) := fun n => Calls.more_q ((FP _).mono fun _ _ h => ⟨h.1, h.2.below⟩)
  have QQ : ∀ n, Calls Try.prog 42 #[.agg #[.int .i64 c', .int .i64 l', .int .i64 a', .int .i64 d', .int .i64 r']] (mP W n) (fun e w' => e = .returned (.int .i64 T) ∧ ∃ m, w' = mP W m) := fun n => Calls.more_q ((FQ _).mono fun _ _ h => ⟨h.1, h.2.below⟩)
  clear FP FQ hb hx2 hsz
  refine wp_region_more (by kernel_rfl) (by kernel_rfl) ?_
  repeat (go_big_quiet_step (first | (go_at_call_of 42 (Value.int IntKind.i64 c); exact QP _) | (go_at_call_of 42 (Value.int IntKind.i64 c'); exact QQ _)))
  refine wpQuiet_nil ?_
  intro w9 hw
  obtain ⟨nq, rfl⟩ := hw
  have hB3 := (hE.below.trans ((mP_below W nq).mono hE.below.size))
  go_wp2
  go_ret
  exact ⟨rfl, hB3⟩

end Go.Proofs.Ytdbfdhfdfjdnoaa

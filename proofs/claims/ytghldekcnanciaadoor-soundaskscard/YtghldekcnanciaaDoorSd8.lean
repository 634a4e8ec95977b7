/- A sound unit is made. No law is claimed here. -/
import Derived.Test.YtghldekcnanciaaDoorSd7
import Derived.Deep.RegionHeld3
namespace Go.Proofs.YtghldekcnanciaaDoor
open Go.RowKit

/-- a new unit, and its tones -/
def newS : SS := ⟨0, 0, 0, 0, 0, 0, 0, false, 0, 8, true, 0, 0, false, 0, false, false, false, false⟩
def newσ : Nat → TS := fun k => newT k
def smpV : Value := .agg #[.int .u8 0, .int .u8 0, .int .u8 0, .int .u8 0, .int .u8 0, .int .u16 0, .int .u8 0, .bool false, .int .u8 0, .int .i64 8, .bool true, .int .u16 0, .int .i64 0, .bool false]

set_option maxRecDepth 100000 in
set_option maxHeartbeats 1000000 in
theorem snew_any (w : World) :
    Calls Tryd.prog 28 #[] w fun e w' => e = .returned smpV ∧ Below w.heap.size w w' := by
  go_enter Tryd.func28, Tryd.ntmps28
  go_wp2
  refine bodyPost_ret (by simp [results, Tryd.results28, go_sem, *] <;> (repeat' (first | exact rfl | refine And.intro ?_ ?_))) rfl ?_
  exact ⟨rfl, ((Ext.refl w).alloc _).below⟩

/-- a unit's cells of which the first k hold their tones -/
def pc (k : Nat) (p : Nat → Nat) (i : Nat) : Value := if i < k then .pointer (some ⟨p i, 0, none⟩) else .pointer none
def nc (k : Nat) (p : Nat → Nat) : List Value :=
  [pc k p 0, pc k p 1, pc k p 2, pc k p 3, .int .u8 0, .int .u8 0, .int .u8 0, .int .u8 0, .int .u8 0, .int .u16 0, .int .u8 0, .bool false, .int .u8 0, .int .i64 8, .bool true, .int .u16 0, .int .i64 0, .bool false, .int .i64 0, .bool false, .bool false, .bool false, .bool false]
def pN (p : Nat → Nat) (k m : Nat) : Nat → Nat := fun i => if i = k then m else p i
theorem nc_set (p : Nat → Nat) (k m : Nat) (hk : k < 4) : (nc k p).set k (.pointer (some ⟨m, 0, none⟩)) = nc (k + 1) (pN p k m) := by
  rcases (by omega : k = 0 ∨ k = 1 ∨ k = 2 ∨ k = 3) with rfl | rfl | rfl | rfl <;> rfl
theorem nc_at (p : Nat → Nat) (k : Nat) (hk : k < 4) : (nc k p)[k]? = some (.pointer none) := by
  rcases (by omega : k = 0 ∨ k = 1 ∨ k = 2 ∨ k = 3) with rfl | rfl | rfl | rfl <;> rfl
structure NW (B : Bool) (w0 : World) (n k : Nat) (p : Nat → Nat) (v : World) : Prop where
  row : v.heap[n]? = some (.cells (nc k p).toArray 69 (0, 0))
  ton : ∀ i, i < k → hasT v (p i) (newT i)
  inc : ∀ i j, i < j → j < k → p i < p j
  lo : ∀ i, i < k → n < p i
  gl : gl v
  gr : B = true → gr v
  hi : 3 < n
  bel : Below n w0 v
variable {B : Bool} {w0 v : World} {n k : Nat} {p : Nat → Nat}
theorem NW.drewN (h : NW B w0 n k p v) (q : Nat) : NW B w0 n k p (v.drewN q) :=
  ⟨by rw [heap_drewN]; exact h.row, fun i hi => by have := h.ton i hi; unfold hasT at *; rwa [heap_drewN], h.inc, h.lo, h.gl.drewN q, fun e => (h.gr e).below (still_below _ _ _), h.hi, h.bel.trans (still_below _ _ _)⟩
theorem NW.at (h : NW B w0 n k p v) (hk : k < 4) (w' : World) (hb : Below v.heap.size v w') : w'.cell? ⟨n, k, none⟩ = some (.pointer none) ∧ ∀ i, w'.frozen? ⟨n, i, none⟩ = false := by
  have hlt := lt_of_has h.row
  have e := (hb.block n hlt).trans h.row
  have e2 := rowT_self w' n _ _ e
  refine ⟨?_, fun i => ?_⟩
  · rw [← e2, rowT_cell _ _ _ _ (lt_of_has e)]; exact nc_at p k hk
  · rw [← e2]; exact rowT_frozen _ _ _ _ i
theorem NW.next (h : NW B w0 n k p v) (hk : k < 4) :
    Calls Tryd.prog 29 #[.int .u8 k] v fun e w' => e = .returned (.pointer (some ⟨v.heap.size, 0, none⟩)) ∧ Below v.heap.size v w' ∧
      NW B w0 n (k + 1) (pN p k v.heap.size) (w'.setCell ⟨n, k, none⟩ (.pointer (some ⟨v.heap.size, 0, none⟩))) := by
  refine (tnew_any k v (by omega) h.gl).mono ?_
  rintro e w' ⟨rfl, w2, rfl, hE, hl⟩
  have hlt := lt_of_has h.row
  have hb : Below v.heap.size v (stT w2 v.heap.size (newT k)) := rowT_below hE.below _ (Nat.le_refl _) _ _
  have hm : hasT (stT w2 v.heap.size (newT k)) v.heap.size (newT k) := rowT_at _ _ _ _ hl
  generalize hv' : stT w2 v.heap.size (newT k) = v' at *
  have er := (hb.block n hlt).trans h.row
  have eS : v'.setCell ⟨n, k, none⟩ (.pointer (some ⟨v.heap.size, 0, none⟩)) = rowT v' n 69 (nc (k + 1) (pN p k v.heap.size)) := by
    rw [← nc_set p k _ hk, ← rowT_set, rowT_self v' n _ _ er]
  refine ⟨rfl, hb, ?_⟩
  rw [eS]
  have hgm := h.hi
  have pk : pN p k v.heap.size k = v.heap.size := if_pos rfl
  have po : ∀ i, i ≠ k → pN p k v.heap.size i = p i := fun i hi => if_neg hi
  have pl : ∀ i, i < k → p i < v.heap.size := fun i hi => lt_of_has (h.ton i hi)
  refine ⟨rowT_at _ _ _ _ (lt_of_has er), ?_, ?_, ?_, (h.gl.below hb).rowL _ hgm _ _, fun e => ((h.gr e).below hb).row _ hgm _ _, h.hi, rowT_below (h.bel.trans (hb.mono (Nat.le_of_lt hlt))) _ (Nat.le_refl _) _ _⟩
  · intro i hi
    by_cases e : i = k
    · subst e; rw [pk]; unfold hasT; rw [rowT_far _ _ _ _ _ (by omega)]; exact hm
    · have hi' : i < k := by omega
      have := h.lo i hi'
      rw [po i e]; unfold hasT; rw [rowT_far _ _ _ _ _ (by omega), hb.block _ (pl i hi')]; exact h.ton i hi'
  · intro i j hij hj
    by_cases e : j = k
    · subst e; rw [pk, po i (by omega)]; exact pl i (by omega)
    · rw [po j e, po i (by omega)]; exact h.inc i j hij (by omega)
  · intro i hi
    by_cases e : i = k
    · subst e; rw [pk]; exact hlt
    · rw [po i e]; exact h.lo i (by omega)
theorem newS_ok : SOk newS := ⟨by decide, by decide, by decide, by decide, by decide, by decide, by decide, by decide, by decide, by decide, by decide, fun h => absurd h (by decide), by decide, fun _ => by decide⟩
theorem NW.whole (h : NW B w0 n 4 p v) : SW B w0 n p newS newσ v := by
  refine ⟨h.row, h.ton, fun i j hi hj e => ?_, h.lo, h.gl, h.gr, h.hi, newS_ok, fun i hi => newT_ok i (by omega), h.bel⟩
  rcases Nat.lt_trichotomy i j with k | k | k
  · have := h.inc i j k hj; omega
  · exact k
  · have := h.inc j i k hi; omega
theorem NW.new (B : Bool) (v : World) (hg : Go.Proofs.YtghldekcnanciaaDoor.gl v) (hr : B = true → Go.Proofs.YtghldekcnanciaaDoor.gr v) (hm : 3 < v.heap.size) : NW B v v.heap.size 0 (fun _ => 0) (v.alloc (.cells (nc 0 (fun _ => 0)).toArray 69 (0, 0))) :=
  ⟨heap_alloc_new v _, fun i hi => by omega, fun i j _ hj => by omega, fun i hi => by omega, hg.below ((Ext.refl v).alloc _).below, fun e => (hr e).below ((Ext.refl v).alloc _).below, hm, ((Ext.refl v).alloc _).below⟩

set_option maxRecDepth 100000 in
set_option maxHeartbeats 2000000 in
theorem sdnew_any (B : Bool) (w : World) (hg : gl w) (hr : B = true → gr w) :
    Calls Tryd.prog 11 #[] w fun e w' => ∃ w1 p, e = .returned (.pointer (some ⟨w1.heap.size, 0, none⟩)) ∧ Below w.heap.size w w1 ∧ SW B w1 w1.heap.size p newS newσ w' := by
  have FS := snew_any w
  unfold smpV at FS
  have HN := NW.new B
  unfold nc pc at HN
  simp only [show ¬ (0 : Nat) < 0 by decide, show ¬ (1 : Nat) < 0 by decide, show ¬ (2 : Nat) < 0 by decide, show ¬ (3 : Nat) < 0 by decide, if_false] at HN
  go_enter Tryd.func11, Tryd.ntmps11
  go_upto_region 2 with (go_at_call 28; refine FS.mono ?_; clear FS; rintro e w1 ⟨rfl, b1⟩)
  have hgm : 3 < w1.heap.size := Nat.lt_of_lt_of_le hg.lt b1.size
  have HI := HN w1 (hg.below b1) (fun e => (hr e).below b1) hgm
  clear HN
  go_wp2
  go_loopw [6] (fun i wr => ∃ (k : Nat) (p : Nat → Nat), k ≤ 4 ∧ i = .int .i64 k ∧ NW B w1 w1.heap.size k p wr) (fun i _ => 4 - (intOf i).toNat)
  case atStart => exact ⟨0, _, by decide, rfl, HI⟩
  case round =>
    clear HI
    obtain ⟨k, p, hk, rfl, hI⟩ := hrel
    by_cases h4 : k < 4
    · have FN := fun q => (hI.drewN q).next h4
      have FA := fun w' hb => hI.at h4 w' hb
      rcases (by omega : k = 0 ∨ k = 1 ∨ k = 2 ∨ k = 3) with rfl | rfl | rfl | rfl
      · have F : Calls Tryd.prog 29 #[.int .u8 0] wr.drew fun e w' => e = .returned (.pointer (some ⟨wr.heap.size, 0, none⟩)) ∧ Below wr.heap.size wr.drew w' ∧ NW B w1 w1.heap.size 1 (pN p 0 wr.heap.size) (w'.setCell ⟨w1.heap.size, 0, none⟩ (.pointer (some ⟨wr.heap.size, 0, none⟩))) := FN 1
        go_upto_region 5 with (fail)
        clear FN hI
        go_region_held3 (fun _ => True) (exact trivial) (first | (go_at_call 29; refine F.mono ?_; clear F; rintro e w' ⟨rfl, hb, hJ⟩; obtain ⟨f1, f2⟩ := FA w' (Below.trans (Below.drew (Below.refl _ _)) hb)))
        go_wp2
        go_roundw
        case rel => exact ⟨1, _, by decide, rfl, hJ⟩
        case measure => simp [intOf]
      · have F : Calls Tryd.prog 29 #[.int .u8 1] wr.drew fun e w' => e = .returned (.pointer (some ⟨wr.heap.size, 0, none⟩)) ∧ Below wr.heap.size wr.drew w' ∧ NW B w1 w1.heap.size 2 (pN p 1 wr.heap.size) (w'.setCell ⟨w1.heap.size, 1, none⟩ (.pointer (some ⟨wr.heap.size, 0, none⟩))) := FN 1
        go_upto_region 5 with (fail)
        clear FN hI
        go_region_held3 (fun _ => True) (exact trivial) (first | (go_at_call 29; refine F.mono ?_; clear F; rintro e w' ⟨rfl, hb, hJ⟩; obtain ⟨f1, f2⟩ := FA w' (Below.trans (Below.drew (Below.refl _ _)) hb)))
        go_wp2
        go_roundw
        case rel => exact ⟨2, _, by decide, rfl, hJ⟩
        case measure => simp [intOf]
      · have F : Calls Tryd.prog 29 #[.int .u8 2] wr.drew fun e w' => e = .returned (.pointer (some ⟨wr.heap.size, 0, none⟩)) ∧ Below wr.heap.size wr.drew w' ∧ NW B w1 w1.heap.size 3 (pN p 2 wr.heap.size) (w'.setCell ⟨w1.heap.size, 2, none⟩ (.pointer (some ⟨wr.heap.size, 0, none⟩))) := FN 1
        go_upto_region 5 with (fail)
        clear FN hI
        go_region_held3 (fun _ => True) (exact trivial) (first | (go_at_call 29; refine F.mono ?_; clear F; rintro e w' ⟨rfl, hb, hJ⟩; obtain ⟨f1, f2⟩ := FA w' (Below.trans (Below.drew (Below.refl _ _)) hb)))
        go_wp2
        go_roundw
        case rel => exact ⟨3, _, by decide, rfl, hJ⟩
        case measure => simp [intOf]
      · have F : Calls Tryd.prog 29 #[.int .u8 3] wr.drew fun e w' => e = .returned (.pointer (some ⟨wr.heap.size, 0, none⟩)) ∧ Below wr.heap.size wr.drew w' ∧ NW B w1 w1.heap.size 4 (pN p 3 wr.heap.size) (w'.setCell ⟨w1.heap.size, 3, none⟩ (.pointer (some ⟨wr.heap.size, 0, none⟩))) := FN 1
        go_upto_region 5 with (fail)
        clear FN hI
        go_region_held3 (fun _ => True) (exact trivial) (first | (go_at_call 29; refine F.mono ?_; clear F; rintro e w' ⟨rfl, hb, hJ⟩; obtain ⟨f1, f2⟩ := FA w' (Below.trans (Below.drew (Below.refl _ _)) hb)))
        go_wp2
        go_roundw
        case rel => exact ⟨4, _, by decide, rfl, hJ⟩
        case measure => simp [intOf]
    · obtain rfl : k = 4 := by omega
      go_wp2
      go_ret
      exact ⟨w1, p, rfl, b1, hI.whole⟩

/-- a status, as a number -/
def stB (σ : Nat → TS) : Nat → Int
  | 0 => 0
  | k + 1 => if 0 < (σ k).len then stB σ k + 2 ^ k else stB σ k
def getB (s : SS) (σ : Nat → TS) : Int := stB σ 4 + (if 0 < s.rem then 16 else 0) + (if s.frq then 64 else 0) + (if s.req then 128 else 0)
theorem stB_b (σ : Nat → TS) : ∀ k, 0 ≤ stB σ k ∧ stB σ k < 2 ^ k
  | 0 => by show (0 : Int) ≤ 0 ∧ (0 : Int) < 1; decide
  | k + 1 => by
    have := stB_b σ k
    have e : (2 : Int) ^ (k + 1) = 2 ^ k * 2 := Int.pow_succ 2 k
    unfold stB
    split <;> omega
theorem orB_u8 (b : Int) (h : 0 ≤ b ∧ b < 256) : (b < 1 → bits .or .u8 b 1 = b + 1) ∧ (b < 2 → bits .or .u8 b 2 = b + 2) ∧ (b < 4 → bits .or .u8 b 4 = b + 4) ∧ (b < 8 → bits .or .u8 b 8 = b + 8) ∧ (b < 16 → bits .or .u8 b 16 = b + 16) ∧ (b < 64 → bits .or .u8 b 64 = b + 64) ∧ (b < 128 → bits .or .u8 b 128 = b + 128) := by
  have k : ∀ n : Fin 256, ((n.val : Int) < 1 → bits .or .u8 (n.val : Int) 1 = n.val + 1) ∧ ((n.val : Int) < 2 → bits .or .u8 (n.val : Int) 2 = n.val + 2) ∧ ((n.val : Int) < 4 → bits .or .u8 (n.val : Int) 4 = n.val + 4) ∧ ((n.val : Int) < 8 → bits .or .u8 (n.val : Int) 8 = n.val + 8) ∧ ((n.val : Int) < 16 → bits .or .u8 (n.val : Int) 16 = n.val + 16) ∧ ((n.val : Int) < 64 → bits .or .u8 (n.val : Int) 64 = n.val + 64) ∧ ((n.val : Int) < 128 → bits .or .u8 (n.val : Int) 128 = n.val + 128) := by decide +kernel
  have := k ⟨b.toNat, by omega⟩; rwa [show ((⟨b.toNat, by omega⟩ : Fin 256).val : Int) = b from Int.toNat_of_nonneg h.1] at this
variable {s : SS} {σ : Nat → TS}
set_option maxRecDepth 100000 in
set_option maxHeartbeats 2000000 in
theorem SW.Get (h : SW B w0 n p s σ v) :
    Calls Tryd.prog 22 #[.pointer (some ⟨n, 0, none⟩)] v fun e w' => e = .returned (.int .u8 (getB s σ)) ∧ SW B w0 n p { s with frq := false } σ w' := by
  have cs := h.cs
  have t0 := cs.t0
  have t1 := cs.t1
  have t2 := cs.t2
  have t3 := cs.t3
  have hidx := fun k hk w => idx4 p k hk w
  clear cs
  have hG : getB s σ = stB σ 4 + (if 0 < s.rem then 16 else 0) + (if s.frq then 64 else 0) + (if s.req then 128 else 0) := rfl
  generalize getB s σ = G at *
  go_enter Tryd.func22, Tryd.ntmps22
  go_wp2
  unfold agg4 at hidx
  generalize Value.agg #[.pointer (some ⟨p 0, 0, none⟩), .pointer (some ⟨p 1, 0, none⟩), .pointer (some ⟨p 2, 0, none⟩), .pointer (some ⟨p 3, 0, none⟩)] = V at *
  clear t0 t1 t2 t3
  have hx0 : ∀ w, (Instr.index 65 V (.int .i64 0)).run Tryd.prog w = .ok (.pointer (some ⟨p 0, 0, none⟩)) w := hidx 0 (by decide)
  have hx1 : ∀ w, (Instr.index 65 V (.int .i64 1)).run Tryd.prog w = .ok (.pointer (some ⟨p 1, 0, none⟩)) w := hidx 1 (by decide)
  have hx2 : ∀ w, (Instr.index 65 V (.int .i64 2)).run Tryd.prog w = .ok (.pointer (some ⟨p 2, 0, none⟩)) w := hidx 2 (by decide)
  have hx3 : ∀ w, (Instr.index 65 V (.int .i64 3)).run Tryd.prog w = .ok (.pointer (some ⟨p 3, 0, none⟩)) w := hidx 3 (by decide)
  clear hidx
  go_loopw [3, 12] (fun b i wr => ∃ k : Nat, k ≤ 4 ∧ b = .int .u8 (stB σ k) ∧ i = .int .i64 k ∧ SW B w0 n p s σ wr) (fun _ i _ => 4 - (intOf i).toNat)
  case atStart => exact ⟨0, by decide, rfl, rfl, h⟩
  case round =>
    clear h
    obtain ⟨k, hk, rfl, rfl, hI⟩ := hrel
    have hb := stB_b σ k
    by_cases h4 : k < 4
    · have FL := hI.tlive k h4
      clear hG
      have hn : stB σ (k + 1) = if 0 < (σ k).len then stB σ k + 2 ^ k else stB σ k := rfl
      rcases (by omega : 0 < (σ k).len ∨ ¬ 0 < (σ k).len) with hl | hl
      · rw [show decide (0 < (σ k).len) = true from by simpa using hl] at FL
        rw [if_pos hl] at hn
        clear hl
        rcases (by omega : k = 0 ∨ k = 1 ∨ k = 2 ∨ k = 3) with rfl | rfl | rfl | rfl
        all_goals
          generalize stB σ _ = B at hb hn ⊢
          obtain ⟨o1, o2, o4, o8, _⟩ := orB_u8 B (by omega)
          first
            | (have o := o1 (by omega); clear o1 o2 o4 o8)
            | (have o := o2 (by omega); clear o1 o2 o4 o8)
            | (have o := o4 (by omega); clear o1 o2 o4 o8)
            | (have o := o8 (by omega); clear o1 o2 o4 o8)
          go_wp2_with (go_at_call 52; refine FL.mono ?_; clear FL; rintro e w1 ⟨rfl, rfl⟩)
          go_roundw
          case rel => exact ⟨_, by decide, by rw [hn]; rfl, rfl, hI⟩
          case measure => simp [intOf]
      · rw [show decide (0 < (σ k).len) = false from by simpa using hl] at FL
        rw [if_neg hl] at hn
        clear hl
        rcases (by omega : k = 0 ∨ k = 1 ∨ k = 2 ∨ k = 3) with rfl | rfl | rfl | rfl
        all_goals
          go_wp2_with (go_at_call 52; refine FL.mono ?_; clear FL; rintro e w1 ⟨rfl, rfl⟩)
          go_roundw
          case rel => exact ⟨_, by decide, by rw [hn], rfl, hI⟩
          case measure => simp [intOf]
    · obtain rfl : k = 4 := by omega
      clear h4 hk
      have cs := hI.cs
      have c1 := cs.rem
      have c2 := cs.frq
      have c3 := cs.req
      have fz := cs.fz
      have HS : ∀ w', wr.setCell ⟨n, 21, none⟩ (.bool false) = w' → SW B w0 n p { s with frq := false } σ w' := fun w' e => hI.set (ok_frq hI.ok false) (fun w => ss_frq w n p s false) e
      clear cs hI
      generalize stB σ 4 = B at *
      obtain ⟨R, hR⟩ : ∃ R, s.rem = R := ⟨_, rfl⟩
      obtain ⟨X, hX⟩ : ∃ X, s.frq = X := ⟨_, rfl⟩
      obtain ⟨Y, hY⟩ : ∃ Y, s.req = Y := ⟨_, rfl⟩
      rw [hR, hX, hY] at hG
      rw [hR] at c1
      rw [hX] at c2
      rw [hY] at c3
      clear hR hX hY
      have z1 := orB_u8 B (by omega)
      have z2 := orB_u8 (B + 16) (by omega)
      have z3 := orB_u8 (B + 64) (by omega)
      have z4 := orB_u8 (B + 16 + 64) (by omega)
      have a1 := z1.2.2.2.2.1 (by omega)
      have a2 := z1.2.2.2.2.2.1 (by omega)
      have a3 := z1.2.2.2.2.2.2 (by omega)
      have a4 := z2.2.2.2.2.2.1 (by omega)
      have a5 := z2.2.2.2.2.2.2 (by omega)
      have a6 := z3.2.2.2.2.2.2 (by omega)
      have a7 := z4.2.2.2.2.2.2 (by omega)
      clear z1 z2 z3 z4
      rcases (by omega : 0 < R ∨ ¬ 0 < R) with hR | hR <;> cases X <;> cases Y
      all_goals
        simp [hR] at hG
        subst hG
        go_wp2
        go_ret
        exact ⟨rfl, HS _ rfl⟩

end Go.Proofs.YtghldekcnanciaaDoor

/- The document's Lay of layer 7 (kotatsuref07). No law is claimed here. -/
import Derived.Test.YtghbgehmaejggaaDoorGrv14
import Derived.Test.YtghbgehmaejggaaDoorRefW2
namespace Go.Proofs.YtghbgehmaejggaaDoor
open Go.RowKit

theorem layN_two (S : Nat) (h : S < 65536) : layN S 2 = [u8N (S % 256), u8N (S / 256)] := by
  show [UInt8.ofNat (S % 256), UInt8.ofNat (S / 256 % 256)] = [UInt8.ofNat (S % 256), UInt8.ofNat (S / 256)]
  rw [show S / 256 % 256 = S / 256 from by omega]
theorem rdZ {w : World} {g k : Nat} (hg : g = w.heap.size) (hk : k ≤ 1000000) : RdE bv (w.alloc (.cells (zerosC k) 5)) (some ⟨g, 0, none⟩) k k (List.replicate k 0) :=
  (Own.fresh (f := bv) w 5 (List.replicate k 0) (zerosC k) k g rfl (by simp) (by simp only [maxLen]; omega) hg).rd
def gFr (l : List Bm) (k : Nat) : List UInt8 := List.replicate 3500 0 ++ ((l.take k).map gBlk).flatten
theorem gFr_snoc (l : List Bm) (k : Nat) (h : k < l.length) : gFr l (k + 1) = gFr l k ++ gBlk l[k] := by
  unfold gFr
  rw [List.take_succ_eq_append_getElem h, List.map_append, List.flatten_append, List.append_assoc]
  simp only [List.map_cons, List.map_nil, List.flatten_cons, List.flatten_nil, List.append_nil]

set_option maxRecDepth 100000 in
set_option maxHeartbeats 4000000 in
theorem rlay7_any (A : Option Addr) (n c : Nat) (S : Nat → Prop) (l : List Bm) (w : World) (hr : RdX shB w S A n c l) (hS : ∀ b, S b → b < w.heap.size) (hn : n ≤ 1000) (hd : Hid (∀ x ∈ l, x.data.length ≤ 60000)) :
    Calls Tryd.prog 6 #[.slice A n c] w (RetL bv 5 w (grvN l)) := by
  have HL := Lib.hid hr.len
  have hmk : ∀ w, (Instr.makeSlice 22 (.int .i64 3500) (.int .i64 3500)).run Tryd.prog w = .ok (.slice (some ⟨w.heap.size, 0, none⟩) 3500 3500) (w.alloc (.cells (zerosC 3500) 5)) := Tryd.mkN .i64 3500 (by omega)
  have hm2 : ∀ w, (Instr.makeSlice 22 (.int .i64 120) (.int .i64 120)).run Tryd.prog w = .ok (.slice (some ⟨w.heap.size, 0, none⟩) 120 120) (w.alloc (.cells (zerosC 120) 5)) := Tryd.mkN .i64 120 (by omega)
  have HG : Hid (gFr l n = grvN l) := by show _ = _; unfold gFr grvN; rw [List.take_of_length_le (by rw [hr.len]; omega)]
  have HG0 : Hid (gFr l 0 = List.replicate 3500 0) := by show _ = _; unfold gFr; simp only [List.take_zero, List.map_nil, List.flatten_nil, List.append_nil]
  have hO0 : Own bv (w.alloc (.cells (zerosC 3500) 5)) w.heap.size 5 (some ⟨w.heap.size, 0, none⟩) 3500 3500 (gFr l 0) := by
    rw [HG0.out]
    exact Own.fresh (f := bv) w 5 (List.replicate 3500 0) (zerosC 3500) 3500 w.heap.size rfl (by simp) (by simp only [maxLen]; omega) rfl
  go_enter Tryd.func6, Tryd.ntmps6
  go_wp2
  clear hmk
  go_loopw [3, 10] (fun v i wr => ∃ (k : Nat) (A' : Option Addr) (n' c' : Nat), k ≤ n ∧ i = .int .i64 k ∧ v = .slice A' n' c' ∧ n' ≤ 3500 + k * 60124 ∧ Own bv wr w.heap.size 5 A' n' c' (gFr l k) ∧ Below w.heap.size w wr)
    (fun _ i _ => n - (intOf i).toNat)
  case atStart => exact ⟨0, _, 3500, 3500, Nat.zero_le _, rfl, rfl, by omega, hO0, (Below.refl _ _).alloc (Nat.le_refl _) _⟩
  case round =>
    obtain ⟨k, A', n', c', hk, rfl, rfl, hn', hown, hb⟩ := hrel
    have hsz := hb.size
    by_cases hlt : k < n
    · have hkx : k < l.length := by rw [HL.out]; exact hlt
      obtain ⟨b, off, A3, n3, c3, rfl, hSb, hc0, hc1, hrd⟩ := rdB_at (hr.keep (Kp.below hb hS) (fun _ h => h)) k hkx
      have hbr : b < wr.heap.size := Nat.lt_of_lt_of_le (hS b hSb) hsz
      have HT := Lib.hid (gFr_snoc l k hkx)
      have hn3 : n3 ≤ 60000 := by have h1 := hd.out _ (List.getElem_mem hkx); have h2 := hrd.len; omega
      have hE3 : RdE bv wr A3 n3 c3 l[k].data := hrd.rd (fun b h => by have := hS b h; omega)
      have hE1 : RdE bv wr A' n' c' (gFr l k) := hown.rd
      have hlA := Lib.hid hown.len
      have hl3 := Lib.hid hrd.len
      have bl0 : BlE w wr := hb
      generalize gFr l k = fr at *
      generalize l[k] = X at *
      obtain ⟨x, xd⟩ := X
      simp only at *
      have q2 : RdE bv ((wr.alloc (.cells #[.int .u8 (x.toNat : Int), .slice A3 n3 c3] 44)).alloc (.cells #[.int .u8 128, .int .u8 (x.toNat : Int)] 5)) (some ⟨wr.heap.size + 1, 0, none⟩) 2 2 [128, x] := RdE.made (f := bv) rfl (by simp) rfl
      have q3 := (RdE.alloc hE3 (o := (.cells #[.int .u8 (x.toNat : Int), .slice A3 n3 c3] 44))).alloc (o := (.cells #[.int .u8 128, .int .u8 (x.toNat : Int)] 5))
      have q1 := (RdE.alloc hE1 (o := (.cells #[.int .u8 (x.toNat : Int), .slice A3 n3 c3] 44))).alloc (o := (.cells #[.int .u8 128, .int .u8 (x.toNat : Int)] 5))
      have bl1 := (BlE.alloc bl0 (o := (.cells #[.int .u8 (x.toNat : Int), .slice A3 n3 c3] 44))).alloc (o := (.cells #[.int .u8 128, .int .u8 (x.toNat : Int)] 5))
      clear hown hrd hE1 hE3
      go_upto_region 6 with (go_at_call 5; refine (join2_any _ _ (some ⟨wr.heap.size + 1, 0, none⟩) A3 2 2 n3 c3 _ [128, x] xd (by simp) q2 q3 (Nat.le_refl _) (by omega)).mono ?_; rintro e w5 ⟨A5, n5, c5, rfl, ho5, hb5⟩)
      have r1 := RdE.below q1 hb5
      have r5 : RdE bv w5 A5 n5 c5 (gHead ⟨x, xd⟩) := ho5.rd
      have bl5 := BlE.below bl1 hb5
      have n5b : n5 ≤ 60002 := by have h := ho5.len; simp only [List.length_append, List.length_cons, List.length_nil, hl3.out] at h; omega
      have HT2 : Hid ([fr, gHead ⟨x, xd⟩, gSum ⟨x, xd⟩, List.replicate 120 0].flatten = gFr l (k + 1)) := by show _ = _; rw [HT.out]; simp only [List.flatten_cons, List.flatten_nil, List.append_nil, gBlk, List.append_assoc]
      have HLY : Hid (layN (((shortN (gHead ⟨x, xd⟩) : Nat) : Int)).toNat (2 : Int).toNat = gSum ⟨x, xd⟩) := by show layN (shortN (gHead ⟨x, xd⟩)) 2 = _; rw [layN_two _ (shortN_lt _)]; rfl
      have hS1 := shortN_lt (gHead ⟨x, xd⟩)
      have FSh : ∀ v : World, RdE bv v A5 n5 c5 (gHead ⟨x, xd⟩) → Calls Tryd.prog 16 #[.slice A5 n5 c5] v fun e w' => e = .returned (.int .u16 (shortN (gHead ⟨x, xd⟩) : Int)) ∧ Below v.heap.size v w' := fun v h => rshort_any A5 n5 c5 v.heap.size _ v h (Nat.le_refl _) (by omega)
      have hlh : Hid ((gHead ⟨x, xd⟩).length = n5) := Rd.len r5
      have hls : Hid ((gSum ⟨x, xd⟩).length = 2) := rfl
      clear q1 q2 q3 bl1 hb5 ho5 HT
      generalize gHead ⟨x, xd⟩ = hdd at *
      generalize gSum ⟨x, xd⟩ = sm at *
      generalize shortN hdd = S1 at *
      have k1 : IntKind.u64.wrap (S1 : Int) = (S1 : Int) := wrap_uns .u64 rfl _ (by show S1 < 2 ^ 64; omega)
      obtain ⟨AD, nD, cD, A7, n7, c7, _⟩ : ∃ (a : Option Addr) (b c : Nat) (d : Option Addr) (e f : Nat), True := ⟨none, 0, 0, none, 0, 0, trivial⟩
      go_region_held3 (fun _ => True) (exact trivial) (first
        | (go_at_call 16; (refine (FSh _ ?_).mono ?_); (focus ((repeat (with_reducible first | exact r5 | refine RdE.drew ?_ | refine RdE.alloc ?_)); done)); (rintro e wS ⟨rfl, hbS⟩))
        | (go_at_call 15; (refine (rlay_any (S1 : Int) 2 _ ?_ ?_ ?_ ?_).mono ?_); (focus omega); (focus omega); (focus omega); (focus omega); (rintro e wL ⟨A7, n7, c7, rfl, ho7, hb7⟩); (rw [HLY.out] at ho7))
        | (go_at_call 5; refine (join_list _ _ 4 _ [(A', n', c'), (A5, n5, c5), (A7, n7, c7), (some ⟨_, 0, none⟩, 120, 120)] [fr, hdd, sm, List.replicate 120 0] (by simp) rfl rfl rfl (fun j s ys hs hy => by
            match j, hs, hy with
            | 0, hs, hy => simp at hs hy; subst hs; subst hy; repeat (with_reducible first | exact r1 | refine RdE.drew ?_ | refine RdE.alloc ?_ | refine RdE.below ?_ hb7 | refine RdE.below ?_ hbS)
            | 1, hs, hy => simp at hs hy; subst hs; subst hy; repeat (with_reducible first | exact r5 | refine RdE.drew ?_ | refine RdE.alloc ?_ | refine RdE.below ?_ hb7 | refine RdE.below ?_ hbS)
            | 2, hs, hy => simp at hs hy; subst hs; subst hy; repeat (with_reducible first | exact RdE.own ho7 | refine RdE.drew ?_ | refine RdE.alloc ?_)
            | 3, hs, hy => simp only [List.getElem?_cons_succ, List.getElem?_cons_zero, Option.some.injEq] at hs hy; subst hs; subst hy; repeat (with_reducible first | (refine rdZ ?_ (by omega); (simp; done)) | refine RdE.drew ?_ | refine RdE.alloc ?_ | refine RdE.below ?_ hb7 | refine RdE.below ?_ hbS)) (by rw [HT2.out, ← HT2.out]; simp only [List.flatten_cons, List.flatten_nil, List.append_nil, List.length_append, List.length_replicate, hlA.out, hlh.out, hls.out]; omega) (by omega)).mono ?_; rintro e wD ⟨AD, nD, cD, rfl, hoD, hbD⟩; rw [HT2.out] at hoD))
      all_goals
        go_wp2
        have blD : BlE w wD := by repeat (with_reducible first | exact bl5 | refine BlE.drew ?_ | refine BlE.alloc ?_ | refine BlE.below ?_ hbD | refine BlE.below ?_ hb7 | refine BlE.below ?_ hbS)
        have hnD : nD ≤ 3500 + (k + 1) * 60124 := by have h := hoD.len; rw [← HT2.out] at h; simp only [List.flatten_cons, List.flatten_nil, List.append_nil, List.length_append, List.length_replicate, hlA.out, hlh.out, hls.out] at h; omega
        have hoW : Own bv wD w.heap.size 5 AD nD cD (gFr l (k + 1)) := hoD.lower (by refine BlE.sz (w := w) ?_; repeat (with_reducible first | exact bl5 | refine BlE.drew ?_ | refine BlE.alloc ?_ | refine BlE.below ?_ hb7 | refine BlE.below ?_ hbS))
        go_roundw
        case rel => exact ⟨k + 1, AD, nD, cD, by omega, by go_num, rfl, hnD, hoW, blD⟩
        case measure => simp [intOf]; omega
    · obtain rfl : k = n := by omega
      rw [HG.out] at hown
      go_wp2
      go_ret
      exact ⟨A', n', c', rfl, hown, hb⟩

end Go.Proofs.YtghbgehmaejggaaDoor

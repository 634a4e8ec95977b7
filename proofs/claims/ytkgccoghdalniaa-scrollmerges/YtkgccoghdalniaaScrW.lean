/- Contracts of package scroll that work on bytes alone: appendNumber, Mark, Write.Bytes, numberAt, Right, end; bytes.Equal. No law is claimed here. -/
import Derived.Test.YtkgccoghdalniaaRNextW
namespace Go.Proofs.Ytkgccoghdalniaa
open Go.RowKit

/-- what a call answers that goes on with a row: a slice of blocks from base on that reads as xs; nothing below base has changed -/
def RetA {α : Type} (f : α → Value) (e : TypeId) (base : Nat) (w : World) (xs : List α) (r : Ending) (w' : World) : Prop :=
  ∃ A n c, r = .returned (.slice A n c) ∧ Own f w' base e A n c xs ∧ Below base w w'

set_option maxRecDepth 100000 in
set_option maxHeartbeats 1000000 in
theorem appn_any (A : Option Addr) (n c base : Nat) (xs : List UInt8) (m : Int) (w : World) (ho : Own bv w base 5 A n c xs) (hB : base ≤ w.heap.size) (hm : 0 ≤ m) (hm2 : m < 4294967296) (hn : n ≤ 1099511627776) :
    Calls Try.prog 31 #[.slice A n c, .int .u32 m] w (RetA bv 5 base w (xs ++ layN m.toNat 4)) := by
  obtain ⟨i0, hi, hz0, hz1, hz2⟩ := info_parts Try.infoU8
  have q : Rd bv (w.alloc (.cells (lit4 m) 5)) (w.heap.size + 1) (some ⟨w.heap.size, 0, none⟩) 4 4 (layN m.toNat 4) :=
    Rd.made (f := bv) w 5 (0, 0) _ _ _ 4 (lit4_lay m hm hm2) rfl (layN_len _ _)
  unfold lit4 at q
  go_enter Try.func31, Try.ntmps31
  go_wp2_with (at_builtin; refine wpList_app _ oneCell_bv rfl (.tmp 5) (.tmp 17) _ rfl base 5 i0 _ 1 Try.underlying23 hi hz0 hz1 hz2 rfl A n c xs rfl (ho.alloc _) (w.heap.size + 1) _ 4 4 _ rfl q (by simp only [maxLen]; omega) (by omega) (by simp; omega) ?_; intro A3 c3 w3 hown3 hb3 _)
  go_ret
  exact ⟨A3, _, c3, rfl, hown3, ((Below.refl _ _).alloc hB _).trans hb3⟩

/-- what a record, what a mark holds -/
def recC (g i : Nat) (s : UInt8) (a : Nat) (d : List UInt8) : List UInt8 := [1] ++ layN g 4 ++ layN i 4 ++ [s] ++ layN a 4 ++ d
def markC (g n : Nat) : List UInt8 := [2] ++ layN g 4 ++ layN n 4
theorem recC_len (g i : Nat) (s : UInt8) (a : Nat) (d : List UInt8) : (recC g i s a d).length = d.length + 14 := by simp [recC, layN_len]; omega
theorem markC_len (g n : Nat) : (markC g n).length = 9 := by simp [markC, layN_len]

set_option maxRecDepth 100000 in
set_option maxHeartbeats 1000000 in
theorem mark_any (g n : Int) (w : World) (hg : 0 ≤ g) (hg2 : g < 4294967296) (hn : 0 ≤ n) (hn2 : n < 4294967296) :
    Calls Try.prog 19 #[.int .u32 g, .int .i64 n] w (RetL bv 5 w (frameN (markC g.toNat n.toNat))) := by
  obtain ⟨i0, hi, hz0, hz1, hz2⟩ := info_parts Try.infoU8
  go_enter Try.func19, Try.ntmps19
  go_wp2_with (first
    | (at_make
       refine wpList_make_own _ rfl _ _ 23 rfl w.heap.size 5 i0 _ 1 Try.underlying23 hi hz0 hz1 .i64 .i64 _ 9 rfl rfl (by omega) (by rw [hz2]; omega) (by simp only [maxLen]; omega) (by omega) ?_
       intro w4 hown4 hg4
       have ho4 : Own bv w4 w.heap.size 5 (some ⟨w.heap.size, 0, none⟩) 0 9 [] := ⟨hown4, rfl⟩
       have hb4 : Below w.heap.size w w4 := (Below.refl _ _).grown hg4 (by omega) (by simp)
       have hs4 := hb4.size
       clear hown4 hg4)
    | (at_builtin
       refine wpList_app _ oneCell_bv rfl (.tmp 7) (.tmp 8) _ rfl w.heap.size 5 i0 _ 1 Try.underlying23 hi hz0 hz1 hz2 rfl _ 0 9 [] rfl (ho4.alloc _) (w4.heap.size + 1) _ 1 1 [2] rfl (Rd.made (f := bv) w4 5 (0, 0) [2] _ _ 1 rfl rfl rfl) (by simp only [maxLen]; omega) (by omega) (by simp; omega) ?_
       intro A5 c5 w5 ho5 hb5 _
       have bl5 : Below w.heap.size w w5 := (hb4.alloc hs4 _).trans hb5
       have hs5 := bl5.size))
  refine (appn_any A5 _ c5 w.heap.size _ g w5 ho5 hs5 hg hg2 (by omega)).mono ?_
  rintro e w6 ⟨A6, n6, c6, rfl, ho6, hb6⟩
  have hn6 : n6 ≤ 5 := by have := ho6.len; simp [layN_len] at this; omega
  have bl6 := bl5.trans hb6
  have hs6 := bl6.size
  go_wp2_with fail
  refine (appn_any A6 n6 c6 w.heap.size _ n w6 ho6 hs6 hn hn2 (by omega)).mono ?_
  rintro e w7 ⟨A7, n7, c7, rfl, ho7, hb7⟩
  have hn7 : n7 ≤ 9 := by have := ho7.len; simp [layN_len] at this; omega
  have bl7 := bl6.trans hb7
  have hs7 := bl7.size
  go_wp2_with fail
  refine (sframe_any A7 n7 c7 w7.heap.size _ w7 ho7.rd (Nat.le_refl _) (by omega)).mono ?_
  rintro e w8 ⟨A8, n8, c8, rfl, ho8, hb8⟩
  go_wp2
  go_ret
  exact ⟨A8, n8, c8, rfl, ho8.lower hs7, bl7.trans (hb8.mono hs7)⟩

/-- the cells of a block that was just made, later -/
theorem box_cell {w w' : World} {cs : Array Value} {e : TypeId} (hb : Below (w.heap.size + 1) (w.alloc (.cells cs e)) w') (i : Nat) : w'.cell? ⟨w.heap.size, i, none⟩ = cs[i]? := by
  rw [hb.cell (p := ⟨w.heap.size, i, none⟩) (by simp), cell_of_row _ _ _ _ _ _ (heap_alloc_new w _)]

set_option maxRecDepth 100000 in
set_option maxHeartbeats 1000000 in
theorem wbytes_any (s : UInt8) (a g i : Int) (A : Option Addr) (n c B : Nat) (d : List UInt8) (w : World) (hr : Rd bv w B A n c d) (hB : B ≤ w.heap.size) (hl : n ≤ 6000) (ha : 0 ≤ a) (ha2 : a < 4294967296) (hg : 0 ≤ g) (hg2 : g < 4294967296) (hi0 : 0 ≤ i) (hi2 : i < 4294967296) :
    Calls Try.prog 20 #[.agg #[.int .u8 (s.toNat : Int), .int .u32 a, .slice A n c], .int .u32 g, .int .i64 i] w (RetL bv 5 w (frameN (recC g.toNat i.toNat s a.toNat d))) := by
  obtain ⟨i0, hi, hz0, hz1, hz2⟩ := info_parts Try.infoU8
  have HL := Lib.hid hr.len
  go_enter Try.func20, Try.ntmps20
  go_wp2_with (first
    | (at_make
       refine wpList_make_own _ rfl _ _ 23 rfl (w.heap.size + 1) 5 i0 _ 1 Try.underlying23 hi hz0 hz1 .i64 .i64 _ (14 + n) rfl rfl (by omega) (by rw [hz2]; omega) (by simp only [maxLen]; omega) (by simp) ?_
       intro w4 hown4 hg4
       have ho4 : Own bv w4 (w.heap.size + 1) 5 (some ⟨w.heap.size + 1, 0, none⟩) 0 (14 + n) [] := ⟨by simpa using hown4, rfl⟩
       have hb4 : Below (w.heap.size + 1) (w.alloc (.cells #[.int .u8 (s.toNat : Int), .int .u32 a, .slice A n c] 44)) w4 := (Below.refl _ _).grown hg4 (by simp) (by simp)
       clear hown4 hg4)
    | (at_builtin
       refine wpList_app _ oneCell_bv rfl (.tmp 13) (.tmp 14) _ rfl (w.heap.size + 1) 5 i0 _ 1 Try.underlying23 hi hz0 hz1 hz2 rfl _ 0 (14 + n) [] rfl (ho4.alloc _) (w4.heap.size + 1) _ 1 1 [1] rfl (Rd.made (f := bv) w4 5 (0, 0) [1] _ _ 1 rfl rfl rfl) (by simp only [maxLen]; omega) (by omega) (by have := hb4.size; simp at this; simp; omega) ?_
       intro A5 c5 w5 ho5 hb5 _
       have bl5 := (hb4.alloc (by have := hb4.size; simp at this; omega) _).trans hb5
       have hs5 : w.heap.size + 1 ≤ w5.heap.size := by have := bl5.size; simp at this; omega))
  refine (appn_any A5 _ c5 (w.heap.size + 1) _ g w5 ho5 hs5 hg hg2 (by omega)).mono ?_
  rintro e w6 ⟨A6, n6, c6, rfl, ho6, hb6⟩
  have hn6 : n6 ≤ 5 := by have := ho6.len; simp [layN_len] at this; omega
  have bl6 := bl5.trans hb6
  have hs6 : w.heap.size + 1 ≤ w6.heap.size := Nat.le_trans hs5 hb6.size
  go_wp2_with fail
  refine (appn_any A6 n6 c6 (w.heap.size + 1) _ i w6 ho6 hs6 hi0 hi2 (by omega)).mono ?_
  rintro e w7 ⟨A7, n7, c7, rfl, ho7, hb7⟩
  have hn7 : n7 ≤ 9 := by have := ho7.len; simp [layN_len] at this; omega
  have bl7 := bl6.trans hb7
  have hs7 : w.heap.size + 1 ≤ w7.heap.size := Nat.le_trans hs6 hb7.size
  have k0 : w7.cell? ⟨w.heap.size, 0, none⟩ = some (.int .u8 (s.toNat : Int)) := box_cell bl7 0
  go_wp2_with (at_builtin
               refine wpList_app _ oneCell_bv rfl (.tmp 23) (.tmp 26) _ rfl (w.heap.size + 1) 5 i0 _ 1 Try.underlying23 hi hz0 hz1 hz2 rfl A7 n7 c7 _ rfl (ho7.alloc _) (w7.heap.size + 1) _ 1 1 [s] rfl (Rd.one _ _ _) (by simp only [maxLen]; omega) (by omega) (by simp; omega) ?_
               intro A8 c8 w8 ho8 hb8 _
               have bl8 := (bl7.alloc hs7 _).trans hb8
               have hs8 : w.heap.size + 1 ≤ w8.heap.size := by have := hb8.size; simp at this; omega
               have k1 : w8.cell? ⟨w.heap.size, 1, none⟩ = some (.int .u32 a) := box_cell bl8 1
               clear k0)
  refine (appn_any A8 _ c8 (w.heap.size + 1) _ a w8 ho8 hs8 ha ha2 (by omega)).mono ?_
  rintro e w9 ⟨A9, n9, c9, rfl, ho9, hb9⟩
  have hn9 : n9 ≤ 14 := by have := ho9.len; simp [layN_len] at this; omega
  have bl9 := bl8.trans hb9
  have hs9 : w.heap.size + 1 ≤ w9.heap.size := Nat.le_trans hs8 hb9.size
  have k2 : w9.cell? ⟨w.heap.size, 2, none⟩ = some (.slice A n c) := box_cell bl9 2
  clear k1
  have rd : Rd bv w9 B A n c d := (hr.alloc hB _).belowLe bl9 (by omega)
  go_wp2_with (at_builtin
               refine wpList_app _ oneCell_bv rfl (.tmp 32) (.tmp 34) _ rfl (w.heap.size + 1) 5 i0 _ 1 Try.underlying23 hi hz0 hz1 hz2 rfl A9 n9 c9 _ rfl ho9 B A n c d rfl rd (by simp only [maxLen]; omega) (by omega) hs9 ?_
               intro A10 c10 w10 ho10 hb10 _)
  have hs10 : w.heap.size + 1 ≤ w10.heap.size := Nat.le_trans hs9 hb10.size
  refine (sframe_any A10 _ c10 w10.heap.size _ w10 ho10.rd (Nat.le_refl _) (by omega)).mono ?_
  rintro e w11 ⟨A11, n11, c11, rfl, ho11, hb11⟩
  go_wp2
  go_ret
  exact ⟨A11, n11, c11, rfl, ho11.lower (by omega), ((Below.refl _ _).alloc (Nat.le_refl _) _).trans (((bl9.trans hb10).mono (by omega)).trans (hb11.mono (by omega)))⟩

end Go.Proofs.Ytkgccoghdalniaa

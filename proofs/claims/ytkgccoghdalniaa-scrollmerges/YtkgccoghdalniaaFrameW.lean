/- Contracts of package seal: little, number, Frame; of bytes.Clone; of the reference's Take, Frame. No law is claimed here. -/
import Derived.Test.YtkgccoghdalniaaRefW2
import Derived.Lib.SliceRun
namespace Go.Proofs.Ytkgccoghdalniaa
open Go.RowKit

/-- four bytes of a number, as the walk writes them -/
def lit4 (m : Int) : Array Value := #[.int .u8 (m % 256), .int .u8 (m / 256 % 256), .int .u8 (m / 65536 % 256), .int .u8 (m / 16777216)]
theorem lit4_lay (m : Int) (hm : 0 ≤ m) (hm2 : m < 4294967296) : lit4 m = ((layN m.toNat 4).map bv).toArray := by
  have e : ∀ k : Nat, (UInt8.ofNat (k % 256)).toNat = k % 256 := by intro k; rw [UInt8.toNat_ofNat']; omega
  simp only [lit4, layN, List.map_cons, List.map_nil, bv, e]
  have h0 : m % 256 = ((m.toNat % 256 : Nat) : Int) := by omega
  have h1 : m / 256 % 256 = ((m.toNat / 256 % 256 : Nat) : Int) := by omega
  have h2 : m / 65536 % 256 = ((m.toNat / 256 / 256 % 256 : Nat) : Int) := by omega
  have h3 : m / 16777216 = ((m.toNat / 256 / 256 / 256 % 256 : Nat) : Int) := by omega
  rw [h0, h1, h2, h3]

set_option maxRecDepth 100000 in
set_option maxHeartbeats 1000000 in
theorem little_any (m : Int) (w : World) (hm : 0 ≤ m) (hm2 : m < 4294967296) :
    Calls Try.prog 41 #[.int .u32 m] w fun e w' => e = .returned (.agg (lit4 m)) ∧ Below w.heap.size w w' := by
  go_enter Try.func41, Try.ntmps41
  go_wp2
  exact bodyPost_ret (v := .agg (lit4 m)) (by simp [results, Try.results41, go_sem, lit4]) rfl ⟨rfl, (Below.refl _ _).alloc (Nat.le_refl _) _⟩

/-- what little answers: four bytes -/
def Ret4 (w : World) (ys : List UInt8) (e : Ending) (w' : World) : Prop :=
  ∃ y0 y1 y2 y3 : Int, e = .returned (.agg #[.int .u8 y0, .int .u8 y1, .int .u8 y2, .int .u8 y3]) ∧ Hid (#[Value.int .u8 y0, .int .u8 y1, .int .u8 y2, .int .u8 y3] = (ys.map bv).toArray) ∧ Below w.heap.size w w'
theorem little_four (m : Int) (w : World) (hm : 0 ≤ m) (hm2 : m < 4294967296) : Calls Try.prog 41 #[.int .u32 m] w (Ret4 w (layN m.toNat 4)) :=
  (little_any m w hm hm2).mono fun _ _ ⟨h1, h2⟩ => ⟨_, _, _, _, h1, lit4_lay m hm hm2, h2⟩

set_option maxRecDepth 100000 in
set_option maxHeartbeats 1000000 in
theorem clone_any (A : Option Addr) (n c B : Nat) (xs : List UInt8) (w : World) (hr : Rd bv w B A n c xs) (hB : B ≤ w.heap.size) (hn : n ≤ 1099511627776) :
    Calls Try.prog 27 #[.slice A n c] w (RetL bv 5 w xs) := by
  have hz := fun w => Lib.run_eql_slice_nil (P := Try.prog) w 23 5 A n c 0 0 Try.underlying23
  obtain ⟨i0, hi, hz0, hz1, hz2⟩ := info_parts Try.infoU8
  cases A with
  | none =>
    have hn0 : xs = [] := by
      rcases xs with _ | ⟨x, xs⟩
      · rfl
      · obtain ⟨b, off, h, _⟩ := hr.at_ 0 (by simp)
        cases h
    subst hn0
    have : n = 0 := by have := hr.len; simpa using this.symm
    subst this
    go_enter Try.func27, Try.ntmps27
    go_wp2
    go_ret
    exact ⟨none, 0, 0, rfl, Own.empty _ _ _ _, Below.refl _ _⟩
  | some ad =>
    have ho : Own bv (w.alloc (.cells #[] 5)) w.heap.size 5 (some ⟨w.heap.size, 0, none⟩) 0 0 [] :=
      ⟨World.ownsRow_made w #[] 0 (Nat.le_refl _) (by simp [maxLen]) (by simp), rfl⟩
    go_enter Try.func27, Try.ntmps27
    go_wp2_with (at_builtin; refine wpList_app _ oneCell_bv rfl (.tmp 5) (.tmp 6) _ rfl w.heap.size 5 i0 _ 1 Try.underlying23 hi hz0 hz1 hz2 rfl _ 0 0 [] rfl ho B (some ad) n c xs rfl (hr.alloc hB _) (by simp only [maxLen]; omega) (by omega) (by simp) ?_; intro A3 c3 w3 hown3 hb3 _)
    go_ret
    refine ⟨A3, n, c3, rfl, by simpa using hown3, ((Below.refl _ _).alloc (Nat.le_refl _) _).trans hb3⟩

theorem or4 (a b c d : Nat) (ha : a < 256) (hb : b < 256) (hc : c < 256) (hd : d < 256) :
    bits .or .u32 (bits .or .u32 (bits .or .u32 ((a : Int) % 4294967296) ((b : Int) % 4294967296 * 256 % 4294967296)) ((c : Int) % 4294967296 * 65536 % 4294967296)) ((d : Int) % 4294967296 * 16777216 % 4294967296)
      = ((a + 256 * (b + 256 * (c + 256 * d)) : Nat) : Int) := by
  have e0 : (a : Int) % 4294967296 = ((a : Nat) : Int) := by omega
  have e1 : (b : Int) % 4294967296 * 256 % 4294967296 = ((b * 256 : Nat) : Int) := by omega
  have e2 : (c : Int) % 4294967296 * 65536 % 4294967296 = ((c * 65536 : Nat) : Int) := by omega
  have e3 : (d : Int) % 4294967296 * 16777216 % 4294967296 = ((d * 16777216 : Nat) : Int) := by omega
  rw [e0, e1, e2, e3, or_u32 a (b * 256) (by omega) (by omega), add_or a b 8 (by omega), or_u32 (a + b * 2 ^ 8) (c * 65536) (by omega) (by omega),
    add_or (a + b * 2 ^ 8) c 16 (by omega), or_u32 (a + b * 2 ^ 8 + c * 2 ^ 16) (d * 16777216) (by omega) (by omega), add_or (a + b * 2 ^ 8 + c * 2 ^ 16) d 24 (by omega)]
  congr 1
  omega

set_option maxRecDepth 100000 in
set_option maxHeartbeats 1000000 in
theorem number_any (A : Option Addr) (n c B : Nat) (x0 x1 x2 x3 : UInt8) (w : World) (hr : Rd bv w B A n c [x0, x1, x2, x3]) :
    Calls Try.prog 33 #[.slice A n c] w fun e w' => e = .returned (.int .u32 (takeN [x0, x1, x2, x3] : Int)) ∧ Still w w' := by
  obtain ⟨b, off, rfl, _, hc0⟩ := hr.at_ 0 (by simp)
  obtain ⟨b', off', e1, _, hc1⟩ := hr.at_ 1 (by simp)
  injection e1 with e1; injection e1 with e1 e2; subst e1; subst e2
  obtain ⟨b', off', e1, _, hc2⟩ := hr.at_ 2 (by simp)
  injection e1 with e1; injection e1 with e1 e2; subst e1; subst e2
  obtain ⟨b', off', e1, _, hc3⟩ := hr.at_ 3 (by simp)
  injection e1 with e1; injection e1 with e1 e2; subst e1; subst e2
  obtain rfl : n = 4 := by have := hr.len; simpa using this.symm
  simp only [List.getElem_cons_zero, List.getElem_cons_succ, bv, Nat.add_zero] at hc0 hc1 hc2 hc3
  go_enter Try.func33, Try.ntmps33
  go_wp2
  go_quiet (fail)
  go_wp2
  rw [or4 _ _ _ _ x0.toNat_lt x1.toNat_lt x2.toNat_lt x3.toNat_lt]
  go_ret
  exact ⟨rfl, _, rfl⟩

theorem takeN_succ (xs : List UInt8) (k : Nat) (h : k < xs.length) : takeN (xs.drop k) = xs[k].toNat + 256 * takeN (xs.drop (k + 1)) := by
  rw [List.drop_eq_getElem_cons h]; rfl

set_option maxRecDepth 100000 in
set_option maxHeartbeats 1000000 in
theorem rtake_any (A : Option Addr) (n c B : Nat) (xs : List UInt8) (w : World) (hr : Rd bv w B A n c xs) (hn : n ≤ 7) :
    Calls Try.prog 38 #[.slice A n c] w fun e w' => e = .returned (.int .u64 (takeN xs : Int)) ∧ w = w' := by
  have HL := Lib.hid hr.len
  go_enter Try.func38, Try.ntmps38
  go_wp2
  go_loop [3, 4] (fun s i => ∃ (k : Nat) (r : Int), k ≤ n ∧ i = .int .i64 k ∧ s = .int .u64 r ∧ 0 ≤ r ∧ r < 72057594037927936 ∧ Hid (r = takeN (xs.drop k))) (fun _ i => (intOf i).toNat)
  case atStart => exact ⟨n, 0, by omega, rfl, rfl, by omega, by omega, by rw [List.drop_of_length_le (by rw [HL.out]; omega)]; rfl⟩
  case round =>
    obtain ⟨k, r, hk, rfl, rfl, hr0, hr1, hR⟩ := hrel
    by_cases hlt : 0 < k
    · obtain ⟨j, rfl⟩ : ∃ j, k = j + 1 := ⟨k - 1, by omega⟩
      have hjx : j < xs.length := by rw [HL.out]; omega
      obtain ⟨b, off, rfl, _, hc⟩ := hr.at_ j hjx
      have HS : Hid (takeN (xs.drop j) = xs[j].toNat + 256 * takeN (xs.drop (j + 1))) := takeN_succ xs j hjx
      have HB : Hid ((takeN (xs.drop j) : Int) < 72057594037927936) := by
        have h1 := takeN_lt (xs.drop j)
        have h2 : 256 ^ (xs.drop j).length ≤ 256 ^ 7 := Nat.pow_le_pow_right (by decide) (by simp; rw [HL.out]; omega)
        have h3 : (256 : Nat) ^ 7 = 72057594037927936 := by decide
        show _ < _; omega
      generalize xs[j] = x at *
      unfold bv at hc
      have hx := x.toNat_lt
      have hx' : (x.toNat : Int) < 256 := by omega
      clear hx
      have hj1 : ((j : Int) + 1 - 1) = j := by omega
      have hR2 : 256 * r + (x.toNat : Int) < 72057594037927936 := by have := HS.out; have := HB.out; have := hR.out; omega
      go_wp2
      go_round
      case rel =>
        refine ⟨j, 256 * r + (x.toNat : Int), by omega, rfl, rfl, by omega, hR2, ?_⟩
        have h1 := HS.out
        have h2 := hR.out
        show _ = _
        omega
      case measure => simp [intOf]
    · obtain rfl : k = 0 := by omega
      have e := hR.out
      rw [List.drop_zero] at e
      have HE := Lib.hid e
      clear e
      go_wp2
      go_ret
      rw [← HE.out]
      exact ⟨rfl, rfl⟩

def frameN (xs : List UInt8) : List UInt8 := layN xs.length 4 ++ (layN (longN (layN xs.length 4 ++ xs)) 4 ++ xs)
theorem frameN_len (xs : List UInt8) : (frameN xs).length = xs.length + 8 := by simp [frameN, layN_len]; omega

set_option maxRecDepth 100000 in
set_option maxHeartbeats 1000000 in
theorem sframe_any (A : Option Addr) (n c B : Nat) (xs : List UInt8) (w : World) (hr : Rd bv w B A n c xs) (hB : B ≤ w.heap.size) (hn : n ≤ 65000) :
    Calls Try.prog 32 #[.slice A n c] w (RetL bv 5 w (frameN xs)) := by
  have HF : Hid (frameN xs = layN n 4 ++ layN (longN (layN n 4 ++ xs)) 4 ++ xs) := by have := hr.len; subst this; show _ = _; rw [List.append_assoc]; rfl
  go_enter Try.func32, Try.ntmps32
  go_wp2_with fail
  refine (little_four n w (by omega) (by omega)).mono ?_
  rintro e w1 ⟨y0, y1, y2, y3, rfl, H1, hb1⟩
  rw [Int.toNat_natCast] at H1
  have hs1 := hb1.size
  go_wp2_with fail
  have q1 : Rd bv (w1.alloc (.cells #[.int .u8 y0, .int .u8 y1, .int .u8 y2, .int .u8 y3] 91)) (w1.heap.size + 1) (some ⟨w1.heap.size, 0, none⟩) 4 4 (layN n 4) :=
    Rd.made (f := bv) w1 91 (0, 0) _ _ _ 4 H1.out rfl (layN_len _ _)
  have q2 : Rd bv (w1.alloc (.cells #[.int .u8 y0, .int .u8 y1, .int .u8 y2, .int .u8 y3] 91)) B A n c xs := (hr.belowLe hb1 hB).alloc (by omega) _
  refine (sealOf_any _ _ 4 4 n c _ _ _ _ _ q1 q2 (by omega) (by omega)).mono ?_
  rintro e w2 ⟨rfl, rfl⟩
  have bA : Below w.heap.size w (w1.alloc (.cells #[.int .u8 y0, .int .u8 y1, .int .u8 y2, .int .u8 y3] 91)) := hb1.alloc hs1 _
  have hsA : (w1.alloc (.cells #[.int .u8 y0, .int .u8 y1, .int .u8 y2, .int .u8 y3] 91)).heap.size = w1.heap.size + 1 := by simp
  have HSA := Lib.hid hsA
  clear hsA
  generalize w1.alloc (.cells #[.int .u8 y0, .int .u8 y1, .int .u8 y2, .int .u8 y3] 91) = wA at *
  have hlt := longN_lt (layN n 4 ++ xs)
  generalize longN (layN n 4 ++ xs) = L at *
  obtain ⟨z, HZ, hz0, hz1⟩ : ∃ z : Int, Hid (L = z.toNat) ∧ 0 ≤ z ∧ z < 4294967296 := ⟨L, rfl, by omega, by omega⟩
  have e := HZ.out
  subst e
  rw [Int.toNat_of_nonneg hz0]
  clear hlt
  go_wp2_with fail
  refine (little_four z wA hz0 hz1).mono ?_
  rintro e w3 ⟨u0, u1, u2, u3, rfl, H3, hb3⟩
  have hs3 := hb3.size
  have q3 : Rd bv (w3.alloc (.cells #[.int .u8 u0, .int .u8 u1, .int .u8 u2, .int .u8 u3] 91)) (w3.heap.size + 1) (some ⟨w3.heap.size, 0, none⟩) 4 4 (layN z.toNat 4) :=
    Rd.made (f := bv) w3 91 (0, 0) _ _ _ 4 H3.out rfl (layN_len _ _)
  have hw := HSA.out
  have q1' : Rd bv (w3.alloc (.cells #[.int .u8 u0, .int .u8 u1, .int .u8 u2, .int .u8 u3] 91)) (w3.heap.size + 1) (some ⟨w1.heap.size, 0, none⟩) 4 4 (layN n 4) := ((q1.belowLe hb3 (by omega)).alloc (by omega) _).more (by omega)
  have q2' : Rd bv (w3.alloc (.cells #[.int .u8 u0, .int .u8 u1, .int .u8 u2, .int .u8 u3] 91)) (w3.heap.size + 1) A n c xs := ((q2.belowLe hb3 (by omega)).alloc (by omega) _).more (by omega)
  have hsB : (w3.alloc (.cells #[.int .u8 u0, .int .u8 u1, .int .u8 u2, .int .u8 u3] 91)).heap.size = w3.heap.size + 1 := by simp
  have bB : Below w.heap.size w (w3.alloc (.cells #[.int .u8 u0, .int .u8 u1, .int .u8 u2, .int .u8 u3] 91)) := (bA.trans (hb3.mono (by omega))).alloc (by omega) _
  have hw3 : w.heap.size ≤ w3.heap.size + 1 := by omega
  have HSB := Lib.hid hsB
  clear hsB hw q1 q2 bA
  obtain ⟨i0, hi, hz0', hz1', hz2'⟩ := info_parts Try.infoU8
  go_wp2_with (first
    | (at_make
       refine wpList_make_own _ rfl _ _ 23 rfl (w3.heap.size + 1) 5 i0 _ 1 Try.underlying23 hi hz0' hz1' .i64 .i64 _ (8 + n) rfl rfl (by omega) (by rw [hz2']; omega) (by simp only [maxLen]; omega) (by rw [HSB.out]; omega) ?_
       intro w4 hown4 hg4
       rw [HSB.out] at hown4
       have ho4 : Own bv w4 (w3.heap.size + 1) 5 (some ⟨w3.heap.size + 1, 0, none⟩) 0 (8 + n) [] := ⟨hown4, rfl⟩
       have hb4 : Below (w3.heap.size + 1) (w3.alloc (.cells #[.int .u8 u0, .int .u8 u1, .int .u8 u2, .int .u8 u3] 91)) w4 := (Below.refl _ _).grown hg4 (by rw [HSB.out]; omega) (by simp)
       have hs4 : w3.heap.size + 1 ≤ w4.heap.size := by have := hb4.size; rw [HSB.out] at this; exact this
       clear hown4 hg4)
    | (at_builtin
       refine wpList_app _ oneCell_bv rfl (.tmp 18) (.tmp 19) _ rfl (w3.heap.size + 1) 5 i0 _ 1 Try.underlying23 hi hz0' hz1' hz2' rfl _ 0 (8 + n) [] rfl ho4 (w3.heap.size + 1) _ 4 4 _ rfl (q1'.below hb4) (by simp only [maxLen]; omega) (by omega) hs4 ?_
       intro A5 c5 w5 ho5 hb5 _
       have hs5 : w3.heap.size + 1 ≤ w5.heap.size := by have := hb5.size; omega)
    | (at_builtin
       refine wpList_app _ oneCell_bv rfl (.tmp 21) (.tmp 22) _ rfl (w3.heap.size + 1) 5 i0 _ 1 Try.underlying23 hi hz0' hz1' hz2' rfl A5 (0 + 4) c5 _ rfl ho5 (w3.heap.size + 1) _ 4 4 _ rfl ((q3.below hb4).below hb5) (by simp only [maxLen]; omega) (by omega) hs5 ?_
       intro A6 c6 w6 ho6 hb6 _
       have hs6 : w3.heap.size + 1 ≤ w6.heap.size := by have := hb6.size; omega)
    | (at_builtin
       refine wpList_app _ oneCell_bv rfl (.tmp 24) (.tmp 25) _ rfl (w3.heap.size + 1) 5 i0 _ 1 Try.underlying23 hi hz0' hz1' hz2' rfl A6 (0 + 4 + 4) c6 _ rfl ho6 (w3.heap.size + 1) A n c xs rfl (((q2'.below hb4).below hb5).below hb6) (by simp only [maxLen]; omega) (by omega) hs6 ?_
       intro A7 c7 w7 ho7 hb7 _))
  go_ret
  refine ⟨A7, _, c7, rfl, ?_, ?_⟩
  · rw [HF.out]
    have := ho7.lower hw3
    simpa using this
  · exact bB.trans ((((hb4.trans hb5).trans hb6).trans hb7).mono hw3)

end Go.Proofs.Ytkgccoghdalniaa

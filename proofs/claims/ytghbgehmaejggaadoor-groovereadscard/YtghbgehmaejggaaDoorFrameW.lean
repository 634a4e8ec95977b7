/- Contracts of package seal: little, number, Frame; of bytes.Clone; of the reference's Take, Frame. No law is claimed here. -/
import Derived.Test.YtghbgehmaejggaaDoorRefW2
import Derived.Lib.SliceRun
namespace Go.Proofs.YtghbgehmaejggaaDoor
open Go.RowKit

/-- four bytes of a number, as the walk writes them -/
def lit4 (m : Int) : Array Value := #[.int .u8 (m % 256), .int .u8 (m / 256 % 256), .int .u8 (m / 65536 % 256), .int .u8 (m / 16777216)]
theorem lit4_lay (m : Int) (hm : 0 ≤ m) (hm2 : m < 4294967296) : lit4 m = ((layN m.toNat 4).map bv).toArray := by
  have e : ∀ k : Nat, (UInt8.ofNat (k % 256)).toNat = k % 256 := by intro k; rw [UInt8.toNat_ofNat']; omega
  simp only [lit4, layN, List.map_cons, List.map_nil, bv, e]
  have h0 : m % 256 = ((m.toNat % 256 : Nat) : Int) := by omega
  have h1 : m / 256 % 256 = ((m.toNat / 256 % 256 : Nat) : Int) := by omega
  have h2 : m / 65536 % 256 = ((m.toNat / 256 / 256 % 256 : Nat) : Int) := by omega
  have h3 : m / 16777216 = ((m.toNat / 256 / 256 / 256 % 256 : Nat) : Int) := by omega
  rw [h0, h1, h2, h3]

/-- what little answers: four bytes -/
def Ret4 (w : World) (ys : List UInt8) (e : Ending) (w' : World) : Prop :=
  ∃ y0 y1 y2 y3 : Int, e = .returned (.agg #[.int .u8 y0, .int .u8 y1, .int .u8 y2, .int .u8 y3]) ∧ Hid (#[Value.int .u8 y0, .int .u8 y1, .int .u8 y2, .int .u8 y3] = (ys.map bv).toArray) ∧ Below w.heap.size w w'
set_option maxRecDepth 100000 in
set_option maxHeartbeats 1000000 in
theorem clone_any (A : Option Addr) (n c B : Nat) (xs : List UInt8) (w : World) (hr : Rd bv w B A n c xs) (hB : B ≤ w.heap.size) (hn : n ≤ 1099511627776) :
    Calls Tryd.prog 29 #[.slice A n c] w (RetL bv 5 w xs) := by
  have hz := fun w => Lib.run_eql_slice_nil (P := Tryd.prog) w 22 5 A n c 0 0 Tryd.underlying22
  obtain ⟨i0, hi, hz0, hz1, hz2⟩ := info_parts Tryd.infoU8
  cases A with
  | none =>
    have hn0 : xs = [] := by
      rcases xs with _ | ⟨x, xs⟩
      · rfl
      · obtain ⟨b, off, h, _⟩ := hr.at_ 0 (by simp)
        cases h
    subst hn0
    have : n = 0 := by have := hr.len; simpa using this.symm
    subst this
    go_enter Tryd.func29, Tryd.ntmps29
    go_wp2
    go_ret
    exact ⟨none, 0, 0, rfl, Own.empty _ _ _ _, Below.refl _ _⟩
  | some ad =>
    have ho : Own bv (w.alloc (.cells #[] 5)) w.heap.size 5 (some ⟨w.heap.size, 0, none⟩) 0 0 [] :=
      ⟨World.ownsRow_made w #[] 0 (Nat.le_refl _) (by simp [maxLen]) (by simp), rfl⟩
    go_enter Tryd.func29, Tryd.ntmps29
    go_wp2_with (at_builtin; refine wpList_app _ oneCell_bv rfl (.tmp 5) (.tmp 6) _ rfl w.heap.size 5 i0 _ 1 Tryd.underlying22 hi hz0 hz1 hz2 rfl _ 0 0 [] rfl ho B (some ad) n c xs rfl (hr.alloc hB _) (by simp only [maxLen]; omega) (by omega) (by simp) ?_; intro A3 c3 w3 hown3 hb3 _)
    go_ret
    refine ⟨A3, n, c3, rfl, by simpa using hown3, ((Below.refl _ _).alloc (Nat.le_refl _) _).trans hb3⟩

theorem or4 (a b c d : Nat) (ha : a < 256) (hb : b < 256) (hc : c < 256) (hd : d < 256) :
    bits .or .u32 (bits .or .u32 (bits .or .u32 ((a : Int) % 4294967296) ((b : Int) % 4294967296 * 256 % 4294967296)) ((c : Int) % 4294967296 * 65536 % 4294967296)) ((d : Int) % 4294967296 * 16777216 % 4294967296)
      = ((a + 256 * (b + 256 * (c + 256 * d)) : Nat) : Int) := by
  have e0 : (a : Int) % 4294967296 = ((a : Nat) : Int) := by omega
  have e1 : (b : Int) % 4294967296 * 256 % 4294967296 = ((b * 256 : Nat) : Int) := by omega
  have e2 : (c : Int) % 4294967296 * 65536 % 4294967296 = ((c * 65536 : Nat) : Int) := by omega
  have e3 : (d : Int) % 4294967296 * 16777216 % 4294967296 = ((d * 16777216 : Nat) : Int) := by omega
  rw [e0, e1, e2, e3, or_u32 a (b * 256) (by omega) (by omega), add_or a b 8 (by omega), or_u32 (a + b * 2 ^ 8) (c * 65536) (by omega) (by omega),
    add_or (a + b * 2 ^ 8) c 16 (by omega), or_u32 (a + b * 2 ^ 8 + c * 2 ^ 16) (d * 16777216) (by omega) (by omega), add_or (a + b * 2 ^ 8 + c * 2 ^ 16) d 24 (by omega)]
  congr 1
  omega

theorem takeN_succ (xs : List UInt8) (k : Nat) (h : k < xs.length) : takeN (xs.drop k) = xs[k].toNat + 256 * takeN (xs.drop (k + 1)) := by
  rw [List.drop_eq_getElem_cons h]; rfl

set_option maxRecDepth 100000 in
set_option maxHeartbeats 1000000 in
theorem rtake_any (A : Option Addr) (n c B : Nat) (xs : List UInt8) (w : World) (hr : Rd bv w B A n c xs) (hn : n ≤ 7) :
    Calls Tryd.prog 23 #[.slice A n c] w fun e w' => e = .returned (.int .u64 (takeN xs : Int)) ∧ w = w' := by
  have HL := Lib.hid hr.len
  go_enter Tryd.func23, Tryd.ntmps23
  go_wp2
  go_loop [3, 4] (fun s i => ∃ (k : Nat) (r : Int), k ≤ n ∧ i = .int .i64 k ∧ s = .int .u64 r ∧ 0 ≤ r ∧ r < 72057594037927936 ∧ Hid (r = takeN (xs.drop k))) (fun _ i => (intOf i).toNat)
  case atStart => exact ⟨n, 0, by omega, rfl, rfl, by omega, by omega, by rw [List.drop_of_length_le (by rw [HL.out]; omega)]; rfl⟩
  case round =>
    obtain ⟨k, r, hk, rfl, rfl, hr0, hr1, hR⟩ := hrel
    by_cases hlt : 0 < k
    · obtain ⟨j, rfl⟩ : ∃ j, k = j + 1 := ⟨k - 1, by omega⟩
      have hjx : j < xs.length := by rw [HL.out]; omega
      obtain ⟨b, off, rfl, _, hc⟩ := hr.at_ j hjx
      have HS : Hid (takeN (xs.drop j) = xs[j].toNat + 256 * takeN (xs.drop (j + 1))) := takeN_succ xs j hjx
      have HB : Hid ((takeN (xs.drop j) : Int) < 72057594037927936) := by
        have h1 := takeN_lt (xs.drop j)
        have h2 : 256 ^ (xs.drop j).length ≤ 256 ^ 7 := Nat.pow_le_pow_right (by decide) (by simp; rw [HL.out]; omega)
        have h3 : (256 : Nat) ^ 7 = 72057594037927936 := by decide
        show _ < _; omega
      generalize xs[j] = x at *
      unfold bv at hc
      have hx := x.toNat_lt
      have hx' : (x.toNat : Int) < 256 := by omega
      clear hx
      have hj1 : ((j : Int) + 1 - 1) = j := by omega
      have hR2 : 256 * r + (x.toNat : Int) < 72057594037927936 := by have := HS.out; have := HB.out; have := hR.out; omega
      go_wp2
      go_round
      case rel =>
        refine ⟨j, 256 * r + (x.toNat : Int), by omega, rfl, rfl, by omega, hR2, ?_⟩
        have h1 := HS.out
        have h2 := hR.out
        show _ = _
        omega
      case measure => simp [intOf]
    · obtain rfl : k = 0 := by omega
      have e := hR.out
      rw [List.drop_zero] at e
      have HE := Lib.hid e
      clear e
      go_wp2
      go_ret
      rw [← HE.out]
      exact ⟨rfl, rfl⟩

def frameN (xs : List UInt8) : List UInt8 := layN xs.length 4 ++ (layN (longN (layN xs.length 4 ++ xs)) 4 ++ xs)
theorem frameN_len (xs : List UInt8) : (frameN xs).length = xs.length + 8 := by simp [frameN, layN_len]; omega

end Go.Proofs.YtghbgehmaejggaaDoor

/- Contracts: bytes.Equal, sameWrite, slices.EqualFunc, scroll.Same where both are equal; Join of slices of the call's own. No law is claimed here. -/
import Derived.Test.YtkgccoghdalniaaScrRd
import Derived.Laws.BytesArg
namespace Go.Proofs.Ytkgccoghdalniaa
open Go.RowKit

theorem conv_rd {A : Option Addr} {n c B : Nat} {xs : List UInt8} {w : World} (hr : Rd bv w B A n c xs) : (convert 23 9 (.slice A n c)).run Try.prog w = .ok (.string ⟨xs.toArray⟩) w := by
  have hl := hr.len
  cases A with
  | none =>
    have : xs = [] := by
      rcases xs with _ | ⟨x, xs⟩
      · rfl
      · obtain ⟨b, off, h, _⟩ := hr.at_ 0 (by simp)
        cases h
    subst this
    exact run_convert_bytes_nil w 23 5 Try.underlying23 Try.underlying5 n c 9 Try.underlying9
  | some ad =>
    rcases Nat.eq_zero_or_pos n with h0 | h0
    · have : xs = [] := List.eq_nil_of_length_eq_zero (by omega)
      subst this
      subst h0
      have e := run_convert_bytes_string (P := Try.prog) w 23 9 5 (some ad) 0 c Try.underlying23 Try.underlying5 Try.underlying9
      rw [e]
      rfl
    · obtain ⟨b, off, e⟩ := hr.some_of h0
      cases e
      have := run_convert_bytes_arg (P := Try.prog) w 23 5 Try.underlying23 Try.underlying5 b off n c (xs.map fun x => (x.toNat : Int)) (by simp [hl]) (fun i hi => by
        have := (rd_cell hr i (by omega)).2
        rw [this]
        unfold bv
        simp [List.getD_eq_getElem?_getD, List.getElem?_eq_getElem (show i < xs.length by omega)]) 9 Try.underlying9
      rw [this]
      unfold strOfNums
      have hid : ∀ l : List UInt8, l.map ((fun n : Int => UInt8.ofNat n.toNat) ∘ fun x : UInt8 => (x.toNat : Int)) = l := by
        intro l
        induction l with
        | nil => rfl
        | cons x l ih => rw [List.map_cons, ih]; simp
      simp [hid]

set_option maxRecDepth 100000 in
set_option maxHeartbeats 1000000 in
theorem equal_yes (A A2 : Option Addr) (n c m c2 B B2 : Nat) (xs : List UInt8) (w : World) (hr : Rd bv w B A n c xs) (hr2 : Rd bv w B2 A2 m c2 xs) :
    Calls Try.prog 40 #[.slice A n c, .slice A2 m c2] w fun e w' => e = .returned (.bool true) ∧ w = w' := by
  have h1 := conv_rd hr
  have h2 := conv_rd hr2
  go_enter Try.func40, Try.ntmps40
  go_wp2
  go_ret
  exact ⟨by simp, rfl⟩

set_option maxRecDepth 100000 in
set_option maxHeartbeats 1000000 in
theorem sameWrite_yes (s a : Int) (A A2 : Option Addr) (n c m c2 B B2 : Nat) (xs : List UInt8) (w : World) (hr : Rd bv w B A n c xs) (hr2 : Rd bv w B2 A2 m c2 xs) (hB : B ≤ w.heap.size) (hB2 : B2 ≤ w.heap.size) :
    Calls Try.prog 30 #[.agg #[.int .u8 s, .int .u32 a, .slice A n c], .agg #[.int .u8 s, .int .u32 a, .slice A2 m c2]] w fun e w' => e = .returned (.bool true) ∧ Below w.heap.size w w' := by
  have t1 : (s == s) = true := by simp
  have t2 : (a == a) = true := by simp
  go_enter Try.func30, Try.ntmps30
  go_wp2_with (go_at_call 40; refine (equal_yes A A2 n c m c2 B B2 xs _ ((hr.alloc hB _).alloc (by simp; omega) _) ((hr2.alloc hB2 _).alloc (by simp; omega) _)).mono ?_; rintro e w' ⟨rfl, rfl⟩)
  go_ret
  exact ⟨rfl, ((Below.refl _ _).alloc (Nat.le_refl _) _).alloc (by simp) _⟩

set_option maxRecDepth 100000 in
set_option maxHeartbeats 2000000 in
theorem eqFunc_yes (A A2 : Option Addr) (n c m c2 : Nat) (S S2 : Nat → Prop) (ws : List Wm) (w : World) (hr : RdX (shW .u8 .u32) w S A n c ws) (hr2 : RdX (shW .u8 .u32) w S2 A2 m c2 ws) (hS : ∀ b, S b → b < w.heap.size) (hS2 : ∀ b, S2 b → b < w.heap.size) (hn : n ≤ 1000000) :
    Calls Try.prog 29 #[.slice A n c, .slice A2 m c2, .func (.func 30) #[] #[]] w fun e w' => e = .returned (.bool true) ∧ Below w.heap.size w w' := by
  have hl := hr.len
  obtain rfl : n = m := by have := hr2.len; omega
  have HL := Lib.hid hl
  clear hl
  have h1 : ((n : Int) != (n : Int)) = false := by simp
  go_enter Try.func29, Try.ntmps29
  go_wp2
  go_loopw [17] (fun i wr => ∃ (k : Nat), k ≤ n ∧ i = .int .i64 k ∧ Below w.heap.size w wr) (fun i _ => n - (intOf i).toNat)
  case atStart => exact ⟨0, Nat.zero_le _, rfl, Below.refl _ _⟩
  case round =>
    obtain ⟨k, hk, rfl, hb⟩ := hrel
    have hsz := hb.size
    by_cases hlt : k < n
    · have hkx : k < ws.length := by rw [HL.out]; exact hlt
      obtain ⟨b, off, A3, n3, c3, rfl, hSb, hc0, hc1, hc2, hrd⟩ := rdW_at (hr.keep (Kp.below hb hS) (fun _ h => h)) k hkx
      obtain ⟨b2, off2, A4, n4, c4, rfl, hSb2, hd0, hd1, hd2, hrd2⟩ := rdW_at (hr2.keep (Kp.below hb hS2) (fun _ h => h)) k hkx
      have hb1 := hS b hSb
      have hb2 := hS2 b2 hSb2
      generalize ws[k] = x at *
      obtain ⟨xs, xa, xd⟩ := x
      simp only at *
      have hbw : b2 < wr.heap.size := by omega
      have q1 := (hrd.rd hS).alloc hsz (.cells #[.int .u8 (xs.toNat : Int), .int .u32 xa, .slice A3 n3 c3] 44)
      have q2 := (hrd2.rd hS2).alloc hsz (.cells #[.int .u8 (xs.toNat : Int), .int .u32 xa, .slice A3 n3 c3] 44)
      have e0 := (World.cell?_alloc_lt wr (.cells #[.int .u8 (xs.toNat : Int), .int .u32 xa, .slice A3 n3 c3] 44) ⟨b2, off2 + k * 3, none⟩ hbw).trans hd0
      have e1 := (World.cell?_alloc_lt wr (.cells #[.int .u8 (xs.toNat : Int), .int .u32 xa, .slice A3 n3 c3] 44) ⟨b2, off2 + k * 3 + 1, none⟩ hbw).trans hd1
      have e2 := (World.cell?_alloc_lt wr (.cells #[.int .u8 (xs.toNat : Int), .int .u32 xa, .slice A3 n3 c3] 44) ⟨b2, off2 + k * 3 + 2, none⟩ hbw).trans hd2
      have hsz' : w.heap.size ≤ (wr.alloc (.cells #[.int .u8 (xs.toNat : Int), .int .u32 xa, .slice A3 n3 c3] 44)).heap.size := by simp; omega
      go_wp2_with fail
      refine (sameWrite_yes _ xa A3 A4 n3 c3 n4 c4 w.heap.size w.heap.size xd _ (q1.alloc hsz' _) (q2.alloc hsz' _) (by simp; omega) (by simp; omega)).mono ?_
      rintro e w5 ⟨rfl, hb5⟩
      go_wp2
      go_roundw
      case rel => exact ⟨k + 1, by omega, by go_num, ((hb.alloc hsz _).alloc hsz' _).trans (hb5.mono (by simp; omega))⟩
      case measure => simp [intOf]; omega
    · go_wp2
      go_ret
      exact ⟨rfl, hb⟩

set_option maxRecDepth 100000 in
set_option maxHeartbeats 2000000 in
theorem same_grp_yes (g : Int) (A A2 : Option Addr) (n c m c2 : Nat) (S S2 : Nat → Prop) (ws : List Wm) (w : World) (hr : RdX (shW .u8 .u32) w S A n c ws) (hr2 : RdX (shW .u8 .u32) w S2 A2 m c2 ws) (hS : ∀ b, S b → b < w.heap.size) (hS2 : ∀ b, S2 b → b < w.heap.size) (hn : n ≤ 1000000) :
    Calls Try.prog 18 #[.agg #[.int .u32 g, .slice A n c], .agg #[.int .u32 g, .slice A2 m c2]] w fun e w' => e = .returned (.bool true) ∧ Below w.heap.size w w' := by
  have t1 : (g == g) = true := by simp
  have b1 : Below w.heap.size w ((w.alloc (.cells #[.int .u32 g, .slice A n c] 52)).alloc (.cells #[.int .u32 g, .slice A2 m c2] 52)) := ((Below.refl _ _).alloc (Nat.le_refl _) _).alloc (by simp) _
  have r1 := hr.keep (Kp.below b1 hS) (fun _ h => h)
  have r2 := hr2.keep (Kp.below b1 hS2) (fun _ h => h)
  go_enter Try.func18, Try.ntmps18
  go_wp2_with fail
  refine (eqFunc_yes A A2 n c m c2 S S2 ws _ r1 r2 (fun b h => by have := hS b h; simp; omega) (fun b h => by have := hS2 b h; simp; omega) hn).mono ?_
  rintro e w5 ⟨rfl, hb5⟩
  go_wp2
  go_ret
  exact ⟨rfl, b1.trans (hb5.mono (by simp; omega))⟩

set_option maxRecDepth 100000 in
set_option maxHeartbeats 1000000 in
theorem join_x (A : Option Addr) (n c : Nat) (S : Nat → Prop) (yss : List (List UInt8)) (w : World) (hr : RdX shS w S A n c yss) (hS : ∀ b, S b → b < w.heap.size)
    (hn : n ≤ 9223372036854775807) (ht : yss.flatten.length ≤ 1099511627776) :
    Calls Try.prog 6 #[.slice A n c] w (RetL bv 5 w yss.flatten) := by
  have HL := Lib.hid hr.len
  obtain ⟨i0, hi, hz0, hz1, hz2⟩ := info_parts Try.infoU8
  go_enter Try.func6, Try.ntmps6
  go_wp2
  go_loopw [3, 8] (fun v i wr => ∃ (k : Nat) (A' : Option Addr) (n' c' : Nat), k ≤ n ∧ i = .int .i64 k ∧ v = .slice A' n' c' ∧ Own bv wr w.heap.size 5 A' n' c' ((yss.take k).flatten) ∧ Below w.heap.size w wr)
    (fun _ i _ => n - (intOf i).toNat)
  case atStart => exact ⟨0, none, 0, 0, Nat.zero_le _, rfl, rfl, by simpa using Own.empty bv w w.heap.size 5, Below.refl _ _⟩
  case round =>
    obtain ⟨k, A', n', c', hk, rfl, rfl, hown, hb⟩ := hrel
    by_cases hlt : k < n
    · have hk2 : k < yss.length := by rw [HL.out]; exact hlt
      obtain ⟨b, off, A2, m2, c2, rfl, hSb, hc, hrk⟩ := rdS_at (hr.keep (Kp.below hb hS) (fun _ h => h)) k hk2
      have HT := Lib.hid (flatten_take_snoc yss k hk2)
      have hle := flatten_take_le yss (k + 1)
      rw [HT.out, List.length_append, hown.len, hrk.len] at hle
      have hle2 := Nat.le_trans hle ht
      clear hle
      have hsz := hb.size
      generalize yss[k] = ys at *
      have hrk' : Rd bv wr w.heap.size A2 m2 c2 ys := hrk.rd hS
      clear hrk
      go_wp2_with (at_builtin; refine wpList_app _ oneCell_bv rfl (.tmp 12) (.tmp 13) _ rfl w.heap.size 5 i0 _ 1 Try.underlying23 hi hz0 hz1 hz2 rfl A' n' c' _ rfl hown w.heap.size A2 m2 c2 ys rfl hrk' (by simp only [maxLen]; omega) (by omega) (by omega) ?_; intro A1 c1 w1 hown1 hb1 _)
      go_roundw
      case rel => exact ⟨k + 1, A1, n' + m2, c1, by omega, by go_num, rfl, by rw [HT.out]; exact hown1, hb.trans hb1⟩
      case measure => simp [intOf]; omega
    · go_wp2
      go_ret
      refine ⟨A', n', c', rfl, ?_, hb⟩
      rw [List.take_of_length_le (by rw [HL.out]; omega)] at hown
      exact hown

end Go.Proofs.Ytkgccoghdalniaa

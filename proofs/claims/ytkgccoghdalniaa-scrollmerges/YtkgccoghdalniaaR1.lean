/- Contracts of the helpers of package kotatsuref01 that work on bytes: Cut, Same, Join. No law is claimed here. -/
import Derived.Test.YtkgccoghdalniaaBase
namespace Go.Proofs.Ytkgccoghdalniaa
open Go.RowKit

theorem take_take_snoc {α : Type} (xs : List α) (k M : Nat) (h : k < xs.length) (hM : k < M) : (xs.take (k + 1)).take M = (xs.take k).take M ++ [xs[k]] := by
  rw [List.take_take, List.take_take, Nat.min_eq_right (by omega), Nat.min_eq_right (by omega)]
  exact List.take_succ_eq_append_getElem h
theorem take_take_same {α : Type} (xs : List α) (k M : Nat) (hM : M ≤ k) : (xs.take (k + 1)).take M = (xs.take k).take M := by
  rw [List.take_take, List.take_take, Nat.min_eq_left (by omega), Nat.min_eq_left (by omega)]

set_option maxRecDepth 100000 in
set_option maxHeartbeats 400000 in
theorem cut_any (A : Option Addr) (n c B : Nat) (xs : List UInt8) (m : Int) (w : World) (hr : Rd bv w B A n c xs) (hB : B ≤ w.heap.size) (hn : n ≤ 9223372036854775807) (h0 : 0 ≤ m) (hm : m ≤ 65536) :
    Calls Try.prog 8 #[.slice A n c, .int .i64 m] w (RetL bv 5 w (xs.take m.toNat)) := by
  obtain ⟨M, rfl⟩ := Int.eq_ofNat_of_zero_le h0
  rw [Int.toNat_natCast]
  have hl := hr.len
  obtain ⟨i0, hi, hz0, hz1, hz2⟩ := info_parts Try.infoU8
  have HL := Lib.hid hl
  clear hl
  go_enter Try.func8, Try.ntmps8
  go_wp2
  go_loopw [5, 10] (fun v i wr => ∃ (k : Nat) (A' : Option Addr) (n' c' : Nat), k ≤ n ∧ i = .int .i64 k ∧ v = .slice A' n' c' ∧ n' ≤ M ∧ Own bv wr w.heap.size 5 A' n' c' ((xs.take k).take M) ∧ Below w.heap.size w wr)
    (fun _ i _ => n - (intOf i).toNat)
  case atStart => exact ⟨0, none, 0, 0, Nat.zero_le _, rfl, rfl, Nat.zero_le _, by simpa using Own.empty bv w w.heap.size 5, Below.refl _ _⟩
  case round =>
    obtain ⟨k, A', n', c', hk, rfl, rfl, hn', hown, hb⟩ := hrel
    by_cases hlt : k < n
    · obtain ⟨b, off, rfl, hbB, hc0⟩ := hr.at_ k (by rw [HL.out]; exact hlt)
      have hc : wr.cell? ⟨b, off + k, none⟩ = some (bv (xs[k]'(by rw [HL.out]; exact hlt))) := (hb.cell (p := ⟨b, off + k, none⟩) (Nat.lt_of_lt_of_le hbB hB)).trans hc0
      have hsz := hb.size
      clear hc0
      by_cases hkm : k < M
      · have HT := Lib.hid (take_take_snoc xs k M (by rw [HL.out]; exact hlt) hkm)
        generalize xs[k]'(by rw [HL.out]; exact hlt) = x at *
        unfold bv at hc
        have hkm' : (k : Int) < (M : Int) := by omega
        have hnk : n' ≤ k := by
          have := hown.len; simp at this; omega
        go_wp2_with (at_builtin; refine wpList_app _ oneCell_bv rfl (.tmp 18) (.tmp 20) _ rfl w.heap.size 5 i0 _ 1 Try.underlying23 hi hz0 hz1 hz2 rfl A' n' c' _ rfl (hown.alloc _) (wr.heap.size + 1) _ 1 1 [x] rfl (Rd.one _ _ _) (by simp only [maxLen]; omega) (by omega) (by simp; omega) ?_; intro A1 c1 w1 hown1 hb1 _)
        go_roundw
        case rel => exact ⟨k + 1, A1, n' + 1, c1, by omega, by go_num, rfl, by omega, by rw [HT.out]; exact hown1, hb.trans (((Below.refl _ _).alloc (by omega) _).trans hb1)⟩
        case measure => simp [intOf]; omega
      · have hkm' : ¬ (k : Int) < (M : Int) := by omega
        have HT := Lib.hid (take_take_same xs k M (by omega))
        generalize xs[k]'(by rw [HL.out]; exact hlt) = x at *
        unfold bv at hc
        go_wp2
        go_roundw
        case rel => exact ⟨k + 1, A', n', c', by omega, by go_num, rfl, hn', by rw [HT.out]; exact hown, hb⟩
        case measure => simp [intOf]; omega
    · go_wp2
      go_ret
      refine ⟨A', n', c', rfl, ?_, hb⟩
      rw [List.take_of_length_le (l := xs) (i := k) (by rw [HL.out]; omega)] at hown
      exact hown

/-- nothing was done but reading, in whatever order -/
def Still (w w' : World) : Prop := ∃ q, w' = w.drewN q
theorem Still.more {w w' : World} (h : Still w w') (k : Nat) : Still w (w'.drewN k) := by
  obtain ⟨q, rfl⟩ := h
  exact ⟨q + k, by simp⟩
theorem Still.below {w w' : World} (h : Still w w') (B : Nat) : Below B w w' := by
  obtain ⟨q, rfl⟩ := h
  exact ⟨rfl, rfl, rfl, Nat.le_refl _, fun _ _ => rfl⟩

set_option maxRecDepth 100000 in
set_option maxHeartbeats 400000 in
theorem same_no_len (A A2 : Option Addr) (n c m c2 : Nat) (w : World) (h : n ≠ m) :
    Calls Try.prog 16 #[.slice A n c, .slice A2 m c2] w fun e w' => e = .returned (.bool false) ∧ w = w' := by
  have h1 : ((n : Int) != (m : Int)) = true := by rw [bne_iff_ne]; omega
  go_enter Try.func16, Try.ntmps16
  go_wp2
  go_ret
  exact ⟨rfl, rfl⟩

set_option maxRecDepth 100000 in
set_option maxHeartbeats 400000 in
theorem same_yes (A A2 : Option Addr) (n c m c2 B B2 : Nat) (xs : List UInt8) (w : World) (hr : Rd bv w B A n c xs) (hr2 : Rd bv w B2 A2 m c2 xs) (hn : n ≤ 9223372036854775807) :
    Calls Try.prog 16 #[.slice A n c, .slice A2 m c2] w fun e w' => e = .returned (.bool true) ∧ Still w w' := by
  have hl := hr.len
  obtain rfl : n = m := by have := hr2.len; omega
  have HL := Lib.hid hl
  clear hl
  have h1 : ((n : Int) != (n : Int)) = false := by simp
  go_enter Try.func16, Try.ntmps16
  go_wp2
  go_loopw [13] (fun i wr => ∃ (k : Nat), k ≤ n ∧ i = .int .i64 k ∧ Still w wr)
    (fun i _ => n - (intOf i).toNat)
  case atStart => exact ⟨0, Nat.zero_le _, rfl, 0, rfl⟩
  case round =>
    obtain ⟨k, hk, rfl, q, rfl⟩ := hrel
    by_cases hlt : k < n
    · obtain ⟨b, off, rfl, _, hc⟩ := hr.at_ k (by rw [HL.out]; exact hlt)
      obtain ⟨b2, off2, rfl, _, hc2⟩ := hr2.at_ k (by rw [HL.out]; exact hlt)
      generalize xs[k]'(by rw [HL.out]; exact hlt) = x at *
      unfold bv at hc hc2
      have h2 : ((x.toNat : Int) != (x.toNat : Int)) = false := by simp
      go_wp2
      go_quiet (fail)
      go_wp2
      go_roundw
      case rel => exact ⟨k + 1, by omega, by go_num, _, rfl⟩
      case measure => simp [intOf]; omega
    · go_wp2
      go_ret
      exact ⟨rfl, q, rfl⟩

def Agree (xs ys : List UInt8) (k : Nat) : Prop := xs.take k = ys.take k
theorem Agree.succ {xs ys : List UInt8} {k : Nat} (h : Agree xs ys k) (h1 : k < xs.length) (h2 : k < ys.length) (e : xs[k] = ys[k]) : Agree xs ys (k + 1) := by
  unfold Agree at *
  rw [List.take_succ_eq_append_getElem h1, List.take_succ_eq_append_getElem h2, h, e]

set_option maxRecDepth 100000 in
set_option maxHeartbeats 400000 in
theorem same_no_elem (A A2 : Option Addr) (n c c2 B B2 : Nat) (xs ys : List UInt8) (w : World) (hr : Rd bv w B A n c xs) (hr2 : Rd bv w B2 A2 n c2 ys) (hne : xs ≠ ys) (hn : n ≤ 9223372036854775807) :
    Calls Try.prog 16 #[.slice A n c, .slice A2 n c2] w fun e w' => e = .returned (.bool false) ∧ Still w w' := by
  have HL := Lib.hid hr.len
  have HL2 := Lib.hid hr2.len
  have HN := Lib.hid hne
  clear hne
  have h1 : ((n : Int) != (n : Int)) = false := by simp
  go_enter Try.func16, Try.ntmps16
  go_wp2
  go_loopw [13] (fun i wr => ∃ (k : Nat), k ≤ n ∧ i = .int .i64 k ∧ Still w wr ∧ Agree xs ys k)
    (fun i _ => n - (intOf i).toNat)
  case atStart => exact ⟨0, Nat.zero_le _, rfl, ⟨0, rfl⟩, rfl⟩
  case round =>
    obtain ⟨k, hk, rfl, ⟨q, rfl⟩, hag⟩ := hrel
    by_cases hlt : k < n
    · obtain ⟨b, off, rfl, _, hc⟩ := hr.at_ k (by rw [HL.out]; exact hlt)
      obtain ⟨b2, off2, rfl, _, hc2⟩ := hr2.at_ k (by rw [HL2.out]; exact hlt)
      have HS := Lib.hid (fun e => hag.succ (by rw [HL.out]; exact hlt) (by rw [HL2.out]; exact hlt) e)
      generalize xs[k]'(by rw [HL.out]; exact hlt) = x at *
      generalize ys[k]'(by rw [HL2.out]; exact hlt) = y at *
      unfold bv at hc hc2
      by_cases hxy : x = y
      · subst hxy
        have h2 : ((x.toNat : Int) != (x.toNat : Int)) = false := by simp
        go_wp2
        go_quiet (fail)
        go_wp2
        go_roundw
        case rel => exact ⟨k + 1, by omega, by go_num, ⟨_, rfl⟩, HS.out trivial⟩
        case measure => simp [intOf]; omega
      · have h2 : ((x.toNat : Int) != (y.toNat : Int)) = true := by
          rw [bne_iff_ne]; intro h; exact hxy (UInt8.toNat_inj.1 (by omega))
        clear hxy
        go_wp2
        go_quiet (fail)
        go_wp2
        go_ret
        exact ⟨rfl, Still.more ⟨q, rfl⟩ _⟩
    · exfalso
      apply HN.out
      unfold Agree at hag
      rw [List.take_of_length_le (by rw [HL.out]; omega), List.take_of_length_le (by rw [HL2.out]; omega)] at hag
      exact hag

theorem same_no (A A2 : Option Addr) (n c m c2 B B2 : Nat) (xs ys : List UInt8) (w : World) (hr : Rd bv w B A n c xs) (hr2 : Rd bv w B2 A2 m c2 ys) (hne : xs ≠ ys) (hn : n ≤ 9223372036854775807) :
    Calls Try.prog 16 #[.slice A n c, .slice A2 m c2] w fun e w' => e = .returned (.bool false) ∧ Still w w' := by
  by_cases h : n = m
  · subst h
    exact same_no_elem A A2 n c c2 B B2 xs ys w hr hr2 hne hn
  · exact (same_no_len A A2 n c m c2 w h).mono fun e w' ⟨h1, h2⟩ => ⟨h1, 0, by rw [← h2]; rfl⟩

/-- a slice as an element of a slice -/
def sv (s : Option Addr × Nat × Nat) : Value := .slice s.1 s.2.1 s.2.2
/-- the slices ss read as the lists yss -/
def Rds (w : World) (B : Nat) (ss : List (Option Addr × Nat × Nat)) (yss : List (List UInt8)) : Prop :=
  ss.length = yss.length ∧ ∀ (j : Nat) (s : Option Addr × Nat × Nat) (ys : List UInt8), ss[j]? = some s → yss[j]? = some ys → Rd bv w B s.1 s.2.1 s.2.2 ys

theorem flatten_take_snoc {α : Type} (yss : List (List α)) (k : Nat) (h : k < yss.length) : (yss.take (k + 1)).flatten = (yss.take k).flatten ++ yss[k] := by
  rw [List.take_succ_eq_append_getElem h, List.flatten_append, List.flatten_cons, List.flatten_nil, List.append_nil]
theorem flatten_take_le {α : Type} (yss : List (List α)) (k : Nat) : ((yss.take k).flatten).length ≤ yss.flatten.length := by
  have h : (yss.take k).flatten ++ (yss.drop k).flatten = yss.flatten := by rw [← List.flatten_append, List.take_append_drop]
  rw [← h]; simp

set_option maxRecDepth 100000 in
set_option maxHeartbeats 400000 in
theorem join_any (A : Option Addr) (n c B : Nat) (ss : List (Option Addr × Nat × Nat)) (yss : List (List UInt8)) (w : World) (hr : Rd sv w B A n c ss) (hrs : Rds w B ss yss) (hB : B ≤ w.heap.size)
    (hn : n ≤ 9223372036854775807) (ht : yss.flatten.length ≤ 1099511627776) :
    Calls Try.prog 6 #[.slice A n c] w (RetL bv 5 w yss.flatten) := by
  have HL := Lib.hid hr.len
  have HL2 := Lib.hid hrs.1
  obtain ⟨i0, hi, hz0, hz1, hz2⟩ := info_parts Try.infoU8
  go_enter Try.func6, Try.ntmps6
  go_wp2
  go_loopw [3, 8] (fun v i wr => ∃ (k : Nat) (A' : Option Addr) (n' c' : Nat), k ≤ n ∧ i = .int .i64 k ∧ v = .slice A' n' c' ∧ Own bv wr w.heap.size 5 A' n' c' ((yss.take k).flatten) ∧ Below w.heap.size w wr)
    (fun _ i _ => n - (intOf i).toNat)
  case atStart => exact ⟨0, none, 0, 0, Nat.zero_le _, rfl, rfl, by simpa using Own.empty bv w w.heap.size 5, Below.refl _ _⟩
  case round =>
    obtain ⟨k, A', n', c', hk, rfl, rfl, hown, hb⟩ := hrel
    by_cases hlt : k < n
    · have hk1 : k < ss.length := by rw [HL.out]; exact hlt
      have hk2 : k < yss.length := by rw [← HL2.out]; exact hk1
      obtain ⟨b, off, rfl, hbB, hc0⟩ := hr.at_ k hk1
      have hc : wr.cell? ⟨b, off + k, none⟩ = some (sv ss[k]) := (hb.cell (p := ⟨b, off + k, none⟩) (Nat.lt_of_lt_of_le hbB hB)).trans hc0
      have hrk := hrs.2 k _ _ (List.getElem?_eq_getElem hk1) (List.getElem?_eq_getElem hk2)
      have HT := Lib.hid (flatten_take_snoc yss k hk2)
      have hle := flatten_take_le yss (k + 1)
      rw [HT.out, List.length_append, hown.len, hrk.len] at hle
      have hle2 := Nat.le_trans hle ht
      clear hc0 hle
      have hsz := hb.size
      generalize ss[k] = s at *
      generalize yss[k] = ys at *
      obtain ⟨A2, m2, c2⟩ := s
      unfold sv at hc
      simp only at hc hrk hle2
      have hrk' : Rd bv wr B A2 m2 c2 ys := hrk.belowLe hb hB
      clear hrk
      go_wp2_with (at_builtin; refine wpList_app _ oneCell_bv rfl (.tmp 12) (.tmp 13) _ rfl w.heap.size 5 i0 _ 1 Try.underlying23 hi hz0 hz1 hz2 rfl A' n' c' _ rfl hown B A2 m2 c2 ys rfl hrk' (by simp only [maxLen]; omega) (by omega) (by omega) ?_; intro A1 c1 w1 hown1 hb1 _)
      go_roundw
      case rel => exact ⟨k + 1, A1, n' + m2, c1, by omega, by go_num, rfl, by rw [HT.out]; exact hown1, hb.trans hb1⟩
      case measure => simp [intOf]; omega
    · go_wp2
      go_ret
      refine ⟨A', n', c', rfl, ?_, hb⟩
      rw [List.take_of_length_le (by rw [← HL2.out, HL.out]; omega)] at hown
      exact hown

/-- a block that was made of some elements reads as them (marked or not) -/
theorem Rd.made {α : Type} {f : α → Value} (w : World) (e : TypeId) (fr : Nat × Nat) (xs : List α) (cs : Array Value) (g n : Nat) (hcs : cs = (xs.map f).toArray) (hg : g = w.heap.size) (hn : xs.length = n) :
    Rd f (w.alloc (.cells cs e fr)) (g + 1) (some ⟨g, 0, none⟩) n n xs := by
  subst hcs; subst hg; subst hn
  refine ⟨rfl, Nat.le_refl _, fun j hj => ⟨_, _, rfl, by omega, ?_⟩⟩
  rw [cell_of_row _ _ _ _ _ _ (heap_alloc_new w _)]
  simp [hj]

theorem RetL.from_alloc {α : Type} {f : α → Value} {e : TypeId} {w : World} {o : Obj} {xs : List α} {r : Ending} {w' : World} (h : RetL f e (w.alloc o) xs r w') : RetL f e w xs r w' := by
  obtain ⟨A, n, c, rfl, ho, hb⟩ := h
  have hs : (w.alloc o).heap.size = w.heap.size + 1 := by simp
  rw [hs] at ho hb
  exact ⟨A, n, c, rfl, ho.lower (by omega), ((Below.refl _ _).alloc (Nat.le_refl _) o).trans (hb.mono (by omega))⟩

/-- Join of one, two, three slices, as they are laid for the call -/
theorem join1_any (w : World) (g : Nat) (A1 : Option Addr) (n1 c1 B : Nat) (xs : List UInt8) (hg : g = w.heap.size)
    (h1 : Rd bv w B A1 n1 c1 xs) (hB : B ≤ w.heap.size) (ht : n1 ≤ 1099511627776) :
    Calls Try.prog 6 #[.slice (some ⟨g, 0, none⟩) 1 1] (w.alloc (.cells #[.slice A1 n1 c1] 23)) (RetL bv 5 w xs) := by
  subst hg
  have := join_any _ 1 1 (w.heap.size + 1) [(A1, n1, c1)] [xs] _ (Rd.made (f := sv) w 23 (0, 0) [(A1, n1, c1)] #[.slice A1 n1 c1] _ 1 rfl rfl rfl)
    ⟨rfl, fun j s ys hs hy => by
      match j, hs, hy with
      | 0, hs, hy => simp at hs hy; subst hs; subst hy; exact (h1.alloc hB _).more (by omega)⟩ (by simp) (by omega) (by simp [h1.len]; omega)
  refine this.mono fun e w' h => ?_
  have := RetL.from_alloc h
  simpa using this
theorem join2_any (w : World) (g : Nat) (A1 A2 : Option Addr) (n1 c1 n2 c2 B : Nat) (xs ys : List UInt8) (hg : g = w.heap.size)
    (h1 : Rd bv w B A1 n1 c1 xs) (h2 : Rd bv w B A2 n2 c2 ys) (hB : B ≤ w.heap.size) (ht : n1 + n2 ≤ 1099511627776) :
    Calls Try.prog 6 #[.slice (some ⟨g, 0, none⟩) 2 2] (w.alloc (.cells #[.slice A1 n1 c1, .slice A2 n2 c2] 23)) (RetL bv 5 w (xs ++ ys)) := by
  subst hg
  have := join_any _ 2 2 (w.heap.size + 1) [(A1, n1, c1), (A2, n2, c2)] [xs, ys] _ (Rd.made (f := sv) w 23 (0, 0) [(A1, n1, c1), (A2, n2, c2)] #[.slice A1 n1 c1, .slice A2 n2 c2] _ 2 rfl rfl rfl)
    ⟨rfl, fun j s ys hs hy => by
      match j, hs, hy with
      | 0, hs, hy => simp at hs hy; subst hs; subst hy; exact (h1.alloc hB _).more (by omega)
      | 1, hs, hy => simp at hs hy; subst hs; subst hy; exact (h2.alloc hB _).more (by omega)⟩ (by simp) (by omega) (by simp [h1.len, h2.len]; omega)
  refine this.mono fun e w' h => ?_
  have := RetL.from_alloc h
  simpa using this
theorem join3_any (w : World) (g : Nat) (A1 A2 A3 : Option Addr) (n1 c1 n2 c2 n3 c3 B : Nat) (xs ys zs : List UInt8) (hg : g = w.heap.size)
    (h1 : Rd bv w B A1 n1 c1 xs) (h2 : Rd bv w B A2 n2 c2 ys) (h3 : Rd bv w B A3 n3 c3 zs) (hB : B ≤ w.heap.size) (ht : n1 + n2 + n3 ≤ 1099511627776) :
    Calls Try.prog 6 #[.slice (some ⟨g, 0, none⟩) 3 3] (w.alloc (.cells #[.slice A1 n1 c1, .slice A2 n2 c2, .slice A3 n3 c3] 23)) (RetL bv 5 w (xs ++ ys ++ zs)) := by
  subst hg
  have := join_any _ 3 3 (w.heap.size + 1) [(A1, n1, c1), (A2, n2, c2), (A3, n3, c3)] [xs, ys, zs] _ (Rd.made (f := sv) w 23 (0, 0) [(A1, n1, c1), (A2, n2, c2), (A3, n3, c3)] #[.slice A1 n1 c1, .slice A2 n2 c2, .slice A3 n3 c3] _ 3 rfl rfl rfl)
    ⟨rfl, fun j s ys hs hy => by
      match j, hs, hy with
      | 0, hs, hy => simp at hs hy; subst hs; subst hy; exact (h1.alloc hB _).more (by omega)
      | 1, hs, hy => simp at hs hy; subst hs; subst hy; exact (h2.alloc hB _).more (by omega)
      | 2, hs, hy => simp at hs hy; subst hs; subst hy; exact (h3.alloc hB _).more (by omega)⟩ (by simp) (by omega) (by simp [h1.len, h2.len, h3.len]; omega)
  refine this.mono fun e w' h => ?_
  have := RetL.from_alloc h
  simpa using this

end Go.Proofs.Ytkgccoghdalniaa

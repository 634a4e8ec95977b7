/- Contracts of package kotatsuref02: Long, Step, Short, Lay, Take. No law is claimed here. -/
import Derived.Test.YtghbgehmaejggaaDoorRefW
namespace Go.Proofs.YtghbgehmaejggaaDoor
open Go.RowKit

theorem bitsK_01 (k : Nat) : ∀ b x, x ∈ bitsK k b → x ≤ 1 := by
  induction k with
  | zero => intro b x h; simp [bitsK] at h
  | succ k ih =>
    intro b x h
    simp [bitsK] at h
    rcases h with rfl | h
    · omega
    · exact ih _ _ h
theorem bitsN_01 (xs : List UInt8) (x : Nat) (h : x ∈ bitsN xs) : x ≤ 1 := by
  simp [bitsN] at h
  obtain ⟨y, _, hy⟩ := h
  exact bitsK_01 8 _ _ hy
theorem bitsN_one (b : UInt8) : bitsN [b] = bitsK 8 b.toNat := by simp [bitsN]

theorem xor_u64n (a : Nat) (ha : a < 4294967296) : bits .xor .u64 (a : Int) 3988292384 = ((a ^^^ 3988292384 : Nat) : Int) :=
  xor_uns .u64 rfl a 3988292384 (Nat.lt_trans ha (by decide)) (by decide)

/-- the round of the reference's Long, as the walk writes it -/
theorem lbit_yes (r b : Int) (hr : 0 ≤ r) (hr2 : r < 4294967296) (hb : 0 ≤ b) (h : (r + b) % 2 = 1) : bits .xor .u64 (r / 2) 3988292384 = (lbit r.toNat b.toNat : Int) := by
  have := xor_u64n (r / 2).toNat (by omega)
  rw [Int.toNat_of_nonneg (by omega)] at this
  rw [this]
  unfold lbit
  rw [if_pos (by omega), show (r / 2).toNat = r.toNat / 2 from by omega]
theorem lbit_no (r b : Int) (hr : 0 ≤ r) (hb : 0 ≤ b) (h : ¬ (r + b) % 2 = 1) : r / 2 = (lbit r.toNat b.toNat : Int) := by
  unfold lbit
  rw [if_neg (by omega), Nat.xor_zero]
  omega

theorem sbit_yes (r x : Int) (hr : 0 ≤ r) (hr2 : r < 65536) (hx : 0 ≤ x) (hx1 : x ≤ 1) (h : r % 2 = 1) : bits .xor .i64 (r / 2 + 32768 * x) 33800 = (sbit r.toNat x.toNat : Int) := by
  have := xor_i64 (r.toNat / 2 + x.toNat * 32768) 33800 (Nat.lt_trans (m := 131072) (by omega) (by decide)) (by decide)
  rw [show r / 2 + 32768 * x = ((r.toNat / 2 + x.toNat * 32768 : Nat) : Int) from by omega]
  refine this.trans ?_
  unfold sbit
  rw [if_pos (by omega)]
theorem sbit_no (r x : Int) (hr : 0 ≤ r) (hx : 0 ≤ x) (h : ¬ r % 2 = 1) : r / 2 + 32768 * x = (sbit r.toNat x.toNat : Int) := by
  unfold sbit
  rw [if_neg (by omega), Nat.xor_zero]
  omega

set_option maxRecDepth 100000 in
set_option maxHeartbeats 1000000 in
theorem rstep_any (s b : Int) (w : World) (hs : 0 ≤ s) (hs2 : s < 65536) (hb : 0 ≤ b) (hb2 : b < 256) :
    Calls Tryd.prog 30 #[.int .u16 s, .int .u8 b] w fun e w' => e = .returned (.int .u16 (stepN s.toNat b.toNat : Int)) ∧ Below w.heap.size w w' := by
  have eb : (UInt8.ofNat b.toNat).toNat = b.toNat := by rw [UInt8.toNat_ofNat']; omega
  have HE : Hid (stepN s.toNat b.toNat = (bitsN [UInt8.ofNat b.toNat]).foldl sbit s.toNat) := by rw [bitsN_one, eb]; exact stepK_bits 8 _ _
  have hrt : Rd bv (w.alloc (.cells #[.int .u8 b] 5)) (w.heap.size + 1) (some ⟨w.heap.size, 0, none⟩) 1 1 [UInt8.ofNat b.toNat] :=
    Rd.made (f := bv) w 5 (0, 0) _ _ _ 1 (by simp only [List.map_cons, List.map_nil, bv, eb]; rw [Int.toNat_of_nonneg hb]) rfl rfl
  clear eb
  generalize stepN s.toNat b.toNat = L at *
  generalize hys : [UInt8.ofNat b.toNat] = ys at *
  have hyl : ys.length ≤ 1 := by rw [← hys]; simp
  clear hys
  go_enter Tryd.func30, Tryd.ntmps30
  go_wp2_with fail
  refine (rbits_any _ 1 1 (w.heap.size + 1) ys _ hrt (by simp) (by omega)).mono ?_
  rintro e w1 ⟨A1, n1, c1, rfl, ho1, hb1⟩
  have HL : Hid ((bitsN ys).length = n1) := Lib.hid (by have := ho1.len; simpa [bitsI] using this)
  have hn1 : n1 ≤ 8 := by have := ho1.len; rw [bitsI_len] at this; omega
  have h01 : Hid (∀ x ∈ bitsN ys, x ≤ 1) := bitsN_01 ys
  have hr1 := ho1.rd
  have hbel : Below w.heap.size w w1 := ((Below.refl _ _).alloc (Nat.le_refl _) _).trans (hb1.mono (by simp))
  unfold bitsI at hr1
  generalize bitsN ys = bs at *
  clear ho1 hb1 hrt hyl
  go_wp2
  go_loop [5, 15] (fun s' i => ∃ (k : Nat) (r : Int), k ≤ n1 ∧ i = .int .i64 k ∧ s' = .int .i64 r ∧ 0 ≤ r ∧ r < 65536 ∧ Hid (r.toNat = (bs.take k).foldl sbit s.toNat)) (fun _ i => n1 - (intOf i).toNat)
  case atStart => exact ⟨0, s, by omega, rfl, rfl, by omega, by omega, rfl⟩
  case round =>
    obtain ⟨k, r, hk, rfl, rfl, hr0, hr2, hR⟩ := hrel
    by_cases hlt : k < n1
    · have hkb : k < bs.length := by rw [HL.out]; exact hlt
      obtain ⟨b', off, rfl, _, hc⟩ := hr1.at_ k (by simpa using hkb)
      have HS : Hid ((bs.take (k + 1)).foldl sbit s.toNat = sbit r.toNat bs[k]) := by
        rw [List.take_succ_eq_append_getElem hkb, List.foldl_append, ← hR.out]; rfl
      have hx1 := h01.out bs[k] (List.getElem_mem hkb)
      simp only [List.getElem_map, iv] at hc
      obtain ⟨x, HX, hx0, hx2⟩ : ∃ x : Int, Hid (bs[k] = x.toNat) ∧ 0 ≤ x ∧ x ≤ 1 := ⟨bs[k], rfl, by omega, by omega⟩
      have eX : Int.ofNat bs[k] = x := by have := HX.out; rw [this]; show ((x.toNat : Nat) : Int) = x; omega
      rw [eX] at hc
      have HS' : Hid ((bs.take (k + 1)).foldl sbit s.toNat = sbit r.toNat x.toNat) := by rw [← HX.out]; exact HS.out
      clear HS HX eX hx1
      have hl := sbit_lt r.toNat x.toNat (by omega) (by omega)
      by_cases h1 : r % 2 = 1
      · have h1' : (r % 2 == 1) = true := by simp [h1]
        have HY := Lib.hid (sbit_yes r x hr0 hr2 hx0 hx2 h1)
        clear h1
        generalize sbit r.toNat x.toNat = y at *
        have HY2 : Hid (y < 65536) := hl
        clear hl
        go_wp2
        rw [HY.out]
        go_round
        case rel => exact ⟨k + 1, (y : Nat), by omega, by go_num, rfl, by omega, by have := HY2.out; omega, HS'.out.symm⟩
        case measure => simp [intOf]; omega
      · have h1' : (r % 2 == 1) = false := by simp [h1]
        have HY := Lib.hid (sbit_no r x hr0 hx0 h1)
        clear h1
        generalize sbit r.toNat x.toNat = y at *
        have HY2 : Hid (y < 65536) := hl
        clear hl
        go_wp2
        rw [HY.out]
        go_round
        case rel => exact ⟨k + 1, (y : Nat), by omega, by go_num, rfl, by omega, by have := HY2.out; omega, HS'.out.symm⟩
        case measure => simp [intOf]; omega
    · have e := hR.out
      rw [List.take_of_length_le (by rw [HL.out]; omega)] at e
      have HF : Hid ((L : Int) = r) := by have := HE.out; show _ = _; omega
      clear e HE
      go_wp2
      go_ret
      rw [HF.out]
      exact ⟨rfl, hbel⟩

set_option maxRecDepth 100000 in
set_option maxHeartbeats 1000000 in
theorem rshort_any (A : Option Addr) (n c B : Nat) (xs : List UInt8) (w : World) (hr : Rd bv w B A n c xs) (hB : B ≤ w.heap.size) (hn : n ≤ 1000000) :
    Calls Tryd.prog 16 #[.slice A n c] w fun e w' => e = .returned (.int .u16 (shortN xs : Int)) ∧ Below w.heap.size w w' := by
  have HE : Hid (shortN xs = shortF 32768 (xs ++ [0, 0])) := Lib.hid (by simp [shortN, shortF])
  generalize shortN xs = L at *
  have hrt : Rd bv (w.alloc (.cells #[.int .u8 0, .int .u8 0] 5)) (w.heap.size + 1) (some ⟨w.heap.size, 0, none⟩) 2 2 [0, 0] :=
    Rd.made (f := bv) w 5 (0, 0) _ _ _ 2 rfl rfl rfl
  go_enter Tryd.func16, Tryd.ntmps16
  go_wp2_with fail
  refine (join2_any (w.alloc (.cells #[.int .u8 0, .int .u8 0] 5)) _ A _ n c 2 2 (w.heap.size + 1) xs _ (by simp) ((hr.alloc hB _).more (by omega)) hrt (by simp) (by omega)).mono ?_
  rintro e w1 ⟨A1, n1, c1, rfl, ho1, hb1⟩
  have HL := Lib.hid ho1.len
  have hn1 : n1 ≤ 1000002 := by have := HL.out; have := hr.len; simp at *; omega
  have hr1 := ho1.rd
  have hbel : Below w.heap.size w w1 := ((Below.refl _ _).alloc (Nat.le_refl _) _).trans (hb1.mono (by simp))
  generalize xs ++ [0, 0] = zs at *
  clear ho1 hb1 hrt
  go_wp2
  go_loopw [3, 11] (fun s i wr => ∃ (k : Nat) (r : Int), k ≤ n1 ∧ i = .int .i64 k ∧ s = .int .u16 r ∧ 0 ≤ r ∧ r < 65536 ∧ Hid (r.toNat = shortF 32768 (zs.take k)) ∧ Below w1.heap.size w1 wr) (fun _ i _ => n1 - (intOf i).toNat)
  case atStart => exact ⟨0, 32768, by omega, rfl, rfl, by omega, by omega, rfl, Below.refl _ _⟩
  case round =>
    obtain ⟨k, r, hk, rfl, rfl, hr0, hr2, hR, hbw⟩ := hrel
    by_cases hlt : k < n1
    · obtain ⟨b, off, rfl, hbb, hc0⟩ := hr1.at_ k (by rw [HL.out]; exact hlt)
      have hc := (hbw.cell (p := ⟨b, off + k, none⟩) hbb).trans hc0
      clear hc0
      have HS : Hid (shortF 32768 (zs.take (k + 1)) = stepN r.toNat (zs[k]'(by rw [HL.out]; exact hlt)).toNat) := by
        rw [List.take_succ_eq_append_getElem (by rw [HL.out]; exact hlt), shortF_snoc, ← hR.out]; rfl
      generalize zs[k]'(by rw [HL.out]; exact hlt) = x at *
      unfold bv at hc
      have hx := x.toNat_lt
      go_wp2_with (go_at_call 30; refine (rstep_any _ _ _ (by omega) (by omega) (by omega) (by omega)).mono ?_; rintro e w2 ⟨rfl, hb2⟩)
      have hlt2 := stepN_lt r.toNat x.toNat (by omega)
      go_roundw
      case rel => exact ⟨k + 1, (stepN r.toNat x.toNat : Nat), by omega, by go_num, rfl, by omega, by omega, HS.out.symm, hbw.trans (hb2.mono hbw.size)⟩
      case measure => simp [intOf]; omega
    · have e := hR.out
      rw [List.take_of_length_le (by rw [HL.out]; omega)] at e
      have HF : Hid ((L : Int) = r) := by have := HE.out; show _ = _; omega
      clear e HE
      go_wp2
      go_ret
      rw [HF.out]
      exact ⟨rfl, hbel.trans (hbw.mono hbel.size)⟩

/-- Lay, Take on Nat -/
def layN : Nat → Nat → List UInt8
  | _, 0 => []
  | n, k + 1 => UInt8.ofNat (n % 256) :: layN (n / 256) k
def takeN : List UInt8 → Nat
  | [] => 0
  | x :: xs => x.toNat + 256 * takeN xs
theorem layN_len (k : Nat) : ∀ n, (layN n k).length = k := by
  induction k with
  | zero => intro n; rfl
  | succ k ih => intro n; simp [layN, ih]
theorem takeN_lt (xs : List UInt8) : takeN xs < 256 ^ xs.length := by
  induction xs with
  | nil => simp [takeN]
  | cons x xs ih =>
    have := x.toNat_lt
    simp only [takeN, List.length_cons, Nat.pow_succ]
    omega
theorem take_lay (k : Nat) : ∀ n, n < 256 ^ k → takeN (layN n k) = n := by
  induction k with
  | zero => intro n h; simp at h; subst h; rfl
  | succ k ih =>
    intro n h
    have h1 : (UInt8.ofNat (n % 256)).toNat = n % 256 := by rw [UInt8.toNat_ofNat']; omega
    simp only [layN, takeN, h1]
    rw [ih (n / 256) (by rw [Nat.pow_succ] at h; omega)]
    omega
theorem lay_take (xs : List UInt8) : layN (takeN xs) xs.length = xs := by
  induction xs with
  | nil => rfl
  | cons x xs ih =>
    have h := x.toNat_lt
    simp only [takeN, List.length_cons, layN]
    have e1 : (x.toNat + 256 * takeN xs) % 256 = x.toNat := by omega
    have e2 : (x.toNat + 256 * takeN xs) / 256 = takeN xs := by omega
    rw [e1, e2, ih, UInt8.ofNat_toNat]

def LaysTo (j k m : Nat) (done full : List UInt8) : Prop := done ++ layN m (k - j) = full
theorem LaysTo.next {j k m : Nat} {done full : List UInt8} (h : LaysTo j k m done full) (hj : j < k) : LaysTo (j + 1) k (m / 256) (done ++ [UInt8.ofNat (m % 256)]) full := by
  unfold LaysTo at *
  rw [show k - j = (k - (j + 1)) + 1 from by omega] at h
  rw [← h]
  simp [layN]
theorem LaysTo.done {j k m : Nat} {done full : List UInt8} (h : LaysTo j k m done full) (hj : ¬ j < k) : done = full := by
  unfold LaysTo at *
  rw [show k - j = 0 from by omega] at h
  simpa [layN] using h

set_option maxRecDepth 100000 in
set_option maxHeartbeats 1000000 in
theorem rlay_any (m k : Int) (w : World) (hm : 0 ≤ m) (hm2 : m < 18446744073709551616) (hk : 0 ≤ k) (hk2 : k ≤ 65536) :
    Calls Tryd.prog 15 #[.int .u64 m, .int .i64 k] w (RetL bv 5 w (layN m.toNat k.toNat)) := by
  obtain ⟨K, rfl⟩ := Int.eq_ofNat_of_zero_le hk
  rw [Int.toNat_natCast]
  have HT : LaysTo 0 K m.toNat [] (layN m.toNat K) := by simp [LaysTo]
  generalize layN m.toNat K = full at *
  obtain ⟨i0, hi, hz0, hz1, hz2⟩ := info_parts Tryd.infoU8
  go_enter Tryd.func15, Tryd.ntmps15
  go_wp2
  go_loopw [0, 5, 6] (fun mv v i wr => ∃ (j : Nat) (z : Int) (done : List UInt8) (A' : Option Addr) (n' c' : Nat), j ≤ K ∧ i = .int .i64 j ∧ mv = .int .u64 z ∧ 0 ≤ z ∧ z < 18446744073709551616 ∧ v = .slice A' n' c' ∧ n' ≤ j ∧
      Own bv wr w.heap.size 5 A' n' c' done ∧ LaysTo j K z.toNat done full ∧ Below w.heap.size w wr)
    (fun _ _ i _ => K - (intOf i).toNat)
  case atStart => exact ⟨0, m, [], none, 0, 0, Nat.zero_le _, rfl, rfl, hm, hm2, rfl, Nat.le_refl _, Own.empty _ _ _ _, HT, Below.refl _ _⟩
  case round =>
    obtain ⟨j, z, done, A', n', c', hj, rfl, rfl, hz, hz3, rfl, hn', hown, hQ, hb⟩ := hrel
    have hsz := hb.size
    by_cases hlt : j < K
    · have e1 : bv (UInt8.ofNat (z % 256).toNat) = .int .u8 (z % 256) := by
        simp only [bv, UInt8.toNat_ofNat']; congr 1; omega
      have hr1 := Rd.one (f := bv) wr 5 (UInt8.ofNat (z % 256).toNat)
      rw [e1] at hr1
      have HR := Lib.hid hr1
      clear hr1 e1
      go_wp2_with (at_builtin; refine wpList_app _ oneCell_bv rfl (.tmp 12) (.tmp 16) _ rfl w.heap.size 5 i0 _ 1 Tryd.underlying22 hi hz0 hz1 hz2 rfl A' n' c' _ rfl (hown.alloc _) _ _ 1 1 _ rfl HR.out (by simp only [maxLen]; omega) (by omega) (by simp; omega) ?_; intro A3 c3 w3 hown3 hb3 _)
      go_roundw
      case rel =>
        have hQ' := hQ.next hlt
        have ez : z.toNat % 256 = (z % 256).toNat := by omega
        have ez2 : z.toNat / 256 = (z / 256).toNat := by omega
        rw [ez, ez2] at hQ'
        exact ⟨j + 1, z / 256, _, A3, n' + 1, c3, by omega, by go_num, rfl, by omega, by omega, rfl, by omega, hown3, hQ', hb.trans (((Below.refl _ _).alloc (by omega) _).trans hb3)⟩
      case measure => simp [intOf]; omega
    · go_wp2
      go_ret
      have e := hQ.done hlt
      subst e
      exact ⟨A', n', c', rfl, hown, hb⟩

end Go.Proofs.YtghbgehmaejggaaDoor

/- Contracts of the document's Kind, Bytes, Same, Parse (kotatsuref05). No law is claimed here. -/
import Derived.Test.YtghbgehmaejggaaDoorBlk6
namespace Go.Proofs.YtghbgehmaejggaaDoor
open Go.RowKit

set_option maxRecDepth 100000 in
set_option maxHeartbeats 1000000 in
theorem kind5_any (i : Nat) (w : World) (hi : i ≤ 1000000) :
    Calls Tryd.prog 22 #[.int .i64 (i : Int)] w fun e w' => e = .returned (.int .u8 (kindN i : Int)) ∧ Still w w' := by
  by_cases h0 : i = 0
  · subst h0
    go_enter Tryd.func22, Tryd.ntmps22
    go_wp2
    go_ret
    exact ⟨rfl, 0, rfl⟩
  by_cases h1 : i = 1
  · subst h1
    go_enter Tryd.func22, Tryd.ntmps22
    go_wp2
    go_ret
    exact ⟨rfl, 0, rfl⟩
  have hn : ¬ ((i : Int) < 2) := by omega
  have hk : Hid ((kindN i : Int) = 3 + (i : Int) % 2) := by
    show _ = _
    unfold kindN; rw [if_neg h0, if_neg h1]; split <;> omega
  have ht : (i : Int).tmod 2 = (i : Int) % 2 := Int.tmod_eq_emod_of_nonneg (by omega)
  have hw : IntKind.u8.wrap (3 + (i : Int) % 2) = 3 + (i : Int) % 2 := IntWalk.u8_in _ ⟨by omega, by omega⟩
  rw [hk.out]
  go_enter Tryd.func22, Tryd.ntmps22
  go_wp2
  go_ret
  exact ⟨rfl, 0, rfl⟩

set_option maxRecDepth 100000 in
set_option maxHeartbeats 1000000 in
theorem bytes5_any (i : Nat) (A : Option Addr) (n c B : Nat) (xs : List UInt8) (w : World) (hr : Rd bv w B A n c xs) (hi : i ≤ 1000000) (hn : i % 2 = 1 → 1 < i → 14 ≤ n) (hn2 : n ≤ 9223372036854775807) :
    Calls Tryd.prog 21 #[.int .i64 (i : Int), .slice A n c] w fun e w' => e = .returned (.int .i64 (sizeN i xs : Int)) ∧ Still w w' := by
  have HK := kind5_any i w hi
  by_cases h0 : i = 0
  · subst h0
    go_enter Tryd.func21, Tryd.ntmps21
    go_wp2_with (go_at_call 22; refine HK.mono ?_; rintro e w' ⟨rfl, q, rfl⟩)
    go_ret
    exact ⟨rfl, q, rfl⟩
  by_cases h1 : i = 1
  · subst h1
    go_enter Tryd.func21, Tryd.ntmps21
    go_wp2_with (go_at_call 22; refine HK.mono ?_; rintro e w' ⟨rfl, q, rfl⟩)
    go_ret
    exact ⟨rfl, q, rfl⟩
  by_cases h2 : i % 2 = 0
  · have e1 : kindN i = 3 := by unfold kindN; rw [if_neg h0, if_neg h1, if_pos h2]
    have e2 : sizeN i xs = 15 := by unfold sizeN; rw [if_neg h0, if_neg h1, if_pos h2]
    rw [e1] at HK
    rw [e2]
    clear h0 h1 h2 hr
    go_enter Tryd.func21, Tryd.ntmps21
    go_wp2_with (go_at_call 22; refine HK.mono ?_; rintro e w' ⟨rfl, q, rfl⟩)
    go_ret
    exact ⟨rfl, q, rfl⟩
  · have e1 : kindN i = 4 := by unfold kindN; rw [if_neg h0, if_neg h1, if_neg h2]
    have e2 : sizeN i xs = fsz xs := by unfold sizeN; rw [if_neg h0, if_neg h1, if_neg h2]
    rw [e1] at HK
    rw [e2]
    have hn3 := hn (by omega) (by omega)
    have hl := hr.len
    obtain ⟨b, off, rfl⟩ := hr.some_of (by omega)
    have hc1 := (rd_cell hr 12 (by omega)).2
    have hc2 := (rd_cell hr 13 (by omega)).2
    have HF : Hid (fsz xs = (xs[12]'(by omega)).toNat + 256 * (xs[13]'(by omega)).toNat) := by
      unfold fsz; rw [List.getD_eq_getElem?_getD, List.getD_eq_getElem?_getD, List.getElem?_eq_getElem (show 12 < xs.length by omega), List.getElem?_eq_getElem (show 13 < xs.length by omega)]; exact rfl
    generalize xs[12]'(by omega) = x at *
    generalize xs[13]'(by omega) = y at *
    have hx := x.toNat_lt
    have hy := y.toNat_lt
    rw [HF.out]
    clear hl hr h0 h1 h2 hn
    unfold bv at hc1 hc2
    go_enter Tryd.func21, Tryd.ntmps21
    go_wp2_with (go_at_call 22; refine HK.mono ?_; rintro e w' ⟨rfl, q, rfl⟩)
    go_quiet (fail)
    go_wp2
    go_ret
    exact ⟨by simp, Still.more ⟨q, rfl⟩ _⟩

theorem Rdp.toRd {α : Type} {f : α → Value} {w : World} {S : Nat → Prop} {A : Option Addr} {n c : Nat} {xs : List α} (h : Rdp f w S A n c xs) : Rd f w (A.elim 0 (·.block + 1)) A n c xs :=
  ⟨h.len, h.cap, fun j hj => by
    obtain ⟨b, off, e, hb, hc⟩ := h.at_ j hj
    exact ⟨b, off, e, by rw [e]; simp, hc⟩⟩

set_option maxRecDepth 100000 in
set_option maxHeartbeats 2000000 in
theorem same5_yes (A A2 : Option Addr) (n c m c2 : Nat) (S S2 : Nat → Prop) (l : List Bm) (w : World) (hr : RdX shB w S A n c l) (hr2 : RdX shB w S2 A2 m c2 l) (hn : n ≤ 1000000) (hd : Hid (∀ x ∈ l, x.data.length ≤ 9223372036854775807)) :
    Calls Tryd.prog 12 #[.slice A n c, .slice A2 m c2] w fun e w' => e = .returned (.bool true) ∧ Still w w' := by
  have hl := hr.len
  obtain rfl : n = m := by have := hr2.len; omega
  have HL := Lib.hid hl
  clear hl
  have h1 : ((n : Int) != (n : Int)) = false := by simp
  go_enter Tryd.func12, Tryd.ntmps12
  go_wp2
  go_loopw [13] (fun i wr => ∃ (k : Nat), k ≤ n ∧ i = .int .i64 k ∧ Still w wr) (fun i _ => n - (intOf i).toNat)
  case atStart => exact ⟨0, Nat.zero_le _, rfl, 0, rfl⟩
  case round =>
    obtain ⟨k, hk, rfl, hs⟩ := hrel
    by_cases hlt : k < n
    · have hkx : k < l.length := by rw [HL.out]; exact hlt
      have kp : ∀ T : Nat → Prop, Kp T w wr := fun T => by obtain ⟨q, rfl⟩ := hs; exact Kp.drewN _ _ q
      obtain ⟨b, off, A3, n3, c3, rfl, _, hc0, hc1, hrd⟩ := rdB_at (hr.keep (kp _) (fun _ h => h)) k hkx
      obtain ⟨b2, off2, A4, n4, c4, rfl, _, hd0, hd1, hrd2⟩ := rdB_at (hr2.keep (kp _) (fun _ h => h)) k hkx
      have hbig := hd.out _ (List.getElem_mem hkx)
      have hl3 := hrd.len
      have hn3 : n3 ≤ 9223372036854775807 := by omega
      have R1 := hrd.toRd
      have R2 := hrd2.toRd
      generalize l[k].kind = x at *
      generalize l[k].data = xd at *
      have h2 : ((x.toNat : Int) != (x.toNat : Int)) = false := by simp
      have i1 : (k : Int) < n := by omega
      clear hl3 hbig hrd hrd2
      go_wp2
      go_quiet (first | (go_at_call 24; exact quiet_still (same_yes A3 A4 n3 c3 n4 c4 _ _ xd _ (R1.drewN _) (R2.drewN _) hn3)))
      go_wp2
      go_roundw
      case rel => exact ⟨k + 1, by omega, by go_num, hs.trans ⟨_, rfl⟩⟩
      case measure => simp [intOf]; omega
    · go_wp2
      go_ret
      exact ⟨rfl, hs⟩

end Go.Proofs.YtghbgehmaejggaaDoor

/- The contract of kotatsuref03.Bytes. No law is claimed here. -/
import Derived.Test.YtkmjndmanpanbaaRefS
namespace Go.Proofs.Ytkmjndmanpanbaa
open Go.RowKit

theorem flat_take (g : Nat) (ws : List Wm) (k : Nat) (h : k < ws.length) : (recsN g (ws.take (k + 1))).flatten = (recsN g (ws.take k)).flatten ++ recF g k ws[k] := by
  rw [recsN_snoc g ws k h, List.flatten_append]; simp

set_option maxRecDepth 100000 in
set_option maxHeartbeats 4000000 in
theorem xbytes_any (g : Int) (A : Option Addr) (n c : Nat) (S : Nat → Prop) (ws : List Wm) (w : World) (hr : RdX (shW .i64 .i64) w S A n c ws) (hS : ∀ b, S b → b < w.heap.size) (hg : 0 ≤ g) (hg2 : g < 4294967296) (hn : n ≤ 8)
    (hf : Hid (∀ x ∈ ws, 0 ≤ x.pl ∧ x.pl ≤ 100000 ∧ x.data.length ≤ 60)) :
    Calls Try.prog 14 #[.agg #[.int .u32 g, .slice A n c]] w (RetL bv 5 w (bytesN g.toNat ws).flatten) := by
  have HL := Lib.hid hr.len
  go_enter Try.func14, Try.ntmps14
  go_wp2
  go_loopw [3, 9] (fun v i wr => ∃ (k : Nat) (A' : Option Addr) (n' c' : Nat), k ≤ n ∧ n' ≤ k * 100 ∧ i = .int .i64 k ∧ v = .slice A' n' c' ∧ RdE bv wr A' n' c' (recsN g.toNat (ws.take k)).flatten ∧ Below (w.heap.size + 1) (w.alloc (.cells #[.int .u32 g, .slice A n c] 38)) wr)
    (fun _ i _ => n - (intOf i).toNat)
  case atStart => exact ⟨0, none, 0, 0, Nat.zero_le _, Nat.zero_le _, rfl, rfl, Rd.nil, Below.refl _ _⟩
  case round =>
    obtain ⟨k, A', n', c', hk, hnk, rfl, rfl, hrd, hb⟩ := hrel
    have hsz : w.heap.size + 1 ≤ wr.heap.size := by have := hb.size; simp at this; omega
    have g0 : Has wr w.heap.size 0 (.int .u32 g) := ⟨by omega, box_cell hb 0⟩
    have g1 : Has wr w.heap.size 1 (.slice A n c) := ⟨by omega, box_cell hb 1⟩
    have bl0 : BlE w wr := ((Below.refl _ _).alloc (Nat.le_refl _) _).trans (hb.mono (by omega))
    by_cases hlt : k < n
    · have hkx : k < ws.length := by rw [HL.out]; exact hlt
      have hkp : Kp S w wr := (Kp.alloc hS _).trans (Kp.below hb (fun b hb => by have := hS b hb; omega))
      obtain ⟨b, off, A2, n2, c2, rfl, hSb, hc0, hc1, hc2, hr2⟩ := rdW_at (hr.keep hkp (fun _ h => h)) k hkx
      have HT := Lib.hid (flat_take g.toNat ws k hkx)
      have hfx := hf.out ws[k] (List.getElem_mem hkx)
      have hl2 := hr2.len
      unfold recF at HT
      generalize ws[k] = x at *
      obtain ⟨xs, xa, xd⟩ := x
      simp only at *
      obtain ⟨hx0, hx1, hx2⟩ := hfx
      have hn2 : n2 ≤ 60 := by omega
      have HL2 := Lib.hid hl2
      have rx : RdE bv wr A2 n2 c2 xd := RdE.of (hr2.rd hS) (by omega)
      clear hl2 hkp hx2
      have g0' := (g0.alloc (o := (.cells #[.int .i64 (xs.toNat : Int), .int .i64 xa, .slice A2 n2 c2] 59))).cell
      have rx' := RdE.alloc rx (o := (.cells #[.int .i64 (xs.toNat : Int), .int .i64 xa, .slice A2 n2 c2] 59))
      go_wp2_with fail
      refine (xrecord_any xs xa g k A2 n2 c2 xd _ rx' (by omega) hx0 hx1 hg hg2 (by omega) (by omega)).mono ?_
      rintro e w5 ⟨A5, n5, c5, rfl, ho5, hb5⟩
      rw [Int.toNat_natCast] at ho5
      have r1 := (RdE.alloc hrd (o := (.cells #[.int .i64 (xs.toNat : Int), .int .i64 xa, .slice A2 n2 c2] 59))).below hb5
      have hn5 : n5 = n2 + 22 := by rw [← ho5.len, frameN_len, recC_len, HL2.out]
      have HN5 := Lib.hid hn5
      clear hn5
      go_wp2_with fail
      refine (join2_any w5 _ A' A5 n' c' n5 c5 w5.heap.size _ _ rfl r1 (RdE.own ho5) (Nat.le_refl _) (by have := HN5.out; omega)).mono ?_
      rintro e w6 ⟨A6, n6, c6, rfl, ho6, hb6⟩
      have hl6 := ho6.len
      rw [List.length_append, Rd.len hrd, ho5.len, HN5.out] at hl6
      have bel6 : Below (w.heap.size + 1) (w.alloc (.cells #[.int .u32 g, .slice (some ⟨b, off, none⟩) n c] 38)) w6 := ((hb.alloc hsz _).trans (hb5.mono (by simp; omega))).trans (hb6.mono (by have := hb5.size; simp at this; omega))
      have hl6' : n6 ≤ n' + 82 := by omega
      clear hl6
      go_wp2
      go_roundw
      case rel => exact ⟨k + 1, A6, n6, c6, by omega, by omega, by go_num, rfl, by rw [HT.out]; exact RdE.own ho6, bel6⟩
      case measure => simp [intOf]; omega
    · have HE : Hid ((bytesN g.toNat ws).flatten = (recsN g.toNat (ws.take k)).flatten ++ frameN (markC g.toNat n)) := by
        show _ = _
        rw [List.take_of_length_le (by rw [HL.out]; omega), bytesN, HL.out, List.flatten_append]; simp
      have g0' := g0.cell
      have g1' := g1.cell
      go_wp2_with fail
      refine (xmark_any g n _ hg hg2 (by omega) (by omega)).mono ?_
      rintro e w5 ⟨A5, n5, c5, rfl, ho5, hb5⟩
      rw [Int.toNat_natCast] at ho5
      have r1 := RdE.below hrd hb5
      have hn5 : n5 ≤ 17 := by rw [← ho5.len, frameN_len, markC_len]; omega
      have bl5 := bl0.below hb5
      clear g0' g1'
      go_wp2_with fail
      refine (join2_any w5 _ A' A5 n' c' n5 c5 w5.heap.size _ _ rfl r1 (RdE.own ho5) (Nat.le_refl _) (by omega)).mono ?_
      rintro e w6 ⟨A6, n6, c6, rfl, ho6, hb6⟩
      go_wp2
      go_ret
      exact ⟨A6, n6, c6, rfl, by rw [HE.out]; exact ho6.lower bl5.size, bl5.below hb6⟩

end Go.Proofs.Ytkmjndmanpanbaa

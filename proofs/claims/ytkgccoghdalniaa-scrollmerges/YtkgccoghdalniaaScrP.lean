/- The contract of (scroll.Write).fits. No law is claimed here. -/
import Derived.Test.YtkgccoghdalniaaMemG
import Derived.IntWalk
namespace Go.Proofs.Ytkgccoghdalniaa
open Go.RowKit

/-- does a write lie in its side? -/
def fitB (xss : List (List UInt8)) (s : Nat) (a : Int) (n : Nat) : Bool := decide (s < xss.length) && decide (a + n ≤ (xss.getD s []).length)

set_option maxRecDepth 100000 in
set_option maxHeartbeats 1000000 in
theorem wfits_any (s : UInt8) (a : Int) (A : Option Addr) (n c : Nat) (As : Option Addr) (ns cs B : Nat) (ss : List (Option Addr × Nat × Nat)) (xss : List (List UInt8)) (w : World) (hr : Rd sv w B As ns cs ss) (hrs : Rds w B ss xss) (hB : B ≤ w.heap.size)
    (ha : 0 ≤ a) (ha2 : a < 4294967296) (hn : n ≤ 1099511627776) (hls : Hid (∀ xs ∈ xss, xs.length ≤ 1099511627776)) :
    Calls Try.prog 26 #[.agg #[.int .u8 (s.toNat : Int), .int .u32 a, .slice A n c], .slice As ns cs] w fun e w' => e = .returned (.bool (fitB xss s.toNat a n)) ∧ Below w.heap.size w w' := by
  have hl := hr.len
  have hl2 := hrs.1
  have hs256 := s.toNat_lt
  by_cases hlt : s.toNat < ns
  · have h1 : s.toNat < ss.length := by omega
    have h2 : s.toNat < xss.length := by omega
    obtain ⟨b, off, rfl, hbB, hc⟩ := hr.at_ s.toNat h1
    have hrk := hrs.2 s.toNat _ _ (List.getElem?_eq_getElem h1) (List.getElem?_eq_getElem h2)
    have hlk := hrk.len
    have hmx := hls.out xss[s.toNat] (List.getElem_mem h2)
    have HR : Hid (fitB xss s.toNat a n = decide (a + n ≤ (xss[s.toNat].length : Int))) := by
      show _ = _
      unfold fitB
      rw [List.getD_eq_getElem?_getD, List.getElem?_eq_getElem h2, decide_eq_true h2]
      simp
    generalize ss[s.toNat] = t at *
    generalize xss[s.toNat] = xs at *
    obtain ⟨A2, n2, c2⟩ := t
    unfold sv at hc
    simp only at hc hlk
    rw [hlk] at HR hmx
    clear hrk hrs hr h1 h2 hlk hl hl2 hls
    have hlt' : (s.toNat : Int) < (ns : Int) := by omega
    go_enter Try.func26, Try.ntmps26
    go_wp2
    have k0 : (w.alloc (.cells #[.int .u8 (s.toNat : Int), .int .u32 a, .slice A n c] 44)).cell? ⟨w.heap.size, 0, none⟩ = some (.int .u8 (s.toNat : Int)) := box_cell (Below.refl _ _) 0
    have k1 : (w.alloc (.cells #[.int .u8 (s.toNat : Int), .int .u32 a, .slice A n c] 44)).cell? ⟨w.heap.size, 1, none⟩ = some (.int .u32 a) := box_cell (Below.refl _ _) 1
    have k2 : (w.alloc (.cells #[.int .u8 (s.toNat : Int), .int .u32 a, .slice A n c] 44)).cell? ⟨w.heap.size, 2, none⟩ = some (.slice A n c) := box_cell (Below.refl _ _) 2
    have kc : (w.alloc (.cells #[.int .u8 (s.toNat : Int), .int .u32 a, .slice A n c] 44)).cell? ⟨b, off + s.toNat, none⟩ = some (.slice A2 n2 c2) := (World.cell?_alloc_lt _ _ _ (by show b < _; omega)).trans hc
    have hsz : (w.alloc (.cells #[.int .u8 (s.toNat : Int), .int .u32 a, .slice A n c] 44)).heap.size = w.heap.size + 1 := by simp
    have hbW : Below w.heap.size w (w.alloc (.cells #[.int .u8 (s.toNat : Int), .int .u32 a, .slice A n c] 44)) := (Below.refl _ _).alloc (Nat.le_refl _) _
    have hb0 : b < w.heap.size := by omega
    clear hc
    generalize w.alloc (.cells #[.int .u8 (s.toNat : Int), .int .u32 a, .slice A n c] 44) = W at *
    have hs1 : w.heap.size < W.heap.size := by omega
    have hs2 : b < W.heap.size := by omega
    have e1 : IntKind.i64.wrap (s.toNat : Int) = (s.toNat : Int) := IntWalk.i64_in _ (by omega)
    have e2 : IntKind.u64.wrap (n2 : Int) = (n2 : Int) := wrap_uns .u64 rfl n2 (by show n2 < 2 ^ 64; omega)
    have e3 : decide ((s.toNat : Int) < (ns : Int)) = true := by simp; omega
    go_region_held3 (fun w' => w'.cell? ⟨w.heap.size, 0, none⟩ = some (.int .u8 (s.toNat : Int)) ∧ w'.cell? ⟨w.heap.size, 1, none⟩ = some (.int .u32 a) ∧ w'.cell? ⟨w.heap.size, 2, none⟩ = some (.slice A n c) ∧ w'.cell? ⟨b, off + s.toNat, none⟩ = some (.slice A2 n2 c2))
      (first | exact ⟨k0, k1, k2, kc⟩ | exact ⟨(hb9.cell (p := ⟨w.heap.size, 0, none⟩) hs1).trans k0, (hb9.cell (p := ⟨w.heap.size, 1, none⟩) hs1).trans k1, (hb9.cell (p := ⟨w.heap.size, 2, none⟩) hs1).trans k2, (hb9.cell (p := ⟨b, off + s.toNat, none⟩) hs2).trans kc⟩)
      (first | (go_at_call 28; refine (wend_any (s.toNat : Int) a A n c _ ha ha2 hn).mono ?_; rintro e w9 ⟨rfl, hb9⟩))
    all_goals
      go_wp2
      go_ret
      rw [HR.out]
      exact ⟨rfl, hbW.trans ((Below.refl _ _).drew.trans (hb9.mono (by show _ ≤ W.heap.size; omega)))⟩
  · have HR : Hid (fitB xss s.toNat a n = false) := by
      show _ = _
      unfold fitB
      rw [decide_eq_false (by omega)]; rfl
    have hlt' : ¬ (s.toNat : Int) < (ns : Int) := by omega
    have e1 : IntKind.i64.wrap (s.toNat : Int) = (s.toNat : Int) := IntWalk.i64_in _ (by omega)
    have hlt'' : decide ((s.toNat : Int) < (ns : Int)) = false := by simp; omega
    go_enter Try.func26, Try.ntmps26
    go_wp2
    go_quiet (fail)
    go_wp2
    go_ret
    rw [HR.out]
    exact ⟨rfl, ((Below.refl _ _).alloc (Nat.le_refl _) _).trans (Still.below ⟨_, rfl⟩ _)⟩

end Go.Proofs.Ytkgccoghdalniaa

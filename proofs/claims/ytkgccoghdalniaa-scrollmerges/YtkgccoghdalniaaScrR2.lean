/- The contracts of package scroll's reader: record. No law is claimed here. -/
import Derived.Test.YtkgccoghdalniaaScrR
import Derived.Deep.RegionLaw
namespace Go.Proofs.Ytkgccoghdalniaa
open Go.RowKit

def numC (c : List UInt8) (i : Nat) : Nat := takeN ((c.drop i).take 4)
theorem numC_lt (c : List UInt8) (i : Nat) : numC c i < 4294967296 := by
  unfold numC
  have h := takeN_lt ((c.drop i).take 4)
  have h2 : 256 ^ ((c.drop i).take 4).length ≤ 256 ^ 4 := Nat.pow_le_pow_right (by decide) (by simp; omega)
  rw [pow4] at h2
  omega
def recW (c : List UInt8) : Wm := ⟨c.getD 9 0, (numC c 10 : Nat), c.drop 14⟩

theorem rd_cell {α : Type} {f : α → Value} {w : World} {B b off n c : Nat} {xs : List α} (h : Rd f w B (some ⟨b, off, none⟩) n c xs) (j : Nat) (hj : j < xs.length) : b < B ∧ w.cell? ⟨b, off + j, none⟩ = some (f xs[j]) := by
  obtain ⟨b', o', e1, hbB, hc⟩ := h.at_ j hj
  injection e1 with e1; injection e1 with e1 e2; subst e1; subst e2
  exact ⟨hbB, hc⟩

/-- what is there when a record's write was read and found right -/
structure AtW (w w2 : World) (R b off n c : Nat) (xs : List UInt8) : Prop where
  bel : Below w.heap.size w w2
  l0 : w2.cell? ⟨w.heap.size, 0, none⟩ = some (.int .u8 ((xs.getD 9 0).toNat : Int))
  l1 : w2.cell? ⟨w.heap.size, 1, none⟩ = some (.int .u32 (numC xs 10 : Int))
  l2 : w2.cell? ⟨w.heap.size, 2, none⟩ = some (.slice (some ⟨b, off + 14, none⟩) (n - 14) (c - 14))
  sz : w.heap.size + 1 ≤ w2.heap.size

set_option maxRecDepth 100000 in
set_option maxHeartbeats 4000000 in
theorem record_bad (R b off n c B : Nat) (xs : List UInt8) (w : World) (hr : Rd bv w B (some ⟨b, off, none⟩) n c xs) (hl : 15 ≤ n) (hB : B ≤ w.heap.size) (hn : n ≤ 1000000)
    (hbad : rightB ((xs.getD 9 0).toNat : Int) (numC xs 10 : Int) (n - 14) = false) :
    Calls Try.prog 35 #[.pointer (some ⟨R, 0, none⟩), .slice (some ⟨b, off, none⟩) n c] w fun e w' => e = .returned (.bool false) ∧ Below w.heap.size w w' := by
  have hcap := hr.cap
  have hlen := hr.len
  obtain ⟨hbB, hc9⟩ := rd_cell hr 9 (by omega)
  have e9 : xs.getD 9 0 = xs[9] := by rw [List.getD_eq_getElem?_getD, List.getElem?_eq_getElem (by omega)]; rfl
  rw [e9] at hbad
  have h10 := numC_lt xs 10
  have H10 : Hid ((takeN ((xs.drop 10).take 4) : Int) = ((numC xs 10 : Nat) : Int)) := rfl
  generalize numC xs 10 = z10 at *
  obtain ⟨a10, HZ, ha0, ha1⟩ : ∃ z : Int, Hid ((z10 : Int) = z) ∧ 0 ≤ z ∧ z < 4294967296 := ⟨_, rfl, by omega, by omega⟩
  rw [HZ.out] at H10 hbad
  generalize xs[9] = x9 at *
  have HB := Lib.hid hbad
  unfold bv at hc9
  have hx9 := x9.toNat_lt
  clear hlen e9 hbad h10 HZ
  have i9 : (9 : Int) < n := by omega
  have i14 : (14 : Int) ≤ c := by omega
  have n14 : ¬ c = 14 := by omega
  have n14' : 14 ≤ c := by omega
  have i14n : (14 : Int) ≤ n := by omega
  have i14n' : 14 ≤ n := by omega
  have hbl : b < w.heap.size := by omega
  go_enter Try.func35, Try.ntmps35
  go_wp2_with fail
  have ds := setCell_drewN
  have da := alloc_drewN
  go_region_held3 (fun w' => w'.cell? ⟨b, off + 9, none⟩ = some (.int .u8 (x9.toNat : Int))) (first | exact hc9 | exact (World.cell?_alloc_lt w _ _ hbl).trans hc9) (first
    | (go_at_call 43; refine (numAt_any b off n c B xs 10 _ (by first | exact hr | exact hr.drew | exact (hr.alloc hB _) | exact (hr.alloc hB _).drew) (by omega) (by omega)).mono ?_; rintro e w1 ⟨rfl, q, rfl⟩; rw [H10.out]))
  all_goals
    clear ds da
    go_wp2_with fail
    refine (wright_any _ a10 _ _ _ _ (by omega) (by omega) ha0 ha1 (by omega)).mono ?_
    rintro e w2 ⟨rfl, hb2⟩
    rw [HB.out]
    go_wp2
    go_ret
    refine ⟨rfl, ?_⟩
    have hbx := hb2.mono (B' := w.heap.size) (by simp)
    exact Below.trans (((Below.refl _ _).alloc (Nat.le_refl _) _).trans (Still.below ⟨_, rfl⟩ _)) hbx

end Go.Proofs.Ytkgccoghdalniaa

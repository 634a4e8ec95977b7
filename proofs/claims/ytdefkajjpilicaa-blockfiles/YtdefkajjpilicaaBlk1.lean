/- Package block in memory: the shape of a block; contracts of fileSize, next, Right, Size, Want. No law is claimed here. -/
import Derived.Test.YtdefkajjpilicaaK1
import Derived.Test.YtdefkajjpilicaaBits
namespace Go.Proofs.Ytdefkajjpilicaa
open Go.RowKit

/-- a block; how it lies as a struct of two cells -/
structure Bm where
  kind : UInt8
  data : List UInt8
structure RawB where
  kind : UInt8
  A : Option Addr
  n : Nat
  c : Nat
def shB : Shape RawB Bm where
  k := 2
  raw r := [.int .u8 (r.kind.toNat : Int), .slice r.A r.n r.c]
  Ok w S r x := r.kind = x.kind ∧ Rdp bv w S r.A r.n r.c x.data
  pos := by omega
  len _ := rfl
  one r u h := by simp at h; rcases h with rfl | rfl <;> rfl
  keep h hk hS := ⟨h.1, h.2.keep hk hS⟩
theorem rdB_at {w : World} {S : Nat → Prop} {A : Option Addr} {n c : Nat} {l : List Bm} (h : RdX shB w S A n c l) (j : Nat) (hj : j < l.length) :
    ∃ b off A' n' c', A = some ⟨b, off, none⟩ ∧ S b ∧ w.cell? ⟨b, off + j * 2, none⟩ = some (.int .u8 (l[j].kind.toNat : Int)) ∧
      w.cell? ⟨b, off + j * 2 + 1, none⟩ = some (.slice A' n' c') ∧ Rdp bv w S A' n' c' l[j].data := by
  obtain ⟨b, off, e, hb, r, hc, h1, h3⟩ := h.at_ j hj
  refine ⟨b, off, r.A, r.n, r.c, e, hb, ?_, ?_, h3⟩
  · have := hc 0 _ rfl; rw [← h1]; exact this
  · exact hc 1 _ rfl
/-- 's[k:]' behind its address as the walk writes it -/
theorem RdX.drop {ρ α : Type} {T : Shape ρ α} {w : World} {S : Nat → Prop} {b off n c : Nat} {xs : List α} (h : RdX T w S (some ⟨b, off, none⟩) n c xs) (k : Nat) (hk : k ≤ n) :
    RdX T w S (some ⟨b, off + k * T.k, none⟩) (n - k) (c - k) (xs.drop k) := by
  have hl := h.len
  have hc := h.cap
  refine ⟨by simp; omega, by omega, fun j hj => ?_⟩
  have hj' : k + j < xs.length := by simp at hj; omega
  obtain ⟨b', off', e, hb, hc⟩ := h.at_ (k + j) hj'
  simp at e
  obtain ⟨rfl, rfl⟩ := e
  refine ⟨b, off + k * T.k, rfl, hb, ?_⟩
  rw [Nat.add_assoc, ← Nat.add_mul]
  simpa using hc

/-- the kind and the size of the block in a place -/
def kindN (i : Nat) : Nat := if i = 0 then 1 else if i = 1 then 2 else if i % 2 = 0 then 3 else 4
def fsz (h : List UInt8) : Nat := (h.getD 12 0).toNat + 256 * (h.getD 13 0).toNat
def sizeN (i : Nat) (ahead : List UInt8) : Nat := if i = 0 then 55 else if i = 1 then 1 else if i % 2 = 0 then 15 else fsz ahead
def blkD : Bm := ⟨0, []⟩
/-- what stands ahead of the place i -/
def ahead (l : List Bm) (i : Nat) : List UInt8 := (l.getD (i - 1) blkD).data
/-- the block in the place i may stand there -/
def okB (l : List Bm) (i : Nat) : Bool := decide ((l.getD i blkD).kind.toNat = kindN i) && decide ((l.getD i blkD).data.length = sizeN i (ahead l i))
def fitsB (l : List Bm) (k : Nat) : Bool := (List.range k).all (okB l)
def rgtB (l : List Bm) : Bool := decide (l.length ≤ 512) && fitsB l l.length
theorem fitsB_iff {l : List Bm} {k : Nat} : fitsB l k = true ↔ ∀ i, i < k → okB l i = true := by simp [fitsB]
theorem okB_iff {l : List Bm} {i : Nat} : okB l i = true ↔ (l.getD i blkD).kind.toNat = kindN i ∧ (l.getD i blkD).data.length = sizeN i (ahead l i) := by simp [okB]
theorem fitsB_succ {l : List Bm} {k : Nat} (h : fitsB l k = true) (h1 : okB l k = true) : fitsB l (k + 1) = true := by
  rw [fitsB_iff] at *
  intro i hi
  rcases Nat.lt_or_ge i k with h2 | h2
  · exact h i h2
  · have : i = k := by omega
    subst this; exact h1
theorem fsz_lt (h : List UInt8) : fsz h < 65536 := by
  have h1 := (h.getD 12 0).toNat_lt
  have h2 := (h.getD 13 0).toNat_lt
  unfold fsz; omega
theorem sizeN_lt (i : Nat) (h : List UInt8) : sizeN i h < 65536 := by
  have := fsz_lt h
  unfold sizeN; split
  · omega
  split
  · omega
  split <;> omega
theorem kindN_lt (i : Nat) : kindN i < 256 ∧ 0 < kindN i := by
  unfold kindN; split
  · omega
  split
  · omega
  split <;> omega
/-- where a file's bytes come next, what tells their size is there -/
def Told (l : List Bm) : Prop := l.length % 2 = 1 → 1 < l.length → 14 ≤ (ahead l l.length).length
theorem told_of_fits {l : List Bm} (h : fitsB l l.length = true) : Told l := by
  intro h1 h2
  rw [fitsB_iff] at h
  have := (okB_iff.1 (h (l.length - 1) (by omega))).2
  unfold ahead
  rw [this]
  unfold sizeN
  rw [if_neg (by omega), if_neg (by omega), if_pos (by omega)]
  omega
theorem getD_take {α : Type} (l : List α) (k i : Nat) (d : α) (h : i < k) : (l.take k).getD i d = l.getD i d := by
  simp [List.getD_eq_getElem?_getD, h]
theorem okB_take (l : List Bm) (k i : Nat) (h : i < k) : okB (l.take k) i = okB l i := by
  unfold okB ahead
  rw [getD_take _ _ _ _ h, getD_take _ _ _ _ (by omega)]
theorem fitsB_take (l : List Bm) (k j : Nat) (h : j ≤ k) : fitsB (l.take k) j = fitsB l j := by
  unfold fitsB
  rw [Bool.eq_iff_iff]
  simp only [List.all_eq_true, List.mem_range]
  exact ⟨fun hh i hi => by rw [← okB_take l k i (by omega)]; exact hh i hi, fun hh i hi => by rw [okB_take l k i (by omega)]; exact hh i hi⟩

theorem or_i64 (a b : Nat) (ha : a < 2 ^ 62) (hb : b < 2 ^ 62) : bits .or .i64 (a : Int) (b : Int) = ((a ||| b : Nat) : Int) := by
  show IntKind.i64.wrap ((BitVec.ofInt 64 (a : Int) ||| BitVec.ofInt 64 (b : Int)).toNat : Int) = _
  have h64 : (2 : Nat) ^ 62 < 2 ^ 64 := by decide
  rw [BitVec.toNat_or, ofInt_nat _ _ (Nat.lt_trans ha h64), ofInt_nat _ _ (Nat.lt_trans hb h64)]
  have hx : a ||| b < 2 ^ 62 := Nat.or_lt_two_pow ha hb
  exact IntWalk.i64_in _ ⟨by omega, by omega⟩

set_option maxRecDepth 100000 in
set_option maxHeartbeats 1000000 in
theorem fileSize_any (b off n c B : Nat) (xs : List UInt8) (w : World) (hr : Rd bv w B (some ⟨b, off, none⟩) n c xs) (hn : 14 ≤ n) (hn2 : n ≤ 9223372036854775807) :
    Calls Try.prog 34 #[.slice (some ⟨b, off, none⟩) n c] w fun e w' => e = .returned (.int .i64 (fsz xs : Int)) ∧ Still w w' := by
  have hl := hr.len
  have hc1 := (rd_cell hr 12 (by omega)).2
  have hc2 := (rd_cell hr 13 (by omega)).2
  have HF : Hid (fsz xs = (xs[12]'(by omega)).toNat + 256 * (xs[13]'(by omega)).toNat) := by
    unfold fsz; rw [List.getD_eq_getElem?_getD, List.getD_eq_getElem?_getD, List.getElem?_eq_getElem (show 12 < xs.length by omega), List.getElem?_eq_getElem (show 13 < xs.length by omega)]; exact rfl
  generalize xs[12]'(by omega) = x at *
  generalize xs[13]'(by omega) = y at *
  have hx := x.toNat_lt
  have hy := y.toNat_lt
  have HO : bits .or .i64 (x.toNat : Int) ((y.toNat : Int) * 256) = ((x.toNat + 256 * y.toNat : Nat) : Int) := by
    rw [show ((y.toNat : Int) * 256) = ((y.toNat * 2 ^ 8 : Nat) : Int) from by omega, or_i64 _ _ (by omega) (by omega), add_or _ _ _ (by omega)]
    omega
  rw [HF.out]
  clear hl hr
  unfold bv at hc1 hc2
  go_enter Try.func34, Try.ntmps34
  go_wp2
  go_quiet (fail)
  go_wp2
  go_ret
  exact ⟨by first | rfl | (rw [HO]) | skip, _, rfl⟩

end Go.Proofs.Ytdefkajjpilicaa

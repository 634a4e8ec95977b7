/- Contracts of package block: putPair, File, Disk. No law is claimed here. -/
import Derived.Test.YtdefkajjpilicaaBlk2
import Derived.Test.YtdefkajjpilicaaK2
namespace Go.Proofs.Ytdefkajjpilicaa
open Go.RowKit

/-- a number below 256 as a byte -/
def u8N (z : Nat) : UInt8 := UInt8.ofNat z
theorem u8N_toNat (z : Nat) (h : z < 256) : (u8N z).toNat = z := by unfold u8N; simp; omega
theorem u8N_of (x : UInt8) : u8N x.toNat = x := by unfold u8N; simp

theorem Own.at_ {α : Type} {f : α → Value} {w : World} {base g n c : Nat} {e : TypeId} {xs : List α} (h : Own f w base e (some ⟨g, 0, none⟩) n c xs) (j : Nat) (hj : j < xs.length) : w.cell? ⟨g, j, none⟩ = some (f xs[j]) := by
  obtain ⟨b, off, e, _, hc⟩ := h.rd.at_ j hj
  injection e with e; injection e with e1 e2; subst e1; subst e2
  rw [Nat.zero_add] at hc; exact hc
theorem World.grownBy.trans' {a b c : World} {row : Option Nat} (h : a.grownBy b row) (k : b.grownBy c row) : a.grownBy c row :=
  ⟨k.os.trans h.os, k.tape.trans h.tape, k.output.trans h.output, Nat.le_trans h.size k.size, fun i hi hne => (k.block i (Nat.lt_of_lt_of_le hi h.size) hne).trans (h.block i hi hne)⟩
theorem Own.storedG {α : Type} {f : α → Value} {w : World} {base g n c : Nat} {e : TypeId} {xs : List α} (h : Own f w base e (some ⟨g, 0, none⟩) n c xs) (j : Nat) (u : Value) :
    w.grownBy (w.setCell ⟨g, j, none⟩ u) (some g) := (h.own.stored j u).2

set_option maxRecDepth 100000 in
set_option maxHeartbeats 1000000 in
theorem putPair_any (g off n2 c2 n c base : Nat) (v : Int) (xs : List UInt8) (w : World) (ho : Own bv w base 5 (some ⟨g, 0, none⟩) n c xs) (hf : off + 2 ≤ n) (h2 : 2 ≤ n2) (hv : 0 ≤ v) (hv2 : v < 65536) :
    Calls Try.prog 33 #[.slice (some ⟨g, off, none⟩) n2 c2, .int .u16 v] w fun e w' => e = .returned (.tuple #[]) ∧
      Own bv w' base 5 (some ⟨g, 0, none⟩) n c ((xs.set off (u8N (v % 256).toNat)).set (off + 1) (u8N (v / 256).toNat)) ∧ w.grownBy w' (some g) := by
  have hl := ho.len
  have hc0 := ho.at_ off (by omega)
  have f0 := ho.frozen off
  have ho1 := ho.stored off (u8N (v % 256).toNat)
  have hg1 := ho.storedG off (bv (u8N (v % 256).toNat))
  have hc1 := ho1.at_ (off + 1) (by simp; omega)
  have f1 := ho1.frozen (off + 1)
  have ho2 := ho1.stored (off + 1) (u8N (v / 256).toNat)
  have hg2 := ho1.storedG (off + 1) (bv (u8N (v / 256).toNat))
  have e1 : bv (u8N (v % 256).toNat) = .int .u8 (v % 256) := by unfold bv; rw [u8N_toNat _ (by omega)]; congr 1; omega
  have e2 : bv (u8N (v / 256).toNat) = .int .u8 (v / 256) := by unfold bv; rw [u8N_toNat _ (by omega)]; congr 1; omega
  have HE := Lib.hid (And.intro ho2 (World.grownBy.trans' hg1 hg2))
  rw [e1] at hc1 f1
  rw [e1, e2] at HE
  unfold bv at hc0 hc1
  clear ho ho1 ho2 hg1 hg2 e1 e2
  generalize (xs.set off (u8N (v % 256).toNat))[off + 1]'_ = y at *
  generalize xs[off]'_ = x at *
  have w1 : IntKind.u8.wrap v = v % 256 := wrap_u8_mod _
  have w2 : IntKind.u8.wrap (v / 256) = v / 256 := by rw [wrap_u8_mod]; omega
  go_enter Try.func33, Try.ntmps33
  go_wp2
  go_end0
  exact ⟨rfl, HE.out⟩

/-- a block of structs that was just made -/
theorem RdX.madeX {ρ α : Type} (T : Shape ρ α) (w : World) (e : TypeId) (fr : Nat × Nat) (cs : Array Value) (rs : List ρ) (xs : List α) (g n : Nat) (S : Nat → Prop) (hcs : cs = (rs.flatMap T.raw).toArray) (hg : g = w.heap.size) (hn : rs.length = n) (hn2 : xs.length = n) (hS : S g)
    (hok : ∀ (j : Nat) (r : ρ) (x : α), rs[j]? = some r → xs[j]? = some x → T.Ok (w.alloc (.cells cs e fr)) S r x) : RdX T (w.alloc (.cells cs e fr)) S (some ⟨g, 0, none⟩) n n xs := by
  refine ⟨hn2, Nat.le_refl _, fun j hj => ⟨g, 0, rfl, hS, rs[j]'(by omega), fun i u hu => ?_, hok j _ _ (List.getElem?_eq_getElem (by omega)) (List.getElem?_eq_getElem hj)⟩⟩
  have hi : i < T.k := by
    rcases Nat.lt_or_ge i T.k with hh | hh
    · exact hh
    · rw [List.getElem?_eq_none (by rw [T.len]; exact hh)] at hu; cases hu
  rw [Nat.zero_add]
  subst hg; subst hcs
  rw [cell_of_row _ _ _ _ _ _ (heap_alloc_new w _)]
  have := flatMap_get T.raw T.k T.len rs j i (by omega) hi
  rw [hu] at this
  simpa using this

/-- the head of a file -/
def headN (number id : UInt8) (name : List UInt8) (a : Nat) (kind : UInt8) (sz : Nat) : List UInt8 :=
  (((((lay [number, id, 0, 0, 0, 0, 0, 0, 0, 0, 0, 0, 0, 0, 0] 2 (name.take 8)).set 10 (u8N (a % 256))).set 11 (u8N (a / 256))).set 12 (u8N (sz % 256))).set 13 (u8N (sz / 256))).set 14 kind
def fileN (number id : UInt8) (name : List UInt8) (a : Nat) (kind : UInt8) (xs : List UInt8) : List Bm := [⟨3, headN number id name a kind xs.length⟩, ⟨4, xs⟩]

/-- a call that makes blocks -/
def RetB (w : World) (l : List Bm) (r : Ending) (w' : World) : Prop :=
  ∃ A n c, r = .returned (.slice A n c) ∧ RdX shB w' (· < w'.heap.size) A n c l ∧ Below w.heap.size w w'

/-- .. all of it new -/
def RetF (w : World) (l : List Bm) (r : Ending) (w' : World) : Prop :=
  ∃ A n c, r = .returned (.slice A n c) ∧ RdX shB w' (fun b => w.heap.size ≤ b ∧ b < w'.heap.size) A n c l ∧ Below w.heap.size w w'

theorem Try.mk15 (w : World) : (Instr.makeSlice 24 (.int .i64 15) (.int .i64 15)).run Try.prog w = .ok (.slice (some ⟨w.heap.size, 0, none⟩) 15 15)
    (w.alloc (.cells #[.int .u8 0, .int .u8 0, .int .u8 0, .int .u8 0, .int .u8 0, .int .u8 0, .int .u8 0, .int .u8 0, .int .u8 0, .int .u8 0, .int .u8 0, .int .u8 0, .int .u8 0, .int .u8 0, .int .u8 0] 5)) := by kernel_rfl
theorem Try.szU8 : (Try.prog.info? 5).map (·.size) = some 1 := by kernel_rfl

set_option maxRecDepth 100000 in
set_option maxHeartbeats 2000000 in
theorem file_any (number id kind : UInt8) (name : ByteArray) (ad : Int) (A : Option Addr) (n c B : Nat) (xs : List UInt8) (w : World) (hr : Rd bv w B A n c xs) (hB : B ≤ w.heap.size) (hn : n ≤ 65535) (ha : 0 ≤ ad) (ha2 : ad < 65536) :
    Calls Try.prog 26 #[.int .u8 (number.toNat : Int), .int .u8 (id.toNat : Int), .string name, .int .u16 ad, .int .u8 (kind.toNat : Int), .slice A n c] w (RetF w (fileN number id (strN name) ad.toNat kind xs)) := by
  have hmk := Try.mk15
  have hn' : ¬ ((n : Int) > 65535) := by omega
  have ho0 : Own bv (w.alloc (.cells #[.int .u8 (number.toNat : Int), .int .u8 (id.toNat : Int), .int .u8 0, .int .u8 0, .int .u8 0, .int .u8 0, .int .u8 0, .int .u8 0, .int .u8 0, .int .u8 0, .int .u8 0, .int .u8 0, .int .u8 0, .int .u8 0, .int .u8 0] 5)) w.heap.size 5 (some ⟨w.heap.size, 0, none⟩) 15 15
      [number, id, 0, 0, 0, 0, 0, 0, 0, 0, 0, 0, 0, 0, 0] := Own.fresh _ _ _ _ _ _ rfl rfl (by simp [maxLen]) rfl
  have hb0 : Below w.heap.size w (w.alloc (.cells #[.int .u8 (number.toNat : Int), .int .u8 (id.toNat : Int), .int .u8 0, .int .u8 0, .int .u8 0, .int .u8 0, .int .u8 0, .int .u8 0, .int .u8 0, .int .u8 0, .int .u8 0, .int .u8 0, .int .u8 0, .int .u8 0, .int .u8 0] 5)) := (Below.refl _ _).alloc (Nat.le_refl _) _
  obtain ⟨w1, hcp, ho1, hg1⟩ := run_copy_lay (P := Try.prog) _ 24 9 3 5 w.heap.size 2 8 13 name _ _ 15 15 _ Try.underlying24 Try.szU8 ho0 (by omega)
  generalize ((strN name).take 8).length = k1 at hcp
  go_enter Try.func26, Try.ntmps26
  go_wp2_with fail
  have hb1 : Below w.heap.size w w1 := hb0.grown hg1 (by simp) (fun k hk => by injection hk with hk; omega)
  clear hcp hg1 hb0 ho0 hmk
  refine (putPair_any w.heap.size 10 5 5 15 15 w.heap.size ad _ w1 ho1 (by omega) (by omega) ha ha2).mono ?_
  rintro e w2 ⟨rfl, ho2, hg2⟩
  have hb2 := hb1.grown hg2 hb1.size (fun k hk => by injection hk with hk; omega)
  have hcv : IntKind.u16.wrap (n : Int) = (n : Int) := by rw [wrap_u16_mod]; omega
  go_wp2_with fail
  refine (putPair_any w.heap.size 12 3 3 15 15 w.heap.size (n : Int) _ w2 ho2 (by omega) (by omega) (by omega) (by omega)).mono ?_
  rintro e w3 ⟨rfl, ho3, hg3⟩
  have hb3 := hb2.grown hg3 hb2.size (fun k hk => by injection hk with hk; omega)
  have hc14 := ho3.at_ 14 (by rw [ho3.len]; omega)
  have fz := ho3.frozen 14
  have ho4 := ho3.stored 14 kind
  have hg4 := ho3.storedG 14 (bv kind)
  have hb4 := hb3.grown hg4 hb3.size (fun k hk => by injection hk with hk; omega)
  have hl3 := Lib.hid ho3.len
  unfold bv at hc14
  generalize (List.set _ (12 + 1) _)[14]'_ = y at hc14
  have HH : Hid (headN number id (strN name) ad.toNat kind xs.length = (((((lay [number, id, 0, 0, 0, 0, 0, 0, 0, 0, 0, 0, 0, 0, 0] 2 ((strN name).take 8)).set 10 (u8N (ad % 256).toNat)).set (10 + 1) (u8N (ad / 256).toNat)).set 12 (u8N ((n : Int) % 256).toNat)).set (12 + 1) (u8N ((n : Int) / 256).toNat)).set 14 kind) := by
    unfold headN
    rw [hr.len, show (ad % 256).toNat = ad.toNat % 256 by omega, show (ad / 256).toNat = ad.toNat / 256 by omega, show ((n : Int) % 256).toNat = n % 256 by omega, show ((n : Int) / 256).toNat = n / 256 by omega]
    exact rfl
  rw [← HH.out] at ho4
  clear ho1 ho2 ho3 hg2 hg3 hg4 hb1 hb2 hb3 HH hl3
  go_wp2_with fail
  have hW : w3.setCell ⟨w.heap.size, 14, none⟩ (bv kind) = w3.setCell ⟨w.heap.size, 14, none⟩ (.int .u8 (kind.toNat : Int)) := rfl
  rw [hW] at ho4 hb4
  generalize w3.setCell ⟨w.heap.size, 14, none⟩ (.int .u8 (kind.toNat : Int)) = w4 at *
  clear hW hc14 fz
  refine (clone_any A n c B xs _ (hr.belowLe hb4 hB) (Nat.le_trans hB hb4.size) (by omega)).mono ?_
  rintro e w5 ⟨A5, n5, c5, rfl, ho5, hb5⟩
  have hs4 := hb4.size
  have hs5 := hb5.size
  have bl5 := hb4.trans (hb5.mono hs4)
  have hh5 := ho4.below hb5
  clear ho4
  go_wp2
  go_ret
  refine ⟨_, 2, 2, rfl, RdX.madeX shB _ _ _ _ [⟨3, some ⟨w.heap.size, 0, none⟩, 15, 15⟩, ⟨4, A5, n5, c5⟩] (fileN number id (strN name) ad.toNat kind xs) _ 2 _ rfl rfl rfl rfl ?_ ?_, bl5.alloc (by omega) _⟩
  · simp; omega
  · intro j r x h1 h2
    have hk : ∀ o, Kp (fun b => w.heap.size ≤ b ∧ b < w5.heap.size) w5 (w5.alloc o) := fun o => Kp.alloc (fun b h => h.2) o
    match j, h1, h2 with
    | 0, h1, h2 =>
      unfold fileN at h2
      simp at h1 h2
      subst h1; subst h2
      exact ⟨rfl, hh5.rdp.keep (hk _) (fun b h => ⟨h.1, by simp; omega⟩)⟩
    | 1, h1, h2 =>
      unfold fileN at h2
      simp at h1 h2
      subst h1; subst h2
      exact ⟨rfl, (ho5.lower hs4).rdp.keep (hk _) (fun b h => ⟨h.1, by simp; omega⟩)⟩

end Go.Proofs.Ytdefkajjpilicaa

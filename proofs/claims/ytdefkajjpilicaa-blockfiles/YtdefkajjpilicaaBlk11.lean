/- Contracts: the references' Text, the law's made; files in memory. No law is claimed here. -/
import Derived.Test.YtdefkajjpilicaaBlk7
namespace Go.Proofs.Ytdefkajjpilicaa
open Go.RowKit

theorem strN_extract (s : ByteArray) (k : Nat) : strN (s.extract 0 k) = (strN s).take k := by
  unfold strN
  simp [ByteArray.data_extract, Array.toList_extract]

set_option maxRecDepth 100000 in
set_option maxHeartbeats 1000000 in
theorem text_any (s : ByteArray) (w : World) (hs : s.size ≤ 9223372036854775807) :
    Calls Try.prog 25 #[.string s, .int .i64 20] w fun e w' => (∃ s', e = .returned (.string s') ∧ strN s' = (strN s).take 20) ∧ w = w' := by
  by_cases h : s.size ≤ 20
  · have h1 : (s.size : Int) ≤ 20 := by omega
    go_enter Try.func25, Try.ntmps25
    go_wp2
    go_ret
    exact ⟨⟨s, rfl, by rw [List.take_of_length_le (by rw [strN_len]; omega)]⟩, rfl⟩
  · have h1 : ¬ (s.size : Int) ≤ 20 := by omega
    have h2 : 20 ≤ s.size := by omega
    have h3 : (20 : Int) ≤ s.size := by omega
    have h4 : ¬ (s.size : Int) < 20 := by omega
    go_enter Try.func25, Try.ntmps25
    go_wp2
    go_ret
    exact ⟨⟨_, rfl, strN_extract s 20⟩, rfl⟩

/-- a file, as the law has it -/
structure Fm where
  number : UInt8
  id : UInt8
  kind : UInt8
  name : ByteArray
  address : Int
  data : List UInt8
structure RawF where
  number : UInt8
  id : UInt8
  kind : UInt8
  name : ByteArray
  address : Int
  A : Option Addr
  n : Nat
  c : Nat
def shF : Shape RawF Fm where
  k := 6
  raw r := [.int .u8 (r.number.toNat : Int), .int .u8 (r.id.toNat : Int), .int .u8 (r.kind.toNat : Int), .string r.name, .int .u16 r.address, .slice r.A r.n r.c]
  Ok w S r x := r.number = x.number ∧ r.id = x.id ∧ r.kind = x.kind ∧ r.name = x.name ∧ r.address = x.address ∧ Rdp bv w S r.A r.n r.c x.data
  pos := by omega
  len _ := rfl
  one r u h := by simp at h; rcases h with rfl | rfl | rfl | rfl | rfl | rfl <;> rfl
  keep h hk hS := ⟨h.1, h.2.1, h.2.2.1, h.2.2.2.1, h.2.2.2.2.1, h.2.2.2.2.2.keep hk hS⟩
theorem rdF_at {w : World} {S : Nat → Prop} {A : Option Addr} {n c : Nat} {l : List Fm} (h : RdX shF w S A n c l) (j : Nat) (hj : j < l.length) :
    ∃ b off A' n' c', A = some ⟨b, off, none⟩ ∧ S b ∧ w.cell? ⟨b, off + j * 6, none⟩ = some (.int .u8 (l[j].number.toNat : Int)) ∧ w.cell? ⟨b, off + j * 6 + 1, none⟩ = some (.int .u8 (l[j].id.toNat : Int)) ∧
      w.cell? ⟨b, off + j * 6 + 2, none⟩ = some (.int .u8 (l[j].kind.toNat : Int)) ∧ w.cell? ⟨b, off + j * 6 + 3, none⟩ = some (.string l[j].name) ∧ w.cell? ⟨b, off + j * 6 + 4, none⟩ = some (.int .u16 l[j].address) ∧
      w.cell? ⟨b, off + j * 6 + 5, none⟩ = some (.slice A' n' c') ∧ Rdp bv w S A' n' c' l[j].data := by
  obtain ⟨b, off, e, hb, r, hc, h1, h2, h3, h4, h5, h6⟩ := h.at_ j hj
  refine ⟨b, off, r.A, r.n, r.c, e, hb, ?_, ?_, ?_, ?_, ?_, ?_, h6⟩
  · have := hc 0 _ rfl; rw [← h1]; exact this
  · have := hc 1 _ rfl; rw [← h2]; exact this
  · have := hc 2 _ rfl; rw [← h3]; exact this
  · have := hc 3 _ rfl; rw [← h4]; exact this
  · have := hc 4 _ rfl; rw [← h5]; exact this
  · exact hc 5 _ rfl

def okF (f : Fm) : Prop := f.name.size ≤ 9223372036854775807 ∧ 0 ≤ f.address ∧ f.address < 65536 ∧ f.data.length ≤ 9223372036854775807
/-- the blocks of a file, as the law makes them -/
def fmB (f : Fm) : List Bm := fileN f.number f.id ((strN f.name).take 20) f.address.toNat f.kind (f.data.take 300)
def madeN (sign : List UInt8) (side : UInt8) (fs : List Fm) (less : Nat) : List Bm :=
  (diskN (sign.take 20) side ((fs.take 8).map fmB)).take ((diskN (sign.take 20) side ((fs.take 8).map fmB)).length - less % 5)

theorem file_E (number id kind : UInt8) (name : ByteArray) (nm : List UInt8) (hname : strN name = nm) (ad : Int) (A : Option Addr) (n c : Nat) (xs : List UInt8) (w : World) (hr : RdE bv w A n c xs) (hn : n ≤ 65535) (ha : 0 ≤ ad) (ha2 : ad < 65536) :
    Calls Try.prog 26 #[.int .u8 (number.toNat : Int), .int .u8 (id.toNat : Int), .string name, .int .u16 ad, .int .u8 (kind.toNat : Int), .slice A n c] w (RetF w (fileN number id nm ad.toNat kind xs)) := by
  subst hname
  exact file_any number id kind name ad A n c w.heap.size xs w hr (Nat.le_refl _) hn ha ha2

end Go.Proofs.Ytdefkajjpilicaa

/- The walk of BlockFiles, as the row's frame wants it. No law is claimed here. -/
import Derived.Test.YtdefkajjpilicaaBlk20
namespace Go.Proofs.Ytdefkajjpilicaa
open Go.RowKit

theorem blockFiles_walk (number id kind : UInt8) (name : ByteArray) (ad : Int) (A : Option Addr) (n c : Nat) (xs : List UInt8) (sign : ByteArray) (z : Int) (w : World)
    (hr : Rd bv w w.heap.size A n c xs) (hn : n ≤ 9223372036854775807) (hnm : name.size ≤ 9223372036854775807) (ha0 : 0 ≤ ad) (ha1 : ad < 65536) (hsg : sign.size ≤ maxLen) (h0 : 0 ≤ z) (h1 : z < 256) :
    Calls Try.prog 6 #[.agg #[.int .u8 (number.toNat : Int), .int .u8 (id.toNat : Int), .int .u8 (kind.toNat : Int), .string name, .int .u16 ad, .slice A n c], .string sign, .int .u8 z] w fun e w' => e = .returned (.bool true) ∧ Below w.heap.size w w' := by
  have e : ((UInt8.ofNat z.toNat).toNat : Int) = z := by rw [UInt8.toNat_ofNat']; omega
  have := blockFiles_w number id kind name ad A n c xs sign (UInt8.ofNat z.toNat) w hr hn hnm hsg ha0 ha1
  rw [e] at this
  exact this

end Go.Proofs.Ytdefkajjpilicaa

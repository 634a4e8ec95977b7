/-
  NARROWER THAN 'FOR EVERY INPUT', by the rows' own cells (each row's printed sentence says how): AluStores: laid.
  DERIVED. THE GIVEN ROWS OF THIS SEAT. 1 by the template 'for every input the law returns true; each argument reads behind the call as it read before'; 0 by the template 'total and deterministic' (their statements: YtigpmmjbdpnkjaaDoorTotals.lean).
  GIVEN WITH THE SEED: the statements are not yours to turn. If you find one false, say at which input.
  Laid BY PROGRAM, IN A SANDBOX (cutbox-rows.mjs): the forced cells as the released guide's own fill.sh prints them over the translation 60acd360d6acc2e5… (all of the seat's roots in one cut). By AI agents, Wed Nov 11 2026. No macro, syntax, notation, axiom, sorry.
-/
import Derived.Test.YtigpmmjbdpnkjaaDoorChecked
import GoSem.Claim
import GoSem.ClaimJoined
import GoSem.ClaimMapViews
import Derived.JoinedTies
import Derived.KernelRfl
namespace Go.Proofs.YtigpmmjbdpnkjaaDoor
/- THE CELL 'sum', in the pinned program and in every row, IS THE sha256 OF THE DUMP (.gsa) THAT YtigpmmjbdpnkjaaDoorProg.lean LOADS. Nothing in Lean hashes anything: it is a label: what it is worth is what the hold of that sum in a sandbox is worth. -/
noncomputable def Tryd.pinned : Pinned := { name := "ytigpmmjbdpnkjaadoor", sum := "60acd360d6acc2e53ee610b5d88306eb0b871a254d880e2b31c5f44689f93c38", checked := Tryd.checked }
namespace Rows
def none {H : Type} : Left H := { results := [], args := [] }

/- WHAT THE LISTED PACKAGE-LEVEL VARIABLES READ AS WHEN THE CALL BEGINS. Each datum BY PROGRAM (the guide's laid-datum.mjs) off the statement by which the dump's own 'gosem.cut.vars' lays the variable. In a bare row this is a premise. The card (YtigpmmjbdpnkjaaDoorCards.lean) ties it to the program's text. -/
def laid_kotatsu_alu_branchFlags {H : Type} : DataW H := .agg [.lit (.int .u8 128), .lit (.int .u8 64), .lit (.int .u8 1), .lit (.int .u8 2)]

/-- 'kotatsulaw08.AluStores': WHATEVER THE INPUT: true; the input reads as it did. -/
def aluStoresSpec : ChangeSpec := { name := "aluStores", fn := fun _ => fun
  | [d1, d2] => { results := [.lit (.bool true)], args := [d1, d2] }
  | _ => none }
def aluStoresRow : OpenClaim := { program := "ytigpmmjbdpnkjaadoor", sum := "60acd360d6acc2e53ee610b5d88306eb0b871a254d880e2b31c5f44689f93c38", func := "kotatsu/kotatsulaw08.AluStores", spec := "aluStores", unfollowed := true, recurses := true, named := ["kotatsu/alu.branchFlags"], apart := false, laid := [("kotatsu/alu.branchFlags", laid_kotatsu_alu_branchFlags)] }
def AluStoresSaid : Prop := aluStoresRow.holds Tryd.pinned (OpenSpec.ofChange aluStoresSpec)

/-- ITS FALSE NEIGHBOUR: 'it returns false'. Refute it at one input. -/
def aluStoresWrong : ChangeSpec := { name := "aluStores", fn := fun _ => fun
  | [d1, d2] => { results := [.lit (.bool false)], args := [d1, d2] }
  | _ => none }
def AluStoresWrongFalsely : Prop := aluStoresRow.holds Tryd.pinned (OpenSpec.ofChange aluStoresWrong)

/- THE SECOND FORM. 'bulk': how many values and letters a reading holds, each counted each time it is reached (what is shared counts as often as it is met; a slice's spare places count too). A statement '..UptoSaid' is the law's where the arguments, and the package variables that the reading takes, are together of bulk at most 1048576: NARROWER than '..Said'. Prove '..Said' where nothing that the law and all that it calls make is longer than what came in: it says more and counts as full. Else prove '..UptoSaid'. A law counts once. -/
mutual
def uptoBulk {H : Type} : DataW H → Nat
  | .lit (.string bytes) => bytes.length + 1
  | .lit _ => 1
  | .nil => 1
  | .ptr d => uptoBulk d + 1
  | .slice elems spare => uptoBulkAll elems + uptoBulkAll spare + 1
  | .agg parts => uptoBulkAll parts + 1
  | .iface _ d => uptoBulk d + 1
  | .map entries => uptoBulkEntries entries + 1
  | .held _ => 1
def uptoBulkAll {H : Type} : List (DataW H) → Nat
  | [] => 0
  | d :: r => uptoBulk d + uptoBulkAll r
def uptoBulkEntries {H : Type} : List (Lit × DataW H) → Nat
  | [] => 0
  | x :: r => uptoBulkEntry x + uptoBulkEntries r
def uptoBulkEntry {H : Type} : Lit × DataW H → Nat
  | (.string bytes, d) => bytes.length + uptoBulk d + 1
  | (_, d) => uptoBulk d + 1
 end
def uptoSmall : (H : Type) → List (DataW H) → Bool := fun _ ds => decide (uptoBulkAll ds ≤ 1048576)
def OpenSpec.upto (s : _root_.Go.ChangeSpec) : _root_.Go.OpenSpec := { _root_.Go.OpenSpec.ofChange s with cond := some uptoSmall }

/-- 'kotatsulaw08.AluStores', WHERE WHAT IT READS IS OF BULK AT MOST 1048576: true; the input reads as it did. -/
def aluStoresUptoRow : OpenClaim := { program := "ytigpmmjbdpnkjaadoor", sum := "60acd360d6acc2e53ee610b5d88306eb0b871a254d880e2b31c5f44689f93c38", func := "kotatsu/kotatsulaw08.AluStores", spec := "aluStores", unfollowed := true, recurses := true, named := ["kotatsu/alu.branchFlags"], apart := false, laid := [("kotatsu/alu.branchFlags", laid_kotatsu_alu_branchFlags)], narrowed := true }
def AluStoresUptoSaid : Prop := aluStoresUptoRow.holds Tryd.pinned (OpenSpec.upto aluStoresSpec)

end Rows
end Go.Proofs.YtigpmmjbdpnkjaaDoor

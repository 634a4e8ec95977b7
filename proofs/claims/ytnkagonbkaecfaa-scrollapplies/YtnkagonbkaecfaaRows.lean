/-
  No cell of these rows narrows 'for every input' (looked for: loops, veiled, ifaces, maps, wideKeys, modest, calm, conditions, laid).
  DERIVED. THE GIVEN ROWS OF THIS SEAT. 6 by the template 'for every input the law returns true; each argument reads behind the call as it read before'; 0 by the template 'total and deterministic' (their statements: YtnkagonbkaecfaaTotals.lean).
  GIVEN WITH THE SEED: the statements are not yours to turn. If you find one false, say at which input.
  Laid BY PROGRAM, IN A SANDBOX (cutbox-rows.mjs): the forced cells as the released guide's own fill.sh prints them over the translation 96135fd642387911… (all of the seat's roots in one cut). By AI agents, Wed Nov 11 2026. No macro, syntax, notation, axiom, sorry.
-/
import Derived.Test.YtnkagonbkaecfaaChecked
import GoSem.Claim
import GoSem.ClaimJoined
import GoSem.ClaimMapViews
import Derived.JoinedTies
import Derived.KernelRfl
namespace Go.Proofs.Ytnkagonbkaecfaa
/- THE CELL 'sum', in the pinned program and in every row, IS THE sha256 OF THE DUMP (.gsa) THAT YtnkagonbkaecfaaProg.lean LOADS. Nothing in Lean hashes anything: it is a label: what it is worth is what the hold of that sum in a sandbox is worth. -/
noncomputable def Try.pinned : Pinned := { name := "ytnkagonbkaecfaa", sum := "96135fd6423879112bae7b31b2a199742d506c252ba1ed482a329ba4cabb3b5e", checked := Try.checked }
namespace Rows
def none {H : Type} : Left H := { results := [], args := [] }

/-- 'kotatsulaw03.ScrollForms': WHATEVER THE INPUT: true; the input reads as it did. -/
def scrollFormsSpec : ChangeSpec := { name := "scrollForms", fn := fun _ => fun
  | [d1, d2] => { results := [.lit (.bool true)], args := [d1, d2] }
  | _ => none }
def scrollFormsRow : OpenClaim := { program := "ytnkagonbkaecfaa", sum := "96135fd6423879112bae7b31b2a199742d506c252ba1ed482a329ba4cabb3b5e", func := "kotatsu/kotatsulaw03.ScrollForms", spec := "scrollForms", unfollowed := true, recurses := true, apart := false }
def ScrollFormsSaid : Prop := scrollFormsRow.holds Try.pinned (OpenSpec.ofChange scrollFormsSpec)

/-- ITS FALSE NEIGHBOUR: 'it returns false'. Refute it at one input. -/
def scrollFormsWrong : ChangeSpec := { name := "scrollForms", fn := fun _ => fun
  | [d1, d2] => { results := [.lit (.bool false)], args := [d1, d2] }
  | _ => none }
def ScrollFormsWrongFalsely : Prop := scrollFormsRow.holds Try.pinned (OpenSpec.ofChange scrollFormsWrong)

/-- 'kotatsulaw03.ScrollReads': WHATEVER THE INPUT: true; the input reads as it did. -/
def scrollReadsSpec : ChangeSpec := { name := "scrollReads", fn := fun _ => fun
  | [d1, d2] => { results := [.lit (.bool true)], args := [d1, d2] }
  | _ => none }
def scrollReadsRow : OpenClaim := { program := "ytnkagonbkaecfaa", sum := "96135fd6423879112bae7b31b2a199742d506c252ba1ed482a329ba4cabb3b5e", func := "kotatsu/kotatsulaw03.ScrollReads", spec := "scrollReads", unfollowed := true, recurses := true, apart := false }
def ScrollReadsSaid : Prop := scrollReadsRow.holds Try.pinned (OpenSpec.ofChange scrollReadsSpec)

/-- ITS FALSE NEIGHBOUR: 'it returns false'. Refute it at one input. -/
def scrollReadsWrong : ChangeSpec := { name := "scrollReads", fn := fun _ => fun
  | [d1, d2] => { results := [.lit (.bool false)], args := [d1, d2] }
  | _ => none }
def ScrollReadsWrongFalsely : Prop := scrollReadsRow.holds Try.pinned (OpenSpec.ofChange scrollReadsWrong)

/-- 'kotatsulaw03.ScrollCuts': WHATEVER THE INPUT: true; the input reads as it did. -/
def scrollCutsSpec : ChangeSpec := { name := "scrollCuts", fn := fun _ => fun
  | [d1, d2] => { results := [.lit (.bool true)], args := [d1, d2] }
  | _ => none }
def scrollCutsRow : OpenClaim := { program := "ytnkagonbkaecfaa", sum := "96135fd6423879112bae7b31b2a199742d506c252ba1ed482a329ba4cabb3b5e", func := "kotatsu/kotatsulaw03.ScrollCuts", spec := "scrollCuts", unfollowed := true, recurses := true, apart := false }
def ScrollCutsSaid : Prop := scrollCutsRow.holds Try.pinned (OpenSpec.ofChange scrollCutsSpec)

/-- ITS FALSE NEIGHBOUR: 'it returns false'. Refute it at one input. -/
def scrollCutsWrong : ChangeSpec := { name := "scrollCuts", fn := fun _ => fun
  | [d1, d2] => { results := [.lit (.bool false)], args := [d1, d2] }
  | _ => none }
def ScrollCutsWrongFalsely : Prop := scrollCutsRow.holds Try.pinned (OpenSpec.ofChange scrollCutsWrong)

/-- 'kotatsulaw03.ScrollApplies': WHATEVER THE INPUT: true; the input reads as it did. -/
def scrollAppliesSpec : ChangeSpec := { name := "scrollApplies", fn := fun _ => fun
  | [d1, d2, d3] => { results := [.lit (.bool true)], args := [d1, d2, d3] }
  | _ => none }
def scrollAppliesRow : OpenClaim := { program := "ytnkagonbkaecfaa", sum := "96135fd6423879112bae7b31b2a199742d506c252ba1ed482a329ba4cabb3b5e", func := "kotatsu/kotatsulaw03.ScrollApplies", spec := "scrollApplies", unfollowed := true, recurses := true, apart := false }
def ScrollAppliesSaid : Prop := scrollAppliesRow.holds Try.pinned (OpenSpec.ofChange scrollAppliesSpec)

/-- ITS FALSE NEIGHBOUR: 'it returns false'. Refute it at one input. -/
def scrollAppliesWrong : ChangeSpec := { name := "scrollApplies", fn := fun _ => fun
  | [d1, d2, d3] => { results := [.lit (.bool false)], args := [d1, d2, d3] }
  | _ => none }
def ScrollAppliesWrongFalsely : Prop := scrollAppliesRow.holds Try.pinned (OpenSpec.ofChange scrollAppliesWrong)

/-- 'kotatsulaw03.ScrollMerges': WHATEVER THE INPUT: true; the input reads as it did. -/
def scrollMergesSpec : ChangeSpec := { name := "scrollMerges", fn := fun _ => fun
  | [d1, d2] => { results := [.lit (.bool true)], args := [d1, d2] }
  | _ => none }
def scrollMergesRow : OpenClaim := { program := "ytnkagonbkaecfaa", sum := "96135fd6423879112bae7b31b2a199742d506c252ba1ed482a329ba4cabb3b5e", func := "kotatsu/kotatsulaw03.ScrollMerges", spec := "scrollMerges", unfollowed := true, recurses := true, apart := false }
def ScrollMergesSaid : Prop := scrollMergesRow.holds Try.pinned (OpenSpec.ofChange scrollMergesSpec)

/-- ITS FALSE NEIGHBOUR: 'it returns false'. Refute it at one input. -/
def scrollMergesWrong : ChangeSpec := { name := "scrollMerges", fn := fun _ => fun
  | [d1, d2] => { results := [.lit (.bool false)], args := [d1, d2] }
  | _ => none }
def ScrollMergesWrongFalsely : Prop := scrollMergesRow.holds Try.pinned (OpenSpec.ofChange scrollMergesWrong)

/-- 'kotatsulaw03.ScrollRights': WHATEVER THE INPUT: true; the input reads as it did. -/
def scrollRightsSpec : ChangeSpec := { name := "scrollRights", fn := fun _ => fun
  | [d1, d2] => { results := [.lit (.bool true)], args := [d1, d2] }
  | _ => none }
def scrollRightsRow : OpenClaim := { program := "ytnkagonbkaecfaa", sum := "96135fd6423879112bae7b31b2a199742d506c252ba1ed482a329ba4cabb3b5e", func := "kotatsu/kotatsulaw03.ScrollRights", spec := "scrollRights", unfollowed := true, recurses := true, apart := false }
def ScrollRightsSaid : Prop := scrollRightsRow.holds Try.pinned (OpenSpec.ofChange scrollRightsSpec)

/-- ITS FALSE NEIGHBOUR: 'it returns false'. Refute it at one input. -/
def scrollRightsWrong : ChangeSpec := { name := "scrollRights", fn := fun _ => fun
  | [d1, d2] => { results := [.lit (.bool false)], args := [d1, d2] }
  | _ => none }
def ScrollRightsWrongFalsely : Prop := scrollRightsRow.holds Try.pinned (OpenSpec.ofChange scrollRightsWrong)

/- THE SECOND FORM. 'bulk': how many values and letters a reading holds, each counted each time it is reached (what is shared counts as often as it is met; a slice's spare places count too). A statement '..UptoSaid' is the law's where the arguments, and the package variables that the reading takes, are together of bulk at most 1048576: NARROWER than '..Said'. Prove '..Said' where nothing that the law and all that it calls make is longer than what came in: it says more and counts as full. Else prove '..UptoSaid'. A law counts once. -/
mutual
def uptoBulk {H : Type} : DataW H → Nat
  | .lit (.string bytes) => bytes.length + 1
  | .lit _ => 1
  | .nil => 1
  | .ptr d => uptoBulk d + 1
  | .slice elems spare => uptoBulkAll elems + uptoBulkAll spare + 1
  | .agg parts => uptoBulkAll parts + 1
  | .iface _ d => uptoBulk d + 1
  | .map entries => uptoBulkEntries entries + 1
  | .held _ => 1
def uptoBulkAll {H : Type} : List (DataW H) → Nat
  | [] => 0
  | d :: r => uptoBulk d + uptoBulkAll r
def uptoBulkEntries {H : Type} : List (Lit × DataW H) → Nat
  | [] => 0
  | x :: r => uptoBulkEntry x + uptoBulkEntries r
def uptoBulkEntry {H : Type} : Lit × DataW H → Nat
  | (.string bytes, d) => bytes.length + uptoBulk d + 1
  | (_, d) => uptoBulk d + 1
 end
def uptoSmall : (H : Type) → List (DataW H) → Bool := fun _ ds => decide (uptoBulkAll ds ≤ 1048576)
def OpenSpec.upto (s : _root_.Go.ChangeSpec) : _root_.Go.OpenSpec := { _root_.Go.OpenSpec.ofChange s with cond := some uptoSmall }

/-- 'kotatsulaw03.ScrollForms', WHERE WHAT IT READS IS OF BULK AT MOST 1048576: true; the input reads as it did. -/
def scrollFormsUptoRow : OpenClaim := { program := "ytnkagonbkaecfaa", sum := "96135fd6423879112bae7b31b2a199742d506c252ba1ed482a329ba4cabb3b5e", func := "kotatsu/kotatsulaw03.ScrollForms", spec := "scrollForms", unfollowed := true, recurses := true, apart := false, narrowed := true }
def ScrollFormsUptoSaid : Prop := scrollFormsUptoRow.holds Try.pinned (OpenSpec.upto scrollFormsSpec)

/-- 'kotatsulaw03.ScrollReads', WHERE WHAT IT READS IS OF BULK AT MOST 1048576: true; the input reads as it did. -/
def scrollReadsUptoRow : OpenClaim := { program := "ytnkagonbkaecfaa", sum := "96135fd6423879112bae7b31b2a199742d506c252ba1ed482a329ba4cabb3b5e", func := "kotatsu/kotatsulaw03.ScrollReads", spec := "scrollReads", unfollowed := true, recurses := true, apart := false, narrowed := true }
def ScrollReadsUptoSaid : Prop := scrollReadsUptoRow.holds Try.pinned (OpenSpec.upto scrollReadsSpec)

/-- 'kotatsulaw03.ScrollCuts', WHERE WHAT IT READS IS OF BULK AT MOST 1048576: true; the input reads as it did. -/
def scrollCutsUptoRow : OpenClaim := { program := "ytnkagonbkaecfaa", sum := "96135fd6423879112bae7b31b2a199742d506c252ba1ed482a329ba4cabb3b5e", func := "kotatsu/kotatsulaw03.ScrollCuts", spec := "scrollCuts", unfollowed := true, recurses := true, apart := false, narrowed := true }
def ScrollCutsUptoSaid : Prop := scrollCutsUptoRow.holds Try.pinned (OpenSpec.upto scrollCutsSpec)

/-- 'kotatsulaw03.ScrollApplies', WHERE WHAT IT READS IS OF BULK AT MOST 1048576: true; the input reads as it did. -/
def scrollAppliesUptoRow : OpenClaim := { program := "ytnkagonbkaecfaa", sum := "96135fd6423879112bae7b31b2a199742d506c252ba1ed482a329ba4cabb3b5e", func := "kotatsu/kotatsulaw03.ScrollApplies", spec := "scrollApplies", unfollowed := true, recurses := true, apart := false, narrowed := true }
def ScrollAppliesUptoSaid : Prop := scrollAppliesUptoRow.holds Try.pinned (OpenSpec.upto scrollAppliesSpec)

/-- 'kotatsulaw03.ScrollMerges', WHERE WHAT IT READS IS OF BULK AT MOST 1048576: true; the input reads as it did. -/
def scrollMergesUptoRow : OpenClaim := { program := "ytnkagonbkaecfaa", sum := "96135fd6423879112bae7b31b2a199742d506c252ba1ed482a329ba4cabb3b5e", func := "kotatsu/kotatsulaw03.ScrollMerges", spec := "scrollMerges", unfollowed := true, recurses := true, apart := false, narrowed := true }
def ScrollMergesUptoSaid : Prop := scrollMergesUptoRow.holds Try.pinned (OpenSpec.upto scrollMergesSpec)

/-- 'kotatsulaw03.ScrollRights', WHERE WHAT IT READS IS OF BULK AT MOST 1048576: true; the input reads as it did. -/
def scrollRightsUptoRow : OpenClaim := { program := "ytnkagonbkaecfaa", sum := "96135fd6423879112bae7b31b2a199742d506c252ba1ed482a329ba4cabb3b5e", func := "kotatsu/kotatsulaw03.ScrollRights", spec := "scrollRights", unfollowed := true, recurses := true, apart := false, narrowed := true }
def ScrollRightsUptoSaid : Prop := scrollRightsUptoRow.holds Try.pinned (OpenSpec.upto scrollRightsSpec)

end Rows
end Go.Proofs.Ytnkagonbkaecfaa

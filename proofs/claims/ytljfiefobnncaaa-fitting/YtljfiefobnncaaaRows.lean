/-
  No cell of these rows narrows 'for every input' (looked for: loops, veiled, ifaces, maps, wideKeys, modest, calm, conditions, laid).
  DERIVED. THE GIVEN ROWS OF THIS SEAT. 8 by the template 'for every input the law returns true; each argument reads behind the call as it read before'; 0 by the template 'total and deterministic' (their statements: YtljfiefobnncaaaTotals.lean).
  GIVEN WITH THE SEED: the statements are not yours to turn. If you find one false, say at which input.
  Laid BY PROGRAM, IN A SANDBOX (cutbox-rows.mjs): the forced cells as the released guide's own fill.sh prints them over the translation dbfdc9b013bcda50… (all of the seat's roots in one cut). By AI agents, Wed Nov 11 2026. No macro, syntax, notation, axiom, sorry.
-/
import Derived.Test.YtljfiefobnncaaaChecked
import GoSem.Claim
import GoSem.ClaimJoined
import GoSem.ClaimMapViews
import Derived.JoinedTies
import Derived.KernelRfl
namespace Go.Proofs.Ytljfiefobnncaaa
/- THE CELL 'sum', in the pinned program and in every row, IS THE sha256 OF THE DUMP (.gsa) THAT YtljfiefobnncaaaProg.lean LOADS. Nothing in Lean hashes anything: it is a label: what it is worth is what the hold of that sum in a sandbox is worth. -/
noncomputable def Try.pinned : Pinned := { name := "ytljfiefobnncaaa", sum := "dbfdc9b013bcda509dd8e8f67fa2660ad76e97189e459b76de2f12f259cfe65a", checked := Try.checked }
namespace Rows
def none {H : Type} : Left H := { results := [], args := [] }

/-- 'outlinelaw.Walks': WHATEVER THE INPUT: true; the input reads as it did. -/
def walksSpec : ChangeSpec := { name := "walks", fn := fun _ => fun
  | [d1, d2] => { results := [.lit (.bool true)], args := [d1, d2] }
  | _ => none }
def walksRow : OpenClaim := { program := "ytljfiefobnncaaa", sum := "dbfdc9b013bcda509dd8e8f67fa2660ad76e97189e459b76de2f12f259cfe65a", func := "outline/outlinelaw.Walks", spec := "walks", apart := false }
def WalksSaid : Prop := walksRow.holds Try.pinned (OpenSpec.ofChange walksSpec)

/-- ITS FALSE NEIGHBOUR: 'it returns false'. Refute it at one input. -/
def walksWrong : ChangeSpec := { name := "walks", fn := fun _ => fun
  | [d1, d2] => { results := [.lit (.bool false)], args := [d1, d2] }
  | _ => none }
def WalksWrongFalsely : Prop := walksRow.holds Try.pinned (OpenSpec.ofChange walksWrong)

/-- 'outlinekeep.Walked': WHATEVER THE INPUT: true; the input reads as it did. -/
def walkedSpec : ChangeSpec := { name := "walked", fn := fun _ => fun
  | [d1, d2, d3, d4, d5] => { results := [.lit (.bool true)], args := [d1, d2, d3, d4, d5] }
  | _ => none }
def walkedRow : OpenClaim := { program := "ytljfiefobnncaaa", sum := "dbfdc9b013bcda509dd8e8f67fa2660ad76e97189e459b76de2f12f259cfe65a", func := "outline/outlinekeep.Walked", spec := "walked", apart := false }
def WalkedSaid : Prop := walkedRow.holds Try.pinned (OpenSpec.ofChange walkedSpec)

/-- ITS FALSE NEIGHBOUR: 'it returns false'. Refute it at one input. -/
def walkedWrong : ChangeSpec := { name := "walked", fn := fun _ => fun
  | [d1, d2, d3, d4, d5] => { results := [.lit (.bool false)], args := [d1, d2, d3, d4, d5] }
  | _ => none }
def WalkedWrongFalsely : Prop := walkedRow.holds Try.pinned (OpenSpec.ofChange walkedWrong)

/-- 'outlinekeep.Counted': WHATEVER THE INPUT: true; the input reads as it did. -/
def countedSpec : ChangeSpec := { name := "counted", fn := fun _ => fun
  | [d1, d2, d3, d4] => { results := [.lit (.bool true)], args := [d1, d2, d3, d4] }
  | _ => none }
def countedRow : OpenClaim := { program := "ytljfiefobnncaaa", sum := "dbfdc9b013bcda509dd8e8f67fa2660ad76e97189e459b76de2f12f259cfe65a", func := "outline/outlinekeep.Counted", spec := "counted", apart := false }
def CountedSaid : Prop := countedRow.holds Try.pinned (OpenSpec.ofChange countedSpec)

/-- ITS FALSE NEIGHBOUR: 'it returns false'. Refute it at one input. -/
def countedWrong : ChangeSpec := { name := "counted", fn := fun _ => fun
  | [d1, d2, d3, d4] => { results := [.lit (.bool false)], args := [d1, d2, d3, d4] }
  | _ => none }
def CountedWrongFalsely : Prop := countedRow.holds Try.pinned (OpenSpec.ofChange countedWrong)

/-- 'outlinelaw.Traces': WHATEVER THE INPUT: true; the input reads as it did. -/
def tracesSpec : ChangeSpec := { name := "traces", fn := fun _ => fun
  | [d1, d2] => { results := [.lit (.bool true)], args := [d1, d2] }
  | _ => none }
def tracesRow : OpenClaim := { program := "ytljfiefobnncaaa", sum := "dbfdc9b013bcda509dd8e8f67fa2660ad76e97189e459b76de2f12f259cfe65a", func := "outline/outlinelaw.Traces", spec := "traces", apart := false }
def TracesSaid : Prop := tracesRow.holds Try.pinned (OpenSpec.ofChange tracesSpec)

/-- ITS FALSE NEIGHBOUR: 'it returns false'. Refute it at one input. -/
def tracesWrong : ChangeSpec := { name := "traces", fn := fun _ => fun
  | [d1, d2] => { results := [.lit (.bool false)], args := [d1, d2] }
  | _ => none }
def TracesWrongFalsely : Prop := tracesRow.holds Try.pinned (OpenSpec.ofChange tracesWrong)

/-- 'outlinekeep.Fitting': WHATEVER THE INPUT: true; the input reads as it did. -/
def fittingSpec : ChangeSpec := { name := "fitting", fn := fun _ => fun
  | [d1, d2, d3, d4, d5] => { results := [.lit (.bool true)], args := [d1, d2, d3, d4, d5] }
  | _ => none }
def fittingRow : OpenClaim := { program := "ytljfiefobnncaaa", sum := "dbfdc9b013bcda509dd8e8f67fa2660ad76e97189e459b76de2f12f259cfe65a", func := "outline/outlinekeep.Fitting", spec := "fitting", apart := false }
def FittingSaid : Prop := fittingRow.holds Try.pinned (OpenSpec.ofChange fittingSpec)

/-- ITS FALSE NEIGHBOUR: 'it returns false'. Refute it at one input. -/
def fittingWrong : ChangeSpec := { name := "fitting", fn := fun _ => fun
  | [d1, d2, d3, d4, d5] => { results := [.lit (.bool false)], args := [d1, d2, d3, d4, d5] }
  | _ => none }
def FittingWrongFalsely : Prop := fittingRow.holds Try.pinned (OpenSpec.ofChange fittingWrong)

/-- 'outlinekeep.Speckled': WHATEVER THE INPUT: true; the input reads as it did. -/
def speckledSpec : ChangeSpec := { name := "speckled", fn := fun _ => fun
  | [d1, d2, d3, d4, d5, d6] => { results := [.lit (.bool true)], args := [d1, d2, d3, d4, d5, d6] }
  | _ => none }
def speckledRow : OpenClaim := { program := "ytljfiefobnncaaa", sum := "dbfdc9b013bcda509dd8e8f67fa2660ad76e97189e459b76de2f12f259cfe65a", func := "outline/outlinekeep.Speckled", spec := "speckled", apart := false }
def SpeckledSaid : Prop := speckledRow.holds Try.pinned (OpenSpec.ofChange speckledSpec)

/-- ITS FALSE NEIGHBOUR: 'it returns false'. Refute it at one input. -/
def speckledWrong : ChangeSpec := { name := "speckled", fn := fun _ => fun
  | [d1, d2, d3, d4, d5, d6] => { results := [.lit (.bool false)], args := [d1, d2, d3, d4, d5, d6] }
  | _ => none }
def SpeckledWrongFalsely : Prop := speckledRow.holds Try.pinned (OpenSpec.ofChange speckledWrong)

/-- 'outlinekeep.Moved': WHATEVER THE INPUT: true; the input reads as it did. -/
def movedSpec : ChangeSpec := { name := "moved", fn := fun _ => fun
  | [d1, d2, d3, d4, d5, d6] => { results := [.lit (.bool true)], args := [d1, d2, d3, d4, d5, d6] }
  | _ => none }
def movedRow : OpenClaim := { program := "ytljfiefobnncaaa", sum := "dbfdc9b013bcda509dd8e8f67fa2660ad76e97189e459b76de2f12f259cfe65a", func := "outline/outlinekeep.Moved", spec := "moved", apart := false }
def MovedSaid : Prop := movedRow.holds Try.pinned (OpenSpec.ofChange movedSpec)

/-- ITS FALSE NEIGHBOUR: 'it returns false'. Refute it at one input. -/
def movedWrong : ChangeSpec := { name := "moved", fn := fun _ => fun
  | [d1, d2, d3, d4, d5, d6] => { results := [.lit (.bool false)], args := [d1, d2, d3, d4, d5, d6] }
  | _ => none }
def MovedWrongFalsely : Prop := movedRow.holds Try.pinned (OpenSpec.ofChange movedWrong)

/-- 'outlinelaw.Fills': WHATEVER THE INPUT: true; the input reads as it did. -/
def fillsSpec : ChangeSpec := { name := "fills", fn := fun _ => fun
  | [d1, d2, d3, d4] => { results := [.lit (.bool true)], args := [d1, d2, d3, d4] }
  | _ => none }
def fillsRow : OpenClaim := { program := "ytljfiefobnncaaa", sum := "dbfdc9b013bcda509dd8e8f67fa2660ad76e97189e459b76de2f12f259cfe65a", func := "outline/outlinelaw.Fills", spec := "fills", apart := false }
def FillsSaid : Prop := fillsRow.holds Try.pinned (OpenSpec.ofChange fillsSpec)

/-- ITS FALSE NEIGHBOUR: 'it returns false'. Refute it at one input. -/
def fillsWrong : ChangeSpec := { name := "fills", fn := fun _ => fun
  | [d1, d2, d3, d4] => { results := [.lit (.bool false)], args := [d1, d2, d3, d4] }
  | _ => none }
def FillsWrongFalsely : Prop := fillsRow.holds Try.pinned (OpenSpec.ofChange fillsWrong)

/- THE SECOND FORM. 'bulk': how many values and letters a reading holds, each counted each time it is reached (what is shared counts as often as it is met; a slice's spare places count too). A statement '..UptoSaid' is the law's where the arguments, and the package variables that the reading takes, are together of bulk at most 1048576: NARROWER than '..Said'. Prove '..Said' where nothing that the law and all that it calls make is longer than what came in: it says more and counts as full. Else prove '..UptoSaid'. A law counts once. -/
mutual
def uptoBulk {H : Type} : DataW H → Nat
  | .lit (.string bytes) => bytes.length + 1
  | .lit _ => 1
  | .nil => 1
  | .ptr d => uptoBulk d + 1
  | .slice elems spare => uptoBulkAll elems + uptoBulkAll spare + 1
  | .agg parts => uptoBulkAll parts + 1
  | .iface _ d => uptoBulk d + 1
  | .map entries => uptoBulkEntries entries + 1
  | .held _ => 1
def uptoBulkAll {H : Type} : List (DataW H) → Nat
  | [] => 0
  | d :: r => uptoBulk d + uptoBulkAll r
def uptoBulkEntries {H : Type} : List (Lit × DataW H) → Nat
  | [] => 0
  | x :: r => uptoBulkEntry x + uptoBulkEntries r
def uptoBulkEntry {H : Type} : Lit × DataW H → Nat
  | (.string bytes, d) => bytes.length + uptoBulk d + 1
  | (_, d) => uptoBulk d + 1
 end
def uptoSmall : (H : Type) → List (DataW H) → Bool := fun _ ds => decide (uptoBulkAll ds ≤ 1048576)
def OpenSpec.upto (s : _root_.Go.ChangeSpec) : _root_.Go.OpenSpec := { _root_.Go.OpenSpec.ofChange s with cond := some uptoSmall }

/-- 'outlinelaw.Walks', WHERE WHAT IT READS IS OF BULK AT MOST 1048576: true; the input reads as it did. -/
def walksUptoRow : OpenClaim := { program := "ytljfiefobnncaaa", sum := "dbfdc9b013bcda509dd8e8f67fa2660ad76e97189e459b76de2f12f259cfe65a", func := "outline/outlinelaw.Walks", spec := "walks", apart := false, narrowed := true }
def WalksUptoSaid : Prop := walksUptoRow.holds Try.pinned (OpenSpec.upto walksSpec)

/-- 'outlinekeep.Walked', WHERE WHAT IT READS IS OF BULK AT MOST 1048576: true; the input reads as it did. -/
def walkedUptoRow : OpenClaim := { program := "ytljfiefobnncaaa", sum := "dbfdc9b013bcda509dd8e8f67fa2660ad76e97189e459b76de2f12f259cfe65a", func := "outline/outlinekeep.Walked", spec := "walked", apart := false, narrowed := true }
def WalkedUptoSaid : Prop := walkedUptoRow.holds Try.pinned (OpenSpec.upto walkedSpec)

/-- 'outlinekeep.Counted', WHERE WHAT IT READS IS OF BULK AT MOST 1048576: true; the input reads as it did. -/
def countedUptoRow : OpenClaim := { program := "ytljfiefobnncaaa", sum := "dbfdc9b013bcda509dd8e8f67fa2660ad76e97189e459b76de2f12f259cfe65a", func := "outline/outlinekeep.Counted", spec := "counted", apart := false, narrowed := true }
def CountedUptoSaid : Prop := countedUptoRow.holds Try.pinned (OpenSpec.upto countedSpec)

/-- 'outlinelaw.Traces', WHERE WHAT IT READS IS OF BULK AT MOST 1048576: true; the input reads as it did. -/
def tracesUptoRow : OpenClaim := { program := "ytljfiefobnncaaa", sum := "dbfdc9b013bcda509dd8e8f67fa2660ad76e97189e459b76de2f12f259cfe65a", func := "outline/outlinelaw.Traces", spec := "traces", apart := false, narrowed := true }
def TracesUptoSaid : Prop := tracesUptoRow.holds Try.pinned (OpenSpec.upto tracesSpec)

/-- 'outlinekeep.Fitting', WHERE WHAT IT READS IS OF BULK AT MOST 1048576: true; the input reads as it did. -/
def fittingUptoRow : OpenClaim := { program := "ytljfiefobnncaaa", sum := "dbfdc9b013bcda509dd8e8f67fa2660ad76e97189e459b76de2f12f259cfe65a", func := "outline/outlinekeep.Fitting", spec := "fitting", apart := false, narrowed := true }
def FittingUptoSaid : Prop := fittingUptoRow.holds Try.pinned (OpenSpec.upto fittingSpec)

/-- 'outlinekeep.Speckled', WHERE WHAT IT READS IS OF BULK AT MOST 1048576: true; the input reads as it did. -/
def speckledUptoRow : OpenClaim := { program := "ytljfiefobnncaaa", sum := "dbfdc9b013bcda509dd8e8f67fa2660ad76e97189e459b76de2f12f259cfe65a", func := "outline/outlinekeep.Speckled", spec := "speckled", apart := false, narrowed := true }
def SpeckledUptoSaid : Prop := speckledUptoRow.holds Try.pinned (OpenSpec.upto speckledSpec)

/-- 'outlinekeep.Moved', WHERE WHAT IT READS IS OF BULK AT MOST 1048576: true; the input reads as it did. -/
def movedUptoRow : OpenClaim := { program := "ytljfiefobnncaaa", sum := "dbfdc9b013bcda509dd8e8f67fa2660ad76e97189e459b76de2f12f259cfe65a", func := "outline/outlinekeep.Moved", spec := "moved", apart := false, narrowed := true }
def MovedUptoSaid : Prop := movedUptoRow.holds Try.pinned (OpenSpec.upto movedSpec)

/-- 'outlinelaw.Fills', WHERE WHAT IT READS IS OF BULK AT MOST 1048576: true; the input reads as it did. -/
def fillsUptoRow : OpenClaim := { program := "ytljfiefobnncaaa", sum := "dbfdc9b013bcda509dd8e8f67fa2660ad76e97189e459b76de2f12f259cfe65a", func := "outline/outlinelaw.Fills", spec := "fills", apart := false, narrowed := true }
def FillsUptoSaid : Prop := fillsUptoRow.holds Try.pinned (OpenSpec.upto fillsSpec)

end Rows
end Go.Proofs.Ytljfiefobnncaaa

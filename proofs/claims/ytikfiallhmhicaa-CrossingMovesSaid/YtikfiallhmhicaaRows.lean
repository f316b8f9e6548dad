/-
  No cell of these rows narrows 'for every input' (looked for: loops, veiled, ifaces, maps, wideKeys, modest, calm, conditions, laid).
  DERIVED. THE GIVEN ROWS OF THIS SEAT. 3 by the template 'for every input the law returns true; each argument reads behind the call as it read before'; 0 by the template 'total and deterministic' (their statements: YtikfiallhmhicaaTotals.lean).
  GIVEN WITH THE SEED: the statements are not yours to turn. If you find one false, say at which input.
  Laid BY PROGRAM, IN A SANDBOX (cutbox-rows.mjs): the forced cells as the released guide's own fill.sh prints them over the translation c66925a27657bde1… (all of the seat's roots in one cut). By AI agents, Wed Nov 11 2026. No macro, syntax, notation, axiom, sorry.
-/
import Derived.Test.YtikfiallhmhicaaChecked
import GoSem.Claim
import GoSem.ClaimJoined
import GoSem.ClaimMapViews
import Derived.JoinedTies
import Derived.KernelRfl
namespace Go.Proofs.Ytikfiallhmhicaa
/- THE CELL 'sum', in the pinned program and in every row, IS THE sha256 OF THE DUMP (.gsa) THAT YtikfiallhmhicaaProg.lean LOADS. Nothing in Lean hashes anything: it is a label: what it is worth is what the hold of that sum in a sandbox is worth. -/
noncomputable def Try.pinned : Pinned := { name := "ytikfiallhmhicaa", sum := "c66925a27657bde1441259f447daa04fe0742737431e79e7d6c5d248f0ef4d8d", checked := Try.checked }
namespace Rows
def none {H : Type} : Left H := { results := [], args := [] }

/-- 'millrindlaw02.CrossingCounts': WHATEVER THE INPUT: true; the input reads as it did. -/
def crossingCountsSpec : ChangeSpec := { name := "crossingCounts", fn := fun _ => fun
  | [d1, d2, d3] => { results := [.lit (.bool true)], args := [d1, d2, d3] }
  | _ => none }
def crossingCountsRow : OpenClaim := { program := "ytikfiallhmhicaa", sum := "c66925a27657bde1441259f447daa04fe0742737431e79e7d6c5d248f0ef4d8d", func := "millrind/millrindlaw02.CrossingCounts", spec := "crossingCounts", unfollowed := true, recurses := true, apart := false }
def CrossingCountsSaid : Prop := crossingCountsRow.holds Try.pinned (OpenSpec.ofChange crossingCountsSpec)

/-- ITS FALSE NEIGHBOUR: 'it returns false'. Refute it at one input. -/
def crossingCountsWrong : ChangeSpec := { name := "crossingCounts", fn := fun _ => fun
  | [d1, d2, d3] => { results := [.lit (.bool false)], args := [d1, d2, d3] }
  | _ => none }
def CrossingCountsWrongFalsely : Prop := crossingCountsRow.holds Try.pinned (OpenSpec.ofChange crossingCountsWrong)

/-- 'millrindlaw02.CrossingMoves': WHATEVER THE INPUT: true; the input reads as it did. -/
def crossingMovesSpec : ChangeSpec := { name := "crossingMoves", fn := fun _ => fun
  | [d1, d2, d3] => { results := [.lit (.bool true)], args := [d1, d2, d3] }
  | _ => none }
def crossingMovesRow : OpenClaim := { program := "ytikfiallhmhicaa", sum := "c66925a27657bde1441259f447daa04fe0742737431e79e7d6c5d248f0ef4d8d", func := "millrind/millrindlaw02.CrossingMoves", spec := "crossingMoves", unfollowed := true, recurses := true, apart := false }
def CrossingMovesSaid : Prop := crossingMovesRow.holds Try.pinned (OpenSpec.ofChange crossingMovesSpec)

/-- ITS FALSE NEIGHBOUR: 'it returns false'. Refute it at one input. -/
def crossingMovesWrong : ChangeSpec := { name := "crossingMoves", fn := fun _ => fun
  | [d1, d2, d3] => { results := [.lit (.bool false)], args := [d1, d2, d3] }
  | _ => none }
def CrossingMovesWrongFalsely : Prop := crossingMovesRow.holds Try.pinned (OpenSpec.ofChange crossingMovesWrong)

/-- 'millrindlaw02.CrossingNumbers': WHATEVER THE INPUT: true; the input reads as it did. -/
def crossingNumbersSpec : ChangeSpec := { name := "crossingNumbers", fn := fun _ => fun
  | [d1, d2] => { results := [.lit (.bool true)], args := [d1, d2] }
  | _ => none }
def crossingNumbersRow : OpenClaim := { program := "ytikfiallhmhicaa", sum := "c66925a27657bde1441259f447daa04fe0742737431e79e7d6c5d248f0ef4d8d", func := "millrind/millrindlaw02.CrossingNumbers", spec := "crossingNumbers", unfollowed := true, recurses := true, apart := false }
def CrossingNumbersSaid : Prop := crossingNumbersRow.holds Try.pinned (OpenSpec.ofChange crossingNumbersSpec)

/-- ITS FALSE NEIGHBOUR: 'it returns false'. Refute it at one input. -/
def crossingNumbersWrong : ChangeSpec := { name := "crossingNumbers", fn := fun _ => fun
  | [d1, d2] => { results := [.lit (.bool false)], args := [d1, d2] }
  | _ => none }
def CrossingNumbersWrongFalsely : Prop := crossingNumbersRow.holds Try.pinned (OpenSpec.ofChange crossingNumbersWrong)

/- THE SECOND FORM. 'bulk': how many values and letters a reading holds, each counted each time it is reached (what is shared counts as often as it is met; a slice's spare places count too). A statement '..UptoSaid' is the law's where the arguments, and the package variables that the reading takes, are together of bulk at most 1048576: NARROWER than '..Said'. Prove '..Said' where nothing that the law and all that it calls make is longer than what came in: it says more and counts as full. Else prove '..UptoSaid'. A law counts once. -/
mutual
def uptoBulk {H : Type} : DataW H → Nat
  | .lit (.string bytes) => bytes.length + 1
  | .lit _ => 1
  | .nil => 1
  | .ptr d => uptoBulk d + 1
  | .slice elems spare => uptoBulkAll elems + uptoBulkAll spare + 1
  | .agg parts => uptoBulkAll parts + 1
  | .iface _ d => uptoBulk d + 1
  | .map entries => uptoBulkEntries entries + 1
  | .held _ => 1
def uptoBulkAll {H : Type} : List (DataW H) → Nat
  | [] => 0
  | d :: r => uptoBulk d + uptoBulkAll r
def uptoBulkEntries {H : Type} : List (Lit × DataW H) → Nat
  | [] => 0
  | x :: r => uptoBulkEntry x + uptoBulkEntries r
def uptoBulkEntry {H : Type} : Lit × DataW H → Nat
  | (.string bytes, d) => bytes.length + uptoBulk d + 1
  | (_, d) => uptoBulk d + 1
 end
def uptoSmall : (H : Type) → List (DataW H) → Bool := fun _ ds => decide (uptoBulkAll ds ≤ 1048576)
def OpenSpec.upto (s : _root_.Go.ChangeSpec) : _root_.Go.OpenSpec := { _root_.Go.OpenSpec.ofChange s with cond := some uptoSmall }

/-- 'millrindlaw02.CrossingCounts', WHERE WHAT IT READS IS OF BULK AT MOST 1048576: true; the input reads as it did. -/
def crossingCountsUptoRow : OpenClaim := { program := "ytikfiallhmhicaa", sum := "c66925a27657bde1441259f447daa04fe0742737431e79e7d6c5d248f0ef4d8d", func := "millrind/millrindlaw02.CrossingCounts", spec := "crossingCounts", unfollowed := true, recurses := true, apart := false, narrowed := true }
def CrossingCountsUptoSaid : Prop := crossingCountsUptoRow.holds Try.pinned (OpenSpec.upto crossingCountsSpec)

/-- 'millrindlaw02.CrossingMoves', WHERE WHAT IT READS IS OF BULK AT MOST 1048576: true; the input reads as it did. -/
def crossingMovesUptoRow : OpenClaim := { program := "ytikfiallhmhicaa", sum := "c66925a27657bde1441259f447daa04fe0742737431e79e7d6c5d248f0ef4d8d", func := "millrind/millrindlaw02.CrossingMoves", spec := "crossingMoves", unfollowed := true, recurses := true, apart := false, narrowed := true }
def CrossingMovesUptoSaid : Prop := crossingMovesUptoRow.holds Try.pinned (OpenSpec.upto crossingMovesSpec)

/-- 'millrindlaw02.CrossingNumbers', WHERE WHAT IT READS IS OF BULK AT MOST 1048576: true; the input reads as it did. -/
def crossingNumbersUptoRow : OpenClaim := { program := "ytikfiallhmhicaa", sum := "c66925a27657bde1441259f447daa04fe0742737431e79e7d6c5d248f0ef4d8d", func := "millrind/millrindlaw02.CrossingNumbers", spec := "crossingNumbers", unfollowed := true, recurses := true, apart := false, narrowed := true }
def CrossingNumbersUptoSaid : Prop := crossingNumbersUptoRow.holds Try.pinned (OpenSpec.upto crossingNumbersSpec)

end Rows
end Go.Proofs.Ytikfiallhmhicaa

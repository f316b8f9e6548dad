/-
  No cell of these rows narrows 'for every input' (looked for: loops, veiled, ifaces, maps, wideKeys, modest, calm, conditions, laid).
  DERIVED. THE GIVEN ROWS OF THIS SEAT. 3 by the template 'for every input the law returns true; each argument reads behind the call as it read before'; 0 by the template 'total and deterministic' (their statements: YtobhnkkjhglgcaaTotals.lean).
  GIVEN WITH THE SEED: the statements are not yours to turn. If you find one false, say at which input.
  Laid BY PROGRAM, IN A SANDBOX (cutbox-rows.mjs): the forced cells as the released guide's own fill.sh prints them over the translation 89d68563c61ede24… (all of the seat's roots in one cut). By AI agents, Wed Nov 11 2026. No macro, syntax, notation, axiom, sorry.
-/
import Derived.Test.YtobhnkkjhglgcaaChecked
import GoSem.Claim
import GoSem.ClaimJoined
import GoSem.ClaimMapViews
import Derived.JoinedTies
import Derived.KernelRfl
namespace Go.Proofs.Ytobhnkkjhglgcaa
/- THE CELL 'sum', in the pinned program and in every row, IS THE sha256 OF THE DUMP (.gsa) THAT YtobhnkkjhglgcaaProg.lean LOADS. Nothing in Lean hashes anything: it is a label: what it is worth is what the hold of that sum in a sandbox is worth. -/
noncomputable def Try.pinned : Pinned := { name := "ytobhnkkjhglgcaa", sum := "89d68563c61ede2488d317f0f78c62b8b583749fa2ebb84904c7ea4809b8dc85", checked := Try.checked }
namespace Rows
def none {H : Type} : Left H := { results := [], args := [] }

/-- 'millrindlaw03.GrainFeeds': WHATEVER THE INPUT: true; the input reads as it did. -/
def grainFeedsSpec : ChangeSpec := { name := "grainFeeds", fn := fun _ => fun
  | [d1, d2, d3] => { results := [.lit (.bool true)], args := [d1, d2, d3] }
  | _ => none }
def grainFeedsRow : OpenClaim := { program := "ytobhnkkjhglgcaa", sum := "89d68563c61ede2488d317f0f78c62b8b583749fa2ebb84904c7ea4809b8dc85", func := "millrind/millrindlaw03.GrainFeeds", spec := "grainFeeds", unfollowed := true, recurses := true, plainKeys := false, apart := false }
def GrainFeedsSaid : Prop := grainFeedsRow.holds Try.pinned (OpenSpec.ofChange grainFeedsSpec)

/-- ITS FALSE NEIGHBOUR: 'it returns false'. Refute it at one input. -/
def grainFeedsWrong : ChangeSpec := { name := "grainFeeds", fn := fun _ => fun
  | [d1, d2, d3] => { results := [.lit (.bool false)], args := [d1, d2, d3] }
  | _ => none }
def GrainFeedsWrongFalsely : Prop := grainFeedsRow.holds Try.pinned (OpenSpec.ofChange grainFeedsWrong)

/-- 'millrindlaw03.GrainHalves': WHATEVER THE INPUT: true; the input reads as it did. -/
def grainHalvesSpec : ChangeSpec := { name := "grainHalves", fn := fun _ => fun
  | [d1, d2, d3, d4] => { results := [.lit (.bool true)], args := [d1, d2, d3, d4] }
  | _ => none }
def grainHalvesRow : OpenClaim := { program := "ytobhnkkjhglgcaa", sum := "89d68563c61ede2488d317f0f78c62b8b583749fa2ebb84904c7ea4809b8dc85", func := "millrind/millrindlaw03.GrainHalves", spec := "grainHalves", unfollowed := true, recurses := true, plainKeys := false, apart := false }
def GrainHalvesSaid : Prop := grainHalvesRow.holds Try.pinned (OpenSpec.ofChange grainHalvesSpec)

/-- ITS FALSE NEIGHBOUR: 'it returns false'. Refute it at one input. -/
def grainHalvesWrong : ChangeSpec := { name := "grainHalves", fn := fun _ => fun
  | [d1, d2, d3, d4] => { results := [.lit (.bool false)], args := [d1, d2, d3, d4] }
  | _ => none }
def GrainHalvesWrongFalsely : Prop := grainHalvesRow.holds Try.pinned (OpenSpec.ofChange grainHalvesWrong)

/-- 'millrindlaw03.GrainEmpty': WHATEVER THE INPUT: true; the input reads as it did. -/
def grainEmptySpec : ChangeSpec := { name := "grainEmpty", fn := fun _ => fun
  | [d1, d2, d3] => { results := [.lit (.bool true)], args := [d1, d2, d3] }
  | _ => none }
def grainEmptyRow : OpenClaim := { program := "ytobhnkkjhglgcaa", sum := "89d68563c61ede2488d317f0f78c62b8b583749fa2ebb84904c7ea4809b8dc85", func := "millrind/millrindlaw03.GrainEmpty", spec := "grainEmpty", unfollowed := true, recurses := true, plainKeys := false, apart := false }
def GrainEmptySaid : Prop := grainEmptyRow.holds Try.pinned (OpenSpec.ofChange grainEmptySpec)

/-- ITS FALSE NEIGHBOUR: 'it returns false'. Refute it at one input. -/
def grainEmptyWrong : ChangeSpec := { name := "grainEmpty", fn := fun _ => fun
  | [d1, d2, d3] => { results := [.lit (.bool false)], args := [d1, d2, d3] }
  | _ => none }
def GrainEmptyWrongFalsely : Prop := grainEmptyRow.holds Try.pinned (OpenSpec.ofChange grainEmptyWrong)

/- THE SECOND FORM. 'bulk': how many values and letters a reading holds, each counted each time it is reached (what is shared counts as often as it is met; a slice's spare places count too). A statement '..UptoSaid' is the law's where the arguments, and the package variables that the reading takes, are together of bulk at most 1048576: NARROWER than '..Said'. Prove '..Said' where nothing that the law and all that it calls make is longer than what came in: it says more and counts as full. Else prove '..UptoSaid'. A law counts once. -/
mutual
def uptoBulk {H : Type} : DataW H → Nat
  | .lit (.string bytes) => bytes.length + 1
  | .lit _ => 1
  | .nil => 1
  | .ptr d => uptoBulk d + 1
  | .slice elems spare => uptoBulkAll elems + uptoBulkAll spare + 1
  | .agg parts => uptoBulkAll parts + 1
  | .iface _ d => uptoBulk d + 1
  | .map entries => uptoBulkEntries entries + 1
  | .held _ => 1
def uptoBulkAll {H : Type} : List (DataW H) → Nat
  | [] => 0
  | d :: r => uptoBulk d + uptoBulkAll r
def uptoBulkEntries {H : Type} : List (Lit × DataW H) → Nat
  | [] => 0
  | x :: r => uptoBulkEntry x + uptoBulkEntries r
def uptoBulkEntry {H : Type} : Lit × DataW H → Nat
  | (.string bytes, d) => bytes.length + uptoBulk d + 1
  | (_, d) => uptoBulk d + 1
 end
def uptoSmall : (H : Type) → List (DataW H) → Bool := fun _ ds => decide (uptoBulkAll ds ≤ 1048576)
def OpenSpec.upto (s : _root_.Go.ChangeSpec) : _root_.Go.OpenSpec := { _root_.Go.OpenSpec.ofChange s with cond := some uptoSmall }

/-- 'millrindlaw03.GrainFeeds', WHERE WHAT IT READS IS OF BULK AT MOST 1048576: true; the input reads as it did. -/
def grainFeedsUptoRow : OpenClaim := { program := "ytobhnkkjhglgcaa", sum := "89d68563c61ede2488d317f0f78c62b8b583749fa2ebb84904c7ea4809b8dc85", func := "millrind/millrindlaw03.GrainFeeds", spec := "grainFeeds", unfollowed := true, recurses := true, plainKeys := false, apart := false, narrowed := true }
def GrainFeedsUptoSaid : Prop := grainFeedsUptoRow.holds Try.pinned (OpenSpec.upto grainFeedsSpec)

/-- 'millrindlaw03.GrainHalves', WHERE WHAT IT READS IS OF BULK AT MOST 1048576: true; the input reads as it did. -/
def grainHalvesUptoRow : OpenClaim := { program := "ytobhnkkjhglgcaa", sum := "89d68563c61ede2488d317f0f78c62b8b583749fa2ebb84904c7ea4809b8dc85", func := "millrind/millrindlaw03.GrainHalves", spec := "grainHalves", unfollowed := true, recurses := true, plainKeys := false, apart := false, narrowed := true }
def GrainHalvesUptoSaid : Prop := grainHalvesUptoRow.holds Try.pinned (OpenSpec.upto grainHalvesSpec)

/-- 'millrindlaw03.GrainEmpty', WHERE WHAT IT READS IS OF BULK AT MOST 1048576: true; the input reads as it did. -/
def grainEmptyUptoRow : OpenClaim := { program := "ytobhnkkjhglgcaa", sum := "89d68563c61ede2488d317f0f78c62b8b583749fa2ebb84904c7ea4809b8dc85", func := "millrind/millrindlaw03.GrainEmpty", spec := "grainEmpty", unfollowed := true, recurses := true, plainKeys := false, apart := false, narrowed := true }
def GrainEmptyUptoSaid : Prop := grainEmptyUptoRow.holds Try.pinned (OpenSpec.upto grainEmptySpec)

end Rows
end Go.Proofs.Ytobhnkkjhglgcaa

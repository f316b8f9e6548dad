/-
  No cell of these rows narrows 'for every input' (looked for: loops, veiled, ifaces, maps, wideKeys, modest, calm, conditions, laid).
  DERIVED. THE GIVEN ROWS OF THIS SEAT. 5 by the template 'for every input the law returns true; each argument reads behind the call as it read before'; 0 by the template 'total and deterministic' (their statements: YtfafjojoapcliaaTotals.lean).
  GIVEN WITH THE SEED: the statements are not yours to turn. If you find one false, say at which input.
  Laid BY PROGRAM, IN A SANDBOX (cutbox-rows.mjs): the forced cells as the released guide's own fill.sh prints them over the translation 32ba6e46a3d2569f… (all of the seat's roots in one cut). By AI agents, Wed Nov 11 2026. No macro, syntax, notation, axiom, sorry.
-/
import Derived.Test.YtfafjojoapcliaaChecked
import GoSem.Claim
import GoSem.ClaimJoined
import GoSem.ClaimMapViews
import Derived.JoinedTies
import Derived.KernelRfl
namespace Go.Proofs.Ytfafjojoapcliaa
/- THE CELL 'sum', in the pinned program and in every row, IS THE sha256 OF THE DUMP (.gsa) THAT YtfafjojoapcliaaProg.lean LOADS. Nothing in Lean hashes anything: it is a label: what it is worth is what the hold of that sum in a sandbox is worth. -/
noncomputable def Try.pinned : Pinned := { name := "ytfafjojoapcliaa", sum := "32ba6e46a3d2569f0c32aa97339d1a7cf3af0d7708d8dd95ac2d4f296eb3bce5", checked := Try.checked }
namespace Rows
def none {H : Type} : Left H := { results := [], args := [] }

/-- 'millrindlaw05.DressingPlans': WHATEVER THE INPUT: true; the input reads as it did. -/
def dressingPlansSpec : ChangeSpec := { name := "dressingPlans", fn := fun _ => fun
  | [d] => { results := [.lit (.bool true)], args := [d] }
  | _ => none }
def dressingPlansRow : OpenClaim := { program := "ytfafjojoapcliaa", sum := "32ba6e46a3d2569f0c32aa97339d1a7cf3af0d7708d8dd95ac2d4f296eb3bce5", func := "millrind/millrindlaw05.DressingPlans", spec := "dressingPlans", unfollowed := true, recurses := true, apart := false }
def DressingPlansSaid : Prop := dressingPlansRow.holds Try.pinned (OpenSpec.ofChange dressingPlansSpec)

/-- ITS FALSE NEIGHBOUR: 'it returns false'. Refute it at one input. -/
def dressingPlansWrong : ChangeSpec := { name := "dressingPlans", fn := fun _ => fun
  | [d] => { results := [.lit (.bool false)], args := [d] }
  | _ => none }
def DressingPlansWrongFalsely : Prop := dressingPlansRow.holds Try.pinned (OpenSpec.ofChange dressingPlansWrong)

/-- 'millrindlaw05.DressingPrices': WHATEVER THE INPUT: true; the input reads as it did. -/
def dressingPricesSpec : ChangeSpec := { name := "dressingPrices", fn := fun _ => fun
  | [d1, d2] => { results := [.lit (.bool true)], args := [d1, d2] }
  | _ => none }
def dressingPricesRow : OpenClaim := { program := "ytfafjojoapcliaa", sum := "32ba6e46a3d2569f0c32aa97339d1a7cf3af0d7708d8dd95ac2d4f296eb3bce5", func := "millrind/millrindlaw05.DressingPrices", spec := "dressingPrices", unfollowed := true, recurses := true, apart := false }
def DressingPricesSaid : Prop := dressingPricesRow.holds Try.pinned (OpenSpec.ofChange dressingPricesSpec)

/-- ITS FALSE NEIGHBOUR: 'it returns false'. Refute it at one input. -/
def dressingPricesWrong : ChangeSpec := { name := "dressingPrices", fn := fun _ => fun
  | [d1, d2] => { results := [.lit (.bool false)], args := [d1, d2] }
  | _ => none }
def DressingPricesWrongFalsely : Prop := dressingPricesRow.holds Try.pinned (OpenSpec.ofChange dressingPricesWrong)

/-- 'millrindlaw05.DressingNever': WHATEVER THE INPUT: true; the input reads as it did. -/
def dressingNeverSpec : ChangeSpec := { name := "dressingNever", fn := fun _ => fun
  | [d1, d2] => { results := [.lit (.bool true)], args := [d1, d2] }
  | _ => none }
def dressingNeverRow : OpenClaim := { program := "ytfafjojoapcliaa", sum := "32ba6e46a3d2569f0c32aa97339d1a7cf3af0d7708d8dd95ac2d4f296eb3bce5", func := "millrind/millrindlaw05.DressingNever", spec := "dressingNever", unfollowed := true, recurses := true, apart := false }
def DressingNeverSaid : Prop := dressingNeverRow.holds Try.pinned (OpenSpec.ofChange dressingNeverSpec)

/-- ITS FALSE NEIGHBOUR: 'it returns false'. Refute it at one input. -/
def dressingNeverWrong : ChangeSpec := { name := "dressingNever", fn := fun _ => fun
  | [d1, d2] => { results := [.lit (.bool false)], args := [d1, d2] }
  | _ => none }
def DressingNeverWrongFalsely : Prop := dressingNeverRow.holds Try.pinned (OpenSpec.ofChange dressingNeverWrong)

/-- 'millrindlaw05.DressingFewest': WHATEVER THE INPUT: true; the input reads as it did. -/
def dressingFewestSpec : ChangeSpec := { name := "dressingFewest", fn := fun _ => fun
  | [d1, d2] => { results := [.lit (.bool true)], args := [d1, d2] }
  | _ => none }
def dressingFewestRow : OpenClaim := { program := "ytfafjojoapcliaa", sum := "32ba6e46a3d2569f0c32aa97339d1a7cf3af0d7708d8dd95ac2d4f296eb3bce5", func := "millrind/millrindlaw05.DressingFewest", spec := "dressingFewest", unfollowed := true, recurses := true, apart := false }
def DressingFewestSaid : Prop := dressingFewestRow.holds Try.pinned (OpenSpec.ofChange dressingFewestSpec)

/-- ITS FALSE NEIGHBOUR: 'it returns false'. Refute it at one input. -/
def dressingFewestWrong : ChangeSpec := { name := "dressingFewest", fn := fun _ => fun
  | [d1, d2] => { results := [.lit (.bool false)], args := [d1, d2] }
  | _ => none }
def DressingFewestWrongFalsely : Prop := dressingFewestRow.holds Try.pinned (OpenSpec.ofChange dressingFewestWrong)

/-- 'millrindlaw05.DressingProves': WHATEVER THE INPUT: true; the input reads as it did. -/
def dressingProvesSpec : ChangeSpec := { name := "dressingProves", fn := fun _ => fun
  | [d1, d2, d3] => { results := [.lit (.bool true)], args := [d1, d2, d3] }
  | _ => none }
def dressingProvesRow : OpenClaim := { program := "ytfafjojoapcliaa", sum := "32ba6e46a3d2569f0c32aa97339d1a7cf3af0d7708d8dd95ac2d4f296eb3bce5", func := "millrind/millrindlaw05.DressingProves", spec := "dressingProves", unfollowed := true, recurses := true, apart := false }
def DressingProvesSaid : Prop := dressingProvesRow.holds Try.pinned (OpenSpec.ofChange dressingProvesSpec)

/-- ITS FALSE NEIGHBOUR: 'it returns false'. Refute it at one input. -/
def dressingProvesWrong : ChangeSpec := { name := "dressingProves", fn := fun _ => fun
  | [d1, d2, d3] => { results := [.lit (.bool false)], args := [d1, d2, d3] }
  | _ => none }
def DressingProvesWrongFalsely : Prop := dressingProvesRow.holds Try.pinned (OpenSpec.ofChange dressingProvesWrong)

/- THE SECOND FORM. 'bulk': how many values and letters a reading holds, each counted each time it is reached (what is shared counts as often as it is met; a slice's spare places count too). A statement '..UptoSaid' is the law's where the arguments, and the package variables that the reading takes, are together of bulk at most 1048576: NARROWER than '..Said'. Prove '..Said' where nothing that the law and all that it calls make is longer than what came in: it says more and counts as full. Else prove '..UptoSaid'. A law counts once. -/
mutual
def uptoBulk {H : Type} : DataW H → Nat
  | .lit (.string bytes) => bytes.length + 1
  | .lit _ => 1
  | .nil => 1
  | .ptr d => uptoBulk d + 1
  | .slice elems spare => uptoBulkAll elems + uptoBulkAll spare + 1
  | .agg parts => uptoBulkAll parts + 1
  | .iface _ d => uptoBulk d + 1
  | .map entries => uptoBulkEntries entries + 1
  | .held _ => 1
def uptoBulkAll {H : Type} : List (DataW H) → Nat
  | [] => 0
  | d :: r => uptoBulk d + uptoBulkAll r
def uptoBulkEntries {H : Type} : List (Lit × DataW H) → Nat
  | [] => 0
  | x :: r => uptoBulkEntry x + uptoBulkEntries r
def uptoBulkEntry {H : Type} : Lit × DataW H → Nat
  | (.string bytes, d) => bytes.length + uptoBulk d + 1
  | (_, d) => uptoBulk d + 1
 end
def uptoSmall : (H : Type) → List (DataW H) → Bool := fun _ ds => decide (uptoBulkAll ds ≤ 1048576)
def OpenSpec.upto (s : _root_.Go.ChangeSpec) : _root_.Go.OpenSpec := { _root_.Go.OpenSpec.ofChange s with cond := some uptoSmall }

/-- 'millrindlaw05.DressingPlans', WHERE WHAT IT READS IS OF BULK AT MOST 1048576: true; the input reads as it did. -/
def dressingPlansUptoRow : OpenClaim := { program := "ytfafjojoapcliaa", sum := "32ba6e46a3d2569f0c32aa97339d1a7cf3af0d7708d8dd95ac2d4f296eb3bce5", func := "millrind/millrindlaw05.DressingPlans", spec := "dressingPlans", unfollowed := true, recurses := true, apart := false, narrowed := true }
def DressingPlansUptoSaid : Prop := dressingPlansUptoRow.holds Try.pinned (OpenSpec.upto dressingPlansSpec)

/-- 'millrindlaw05.DressingPrices', WHERE WHAT IT READS IS OF BULK AT MOST 1048576: true; the input reads as it did. -/
def dressingPricesUptoRow : OpenClaim := { program := "ytfafjojoapcliaa", sum := "32ba6e46a3d2569f0c32aa97339d1a7cf3af0d7708d8dd95ac2d4f296eb3bce5", func := "millrind/millrindlaw05.DressingPrices", spec := "dressingPrices", unfollowed := true, recurses := true, apart := false, narrowed := true }
def DressingPricesUptoSaid : Prop := dressingPricesUptoRow.holds Try.pinned (OpenSpec.upto dressingPricesSpec)

/-- 'millrindlaw05.DressingNever', WHERE WHAT IT READS IS OF BULK AT MOST 1048576: true; the input reads as it did. -/
def dressingNeverUptoRow : OpenClaim := { program := "ytfafjojoapcliaa", sum := "32ba6e46a3d2569f0c32aa97339d1a7cf3af0d7708d8dd95ac2d4f296eb3bce5", func := "millrind/millrindlaw05.DressingNever", spec := "dressingNever", unfollowed := true, recurses := true, apart := false, narrowed := true }
def DressingNeverUptoSaid : Prop := dressingNeverUptoRow.holds Try.pinned (OpenSpec.upto dressingNeverSpec)

/-- 'millrindlaw05.DressingFewest', WHERE WHAT IT READS IS OF BULK AT MOST 1048576: true; the input reads as it did. -/
def dressingFewestUptoRow : OpenClaim := { program := "ytfafjojoapcliaa", sum := "32ba6e46a3d2569f0c32aa97339d1a7cf3af0d7708d8dd95ac2d4f296eb3bce5", func := "millrind/millrindlaw05.DressingFewest", spec := "dressingFewest", unfollowed := true, recurses := true, apart := false, narrowed := true }
def DressingFewestUptoSaid : Prop := dressingFewestUptoRow.holds Try.pinned (OpenSpec.upto dressingFewestSpec)

/-- 'millrindlaw05.DressingProves', WHERE WHAT IT READS IS OF BULK AT MOST 1048576: true; the input reads as it did. -/
def dressingProvesUptoRow : OpenClaim := { program := "ytfafjojoapcliaa", sum := "32ba6e46a3d2569f0c32aa97339d1a7cf3af0d7708d8dd95ac2d4f296eb3bce5", func := "millrind/millrindlaw05.DressingProves", spec := "dressingProves", unfollowed := true, recurses := true, apart := false, narrowed := true }
def DressingProvesUptoSaid : Prop := dressingProvesUptoRow.holds Try.pinned (OpenSpec.upto dressingProvesSpec)

end Rows
end Go.Proofs.Ytfafjojoapcliaa

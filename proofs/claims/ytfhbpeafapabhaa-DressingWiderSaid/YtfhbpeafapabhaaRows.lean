/-
  No cell of these rows narrows 'for every input' (looked for: loops, veiled, ifaces, maps, wideKeys, modest, calm, conditions, laid).
  DERIVED. THE GIVEN ROWS OF THIS SEAT. 16 by the template 'for every input the law returns true; each argument reads behind the call as it read before'; 0 by the template 'total and deterministic' (their statements: YtfhbpeafapabhaaTotals.lean).
  GIVEN WITH THE SEED: the statements are not yours to turn. If you find one false, say at which input.
  Laid BY PROGRAM, IN A SANDBOX (cutbox-rows.mjs): the forced cells as the released guide's own fill.sh prints them over the translation 496b1b0a8b9e0e2d… (all of the seat's roots in one cut). By AI agents, Wed Nov 11 2026. No macro, syntax, notation, axiom, sorry.
-/
import Derived.Test.YtfhbpeafapabhaaChecked
import GoSem.Claim
import GoSem.ClaimJoined
import GoSem.ClaimMapViews
import Derived.JoinedTies
import Derived.KernelRfl
namespace Go.Proofs.Ytfhbpeafapabhaa
/- THE CELL 'sum', in the pinned program and in every row, IS THE sha256 OF THE DUMP (.gsa) THAT YtfhbpeafapabhaaProg.lean LOADS. Nothing in Lean hashes anything: it is a label: what it is worth is what the hold of that sum in a sandbox is worth. -/
noncomputable def Try.pinned : Pinned := { name := "ytfhbpeafapabhaa", sum := "496b1b0a8b9e0e2d46ca6aa199ba2c273b8f7d46a58c2d6f7685173f3912dd68", checked := Try.checked }
namespace Rows
def none {H : Type} : Left H := { results := [], args := [] }

/-- 'millrindlaw05.DressingTasks': WHATEVER THE INPUT: true; the input reads as it did. -/
def dressingTasksSpec : ChangeSpec := { name := "dressingTasks", fn := fun _ => fun
  | [d1, d2] => { results := [.lit (.bool true)], args := [d1, d2] }
  | _ => none }
def dressingTasksRow : OpenClaim := { program := "ytfhbpeafapabhaa", sum := "496b1b0a8b9e0e2d46ca6aa199ba2c273b8f7d46a58c2d6f7685173f3912dd68", func := "millrind/millrindlaw05.DressingTasks", spec := "dressingTasks", unfollowed := true, recurses := true, apart := false }
def DressingTasksSaid : Prop := dressingTasksRow.holds Try.pinned (OpenSpec.ofChange dressingTasksSpec)

/-- ITS FALSE NEIGHBOUR: 'it returns false'. Refute it at one input. -/
def dressingTasksWrong : ChangeSpec := { name := "dressingTasks", fn := fun _ => fun
  | [d1, d2] => { results := [.lit (.bool false)], args := [d1, d2] }
  | _ => none }
def DressingTasksWrongFalsely : Prop := dressingTasksRow.holds Try.pinned (OpenSpec.ofChange dressingTasksWrong)

/-- 'millrindlaw05.DressingPlans': WHATEVER THE INPUT: true; the input reads as it did. -/
def dressingPlansSpec : ChangeSpec := { name := "dressingPlans", fn := fun _ => fun
  | [d] => { results := [.lit (.bool true)], args := [d] }
  | _ => none }
def dressingPlansRow : OpenClaim := { program := "ytfhbpeafapabhaa", sum := "496b1b0a8b9e0e2d46ca6aa199ba2c273b8f7d46a58c2d6f7685173f3912dd68", func := "millrind/millrindlaw05.DressingPlans", spec := "dressingPlans", unfollowed := true, recurses := true, apart := false }
def DressingPlansSaid : Prop := dressingPlansRow.holds Try.pinned (OpenSpec.ofChange dressingPlansSpec)

/-- ITS FALSE NEIGHBOUR: 'it returns false'. Refute it at one input. -/
def dressingPlansWrong : ChangeSpec := { name := "dressingPlans", fn := fun _ => fun
  | [d] => { results := [.lit (.bool false)], args := [d] }
  | _ => none }
def DressingPlansWrongFalsely : Prop := dressingPlansRow.holds Try.pinned (OpenSpec.ofChange dressingPlansWrong)

/-- 'millrindlaw05.DressingPrices': WHATEVER THE INPUT: true; the input reads as it did. -/
def dressingPricesSpec : ChangeSpec := { name := "dressingPrices", fn := fun _ => fun
  | [d1, d2] => { results := [.lit (.bool true)], args := [d1, d2] }
  | _ => none }
def dressingPricesRow : OpenClaim := { program := "ytfhbpeafapabhaa", sum := "496b1b0a8b9e0e2d46ca6aa199ba2c273b8f7d46a58c2d6f7685173f3912dd68", func := "millrind/millrindlaw05.DressingPrices", spec := "dressingPrices", unfollowed := true, recurses := true, apart := false }
def DressingPricesSaid : Prop := dressingPricesRow.holds Try.pinned (OpenSpec.ofChange dressingPricesSpec)

/-- ITS FALSE NEIGHBOUR: 'it returns false'. Refute it at one input. -/
def dressingPricesWrong : ChangeSpec := { name := "dressingPrices", fn := fun _ => fun
  | [d1, d2] => { results := [.lit (.bool false)], args := [d1, d2] }
  | _ => none }
def DressingPricesWrongFalsely : Prop := dressingPricesRow.holds Try.pinned (OpenSpec.ofChange dressingPricesWrong)

/-- 'millrindlaw05.DressingNever': WHATEVER THE INPUT: true; the input reads as it did. -/
def dressingNeverSpec : ChangeSpec := { name := "dressingNever", fn := fun _ => fun
  | [d1, d2] => { results := [.lit (.bool true)], args := [d1, d2] }
  | _ => none }
def dressingNeverRow : OpenClaim := { program := "ytfhbpeafapabhaa", sum := "496b1b0a8b9e0e2d46ca6aa199ba2c273b8f7d46a58c2d6f7685173f3912dd68", func := "millrind/millrindlaw05.DressingNever", spec := "dressingNever", unfollowed := true, recurses := true, apart := false }
def DressingNeverSaid : Prop := dressingNeverRow.holds Try.pinned (OpenSpec.ofChange dressingNeverSpec)

/-- ITS FALSE NEIGHBOUR: 'it returns false'. Refute it at one input. -/
def dressingNeverWrong : ChangeSpec := { name := "dressingNever", fn := fun _ => fun
  | [d1, d2] => { results := [.lit (.bool false)], args := [d1, d2] }
  | _ => none }
def DressingNeverWrongFalsely : Prop := dressingNeverRow.holds Try.pinned (OpenSpec.ofChange dressingNeverWrong)

/-- 'millrindlaw05.DressingHeights': WHATEVER THE INPUT: true; the input reads as it did. -/
def dressingHeightsSpec : ChangeSpec := { name := "dressingHeights", fn := fun _ => fun
  | [d1, d2, d3, d4] => { results := [.lit (.bool true)], args := [d1, d2, d3, d4] }
  | _ => none }
def dressingHeightsRow : OpenClaim := { program := "ytfhbpeafapabhaa", sum := "496b1b0a8b9e0e2d46ca6aa199ba2c273b8f7d46a58c2d6f7685173f3912dd68", func := "millrind/millrindlaw05.DressingHeights", spec := "dressingHeights", unfollowed := true, recurses := true, apart := false }
def DressingHeightsSaid : Prop := dressingHeightsRow.holds Try.pinned (OpenSpec.ofChange dressingHeightsSpec)

/-- ITS FALSE NEIGHBOUR: 'it returns false'. Refute it at one input. -/
def dressingHeightsWrong : ChangeSpec := { name := "dressingHeights", fn := fun _ => fun
  | [d1, d2, d3, d4] => { results := [.lit (.bool false)], args := [d1, d2, d3, d4] }
  | _ => none }
def DressingHeightsWrongFalsely : Prop := dressingHeightsRow.holds Try.pinned (OpenSpec.ofChange dressingHeightsWrong)

/-- 'millrindlaw05.DressingCrews': WHATEVER THE INPUT: true; the input reads as it did. -/
def dressingCrewsSpec : ChangeSpec := { name := "dressingCrews", fn := fun _ => fun
  | [d1, d2] => { results := [.lit (.bool true)], args := [d1, d2] }
  | _ => none }
def dressingCrewsRow : OpenClaim := { program := "ytfhbpeafapabhaa", sum := "496b1b0a8b9e0e2d46ca6aa199ba2c273b8f7d46a58c2d6f7685173f3912dd68", func := "millrind/millrindlaw05.DressingCrews", spec := "dressingCrews", unfollowed := true, recurses := true, apart := false }
def DressingCrewsSaid : Prop := dressingCrewsRow.holds Try.pinned (OpenSpec.ofChange dressingCrewsSpec)

/-- ITS FALSE NEIGHBOUR: 'it returns false'. Refute it at one input. -/
def dressingCrewsWrong : ChangeSpec := { name := "dressingCrews", fn := fun _ => fun
  | [d1, d2] => { results := [.lit (.bool false)], args := [d1, d2] }
  | _ => none }
def DressingCrewsWrongFalsely : Prop := dressingCrewsRow.holds Try.pinned (OpenSpec.ofChange dressingCrewsWrong)

/-- 'millrindlaw05.DressingWork': WHATEVER THE INPUT: true; the input reads as it did. -/
def dressingWorkSpec : ChangeSpec := { name := "dressingWork", fn := fun _ => fun
  | [d1, d2] => { results := [.lit (.bool true)], args := [d1, d2] }
  | _ => none }
def dressingWorkRow : OpenClaim := { program := "ytfhbpeafapabhaa", sum := "496b1b0a8b9e0e2d46ca6aa199ba2c273b8f7d46a58c2d6f7685173f3912dd68", func := "millrind/millrindlaw05.DressingWork", spec := "dressingWork", unfollowed := true, recurses := true, apart := false }
def DressingWorkSaid : Prop := dressingWorkRow.holds Try.pinned (OpenSpec.ofChange dressingWorkSpec)

/-- ITS FALSE NEIGHBOUR: 'it returns false'. Refute it at one input. -/
def dressingWorkWrong : ChangeSpec := { name := "dressingWork", fn := fun _ => fun
  | [d1, d2] => { results := [.lit (.bool false)], args := [d1, d2] }
  | _ => none }
def DressingWorkWrongFalsely : Prop := dressingWorkRow.holds Try.pinned (OpenSpec.ofChange dressingWorkWrong)

/-- 'millrindlaw05.DressingFewest': WHATEVER THE INPUT: true; the input reads as it did. -/
def dressingFewestSpec : ChangeSpec := { name := "dressingFewest", fn := fun _ => fun
  | [d1, d2] => { results := [.lit (.bool true)], args := [d1, d2] }
  | _ => none }
def dressingFewestRow : OpenClaim := { program := "ytfhbpeafapabhaa", sum := "496b1b0a8b9e0e2d46ca6aa199ba2c273b8f7d46a58c2d6f7685173f3912dd68", func := "millrind/millrindlaw05.DressingFewest", spec := "dressingFewest", unfollowed := true, recurses := true, apart := false }
def DressingFewestSaid : Prop := dressingFewestRow.holds Try.pinned (OpenSpec.ofChange dressingFewestSpec)

/-- ITS FALSE NEIGHBOUR: 'it returns false'. Refute it at one input. -/
def dressingFewestWrong : ChangeSpec := { name := "dressingFewest", fn := fun _ => fun
  | [d1, d2] => { results := [.lit (.bool false)], args := [d1, d2] }
  | _ => none }
def DressingFewestWrongFalsely : Prop := dressingFewestRow.holds Try.pinned (OpenSpec.ofChange dressingFewestWrong)

/-- 'millrindlaw05.DressingProves': WHATEVER THE INPUT: true; the input reads as it did. -/
def dressingProvesSpec : ChangeSpec := { name := "dressingProves", fn := fun _ => fun
  | [d1, d2, d3] => { results := [.lit (.bool true)], args := [d1, d2, d3] }
  | _ => none }
def dressingProvesRow : OpenClaim := { program := "ytfhbpeafapabhaa", sum := "496b1b0a8b9e0e2d46ca6aa199ba2c273b8f7d46a58c2d6f7685173f3912dd68", func := "millrind/millrindlaw05.DressingProves", spec := "dressingProves", unfollowed := true, recurses := true, apart := false }
def DressingProvesSaid : Prop := dressingProvesRow.holds Try.pinned (OpenSpec.ofChange dressingProvesSpec)

/-- ITS FALSE NEIGHBOUR: 'it returns false'. Refute it at one input. -/
def dressingProvesWrong : ChangeSpec := { name := "dressingProves", fn := fun _ => fun
  | [d1, d2, d3] => { results := [.lit (.bool false)], args := [d1, d2, d3] }
  | _ => none }
def DressingProvesWrongFalsely : Prop := dressingProvesRow.holds Try.pinned (OpenSpec.ofChange dressingProvesWrong)

/-- 'millrindlaw05.DressingSums': WHATEVER THE INPUT: true; the input reads as it did. -/
def dressingSumsSpec : ChangeSpec := { name := "dressingSums", fn := fun _ => fun
  | [d1, d2, d3] => { results := [.lit (.bool true)], args := [d1, d2, d3] }
  | _ => none }
def dressingSumsRow : OpenClaim := { program := "ytfhbpeafapabhaa", sum := "496b1b0a8b9e0e2d46ca6aa199ba2c273b8f7d46a58c2d6f7685173f3912dd68", func := "millrind/millrindlaw05.DressingSums", spec := "dressingSums", unfollowed := true, recurses := true, apart := false }
def DressingSumsSaid : Prop := dressingSumsRow.holds Try.pinned (OpenSpec.ofChange dressingSumsSpec)

/-- ITS FALSE NEIGHBOUR: 'it returns false'. Refute it at one input. -/
def dressingSumsWrong : ChangeSpec := { name := "dressingSums", fn := fun _ => fun
  | [d1, d2, d3] => { results := [.lit (.bool false)], args := [d1, d2, d3] }
  | _ => none }
def DressingSumsWrongFalsely : Prop := dressingSumsRow.holds Try.pinned (OpenSpec.ofChange dressingSumsWrong)

/-- 'millrindlaw05.DressingWider': WHATEVER THE INPUT: true; the input reads as it did. -/
def dressingWiderSpec : ChangeSpec := { name := "dressingWider", fn := fun _ => fun
  | [d1, d2, d3] => { results := [.lit (.bool true)], args := [d1, d2, d3] }
  | _ => none }
def dressingWiderRow : OpenClaim := { program := "ytfhbpeafapabhaa", sum := "496b1b0a8b9e0e2d46ca6aa199ba2c273b8f7d46a58c2d6f7685173f3912dd68", func := "millrind/millrindlaw05.DressingWider", spec := "dressingWider", unfollowed := true, recurses := true, apart := false }
def DressingWiderSaid : Prop := dressingWiderRow.holds Try.pinned (OpenSpec.ofChange dressingWiderSpec)

/-- ITS FALSE NEIGHBOUR: 'it returns false'. Refute it at one input. -/
def dressingWiderWrong : ChangeSpec := { name := "dressingWider", fn := fun _ => fun
  | [d1, d2, d3] => { results := [.lit (.bool false)], args := [d1, d2, d3] }
  | _ => none }
def DressingWiderWrongFalsely : Prop := dressingWiderRow.holds Try.pinned (OpenSpec.ofChange dressingWiderWrong)

/-- 'millrindlaw05.DressingNeeds': WHATEVER THE INPUT: true; the input reads as it did. -/
def dressingNeedsSpec : ChangeSpec := { name := "dressingNeeds", fn := fun _ => fun
  | [d1, d2, d3, d4, d5] => { results := [.lit (.bool true)], args := [d1, d2, d3, d4, d5] }
  | _ => none }
def dressingNeedsRow : OpenClaim := { program := "ytfhbpeafapabhaa", sum := "496b1b0a8b9e0e2d46ca6aa199ba2c273b8f7d46a58c2d6f7685173f3912dd68", func := "millrind/millrindlaw05.DressingNeeds", spec := "dressingNeeds", unfollowed := true, recurses := true, apart := false }
def DressingNeedsSaid : Prop := dressingNeedsRow.holds Try.pinned (OpenSpec.ofChange dressingNeedsSpec)

/-- ITS FALSE NEIGHBOUR: 'it returns false'. Refute it at one input. -/
def dressingNeedsWrong : ChangeSpec := { name := "dressingNeeds", fn := fun _ => fun
  | [d1, d2, d3, d4, d5] => { results := [.lit (.bool false)], args := [d1, d2, d3, d4, d5] }
  | _ => none }
def DressingNeedsWrongFalsely : Prop := dressingNeedsRow.holds Try.pinned (OpenSpec.ofChange dressingNeedsWrong)

/-- 'millrindlaw05.DressingShifts': WHATEVER THE INPUT: true; the input reads as it did. -/
def dressingShiftsSpec : ChangeSpec := { name := "dressingShifts", fn := fun _ => fun
  | [d1, d2] => { results := [.lit (.bool true)], args := [d1, d2] }
  | _ => none }
def dressingShiftsRow : OpenClaim := { program := "ytfhbpeafapabhaa", sum := "496b1b0a8b9e0e2d46ca6aa199ba2c273b8f7d46a58c2d6f7685173f3912dd68", func := "millrind/millrindlaw05.DressingShifts", spec := "dressingShifts", unfollowed := true, recurses := true, apart := false }
def DressingShiftsSaid : Prop := dressingShiftsRow.holds Try.pinned (OpenSpec.ofChange dressingShiftsSpec)

/-- ITS FALSE NEIGHBOUR: 'it returns false'. Refute it at one input. -/
def dressingShiftsWrong : ChangeSpec := { name := "dressingShifts", fn := fun _ => fun
  | [d1, d2] => { results := [.lit (.bool false)], args := [d1, d2] }
  | _ => none }
def DressingShiftsWrongFalsely : Prop := dressingShiftsRow.holds Try.pinned (OpenSpec.ofChange dressingShiftsWrong)

/-- 'millrindlaw05.DressingDays': WHATEVER THE INPUT: true; the input reads as it did. -/
def dressingDaysSpec : ChangeSpec := { name := "dressingDays", fn := fun _ => fun
  | [d1, d2] => { results := [.lit (.bool true)], args := [d1, d2] }
  | _ => none }
def dressingDaysRow : OpenClaim := { program := "ytfhbpeafapabhaa", sum := "496b1b0a8b9e0e2d46ca6aa199ba2c273b8f7d46a58c2d6f7685173f3912dd68", func := "millrind/millrindlaw05.DressingDays", spec := "dressingDays", unfollowed := true, recurses := true, apart := false }
def DressingDaysSaid : Prop := dressingDaysRow.holds Try.pinned (OpenSpec.ofChange dressingDaysSpec)

/-- ITS FALSE NEIGHBOUR: 'it returns false'. Refute it at one input. -/
def dressingDaysWrong : ChangeSpec := { name := "dressingDays", fn := fun _ => fun
  | [d1, d2] => { results := [.lit (.bool false)], args := [d1, d2] }
  | _ => none }
def DressingDaysWrongFalsely : Prop := dressingDaysRow.holds Try.pinned (OpenSpec.ofChange dressingDaysWrong)

/-- 'millrindlaw05.DressingHands': WHATEVER THE INPUT: true; the input reads as it did. -/
def dressingHandsSpec : ChangeSpec := { name := "dressingHands", fn := fun _ => fun
  | [d1, d2, d3, d4] => { results := [.lit (.bool true)], args := [d1, d2, d3, d4] }
  | _ => none }
def dressingHandsRow : OpenClaim := { program := "ytfhbpeafapabhaa", sum := "496b1b0a8b9e0e2d46ca6aa199ba2c273b8f7d46a58c2d6f7685173f3912dd68", func := "millrind/millrindlaw05.DressingHands", spec := "dressingHands", unfollowed := true, recurses := true, apart := false }
def DressingHandsSaid : Prop := dressingHandsRow.holds Try.pinned (OpenSpec.ofChange dressingHandsSpec)

/-- ITS FALSE NEIGHBOUR: 'it returns false'. Refute it at one input. -/
def dressingHandsWrong : ChangeSpec := { name := "dressingHands", fn := fun _ => fun
  | [d1, d2, d3, d4] => { results := [.lit (.bool false)], args := [d1, d2, d3, d4] }
  | _ => none }
def DressingHandsWrongFalsely : Prop := dressingHandsRow.holds Try.pinned (OpenSpec.ofChange dressingHandsWrong)

/-- 'millrindlaw05.DressingIdle': WHATEVER THE INPUT: true; the input reads as it did. -/
def dressingIdleSpec : ChangeSpec := { name := "dressingIdle", fn := fun _ => fun
  | [d1, d2] => { results := [.lit (.bool true)], args := [d1, d2] }
  | _ => none }
def dressingIdleRow : OpenClaim := { program := "ytfhbpeafapabhaa", sum := "496b1b0a8b9e0e2d46ca6aa199ba2c273b8f7d46a58c2d6f7685173f3912dd68", func := "millrind/millrindlaw05.DressingIdle", spec := "dressingIdle", unfollowed := true, recurses := true, apart := false }
def DressingIdleSaid : Prop := dressingIdleRow.holds Try.pinned (OpenSpec.ofChange dressingIdleSpec)

/-- ITS FALSE NEIGHBOUR: 'it returns false'. Refute it at one input. -/
def dressingIdleWrong : ChangeSpec := { name := "dressingIdle", fn := fun _ => fun
  | [d1, d2] => { results := [.lit (.bool false)], args := [d1, d2] }
  | _ => none }
def DressingIdleWrongFalsely : Prop := dressingIdleRow.holds Try.pinned (OpenSpec.ofChange dressingIdleWrong)

/- THE SECOND FORM. 'bulk': how many values and letters a reading holds, each counted each time it is reached (what is shared counts as often as it is met; a slice's spare places count too). A statement '..UptoSaid' is the law's where the arguments, and the package variables that the reading takes, are together of bulk at most 1048576: NARROWER than '..Said'. Prove '..Said' where nothing that the law and all that it calls make is longer than what came in: it says more and counts as full. Else prove '..UptoSaid'. A law counts once. -/
mutual
def uptoBulk {H : Type} : DataW H → Nat
  | .lit (.string bytes) => bytes.length + 1
  | .lit _ => 1
  | .nil => 1
  | .ptr d => uptoBulk d + 1
  | .slice elems spare => uptoBulkAll elems + uptoBulkAll spare + 1
  | .agg parts => uptoBulkAll parts + 1
  | .iface _ d => uptoBulk d + 1
  | .map entries => uptoBulkEntries entries + 1
  | .held _ => 1
def uptoBulkAll {H : Type} : List (DataW H) → Nat
  | [] => 0
  | d :: r => uptoBulk d + uptoBulkAll r
def uptoBulkEntries {H : Type} : List (Lit × DataW H) → Nat
  | [] => 0
  | x :: r => uptoBulkEntry x + uptoBulkEntries r
def uptoBulkEntry {H : Type} : Lit × DataW H → Nat
  | (.string bytes, d) => bytes.length + uptoBulk d + 1
  | (_, d) => uptoBulk d + 1
 end
def uptoSmall : (H : Type) → List (DataW H) → Bool := fun _ ds => decide (uptoBulkAll ds ≤ 1048576)
def OpenSpec.upto (s : _root_.Go.ChangeSpec) : _root_.Go.OpenSpec := { _root_.Go.OpenSpec.ofChange s with cond := some uptoSmall }

/-- 'millrindlaw05.DressingTasks', WHERE WHAT IT READS IS OF BULK AT MOST 1048576: true; the input reads as it did. -/
def dressingTasksUptoRow : OpenClaim := { program := "ytfhbpeafapabhaa", sum := "496b1b0a8b9e0e2d46ca6aa199ba2c273b8f7d46a58c2d6f7685173f3912dd68", func := "millrind/millrindlaw05.DressingTasks", spec := "dressingTasks", unfollowed := true, recurses := true, apart := false, narrowed := true }
def DressingTasksUptoSaid : Prop := dressingTasksUptoRow.holds Try.pinned (OpenSpec.upto dressingTasksSpec)

/-- 'millrindlaw05.DressingPlans', WHERE WHAT IT READS IS OF BULK AT MOST 1048576: true; the input reads as it did. -/
def dressingPlansUptoRow : OpenClaim := { program := "ytfhbpeafapabhaa", sum := "496b1b0a8b9e0e2d46ca6aa199ba2c273b8f7d46a58c2d6f7685173f3912dd68", func := "millrind/millrindlaw05.DressingPlans", spec := "dressingPlans", unfollowed := true, recurses := true, apart := false, narrowed := true }
def DressingPlansUptoSaid : Prop := dressingPlansUptoRow.holds Try.pinned (OpenSpec.upto dressingPlansSpec)

/-- 'millrindlaw05.DressingPrices', WHERE WHAT IT READS IS OF BULK AT MOST 1048576: true; the input reads as it did. -/
def dressingPricesUptoRow : OpenClaim := { program := "ytfhbpeafapabhaa", sum := "496b1b0a8b9e0e2d46ca6aa199ba2c273b8f7d46a58c2d6f7685173f3912dd68", func := "millrind/millrindlaw05.DressingPrices", spec := "dressingPrices", unfollowed := true, recurses := true, apart := false, narrowed := true }
def DressingPricesUptoSaid : Prop := dressingPricesUptoRow.holds Try.pinned (OpenSpec.upto dressingPricesSpec)

/-- 'millrindlaw05.DressingNever', WHERE WHAT IT READS IS OF BULK AT MOST 1048576: true; the input reads as it did. -/
def dressingNeverUptoRow : OpenClaim := { program := "ytfhbpeafapabhaa", sum := "496b1b0a8b9e0e2d46ca6aa199ba2c273b8f7d46a58c2d6f7685173f3912dd68", func := "millrind/millrindlaw05.DressingNever", spec := "dressingNever", unfollowed := true, recurses := true, apart := false, narrowed := true }
def DressingNeverUptoSaid : Prop := dressingNeverUptoRow.holds Try.pinned (OpenSpec.upto dressingNeverSpec)

/-- 'millrindlaw05.DressingHeights', WHERE WHAT IT READS IS OF BULK AT MOST 1048576: true; the input reads as it did. -/
def dressingHeightsUptoRow : OpenClaim := { program := "ytfhbpeafapabhaa", sum := "496b1b0a8b9e0e2d46ca6aa199ba2c273b8f7d46a58c2d6f7685173f3912dd68", func := "millrind/millrindlaw05.DressingHeights", spec := "dressingHeights", unfollowed := true, recurses := true, apart := false, narrowed := true }
def DressingHeightsUptoSaid : Prop := dressingHeightsUptoRow.holds Try.pinned (OpenSpec.upto dressingHeightsSpec)

/-- 'millrindlaw05.DressingCrews', WHERE WHAT IT READS IS OF BULK AT MOST 1048576: true; the input reads as it did. -/
def dressingCrewsUptoRow : OpenClaim := { program := "ytfhbpeafapabhaa", sum := "496b1b0a8b9e0e2d46ca6aa199ba2c273b8f7d46a58c2d6f7685173f3912dd68", func := "millrind/millrindlaw05.DressingCrews", spec := "dressingCrews", unfollowed := true, recurses := true, apart := false, narrowed := true }
def DressingCrewsUptoSaid : Prop := dressingCrewsUptoRow.holds Try.pinned (OpenSpec.upto dressingCrewsSpec)

/-- 'millrindlaw05.DressingWork', WHERE WHAT IT READS IS OF BULK AT MOST 1048576: true; the input reads as it did. -/
def dressingWorkUptoRow : OpenClaim := { program := "ytfhbpeafapabhaa", sum := "496b1b0a8b9e0e2d46ca6aa199ba2c273b8f7d46a58c2d6f7685173f3912dd68", func := "millrind/millrindlaw05.DressingWork", spec := "dressingWork", unfollowed := true, recurses := true, apart := false, narrowed := true }
def DressingWorkUptoSaid : Prop := dressingWorkUptoRow.holds Try.pinned (OpenSpec.upto dressingWorkSpec)

/-- 'millrindlaw05.DressingFewest', WHERE WHAT IT READS IS OF BULK AT MOST 1048576: true; the input reads as it did. -/
def dressingFewestUptoRow : OpenClaim := { program := "ytfhbpeafapabhaa", sum := "496b1b0a8b9e0e2d46ca6aa199ba2c273b8f7d46a58c2d6f7685173f3912dd68", func := "millrind/millrindlaw05.DressingFewest", spec := "dressingFewest", unfollowed := true, recurses := true, apart := false, narrowed := true }
def DressingFewestUptoSaid : Prop := dressingFewestUptoRow.holds Try.pinned (OpenSpec.upto dressingFewestSpec)

/-- 'millrindlaw05.DressingProves', WHERE WHAT IT READS IS OF BULK AT MOST 1048576: true; the input reads as it did. -/
def dressingProvesUptoRow : OpenClaim := { program := "ytfhbpeafapabhaa", sum := "496b1b0a8b9e0e2d46ca6aa199ba2c273b8f7d46a58c2d6f7685173f3912dd68", func := "millrind/millrindlaw05.DressingProves", spec := "dressingProves", unfollowed := true, recurses := true, apart := false, narrowed := true }
def DressingProvesUptoSaid : Prop := dressingProvesUptoRow.holds Try.pinned (OpenSpec.upto dressingProvesSpec)

/-- 'millrindlaw05.DressingSums', WHERE WHAT IT READS IS OF BULK AT MOST 1048576: true; the input reads as it did. -/
def dressingSumsUptoRow : OpenClaim := { program := "ytfhbpeafapabhaa", sum := "496b1b0a8b9e0e2d46ca6aa199ba2c273b8f7d46a58c2d6f7685173f3912dd68", func := "millrind/millrindlaw05.DressingSums", spec := "dressingSums", unfollowed := true, recurses := true, apart := false, narrowed := true }
def DressingSumsUptoSaid : Prop := dressingSumsUptoRow.holds Try.pinned (OpenSpec.upto dressingSumsSpec)

/-- 'millrindlaw05.DressingWider', WHERE WHAT IT READS IS OF BULK AT MOST 1048576: true; the input reads as it did. -/
def dressingWiderUptoRow : OpenClaim := { program := "ytfhbpeafapabhaa", sum := "496b1b0a8b9e0e2d46ca6aa199ba2c273b8f7d46a58c2d6f7685173f3912dd68", func := "millrind/millrindlaw05.DressingWider", spec := "dressingWider", unfollowed := true, recurses := true, apart := false, narrowed := true }
def DressingWiderUptoSaid : Prop := dressingWiderUptoRow.holds Try.pinned (OpenSpec.upto dressingWiderSpec)

/-- 'millrindlaw05.DressingNeeds', WHERE WHAT IT READS IS OF BULK AT MOST 1048576: true; the input reads as it did. -/
def dressingNeedsUptoRow : OpenClaim := { program := "ytfhbpeafapabhaa", sum := "496b1b0a8b9e0e2d46ca6aa199ba2c273b8f7d46a58c2d6f7685173f3912dd68", func := "millrind/millrindlaw05.DressingNeeds", spec := "dressingNeeds", unfollowed := true, recurses := true, apart := false, narrowed := true }
def DressingNeedsUptoSaid : Prop := dressingNeedsUptoRow.holds Try.pinned (OpenSpec.upto dressingNeedsSpec)

/-- 'millrindlaw05.DressingShifts', WHERE WHAT IT READS IS OF BULK AT MOST 1048576: true; the input reads as it did. -/
def dressingShiftsUptoRow : OpenClaim := { program := "ytfhbpeafapabhaa", sum := "496b1b0a8b9e0e2d46ca6aa199ba2c273b8f7d46a58c2d6f7685173f3912dd68", func := "millrind/millrindlaw05.DressingShifts", spec := "dressingShifts", unfollowed := true, recurses := true, apart := false, narrowed := true }
def DressingShiftsUptoSaid : Prop := dressingShiftsUptoRow.holds Try.pinned (OpenSpec.upto dressingShiftsSpec)

/-- 'millrindlaw05.DressingDays', WHERE WHAT IT READS IS OF BULK AT MOST 1048576: true; the input reads as it did. -/
def dressingDaysUptoRow : OpenClaim := { program := "ytfhbpeafapabhaa", sum := "496b1b0a8b9e0e2d46ca6aa199ba2c273b8f7d46a58c2d6f7685173f3912dd68", func := "millrind/millrindlaw05.DressingDays", spec := "dressingDays", unfollowed := true, recurses := true, apart := false, narrowed := true }
def DressingDaysUptoSaid : Prop := dressingDaysUptoRow.holds Try.pinned (OpenSpec.upto dressingDaysSpec)

/-- 'millrindlaw05.DressingHands', WHERE WHAT IT READS IS OF BULK AT MOST 1048576: true; the input reads as it did. -/
def dressingHandsUptoRow : OpenClaim := { program := "ytfhbpeafapabhaa", sum := "496b1b0a8b9e0e2d46ca6aa199ba2c273b8f7d46a58c2d6f7685173f3912dd68", func := "millrind/millrindlaw05.DressingHands", spec := "dressingHands", unfollowed := true, recurses := true, apart := false, narrowed := true }
def DressingHandsUptoSaid : Prop := dressingHandsUptoRow.holds Try.pinned (OpenSpec.upto dressingHandsSpec)

/-- 'millrindlaw05.DressingIdle', WHERE WHAT IT READS IS OF BULK AT MOST 1048576: true; the input reads as it did. -/
def dressingIdleUptoRow : OpenClaim := { program := "ytfhbpeafapabhaa", sum := "496b1b0a8b9e0e2d46ca6aa199ba2c273b8f7d46a58c2d6f7685173f3912dd68", func := "millrind/millrindlaw05.DressingIdle", spec := "dressingIdle", unfollowed := true, recurses := true, apart := false, narrowed := true }
def DressingIdleUptoSaid : Prop := dressingIdleUptoRow.holds Try.pinned (OpenSpec.upto dressingIdleSpec)

end Rows
end Go.Proofs.Ytfhbpeafapabhaa

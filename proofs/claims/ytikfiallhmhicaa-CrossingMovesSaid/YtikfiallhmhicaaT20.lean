/- Layer 2: the examples of the document hold, in whatever world. -/
import Derived.Test.YtikfiallhmhicaaRows
import Derived.Test.YtikfiallhmhicaaZ4
namespace Go.Proofs.Ytikfiallhmhicaa

theorem mixed : Try.prog.follows .mixedOrders = true := by kernel_rfl
theorem noNum : Eng.noNumB Try.prog = true := by kernel_rfl
theorem awake_run : Eng.closedRun Try.prog 10000 200 6 [] = some (.bool true) := by kernel_rfl
theorem awake_c (w : World) : Calls Try.prog 6 #[] w fun e w' => e = .returned (.bool true) ∧ RowKit.Below w.heap.size w w' :=
  Eng.closed_run (args := []) mixed noNum rfl awake_run w
end Go.Proofs.Ytikfiallhmhicaa

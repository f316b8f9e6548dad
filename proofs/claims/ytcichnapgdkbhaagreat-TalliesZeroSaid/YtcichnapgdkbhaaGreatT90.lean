/- Layer 9: the examples of the document hold, in whatever world. -/
import Derived.Test.YtcichnapgdkbhaaGreatRows
import Derived.Test.YtcichnapgdkbhaaGreatZ4
namespace Go.Proofs.YtcichnapgdkbhaaGreat

theorem mixed : Tryz.prog.follows .mixedOrders = true := by kernel_rfl
theorem noNum : Eng.noNumB Tryz.prog = true := by kernel_rfl
theorem awake_run : Eng.closedRun Tryz.prog 10000 200 4 [] = some (.bool true) := by kernel_rfl
theorem awake_c (w : World) : Calls Tryz.prog 4 #[] w fun e w' => e = .returned (.bool true) ∧ RowKit.Below w.heap.size w w' :=
  Eng.closed_run (args := []) mixed noNum rfl awake_run w
end Go.Proofs.YtcichnapgdkbhaaGreat

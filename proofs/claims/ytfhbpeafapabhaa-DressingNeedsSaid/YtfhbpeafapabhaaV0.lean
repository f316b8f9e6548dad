/- Words that the walks of this seat share; the examples at the head of the statements, reckoned. -/
import Derived.Test.YtfhbpeafapabhaaRows
import Derived.Test.YtfhbpeafapabhaaZ4
import Derived.WalkKit
import Derived.WalkSpells
import Derived.WalkLawsBesides
import Derived.BigQuiet
import Derived.Deep.QuietTactic
import Derived.Lib.Hide
namespace Go.Proofs.Ytfhbpeafapabhaa
open Go.RowKit

theorem bcell {W w1 : World} (hb : Below W.heap.size W w1) : (∀ b o, b < W.heap.size → w1.cell? ⟨b, o, none⟩ = W.cell? ⟨b, o, none⟩) ∧ (∀ b o, b < W.heap.size → w1.frozen? ⟨b, o, none⟩ = W.frozen? ⟨b, o, none⟩) :=
  ⟨fun b o h => hb.cell (p := ⟨b, o, none⟩) h, fun b o h => hb.frozen (p := ⟨b, o, none⟩) h⟩
theorem ret_int {k : IntKind} {a b : Int} (h : a = b) : Ending.returned (.int k a) = .returned (.int k b) := by rw [h]
theorem ret_bool {a b : Bool} (h : a = b) : Ending.returned (.bool a) = .returned (.bool b) := by rw [h]
/-- a box of a call's own, and what the call makes behind it -/
theorem boxed {w w1 : World} {o : Obj} (h : Below (w.alloc o).heap.size (w.alloc o) w1) : Below w.heap.size w w1 := ((Below.refl _ _).alloc (Nat.le_refl _) _).trans (h.mono (by simp))
theorem chain {W0 w1 w2 : World} (h1 : Below W0.heap.size W0 w1) (h2 : Below w1.heap.size w1 w2) : Below W0.heap.size W0 w2 := h1.trans (h2.mono h1.size)

/-- the examples at the head of the statements hold, in whatever world -/
theorem awake_c (w : World) : Calls Try.prog 19 #[] w fun e w' => e = .returned (.bool true) ∧ Below w.heap.size w w' :=
  Eng.closed_run (by kernel_rfl) (by kernel_rfl) (cf := 10000) (f := 200) (args := []) rfl (by kernel_rfl) w

end Go.Proofs.Ytfhbpeafapabhaa

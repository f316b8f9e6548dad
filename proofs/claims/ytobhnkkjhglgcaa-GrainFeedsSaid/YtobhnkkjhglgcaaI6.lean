/- Layer 3: the law on feeds, walked. -/
import Derived.Test.YtobhnkkjhglgcaaI5
import Derived.Test.YtobhnkkjhglgcaaTA
set_option linter.unusedSimpArgs false
set_option linter.unusedVariables false
namespace Go.Proofs.Ytobhnkkjhglgcaa
open Go.RowKit

/-- what the three questions of a feed are answered -/
def DrawnAt (f : FuncId) (x d k n a b z : Int) : Prop := ∀ w : World, Calls Try.prog f #[feedV x d k, .int .i64 n] w fun e w' => e = .returned (.tuple #[.int .i64 a, .int .i64 b, .int .i64 z]) ∧ Below w.heap.size w w'
def FedAt (f : FuncId) (x d k n a z : Int) : Prop := ∀ w : World, Calls Try.prog f #[feedV x d k, .int .i64 n] w fun e w' => e = .returned (.tuple #[.int .i64 a, .int .i64 z]) ∧ Below w.heap.size w w'
def EmptyAt (f : FuncId) (x d k a z : Int) : Prop := ∀ w : World, Calls Try.prog f #[feedV x d k] w fun e w' => e = .returned (.tuple #[.int .i64 a, .int .i64 z]) ∧ Below w.heap.size w w'

set_option maxRecDepth 100000 in
set_option maxHeartbeats 8000000 in
theorem GrainFeeds_c (x d k n t : Int) (w : World) : Calls Try.prog 3 #[feedV x d k, .int .i64 n, .int .i64 t] w fun e w' => e = .returned (.bool true) ∧ Below w.heap.size w w' := by
  obtain ⟨a, b, z, C1, C2⟩ : ∃ a b z, DrawnAt 7 x d k n a b z ∧ DrawnAt 8 x d k n a b z := ⟨_, _, _, Drawn_c x d k n, rDrawn_c x d k n⟩
  obtain ⟨m, h, C3, C4⟩ : ∃ a z, FedAt 9 x d k t a z ∧ FedAt 10 x d k t a z := ⟨_, _, Fed_c x d k t, rFed_c x d k t⟩
  obtain ⟨y, j, C5, C6⟩ : ∃ a z, EmptyAt 11 x d k a z ∧ EmptyAt 12 x d k a z := ⟨_, _, Empty_c x d k, rEmpty_c x d k⟩
  have D1 := Lib.hid C1
  have D2 := Lib.hid C2
  have D3 := Lib.hid C3
  have D4 := Lib.hid C4
  have D5 := Lib.hid C5
  have D6 := Lib.hid C6
  clear C1 C2 C3 C4 C5 C6
  have HBX := Lib.hid (feedBx_made w x d k)
  have ea : decide (a = a) = true := by simp
  have eb : decide (b = b) = true := by simp
  have ez : decide (z = z) = true := by simp
  have em : decide (m = m) = true := by simp
  have eh : decide (h = h) = true := by simp
  have ey : decide (y = y) = true := by simp
  have ej : decide (j = j) = true := by simp
  go_enter Try.func3, Try.ntmps3
  go_wp2_with fail
  refine (awake_c _).mono ?_; rintro e w0 ⟨rfl, hb0⟩
  have X0 := Lib.hid (HBX.out.later hb0)
  have B0 := Lib.hid (boxed hb0)
  clear hb0
  have q0 : w0.cell? ⟨w.heap.size, 0, none⟩ = some (.int .i64 x) := X0.out.cell 0
  have q1 : w0.cell? ⟨w.heap.size, 1, none⟩ = some (.int .i64 d) := X0.out.cell 1
  have q2 : w0.cell? ⟨w.heap.size, 2, none⟩ = some (.int .i64 k) := X0.out.cell 2
  go_wp2_with fail
  refine (D1.out w0).mono ?_; rintro e w1 ⟨rfl, hb1⟩
  have X1 := Lib.hid (X0.out.below hb1 X0.out.lt)
  have B1 := Lib.hid (chain B0.out hb1)
  clear q0 q1 q2 hb1
  have q0 : w1.cell? ⟨w.heap.size, 0, none⟩ = some (.int .i64 x) := X1.out.cell 0
  have q1 : w1.cell? ⟨w.heap.size, 1, none⟩ = some (.int .i64 d) := X1.out.cell 1
  have q2 : w1.cell? ⟨w.heap.size, 2, none⟩ = some (.int .i64 k) := X1.out.cell 2
  go_wp2_with fail
  refine (D2.out w1).mono ?_; rintro e w2 ⟨rfl, hb2⟩
  have X2 := Lib.hid (X1.out.below hb2 X1.out.lt)
  have B2 := Lib.hid (chain B1.out hb2)
  clear q0 q1 q2 hb2
  have q0 : w2.cell? ⟨w.heap.size, 0, none⟩ = some (.int .i64 x) := X2.out.cell 0
  have q1 : w2.cell? ⟨w.heap.size, 1, none⟩ = some (.int .i64 d) := X2.out.cell 1
  have q2 : w2.cell? ⟨w.heap.size, 2, none⟩ = some (.int .i64 k) := X2.out.cell 2
  go_wp2_with fail
  refine (D3.out w2).mono ?_; rintro e w3 ⟨rfl, hb3⟩
  have X3 := Lib.hid (X2.out.below hb3 X2.out.lt)
  have B3 := Lib.hid (chain B2.out hb3)
  clear q0 q1 q2 hb3
  have q0 : w3.cell? ⟨w.heap.size, 0, none⟩ = some (.int .i64 x) := X3.out.cell 0
  have q1 : w3.cell? ⟨w.heap.size, 1, none⟩ = some (.int .i64 d) := X3.out.cell 1
  have q2 : w3.cell? ⟨w.heap.size, 2, none⟩ = some (.int .i64 k) := X3.out.cell 2
  go_wp2_with fail
  refine (D4.out w3).mono ?_; rintro e w4 ⟨rfl, hb4⟩
  have X4 := Lib.hid (X3.out.below hb4 X3.out.lt)
  have B4 := Lib.hid (chain B3.out hb4)
  clear q0 q1 q2 hb4
  have q0 : w4.cell? ⟨w.heap.size, 0, none⟩ = some (.int .i64 x) := X4.out.cell 0
  have q1 : w4.cell? ⟨w.heap.size, 1, none⟩ = some (.int .i64 d) := X4.out.cell 1
  have q2 : w4.cell? ⟨w.heap.size, 2, none⟩ = some (.int .i64 k) := X4.out.cell 2
  go_wp2_with fail
  refine (D5.out w4).mono ?_; rintro e w5 ⟨rfl, hb5⟩
  have X5 := Lib.hid (X4.out.below hb5 X4.out.lt)
  have B5 := Lib.hid (chain B4.out hb5)
  clear q0 q1 q2 hb5
  have q0 : w5.cell? ⟨w.heap.size, 0, none⟩ = some (.int .i64 x) := X5.out.cell 0
  have q1 : w5.cell? ⟨w.heap.size, 1, none⟩ = some (.int .i64 d) := X5.out.cell 1
  have q2 : w5.cell? ⟨w.heap.size, 2, none⟩ = some (.int .i64 k) := X5.out.cell 2
  go_wp2_with fail
  refine (D6.out w5).mono ?_; rintro e w6 ⟨rfl, hb6⟩
  have X6 := Lib.hid (X5.out.below hb6 X5.out.lt)
  have B6 := Lib.hid (chain B5.out hb6)
  clear q0 q1 q2 hb6
  go_wp2_with fail
  go_ret
  exact ⟨rfl, B6.out⟩
end Go.Proofs.Ytobhnkkjhglgcaa

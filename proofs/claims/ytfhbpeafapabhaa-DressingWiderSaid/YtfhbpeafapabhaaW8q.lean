/- A span as it came in, with the bounds of its numbers. -/
import Derived.Test.YtfhbpeafapabhaaW0q
namespace Go.Proofs.Ytfhbpeafapabhaa
open Go.ChangeShapes Go.WideShapes Go.ChangeAt Go.RowKit

theorem wf64 {n : Int} (h : (Lit.int .i64 n).wf = true) : -9223372036854775808 ≤ n ∧ n ≤ 9223372036854775807 := by
  have h2 : (decide (IntKind.i64.min ≤ n) && decide (n ≤ IntKind.i64.max)) = true := h
  rw [Bool.and_eq_true, decide_eq_true_eq, decide_eq_true_eq] at h2
  exact h2
set_option maxRecDepth 100000 in
theorem open_span_b {H : Type} {enc : TypeId × Value → H} {W : World} {base : Nat} {v : Value} {d : DataW H} {p : List MemPlace} (hv : Value.okWide Try.prog W .any base 49 v) (h : DataW.Trod enc Try.prog W 0 (fun _ => true) true 49 v d p) :
    ∃ a b : Int, v = .agg #[.int .i64 a, .int .i64 b] ∧ a ≤ 9223372036854775807 := by
  have k2 : Try.prog.cellsOf 49 = 2 := by kernel_rfl
  have k1 : Try.prog.cellsOf 3 = 1 := by kernel_rfl
  obtain ⟨cs, rfl, hsz⟩ := okWide_struct Try.underlying49 hv
  obtain ⟨c0, c1, rfl⟩ := two (hsz.trans k2)
  obtain ⟨fuel, hf⟩ := h
  obtain ⟨z0, z1, m2, -, -, x0, x1⟩ := trod_struct2 Try.underlying49 hf
  simp only [k1, Value.cells, List.drop_zero, List.drop_succ_cons, List.take_succ_cons, List.take_zero] at x0 x1
  obtain ⟨n0, e0, -, hw⟩ := DataW.trod_int Try.underlying3 x0
  obtain ⟨n1, e1, -, -⟩ := DataW.trod_int Try.underlying3 x1
  cases e0
  cases e1
  exact ⟨n0, n1, rfl, (wf64 hw).2⟩

end Go.Proofs.Ytfhbpeafapabhaa

/- A struct of two slices of ints, as it came in. -/
import Derived.Test.YtfafjojoapcliaaS0
import Derived.Test.YtfafjojoapcliaaW3
namespace Go.Proofs.Ytfafjojoapcliaa
open Go.ChangeShapes Go.WideShapes Go.ChangeAt Go.RowKit

set_option maxRecDepth 100000 in
theorem open_prices {H : Type} {enc : TypeId × Value → H} {W : World} {base : Nat} {v : Value} {d : DataW H} {p : List MemPlace} (hv : Value.okWide Try.prog W .any base 35 v) (h : DataW.Trod enc Try.prog W 0 (fun _ => true) true 35 v d p)
    (hsz : (d.weights Try.prog 35).all (· ≤ reachBytes) = true) : ∃ l g, IsPrices W W.heap.size v l g := by
  obtain ⟨v0, v1, y0, y1, n, rfl, rfl, rfl, h0, h1⟩ := Joins.open_agg2 Try.underlying35 (by kernel_rfl) (by kernel_rfl) hv h
  simp only [DataW.weights, Try.underlying35, DataW.weightsEach, List.map_cons, List.map_nil, List.append_nil, List.all_append, Bool.and_eq_true] at hsz
  obtain ⟨l, hl⟩ := open_nums h0 hsz.1
  obtain ⟨g, hg⟩ := open_nums h1 hsz.2
  exact ⟨l, g, v0, v1, rfl, hl, hg⟩
end Go.Proofs.Ytfafjojoapcliaa

/- What the statements of layer 3 want besides: mills, sorts and feeds that came in are opened. -/
import Derived.Test.YtikfiallhmhicaaGreatC34
import Derived.Test.YtikfiallhmhicaaGreatD1
set_option linter.all false
namespace Go.Proofs.YtikfiallhmhicaaGreat
open Go.ChangeShapes Go.WideShapes Go.ChangeAt Go.RowKit

set_option maxRecDepth 100000 in
/-- the cells of a pair, as they came in -/
theorem open_pair9 {H : Type} {enc : TypeId × Value → H} {W : World} {fuel : Nat} {c0 c1 c2 c3 c4 c5 c6 c7 c8 : Value} {x : DataW H × List MemPlace} (h : DataW.trod enc Tryz.prog W 0 (fun _ => true) true fuel 31 [c0, c1, c2, c3, c4, c5, c6, c7, c8] = some x)
    (hsz : (x.1.weights Tryz.prog 31).all (· ≤ reachBytes) = true) : ∃ q : Pr, c0 = .int .i64 q.bed.eye ∧ c1 = .int .i64 q.bed.rings ∧ c2 = .int .i64 q.bed.sectors ∧ c4 = .int .i64 q.run.eye ∧ c5 = .int .i64 q.run.rings ∧ c6 = .int .i64 q.run.sectors ∧ Ints W W.heap.size c3 q.bed.kinds ∧ Ints W W.heap.size c7 q.run.kinds ∧ Drive W W.heap.size c8 q.drive := by
  have k4 : Tryz.prog.cellsOf 28 = 4 := by kernel_rfl
  have k1 : Tryz.prog.cellsOf 29 = 1 := by kernel_rfl
  obtain ⟨y0, y1, y2, n, hx, -, x0, x1, x2⟩ := Go.Deep.trod_struct3 Tryz.underlying31 h
  subst hx
  simp only [DataW.weights, Tryz.underlying31, DataW.weightsEach, List.map_cons, List.map_nil, List.append_nil, List.all_append, Bool.and_eq_true] at hsz
  simp only [k4, k1, List.drop_zero, List.drop_succ_cons, List.take_succ_cons, List.take_zero] at x0 x1 x2
  obtain ⟨f, rfl, rfl, rfl, hk1⟩ := open_face4 x0 hsz.1
  obtain ⟨g, rfl, rfl, rfl, hk2⟩ := open_face4 x1 hsz.2.1
  obtain ⟨ms, hms⟩ := open_drive x2
  exact ⟨⟨f, g, ms⟩, rfl, rfl, rfl, rfl, rfl, rfl, hk1, hk2, hms⟩
theorem ten {cs : Array Value} (h : cs.size = 10) : ∃ c0 c1 c2 c3 c4 c5 c6 c7 c8 c9, cs = #[c0, c1, c2, c3, c4, c5, c6, c7, c8, c9] := by
  obtain ⟨l⟩ := cs
  match l, h with
  | [c0, c1, c2, c3, c4, c5, c6, c7, c8, c9], _ => exact ⟨c0, c1, c2, c3, c4, c5, c6, c7, c8, c9, rfl⟩
set_option maxRecDepth 100000 in
/-- a mill, as it came in -/
theorem open_mill {H : Type} {enc : TypeId × Value → H} {W : World} {base : Nat} {v : Value} {d : DataW H} {p : List MemPlace} (hv : Value.okWide Tryz.prog W .any base 33 v) (h : DataW.Trod enc Tryz.prog W 0 (fun _ => true) true 33 v d p)
    (hsz : (d.weights Tryz.prog 33).all (· ≤ reachBytes) = true) : ∃ m, IsMill W W.heap.size v m := by
  have k10 : Tryz.prog.cellsOf 33 = 10 := by kernel_rfl
  have k9 : Tryz.prog.cellsOf 31 = 9 := by kernel_rfl
  have k1 : Tryz.prog.cellsOf 26 = 1 := by kernel_rfl
  obtain ⟨cs, rfl, hsz'⟩ := okWide_struct Tryz.underlying33 hv
  obtain ⟨c0, c1, c2, c3, c4, c5, c6, c7, c8, c9, rfl⟩ := ten (hsz'.trans k10)
  obtain ⟨fuel, hf⟩ := h
  obtain ⟨y0, y1, n, hx, -, x0, x1⟩ := trod_struct2 Tryz.underlying33 hf
  obtain ⟨rfl, rfl⟩ := Prod.mk.inj hx
  simp only [DataW.weights, Tryz.underlying33, DataW.weightsEach, List.map_cons, List.map_nil, List.append_nil, List.all_append, Bool.and_eq_true] at hsz
  simp only [k9, k1, Value.cells, List.drop_zero, List.drop_succ_cons, List.take_succ_cons, List.take_zero] at x0 x1
  obtain ⟨q, rfl, rfl, rfl, rfl, rfl, rfl, h1, h2, h3⟩ := open_pair9 x0 hsz.1
  obtain ⟨g, hg⟩ := open_kinds x1 hsz.2
  exact ⟨⟨q, g⟩, c3, c7, c8, c9, rfl, h1, h2, h3, hg⟩
end Go.Proofs.YtikfiallhmhicaaGreat

/- What is asked of a face, as it came in. -/
import Derived.Test.YtpejcdjgggcjlaaGreatDoorK2
namespace Go.Proofs.YtpejcdjgggcjlaaGreatDoor
open Go.ChangeShapes Go.WideShapes Go.ChangeAt Go.RowKit

theorem five {α : Type} {cs : Array α} (h : cs.size = 5) : ∃ c0 c1 c2 c3 c4, cs = #[c0, c1, c2, c3, c4] := by
  obtain ⟨l⟩ := cs
  match l, h with
  | [c0, c1, c2, c3, c4], _ => exact ⟨c0, c1, c2, c3, c4, rfl⟩

set_option maxRecDepth 100000 in
/-- what is asked of a face, as it came in -/
theorem open_look {H : Type} {enc : TypeId × Value → H} {W : World} {base : Nat} {v : Value} {d : DataW H} {p : List MemPlace} (hv : Value.okWide Tryz.prog W .any base 28 v) (h : DataW.Trod enc Tryz.prog W 0 (fun _ => true) true 28 v d p) :
    ∃ r c i k n : Int, v = .agg #[.int .i64 r, .int .i64 c, .int .i64 i, .int .i64 k, .int .i64 n] := by
  have k5 : Tryz.prog.cellsOf 28 = 5 := by kernel_rfl
  have k2 : Tryz.prog.cellsOf 26 = 2 := by kernel_rfl
  have k1 : Tryz.prog.cellsOf 3 = 1 := by kernel_rfl
  obtain ⟨cs, rfl, hsz⟩ := okWide_struct Tryz.underlying28 hv
  obtain ⟨c0, c1, c2, c3, c4, rfl⟩ := five (hsz.trans k5)
  obtain ⟨fuel, hf⟩ := h
  obtain ⟨y0, y1, y2, y3, m, -, -, h0, h1, h2, h3⟩ := Joins.trod_struct4 Tryz.underlying28 hf
  simp only [Value.cells, k2, k1, List.drop_zero, List.drop_succ_cons, List.take_succ_cons, List.take_zero] at h0 h1 h2 h3
  obtain ⟨z0, z1, m2, -, -, x0, x1⟩ := trod_struct2 Tryz.underlying26 h0
  simp only [k1, List.drop_zero, List.drop_succ_cons, List.take_succ_cons, List.take_zero] at x0 x1
  obtain ⟨n0, e0, -, -⟩ := DataW.trod_int Tryz.underlying3 x0
  obtain ⟨n1, e1, -, -⟩ := DataW.trod_int Tryz.underlying3 x1
  obtain ⟨n2, e2, -, -⟩ := DataW.trod_int Tryz.underlying3 h1
  obtain ⟨n3, e3, -, -⟩ := DataW.trod_int Tryz.underlying3 h2
  obtain ⟨n4, e4, -, -⟩ := DataW.trod_int Tryz.underlying3 h3
  cases e0
  cases e1
  cases e2
  cases e3
  cases e4
  exact ⟨n0, n1, n2, n3, n4, rfl⟩

end Go.Proofs.YtpejcdjgggcjlaaGreatDoor

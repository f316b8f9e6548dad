/- Layer 3: what is asked of a mill, as it came in; grains that are equal. -/
import Derived.Test.YtikfiallhmhicaaGreatD5
import Derived.Test.YtikfiallhmhicaaGreatC28
set_option linter.all false
namespace Go.Proofs.YtikfiallhmhicaaGreat
open Go.ChangeShapes Go.WideShapes Go.ChangeAt Go.RowKit

theorem eighteen {cs : Array Value} (h : cs.size = 18) : ∃ c0 c1 c2 c3 c4 c5 c6 c7 c8 c9 c10 c11 c12 c13 c14 c15 c16 c17, cs = #[c0, c1, c2, c3, c4, c5, c6, c7, c8, c9, c10, c11, c12, c13, c14, c15, c16, c17] := by
  obtain ⟨l⟩ := cs
  match l, h with
  | [c0, c1, c2, c3, c4, c5, c6, c7, c8, c9, c10, c11, c12, c13, c14, c15, c16, c17], _ => exact ⟨c0, c1, c2, c3, c4, c5, c6, c7, c8, c9, c10, c11, c12, c13, c14, c15, c16, c17, rfl⟩
def askV (c0 c1 c2 c3 : Value) (a b t z k mo ms : Int) (mc : Bool) (c12 c13 c14 c15 c16 c17 : Value) : Value := .agg #[c0, c1, c2, c3, .int .i64 a, .int .i64 b, .int .i64 t, .int .i64 z, .int .i64 k, .int .i64 mo, .int .i64 ms, .bool mc, c12, c13, c14, c15, c16, c17]
set_option maxRecDepth 100000 in
/-- what is asked of a mill, as it came in -/
theorem open_ask {H : Type} {enc : TypeId × Value → H} {W : World} {base : Nat} {v : Value} {d : DataW H} {p : List MemPlace} (hv : Value.okWide Tryz.prog W .any base 53 v) (h : DataW.Trod enc Tryz.prog W 0 (fun _ => true) true 53 v d p) :
    ∃ (c0 c1 c2 c3 : Value) (a b t z k mo ms : Int) (mc : Bool) (c12 c13 c14 c15 c16 c17 : Value), v = askV c0 c1 c2 c3 a b t z k mo ms mc c12 c13 c14 c15 c16 c17 := by
  have k18 : Tryz.prog.cellsOf 53 = 18 := by kernel_rfl
  have k5 : Tryz.prog.cellsOf 48 = 5 := by kernel_rfl
  have k3 : Tryz.prog.cellsOf 46 = 3 := by kernel_rfl
  have k3' : Tryz.prog.cellsOf 50 = 3 := by kernel_rfl
  have k1 : Tryz.prog.cellsOf 3 = 1 := by kernel_rfl
  have kb : Tryz.prog.cellsOf 4 = 1 := by kernel_rfl
  obtain ⟨cs, rfl, hsz⟩ := okWide_struct Tryz.underlying53 hv
  obtain ⟨c0, c1, c2, c3, c4, c5, c6, c7, c8, c9, c10, c11, c12, c13, c14, c15, c16, c17, rfl⟩ := eighteen (hsz.trans k18)
  obtain ⟨fuel, hf⟩ := h
  obtain ⟨xs, n, -, -, -, hlen, hF⟩ := DataW.trod_struct Tryz.underlying53 hf
  have h9 : xs.length = 9 := hlen
  have g2 := hF 2 _ rfl
  have g3 := hF 3 _ rfl
  rw [List.getElem?_eq_getElem (by omega)] at g2 g3
  simp only [k5, k3', Value.cells, List.drop_zero, List.drop_succ_cons, List.take_succ_cons, List.take_zero] at g2 g3
  obtain ⟨z0, z1, z2, m2, -, -, x0, x1, x2⟩ := Go.Deep.trod_struct3 Tryz.underlying48 g2
  obtain ⟨y0, y1, y2, m3, -, -, u0, u1, u2⟩ := Go.Deep.trod_struct3 Tryz.underlying50 g3
  simp only [k1, k3, kb, List.drop_zero, List.drop_succ_cons, List.take_succ_cons, List.take_zero] at x0 x1 x2 u0 u1 u2
  obtain ⟨s0, s1, s2, m4, -, -, r0, r1, r2⟩ := Go.Deep.trod_struct3 Tryz.underlying46 x0
  simp only [k1, List.drop_zero, List.drop_succ_cons, List.take_succ_cons, List.take_zero] at r0 r1 r2
  obtain ⟨n0, e0, -, -⟩ := DataW.trod_int Tryz.underlying3 r0
  obtain ⟨n1, e1, -, -⟩ := DataW.trod_int Tryz.underlying3 r1
  obtain ⟨n2, e2, -, -⟩ := DataW.trod_int Tryz.underlying3 r2
  obtain ⟨n3, e3, -, -⟩ := DataW.trod_int Tryz.underlying3 x1
  obtain ⟨n4, e4, -, -⟩ := DataW.trod_int Tryz.underlying3 x2
  obtain ⟨n5, e5, -, -⟩ := DataW.trod_int Tryz.underlying3 u0
  obtain ⟨n6, e6, -, -⟩ := DataW.trod_int Tryz.underlying3 u1
  obtain ⟨n7, e7, -⟩ := DataW.trod_bool Tryz.underlying4 u2
  cases e0
  cases e1
  cases e2
  cases e3
  cases e4
  cases e5
  cases e6
  cases e7
  exact ⟨c0, c1, c2, c3, n0, n1, n2, n3, n4, n5, n6, n7, c12, c13, c14, c15, c16, c17, rfl⟩
theorem gp0 (x0 x1 x2 x3 x4 : Value) (w : World) : (part 46 #[x0, x1, x2, x3, x4] 0).run Tryz.prog w = .ok (.agg #[x0, x1, x2]) w := by kernel_rfl
theorem gp3 (x0 x1 x2 x3 x4 : Value) (w : World) : (part 3 #[x0, x1, x2, x3, x4] 3).run Tryz.prog w = .ok x3 w := by kernel_rfl
theorem gp4 (x0 x1 x2 x3 x4 : Value) (w : World) : (part 3 #[x0, x1, x2, x3, x4] 4).run Tryz.prog w = .ok x4 w := by kernel_rfl
set_option maxRecDepth 100000 in
theorem eqGrain (a b c d f : Int) (w : World) : (binOp .eql 48 (.agg #[.int .i64 a, .int .i64 b, .int .i64 c, .int .i64 d, .int .i64 f]) (.agg #[.int .i64 a, .int .i64 b, .int .i64 c, .int .i64 d, .int .i64 f])).run Tryz.prog w = .ok (.bool true) w := by
  have ht : Tryz.prog.underlying 48 = some (.struct (Tryz.prog.fieldsOf 48)) := by kernel_rfl
  have hp : Tryz.prog.stoodInHeld 48 = false := by kernel_rfl
  have hf : (Tryz.prog.fieldsOf 48).toList = [{ name := "At", type := 46, offset := 0, embedded := false, tag := "", pkgPath := "", byteOffset := 0 }, { name := "Size", type := 3, offset := 3, embedded := false, tag := "", pkgPath := "", byteOffset := 24 }, { name := "Cuts", type := 3, offset := 4, embedded := false, tag := "", pkgPath := "", byteOffset := 32 }] := by kernel_rfl
  have ht2 : Tryz.prog.underlying 46 = some (.struct (Tryz.prog.fieldsOf 46)) := by kernel_rfl
  have hp2 : Tryz.prog.stoodInHeld 46 = false := by kernel_rfl
  have hf2 : (Tryz.prog.fieldsOf 46).toList = [{ name := "Ring", type := 3, offset := 0, embedded := false, tag := "", pkgPath := "", byteOffset := 0 }, { name := "Sector", type := 3, offset := 1, embedded := false, tag := "", pkgPath := "", byteOffset := 8 }, { name := "Turn", type := 3, offset := 2, embedded := false, tag := "", pkgPath := "", byteOffset := 16 }] := by kernel_rfl
  have e1 := fun (x y : Int) => run_equalIn_int (P := Tryz.prog) (w := w) 9998 3 .i64 .i64 x y Tryz.underlying3
  have e2 := fun (x y : Int) => run_equalIn_int (P := Tryz.prog) (w := w) 9997 3 .i64 .i64 x y Tryz.underlying3
  have eS : (Op.equalIn 9999 46 (.agg #[.int .i64 a, .int .i64 b, .int .i64 c]) (.agg #[.int .i64 a, .int .i64 b, .int .i64 c])).run Tryz.prog w = .ok true w := by
    rw [run_equalIn_struct w 9998 _ _ _ ht2 hp2, hf2]
    simp [Op.eqFields, Sem.run_bind, mp0, mp1, mp2, e2]
  rw [run_eql_struct, run_equalIn_struct w 9999 _ _ _ ht hp, hf]
  simp [Op.eqFields, Sem.run_bind, gp0, gp3, gp4, e1, eS]
end Go.Proofs.YtikfiallhmhicaaGreat

/- Layer 9: notes and acts, as they came in. -/
import Derived.Test.YtcichnapgdkbhaaGreatU9
set_option linter.all false
namespace Go.Proofs.YtcichnapgdkbhaaGreat
open Go.ChangeShapes Go.WideShapes Go.ChangeAt Go.RowKit

set_option maxRecDepth 100000 in
theorem okw_int {W : World} {r : Reach} {base : Nat} {u : TypeId} {k : IntKind} {x : Value} (hu : Tryz.prog.underlying u = some (.int k)) (h : Cell.okWide Tryz.prog W r base u x) : Value.okWide Tryz.prog W r base u x := by
  unfold Value.okWide; split
  · rename_i h1; rw [hu] at h1; cases h1
  · rename_i h1; rw [hu] at h1; cases h1
  · exact h
set_option maxRecDepth 100000 in
theorem okw_slice {W : World} {r : Reach} {base : Nat} {u e : TypeId} {x : Value} (hu : Tryz.prog.underlying u = some (.slice e)) (h : Cell.okWide Tryz.prog W r base u x) : Value.okWide Tryz.prog W r base u x := by
  unfold Value.okWide; split
  · rename_i h1; rw [hu] at h1; cases h1
  · rename_i h1; rw [hu] at h1; cases h1
  · exact h
theorem sz_note {cs : Array Value} (h : cs.size = 19) : ∃ c0 c1 c2 c3 c4 c5 c6 c7 c8 c9 c10 c11 c12 c13 c14 c15 c16 c17 c18, cs = #[c0, c1, c2, c3, c4, c5, c6, c7, c8, c9, c10, c11, c12, c13, c14, c15, c16, c17, c18] := by
  obtain ⟨l⟩ := cs
  match l, h with
  | [c0, c1, c2, c3, c4, c5, c6, c7, c8, c9, c10, c11, c12, c13, c14, c15, c16, c17, c18], _ => exact ⟨c0, c1, c2, c3, c4, c5, c6, c7, c8, c9, c10, c11, c12, c13, c14, c15, c16, c17, c18, rfl⟩
set_option maxRecDepth 100000 in
theorem open_note {W : World} {base : Nat} {v : Value} (hv : Value.okWide Tryz.prog W .any base 29 v) : ∃ (n0 n1 n2 n3 n4 n5 n6 n7 n8 n9 n10 n11 n12 n13 n14 n16 n17 n18 : Int) (A : Option Addr) (l c : Nat), v = .agg #[.int .i64 n0, .int .i64 n1, .int .i64 n2, .int .i64 n3, .int .i64 n4, .int .i64 n5, .int .i64 n6, .int .i64 n7, .int .i64 n8, .int .i64 n9, .int .i64 n10, .int .i64 n11, .int .i64 n12, .int .i64 n13, .int .i64 n14, .slice A l c, .int .i64 n16, .int .i64 n17, .int .i64 n18] := by
  have hk : Tryz.prog.cellTypes Tryz.prog.depth 29 = some [3, 3, 3, 3, 3, 3, 3, 3, 3, 3, 3, 3, 3, 3, 3, 25, 3, 3, 3] := by kernel_rfl
  have hn : Tryz.prog.cellsOf 29 = 19 := by kernel_rfl
  unfold Value.okWide at hv
  rw [Tryz.underlying29] at hv
  obtain ⟨cs, rfl, hsz, ts, ht, -, hc⟩ := hv
  rw [hk] at ht
  cases ht
  obtain ⟨c0, c1, c2, c3, c4, c5, c6, c7, c8, c9, c10, c11, c12, c13, c14, c15, c16, c17, c18, rfl⟩ := sz_note (hsz.trans hn)
  obtain ⟨u0, e0, h0⟩ := hc 0 c0 rfl
  cases e0
  obtain ⟨n0, rfl⟩ := okWide_int (v := c0) (base := base) Tryz.underlying3 (okw_int Tryz.underlying3 h0)
  obtain ⟨u1, e1, h1⟩ := hc 1 c1 rfl
  cases e1
  obtain ⟨n1, rfl⟩ := okWide_int (v := c1) (base := base) Tryz.underlying3 (okw_int Tryz.underlying3 h1)
  obtain ⟨u2, e2, h2⟩ := hc 2 c2 rfl
  cases e2
  obtain ⟨n2, rfl⟩ := okWide_int (v := c2) (base := base) Tryz.underlying3 (okw_int Tryz.underlying3 h2)
  obtain ⟨u3, e3, h3⟩ := hc 3 c3 rfl
  cases e3
  obtain ⟨n3, rfl⟩ := okWide_int (v := c3) (base := base) Tryz.underlying3 (okw_int Tryz.underlying3 h3)
  obtain ⟨u4, e4, h4⟩ := hc 4 c4 rfl
  cases e4
  obtain ⟨n4, rfl⟩ := okWide_int (v := c4) (base := base) Tryz.underlying3 (okw_int Tryz.underlying3 h4)
  obtain ⟨u5, e5, h5⟩ := hc 5 c5 rfl
  cases e5
  obtain ⟨n5, rfl⟩ := okWide_int (v := c5) (base := base) Tryz.underlying3 (okw_int Tryz.underlying3 h5)
  obtain ⟨u6, e6, h6⟩ := hc 6 c6 rfl
  cases e6
  obtain ⟨n6, rfl⟩ := okWide_int (v := c6) (base := base) Tryz.underlying3 (okw_int Tryz.underlying3 h6)
  obtain ⟨u7, e7, h7⟩ := hc 7 c7 rfl
  cases e7
  obtain ⟨n7, rfl⟩ := okWide_int (v := c7) (base := base) Tryz.underlying3 (okw_int Tryz.underlying3 h7)
  obtain ⟨u8, e8, h8⟩ := hc 8 c8 rfl
  cases e8
  obtain ⟨n8, rfl⟩ := okWide_int (v := c8) (base := base) Tryz.underlying3 (okw_int Tryz.underlying3 h8)
  obtain ⟨u9, e9, h9⟩ := hc 9 c9 rfl
  cases e9
  obtain ⟨n9, rfl⟩ := okWide_int (v := c9) (base := base) Tryz.underlying3 (okw_int Tryz.underlying3 h9)
  obtain ⟨u10, e10, h10⟩ := hc 10 c10 rfl
  cases e10
  obtain ⟨n10, rfl⟩ := okWide_int (v := c10) (base := base) Tryz.underlying3 (okw_int Tryz.underlying3 h10)
  obtain ⟨u11, e11, h11⟩ := hc 11 c11 rfl
  cases e11
  obtain ⟨n11, rfl⟩ := okWide_int (v := c11) (base := base) Tryz.underlying3 (okw_int Tryz.underlying3 h11)
  obtain ⟨u12, e12, h12⟩ := hc 12 c12 rfl
  cases e12
  obtain ⟨n12, rfl⟩ := okWide_int (v := c12) (base := base) Tryz.underlying3 (okw_int Tryz.underlying3 h12)
  obtain ⟨u13, e13, h13⟩ := hc 13 c13 rfl
  cases e13
  obtain ⟨n13, rfl⟩ := okWide_int (v := c13) (base := base) Tryz.underlying3 (okw_int Tryz.underlying3 h13)
  obtain ⟨u14, e14, h14⟩ := hc 14 c14 rfl
  cases e14
  obtain ⟨n14, rfl⟩ := okWide_int (v := c14) (base := base) Tryz.underlying3 (okw_int Tryz.underlying3 h14)
  obtain ⟨u15, e15, h15⟩ := hc 15 c15 rfl
  cases e15
  obtain ⟨A, l, c, rfl⟩ := okWide_slice (v := c15) (base := base) Tryz.underlying25 (okw_slice Tryz.underlying25 h15)
  obtain ⟨u16, e16, h16⟩ := hc 16 c16 rfl
  cases e16
  obtain ⟨n16, rfl⟩ := okWide_int (v := c16) (base := base) Tryz.underlying3 (okw_int Tryz.underlying3 h16)
  obtain ⟨u17, e17, h17⟩ := hc 17 c17 rfl
  cases e17
  obtain ⟨n17, rfl⟩ := okWide_int (v := c17) (base := base) Tryz.underlying3 (okw_int Tryz.underlying3 h17)
  obtain ⟨u18, e18, h18⟩ := hc 18 c18 rfl
  cases e18
  obtain ⟨n18, rfl⟩ := okWide_int (v := c18) (base := base) Tryz.underlying3 (okw_int Tryz.underlying3 h18)
  exact ⟨n0, n1, n2, n3, n4, n5, n6, n7, n8, n9, n10, n11, n12, n13, n14, n16, n17, n18, A, l, c, rfl⟩
theorem sz_act {cs : Array Value} (h : cs.size = 25) : ∃ c0 c1 c2 c3 c4 c5 c6 c7 c8 c9 c10 c11 c12 c13 c14 c15 c16 c17 c18 c19 c20 c21 c22 c23 c24, cs = #[c0, c1, c2, c3, c4, c5, c6, c7, c8, c9, c10, c11, c12, c13, c14, c15, c16, c17, c18, c19, c20, c21, c22, c23, c24] := by
  obtain ⟨l⟩ := cs
  match l, h with
  | [c0, c1, c2, c3, c4, c5, c6, c7, c8, c9, c10, c11, c12, c13, c14, c15, c16, c17, c18, c19, c20, c21, c22, c23, c24], _ => exact ⟨c0, c1, c2, c3, c4, c5, c6, c7, c8, c9, c10, c11, c12, c13, c14, c15, c16, c17, c18, c19, c20, c21, c22, c23, c24, rfl⟩
set_option maxRecDepth 100000 in
theorem open_act {W : World} {base : Nat} {v : Value} (hv : Value.okWide Tryz.prog W .any base 31 v) : ∃ (n0 n1 n2 n3 n4 n5 n6 n7 n8 n9 n10 n11 n12 n13 n14 n15 n16 n17 n18 n20 n21 n22 n23 n24 : Int) (A : Option Addr) (l c : Nat), v = .agg #[.int .i64 n0, .int .i64 n1, .int .i64 n2, .int .i64 n3, .int .i64 n4, .int .i64 n5, .int .i64 n6, .int .i64 n7, .int .i64 n8, .int .i64 n9, .int .i64 n10, .int .i64 n11, .int .i64 n12, .int .i64 n13, .int .i64 n14, .int .i64 n15, .int .i64 n16, .int .i64 n17, .int .i64 n18, .slice A l c, .int .i64 n20, .int .i64 n21, .int .i64 n22, .int .i64 n23, .int .i64 n24] := by
  have hk : Tryz.prog.cellTypes Tryz.prog.depth 31 = some [3, 3, 3, 3, 3, 3, 3, 3, 3, 3, 3, 3, 3, 3, 3, 3, 3, 3, 3, 25, 3, 3, 3, 3, 3] := by kernel_rfl
  have hn : Tryz.prog.cellsOf 31 = 25 := by kernel_rfl
  unfold Value.okWide at hv
  rw [Tryz.underlying31] at hv
  obtain ⟨cs, rfl, hsz, ts, ht, -, hc⟩ := hv
  rw [hk] at ht
  cases ht
  obtain ⟨c0, c1, c2, c3, c4, c5, c6, c7, c8, c9, c10, c11, c12, c13, c14, c15, c16, c17, c18, c19, c20, c21, c22, c23, c24, rfl⟩ := sz_act (hsz.trans hn)
  obtain ⟨u0, e0, h0⟩ := hc 0 c0 rfl
  cases e0
  obtain ⟨n0, rfl⟩ := okWide_int (v := c0) (base := base) Tryz.underlying3 (okw_int Tryz.underlying3 h0)
  obtain ⟨u1, e1, h1⟩ := hc 1 c1 rfl
  cases e1
  obtain ⟨n1, rfl⟩ := okWide_int (v := c1) (base := base) Tryz.underlying3 (okw_int Tryz.underlying3 h1)
  obtain ⟨u2, e2, h2⟩ := hc 2 c2 rfl
  cases e2
  obtain ⟨n2, rfl⟩ := okWide_int (v := c2) (base := base) Tryz.underlying3 (okw_int Tryz.underlying3 h2)
  obtain ⟨u3, e3, h3⟩ := hc 3 c3 rfl
  cases e3
  obtain ⟨n3, rfl⟩ := okWide_int (v := c3) (base := base) Tryz.underlying3 (okw_int Tryz.underlying3 h3)
  obtain ⟨u4, e4, h4⟩ := hc 4 c4 rfl
  cases e4
  obtain ⟨n4, rfl⟩ := okWide_int (v := c4) (base := base) Tryz.underlying3 (okw_int Tryz.underlying3 h4)
  obtain ⟨u5, e5, h5⟩ := hc 5 c5 rfl
  cases e5
  obtain ⟨n5, rfl⟩ := okWide_int (v := c5) (base := base) Tryz.underlying3 (okw_int Tryz.underlying3 h5)
  obtain ⟨u6, e6, h6⟩ := hc 6 c6 rfl
  cases e6
  obtain ⟨n6, rfl⟩ := okWide_int (v := c6) (base := base) Tryz.underlying3 (okw_int Tryz.underlying3 h6)
  obtain ⟨u7, e7, h7⟩ := hc 7 c7 rfl
  cases e7
  obtain ⟨n7, rfl⟩ := okWide_int (v := c7) (base := base) Tryz.underlying3 (okw_int Tryz.underlying3 h7)
  obtain ⟨u8, e8, h8⟩ := hc 8 c8 rfl
  cases e8
  obtain ⟨n8, rfl⟩ := okWide_int (v := c8) (base := base) Tryz.underlying3 (okw_int Tryz.underlying3 h8)
  obtain ⟨u9, e9, h9⟩ := hc 9 c9 rfl
  cases e9
  obtain ⟨n9, rfl⟩ := okWide_int (v := c9) (base := base) Tryz.underlying3 (okw_int Tryz.underlying3 h9)
  obtain ⟨u10, e10, h10⟩ := hc 10 c10 rfl
  cases e10
  obtain ⟨n10, rfl⟩ := okWide_int (v := c10) (base := base) Tryz.underlying3 (okw_int Tryz.underlying3 h10)
  obtain ⟨u11, e11, h11⟩ := hc 11 c11 rfl
  cases e11
  obtain ⟨n11, rfl⟩ := okWide_int (v := c11) (base := base) Tryz.underlying3 (okw_int Tryz.underlying3 h11)
  obtain ⟨u12, e12, h12⟩ := hc 12 c12 rfl
  cases e12
  obtain ⟨n12, rfl⟩ := okWide_int (v := c12) (base := base) Tryz.underlying3 (okw_int Tryz.underlying3 h12)
  obtain ⟨u13, e13, h13⟩ := hc 13 c13 rfl
  cases e13
  obtain ⟨n13, rfl⟩ := okWide_int (v := c13) (base := base) Tryz.underlying3 (okw_int Tryz.underlying3 h13)
  obtain ⟨u14, e14, h14⟩ := hc 14 c14 rfl
  cases e14
  obtain ⟨n14, rfl⟩ := okWide_int (v := c14) (base := base) Tryz.underlying3 (okw_int Tryz.underlying3 h14)
  obtain ⟨u15, e15, h15⟩ := hc 15 c15 rfl
  cases e15
  obtain ⟨n15, rfl⟩ := okWide_int (v := c15) (base := base) Tryz.underlying3 (okw_int Tryz.underlying3 h15)
  obtain ⟨u16, e16, h16⟩ := hc 16 c16 rfl
  cases e16
  obtain ⟨n16, rfl⟩ := okWide_int (v := c16) (base := base) Tryz.underlying3 (okw_int Tryz.underlying3 h16)
  obtain ⟨u17, e17, h17⟩ := hc 17 c17 rfl
  cases e17
  obtain ⟨n17, rfl⟩ := okWide_int (v := c17) (base := base) Tryz.underlying3 (okw_int Tryz.underlying3 h17)
  obtain ⟨u18, e18, h18⟩ := hc 18 c18 rfl
  cases e18
  obtain ⟨n18, rfl⟩ := okWide_int (v := c18) (base := base) Tryz.underlying3 (okw_int Tryz.underlying3 h18)
  obtain ⟨u19, e19, h19⟩ := hc 19 c19 rfl
  cases e19
  obtain ⟨A, l, c, rfl⟩ := okWide_slice (v := c19) (base := base) Tryz.underlying25 (okw_slice Tryz.underlying25 h19)
  obtain ⟨u20, e20, h20⟩ := hc 20 c20 rfl
  cases e20
  obtain ⟨n20, rfl⟩ := okWide_int (v := c20) (base := base) Tryz.underlying3 (okw_int Tryz.underlying3 h20)
  obtain ⟨u21, e21, h21⟩ := hc 21 c21 rfl
  cases e21
  obtain ⟨n21, rfl⟩ := okWide_int (v := c21) (base := base) Tryz.underlying3 (okw_int Tryz.underlying3 h21)
  obtain ⟨u22, e22, h22⟩ := hc 22 c22 rfl
  cases e22
  obtain ⟨n22, rfl⟩ := okWide_int (v := c22) (base := base) Tryz.underlying3 (okw_int Tryz.underlying3 h22)
  obtain ⟨u23, e23, h23⟩ := hc 23 c23 rfl
  cases e23
  obtain ⟨n23, rfl⟩ := okWide_int (v := c23) (base := base) Tryz.underlying3 (okw_int Tryz.underlying3 h23)
  obtain ⟨u24, e24, h24⟩ := hc 24 c24 rfl
  cases e24
  obtain ⟨n24, rfl⟩ := okWide_int (v := c24) (base := base) Tryz.underlying3 (okw_int Tryz.underlying3 h24)
  exact ⟨n0, n1, n2, n3, n4, n5, n6, n7, n8, n9, n10, n11, n12, n13, n14, n15, n16, n17, n18, n20, n21, n22, n23, n24, A, l, c, rfl⟩
end Go.Proofs.YtcichnapgdkbhaaGreat

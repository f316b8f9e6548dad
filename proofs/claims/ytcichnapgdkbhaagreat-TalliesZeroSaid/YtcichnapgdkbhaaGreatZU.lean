/- TalliesZero: the law. -/
import Derived.Test.YtcichnapgdkbhaaGreatZR
import Derived.Test.YtcichnapgdkbhaaGreatZS
import Derived.Test.YtcichnapgdkbhaaGreatZT
import Derived.Deep.MidRow
set_option linter.all false
namespace Go.Proofs.YtcichnapgdkbhaaGreat
open Go.RowKit

section
variable {P : Program}
theorem wpList_load_midG {ops : Array Oper} {rest : List Oper} {o : Oper} {a : Act} {w : World} {Q : Exit → Act → World → Prop} (hw : Region.wanted o (yielded ops a.tmps) = true) (ty : TypeId) (x : Operand) (ho : o.op = .load ty x)
    (b q : Nat) (hx : a.eval x = .pointer (some ⟨b, q, none⟩)) (cs : List Value) (d : TypeDesc) (hc : w.rangeAt b q cs)
    (hu : P.underlying ty = some d) (hd : d.isRow = true) (hi : (P.info? ty).map (·.size) = some cs.length)
    (h : wpList P ops Q rest (a.put o.dst (.agg cs.toArray)) w) : wpList P ops Q (o :: rest) a w :=
  wpList_step fun K hK => by rw [if_pos hw]; exact wp_load_mid ty x ho b q hx cs d hc hu hd hi (hK _ _ h)
end
def IsNoteV (v : Value) : Prop := ∃ (n0 n1 n2 n3 n4 n5 n6 n7 n8 n9 n10 n11 n12 n13 n14 n16 n17 n18 : Int) (A : Option Addr) (l c : Nat), v = .agg #[.int .i64 n0, .int .i64 n1, .int .i64 n2, .int .i64 n3, .int .i64 n4, .int .i64 n5, .int .i64 n6, .int .i64 n7, .int .i64 n8, .int .i64 n9, .int .i64 n10, .int .i64 n11, .int .i64 n12, .int .i64 n13, .int .i64 n14, .slice A l c, .int .i64 n16, .int .i64 n17, .int .i64 n18]
def IsActV (v : Value) : Prop := ∃ (a0 a1 a2 a3 a4 a5 a6 a7 a8 a9 a10 a11 a12 a13 a14 a15 a16 a17 a18 a20 a21 a22 a23 a24 : Int) (A2 : Option Addr) (l2 c2 : Nat), v = .agg #[.int .i64 a0, .int .i64 a1, .int .i64 a2, .int .i64 a3, .int .i64 a4, .int .i64 a5, .int .i64 a6, .int .i64 a7, .int .i64 a8, .int .i64 a9, .int .i64 a10, .int .i64 a11, .int .i64 a12, .int .i64 a13, .int .i64 a14, .int .i64 a15, .int .i64 a16, .int .i64 a17, .int .i64 a18, .slice A2 l2 c2, .int .i64 a20, .int .i64 a21, .int .i64 a22, .int .i64 a23, .int .i64 a24]

set_option maxRecDepth 100000 in
set_option maxHeartbeats 8000000 in
theorem TalliesZero_c (x : List Int) (i : Int) (u vN vT : Value) (w : World) (hx : Bys w w.heap.size u x) (hN : IsNoteV vN) (hT : IsActV vT) :
    Calls Tryz.prog 3 #[u, vN, vT, .int .i64 i] w fun e w' => e = .returned (.bool true) ∧ Below w.heap.size w w' := by
  obtain ⟨n0, n1, n2, n3, n4, n5, n6, n7, n8, n9, n10, n11, n12, n13, n14, n16, n17, n18, A, l, c, rfl⟩ := hN
  obtain ⟨a0, a1, a2, a3, a4, a5, a6, a7, a8, a9, a10, a11, a12, a13, a14, a15, a16, a17, a18, a20, a21, a22, a23, a24, A2, l2, c2, rfl⟩ := hT
  have b0 : Below w.heap.size w ((w.alloc (.cells #[.int .i64 n0, .int .i64 n1, .int .i64 n2, .int .i64 n3, .int .i64 n4, .int .i64 n5, .int .i64 n6, .int .i64 n7, .int .i64 n8, .int .i64 n9, .int .i64 n10, .int .i64 n11, .int .i64 n12, .int .i64 n13, .int .i64 n14, .slice A l c, .int .i64 n16, .int .i64 n17, .int .i64 n18] 29)).alloc (.cells #[.int .i64 a0, .int .i64 a1, .int .i64 a2, .int .i64 a3, .int .i64 a4, .int .i64 a5, .int .i64 a6, .int .i64 a7, .int .i64 a8, .int .i64 a9, .int .i64 a10, .int .i64 a11, .int .i64 a12, .int .i64 a13, .int .i64 a14, .int .i64 a15, .int .i64 a16, .int .i64 a17, .int .i64 a18, .slice A2 l2 c2, .int .i64 a20, .int .i64 a21, .int .i64 a22, .int .i64 a23, .int .i64 a24] 31)) := ((Below.refl _ _).alloc (Nat.le_refl _) _).alloc (by rw [World.size_alloc]; omega) _
  have X0 := Lib.hid (show Box ((w.alloc (.cells #[.int .i64 n0, .int .i64 n1, .int .i64 n2, .int .i64 n3, .int .i64 n4, .int .i64 n5, .int .i64 n6, .int .i64 n7, .int .i64 n8, .int .i64 n9, .int .i64 n10, .int .i64 n11, .int .i64 n12, .int .i64 n13, .int .i64 n14, .slice A l c, .int .i64 n16, .int .i64 n17, .int .i64 n18] 29)).alloc (.cells #[.int .i64 a0, .int .i64 a1, .int .i64 a2, .int .i64 a3, .int .i64 a4, .int .i64 a5, .int .i64 a6, .int .i64 a7, .int .i64 a8, .int .i64 a9, .int .i64 a10, .int .i64 a11, .int .i64 a12, .int .i64 a13, .int .i64 a14, .int .i64 a15, .int .i64 a16, .int .i64 a17, .int .i64 a18, .slice A2 l2 c2, .int .i64 a20, .int .i64 a21, .int .i64 a22, .int .i64 a23, .int .i64 a24] 31)) w.heap.size 29 #[.int .i64 n0, .int .i64 n1, .int .i64 n2, .int .i64 n3, .int .i64 n4, .int .i64 n5, .int .i64 n6, .int .i64 n7, .int .i64 n8, .int .i64 n9, .int .i64 n10, .int .i64 n11, .int .i64 n12, .int .i64 n13, .int .i64 n14, .slice A l c, .int .i64 n16, .int .i64 n17, .int .i64 n18] from (Box.made w 29 #[.int .i64 n0, .int .i64 n1, .int .i64 n2, .int .i64 n3, .int .i64 n4, .int .i64 n5, .int .i64 n6, .int .i64 n7, .int .i64 n8, .int .i64 n9, .int .i64 n10, .int .i64 n11, .int .i64 n12, .int .i64 n13, .int .i64 n14, .slice A l c, .int .i64 n16, .int .i64 n17, .int .i64 n18]).alloc _)
  have Y0 := Lib.hid (show Box ((w.alloc (.cells #[.int .i64 n0, .int .i64 n1, .int .i64 n2, .int .i64 n3, .int .i64 n4, .int .i64 n5, .int .i64 n6, .int .i64 n7, .int .i64 n8, .int .i64 n9, .int .i64 n10, .int .i64 n11, .int .i64 n12, .int .i64 n13, .int .i64 n14, .slice A l c, .int .i64 n16, .int .i64 n17, .int .i64 n18] 29)).alloc (.cells #[.int .i64 a0, .int .i64 a1, .int .i64 a2, .int .i64 a3, .int .i64 a4, .int .i64 a5, .int .i64 a6, .int .i64 a7, .int .i64 a8, .int .i64 a9, .int .i64 a10, .int .i64 a11, .int .i64 a12, .int .i64 a13, .int .i64 a14, .int .i64 a15, .int .i64 a16, .int .i64 a17, .int .i64 a18, .slice A2 l2 c2, .int .i64 a20, .int .i64 a21, .int .i64 a22, .int .i64 a23, .int .i64 a24] 31)) (w.heap.size + 1) 31 #[.int .i64 a0, .int .i64 a1, .int .i64 a2, .int .i64 a3, .int .i64 a4, .int .i64 a5, .int .i64 a6, .int .i64 a7, .int .i64 a8, .int .i64 a9, .int .i64 a10, .int .i64 a11, .int .i64 a12, .int .i64 a13, .int .i64 a14, .int .i64 a15, .int .i64 a16, .int .i64 a17, .int .i64 a18, .slice A2 l2 c2, .int .i64 a20, .int .i64 a21, .int .i64 a22, .int .i64 a23, .int .i64 a24] by have hb := Box.made (w.alloc (.cells #[.int .i64 n0, .int .i64 n1, .int .i64 n2, .int .i64 n3, .int .i64 n4, .int .i64 n5, .int .i64 n6, .int .i64 n7, .int .i64 n8, .int .i64 n9, .int .i64 n10, .int .i64 n11, .int .i64 n12, .int .i64 n13, .int .i64 n14, .slice A l c, .int .i64 n16, .int .i64 n17, .int .i64 n18] 29)) 31 #[.int .i64 a0, .int .i64 a1, .int .i64 a2, .int .i64 a3, .int .i64 a4, .int .i64 a5, .int .i64 a6, .int .i64 a7, .int .i64 a8, .int .i64 a9, .int .i64 a10, .int .i64 a11, .int .i64 a12, .int .i64 a13, .int .i64 a14, .int .i64 a15, .int .i64 a16, .int .i64 a17, .int .i64 a18, .slice A2 l2 c2, .int .i64 a20, .int .i64 a21, .int .i64 a22, .int .i64 a23, .int .i64 a24]; rw [World.size_alloc] at hb; exact hb)
  have B0 := Lib.hid b0
  have HX := Lib.hid hx
  obtain ⟨M, mc, rfl, -⟩ := hx.shape
  obtain ⟨m, hm⟩ : ∃ z, x.length = z := ⟨_, rfl⟩
  have HM := Lib.hid hm
  rw [hm] at HX ⊢
  clear b0 hx hm
  go_enter Tryz.func3, Tryz.ntmps3
  go_wp2_with fail
  refine (awake_c _).mono ?_; rintro e w1 ⟨rfl, hb1⟩
  have X1 := Lib.hid (X0.out.later hb1)
  have Y1 := Lib.hid (Y0.out.later hb1)
  have B1 := Lib.hid (B0.out.trans (hb1.mono B0.out.size))
  clear hb1 X0 Y0 B0
  by_cases hm8 : 8192 < m
  · have hd : decide ((8192 : Int) < (m : Int)) = true := decide_eq_true (by omega)
    clear hm8
    go_wp2_with fail
    go_ret
    exact ⟨rfl, B1.out⟩
  have hd : decide ((8192 : Int) < (m : Int)) = false := decide_eq_false (by omega)
  have HM8 := Lib.hid (show x.length ≤ 8192 by have := HM.out; omega)
  clear hm8
  have hr : w1.rangeAt (w.heap.size + 1) 4 [.int .i64 a4, .int .i64 a5, .int .i64 a6, .int .i64 a7, .int .i64 a8, .int .i64 a9, .int .i64 a10, .int .i64 a11, .int .i64 a12, .int .i64 a13, .int .i64 a14, .int .i64 a15, .int .i64 a16, .int .i64 a17, .int .i64 a18, .slice A2 l2 c2, .int .i64 a20, .int .i64 a21, .int .i64 a22] := fun j v hj => by
    rw [Y1.out.cell]
    rw [← hj]
    match j, hj with
    | 0, _ | 1, _ | 2, _ | 3, _ | 4, _ | 5, _ | 6, _ | 7, _ | 8, _ | 9, _ | 10, _ | 11, _ | 12, _ | 13, _ | 14, _ | 15, _ | 16, _ | 17, _ | 18, _ => rfl
    | k + 19, hj => simp at hj
  have HR := Lib.hid hr
  clear hr
  go_wp2_with (first
    | refine wpList_load_rowG rfl 29 (.tmp 5) rfl w.heap.size rfl 29 #[.int .i64 n0, .int .i64 n1, .int .i64 n2, .int .i64 n3, .int .i64 n4, .int .i64 n5, .int .i64 n6, .int .i64 n7, .int .i64 n8, .int .i64 n9, .int .i64 n10, .int .i64 n11, .int .i64 n12, .int .i64 n13, .int .i64 n14, .slice A l c, .int .i64 n16, .int .i64 n17, .int .i64 n18] (0, 0) _ X1.out Tryz.underlying29 rfl (by kernel_rfl) ?_
    | refine wpList_load_midG rfl 29 (.tmp 18) rfl (w.heap.size + 1) 4 rfl [.int .i64 a4, .int .i64 a5, .int .i64 a6, .int .i64 a7, .int .i64 a8, .int .i64 a9, .int .i64 a10, .int .i64 a11, .int .i64 a12, .int .i64 a13, .int .i64 a14, .int .i64 a15, .int .i64 a16, .int .i64 a17, .int .i64 a18, .slice A2 l2 c2, .int .i64 a20, .int .i64 a21, .int .i64 a22] _ HR.out Tryz.underlying29 rfl (by kernel_rfl) ?_)
  refine (light_c _ _ _ _ _ _ _ _ _ _ (Box.made _ _ _) rfl rfl).mono ?_; rintro e w2 ⟨⟨bb, rfl⟩, hb2⟩
  have hb12 : Below w1.heap.size w1 w2 := ((Below.refl w1.heap.size w1).alloc (Nat.le_refl _) _).trans (hb2.mono (by simp))
  have X2 := Lib.hid (X1.out.later hb12)
  have Y2 := Lib.hid (Y1.out.later hb12)
  have B2 := Lib.hid (B1.out.trans (hb12.mono B1.out.size))
  clear hb2 hb12 X1 Y1 B1 HR
  cases bb
  case false =>
    go_wp2_with fail
    go_ret
    exact ⟨rfl, B2.out⟩
  go_wp2_with fail
  refine (zeroSticks_c x _ _ (HX.out.later B2.out) HM8.out).mono ?_; rintro e w3 ⟨rfl, hb3⟩
  have X3 := Lib.hid (X2.out.later hb3)
  have Y3 := Lib.hid (Y2.out.later hb3)
  have B3 := Lib.hid (B2.out.trans (hb3.mono B2.out.size))
  clear hb3 X2 Y2 B2
  go_wp2_with (first
    | refine wpList_load_rowG rfl 29 (.tmp 5) rfl w.heap.size rfl 29 #[.int .i64 n0, .int .i64 n1, .int .i64 n2, .int .i64 n3, .int .i64 n4, .int .i64 n5, .int .i64 n6, .int .i64 n7, .int .i64 n8, .int .i64 n9, .int .i64 n10, .int .i64 n11, .int .i64 n12, .int .i64 n13, .int .i64 n14, .slice A l c, .int .i64 n16, .int .i64 n17, .int .i64 n18] (0, 0) _ X3.out Tryz.underlying29 rfl (by kernel_rfl) ?_
    | refine wpList_load_rowG rfl 31 (.tmp 6) rfl (w.heap.size + 1) rfl 31 #[.int .i64 a0, .int .i64 a1, .int .i64 a2, .int .i64 a3, .int .i64 a4, .int .i64 a5, .int .i64 a6, .int .i64 a7, .int .i64 a8, .int .i64 a9, .int .i64 a10, .int .i64 a11, .int .i64 a12, .int .i64 a13, .int .i64 a14, .int .i64 a15, .int .i64 a16, .int .i64 a17, .int .i64 a18, .slice A2 l2 c2, .int .i64 a20, .int .i64 a21, .int .i64 a22, .int .i64 a23, .int .i64 a24] (0, 0) _ Y3.out Tryz.underlying31 rfl (by kernel_rfl) ?_)
  refine (zeroHouse_c _ #[.int .i64 n0, .int .i64 n1, .int .i64 n2, .int .i64 n3, .int .i64 n4, .int .i64 n5, .int .i64 n6, .int .i64 n7, .int .i64 n8, .int .i64 n9, .int .i64 n10, .int .i64 n11, .int .i64 n12, .int .i64 n13, .int .i64 n14, .slice A l c, .int .i64 n16, .int .i64 n17, .int .i64 n18] #[.int .i64 a0, .int .i64 a1, .int .i64 a2, .int .i64 a3, .int .i64 a4, .int .i64 a5, .int .i64 a6, .int .i64 a7, .int .i64 a8, .int .i64 a9, .int .i64 a10, .int .i64 a11, .int .i64 a12, .int .i64 a13, .int .i64 a14, .int .i64 a15, .int .i64 a16, .int .i64 a17, .int .i64 a18, .slice A2 l2 c2, .int .i64 a20, .int .i64 a21, .int .i64 a22, .int .i64 a23, .int .i64 a24] _ _ _ _ (Or.inl rfl) rfl rfl rfl rfl).mono ?_; rintro e w4 ⟨rfl, hb4⟩
  have hb4 := hb4.trans (Below.mono (((Below.refl w4.heap.size w4).alloc (Nat.le_refl _) (.cells #[.int .i64 0, .int .i64 0, .int .i64 0, .int .i64 0, .map none, .slice none 0 0, .int .i64 0, .slice none 0 0, .int .i64 0] 50))) hb4.size)
  have X5 := Lib.hid (X3.out.later hb4)
  have Y5 := Lib.hid (Y3.out.later hb4)
  have B5 := Lib.hid (B3.out.trans (hb4.mono B3.out.size))
  clear hb4 X3 Y3 B3
  go_wp2_with (first
    | refine wpList_load_rowG rfl 29 (.tmp 5) rfl w.heap.size rfl 29 #[.int .i64 n0, .int .i64 n1, .int .i64 n2, .int .i64 n3, .int .i64 n4, .int .i64 n5, .int .i64 n6, .int .i64 n7, .int .i64 n8, .int .i64 n9, .int .i64 n10, .int .i64 n11, .int .i64 n12, .int .i64 n13, .int .i64 n14, .slice A l c, .int .i64 n16, .int .i64 n17, .int .i64 n18] (0, 0) _ X5.out Tryz.underlying29 rfl (by kernel_rfl) ?_
    | refine wpList_load_rowG rfl 31 (.tmp 6) rfl (w.heap.size + 1) rfl 31 #[.int .i64 a0, .int .i64 a1, .int .i64 a2, .int .i64 a3, .int .i64 a4, .int .i64 a5, .int .i64 a6, .int .i64 a7, .int .i64 a8, .int .i64 a9, .int .i64 a10, .int .i64 a11, .int .i64 a12, .int .i64 a13, .int .i64 a14, .int .i64 a15, .int .i64 a16, .int .i64 a17, .int .i64 a18, .slice A2 l2 c2, .int .i64 a20, .int .i64 a21, .int .i64 a22, .int .i64 a23, .int .i64 a24] (0, 0) _ Y5.out Tryz.underlying31 rfl (by kernel_rfl) ?_)
  refine (zeroHouse_c _ #[.int .i64 n0, .int .i64 n1, .int .i64 n2, .int .i64 n3, .int .i64 n4, .int .i64 n5, .int .i64 n6, .int .i64 n7, .int .i64 n8, .int .i64 n9, .int .i64 n10, .int .i64 n11, .int .i64 n12, .int .i64 n13, .int .i64 n14, .slice A l c, .int .i64 n16, .int .i64 n17, .int .i64 n18] #[.int .i64 a0, .int .i64 a1, .int .i64 a2, .int .i64 a3, .int .i64 a4, .int .i64 a5, .int .i64 a6, .int .i64 a7, .int .i64 a8, .int .i64 a9, .int .i64 a10, .int .i64 a11, .int .i64 a12, .int .i64 a13, .int .i64 a14, .int .i64 a15, .int .i64 a16, .int .i64 a17, .int .i64 a18, .slice A2 l2 c2, .int .i64 a20, .int .i64 a21, .int .i64 a22, .int .i64 a23, .int .i64 a24] _ _ _ _ (Or.inr ⟨w4.heap.size, rfl, (Box.made w4 50 #[.int .i64 0, .int .i64 0, .int .i64 0, .int .i64 0, .map none, .slice none 0 0, .int .i64 0, .slice none 0 0, .int .i64 0]).cell 4, by rw [World.size_alloc]; omega⟩) rfl rfl rfl rfl).mono ?_; rintro e w6 ⟨rfl, hb6⟩
  have X6 := Lib.hid (X5.out.later hb6)
  have Y6 := Lib.hid (Y5.out.later hb6)
  have B6 := Lib.hid (B5.out.trans (hb6.mono B5.out.size))
  clear hb6 X5 Y5 B5
  go_wp2_with (first
    | refine wpList_load_rowG rfl 29 (.tmp 5) rfl w.heap.size rfl 29 #[.int .i64 n0, .int .i64 n1, .int .i64 n2, .int .i64 n3, .int .i64 n4, .int .i64 n5, .int .i64 n6, .int .i64 n7, .int .i64 n8, .int .i64 n9, .int .i64 n10, .int .i64 n11, .int .i64 n12, .int .i64 n13, .int .i64 n14, .slice A l c, .int .i64 n16, .int .i64 n17, .int .i64 n18] (0, 0) _ X6.out Tryz.underlying29 rfl (by kernel_rfl) ?_
    | refine wpList_load_rowG rfl 31 (.tmp 6) rfl (w.heap.size + 1) rfl 31 #[.int .i64 a0, .int .i64 a1, .int .i64 a2, .int .i64 a3, .int .i64 a4, .int .i64 a5, .int .i64 a6, .int .i64 a7, .int .i64 a8, .int .i64 a9, .int .i64 a10, .int .i64 a11, .int .i64 a12, .int .i64 a13, .int .i64 a14, .int .i64 a15, .int .i64 a16, .int .i64 a17, .int .i64 a18, .slice A2 l2 c2, .int .i64 a20, .int .i64 a21, .int .i64 a22, .int .i64 a23, .int .i64 a24] (0, 0) _ Y6.out Tryz.underlying31 rfl (by kernel_rfl) ?_)
  refine (zeroWorld_c _ #[.int .i64 a0, .int .i64 a1, .int .i64 a2, .int .i64 a3, .int .i64 a4, .int .i64 a5, .int .i64 a6, .int .i64 a7, .int .i64 a8, .int .i64 a9, .int .i64 a10, .int .i64 a11, .int .i64 a12, .int .i64 a13, .int .i64 a14, .int .i64 a15, .int .i64 a16, .int .i64 a17, .int .i64 a18, .slice A2 l2 c2, .int .i64 a20, .int .i64 a21, .int .i64 a22, .int .i64 a23, .int .i64 a24] _ _ (Or.inl rfl) rfl).mono ?_; rintro e w7 ⟨rfl, hb7⟩
  have hb7 := hb7.trans (Below.mono (((Below.refl w7.heap.size w7).alloc (Nat.le_refl _) (.cells #[.int .i64 0, .int .i64 0, .int .i64 0, .slice none 0 0, .slice none 0 0] 55))) hb7.size)
  have X8 := Lib.hid (X6.out.later hb7)
  have Y8 := Lib.hid (Y6.out.later hb7)
  have B8 := Lib.hid (B6.out.trans (hb7.mono B6.out.size))
  clear hb7 X6 Y6 B6
  go_wp2_with (first
    | refine wpList_load_rowG rfl 29 (.tmp 5) rfl w.heap.size rfl 29 #[.int .i64 n0, .int .i64 n1, .int .i64 n2, .int .i64 n3, .int .i64 n4, .int .i64 n5, .int .i64 n6, .int .i64 n7, .int .i64 n8, .int .i64 n9, .int .i64 n10, .int .i64 n11, .int .i64 n12, .int .i64 n13, .int .i64 n14, .slice A l c, .int .i64 n16, .int .i64 n17, .int .i64 n18] (0, 0) _ X8.out Tryz.underlying29 rfl (by kernel_rfl) ?_
    | refine wpList_load_rowG rfl 31 (.tmp 6) rfl (w.heap.size + 1) rfl 31 #[.int .i64 a0, .int .i64 a1, .int .i64 a2, .int .i64 a3, .int .i64 a4, .int .i64 a5, .int .i64 a6, .int .i64 a7, .int .i64 a8, .int .i64 a9, .int .i64 a10, .int .i64 a11, .int .i64 a12, .int .i64 a13, .int .i64 a14, .int .i64 a15, .int .i64 a16, .int .i64 a17, .int .i64 a18, .slice A2 l2 c2, .int .i64 a20, .int .i64 a21, .int .i64 a22, .int .i64 a23, .int .i64 a24] (0, 0) _ Y8.out Tryz.underlying31 rfl (by kernel_rfl) ?_)
  refine (zeroWorld_c _ #[.int .i64 a0, .int .i64 a1, .int .i64 a2, .int .i64 a3, .int .i64 a4, .int .i64 a5, .int .i64 a6, .int .i64 a7, .int .i64 a8, .int .i64 a9, .int .i64 a10, .int .i64 a11, .int .i64 a12, .int .i64 a13, .int .i64 a14, .int .i64 a15, .int .i64 a16, .int .i64 a17, .int .i64 a18, .slice A2 l2 c2, .int .i64 a20, .int .i64 a21, .int .i64 a22, .int .i64 a23, .int .i64 a24] _ _ (Or.inr ⟨w7.heap.size, rfl, (Box.made w7 55 #[.int .i64 0, .int .i64 0, .int .i64 0, .slice none 0 0, .slice none 0 0]).cell 3, by rw [World.size_alloc]; omega⟩) rfl).mono ?_; rintro e w9 ⟨rfl, hb9⟩
  have B9 := Lib.hid (B8.out.trans (hb9.mono B8.out.size))
  clear hb9 X8 Y8 B8
  go_wp2_with fail
  go_ret
  exact ⟨rfl, B9.out⟩
end Go.Proofs.YtcichnapgdkbhaaGreat

/- Layer 9: houses that were not made. -/
import Derived.Test.YtcichnapgdkbhaaGreatZQ
set_option linter.all false
namespace Go.Proofs.YtcichnapgdkbhaaGreat
open Go.RowKit

section
variable {P : Program}
theorem wpList_load_rowG {ops : Array Oper} {rest : List Oper} {o : Oper} {a : Act} {w : World} {Q : Exit → Act → World → Prop} (hw : Region.wanted o (yielded ops a.tmps) = true) (ty : TypeId) (x : Operand) (ho : o.op = .load ty x)
    (g : Nat) (hx : a.eval x = .pointer (some ⟨g, 0, none⟩)) (t : TypeId) (cs : Array Value) (fr : Nat × Nat) (d : TypeDesc) (hg : w.heap[g]? = some (.cells cs t fr))
    (hu : P.underlying ty = some d) (hd : (match d with | .struct _ | .array _ _ => true | _ => false) = true) (hi : (P.info? ty).map (·.size) = some cs.size)
    (h : wpList P ops Q rest (a.put o.dst (.agg cs)) w) : wpList P ops Q (o :: rest) a w :=
  wpList_step fun K hK => by rw [if_pos hw]; exact wp_load_row ty x ho g hx t cs fr d hg hu hd hi (hK _ _ h)
end
set_option maxRecDepth 100000 in
set_option maxHeartbeats 8000000 in
theorem zeroHouse_c (h : Value) (N T : Array Value) (a b c : Int) (w : World) (d : DeadH w h) (hN : N.size = 19) (h3 : T[3]? = some (.int .i64 a)) (h23 : T[23]? = some (.int .i64 b)) (h24 : T[24]? = some (.int .i64 c)) :
    Calls Tryz.prog 7 #[h, .agg N, .agg T] w fun e w' => e = .returned (.bool true) ∧ Below w.heap.size w w' := by
  have b0 : Below w.heap.size w ((w.alloc (.cells N 29)).alloc (.cells T 31)) := ((Below.refl _ _).alloc (Nat.le_refl _) _).alloc (by rw [World.size_alloc]; omega) _
  have X0 : Box ((w.alloc (.cells N 29)).alloc (.cells T 31)) w.heap.size 29 N := (Box.made w 29 N).alloc _
  have Y0 : Box ((w.alloc (.cells N 29)).alloc (.cells T 31)) (w.heap.size + 1) 31 T := by have hb := Box.made (w.alloc (.cells N 29)) 31 T; rw [World.size_alloc] at hb; exact hb
  have hi : (Tryz.prog.info? 29).map (·.size) = some N.size := by rw [hN]; kernel_rfl
  have X0 := Lib.hid X0
  have Y0 := Lib.hid Y0
  have B0 := Lib.hid b0
  have D0 := Lib.hid (d.later b0)
  have HI := Lib.hid hi
  have H3 := Lib.hid h3
  have H23 := Lib.hid h23
  have H24 := Lib.hid h24
  clear b0 d hi h3 h23 h24
  go_enter Tryz.func7, Tryz.ntmps7
  go_wp2_with (refine wpList_load_row rfl 29 (.tmp 4) rfl w.heap.size rfl 29 N (0, 0) _ X0.out Tryz.underlying29 rfl HI.out ?_)
  refine (hDo h N _ D0.out).mono ?_; rintro e w1 ⟨rfl, hb1⟩
  have X1 := Lib.hid (X0.out.later hb1)
  have Y1 := Lib.hid (Y0.out.later hb1)
  have B1 := Lib.hid (B0.out.trans (hb1.mono B0.out.size))
  have D1 := Lib.hid (D0.out.later hb1)
  clear hb1 X0 Y0 B0 D0
  have zb : Box (w1.alloc (.cells #[.int .i64 0, .int .i64 0, .int .i64 0, .int .i64 0, .int .i64 0, .int .i64 0, .int .i64 0, .int .i64 0, .int .i64 0, .int .i64 0, .int .i64 0, .int .i64 0, .int .i64 0, .int .i64 0, .int .i64 0, .slice none 0 0, .int .i64 0, .int .i64 0, .int .i64 0] 29)) w1.heap.size 29 #[.int .i64 0, .int .i64 0, .int .i64 0, .int .i64 0, .int .i64 0, .int .i64 0, .int .i64 0, .int .i64 0, .int .i64 0, .int .i64 0, .int .i64 0, .int .i64 0, .int .i64 0, .int .i64 0, .int .i64 0, .slice none 0 0, .int .i64 0, .int .i64 0, .int .i64 0] := Box.made _ _ _
  have ZB := Lib.hid zb
  clear zb
  have b2 : Below w1.heap.size w1 ((w1.alloc (.cells #[.int .i64 0, .int .i64 0, .int .i64 0, .int .i64 0, .int .i64 0, .int .i64 0, .int .i64 0, .int .i64 0, .int .i64 0, .int .i64 0, .int .i64 0, .int .i64 0, .int .i64 0, .int .i64 0, .int .i64 0, .slice none 0 0, .int .i64 0, .int .i64 0, .int .i64 0] 29)).setRow w1.heap.size #[.int .i64 0, .int .i64 0, .int .i64 0, .int .i64 0, .int .i64 0, .int .i64 0, .int .i64 0, .int .i64 0, .int .i64 0, .int .i64 0, .int .i64 0, .int .i64 0, .int .i64 0, .int .i64 0, .int .i64 0, .slice none 0 0, .int .i64 0, .int .i64 0, .int .i64 0]) := below_setRow ((Below.refl _ _).alloc (Nat.le_refl _) _) (Nat.le_refl _) _
  have Z2 := Lib.hid (show Box ((w1.alloc (.cells #[.int .i64 0, .int .i64 0, .int .i64 0, .int .i64 0, .int .i64 0, .int .i64 0, .int .i64 0, .int .i64 0, .int .i64 0, .int .i64 0, .int .i64 0, .int .i64 0, .int .i64 0, .int .i64 0, .int .i64 0, .slice none 0 0, .int .i64 0, .int .i64 0, .int .i64 0] 29)).setRow w1.heap.size #[.int .i64 0, .int .i64 0, .int .i64 0, .int .i64 0, .int .i64 0, .int .i64 0, .int .i64 0, .int .i64 0, .int .i64 0, .int .i64 0, .int .i64 0, .int .i64 0, .int .i64 0, .int .i64 0, .int .i64 0, .slice none 0 0, .int .i64 0, .int .i64 0, .int .i64 0]) w1.heap.size 29 #[.int .i64 0, .int .i64 0, .int .i64 0, .int .i64 0, .int .i64 0, .int .i64 0, .int .i64 0, .int .i64 0, .int .i64 0, .int .i64 0, .int .i64 0, .int .i64 0, .int .i64 0, .int .i64 0, .int .i64 0, .slice none 0 0, .int .i64 0, .int .i64 0, .int .i64 0] from setRow_heap _ _ _ _ _ _ ZB.out)
  have X2 := Lib.hid (X1.out.later b2)
  have Y2 := Lib.hid (Y1.out.later b2)
  have B2 := Lib.hid (B1.out.trans (b2.mono B1.out.size))
  have D2 := Lib.hid (D1.out.later b2)
  clear b2 X1 Y1 B1 D1
  go_wp2_with (first
    | refine wpList_store_row rfl 29 (.tmp 7) (.tmp 15) rfl w1.heap.size #[.int .i64 0, .int .i64 0, .int .i64 0, .int .i64 0, .int .i64 0, .int .i64 0, .int .i64 0, .int .i64 0, .int .i64 0, .int .i64 0, .int .i64 0, .int .i64 0, .int .i64 0, .int .i64 0, .int .i64 0, .slice none 0 0, .int .i64 0, .int .i64 0, .int .i64 0] rfl rfl 29 #[.int .i64 0, .int .i64 0, .int .i64 0, .int .i64 0, .int .i64 0, .int .i64 0, .int .i64 0, .int .i64 0, .int .i64 0, .int .i64 0, .int .i64 0, .int .i64 0, .int .i64 0, .int .i64 0, .int .i64 0, .slice none 0 0, .int .i64 0, .int .i64 0, .int .i64 0] ZB.out (by kernel_rfl) (by kernel_rfl) (by kernel_rfl) ?_
    | refine wpList_load_row rfl 29 (.tmp 4) rfl w.heap.size rfl 29 N (0, 0) _ X2.out Tryz.underlying29 rfl HI.out ?_)
  refine (hHear h _ _ _ _ (D2.out.later ((Below.refl _ _).alloc (Nat.le_refl _) _))).mono ?_; rintro e w3 ⟨rfl, hw3⟩
  have hb3 : Below ((w1.alloc (.cells #[.int .i64 0, .int .i64 0, .int .i64 0, .int .i64 0, .int .i64 0, .int .i64 0, .int .i64 0, .int .i64 0, .int .i64 0, .int .i64 0, .int .i64 0, .int .i64 0, .int .i64 0, .int .i64 0, .int .i64 0, .slice none 0 0, .int .i64 0, .int .i64 0, .int .i64 0] 29)).setRow w1.heap.size #[.int .i64 0, .int .i64 0, .int .i64 0, .int .i64 0, .int .i64 0, .int .i64 0, .int .i64 0, .int .i64 0, .int .i64 0, .int .i64 0, .int .i64 0, .int .i64 0, .int .i64 0, .int .i64 0, .int .i64 0, .slice none 0 0, .int .i64 0, .int .i64 0, .int .i64 0]).heap.size ((w1.alloc (.cells #[.int .i64 0, .int .i64 0, .int .i64 0, .int .i64 0, .int .i64 0, .int .i64 0, .int .i64 0, .int .i64 0, .int .i64 0, .int .i64 0, .int .i64 0, .int .i64 0, .int .i64 0, .int .i64 0, .int .i64 0, .slice none 0 0, .int .i64 0, .int .i64 0, .int .i64 0] 29)).setRow w1.heap.size #[.int .i64 0, .int .i64 0, .int .i64 0, .int .i64 0, .int .i64 0, .int .i64 0, .int .i64 0, .int .i64 0, .int .i64 0, .int .i64 0, .int .i64 0, .int .i64 0, .int .i64 0, .int .i64 0, .int .i64 0, .slice none 0 0, .int .i64 0, .int .i64 0, .int .i64 0]) w3 := by rw [← hw3]; exact (Below.refl _ _).alloc (Nat.le_refl _) _
  clear hw3
  have Z3 := Lib.hid (Z2.out.later hb3)
  have Y3 := Lib.hid (Y2.out.later hb3)
  have B3 := Lib.hid (B2.out.trans (hb3.mono B2.out.size))
  have D3 := Lib.hid (D2.out.later hb3)
  clear hb3 Z2 X2 Y2 B2 D2 ZB
  go_wp2_with fail
  refine (hSync h _ D3.out).mono ?_; rintro e w4 ⟨rfl, rfl⟩
  go_wp2_with (refine wpList_load_rowG rfl 29 (.tmp 7) rfl w1.heap.size rfl 29 #[.int .i64 0, .int .i64 0, .int .i64 0, .int .i64 0, .int .i64 0, .int .i64 0, .int .i64 0, .int .i64 0, .int .i64 0, .int .i64 0, .int .i64 0, .int .i64 0, .int .i64 0, .int .i64 0, .int .i64 0, .slice none 0 0, .int .i64 0, .int .i64 0, .int .i64 0] (0, 0) _ Z3.out Tryz.underlying29 rfl (by kernel_rfl) ?_)
  refine (sameZero_c _).mono ?_; rintro e w4 ⟨rfl, hb4⟩
  have Y4 := Lib.hid (Y3.out.later hb4)
  have B4 := Lib.hid (B3.out.trans (hb4.mono B3.out.size))
  have D4 := Lib.hid (D3.out.later hb4)
  clear hb4 Z3 Y3 B3 D3
  go_wp2_with fail
  refine (hMissing h _ D4.out).mono ?_; rintro e w5 ⟨rfl, rfl⟩
  have q3 : w4.cell? ⟨w.heap.size + 1, 3, none⟩ = some (.int .i64 a) := (Y4.out.cell 3).trans H3.out
  have q23 : w4.cell? ⟨w.heap.size + 1, 23, none⟩ = some (.int .i64 b) := (Y4.out.cell 23).trans H23.out
  have q24 : w4.cell? ⟨w.heap.size + 1, 24, none⟩ = some (.int .i64 c) := (Y4.out.cell 24).trans H24.out
  go_wp2_with fail
  refine (hCrash h _ _ _ _ D4.out).mono ?_; rintro e w5 ⟨rfl, rfl⟩
  clear q3 q23 q24
  go_wp2_with fail
  refine (hNotes h _ D4.out).mono ?_; rintro e w5 ⟨rfl, rfl⟩
  go_wp2_with fail
  refine (hCounts h _ D4.out).mono ?_; rintro e w5 ⟨rfl, rfl⟩
  go_wp2_with fail
  refine (zerosNil_c _).mono ?_; rintro e w6 ⟨rfl, hb6⟩
  have B6 := Lib.hid (B4.out.trans (hb6.mono B4.out.size))
  clear hb6
  go_wp2_with fail
  go_ret
  exact ⟨rfl, B6.out⟩
end Go.Proofs.YtcichnapgdkbhaaGreat

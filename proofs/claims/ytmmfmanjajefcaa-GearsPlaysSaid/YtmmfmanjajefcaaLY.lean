/- Layer 7: where the runner may stand: a region by itself. -/
import Derived.Test.YtmmfmanjajefcaaLX
set_option linter.all false
namespace Go.Proofs.Ytmmfmanjajefcaa
open Go.RowKit

set_option maxRecDepth 100000 in
set_option maxHeartbeats 8000000 in
theorem where5_c (P N D n d S gm br : Nat) (lo hi : Int) (w1 : World) (Q : Exit → Act → World → Prop) (x0 x1 x2 x3 x4 x5 x7 x9 x11 x12 x13 x14 x15 x16 x17 x18 x19 x20 x21 x22 x23 x24 x25 x26 x27 x28 x29 x30 x31 x32 x33 : Value)
    (bN : Box w1 gm 94 #[.int .i64 (N : Int), .int .i64 (D : Int), .int .i64 (n : Int), .int .i64 (d : Int), .int .i64 (S : Int)])
    (bR : Box w1 br 52 #[.int .i64 0, .int .i64 0])
    (hH : ∀ W, Calls Try.prog 79 #[.agg #[.int .i64 (N : Int), .int .i64 (D : Int), .int .i64 (n : Int), .int .i64 (d : Int), .int .i64 (S : Int)], .int .i64 (P : Int)] W fun e w' => e = .returned (.int .i64 lo) ∧ Below W.heap.size W w')
    (hF : ∀ W, Calls Try.prog 80 #[.agg #[.int .i64 (N : Int), .int .i64 (D : Int), .int .i64 (n : Int), .int .i64 (d : Int), .int .i64 (S : Int)], .int .i64 (P : Int)] W fun e w' => e = .returned (.int .i64 hi) ∧ Below W.heap.size W w')
    (hQ : ∀ (y27 y28 y29 y30 y31 y32 y33 : Value) (W : World), Box W br 52 #[.int .i64 lo, .int .i64 hi] → (∀ B, B ≤ br → B ≤ w1.heap.size → Below B w1 W) → Q .normal { tmps := #[x0, x1, x2, x3, x4, x5, .pointer (some ⟨br, 0, none⟩), .int .i64 0, .pointer (some ⟨gm, 0, none⟩), x9, .int .i64 (P : Int), x11, x12, x13, x14, x15, x16, x17, x18, x19, x20, x21, x22, x23, x24, x25, x26, y27, y28, y29, y30, y31, y32, y33], defers := [] } W) :
    (Code.region 5 #[{ dst := some 27, op := Op.load 94 (Operand.tmp 8), type := 94, pos := "play.go:42", after := #[], guard := none }, { dst := some 28, op := Op.move (Operand.tmp 10), type := 3, pos := "play.go:42", after := #[], guard := none }, { dst := some 29, op := Op.call { callee := Callee.value (Operand.func 79), args := #[Operand.tmp 27, Operand.tmp 28], argTypes := #[94, 3] }, type := 3, pos := "play.go:42", after := #[{ on := 0, ground := Ground.data }, { on := 1, ground := Ground.data }], guard := none }, { dst := some 30, op := Op.load 94 (Operand.tmp 8), type := 94, pos := "play.go:42", after := #[], guard := none }, { dst := some 31, op := Op.move (Operand.tmp 10), type := 3, pos := "play.go:42", after := #[], guard := none }, { dst := some 32, op := Op.call { callee := Callee.value (Operand.func 80), args := #[Operand.tmp 30, Operand.tmp 31], argTypes := #[94, 3] }, type := 3, pos := "play.go:42", after := #[{ on := 3, ground := Ground.data }, { on := 4, ground := Ground.data }, { on := 2, ground := Ground.chain }], guard := none }, { dst := some 33, op := Op.build 52 #[(0, Operand.tmp 29), (1, Operand.tmp 32)], type := 52, pos := "play.go:42", after := #[{ on := 2, ground := Ground.data }, { on := 5, ground := Ground.data }], guard := none }, { dst := none, op := Op.store 52 (Operand.tmp 6) (Operand.tmp 33), type := 0, pos := "play.go:42", after := #[{ on := 6, ground := Ground.data }, { on := 5, ground := Ground.chain }, { on := 0, ground := Ground.phase }, { on := 1, ground := Ground.phase }, { on := 2, ground := Ground.phase }, { on := 3, ground := Ground.phase }, { on := 4, ground := Ground.phase }, { on := 5, ground := Ground.phase }, { on := 6, ground := Ground.phase }], guard := none }, { dst := some 7, op := Op.assign (Operand.const (Value.int IntKind.i64 0)), type := 24, pos := "play.go:42", after := #[{ on := 7, ground := Ground.chain }, { on := 0, ground := Ground.phase }, { on := 1, ground := Ground.phase }, { on := 2, ground := Ground.phase }, { on := 3, ground := Ground.phase }, { on := 4, ground := Ground.phase }, { on := 5, ground := Ground.phase }, { on := 6, ground := Ground.phase }, { on := 7, ground := Ground.phase }], guard := none }] true).wp Try.prog Q { tmps := #[x0, x1, x2, x3, x4, x5, .pointer (some ⟨br, 0, none⟩), x7, .pointer (some ⟨gm, 0, none⟩), x9, .int .i64 (P : Int), x11, x12, x13, x14, x15, x16, x17, x18, x19, x20, x21, x22, x23, x24, x25, x26, x27, x28, x29, x30, x31, x32, x33], defers := [] } w1 := by
  have HQ := Lib.hid hQ
  have HN := Lib.hid bN
  have HR := Lib.hid bR
  have HH := Lib.hid hH
  have HF := Lib.hid hF
  have a0 := bN.cell 0
  have a1 := bN.cell 1
  have a2 := bN.cell 2
  have a3 := bN.cell 3
  have a4 := bN.cell 4
  have HSZ := Lib.hid (show br < w1.heap.size from bR.lt)
  clear hQ bN bR hH hF
  refine wp_region_noPanic ?_
  go_region_law (first
    | (go_simp; go_at_call 79; (with_reducible refine (HH.out w1.drew).mono ?_); rintro e w2 ⟨rfl, hb2⟩; have B2 := Lib.hid (show Below w1.heap.size w1 w2 from (Below.refl _ _).drew.trans hb2); have b0 := (HN.out.later B2.out).cell 0; have b1 := (HN.out.later B2.out).cell 1; have b2 := (HN.out.later B2.out).cell 2; have b3 := (HN.out.later B2.out).cell 3; have b4 := (HN.out.later B2.out).cell 4; clear hb2; dsimp only at b0 b1 b2 b3 b4 ⊢)
    | (go_simp; go_at_call 80; (with_reducible refine (HF.out w2).mono ?_); rintro e w3 ⟨rfl, hb3⟩; have B3 := Lib.hid (show Below w1.heap.size w1 w3 from B2.out.trans (hb3.mono B2.out.size)); have X3 := Lib.hid (HR.out.later B3.out); have z0 : w3.cell? ⟨br, 0, none⟩ = some (.int .i64 0) := X3.out.cell 0; have z1 : w3.cell? ⟨br, 1, none⟩ = some (.int .i64 0) := X3.out.cell 1; have fz : ∀ o, w3.frozen? ⟨br, o, none⟩ = false := fun o => X3.out.free o; clear hb3; dsimp only)
    )
  all_goals
    refine NoPanic.normal ?_
    exact HQ.out _ _ _ _ _ _ _ _ ((X3.out.put 0 _).put 1 _) (fun B h1 h2 => ((B3.out.mono h2).setCell (p := ⟨br, 0, none⟩) h1 _).setCell (p := ⟨br, 1, none⟩) h1 _)

end Go.Proofs.Ytmmfmanjajefcaa

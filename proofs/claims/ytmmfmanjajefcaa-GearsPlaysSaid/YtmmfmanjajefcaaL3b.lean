/- Layer 7: the region of product that draws and calls. -/
import Derived.Test.YtmmfmanjajefcaaL3
set_option linter.all false
namespace Go.Proofs.Ytmmfmanjajefcaa
open Go.RowKit

set_option maxRecDepth 100000 in
set_option maxHeartbeats 8000000 in
theorem prod13_c (n i j x y g1 g2 : Nat) (ns ds : List Nat) (w1 : World) (Q : Exit → Act → World → Prop) (x0 x1 x2 x3 x6 x7 x10 x11 x12 x13 x14 x15 x16 x17 x18 x19 x20 x21 x22 x23 x24 x25 x26 x27 x28 x29 x30 x31 x32 x33 x34 x35 x36 x37 x38 x39 x40 x41 x42 x43 x44 x45 x46 x47 x48 x49 x50 x51 x52 x53 x54 x55 x56 x57 x58 x59 x60 x61 x62 x63 x64 x65 x66 x67 x68 x69 x70 x71 x72 x73 x74 x75 x76 x77 x78 x79 x80 x81 x82 x83 x84 x85 x86 x87 x88 x89 x90 x91 x92 x93 : Value)
    (hP : PB w1 g1 g2 n n ns ds)
    (hi : i < n)
    (hj : j < n)
    (hn : n ≤ 1000)
    (hx : w1.cell? ⟨g1, i, none⟩ = some (.int .i64 (x : Int)))
    (hy : w1.cell? ⟨g2, j, none⟩ = some (.int .i64 (y : Int)))
    (hbd : x ≤ 9223372036854775807 ∧ y ≤ 9223372036854775807)
    (hQ : ∀ (y49 y50 y51 y52 y53 y54 y55 y56 y57 : Value) (W : World), Below w1.heap.size w1 W → Q .normal { tmps := #[x0, x1, x2, x3, .slice (some ⟨g1, 0, none⟩) n n, .slice (some ⟨g2, 0, none⟩) n n, x6, x7, .int .i64 (i : Int), .int .i64 (j : Int), .int .i64 ((x.gcd y : Nat) : Int), x11, x12, x13, x14, x15, x16, x17, x18, x19, x20, x21, x22, x23, x24, x25, x26, x27, x28, x29, x30, x31, x32, x33, x34, x35, x36, x37, x38, x39, x40, x41, x42, x43, x44, x45, x46, x47, x48, y49, y50, y51, y52, y53, y54, y55, y56, y57, x58, x59, x60, x61, x62, x63, x64, x65, x66, x67, x68, x69, x70, x71, x72, x73, x74, x75, x76, x77, x78, x79, x80, x81, x82, x83, x84, x85, x86, x87, x88, x89, x90, x91, x92, x93], defers := [] } W) :
    (Code.region 13 #[{ dst := some 49, op := Op.move (Operand.tmp 4), type := 45, pos := "fractions.go:20", after := #[], guard := none }, { dst := some 50, op := Op.move (Operand.tmp 8), type := 3, pos := "fractions.go:20", after := #[], guard := none }, { dst := some 51, op := Op.indexAddr 45 (Operand.tmp 49) (Operand.tmp 50), type := 0, pos := "fractions.go:20", after := #[{ on := 0, ground := Ground.data }, { on := 1, ground := Ground.data }], guard := none }, { dst := some 52, op := Op.load 3 (Operand.tmp 51), type := 3, pos := "fractions.go:20", after := #[{ on := 2, ground := Ground.data }], guard := none }, { dst := some 53, op := Op.move (Operand.tmp 5), type := 45, pos := "fractions.go:20", after := #[], guard := none }, { dst := some 54, op := Op.move (Operand.tmp 9), type := 3, pos := "fractions.go:20", after := #[], guard := none }, { dst := some 55, op := Op.indexAddr 45 (Operand.tmp 53) (Operand.tmp 54), type := 0, pos := "fractions.go:20", after := #[{ on := 4, ground := Ground.data }, { on := 5, ground := Ground.data }], guard := none }, { dst := some 56, op := Op.load 3 (Operand.tmp 55), type := 3, pos := "fractions.go:20", after := #[{ on := 6, ground := Ground.data }], guard := none }, { dst := some 57, op := Op.call { callee := Callee.value (Operand.func 64), args := #[Operand.tmp 52, Operand.tmp 56], argTypes := #[3, 3] }, type := 3, pos := "fractions.go:20", after := #[{ on := 3, ground := Ground.data }, { on := 7, ground := Ground.data }], guard := none }, { dst := some 10, op := Op.assign (Operand.tmp 57), type := 3, pos := "fractions.go:20", after := #[{ on := 8, ground := Ground.data }, { on := 8, ground := Ground.chain }, { on := 0, ground := Ground.phase }, { on := 1, ground := Ground.phase }, { on := 2, ground := Ground.phase }, { on := 3, ground := Ground.phase }, { on := 4, ground := Ground.phase }, { on := 5, ground := Ground.phase }, { on := 6, ground := Ground.phase }, { on := 7, ground := Ground.phase }, { on := 8, ground := Ground.phase }], guard := none }] true).wp Try.prog Q { tmps := #[x0, x1, x2, x3, .slice (some ⟨g1, 0, none⟩) n n, .slice (some ⟨g2, 0, none⟩) n n, x6, x7, .int .i64 (i : Int), .int .i64 (j : Int), x10, x11, x12, x13, x14, x15, x16, x17, x18, x19, x20, x21, x22, x23, x24, x25, x26, x27, x28, x29, x30, x31, x32, x33, x34, x35, x36, x37, x38, x39, x40, x41, x42, x43, x44, x45, x46, x47, x48, x49, x50, x51, x52, x53, x54, x55, x56, x57, x58, x59, x60, x61, x62, x63, x64, x65, x66, x67, x68, x69, x70, x71, x72, x73, x74, x75, x76, x77, x78, x79, x80, x81, x82, x83, x84, x85, x86, x87, x88, x89, x90, x91, x92, x93], defers := [] } w1 := by
  have HQ := Lib.hid hQ
  have HG := Lib.hid hbd
  have i0 : (0 : Int) ≤ (i : Int) := by omega
  have i1 : (i : Int) < (n : Int) := by omega
  have j0 : (0 : Int) ≤ (j : Int) := by omega
  have j1 : (j : Int) < (n : Int) := by omega
  have i2 : i ≤ 1000 := by omega
  have j2 : j ≤ 1000 := by omega
  clear hQ hP hi hj hn hbd
  go_quiet ((go_at_call 64; exact Calls.quiet_of (gcd_q x y _ HG.out.1 HG.out.2)))
  exact HQ.out _ _ _ _ _ _ _ _ _ _ (below_drewN _ _)

end Go.Proofs.Ytmmfmanjajefcaa

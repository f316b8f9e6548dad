/- GearsOrder: a test, a region by itself. -/
import Derived.Test.YtmmfmanjajefcaaGC
set_option linter.all false
namespace Go.Proofs.Ytmmfmanjajefcaa
open Go.RowKit

set_option maxRecDepth 100000 in
set_option maxHeartbeats 8000000 in
theorem order6_c (an ad bn bd n m : Int) (ga gb : Nat) (w1 : World) (Q : Exit → Act → World → Prop) (x0 x1 x2 x5 x6 x7 x9 x12 x13 x14 x15 x16 x17 x18 x19 x20 x21 x22 x23 x24 x25 x26 x27 x28 x29 x30 x31 x32 x33 x34 x35 x36 x37 x38 x39 x40 x41 x42 x43 x44 x45 x46 x47 x48 x49 x50 x51 x52 x53 x54 x55 x56 x57 x58 x59 x60 x61 x62 x63 x64 x65 x66 x67 x68 x69 x70 x71 x72 x73 x74 x75 x76 x77 x78 x79 x80 x81 x82 x83 x84 x85 x86 x87 x88 x89 x90 x91 x92 x93 x94 x95 x96 x97 x98 x99 x100 x101 x102 x103 x104 x105 x106 x107 x108 x109 x110 x111 x112 x113 x114 x115 x116 x117 x118 x119 x120 x121 x122 x123 x124 x125 x126 x127 x128 x129 x130 x131 : Value)
    (bA : Box w1 ga 23 #[.int .i64 an, .int .i64 ad])
    (bB : Box w1 gb 23 #[.int .i64 bn, .int .i64 bd])
    (wm : IntKind.i64.wrap (-m) = n)
    (hc : n = 0 ↔ an = bn ∧ ad = bd)
    (hQ : ∀ (y45 y46 y47 y48 y49 y50 y51 y52 y53 y54 y55 y56 y57 y58 y59 : Value), Q .normal { tmps := #[x0, x1, x2, .pointer (some ⟨ga, 0, none⟩), .pointer (some ⟨gb, 0, none⟩), x5, x6, x7, .int .i64 n, x9, .int .i64 m, .int .i64 0, x12, x13, x14, x15, x16, x17, x18, x19, x20, x21, x22, x23, x24, x25, x26, x27, x28, x29, x30, x31, x32, x33, x34, x35, x36, x37, x38, x39, x40, x41, x42, x43, x44, y45, y46, y47, y48, y49, y50, y51, y52, y53, y54, y55, y56, y57, y58, y59, .bool false, x61, x62, x63, x64, x65, x66, x67, x68, x69, x70, x71, x72, x73, x74, x75, x76, x77, x78, x79, x80, x81, x82, x83, x84, x85, x86, x87, x88, x89, x90, x91, x92, x93, x94, x95, x96, x97, x98, x99, x100, x101, x102, x103, x104, x105, x106, x107, x108, x109, x110, x111, x112, x113, x114, x115, x116, x117, x118, x119, x120, x121, x122, x123, x124, x125, x126, x127, x128, x129, x130, x131], defers := [] } w1) :
    (Code.region 6 #[{ dst := some 45, op := Op.move (Operand.tmp 11), type := 24, pos := "theorems.go:49", after := #[], guard := none }, { dst := some 46, op := Op.binOp BinOp.neq 24 (Operand.tmp 45) (Operand.const (Value.int IntKind.i64 0)) 24, type := 4, pos := "theorems.go:49", after := #[{ on := 0, ground := Ground.data }], guard := none }, { dst := some 47, op := Op.move (Operand.tmp 46), type := 4, pos := "theorems.go:49", after := #[{ on := 1, ground := Ground.data }], guard := none }, { dst := some 48, op := Op.move (Operand.tmp 8), type := 3, pos := "theorems.go:49", after := #[{ on := 2, ground := Ground.guard }], guard := some (2, false) }, { dst := some 49, op := Op.move (Operand.tmp 10), type := 3, pos := "theorems.go:49", after := #[{ on := 2, ground := Ground.guard }], guard := some (2, false) }, { dst := some 50, op := Op.unOp UnOp.neg 3 (Operand.tmp 49), type := 3, pos := "theorems.go:49", after := #[{ on := 4, ground := Ground.data }, { on := 2, ground := Ground.guard }], guard := some (2, false) }, { dst := some 51, op := Op.binOp BinOp.neq 3 (Operand.tmp 48) (Operand.tmp 50) 3, type := 4, pos := "theorems.go:49", after := #[{ on := 3, ground := Ground.data }, { on := 5, ground := Ground.data }, { on := 2, ground := Ground.guard }], guard := some (2, false) }, { dst := some 52, op := Op.pick (Operand.tmp 47) (Operand.const (Value.bool true)) (Operand.tmp 51), type := 4, pos := "theorems.go:49", after := #[{ on := 2, ground := Ground.data }, { on := 6, ground := Ground.data }], guard := none }, { dst := some 53, op := Op.move (Operand.tmp 52), type := 4, pos := "theorems.go:49", after := #[{ on := 7, ground := Ground.data }, { on := 2, ground := Ground.chain }], guard := none }, { dst := some 54, op := Op.move (Operand.tmp 8), type := 3, pos := "theorems.go:49", after := #[{ on := 8, ground := Ground.guard }], guard := some (8, false) }, { dst := some 55, op := Op.binOp BinOp.eql 3 (Operand.tmp 54) (Operand.const (Value.int IntKind.i64 0)) 3, type := 4, pos := "theorems.go:49", after := #[{ on := 9, ground := Ground.data }, { on := 8, ground := Ground.guard }], guard := some (8, false) }, { dst := some 56, op := Op.load 23 (Operand.tmp 3), type := 23, pos := "theorems.go:49", after := #[{ on := 8, ground := Ground.guard }], guard := some (8, false) }, { dst := some 57, op := Op.load 23 (Operand.tmp 4), type := 23, pos := "theorems.go:49", after := #[{ on := 8, ground := Ground.guard }], guard := some (8, false) }, { dst := some 58, op := Op.binOp BinOp.eql 23 (Operand.tmp 56) (Operand.tmp 57) 23, type := 4, pos := "theorems.go:49", after := #[{ on := 11, ground := Ground.data }, { on := 12, ground := Ground.data }, { on := 8, ground := Ground.guard }], guard := some (8, false) }, { dst := some 59, op := Op.binOp BinOp.neq 4 (Operand.tmp 55) (Operand.tmp 58) 4, type := 4, pos := "theorems.go:49", after := #[{ on := 10, ground := Ground.data }, { on := 13, ground := Ground.data }, { on := 8, ground := Ground.guard }], guard := some (8, false) }, { dst := some 60, op := Op.pick (Operand.tmp 53) (Operand.const (Value.bool true)) (Operand.tmp 59), type := 4, pos := "theorems.go:49", after := #[{ on := 8, ground := Ground.data }, { on := 14, ground := Ground.data }], guard := none }] false).wp Try.prog Q { tmps := #[x0, x1, x2, .pointer (some ⟨ga, 0, none⟩), .pointer (some ⟨gb, 0, none⟩), x5, x6, x7, .int .i64 n, x9, .int .i64 m, .int .i64 0, x12, x13, x14, x15, x16, x17, x18, x19, x20, x21, x22, x23, x24, x25, x26, x27, x28, x29, x30, x31, x32, x33, x34, x35, x36, x37, x38, x39, x40, x41, x42, x43, x44, x45, x46, x47, x48, x49, x50, x51, x52, x53, x54, x55, x56, x57, x58, x59, x60, x61, x62, x63, x64, x65, x66, x67, x68, x69, x70, x71, x72, x73, x74, x75, x76, x77, x78, x79, x80, x81, x82, x83, x84, x85, x86, x87, x88, x89, x90, x91, x92, x93, x94, x95, x96, x97, x98, x99, x100, x101, x102, x103, x104, x105, x106, x107, x108, x109, x110, x111, x112, x113, x114, x115, x116, x117, x118, x119, x120, x121, x122, x123, x124, x125, x126, x127, x128, x129, x130, x131], defers := [] } w1 := by
  have HQ := Lib.hid hQ
  have a0 := bA.cell 0
  have a1 := bA.cell 1
  have b0 := bB.cell 0
  have b1 := bB.cell 1
  have HC := Lib.hid hc
  clear hQ bA bB hc
  have e9 : (n != n) = false := by simp
  by_cases h0 : n = 0
  · obtain ⟨rfl, rfl⟩ := HC.out.1 h0
    subst h0
    go_wp2_with fail
    exact HQ.out _ _ _ _ _ _ _ _ _ _ _ _ _ _ _
  · have e1 : (n == 0) = false := by simpa using h0
    have e2 : decide (n = 0) = false := by simpa using h0
    by_cases h1 : an = bn
    · by_cases h2 : ad = bd
      · exact absurd (HC.out.2 ⟨h1, h2⟩) h0
      · have e3 : (ad == bd) = false := by simpa using h2
        have e4 : decide (ad = bd) = false := by simpa using h2
        subst h1
        clear h0 h2
        go_wp2_with fail
        all_goals exact HQ.out _ _ _ _ _ _ _ _ _ _ _ _ _ _ _
    · have e3 : (an == bn) = false := by simpa using h1
      have e4 : decide (an = bn) = false := by simpa using h1
      clear h0 h1
      go_wp2_with fail
      all_goals exact HQ.out _ _ _ _ _ _ _ _ _ _ _ _ _ _ _

end Go.Proofs.Ytmmfmanjajefcaa

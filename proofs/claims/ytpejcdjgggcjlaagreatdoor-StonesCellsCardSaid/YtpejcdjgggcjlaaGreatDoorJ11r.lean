/- StonesCells: the test of the first answers, a region by itself. -/
import Derived.Test.YtpejcdjgggcjlaaGreatDoorJ7
import Derived.Test.YtpejcdjgggcjlaaGreatDoorF2
import Derived.Deep.RegionHeld3
namespace Go.Proofs.YtpejcdjgggcjlaaGreatDoor
open Go.RowKit

set_option maxRecDepth 100000 in
set_option maxHeartbeats 8000000 in
theorem cells8_c (f g G : Fc) (A A1 A6 A8 : Option Addr) (nA cp nB cp1 n6 c6 n8 c8 a0 a1 cb db : Nat) (ra rc ri : Int) (wq : World) (Q : Exit → Act → World → Prop) (x0 x1 x2 x5 x6 x7 x16 x17 x18 x19 x20 x21 x22 x23 x24 x25 x26 x27 x28 x29 x30 x31 x32 x33 x34 x35 x36 x37 x38 x39 x40 x41 x42 x43 x44 x45 x46 x47 x48 x49 x50 x51 x52 x53 x54 x55 x56 x57 x58 x59 x60 x61 x62 x63 x64 x65 x66 x67 x68 x69 x70 x71 x72 x73 x74 x75 x76 x77 x78 x79 x80 x81 x82 x83 x84 x85 x86 x87 x88 x89 x90 x91 x92 x93 x94 x95 x96 x97 x98 x99 x100 x101 x102 x103 x104 x105 x106 x107 x108 x109 x110 x111 x112 x113 x114 x115 x116 x117 x118 x119 x120 x121 x122 x123 x124 x125 x126 x127 x128 x129 x130 x131 x132 x133 x134 x135 x136 x137 x138 x139 x140 x141 x142 x143 x144 x145 x146 x147 x148 x149 x150 x151 x152 x153 x154 x155 x156 x157 x158 x159 x160 x161 x162 x163 x164 x165 x166 x167 x168 x169 x170 x171 x172 x173 x174 x175 x176 x177 : Value)
    (hF : IsFace wq wq.heap.size (.agg #[.int .i64 f.eye, .int .i64 f.rings, .int .i64 f.sectors, .slice A nA cp]) f) (hG : IsFace wq wq.heap.size (.agg #[.int .i64 g.eye, .int .i64 g.rings, .int .i64 g.sectors, .slice A1 nB cp1]) g) (hC : IsFace wq wq.heap.size (.agg #[.int .i64 G.eye, .int .i64 G.rings, .int .i64 G.sectors, .slice A6 n6 c6]) G) (hD : IsFace wq wq.heap.size (.agg #[.int .i64 G.eye, .int .i64 G.rings, .int .i64 G.sectors, .slice A8 n8 c8]) G)
    (bF : Box wq a0 24 #[.int .i64 f.eye, .int .i64 f.rings, .int .i64 f.sectors, .slice A nA cp]) (bG : Box wq a1 24 #[.int .i64 g.eye, .int .i64 g.rings, .int .i64 g.sectors, .slice A1 nB cp1]) (bC : Box wq cb 24 #[.int .i64 G.eye, .int .i64 G.rings, .int .i64 G.sectors, .slice A6 n6 c6]) (bD : Box wq db 24 #[.int .i64 G.eye, .int .i64 G.rings, .int .i64 G.sectors, .slice A8 n8 c8])
    (hQ : ∀ (y70 y71 y72 y73 y74 y75 y76 y77 y78 y79 y80 y81 y82 y83 y84 y85 y86 y87 y88 y89 y90 y91 y92 y93 y94 y95 y96 y97 y98 y99 y100 y101 y102 y103 : Value) (w14 : World), Below wq.heap.size wq w14 → Q .normal { tmps := #[x0, x1, x2, .pointer (some ⟨a0, 0, none⟩), .pointer (some ⟨a1, 0, none⟩), x5, x6, x7, .int .i64 ra, .int .i64 rc, .int .i64 ra, .int .i64 rc, .pointer (some ⟨cb, 0, none⟩), .int .i64 ri, .pointer (some ⟨db, 0, none⟩), .int .i64 ri, x16, x17, x18, x19, x20, x21, x22, x23, x24, x25, x26, x27, x28, x29, x30, x31, x32, x33, x34, x35, x36, x37, x38, x39, x40, x41, x42, x43, x44, x45, x46, x47, x48, x49, x50, x51, x52, x53, x54, x55, x56, x57, x58, x59, x60, x61, x62, x63, x64, x65, x66, x67, x68, x69, y70, y71, y72, y73, y74, y75, y76, y77, y78, y79, y80, y81, y82, y83, y84, y85, y86, y87, y88, y89, y90, y91, y92, y93, y94, y95, y96, y97, y98, y99, y100, y101, y102, y103, .bool false, x105, x106, x107, x108, x109, x110, x111, x112, x113, x114, x115, x116, x117, x118, x119, x120, x121, x122, x123, x124, x125, x126, x127, x128, x129, x130, x131, x132, x133, x134, x135, x136, x137, x138, x139, x140, x141, x142, x143, x144, x145, x146, x147, x148, x149, x150, x151, x152, x153, x154, x155, x156, x157, x158, x159, x160, x161, x162, x163, x164, x165, x166, x167, x168, x169, x170, x171, x172, x173, x174, x175, x176, x177], defers := [] } w14) :
    (Code.region 8 #[{ dst := some 70, op := Op.load 24 (Operand.tmp 3), type := 24, pos := "law.go:51", after := #[], guard := none }, { dst := some 71, op := Op.call { callee := Callee.value (Operand.func 13), args := #[Operand.tmp 70], argTypes := #[24] }, type := 4, pos := "law.go:51", after := #[{ on := 0, ground := Ground.data }], guard := none }, { dst := some 72, op := Op.load 24 (Operand.tmp 3), type := 24, pos := "law.go:51", after := #[], guard := none }, { dst := some 73, op := Op.call { callee := Callee.value (Operand.func 14), args := #[Operand.tmp 72], argTypes := #[24] }, type := 4, pos := "law.go:51", after := #[{ on := 2, ground := Ground.data }, { on := 1, ground := Ground.chain }], guard := none }, { dst := some 74, op := Op.binOp BinOp.neq 4 (Operand.tmp 71) (Operand.tmp 73) 4, type := 4, pos := "law.go:51", after := #[{ on := 1, ground := Ground.data }, { on := 3, ground := Ground.data }], guard := none }, { dst := some 75, op := Op.move (Operand.tmp 74), type := 4, pos := "law.go:51", after := #[{ on := 4, ground := Ground.data }, { on := 3, ground := Ground.chain }], guard := none }, { dst := some 76, op := Op.load 24 (Operand.tmp 3), type := 24, pos := "law.go:51", after := #[{ on := 5, ground := Ground.guard }], guard := some (5, false) }, { dst := some 77, op := Op.load 24 (Operand.tmp 4), type := 24, pos := "law.go:51", after := #[{ on := 5, ground := Ground.guard }], guard := some (5, false) }, { dst := some 78, op := Op.call { callee := Callee.value (Operand.func 15), args := #[Operand.tmp 76, Operand.tmp 77], argTypes := #[24, 24] }, type := 4, pos := "law.go:51", after := #[{ on := 6, ground := Ground.data }, { on := 7, ground := Ground.data }, { on := 5, ground := Ground.chain }, { on := 5, ground := Ground.guard }], guard := some (5, false) }, { dst := some 79, op := Op.load 24 (Operand.tmp 3), type := 24, pos := "law.go:51", after := #[{ on := 5, ground := Ground.guard }], guard := some (5, false) }, { dst := some 80, op := Op.load 24 (Operand.tmp 4), type := 24, pos := "law.go:51", after := #[{ on := 5, ground := Ground.guard }], guard := some (5, false) }, { dst := some 81, op := Op.call { callee := Callee.value (Operand.func 16), args := #[Operand.tmp 79, Operand.tmp 80], argTypes := #[24, 24] }, type := 4, pos := "law.go:51", after := #[{ on := 9, ground := Ground.data }, { on := 10, ground := Ground.data }, { on := 8, ground := Ground.chain }, { on := 5, ground := Ground.guard }], guard := some (5, false) }, { dst := some 82, op := Op.binOp BinOp.neq 4 (Operand.tmp 78) (Operand.tmp 81) 4, type := 4, pos := "law.go:51", after := #[{ on := 8, ground := Ground.data }, { on := 11, ground := Ground.data }, { on := 5, ground := Ground.guard }], guard := some (5, false) }, { dst := some 83, op := Op.pick (Operand.tmp 75) (Operand.const (Value.bool true)) (Operand.tmp 82), type := 4, pos := "law.go:51", after := #[{ on := 5, ground := Ground.data }, { on := 12, ground := Ground.data }], guard := none }, { dst := some 84, op := Op.move (Operand.tmp 83), type := 4, pos := "law.go:51", after := #[{ on := 13, ground := Ground.data }, { on := 11, ground := Ground.chain }], guard := none }, { dst := some 85, op := Op.move (Operand.tmp 8), type := 3, pos := "law.go:51", after := #[{ on := 14, ground := Ground.guard }], guard := some (14, false) }, { dst := some 86, op := Op.move (Operand.tmp 10), type := 3, pos := "law.go:51", after := #[{ on := 14, ground := Ground.guard }], guard := some (14, false) }, { dst := some 87, op := Op.binOp BinOp.neq 3 (Operand.tmp 85) (Operand.tmp 86) 3, type := 4, pos := "law.go:51", after := #[{ on := 15, ground := Ground.data }, { on := 16, ground := Ground.data }, { on := 14, ground := Ground.guard }], guard := some (14, false) }, { dst := some 88, op := Op.pick (Operand.tmp 84) (Operand.const (Value.bool true)) (Operand.tmp 87), type := 4, pos := "law.go:51", after := #[{ on := 14, ground := Ground.data }, { on := 17, ground := Ground.data }], guard := none }, { dst := some 89, op := Op.move (Operand.tmp 88), type := 4, pos := "law.go:51", after := #[{ on := 18, ground := Ground.data }, { on := 14, ground := Ground.chain }], guard := none }, { dst := some 90, op := Op.move (Operand.tmp 9), type := 31, pos := "law.go:51", after := #[{ on := 19, ground := Ground.guard }], guard := some (19, false) }, { dst := some 91, op := Op.move (Operand.tmp 11), type := 31, pos := "law.go:51", after := #[{ on := 19, ground := Ground.guard }], guard := some (19, false) }, { dst := some 92, op := Op.binOp BinOp.neq 31 (Operand.tmp 90) (Operand.tmp 91) 31, type := 4, pos := "law.go:51", after := #[{ on := 20, ground := Ground.data }, { on := 21, ground := Ground.data }, { on := 19, ground := Ground.guard }], guard := some (19, false) }, { dst := some 93, op := Op.pick (Operand.tmp 89) (Operand.const (Value.bool true)) (Operand.tmp 92), type := 4, pos := "law.go:51", after := #[{ on := 19, ground := Ground.data }, { on := 22, ground := Ground.data }], guard := none }, { dst := some 94, op := Op.move (Operand.tmp 93), type := 4, pos := "law.go:51", after := #[{ on := 23, ground := Ground.data }, { on := 19, ground := Ground.chain }], guard := none }, { dst := some 95, op := Op.load 24 (Operand.tmp 12), type := 24, pos := "law.go:51", after := #[{ on := 24, ground := Ground.guard }], guard := some (24, false) }, { dst := some 96, op := Op.load 24 (Operand.tmp 14), type := 24, pos := "law.go:51", after := #[{ on := 24, ground := Ground.guard }], guard := some (24, false) }, { dst := some 97, op := Op.call { callee := Callee.value (Operand.func 16), args := #[Operand.tmp 95, Operand.tmp 96], argTypes := #[24, 24] }, type := 4, pos := "law.go:51", after := #[{ on := 25, ground := Ground.data }, { on := 26, ground := Ground.data }, { on := 24, ground := Ground.chain }, { on := 24, ground := Ground.guard }], guard := some (24, false) }, { dst := some 98, op := Op.unOp UnOp.not 4 (Operand.tmp 97), type := 4, pos := "law.go:51", after := #[{ on := 27, ground := Ground.data }, { on := 24, ground := Ground.guard }], guard := some (24, false) }, { dst := some 99, op := Op.pick (Operand.tmp 94) (Operand.const (Value.bool true)) (Operand.tmp 98), type := 4, pos := "law.go:51", after := #[{ on := 24, ground := Ground.data }, { on := 28, ground := Ground.data }], guard := none }, { dst := some 100, op := Op.move (Operand.tmp 99), type := 4, pos := "law.go:51", after := #[{ on := 29, ground := Ground.data }, { on := 27, ground := Ground.chain }], guard := none }, { dst := some 101, op := Op.move (Operand.tmp 13), type := 31, pos := "law.go:51", after := #[{ on := 30, ground := Ground.guard }], guard := some (30, false) }, { dst := some 102, op := Op.move (Operand.tmp 15), type := 31, pos := "law.go:51", after := #[{ on := 30, ground := Ground.guard }], guard := some (30, false) }, { dst := some 103, op := Op.binOp BinOp.neq 31 (Operand.tmp 101) (Operand.tmp 102) 31, type := 4, pos := "law.go:51", after := #[{ on := 31, ground := Ground.data }, { on := 32, ground := Ground.data }, { on := 30, ground := Ground.guard }], guard := some (30, false) }, { dst := some 104, op := Op.pick (Operand.tmp 100) (Operand.const (Value.bool true)) (Operand.tmp 103), type := 4, pos := "law.go:51", after := #[{ on := 30, ground := Ground.data }, { on := 33, ground := Ground.data }], guard := none }] true).wp Tryz.prog Q { tmps := #[x0, x1, x2, .pointer (some ⟨a0, 0, none⟩), .pointer (some ⟨a1, 0, none⟩), x5, x6, x7, .int .i64 ra, .int .i64 rc, .int .i64 ra, .int .i64 rc, .pointer (some ⟨cb, 0, none⟩), .int .i64 ri, .pointer (some ⟨db, 0, none⟩), .int .i64 ri, x16, x17, x18, x19, x20, x21, x22, x23, x24, x25, x26, x27, x28, x29, x30, x31, x32, x33, x34, x35, x36, x37, x38, x39, x40, x41, x42, x43, x44, x45, x46, x47, x48, x49, x50, x51, x52, x53, x54, x55, x56, x57, x58, x59, x60, x61, x62, x63, x64, x65, x66, x67, x68, x69, x70, x71, x72, x73, x74, x75, x76, x77, x78, x79, x80, x81, x82, x83, x84, x85, x86, x87, x88, x89, x90, x91, x92, x93, x94, x95, x96, x97, x98, x99, x100, x101, x102, x103, x104, x105, x106, x107, x108, x109, x110, x111, x112, x113, x114, x115, x116, x117, x118, x119, x120, x121, x122, x123, x124, x125, x126, x127, x128, x129, x130, x131, x132, x133, x134, x135, x136, x137, x138, x139, x140, x141, x142, x143, x144, x145, x146, x147, x148, x149, x150, x151, x152, x153, x154, x155, x156, x157, x158, x159, x160, x161, x162, x163, x164, x165, x166, x167, x168, x169, x170, x171, x172, x173, x174, x175, x176, x177], defers := [] } wq := by
  have HQ := Lib.hid hQ
  clear hQ
  have hdr : Below wq.heap.size wq wq.drew := (Below.refl _ _).drew
  have hFd := hF.mono hdr hdr.size
  have hGd := hG.mono hdr hdr.size
  have hCd := hC.mono hdr hdr.size
  have hDd := hD.mono hdr hdr.size
  have l0 := bF.lt
  have l1 := bG.lt
  have l2 := bC.lt
  have l3 := bD.lt
  have hcall : ∀ X Y : World, (fun W => W.cell? ⟨a0, 0, none⟩ = some (.int .i64 f.eye) ∧ W.cell? ⟨a0, 1, none⟩ = some (.int .i64 f.rings) ∧ W.cell? ⟨a0, 2, none⟩ = some (.int .i64 f.sectors) ∧ W.cell? ⟨a0, 3, none⟩ = some (.slice A nA cp) ∧ W.cell? ⟨a1, 0, none⟩ = some (.int .i64 g.eye) ∧ W.cell? ⟨a1, 1, none⟩ = some (.int .i64 g.rings) ∧ W.cell? ⟨a1, 2, none⟩ = some (.int .i64 g.sectors) ∧ W.cell? ⟨a1, 3, none⟩ = some (.slice A1 nB cp1) ∧ W.cell? ⟨cb, 0, none⟩ = some (.int .i64 G.eye) ∧ W.cell? ⟨cb, 1, none⟩ = some (.int .i64 G.rings) ∧ W.cell? ⟨cb, 2, none⟩ = some (.int .i64 G.sectors) ∧ W.cell? ⟨cb, 3, none⟩ = some (.slice A6 n6 c6) ∧ W.cell? ⟨db, 0, none⟩ = some (.int .i64 G.eye) ∧ W.cell? ⟨db, 1, none⟩ = some (.int .i64 G.rings) ∧ W.cell? ⟨db, 2, none⟩ = some (.int .i64 G.sectors) ∧ W.cell? ⟨db, 3, none⟩ = some (.slice A8 n8 c8) ∧ Below wq.heap.size wq W ∧ wq.heap.size ≤ W.heap.size) X → Below X.heap.size X Y → (fun W => W.cell? ⟨a0, 0, none⟩ = some (.int .i64 f.eye) ∧ W.cell? ⟨a0, 1, none⟩ = some (.int .i64 f.rings) ∧ W.cell? ⟨a0, 2, none⟩ = some (.int .i64 f.sectors) ∧ W.cell? ⟨a0, 3, none⟩ = some (.slice A nA cp) ∧ W.cell? ⟨a1, 0, none⟩ = some (.int .i64 g.eye) ∧ W.cell? ⟨a1, 1, none⟩ = some (.int .i64 g.rings) ∧ W.cell? ⟨a1, 2, none⟩ = some (.int .i64 g.sectors) ∧ W.cell? ⟨a1, 3, none⟩ = some (.slice A1 nB cp1) ∧ W.cell? ⟨cb, 0, none⟩ = some (.int .i64 G.eye) ∧ W.cell? ⟨cb, 1, none⟩ = some (.int .i64 G.rings) ∧ W.cell? ⟨cb, 2, none⟩ = some (.int .i64 G.sectors) ∧ W.cell? ⟨cb, 3, none⟩ = some (.slice A6 n6 c6) ∧ W.cell? ⟨db, 0, none⟩ = some (.int .i64 G.eye) ∧ W.cell? ⟨db, 1, none⟩ = some (.int .i64 G.rings) ∧ W.cell? ⟨db, 2, none⟩ = some (.int .i64 G.sectors) ∧ W.cell? ⟨db, 3, none⟩ = some (.slice A8 n8 c8) ∧ Below wq.heap.size wq W ∧ wq.heap.size ≤ W.heap.size) Y := by
    rintro X Y ⟨zx0, zx1, zx2, zx3, zx4, zx5, zx6, zx7, zx8, zx9, zx10, zx11, zx12, zx13, zx14, zx15, xb, xs⟩ hb
    have hb2 := Below.mono (B' := wq.heap.size) hb xs
    exact ⟨keepd zx0 hb2 l0, keepd zx1 hb2 l0, keepd zx2 hb2 l0, keepd zx3 hb2 l0, keepd zx4 hb2 l1, keepd zx5 hb2 l1, keepd zx6 hb2 l1, keepd zx7 hb2 l1, keepd zx8 hb2 l2, keepd zx9 hb2 l2, keepd zx10 hb2 l2, keepd zx11 hb2 l2, keepd zx12 hb2 l3, keepd zx13 hb2 l3, keepd zx14 hb2 l3, keepd zx15 hb2 l3, Below.trans xb hb2, Nat.le_trans xs hb.size⟩
  have hini : (fun W => W.cell? ⟨a0, 0, none⟩ = some (.int .i64 f.eye) ∧ W.cell? ⟨a0, 1, none⟩ = some (.int .i64 f.rings) ∧ W.cell? ⟨a0, 2, none⟩ = some (.int .i64 f.sectors) ∧ W.cell? ⟨a0, 3, none⟩ = some (.slice A nA cp) ∧ W.cell? ⟨a1, 0, none⟩ = some (.int .i64 g.eye) ∧ W.cell? ⟨a1, 1, none⟩ = some (.int .i64 g.rings) ∧ W.cell? ⟨a1, 2, none⟩ = some (.int .i64 g.sectors) ∧ W.cell? ⟨a1, 3, none⟩ = some (.slice A1 nB cp1) ∧ W.cell? ⟨cb, 0, none⟩ = some (.int .i64 G.eye) ∧ W.cell? ⟨cb, 1, none⟩ = some (.int .i64 G.rings) ∧ W.cell? ⟨cb, 2, none⟩ = some (.int .i64 G.sectors) ∧ W.cell? ⟨cb, 3, none⟩ = some (.slice A6 n6 c6) ∧ W.cell? ⟨db, 0, none⟩ = some (.int .i64 G.eye) ∧ W.cell? ⟨db, 1, none⟩ = some (.int .i64 G.rings) ∧ W.cell? ⟨db, 2, none⟩ = some (.int .i64 G.sectors) ∧ W.cell? ⟨db, 3, none⟩ = some (.slice A8 n8 c8) ∧ Below wq.heap.size wq W ∧ wq.heap.size ≤ W.heap.size) wq.drew := ⟨bF.cell 0, bF.cell 1, bF.cell 2, bF.cell 3, bG.cell 0, bG.cell 1, bG.cell 2, bG.cell 3, bC.cell 0, bC.cell 1, bC.cell 2, bC.cell 3, bD.cell 0, bD.cell 1, bD.cell 2, bD.cell 3, hdr, Nat.le_refl _⟩
  have e1 : (validB f != validB f) = false := by simp
  have e2 : (sameB f g != sameB f g) = false := by simp
  have e3 : (ra != ra) = false := by simp
  have e4 : (rc != rc) = false := by simp
  have e5 : (ri != ri) = false := by simp
  have e6 : sameB G G = true := sameB_iff.2 rfl
  have Hcall := Lib.hid hcall
  have Hini := Lib.hid hini
  clear hF hG hC hD bF bG bC bD hdr l0 l1 l2 l3 hcall hini
  refine wp_region_noPanic ?_
  refine wp_region_held_drew (S := (fun W => W.cell? ⟨a0, 0, none⟩ = some (.int .i64 f.eye) ∧ W.cell? ⟨a0, 1, none⟩ = some (.int .i64 f.rings) ∧ W.cell? ⟨a0, 2, none⟩ = some (.int .i64 f.sectors) ∧ W.cell? ⟨a0, 3, none⟩ = some (.slice A nA cp) ∧ W.cell? ⟨a1, 0, none⟩ = some (.int .i64 g.eye) ∧ W.cell? ⟨a1, 1, none⟩ = some (.int .i64 g.rings) ∧ W.cell? ⟨a1, 2, none⟩ = some (.int .i64 g.sectors) ∧ W.cell? ⟨a1, 3, none⟩ = some (.slice A1 nB cp1) ∧ W.cell? ⟨cb, 0, none⟩ = some (.int .i64 G.eye) ∧ W.cell? ⟨cb, 1, none⟩ = some (.int .i64 G.rings) ∧ W.cell? ⟨cb, 2, none⟩ = some (.int .i64 G.sectors) ∧ W.cell? ⟨cb, 3, none⟩ = some (.slice A6 n6 c6) ∧ W.cell? ⟨db, 0, none⟩ = some (.int .i64 G.eye) ∧ W.cell? ⟨db, 1, none⟩ = some (.int .i64 G.rings) ∧ W.cell? ⟨db, 2, none⟩ = some (.int .i64 G.sectors) ∧ W.cell? ⟨db, 3, none⟩ = some (.slice A8 n8 c8) ∧ Below wq.heap.size wq W ∧ wq.heap.size ≤ W.heap.size)) (by kernel_rfl) Hini.out (fun hHeld => ?_)
  refine wpAnyH_take (i := 0) (oi := { dst := some 70, op := Op.load 24 (Operand.tmp 3), type := 24, pos := "law.go:51", after := #[], guard := none }) (v := ?vh1) rfl ?hsh1 ?hfh1 ?hrh1 ?hQh1 ?hyh1 (by assumption) ?resth1
  case hsh1 => kernel_rfl
  case hfh1 => kernel_rfl
  case hrh1 => kernel_rfl
  case hQh1 => exact fun _ _ _ h => h
  case hyh1 => (refine Or.inl ⟨by rfl, ?_⟩; intro w hSw; (try dsimp only at hSw); go_simp; try with_reducible rfl)
  try simp only [Act.put, List.setIfInBounds_toArray, List.set_cons_zero, List.set_cons_succ]
  refine wpAnyH_take (i := 2) (oi := { dst := some 72, op := Op.load 24 (Operand.tmp 3), type := 24, pos := "law.go:51", after := #[], guard := none }) (v := ?vh2) rfl ?hsh2 ?hfh2 ?hrh2 ?hQh2 ?hyh2 (by assumption) ?resth2
  case hsh2 => kernel_rfl
  case hfh2 => kernel_rfl
  case hrh2 => kernel_rfl
  case hQh2 => exact fun _ _ _ h => h
  case hyh2 => (refine Or.inl ⟨by rfl, ?_⟩; intro w hSw; (try dsimp only at hSw); go_simp; try with_reducible rfl)
  try simp only [Act.put, List.setIfInBounds_toArray, List.set_cons_zero, List.set_cons_succ]
  refine wpAnyH_ready (rs := [1]) (by kernel_rfl) (by simp) ?_
  refine AllReadyH.cons (o := _) (by rfl) (fun K hK => ?_) AllReadyH.nil
  go_simp
  go_at_call 13
  refine (Valid_c f _ _ hFd).mono ?_
  rintro e w10 ⟨rfl, hb10⟩
  have hF10 := hFd.mono hb10 hb10.size
  have hG10 := hGd.mono hb10 hb10.size
  have hC10 := hCd.mono hb10 hb10.size
  have hD10 := hDd.mono hb10 hb10.size
  go_wp2_with fail
  refine hK.out _ _ (Hcall.out _ _ hHeld (by assumption)) (fun hHeld0 => ?_)
  clear hK K hHeld
  have hHeld := hHeld0
  clear hHeld0
  try simp only [Act.put, List.setIfInBounds_toArray, List.set_cons_zero, List.set_cons_succ]
  refine wpAnyH_ready (rs := [3]) (by kernel_rfl) (by simp) ?_
  refine AllReadyH.cons (o := _) (by rfl) (fun K hK => ?_) AllReadyH.nil
  go_simp
  go_at_call 14
  refine (rValid_c f _ _ hF10).mono ?_
  rintro e w11 ⟨rfl, hb11⟩
  have hF11 := hF10.mono hb11 hb11.size
  have hG11 := hG10.mono hb11 hb11.size
  have hC11 := hC10.mono hb11 hb11.size
  have hD11 := hD10.mono hb11 hb11.size
  go_wp2_with fail
  refine hK.out _ _ (Hcall.out _ _ hHeld (by assumption)) (fun hHeld1 => ?_)
  clear hK K hHeld
  have hHeld := hHeld1
  clear hHeld1
  try simp only [Act.put, List.setIfInBounds_toArray, List.set_cons_zero, List.set_cons_succ]
  refine wpAnyH_take (i := 4) (oi := { dst := some 74, op := Op.binOp BinOp.neq 4 (Operand.tmp 71) (Operand.tmp 73) 4, type := 4, pos := "law.go:51", after := #[{ on := 1, ground := Ground.data }, { on := 3, ground := Ground.data }], guard := none }) (v := ?vh3) rfl ?hsh3 ?hfh3 ?hrh3 ?hQh3 ?hyh3 (by assumption) ?resth3
  case hsh3 => kernel_rfl
  case hfh3 => kernel_rfl
  case hrh3 => kernel_rfl
  case hQh3 => exact fun _ _ _ h => h
  case hyh3 => (refine Or.inl ⟨by rfl, ?_⟩; intro w hSw; (try dsimp only at hSw); go_simp; try with_reducible rfl)
  try simp only [Act.put, List.setIfInBounds_toArray, List.set_cons_zero, List.set_cons_succ]
  refine wpAnyH_take (i := 5) (oi := { dst := some 75, op := Op.move (Operand.tmp 74), type := 4, pos := "law.go:51", after := #[{ on := 4, ground := Ground.data }, { on := 3, ground := Ground.chain }], guard := none }) (v := ?vh4) rfl ?hsh4 ?hfh4 ?hrh4 ?hQh4 ?hyh4 (by assumption) ?resth4
  case hsh4 => kernel_rfl
  case hfh4 => kernel_rfl
  case hrh4 => kernel_rfl
  case hQh4 => exact fun _ _ _ h => h
  case hyh4 => (refine Or.inl ⟨by rfl, ?_⟩; intro w hSw; (try dsimp only at hSw); go_simp; try with_reducible rfl)
  try simp only [Act.put, List.setIfInBounds_toArray, List.set_cons_zero, List.set_cons_succ]
  refine wpAnyH_take (i := 6) (oi := { dst := some 76, op := Op.load 24 (Operand.tmp 3), type := 24, pos := "law.go:51", after := #[{ on := 5, ground := Ground.guard }], guard := some (5, false) }) (v := ?vh5) rfl ?hsh5 ?hfh5 ?hrh5 ?hQh5 ?hyh5 (by assumption) ?resth5
  case hsh5 => kernel_rfl
  case hfh5 => kernel_rfl
  case hrh5 => kernel_rfl
  case hQh5 => exact fun _ _ _ h => h
  case hyh5 => (refine Or.inl ⟨by rfl, ?_⟩; intro w hSw; (try dsimp only at hSw); go_simp; try with_reducible rfl)
  try simp only [Act.put, List.setIfInBounds_toArray, List.set_cons_zero, List.set_cons_succ]
  refine wpAnyH_take (i := 7) (oi := { dst := some 77, op := Op.load 24 (Operand.tmp 4), type := 24, pos := "law.go:51", after := #[{ on := 5, ground := Ground.guard }], guard := some (5, false) }) (v := ?vh6) rfl ?hsh6 ?hfh6 ?hrh6 ?hQh6 ?hyh6 (by assumption) ?resth6
  case hsh6 => kernel_rfl
  case hfh6 => kernel_rfl
  case hrh6 => kernel_rfl
  case hQh6 => exact fun _ _ _ h => h
  case hyh6 => (refine Or.inl ⟨by rfl, ?_⟩; intro w hSw; (try dsimp only at hSw); go_simp; try with_reducible rfl)
  try simp only [Act.put, List.setIfInBounds_toArray, List.set_cons_zero, List.set_cons_succ]
  refine wpAnyH_take (i := 9) (oi := { dst := some 79, op := Op.load 24 (Operand.tmp 3), type := 24, pos := "law.go:51", after := #[{ on := 5, ground := Ground.guard }], guard := some (5, false) }) (v := ?vh7) rfl ?hsh7 ?hfh7 ?hrh7 ?hQh7 ?hyh7 (by assumption) ?resth7
  case hsh7 => kernel_rfl
  case hfh7 => kernel_rfl
  case hrh7 => kernel_rfl
  case hQh7 => exact fun _ _ _ h => h
  case hyh7 => (refine Or.inl ⟨by rfl, ?_⟩; intro w hSw; (try dsimp only at hSw); go_simp; try with_reducible rfl)
  try simp only [Act.put, List.setIfInBounds_toArray, List.set_cons_zero, List.set_cons_succ]
  refine wpAnyH_take (i := 10) (oi := { dst := some 80, op := Op.load 24 (Operand.tmp 4), type := 24, pos := "law.go:51", after := #[{ on := 5, ground := Ground.guard }], guard := some (5, false) }) (v := ?vh8) rfl ?hsh8 ?hfh8 ?hrh8 ?hQh8 ?hyh8 (by assumption) ?resth8
  case hsh8 => kernel_rfl
  case hfh8 => kernel_rfl
  case hrh8 => kernel_rfl
  case hQh8 => exact fun _ _ _ h => h
  case hyh8 => (refine Or.inl ⟨by rfl, ?_⟩; intro w hSw; (try dsimp only at hSw); go_simp; try with_reducible rfl)
  try simp only [Act.put, List.setIfInBounds_toArray, List.set_cons_zero, List.set_cons_succ]
  refine wpAnyH_ready (rs := [8]) (by kernel_rfl) (by simp) ?_
  refine AllReadyH.cons (o := _) (by rfl) (fun K hK => ?_) AllReadyH.nil
  go_simp
  go_at_call 15
  refine (Same_c f g _ _ _ hF11 hG11).mono ?_
  rintro e w12 ⟨rfl, hb12⟩
  have hF12 := hF11.mono hb12 hb12.size
  have hG12 := hG11.mono hb12 hb12.size
  have hC12 := hC11.mono hb12 hb12.size
  have hD12 := hD11.mono hb12 hb12.size
  go_wp2_with fail
  refine hK.out _ _ (Hcall.out _ _ hHeld (by assumption)) (fun hHeld2 => ?_)
  clear hK K hHeld
  have hHeld := hHeld2
  clear hHeld2
  try simp only [Act.put, List.setIfInBounds_toArray, List.set_cons_zero, List.set_cons_succ]
  refine wpAnyH_ready (rs := [11]) (by kernel_rfl) (by simp) ?_
  refine AllReadyH.cons (o := _) (by rfl) (fun K hK => ?_) AllReadyH.nil
  go_simp
  go_at_call 16
  refine (rSame_c f g _ _ _ hF12 hG12).mono ?_
  rintro e w13 ⟨rfl, hb13⟩
  have hC13 := hC12.mono hb13 hb13.size
  have hD13 := hD12.mono hb13 hb13.size
  go_wp2_with fail
  refine hK.out _ _ (Hcall.out _ _ hHeld (by assumption)) (fun hHeld3 => ?_)
  clear hK K hHeld
  have hHeld := hHeld3
  clear hHeld3
  try simp only [Act.put, List.setIfInBounds_toArray, List.set_cons_zero, List.set_cons_succ]
  refine wpAnyH_take (i := 12) (oi := { dst := some 82, op := Op.binOp BinOp.neq 4 (Operand.tmp 78) (Operand.tmp 81) 4, type := 4, pos := "law.go:51", after := #[{ on := 8, ground := Ground.data }, { on := 11, ground := Ground.data }, { on := 5, ground := Ground.guard }], guard := some (5, false) }) (v := ?vh9) rfl ?hsh9 ?hfh9 ?hrh9 ?hQh9 ?hyh9 (by assumption) ?resth9
  case hsh9 => kernel_rfl
  case hfh9 => kernel_rfl
  case hrh9 => kernel_rfl
  case hQh9 => exact fun _ _ _ h => h
  case hyh9 => (refine Or.inl ⟨by rfl, ?_⟩; intro w hSw; (try dsimp only at hSw); go_simp; try with_reducible rfl)
  try simp only [Act.put, List.setIfInBounds_toArray, List.set_cons_zero, List.set_cons_succ]
  refine wpAnyH_take (i := 13) (oi := { dst := some 83, op := Op.pick (Operand.tmp 75) (Operand.const (Value.bool true)) (Operand.tmp 82), type := 4, pos := "law.go:51", after := #[{ on := 5, ground := Ground.data }, { on := 12, ground := Ground.data }], guard := none }) (v := ?vh10) rfl ?hsh10 ?hfh10 ?hrh10 ?hQh10 ?hyh10 (by assumption) ?resth10
  case hsh10 => kernel_rfl
  case hfh10 => kernel_rfl
  case hrh10 => kernel_rfl
  case hQh10 => exact fun _ _ _ h => h
  case hyh10 => (refine Or.inl ⟨by rfl, ?_⟩; intro w hSw; (try dsimp only at hSw); go_simp; try with_reducible rfl)
  try simp only [Act.put, List.setIfInBounds_toArray, List.set_cons_zero, List.set_cons_succ]
  refine wpAnyH_take (i := 14) (oi := { dst := some 84, op := Op.move (Operand.tmp 83), type := 4, pos := "law.go:51", after := #[{ on := 13, ground := Ground.data }, { on := 11, ground := Ground.chain }], guard := none }) (v := ?vh11) rfl ?hsh11 ?hfh11 ?hrh11 ?hQh11 ?hyh11 (by assumption) ?resth11
  case hsh11 => kernel_rfl
  case hfh11 => kernel_rfl
  case hrh11 => kernel_rfl
  case hQh11 => exact fun _ _ _ h => h
  case hyh11 => (refine Or.inl ⟨by rfl, ?_⟩; intro w hSw; (try dsimp only at hSw); go_simp; try with_reducible rfl)
  try simp only [Act.put, List.setIfInBounds_toArray, List.set_cons_zero, List.set_cons_succ]
  refine wpAnyH_take (i := 15) (oi := { dst := some 85, op := Op.move (Operand.tmp 8), type := 3, pos := "law.go:51", after := #[{ on := 14, ground := Ground.guard }], guard := some (14, false) }) (v := ?vh12) rfl ?hsh12 ?hfh12 ?hrh12 ?hQh12 ?hyh12 (by assumption) ?resth12
  case hsh12 => kernel_rfl
  case hfh12 => kernel_rfl
  case hrh12 => kernel_rfl
  case hQh12 => exact fun _ _ _ h => h
  case hyh12 => (refine Or.inl ⟨by rfl, ?_⟩; intro w hSw; (try dsimp only at hSw); go_simp; try with_reducible rfl)
  try simp only [Act.put, List.setIfInBounds_toArray, List.set_cons_zero, List.set_cons_succ]
  refine wpAnyH_take (i := 16) (oi := { dst := some 86, op := Op.move (Operand.tmp 10), type := 3, pos := "law.go:51", after := #[{ on := 14, ground := Ground.guard }], guard := some (14, false) }) (v := ?vh13) rfl ?hsh13 ?hfh13 ?hrh13 ?hQh13 ?hyh13 (by assumption) ?resth13
  case hsh13 => kernel_rfl
  case hfh13 => kernel_rfl
  case hrh13 => kernel_rfl
  case hQh13 => exact fun _ _ _ h => h
  case hyh13 => (refine Or.inl ⟨by rfl, ?_⟩; intro w hSw; (try dsimp only at hSw); go_simp; try with_reducible rfl)
  try simp only [Act.put, List.setIfInBounds_toArray, List.set_cons_zero, List.set_cons_succ]
  refine wpAnyH_take (i := 17) (oi := { dst := some 87, op := Op.binOp BinOp.neq 3 (Operand.tmp 85) (Operand.tmp 86) 3, type := 4, pos := "law.go:51", after := #[{ on := 15, ground := Ground.data }, { on := 16, ground := Ground.data }, { on := 14, ground := Ground.guard }], guard := some (14, false) }) (v := ?vh14) rfl ?hsh14 ?hfh14 ?hrh14 ?hQh14 ?hyh14 (by assumption) ?resth14
  case hsh14 => kernel_rfl
  case hfh14 => kernel_rfl
  case hrh14 => kernel_rfl
  case hQh14 => exact fun _ _ _ h => h
  case hyh14 => (refine Or.inl ⟨by rfl, ?_⟩; intro w hSw; (try dsimp only at hSw); go_simp; try with_reducible rfl)
  try simp only [Act.put, List.setIfInBounds_toArray, List.set_cons_zero, List.set_cons_succ]
  refine wpAnyH_take (i := 18) (oi := { dst := some 88, op := Op.pick (Operand.tmp 84) (Operand.const (Value.bool true)) (Operand.tmp 87), type := 4, pos := "law.go:51", after := #[{ on := 14, ground := Ground.data }, { on := 17, ground := Ground.data }], guard := none }) (v := ?vh15) rfl ?hsh15 ?hfh15 ?hrh15 ?hQh15 ?hyh15 (by assumption) ?resth15
  case hsh15 => kernel_rfl
  case hfh15 => kernel_rfl
  case hrh15 => kernel_rfl
  case hQh15 => exact fun _ _ _ h => h
  case hyh15 => (refine Or.inl ⟨by rfl, ?_⟩; intro w hSw; (try dsimp only at hSw); go_simp; try with_reducible rfl)
  try simp only [Act.put, List.setIfInBounds_toArray, List.set_cons_zero, List.set_cons_succ]
  refine wpAnyH_take (i := 19) (oi := { dst := some 89, op := Op.move (Operand.tmp 88), type := 4, pos := "law.go:51", after := #[{ on := 18, ground := Ground.data }, { on := 14, ground := Ground.chain }], guard := none }) (v := ?vh16) rfl ?hsh16 ?hfh16 ?hrh16 ?hQh16 ?hyh16 (by assumption) ?resth16
  case hsh16 => kernel_rfl
  case hfh16 => kernel_rfl
  case hrh16 => kernel_rfl
  case hQh16 => exact fun _ _ _ h => h
  case hyh16 => (refine Or.inl ⟨by rfl, ?_⟩; intro w hSw; (try dsimp only at hSw); go_simp; try with_reducible rfl)
  try simp only [Act.put, List.setIfInBounds_toArray, List.set_cons_zero, List.set_cons_succ]
  refine wpAnyH_take (i := 20) (oi := { dst := some 90, op := Op.move (Operand.tmp 9), type := 31, pos := "law.go:51", after := #[{ on := 19, ground := Ground.guard }], guard := some (19, false) }) (v := ?vh17) rfl ?hsh17 ?hfh17 ?hrh17 ?hQh17 ?hyh17 (by assumption) ?resth17
  case hsh17 => kernel_rfl
  case hfh17 => kernel_rfl
  case hrh17 => kernel_rfl
  case hQh17 => exact fun _ _ _ h => h
  case hyh17 => (refine Or.inl ⟨by rfl, ?_⟩; intro w hSw; (try dsimp only at hSw); go_simp; try with_reducible rfl)
  try simp only [Act.put, List.setIfInBounds_toArray, List.set_cons_zero, List.set_cons_succ]
  refine wpAnyH_take (i := 21) (oi := { dst := some 91, op := Op.move (Operand.tmp 11), type := 31, pos := "law.go:51", after := #[{ on := 19, ground := Ground.guard }], guard := some (19, false) }) (v := ?vh18) rfl ?hsh18 ?hfh18 ?hrh18 ?hQh18 ?hyh18 (by assumption) ?resth18
  case hsh18 => kernel_rfl
  case hfh18 => kernel_rfl
  case hrh18 => kernel_rfl
  case hQh18 => exact fun _ _ _ h => h
  case hyh18 => (refine Or.inl ⟨by rfl, ?_⟩; intro w hSw; (try dsimp only at hSw); go_simp; try with_reducible rfl)
  try simp only [Act.put, List.setIfInBounds_toArray, List.set_cons_zero, List.set_cons_succ]
  refine wpAnyH_take (i := 22) (oi := { dst := some 92, op := Op.binOp BinOp.neq 31 (Operand.tmp 90) (Operand.tmp 91) 31, type := 4, pos := "law.go:51", after := #[{ on := 20, ground := Ground.data }, { on := 21, ground := Ground.data }, { on := 19, ground := Ground.guard }], guard := some (19, false) }) (v := ?vh19) rfl ?hsh19 ?hfh19 ?hrh19 ?hQh19 ?hyh19 (by assumption) ?resth19
  case hsh19 => kernel_rfl
  case hfh19 => kernel_rfl
  case hrh19 => kernel_rfl
  case hQh19 => exact fun _ _ _ h => h
  case hyh19 => (refine Or.inl ⟨by rfl, ?_⟩; intro w hSw; (try dsimp only at hSw); go_simp; try with_reducible rfl)
  try simp only [Act.put, List.setIfInBounds_toArray, List.set_cons_zero, List.set_cons_succ]
  refine wpAnyH_take (i := 23) (oi := { dst := some 93, op := Op.pick (Operand.tmp 89) (Operand.const (Value.bool true)) (Operand.tmp 92), type := 4, pos := "law.go:51", after := #[{ on := 19, ground := Ground.data }, { on := 22, ground := Ground.data }], guard := none }) (v := ?vh20) rfl ?hsh20 ?hfh20 ?hrh20 ?hQh20 ?hyh20 (by assumption) ?resth20
  case hsh20 => kernel_rfl
  case hfh20 => kernel_rfl
  case hrh20 => kernel_rfl
  case hQh20 => exact fun _ _ _ h => h
  case hyh20 => (refine Or.inl ⟨by rfl, ?_⟩; intro w hSw; (try dsimp only at hSw); go_simp; try with_reducible rfl)
  try simp only [Act.put, List.setIfInBounds_toArray, List.set_cons_zero, List.set_cons_succ]
  refine wpAnyH_take (i := 24) (oi := { dst := some 94, op := Op.move (Operand.tmp 93), type := 4, pos := "law.go:51", after := #[{ on := 23, ground := Ground.data }, { on := 19, ground := Ground.chain }], guard := none }) (v := ?vh21) rfl ?hsh21 ?hfh21 ?hrh21 ?hQh21 ?hyh21 (by assumption) ?resth21
  case hsh21 => kernel_rfl
  case hfh21 => kernel_rfl
  case hrh21 => kernel_rfl
  case hQh21 => exact fun _ _ _ h => h
  case hyh21 => (refine Or.inl ⟨by rfl, ?_⟩; intro w hSw; (try dsimp only at hSw); go_simp; try with_reducible rfl)
  try simp only [Act.put, List.setIfInBounds_toArray, List.set_cons_zero, List.set_cons_succ]
  refine wpAnyH_take (i := 25) (oi := { dst := some 95, op := Op.load 24 (Operand.tmp 12), type := 24, pos := "law.go:51", after := #[{ on := 24, ground := Ground.guard }], guard := some (24, false) }) (v := ?vh22) rfl ?hsh22 ?hfh22 ?hrh22 ?hQh22 ?hyh22 (by assumption) ?resth22
  case hsh22 => kernel_rfl
  case hfh22 => kernel_rfl
  case hrh22 => kernel_rfl
  case hQh22 => exact fun _ _ _ h => h
  case hyh22 => (refine Or.inl ⟨by rfl, ?_⟩; intro w hSw; (try dsimp only at hSw); go_simp; try with_reducible rfl)
  try simp only [Act.put, List.setIfInBounds_toArray, List.set_cons_zero, List.set_cons_succ]
  refine wpAnyH_take (i := 26) (oi := { dst := some 96, op := Op.load 24 (Operand.tmp 14), type := 24, pos := "law.go:51", after := #[{ on := 24, ground := Ground.guard }], guard := some (24, false) }) (v := ?vh23) rfl ?hsh23 ?hfh23 ?hrh23 ?hQh23 ?hyh23 (by assumption) ?resth23
  case hsh23 => kernel_rfl
  case hfh23 => kernel_rfl
  case hrh23 => kernel_rfl
  case hQh23 => exact fun _ _ _ h => h
  case hyh23 => (refine Or.inl ⟨by rfl, ?_⟩; intro w hSw; (try dsimp only at hSw); go_simp; try with_reducible rfl)
  try simp only [Act.put, List.setIfInBounds_toArray, List.set_cons_zero, List.set_cons_succ]
  refine wpAnyH_ready (rs := [27]) (by kernel_rfl) (by simp) ?_
  refine AllReadyH.cons (o := _) (by rfl) (fun K hK => ?_) AllReadyH.nil
  go_simp
  go_at_call 16
  refine (rSame_c G G _ _ _ hC13 hD13).mono ?_
  rw [e6]
  rintro e w14 ⟨rfl, hb14⟩
  go_wp2_with fail
  refine hK.out _ _ (Hcall.out _ _ hHeld (by assumption)) (fun hHeld4 => ?_)
  clear hK K hHeld
  have hHeld := hHeld4
  clear hHeld4
  try simp only [Act.put, List.setIfInBounds_toArray, List.set_cons_zero, List.set_cons_succ]
  refine wpAnyH_take (i := 28) (oi := { dst := some 98, op := Op.unOp UnOp.not 4 (Operand.tmp 97), type := 4, pos := "law.go:51", after := #[{ on := 27, ground := Ground.data }, { on := 24, ground := Ground.guard }], guard := some (24, false) }) (v := ?vh24) rfl ?hsh24 ?hfh24 ?hrh24 ?hQh24 ?hyh24 (by assumption) ?resth24
  case hsh24 => kernel_rfl
  case hfh24 => kernel_rfl
  case hrh24 => kernel_rfl
  case hQh24 => exact fun _ _ _ h => h
  case hyh24 => (refine Or.inl ⟨by rfl, ?_⟩; intro w hSw; (try dsimp only at hSw); go_simp; try with_reducible rfl)
  try simp only [Act.put, List.setIfInBounds_toArray, List.set_cons_zero, List.set_cons_succ]
  refine wpAnyH_take (i := 29) (oi := { dst := some 99, op := Op.pick (Operand.tmp 94) (Operand.const (Value.bool true)) (Operand.tmp 98), type := 4, pos := "law.go:51", after := #[{ on := 24, ground := Ground.data }, { on := 28, ground := Ground.data }], guard := none }) (v := ?vh25) rfl ?hsh25 ?hfh25 ?hrh25 ?hQh25 ?hyh25 (by assumption) ?resth25
  case hsh25 => kernel_rfl
  case hfh25 => kernel_rfl
  case hrh25 => kernel_rfl
  case hQh25 => exact fun _ _ _ h => h
  case hyh25 => (refine Or.inl ⟨by rfl, ?_⟩; intro w hSw; (try dsimp only at hSw); go_simp; try with_reducible rfl)
  try simp only [Act.put, List.setIfInBounds_toArray, List.set_cons_zero, List.set_cons_succ]
  refine wpAnyH_take (i := 30) (oi := { dst := some 100, op := Op.move (Operand.tmp 99), type := 4, pos := "law.go:51", after := #[{ on := 29, ground := Ground.data }, { on := 27, ground := Ground.chain }], guard := none }) (v := ?vh26) rfl ?hsh26 ?hfh26 ?hrh26 ?hQh26 ?hyh26 (by assumption) ?resth26
  case hsh26 => kernel_rfl
  case hfh26 => kernel_rfl
  case hrh26 => kernel_rfl
  case hQh26 => exact fun _ _ _ h => h
  case hyh26 => (refine Or.inl ⟨by rfl, ?_⟩; intro w hSw; (try dsimp only at hSw); go_simp; try with_reducible rfl)
  try simp only [Act.put, List.setIfInBounds_toArray, List.set_cons_zero, List.set_cons_succ]
  refine wpAnyH_take (i := 31) (oi := { dst := some 101, op := Op.move (Operand.tmp 13), type := 31, pos := "law.go:51", after := #[{ on := 30, ground := Ground.guard }], guard := some (30, false) }) (v := ?vh27) rfl ?hsh27 ?hfh27 ?hrh27 ?hQh27 ?hyh27 (by assumption) ?resth27
  case hsh27 => kernel_rfl
  case hfh27 => kernel_rfl
  case hrh27 => kernel_rfl
  case hQh27 => exact fun _ _ _ h => h
  case hyh27 => (refine Or.inl ⟨by rfl, ?_⟩; intro w hSw; (try dsimp only at hSw); go_simp; try with_reducible rfl)
  try simp only [Act.put, List.setIfInBounds_toArray, List.set_cons_zero, List.set_cons_succ]
  refine wpAnyH_take (i := 32) (oi := { dst := some 102, op := Op.move (Operand.tmp 15), type := 31, pos := "law.go:51", after := #[{ on := 30, ground := Ground.guard }], guard := some (30, false) }) (v := ?vh28) rfl ?hsh28 ?hfh28 ?hrh28 ?hQh28 ?hyh28 (by assumption) ?resth28
  case hsh28 => kernel_rfl
  case hfh28 => kernel_rfl
  case hrh28 => kernel_rfl
  case hQh28 => exact fun _ _ _ h => h
  case hyh28 => (refine Or.inl ⟨by rfl, ?_⟩; intro w hSw; (try dsimp only at hSw); go_simp; try with_reducible rfl)
  try simp only [Act.put, List.setIfInBounds_toArray, List.set_cons_zero, List.set_cons_succ]
  refine wpAnyH_take (i := 33) (oi := { dst := some 103, op := Op.binOp BinOp.neq 31 (Operand.tmp 101) (Operand.tmp 102) 31, type := 4, pos := "law.go:51", after := #[{ on := 31, ground := Ground.data }, { on := 32, ground := Ground.data }, { on := 30, ground := Ground.guard }], guard := some (30, false) }) (v := ?vh29) rfl ?hsh29 ?hfh29 ?hrh29 ?hQh29 ?hyh29 (by assumption) ?resth29
  case hsh29 => kernel_rfl
  case hfh29 => kernel_rfl
  case hrh29 => kernel_rfl
  case hQh29 => exact fun _ _ _ h => h
  case hyh29 => (refine Or.inl ⟨by rfl, ?_⟩; intro w hSw; (try dsimp only at hSw); go_simp; try with_reducible rfl)
  try simp only [Act.put, List.setIfInBounds_toArray, List.set_cons_zero, List.set_cons_succ]
  refine wpAnyH_take (i := 34) (oi := { dst := some 104, op := Op.pick (Operand.tmp 100) (Operand.const (Value.bool true)) (Operand.tmp 103), type := 4, pos := "law.go:51", after := #[{ on := 30, ground := Ground.data }, { on := 33, ground := Ground.data }], guard := none }) (v := ?vh30) rfl ?hsh30 ?hfh30 ?hrh30 ?hQh30 ?hyh30 (by assumption) ?resth30
  case hsh30 => kernel_rfl
  case hfh30 => kernel_rfl
  case hrh30 => kernel_rfl
  case hQh30 => exact fun _ _ _ h => h
  case hyh30 => (refine Or.inl ⟨by rfl, ?_⟩; intro w hSw; (try dsimp only at hSw); go_simp; try with_reducible rfl)
  try simp only [Act.put, List.setIfInBounds_toArray, List.set_cons_zero, List.set_cons_succ]
  refine wpAnyH_done (by kernel_rfl) ?_ _
  refine NoPanic.normal ?_
  obtain ⟨-, -, -, -, -, -, -, -, -, -, -, -, -, -, -, -, xb, -⟩ := hHeld
  exact HQ.out _ _ _ _ _ _ _ _ _ _ _ _ _ _ _ _ _ _ _ _ _ _ _ _ _ _ _ _ _ _ _ _ _ _ _ xb

end Go.Proofs.YtpejcdjgggcjlaaGreatDoor

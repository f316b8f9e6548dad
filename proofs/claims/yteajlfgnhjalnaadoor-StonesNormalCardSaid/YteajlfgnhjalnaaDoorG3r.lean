/- StonesNormal: the test in its last loop, a region by itself. -/
import Derived.Test.YteajlfgnhjalnaaDoorF2
import Derived.Deep.RegionHeld3
namespace Go.Proofs.YteajlfgnhjalnaaDoor
open Go.RowKit

set_option maxRecDepth 100000 in
set_option maxHeartbeats 2000000 in
theorem reg21_c (g : Fc) (A16 A' : Option Addr) (n16 c16 cp' q1 bt b off n cp p i li pv : Nat) (wt : World) (Q : Exit → Act → World → Prop) (x0 x1 x2 x3 x5 x6 x7 x8 x9 x10 x11 x12 x13 x14 x15 x16 x17 x19 x21 x25 x26 x27 x28 x29 x30 x31 x32 x33 x34 x35 x36 x37 x38 x39 x40 x41 x42 x43 x44 x45 x46 x47 x48 x49 x50 x51 x52 x53 x54 x55 x56 x57 x58 x59 x60 x61 x62 x63 x64 x65 x66 x67 x68 x69 x70 x71 x72 x73 x74 x75 x76 x77 x78 x79 x80 x81 x82 x83 x84 x85 x86 x87 x88 x89 x90 x91 x92 x93 x94 x95 x96 x97 x98 x99 x100 x101 x102 x103 x104 x105 x106 x107 x108 x109 x110 x111 x112 x113 x114 x115 x116 x117 x118 x119 x120 x121 x122 x123 x124 x125 x126 x127 x128 x129 x130 x131 x132 x133 x134 x135 x136 x137 x138 x139 x140 x141 x142 x143 x144 x145 x146 x147 x148 x149 x150 x151 x152 x153 x154 x155 x156 x157 x158 x159 x160 x161 x162 x163 x164 x165 x166 x167 x168 x169 x170 x171 x172 x173 x174 x175 x176 x177 x178 x179 x180 x181 x182 x183 x184 x185 x186 x187 x188 x189 x190 x191 x192 : Value)
    (hT : IsFace wt wt.heap.size (.agg #[.int .i64 g.eye, .int .i64 g.rings, .int .i64 g.sectors, .slice A16 n16 c16]) g)
    (hG : IsFace wt wt.heap.size (.agg #[.int .i64 g.eye, .int .i64 g.rings, .int .i64 g.sectors, .slice A' g.kinds.length cp']) g)
    (bT : Box wt bt 28 #[.int .i64 g.eye, .int .i64 g.rings, .int .i64 g.sectors, .slice A16 n16 c16])
    (bG : Box wt q1 28 #[.int .i64 g.eye, .int .i64 g.rings, .int .i64 g.sectors, .slice A' g.kinds.length cp'])
    (hb : b < wt.heap.size) (hi : i < n) (hi2 : i ≤ 96) (hx : wt.cell? ⟨b, off + i, none⟩ = some (.int .i64 (li : Int))) (hl : li ≤ 96)
    (hp : 0 < i → wt.cell? ⟨b, off + (i - 1), none⟩ = some (.int .i64 (pv : Int)) ∧ li = pv + p)
    (hQ : ∀ (y157 y158 y159 y160 y161 y162 y163 y164 y165 y166 y167 y168 y169 y170 y171 y172 y173 y174 y175 y176 y177 y178 y179 y180 y181 : Value) (w17 : World), Below wt.heap.size wt w17 → Q .normal { tmps := #[x0, x1, x2, x3, .pointer (some ⟨q1, 0, none⟩), x5, x6, x7, x8, x9, x10, x11, x12, x13, x14, x15, x16, x17, .slice (some ⟨b, off, none⟩) n cp, x19, .int .i64 (p : Int), x21, .int .i64 (i : Int), .pointer (some ⟨bt, 0, none⟩), .int .i64 0, x25, x26, x27, x28, x29, x30, x31, x32, x33, x34, x35, x36, x37, x38, x39, x40, x41, x42, x43, x44, x45, x46, x47, x48, x49, x50, x51, x52, x53, x54, x55, x56, x57, x58, x59, x60, x61, x62, x63, x64, x65, x66, x67, x68, x69, x70, x71, x72, x73, x74, x75, x76, x77, x78, x79, x80, x81, x82, x83, x84, x85, x86, x87, x88, x89, x90, x91, x92, x93, x94, x95, x96, x97, x98, x99, x100, x101, x102, x103, x104, x105, x106, x107, x108, x109, x110, x111, x112, x113, x114, x115, x116, x117, x118, x119, x120, x121, x122, x123, x124, x125, x126, x127, x128, x129, x130, x131, x132, x133, x134, x135, x136, x137, x138, x139, x140, x141, x142, x143, x144, x145, x146, x147, x148, x149, x150, x151, x152, x153, x154, x155, x156, y157, y158, y159, y160, y161, y162, y163, y164, y165, y166, y167, y168, y169, y170, y171, y172, y173, y174, y175, y176, y177, y178, y179, y180, y181, .bool false, x183, x184, x185, x186, x187, x188, x189, x190, x191, x192], defers := [] } w17) :
    (Code.region 21 #[{ dst := some 157, op := Op.move (Operand.tmp 24), type := 29, pos := "theorems.go:282", after := #[], guard := none }, { dst := some 158, op := Op.binOp BinOp.neq 29 (Operand.tmp 157) (Operand.const (Value.int IntKind.i64 0)) 29, type := 4, pos := "theorems.go:282", after := #[{ on := 0, ground := Ground.data }], guard := none }, { dst := some 159, op := Op.move (Operand.tmp 158), type := 4, pos := "theorems.go:282", after := #[{ on := 1, ground := Ground.data }], guard := none }, { dst := some 160, op := Op.load 28 (Operand.tmp 23), type := 28, pos := "theorems.go:282", after := #[{ on := 2, ground := Ground.guard }], guard := some (2, false) }, { dst := some 161, op := Op.load 28 (Operand.tmp 4), type := 28, pos := "theorems.go:282", after := #[{ on := 2, ground := Ground.guard }], guard := some (2, false) }, { dst := some 162, op := Op.call { callee := Callee.value (Operand.func 29), args := #[Operand.tmp 160, Operand.tmp 161], argTypes := #[28, 28] }, type := 4, pos := "theorems.go:282", after := #[{ on := 3, ground := Ground.data }, { on := 4, ground := Ground.data }, { on := 2, ground := Ground.chain }, { on := 2, ground := Ground.guard }], guard := some (2, false) }, { dst := some 163, op := Op.unOp UnOp.not 4 (Operand.tmp 162), type := 4, pos := "theorems.go:282", after := #[{ on := 5, ground := Ground.data }, { on := 2, ground := Ground.guard }], guard := some (2, false) }, { dst := some 164, op := Op.pick (Operand.tmp 159) (Operand.const (Value.bool true)) (Operand.tmp 163), type := 4, pos := "theorems.go:282", after := #[{ on := 2, ground := Ground.data }, { on := 6, ground := Ground.data }], guard := none }, { dst := some 165, op := Op.move (Operand.tmp 164), type := 4, pos := "theorems.go:282", after := #[{ on := 7, ground := Ground.data }, { on := 5, ground := Ground.chain }], guard := none }, { dst := some 166, op := Op.move (Operand.tmp 22), type := 3, pos := "theorems.go:282", after := #[{ on := 8, ground := Ground.guard }], guard := some (8, false) }, { dst := some 167, op := Op.binOp BinOp.gtr 3 (Operand.tmp 166) (Operand.const (Value.int IntKind.i64 0)) 3, type := 4, pos := "theorems.go:282", after := #[{ on := 9, ground := Ground.data }, { on := 8, ground := Ground.guard }], guard := some (8, false) }, { dst := some 168, op := Op.move (Operand.tmp 167), type := 4, pos := "theorems.go:282", after := #[{ on := 10, ground := Ground.data }, { on := 8, ground := Ground.chain }, { on := 8, ground := Ground.guard }], guard := some (8, false) }, { dst := some 169, op := Op.move (Operand.tmp 18), type := 26, pos := "theorems.go:282", after := #[{ on := 11, ground := Ground.guard }], guard := some (11, true) }, { dst := some 170, op := Op.move (Operand.tmp 22), type := 3, pos := "theorems.go:282", after := #[{ on := 11, ground := Ground.guard }], guard := some (11, true) }, { dst := some 171, op := Op.indexAddr 26 (Operand.tmp 169) (Operand.tmp 170), type := 0, pos := "theorems.go:282", after := #[{ on := 12, ground := Ground.data }, { on := 13, ground := Ground.data }, { on := 11, ground := Ground.guard }], guard := some (11, true) }, { dst := some 172, op := Op.load 3 (Operand.tmp 171), type := 3, pos := "theorems.go:282", after := #[{ on := 14, ground := Ground.data }, { on := 11, ground := Ground.guard }], guard := some (11, true) }, { dst := some 173, op := Op.move (Operand.tmp 18), type := 26, pos := "theorems.go:282", after := #[{ on := 11, ground := Ground.guard }], guard := some (11, true) }, { dst := some 174, op := Op.move (Operand.tmp 22), type := 3, pos := "theorems.go:282", after := #[{ on := 11, ground := Ground.guard }], guard := some (11, true) }, { dst := some 175, op := Op.binOp BinOp.sub 3 (Operand.tmp 174) (Operand.const (Value.int IntKind.i64 1)) 3, type := 3, pos := "theorems.go:282", after := #[{ on := 17, ground := Ground.data }, { on := 11, ground := Ground.guard }], guard := some (11, true) }, { dst := some 176, op := Op.indexAddr 26 (Operand.tmp 173) (Operand.tmp 175), type := 0, pos := "theorems.go:282", after := #[{ on := 16, ground := Ground.data }, { on := 18, ground := Ground.data }, { on := 11, ground := Ground.guard }], guard := some (11, true) }, { dst := some 177, op := Op.load 3 (Operand.tmp 176), type := 3, pos := "theorems.go:282", after := #[{ on := 19, ground := Ground.data }, { on := 11, ground := Ground.guard }], guard := some (11, true) }, { dst := some 178, op := Op.move (Operand.tmp 20), type := 3, pos := "theorems.go:282", after := #[{ on := 11, ground := Ground.guard }], guard := some (11, true) }, { dst := some 179, op := Op.binOp BinOp.add 3 (Operand.tmp 177) (Operand.tmp 178) 3, type := 3, pos := "theorems.go:282", after := #[{ on := 20, ground := Ground.data }, { on := 21, ground := Ground.data }, { on := 11, ground := Ground.guard }], guard := some (11, true) }, { dst := some 180, op := Op.binOp BinOp.neq 3 (Operand.tmp 172) (Operand.tmp 179) 3, type := 4, pos := "theorems.go:282", after := #[{ on := 15, ground := Ground.data }, { on := 22, ground := Ground.data }, { on := 11, ground := Ground.guard }], guard := some (11, true) }, { dst := some 181, op := Op.pick (Operand.tmp 168) (Operand.tmp 180) (Operand.const (Value.bool false)), type := 4, pos := "theorems.go:282", after := #[{ on := 11, ground := Ground.data }, { on := 23, ground := Ground.data }, { on := 8, ground := Ground.guard }], guard := some (8, false) }, { dst := some 182, op := Op.pick (Operand.tmp 165) (Operand.const (Value.bool true)) (Operand.tmp 181), type := 4, pos := "theorems.go:282", after := #[{ on := 8, ground := Ground.data }, { on := 24, ground := Ground.data }], guard := none }] true : Code).wp Tryd.prog Q { tmps := #[x0, x1, x2, x3, .pointer (some ⟨q1, 0, none⟩), x5, x6, x7, x8, x9, x10, x11, x12, x13, x14, x15, x16, x17, .slice (some ⟨b, off, none⟩) n cp, x19, .int .i64 (p : Int), x21, .int .i64 (i : Int), .pointer (some ⟨bt, 0, none⟩), .int .i64 0, x25, x26, x27, x28, x29, x30, x31, x32, x33, x34, x35, x36, x37, x38, x39, x40, x41, x42, x43, x44, x45, x46, x47, x48, x49, x50, x51, x52, x53, x54, x55, x56, x57, x58, x59, x60, x61, x62, x63, x64, x65, x66, x67, x68, x69, x70, x71, x72, x73, x74, x75, x76, x77, x78, x79, x80, x81, x82, x83, x84, x85, x86, x87, x88, x89, x90, x91, x92, x93, x94, x95, x96, x97, x98, x99, x100, x101, x102, x103, x104, x105, x106, x107, x108, x109, x110, x111, x112, x113, x114, x115, x116, x117, x118, x119, x120, x121, x122, x123, x124, x125, x126, x127, x128, x129, x130, x131, x132, x133, x134, x135, x136, x137, x138, x139, x140, x141, x142, x143, x144, x145, x146, x147, x148, x149, x150, x151, x152, x153, x154, x155, x156, x157, x158, x159, x160, x161, x162, x163, x164, x165, x166, x167, x168, x169, x170, x171, x172, x173, x174, x175, x176, x177, x178, x179, x180, x181, x182, x183, x184, x185, x186, x187, x188, x189, x190, x191, x192], defers := [] } wt := by
  have HQ := Lib.hid hQ
  have HP := Lib.hid hp
  clear hQ hp
  have t0 : wt.cell? ⟨bt, 0, none⟩ = some (.int .i64 g.eye) := bT.cell 0
  have t1 : wt.cell? ⟨bt, 1, none⟩ = some (.int .i64 g.rings) := bT.cell 1
  have t2 : wt.cell? ⟨bt, 2, none⟩ = some (.int .i64 g.sectors) := bT.cell 2
  have t3 : wt.cell? ⟨bt, 3, none⟩ = some (.slice A16 n16 c16) := bT.cell 3
  have v0 : wt.cell? ⟨q1, 0, none⟩ = some (.int .i64 g.eye) := bG.cell 0
  have v1 : wt.cell? ⟨q1, 1, none⟩ = some (.int .i64 g.rings) := bG.cell 1
  have v2 : wt.cell? ⟨q1, 2, none⟩ = some (.int .i64 g.sectors) := bG.cell 2
  have v3 : wt.cell? ⟨q1, 3, none⟩ = some (.slice A' g.kinds.length cp') := bG.cell 3
  have htl := bT.lt
  have hrl := bG.lt
  have hdr : Below wt.heap.size wt wt.drew := (Below.refl _ _).drew
  have hTd := hT.mono hdr hdr.size
  have hGd := hG.mono hdr hdr.size
  have i0 : (0 : Int) ≤ (i : Int) := Int.natCast_nonneg _
  have i1 : (i : Int) < (n : Int) := by omega
  clear hT hG bT bG hdr
  by_cases hi0 : i = 0
  · subst hi0
    have hd0 : decide ((0 : Int) < ((0 : Nat) : Int)) = false := by decide
    refine wp_region_noPanic ?_
    refine wp_region_held_drew (S := (fun W => W.cell? ⟨bt, 0, none⟩ = some (.int .i64 g.eye) ∧ W.cell? ⟨bt, 1, none⟩ = some (.int .i64 g.rings) ∧ W.cell? ⟨bt, 2, none⟩ = some (.int .i64 g.sectors) ∧ W.cell? ⟨bt, 3, none⟩ = some (.slice A16 n16 c16) ∧ W.cell? ⟨q1, 0, none⟩ = some (.int .i64 g.eye) ∧ W.cell? ⟨q1, 1, none⟩ = some (.int .i64 g.rings) ∧ W.cell? ⟨q1, 2, none⟩ = some (.int .i64 g.sectors) ∧ W.cell? ⟨q1, 3, none⟩ = some (.slice A' g.kinds.length cp') ∧ Below wt.heap.size wt W ∧ wt.heap.size ≤ W.heap.size)) (by kernel_rfl) ?_ (fun hHeld => ?_)
    · try dsimp only
      (first | assumption | (refine ⟨?_, ?_, ?_, ?_, ?_, ?_, ?_, ?_, (Below.refl _ _).drew, by first | (simp; done) | (simp; omega) | omega⟩ <;> go_keep) | (obtain ⟨x0, x1, x2, x3, x4, x5, x6, x7, xb, xs⟩ := ‹_ ∧ _›; first | exact ⟨keepd x0 (Below.alloc (Below.refl (wt.heap.size) _) xs _) (by omega), keepd x1 (Below.alloc (Below.refl (wt.heap.size) _) xs _) (by omega), keepd x2 (Below.alloc (Below.refl (wt.heap.size) _) xs _) (by omega), keepd x3 (Below.alloc (Below.refl (wt.heap.size) _) xs _) (by omega), keepd x4 (Below.alloc (Below.refl (wt.heap.size) _) xs _) (by omega), keepd x5 (Below.alloc (Below.refl (wt.heap.size) _) xs _) (by omega), keepd x6 (Below.alloc (Below.refl (wt.heap.size) _) xs _) (by omega), keepd x7 (Below.alloc (Below.refl (wt.heap.size) _) xs _) (by omega), Below.trans xb (Below.mono (Below.alloc (Below.refl (wt.heap.size) _) xs _) (by omega)), Nat.le_trans xs (Below.size (Below.alloc (Below.refl (wt.heap.size) _) xs _))⟩ | exact ⟨keepd x0 (Below.mono (B' := wt.heap.size) (by assumption) xs) (by omega), keepd x1 (Below.mono (B' := wt.heap.size) (by assumption) xs) (by omega), keepd x2 (Below.mono (B' := wt.heap.size) (by assumption) xs) (by omega), keepd x3 (Below.mono (B' := wt.heap.size) (by assumption) xs) (by omega), keepd x4 (Below.mono (B' := wt.heap.size) (by assumption) xs) (by omega), keepd x5 (Below.mono (B' := wt.heap.size) (by assumption) xs) (by omega), keepd x6 (Below.mono (B' := wt.heap.size) (by assumption) xs) (by omega), keepd x7 (Below.mono (B' := wt.heap.size) (by assumption) xs) (by omega), Below.trans xb (Below.mono (Below.mono (B' := wt.heap.size) (by assumption) xs) (by omega)), Nat.le_trans xs (Below.size (Below.mono (B' := wt.heap.size) (by assumption) xs))⟩ | exact ⟨keepd x0 (hgst) (by omega), keepd x1 (hgst) (by omega), keepd x2 (hgst) (by omega), keepd x3 (hgst) (by omega), keepd x4 (hgst) (by omega), keepd x5 (hgst) (by omega), keepd x6 (hgst) (by omega), keepd x7 (hgst) (by omega), Below.trans xb (Below.mono (hgst) (by omega)), Nat.le_trans xs (Below.size (hgst))⟩ | exact ⟨keepd x0 (Below.setCell (Below.refl (wt.heap.size) _) (by first | (simp; done) | (simp; omega)) _) (by omega), keepd x1 (Below.setCell (Below.refl (wt.heap.size) _) (by first | (simp; done) | (simp; omega)) _) (by omega), keepd x2 (Below.setCell (Below.refl (wt.heap.size) _) (by first | (simp; done) | (simp; omega)) _) (by omega), keepd x3 (Below.setCell (Below.refl (wt.heap.size) _) (by first | (simp; done) | (simp; omega)) _) (by omega), keepd x4 (Below.setCell (Below.refl (wt.heap.size) _) (by first | (simp; done) | (simp; omega)) _) (by omega), keepd x5 (Below.setCell (Below.refl (wt.heap.size) _) (by first | (simp; done) | (simp; omega)) _) (by omega), keepd x6 (Below.setCell (Below.refl (wt.heap.size) _) (by first | (simp; done) | (simp; omega)) _) (by omega), keepd x7 (Below.setCell (Below.refl (wt.heap.size) _) (by first | (simp; done) | (simp; omega)) _) (by omega), Below.trans xb (Below.mono (Below.setCell (Below.refl (wt.heap.size) _) (by first | (simp; done) | (simp; omega)) _) (by omega)), Nat.le_trans xs (Below.size (Below.setCell (Below.refl (wt.heap.size) _) (by first | (simp; done) | (simp; omega)) _))⟩))
    refine wpAnyH_take (i := 0) (oi := { dst := some 157, op := Op.move (Operand.tmp 24), type := 29, pos := "theorems.go:282", after := #[], guard := none }) (v := ?vt1) rfl ?hst1 ?hft1 ?hrt1 ?hQt1 ?hyt1 (by assumption) ?restt1
    case hst1 => kernel_rfl
    case hft1 => kernel_rfl
    case hrt1 => kernel_rfl
    case hQt1 => exact fun _ _ _ h => h
    case hyt1 => (refine Or.inl ⟨by rfl, ?_⟩; intro w hSw; (try dsimp only at hSw); go_simp; try with_reducible rfl)
    try simp only [Act.put, List.setIfInBounds_toArray, List.set_cons_zero, List.set_cons_succ]
    refine wpAnyH_take (i := 1) (oi := { dst := some 158, op := Op.binOp BinOp.neq 29 (Operand.tmp 157) (Operand.const (Value.int IntKind.i64 0)) 29, type := 4, pos := "theorems.go:282", after := #[{ on := 0, ground := Ground.data }], guard := none }) (v := ?vt2) rfl ?hst2 ?hft2 ?hrt2 ?hQt2 ?hyt2 (by assumption) ?restt2
    case hst2 => kernel_rfl
    case hft2 => kernel_rfl
    case hrt2 => kernel_rfl
    case hQt2 => exact fun _ _ _ h => h
    case hyt2 => (refine Or.inl ⟨by rfl, ?_⟩; intro w hSw; (try dsimp only at hSw); go_simp; try with_reducible rfl)
    try simp only [Act.put, List.setIfInBounds_toArray, List.set_cons_zero, List.set_cons_succ]
    refine wpAnyH_take (i := 2) (oi := { dst := some 159, op := Op.move (Operand.tmp 158), type := 4, pos := "theorems.go:282", after := #[{ on := 1, ground := Ground.data }], guard := none }) (v := ?vt3) rfl ?hst3 ?hft3 ?hrt3 ?hQt3 ?hyt3 (by assumption) ?restt3
    case hst3 => kernel_rfl
    case hft3 => kernel_rfl
    case hrt3 => kernel_rfl
    case hQt3 => exact fun _ _ _ h => h
    case hyt3 => (refine Or.inl ⟨by rfl, ?_⟩; intro w hSw; (try dsimp only at hSw); go_simp; try with_reducible rfl)
    try simp only [Act.put, List.setIfInBounds_toArray, List.set_cons_zero, List.set_cons_succ]
    refine wpAnyH_take (i := 3) (oi := { dst := some 160, op := Op.load 28 (Operand.tmp 23), type := 28, pos := "theorems.go:282", after := #[{ on := 2, ground := Ground.guard }], guard := some (2, false) }) (v := ?vt4) rfl ?hst4 ?hft4 ?hrt4 ?hQt4 ?hyt4 (by assumption) ?restt4
    case hst4 => kernel_rfl
    case hft4 => kernel_rfl
    case hrt4 => kernel_rfl
    case hQt4 => exact fun _ _ _ h => h
    case hyt4 => (refine Or.inl ⟨by rfl, ?_⟩; intro w hSw; (try dsimp only at hSw); go_simp; try with_reducible rfl)
    try simp only [Act.put, List.setIfInBounds_toArray, List.set_cons_zero, List.set_cons_succ]
    refine wpAnyH_take (i := 4) (oi := { dst := some 161, op := Op.load 28 (Operand.tmp 4), type := 28, pos := "theorems.go:282", after := #[{ on := 2, ground := Ground.guard }], guard := some (2, false) }) (v := ?vt5) rfl ?hst5 ?hft5 ?hrt5 ?hQt5 ?hyt5 (by assumption) ?restt5
    case hst5 => kernel_rfl
    case hft5 => kernel_rfl
    case hrt5 => kernel_rfl
    case hQt5 => exact fun _ _ _ h => h
    case hyt5 => (refine Or.inl ⟨by rfl, ?_⟩; intro w hSw; (try dsimp only at hSw); go_simp; try with_reducible rfl)
    try simp only [Act.put, List.setIfInBounds_toArray, List.set_cons_zero, List.set_cons_succ]
    refine wpAnyH_ready (rs := [5]) (by kernel_rfl) (by simp) ?_
    refine AllReadyH.cons (o := { dst := some 162, op := Op.call { callee := Callee.value (Operand.func 29), args := #[Operand.tmp 160, Operand.tmp 161], argTypes := #[28, 28] }, type := 4, pos := "theorems.go:282", after := #[{ on := 3, ground := Ground.data }, { on := 4, ground := Ground.data }, { on := 2, ground := Ground.chain }, { on := 2, ground := Ground.guard }], guard := some (2, false) }) rfl (fun K hK => ?_) AllReadyH.nil
    go_simp
    go_at_call 29
    refine (Same_c g g _ _ wt.drew hTd hGd).mono ?_
    rw [sameB_iff.2 rfl]
    rintro e w17 ⟨rfl, hbq⟩
    go_wp2_with fail
    refine hK.out _ _ ?_ (fun hHeld2 => ?_)
    · try dsimp only
      (first | assumption | (refine ⟨?_, ?_, ?_, ?_, ?_, ?_, ?_, ?_, (Below.refl _ _).drew, by first | (simp; done) | (simp; omega) | omega⟩ <;> go_keep) | (obtain ⟨x0, x1, x2, x3, x4, x5, x6, x7, xb, xs⟩ := ‹_ ∧ _›; first | exact ⟨keepd x0 (Below.alloc (Below.refl (wt.heap.size) _) xs _) (by omega), keepd x1 (Below.alloc (Below.refl (wt.heap.size) _) xs _) (by omega), keepd x2 (Below.alloc (Below.refl (wt.heap.size) _) xs _) (by omega), keepd x3 (Below.alloc (Below.refl (wt.heap.size) _) xs _) (by omega), keepd x4 (Below.alloc (Below.refl (wt.heap.size) _) xs _) (by omega), keepd x5 (Below.alloc (Below.refl (wt.heap.size) _) xs _) (by omega), keepd x6 (Below.alloc (Below.refl (wt.heap.size) _) xs _) (by omega), keepd x7 (Below.alloc (Below.refl (wt.heap.size) _) xs _) (by omega), Below.trans xb (Below.mono (Below.alloc (Below.refl (wt.heap.size) _) xs _) (by omega)), Nat.le_trans xs (Below.size (Below.alloc (Below.refl (wt.heap.size) _) xs _))⟩ | exact ⟨keepd x0 (Below.mono (B' := wt.heap.size) (by assumption) xs) (by omega), keepd x1 (Below.mono (B' := wt.heap.size) (by assumption) xs) (by omega), keepd x2 (Below.mono (B' := wt.heap.size) (by assumption) xs) (by omega), keepd x3 (Below.mono (B' := wt.heap.size) (by assumption) xs) (by omega), keepd x4 (Below.mono (B' := wt.heap.size) (by assumption) xs) (by omega), keepd x5 (Below.mono (B' := wt.heap.size) (by assumption) xs) (by omega), keepd x6 (Below.mono (B' := wt.heap.size) (by assumption) xs) (by omega), keepd x7 (Below.mono (B' := wt.heap.size) (by assumption) xs) (by omega), Below.trans xb (Below.mono (Below.mono (B' := wt.heap.size) (by assumption) xs) (by omega)), Nat.le_trans xs (Below.size (Below.mono (B' := wt.heap.size) (by assumption) xs))⟩ | exact ⟨keepd x0 (hgst) (by omega), keepd x1 (hgst) (by omega), keepd x2 (hgst) (by omega), keepd x3 (hgst) (by omega), keepd x4 (hgst) (by omega), keepd x5 (hgst) (by omega), keepd x6 (hgst) (by omega), keepd x7 (hgst) (by omega), Below.trans xb (Below.mono (hgst) (by omega)), Nat.le_trans xs (Below.size (hgst))⟩ | exact ⟨keepd x0 (Below.setCell (Below.refl (wt.heap.size) _) (by first | (simp; done) | (simp; omega)) _) (by omega), keepd x1 (Below.setCell (Below.refl (wt.heap.size) _) (by first | (simp; done) | (simp; omega)) _) (by omega), keepd x2 (Below.setCell (Below.refl (wt.heap.size) _) (by first | (simp; done) | (simp; omega)) _) (by omega), keepd x3 (Below.setCell (Below.refl (wt.heap.size) _) (by first | (simp; done) | (simp; omega)) _) (by omega), keepd x4 (Below.setCell (Below.refl (wt.heap.size) _) (by first | (simp; done) | (simp; omega)) _) (by omega), keepd x5 (Below.setCell (Below.refl (wt.heap.size) _) (by first | (simp; done) | (simp; omega)) _) (by omega), keepd x6 (Below.setCell (Below.refl (wt.heap.size) _) (by first | (simp; done) | (simp; omega)) _) (by omega), keepd x7 (Below.setCell (Below.refl (wt.heap.size) _) (by first | (simp; done) | (simp; omega)) _) (by omega), Below.trans xb (Below.mono (Below.setCell (Below.refl (wt.heap.size) _) (by first | (simp; done) | (simp; omega)) _) (by omega)), Nat.le_trans xs (Below.size (Below.setCell (Below.refl (wt.heap.size) _) (by first | (simp; done) | (simp; omega)) _))⟩))
    clear hK K hHeld
    try simp only [Act.put, List.setIfInBounds_toArray, List.set_cons_zero, List.set_cons_succ]
    refine wpAnyH_take (i := 6) (oi := { dst := some 163, op := Op.unOp UnOp.not 4 (Operand.tmp 162), type := 4, pos := "theorems.go:282", after := #[{ on := 5, ground := Ground.data }, { on := 2, ground := Ground.guard }], guard := some (2, false) }) (v := ?vt6) rfl ?hst6 ?hft6 ?hrt6 ?hQt6 ?hyt6 (by assumption) ?restt6
    case hst6 => kernel_rfl
    case hft6 => kernel_rfl
    case hrt6 => kernel_rfl
    case hQt6 => exact fun _ _ _ h => h
    case hyt6 => (refine Or.inl ⟨by rfl, ?_⟩; intro w hSw; (try dsimp only at hSw); go_simp; try with_reducible rfl)
    try simp only [Act.put, List.setIfInBounds_toArray, List.set_cons_zero, List.set_cons_succ]
    refine wpAnyH_take (i := 7) (oi := { dst := some 164, op := Op.pick (Operand.tmp 159) (Operand.const (Value.bool true)) (Operand.tmp 163), type := 4, pos := "theorems.go:282", after := #[{ on := 2, ground := Ground.data }, { on := 6, ground := Ground.data }], guard := none }) (v := ?vt7) rfl ?hst7 ?hft7 ?hrt7 ?hQt7 ?hyt7 (by assumption) ?restt7
    case hst7 => kernel_rfl
    case hft7 => kernel_rfl
    case hrt7 => kernel_rfl
    case hQt7 => exact fun _ _ _ h => h
    case hyt7 => (refine Or.inl ⟨by rfl, ?_⟩; intro w hSw; (try dsimp only at hSw); go_simp; try with_reducible rfl)
    try simp only [Act.put, List.setIfInBounds_toArray, List.set_cons_zero, List.set_cons_succ]
    refine wpAnyH_take (i := 8) (oi := { dst := some 165, op := Op.move (Operand.tmp 164), type := 4, pos := "theorems.go:282", after := #[{ on := 7, ground := Ground.data }, { on := 5, ground := Ground.chain }], guard := none }) (v := ?vt8) rfl ?hst8 ?hft8 ?hrt8 ?hQt8 ?hyt8 (by assumption) ?restt8
    case hst8 => kernel_rfl
    case hft8 => kernel_rfl
    case hrt8 => kernel_rfl
    case hQt8 => exact fun _ _ _ h => h
    case hyt8 => (refine Or.inl ⟨by rfl, ?_⟩; intro w hSw; (try dsimp only at hSw); go_simp; try with_reducible rfl)
    try simp only [Act.put, List.setIfInBounds_toArray, List.set_cons_zero, List.set_cons_succ]
    refine wpAnyH_take (i := 9) (oi := { dst := some 166, op := Op.move (Operand.tmp 22), type := 3, pos := "theorems.go:282", after := #[{ on := 8, ground := Ground.guard }], guard := some (8, false) }) (v := ?vt9) rfl ?hst9 ?hft9 ?hrt9 ?hQt9 ?hyt9 (by assumption) ?restt9
    case hst9 => kernel_rfl
    case hft9 => kernel_rfl
    case hrt9 => kernel_rfl
    case hQt9 => exact fun _ _ _ h => h
    case hyt9 => (refine Or.inl ⟨by rfl, ?_⟩; intro w hSw; (try dsimp only at hSw); go_simp; try with_reducible rfl)
    try simp only [Act.put, List.setIfInBounds_toArray, List.set_cons_zero, List.set_cons_succ]
    refine wpAnyH_take (i := 10) (oi := { dst := some 167, op := Op.binOp BinOp.gtr 3 (Operand.tmp 166) (Operand.const (Value.int IntKind.i64 0)) 3, type := 4, pos := "theorems.go:282", after := #[{ on := 9, ground := Ground.data }, { on := 8, ground := Ground.guard }], guard := some (8, false) }) (v := ?vt10) rfl ?hst10 ?hft10 ?hrt10 ?hQt10 ?hyt10 (by assumption) ?restt10
    case hst10 => kernel_rfl
    case hft10 => kernel_rfl
    case hrt10 => kernel_rfl
    case hQt10 => exact fun _ _ _ h => h
    case hyt10 => (refine Or.inl ⟨by rfl, ?_⟩; intro w hSw; (try dsimp only at hSw); go_simp; try with_reducible rfl)
    try simp only [Act.put, List.setIfInBounds_toArray, List.set_cons_zero, List.set_cons_succ]
    refine wpAnyH_take (i := 11) (oi := { dst := some 168, op := Op.move (Operand.tmp 167), type := 4, pos := "theorems.go:282", after := #[{ on := 10, ground := Ground.data }, { on := 8, ground := Ground.chain }, { on := 8, ground := Ground.guard }], guard := some (8, false) }) (v := ?vt11) rfl ?hst11 ?hft11 ?hrt11 ?hQt11 ?hyt11 (by assumption) ?restt11
    case hst11 => kernel_rfl
    case hft11 => kernel_rfl
    case hrt11 => kernel_rfl
    case hQt11 => exact fun _ _ _ h => h
    case hyt11 => (refine Or.inl ⟨by rfl, ?_⟩; intro w hSw; (try dsimp only at hSw); go_simp; try with_reducible rfl)
    try simp only [Act.put, List.setIfInBounds_toArray, List.set_cons_zero, List.set_cons_succ]
    refine wpAnyH_take (i := 12) (oi := { dst := some 169, op := Op.move (Operand.tmp 18), type := 26, pos := "theorems.go:282", after := #[{ on := 11, ground := Ground.guard }], guard := some (11, true) }) (v := undef) rfl ?hst12 ?hft12 ?hrt12 ?hQt12 ?hyt12 (by assumption) ?restt12
    case hst12 => kernel_rfl
    case hft12 => kernel_rfl
    case hrt12 => kernel_rfl
    case hQt12 => exact fun _ _ _ h => h
    case hyt12 => exact Or.inr ⟨by rfl, rfl⟩
    try simp only [Act.put, List.setIfInBounds_toArray, List.set_cons_zero, List.set_cons_succ]
    refine wpAnyH_take (i := 13) (oi := { dst := some 170, op := Op.move (Operand.tmp 22), type := 3, pos := "theorems.go:282", after := #[{ on := 11, ground := Ground.guard }], guard := some (11, true) }) (v := undef) rfl ?hst13 ?hft13 ?hrt13 ?hQt13 ?hyt13 (by assumption) ?restt13
    case hst13 => kernel_rfl
    case hft13 => kernel_rfl
    case hrt13 => kernel_rfl
    case hQt13 => exact fun _ _ _ h => h
    case hyt13 => exact Or.inr ⟨by rfl, rfl⟩
    try simp only [Act.put, List.setIfInBounds_toArray, List.set_cons_zero, List.set_cons_succ]
    refine wpAnyH_take (i := 14) (oi := { dst := some 171, op := Op.indexAddr 26 (Operand.tmp 169) (Operand.tmp 170), type := 0, pos := "theorems.go:282", after := #[{ on := 12, ground := Ground.data }, { on := 13, ground := Ground.data }, { on := 11, ground := Ground.guard }], guard := some (11, true) }) (v := undef) rfl ?hst14 ?hft14 ?hrt14 ?hQt14 ?hyt14 (by assumption) ?restt14
    case hst14 => kernel_rfl
    case hft14 => kernel_rfl
    case hrt14 => kernel_rfl
    case hQt14 => exact fun _ _ _ h => h
    case hyt14 => exact Or.inr ⟨by rfl, rfl⟩
    try simp only [Act.put, List.setIfInBounds_toArray, List.set_cons_zero, List.set_cons_succ]
    refine wpAnyH_take (i := 15) (oi := { dst := some 172, op := Op.load 3 (Operand.tmp 171), type := 3, pos := "theorems.go:282", after := #[{ on := 14, ground := Ground.data }, { on := 11, ground := Ground.guard }], guard := some (11, true) }) (v := undef) rfl ?hst15 ?hft15 ?hrt15 ?hQt15 ?hyt15 (by assumption) ?restt15
    case hst15 => kernel_rfl
    case hft15 => kernel_rfl
    case hrt15 => kernel_rfl
    case hQt15 => exact fun _ _ _ h => h
    case hyt15 => exact Or.inr ⟨by rfl, rfl⟩
    try simp only [Act.put, List.setIfInBounds_toArray, List.set_cons_zero, List.set_cons_succ]
    refine wpAnyH_take (i := 16) (oi := { dst := some 173, op := Op.move (Operand.tmp 18), type := 26, pos := "theorems.go:282", after := #[{ on := 11, ground := Ground.guard }], guard := some (11, true) }) (v := undef) rfl ?hst16 ?hft16 ?hrt16 ?hQt16 ?hyt16 (by assumption) ?restt16
    case hst16 => kernel_rfl
    case hft16 => kernel_rfl
    case hrt16 => kernel_rfl
    case hQt16 => exact fun _ _ _ h => h
    case hyt16 => exact Or.inr ⟨by rfl, rfl⟩
    try simp only [Act.put, List.setIfInBounds_toArray, List.set_cons_zero, List.set_cons_succ]
    refine wpAnyH_take (i := 17) (oi := { dst := some 174, op := Op.move (Operand.tmp 22), type := 3, pos := "theorems.go:282", after := #[{ on := 11, ground := Ground.guard }], guard := some (11, true) }) (v := undef) rfl ?hst17 ?hft17 ?hrt17 ?hQt17 ?hyt17 (by assumption) ?restt17
    case hst17 => kernel_rfl
    case hft17 => kernel_rfl
    case hrt17 => kernel_rfl
    case hQt17 => exact fun _ _ _ h => h
    case hyt17 => exact Or.inr ⟨by rfl, rfl⟩
    try simp only [Act.put, List.setIfInBounds_toArray, List.set_cons_zero, List.set_cons_succ]
    refine wpAnyH_take (i := 18) (oi := { dst := some 175, op := Op.binOp BinOp.sub 3 (Operand.tmp 174) (Operand.const (Value.int IntKind.i64 1)) 3, type := 3, pos := "theorems.go:282", after := #[{ on := 17, ground := Ground.data }, { on := 11, ground := Ground.guard }], guard := some (11, true) }) (v := undef) rfl ?hst18 ?hft18 ?hrt18 ?hQt18 ?hyt18 (by assumption) ?restt18
    case hst18 => kernel_rfl
    case hft18 => kernel_rfl
    case hrt18 => kernel_rfl
    case hQt18 => exact fun _ _ _ h => h
    case hyt18 => exact Or.inr ⟨by rfl, rfl⟩
    try simp only [Act.put, List.setIfInBounds_toArray, List.set_cons_zero, List.set_cons_succ]
    refine wpAnyH_take (i := 19) (oi := { dst := some 176, op := Op.indexAddr 26 (Operand.tmp 173) (Operand.tmp 175), type := 0, pos := "theorems.go:282", after := #[{ on := 16, ground := Ground.data }, { on := 18, ground := Ground.data }, { on := 11, ground := Ground.guard }], guard := some (11, true) }) (v := undef) rfl ?hst19 ?hft19 ?hrt19 ?hQt19 ?hyt19 (by assumption) ?restt19
    case hst19 => kernel_rfl
    case hft19 => kernel_rfl
    case hrt19 => kernel_rfl
    case hQt19 => exact fun _ _ _ h => h
    case hyt19 => exact Or.inr ⟨by rfl, rfl⟩
    try simp only [Act.put, List.setIfInBounds_toArray, List.set_cons_zero, List.set_cons_succ]
    refine wpAnyH_take (i := 20) (oi := { dst := some 177, op := Op.load 3 (Operand.tmp 176), type := 3, pos := "theorems.go:282", after := #[{ on := 19, ground := Ground.data }, { on := 11, ground := Ground.guard }], guard := some (11, true) }) (v := undef) rfl ?hst20 ?hft20 ?hrt20 ?hQt20 ?hyt20 (by assumption) ?restt20
    case hst20 => kernel_rfl
    case hft20 => kernel_rfl
    case hrt20 => kernel_rfl
    case hQt20 => exact fun _ _ _ h => h
    case hyt20 => exact Or.inr ⟨by rfl, rfl⟩
    try simp only [Act.put, List.setIfInBounds_toArray, List.set_cons_zero, List.set_cons_succ]
    refine wpAnyH_take (i := 21) (oi := { dst := some 178, op := Op.move (Operand.tmp 20), type := 3, pos := "theorems.go:282", after := #[{ on := 11, ground := Ground.guard }], guard := some (11, true) }) (v := undef) rfl ?hst21 ?hft21 ?hrt21 ?hQt21 ?hyt21 (by assumption) ?restt21
    case hst21 => kernel_rfl
    case hft21 => kernel_rfl
    case hrt21 => kernel_rfl
    case hQt21 => exact fun _ _ _ h => h
    case hyt21 => exact Or.inr ⟨by rfl, rfl⟩
    try simp only [Act.put, List.setIfInBounds_toArray, List.set_cons_zero, List.set_cons_succ]
    refine wpAnyH_take (i := 22) (oi := { dst := some 179, op := Op.binOp BinOp.add 3 (Operand.tmp 177) (Operand.tmp 178) 3, type := 3, pos := "theorems.go:282", after := #[{ on := 20, ground := Ground.data }, { on := 21, ground := Ground.data }, { on := 11, ground := Ground.guard }], guard := some (11, true) }) (v := undef) rfl ?hst22 ?hft22 ?hrt22 ?hQt22 ?hyt22 (by assumption) ?restt22
    case hst22 => kernel_rfl
    case hft22 => kernel_rfl
    case hrt22 => kernel_rfl
    case hQt22 => exact fun _ _ _ h => h
    case hyt22 => exact Or.inr ⟨by rfl, rfl⟩
    try simp only [Act.put, List.setIfInBounds_toArray, List.set_cons_zero, List.set_cons_succ]
    refine wpAnyH_take (i := 23) (oi := { dst := some 180, op := Op.binOp BinOp.neq 3 (Operand.tmp 172) (Operand.tmp 179) 3, type := 4, pos := "theorems.go:282", after := #[{ on := 15, ground := Ground.data }, { on := 22, ground := Ground.data }, { on := 11, ground := Ground.guard }], guard := some (11, true) }) (v := undef) rfl ?hst23 ?hft23 ?hrt23 ?hQt23 ?hyt23 (by assumption) ?restt23
    case hst23 => kernel_rfl
    case hft23 => kernel_rfl
    case hrt23 => kernel_rfl
    case hQt23 => exact fun _ _ _ h => h
    case hyt23 => exact Or.inr ⟨by rfl, rfl⟩
    try simp only [Act.put, List.setIfInBounds_toArray, List.set_cons_zero, List.set_cons_succ]
    refine wpAnyH_take (i := 24) (oi := { dst := some 181, op := Op.pick (Operand.tmp 168) (Operand.tmp 180) (Operand.const (Value.bool false)), type := 4, pos := "theorems.go:282", after := #[{ on := 11, ground := Ground.data }, { on := 23, ground := Ground.data }, { on := 8, ground := Ground.guard }], guard := some (8, false) }) (v := ?vt24) rfl ?hst24 ?hft24 ?hrt24 ?hQt24 ?hyt24 (by assumption) ?restt24
    case hst24 => kernel_rfl
    case hft24 => kernel_rfl
    case hrt24 => kernel_rfl
    case hQt24 => exact fun _ _ _ h => h
    case hyt24 => (refine Or.inl ⟨by rfl, ?_⟩; intro w hSw; (try dsimp only at hSw); go_simp; try with_reducible rfl)
    try simp only [Act.put, List.setIfInBounds_toArray, List.set_cons_zero, List.set_cons_succ]
    refine wpAnyH_take (i := 25) (oi := { dst := some 182, op := Op.pick (Operand.tmp 165) (Operand.const (Value.bool true)) (Operand.tmp 181), type := 4, pos := "theorems.go:282", after := #[{ on := 8, ground := Ground.data }, { on := 24, ground := Ground.data }], guard := none }) (v := ?vt25) rfl ?hst25 ?hft25 ?hrt25 ?hQt25 ?hyt25 (by assumption) ?restt25
    case hst25 => kernel_rfl
    case hft25 => kernel_rfl
    case hrt25 => kernel_rfl
    case hQt25 => exact fun _ _ _ h => h
    case hyt25 => (refine Or.inl ⟨by rfl, ?_⟩; intro w hSw; (try dsimp only at hSw); go_simp; try with_reducible rfl)
    try simp only [Act.put, List.setIfInBounds_toArray, List.set_cons_zero, List.set_cons_succ]
    refine wpAnyH_done (by kernel_rfl) ?_ _
    refine NoPanic.normal ?_
    obtain ⟨-, -, -, -, -, -, -, -, xb, -⟩ := hHeld2
    exact HQ.out _ _ _ _ _ _ _ _ _ _ _ _ _ _ _ _ _ _ _ _ _ _ _ _ _ _ xb
  · obtain ⟨hp1, hp2⟩ := HP.out (by omega)
    have hd0 : decide ((0 : Int) < (i : Int)) = true := by simp; omega
    have y1 : IntKind.i64.wrap ((i : Int) - 1) = ((i - 1 : Nat) : Int) := by rw [wrap_id (by omega) (by omega)]; omega
    have y2 : IntKind.i64.wrap ((pv : Int) + (p : Int)) = (li : Int) := by rw [wrap_id (by omega) (by omega)]; omega
    have hd1 : decide (0 < i) = true := by simp; omega
    have hd2 : 0 < i := by omega
    have y3 : (0 : Int) ≤ ((i - 1 : Nat) : Int) := by omega
    have y4 : ((i - 1 : Nat) : Int) < (n : Int) := by omega
    clear HP hp2
    go_region_held3 (fun W => W.cell? ⟨bt, 0, none⟩ = some (.int .i64 g.eye) ∧ W.cell? ⟨bt, 1, none⟩ = some (.int .i64 g.rings) ∧ W.cell? ⟨bt, 2, none⟩ = some (.int .i64 g.sectors) ∧ W.cell? ⟨bt, 3, none⟩ = some (.slice A16 n16 c16) ∧ W.cell? ⟨q1, 0, none⟩ = some (.int .i64 g.eye) ∧ W.cell? ⟨q1, 1, none⟩ = some (.int .i64 g.rings) ∧ W.cell? ⟨q1, 2, none⟩ = some (.int .i64 g.sectors) ∧ W.cell? ⟨q1, 3, none⟩ = some (.slice A' g.kinds.length cp') ∧ W.cell? ⟨b, off + i, none⟩ = some (.int .i64 (li : Int)) ∧ W.cell? ⟨b, off + (i - 1), none⟩ = some (.int .i64 (pv : Int)) ∧ Below wt.heap.size wt W ∧ wt.heap.size ≤ W.heap.size) ((first | assumption | (refine ⟨?_, ?_, ?_, ?_, ?_, ?_, ?_, ?_, ?_, ?_, (Below.refl _ _).drew, by first | (simp; done) | (simp; omega) | omega⟩ <;> go_keep) | (obtain ⟨x0, x1, x2, x3, x4, x5, x6, x7, x8, x9, xb, xs⟩ := ‹_ ∧ _›; first | exact ⟨keepd x0 (Below.alloc (Below.refl (wt.heap.size) _) xs _) (by omega), keepd x1 (Below.alloc (Below.refl (wt.heap.size) _) xs _) (by omega), keepd x2 (Below.alloc (Below.refl (wt.heap.size) _) xs _) (by omega), keepd x3 (Below.alloc (Below.refl (wt.heap.size) _) xs _) (by omega), keepd x4 (Below.alloc (Below.refl (wt.heap.size) _) xs _) (by omega), keepd x5 (Below.alloc (Below.refl (wt.heap.size) _) xs _) (by omega), keepd x6 (Below.alloc (Below.refl (wt.heap.size) _) xs _) (by omega), keepd x7 (Below.alloc (Below.refl (wt.heap.size) _) xs _) (by omega), keepd x8 (Below.alloc (Below.refl (wt.heap.size) _) xs _) (by omega), keepd x9 (Below.alloc (Below.refl (wt.heap.size) _) xs _) (by omega), Below.trans xb (Below.mono (Below.alloc (Below.refl (wt.heap.size) _) xs _) (by omega)), Nat.le_trans xs (Below.size (Below.alloc (Below.refl (wt.heap.size) _) xs _))⟩ | exact ⟨keepd x0 (Below.mono (B' := wt.heap.size) (by assumption) xs) (by omega), keepd x1 (Below.mono (B' := wt.heap.size) (by assumption) xs) (by omega), keepd x2 (Below.mono (B' := wt.heap.size) (by assumption) xs) (by omega), keepd x3 (Below.mono (B' := wt.heap.size) (by assumption) xs) (by omega), keepd x4 (Below.mono (B' := wt.heap.size) (by assumption) xs) (by omega), keepd x5 (Below.mono (B' := wt.heap.size) (by assumption) xs) (by omega), keepd x6 (Below.mono (B' := wt.heap.size) (by assumption) xs) (by omega), keepd x7 (Below.mono (B' := wt.heap.size) (by assumption) xs) (by omega), keepd x8 (Below.mono (B' := wt.heap.size) (by assumption) xs) (by omega), keepd x9 (Below.mono (B' := wt.heap.size) (by assumption) xs) (by omega), Below.trans xb (Below.mono (Below.mono (B' := wt.heap.size) (by assumption) xs) (by omega)), Nat.le_trans xs (Below.size (Below.mono (B' := wt.heap.size) (by assumption) xs))⟩ | exact ⟨keepd x0 (hgst) (by omega), keepd x1 (hgst) (by omega), keepd x2 (hgst) (by omega), keepd x3 (hgst) (by omega), keepd x4 (hgst) (by omega), keepd x5 (hgst) (by omega), keepd x6 (hgst) (by omega), keepd x7 (hgst) (by omega), keepd x8 (hgst) (by omega), keepd x9 (hgst) (by omega), Below.trans xb (Below.mono (hgst) (by omega)), Nat.le_trans xs (Below.size (hgst))⟩ | exact ⟨keepd x0 (Below.setCell (Below.refl (wt.heap.size) _) (by first | (simp; done) | (simp; omega)) _) (by omega), keepd x1 (Below.setCell (Below.refl (wt.heap.size) _) (by first | (simp; done) | (simp; omega)) _) (by omega), keepd x2 (Below.setCell (Below.refl (wt.heap.size) _) (by first | (simp; done) | (simp; omega)) _) (by omega), keepd x3 (Below.setCell (Below.refl (wt.heap.size) _) (by first | (simp; done) | (simp; omega)) _) (by omega), keepd x4 (Below.setCell (Below.refl (wt.heap.size) _) (by first | (simp; done) | (simp; omega)) _) (by omega), keepd x5 (Below.setCell (Below.refl (wt.heap.size) _) (by first | (simp; done) | (simp; omega)) _) (by omega), keepd x6 (Below.setCell (Below.refl (wt.heap.size) _) (by first | (simp; done) | (simp; omega)) _) (by omega), keepd x7 (Below.setCell (Below.refl (wt.heap.size) _) (by first | (simp; done) | (simp; omega)) _) (by omega), keepd x8 (Below.setCell (Below.refl (wt.heap.size) _) (by first | (simp; done) | (simp; omega)) _) (by omega), keepd x9 (Below.setCell (Below.refl (wt.heap.size) _) (by first | (simp; done) | (simp; omega)) _) (by omega), Below.trans xb (Below.mono (Below.setCell (Below.refl (wt.heap.size) _) (by first | (simp; done) | (simp; omega)) _) (by omega)), Nat.le_trans xs (Below.size (Below.setCell (Below.refl (wt.heap.size) _) (by first | (simp; done) | (simp; omega)) _))⟩))) (first
      | (go_at_call 29; refine (Same_c g g _ _ wt.drew hTd hGd).mono ?_; rw [sameB_iff.2 rfl]; rintro e w17 ⟨rfl, hbq⟩))
    obtain ⟨-, -, -, -, -, -, -, -, -, -, xb, -⟩ := ‹_ ∧ _›
    exact HQ.out _ _ _ _ _ _ _ _ _ _ _ _ _ _ _ _ _ _ _ _ _ _ _ _ _ _ xb

end Go.Proofs.YteajlfgnhjalnaaDoor

/- DressingSums: the great test, a region by itself. -/
import Derived.Test.YtfhbpeafapabhaaQ8
import Derived.Deep.RegionHeld3
namespace Go.Proofs.Ytfhbpeafapabhaa
open Go.RowKit

set_option maxRecDepth 100000 in
set_option maxHeartbeats 8000000 in
theorem sums17_c (L1 L2 L3 : List Int) (A1 A2 A3 : Option Addr) (c1 c2 c3 a0 : Nat) (wide tot x : Int) (sv : Value) (wq : World) (Q : Exit → Act → World → Prop) (x0 x1 x2 x4 x5 x6 x7 x8 x9 x11 x18 x19 x20 x21 x22 x23 x24 x25 x26 x27 x28 x29 x30 x31 x32 x33 x34 x35 x36 x37 x38 x39 x40 x41 x42 x43 x44 x45 x46 x47 x48 x49 x50 x51 x52 x53 x54 x55 x56 x57 x58 x59 x60 x61 x62 x63 x64 x65 x66 x67 x68 x69 x70 x71 x72 x73 x74 x75 x76 x77 x78 x79 x80 x81 x82 x83 x84 x85 x86 x87 x88 x89 x90 x91 x92 x93 x94 x95 x96 x97 x98 x99 x100 x101 x102 x103 x104 x105 x106 x107 x108 x109 x110 x111 x112 x113 x114 x115 x116 x117 x118 x119 x120 x121 x122 x123 x124 x125 x126 x127 x128 x129 x130 x131 x132 x133 x134 x135 x136 x137 x138 x139 x140 x141 x142 x143 x144 x145 x146 x147 x148 x149 x150 x151 x152 x153 x154 x155 x156 x157 x158 x159 x160 x161 x162 x163 x164 x165 x166 x167 x168 x169 x170 : Value)
    (h1 : Ints wq wq.heap.size (.slice A1 L1.length c1) L1)
    (hl : L1.length ≤ 1000)
    (hc : cntB L1 40000000 = true)
    (hx : pre L1 L1.length = x)
    (hw : wide * tot = x)
    (hwr : IntKind.i64.wrap (wide * tot) = wide * tot)
    (e13 : ((L1.length : Int) != (L3.length : Int)) = false)
    (e23 : ((L2.length : Int) != (L3.length : Int)) = false)
    (bT : Box wq a0 24 #[.int .i64 wide, sv])
    (hQ : ∀ (y117 y118 y119 y120 y121 y122 y123 y124 y125 y126 y127 y128 y129 y130 y131 y132 y133 y134 y135 y136 y137 y138 y139 y140 y141 y142 y143 y144 y145 y146 y147 y148 : Value) (w14 : World), Below wq.heap.size wq w14 → Q .normal { tmps := #[x0, x1, x2, .pointer (some ⟨a0, 0, none⟩), x4, x5, x6, x7, x8, x9, .slice A1 L1.length c1, x11, .slice A2 L2.length c2, .int .i64 0, .slice A3 L3.length c3, .int .i64 0, .int .i64 tot, .int .i64 0, x18, x19, x20, x21, x22, x23, x24, x25, x26, x27, x28, x29, x30, x31, x32, x33, x34, x35, x36, x37, x38, x39, x40, x41, x42, x43, x44, x45, x46, x47, x48, x49, x50, x51, x52, x53, x54, x55, x56, x57, x58, x59, x60, x61, x62, x63, x64, x65, x66, x67, x68, x69, x70, x71, x72, x73, x74, x75, x76, x77, x78, x79, x80, x81, x82, x83, x84, x85, x86, x87, x88, x89, x90, x91, x92, x93, x94, x95, x96, x97, x98, x99, x100, x101, x102, x103, x104, x105, x106, x107, x108, x109, x110, x111, x112, x113, x114, x115, x116, y117, y118, y119, y120, y121, y122, y123, y124, y125, y126, y127, y128, y129, y130, y131, y132, y133, y134, y135, y136, y137, y138, y139, y140, y141, y142, y143, y144, y145, y146, y147, y148, .bool false, x150, x151, x152, x153, x154, x155, x156, x157, x158, x159, x160, x161, x162, x163, x164, x165, x166, x167, x168, x169, x170], defers := [] } w14) :
    (Code.region 17 #[{ dst := some 117, op := Op.move (Operand.tmp 13), type := 28, pos := "theorems.go:94", after := #[], guard := none }, { dst := some 118, op := Op.binOp BinOp.neq 28 (Operand.tmp 117) (Operand.const (Value.int IntKind.i64 0)) 28, type := 4, pos := "theorems.go:94", after := #[{ on := 0, ground := Ground.data }], guard := none }, { dst := some 119, op := Op.move (Operand.tmp 118), type := 4, pos := "theorems.go:94", after := #[{ on := 1, ground := Ground.data }], guard := none }, { dst := some 120, op := Op.move (Operand.tmp 15), type := 28, pos := "theorems.go:94", after := #[{ on := 2, ground := Ground.guard }], guard := some (2, false) }, { dst := some 121, op := Op.binOp BinOp.neq 28 (Operand.tmp 120) (Operand.const (Value.int IntKind.i64 0)) 28, type := 4, pos := "theorems.go:94", after := #[{ on := 3, ground := Ground.data }, { on := 2, ground := Ground.guard }], guard := some (2, false) }, { dst := some 122, op := Op.pick (Operand.tmp 119) (Operand.const (Value.bool true)) (Operand.tmp 121), type := 4, pos := "theorems.go:94", after := #[{ on := 2, ground := Ground.data }, { on := 4, ground := Ground.data }], guard := none }, { dst := some 123, op := Op.move (Operand.tmp 122), type := 4, pos := "theorems.go:94", after := #[{ on := 5, ground := Ground.data }, { on := 2, ground := Ground.chain }], guard := none }, { dst := some 124, op := Op.move (Operand.tmp 17), type := 28, pos := "theorems.go:94", after := #[{ on := 6, ground := Ground.guard }], guard := some (6, false) }, { dst := some 125, op := Op.binOp BinOp.neq 28 (Operand.tmp 124) (Operand.const (Value.int IntKind.i64 0)) 28, type := 4, pos := "theorems.go:94", after := #[{ on := 7, ground := Ground.data }, { on := 6, ground := Ground.guard }], guard := some (6, false) }, { dst := some 126, op := Op.pick (Operand.tmp 123) (Operand.const (Value.bool true)) (Operand.tmp 125), type := 4, pos := "theorems.go:94", after := #[{ on := 6, ground := Ground.data }, { on := 8, ground := Ground.data }], guard := none }, { dst := some 127, op := Op.move (Operand.tmp 126), type := 4, pos := "theorems.go:94", after := #[{ on := 9, ground := Ground.data }, { on := 6, ground := Ground.chain }], guard := none }, { dst := some 128, op := Op.move (Operand.tmp 10), type := 25, pos := "theorems.go:94", after := #[{ on := 10, ground := Ground.guard }], guard := some (10, false) }, { dst := some 129, op := Op.call { callee := Callee.builtin Builtin.len, args := #[Operand.tmp 128], argTypes := #[25] }, type := 3, pos := "theorems.go:94", after := #[{ on := 11, ground := Ground.data }, { on := 10, ground := Ground.guard }], guard := some (10, false) }, { dst := some 130, op := Op.move (Operand.tmp 14), type := 25, pos := "theorems.go:94", after := #[{ on := 10, ground := Ground.guard }], guard := some (10, false) }, { dst := some 131, op := Op.call { callee := Callee.builtin Builtin.len, args := #[Operand.tmp 130], argTypes := #[25] }, type := 3, pos := "theorems.go:94", after := #[{ on := 13, ground := Ground.data }, { on := 10, ground := Ground.guard }], guard := some (10, false) }, { dst := some 132, op := Op.binOp BinOp.neq 3 (Operand.tmp 129) (Operand.tmp 131) 3, type := 4, pos := "theorems.go:94", after := #[{ on := 12, ground := Ground.data }, { on := 14, ground := Ground.data }, { on := 10, ground := Ground.guard }], guard := some (10, false) }, { dst := some 133, op := Op.pick (Operand.tmp 127) (Operand.const (Value.bool true)) (Operand.tmp 132), type := 4, pos := "theorems.go:94", after := #[{ on := 10, ground := Ground.data }, { on := 15, ground := Ground.data }], guard := none }, { dst := some 134, op := Op.move (Operand.tmp 133), type := 4, pos := "theorems.go:94", after := #[{ on := 16, ground := Ground.data }, { on := 10, ground := Ground.chain }], guard := none }, { dst := some 135, op := Op.move (Operand.tmp 12), type := 25, pos := "theorems.go:94", after := #[{ on := 17, ground := Ground.guard }], guard := some (17, false) }, { dst := some 136, op := Op.call { callee := Callee.builtin Builtin.len, args := #[Operand.tmp 135], argTypes := #[25] }, type := 3, pos := "theorems.go:94", after := #[{ on := 18, ground := Ground.data }, { on := 17, ground := Ground.guard }], guard := some (17, false) }, { dst := some 137, op := Op.move (Operand.tmp 14), type := 25, pos := "theorems.go:94", after := #[{ on := 17, ground := Ground.guard }], guard := some (17, false) }, { dst := some 138, op := Op.call { callee := Callee.builtin Builtin.len, args := #[Operand.tmp 137], argTypes := #[25] }, type := 3, pos := "theorems.go:94", after := #[{ on := 20, ground := Ground.data }, { on := 17, ground := Ground.guard }], guard := some (17, false) }, { dst := some 139, op := Op.binOp BinOp.neq 3 (Operand.tmp 136) (Operand.tmp 138) 3, type := 4, pos := "theorems.go:94", after := #[{ on := 19, ground := Ground.data }, { on := 21, ground := Ground.data }, { on := 17, ground := Ground.guard }], guard := some (17, false) }, { dst := some 140, op := Op.pick (Operand.tmp 134) (Operand.const (Value.bool true)) (Operand.tmp 139), type := 4, pos := "theorems.go:94", after := #[{ on := 17, ground := Ground.data }, { on := 22, ground := Ground.data }], guard := none }, { dst := some 141, op := Op.move (Operand.tmp 140), type := 4, pos := "theorems.go:94", after := #[{ on := 23, ground := Ground.data }, { on := 17, ground := Ground.chain }], guard := none }, { dst := some 142, op := Op.move (Operand.tmp 10), type := 25, pos := "theorems.go:94", after := #[{ on := 24, ground := Ground.guard }], guard := some (24, false) }, { dst := some 143, op := Op.call { callee := Callee.value (Operand.func 58), args := #[Operand.tmp 142], argTypes := #[25] }, type := 3, pos := "theorems.go:94", after := #[{ on := 25, ground := Ground.data }, { on := 24, ground := Ground.chain }, { on := 24, ground := Ground.guard }], guard := some (24, false) }, { dst := some 144, op := Op.fieldAddr 24 (Operand.tmp 3) 0, type := 0, pos := "theorems.go:94", after := #[{ on := 24, ground := Ground.guard }], guard := some (24, false) }, { dst := some 145, op := Op.load 3 (Operand.tmp 144), type := 3, pos := "theorems.go:94", after := #[{ on := 27, ground := Ground.data }, { on := 24, ground := Ground.guard }], guard := some (24, false) }, { dst := some 146, op := Op.move (Operand.tmp 16), type := 3, pos := "theorems.go:94", after := #[{ on := 24, ground := Ground.guard }], guard := some (24, false) }, { dst := some 147, op := Op.binOp BinOp.mul 3 (Operand.tmp 145) (Operand.tmp 146) 3, type := 3, pos := "theorems.go:94", after := #[{ on := 28, ground := Ground.data }, { on := 29, ground := Ground.data }, { on := 24, ground := Ground.guard }], guard := some (24, false) }, { dst := some 148, op := Op.binOp BinOp.neq 3 (Operand.tmp 143) (Operand.tmp 147) 3, type := 4, pos := "theorems.go:94", after := #[{ on := 26, ground := Ground.data }, { on := 30, ground := Ground.data }, { on := 24, ground := Ground.guard }], guard := some (24, false) }, { dst := some 149, op := Op.pick (Operand.tmp 141) (Operand.const (Value.bool true)) (Operand.tmp 148), type := 4, pos := "theorems.go:94", after := #[{ on := 24, ground := Ground.data }, { on := 31, ground := Ground.data }], guard := none }] true).wp Try.prog Q { tmps := #[x0, x1, x2, .pointer (some ⟨a0, 0, none⟩), x4, x5, x6, x7, x8, x9, .slice A1 L1.length c1, x11, .slice A2 L2.length c2, .int .i64 0, .slice A3 L3.length c3, .int .i64 0, .int .i64 tot, .int .i64 0, x18, x19, x20, x21, x22, x23, x24, x25, x26, x27, x28, x29, x30, x31, x32, x33, x34, x35, x36, x37, x38, x39, x40, x41, x42, x43, x44, x45, x46, x47, x48, x49, x50, x51, x52, x53, x54, x55, x56, x57, x58, x59, x60, x61, x62, x63, x64, x65, x66, x67, x68, x69, x70, x71, x72, x73, x74, x75, x76, x77, x78, x79, x80, x81, x82, x83, x84, x85, x86, x87, x88, x89, x90, x91, x92, x93, x94, x95, x96, x97, x98, x99, x100, x101, x102, x103, x104, x105, x106, x107, x108, x109, x110, x111, x112, x113, x114, x115, x116, x117, x118, x119, x120, x121, x122, x123, x124, x125, x126, x127, x128, x129, x130, x131, x132, x133, x134, x135, x136, x137, x138, x139, x140, x141, x142, x143, x144, x145, x146, x147, x148, x149, x150, x151, x152, x153, x154, x155, x156, x157, x158, x159, x160, x161, x162, x163, x164, x165, x166, x167, x168, x169, x170], defers := [] } wq := by
  have HQ := Lib.hid hQ
  clear hQ
  have hdr : Below wq.heap.size wq wq.drew := (Below.refl _ _).drew
  have h1d := h1.mono hdr hdr.size
  have HX := Lib.hid hx
  have HL := Lib.hid hl
  have HC := Lib.hid hc
  have E13 := Lib.hid e13
  have E23 := Lib.hid e23
  have HW := Lib.hid hw
  have HWR := Lib.hid hwr
  have l0 := bT.lt
  have hcall : ∀ X Y : World, (fun W => W.cell? ⟨a0, 0, none⟩ = some (.int .i64 wide) ∧ W.cell? ⟨a0, 1, none⟩ = some (sv) ∧ Below wq.heap.size wq W ∧ wq.heap.size ≤ W.heap.size) X → Below X.heap.size X Y → (fun W => W.cell? ⟨a0, 0, none⟩ = some (.int .i64 wide) ∧ W.cell? ⟨a0, 1, none⟩ = some (sv) ∧ Below wq.heap.size wq W ∧ wq.heap.size ≤ W.heap.size) Y := by
    rintro X Y ⟨z0, z1, xb, xs⟩ hb
    have hb2 := Below.mono (B' := wq.heap.size) hb xs
    exact ⟨keepd z0 hb2 l0, keepd z1 hb2 l0, Below.trans xb hb2, Nat.le_trans xs hb.size⟩
  have hini : (fun W => W.cell? ⟨a0, 0, none⟩ = some (.int .i64 wide) ∧ W.cell? ⟨a0, 1, none⟩ = some (sv) ∧ Below wq.heap.size wq W ∧ wq.heap.size ≤ W.heap.size) wq.drew := ⟨bT.cell 0, bT.cell 1, hdr, Nat.le_refl _⟩
  have e13 := E13.out
  have e23 := E23.out
  have ewx : (x != wide * tot) = false := by rw [HW.out]; simp
  have hwr2 : IntKind.i64.wrap (wide * tot) = wide * tot := HWR.out
  have Hcall := Lib.hid hcall
  have Hini := Lib.hid hini
  clear h1 hl hc hx hw hwr e13 e23 bT hdr l0 hcall hini
  refine wp_region_noPanic ?_
  refine wp_region_held_drew (S := (fun W => W.cell? ⟨a0, 0, none⟩ = some (.int .i64 wide) ∧ W.cell? ⟨a0, 1, none⟩ = some (sv) ∧ Below wq.heap.size wq W ∧ wq.heap.size ≤ W.heap.size)) (by kernel_rfl) Hini.out (fun hHeld => ?_)
  refine wpAnyH_take (i := 0) (oi := { dst := some 117, op := Op.move (Operand.tmp 13), type := 28, pos := "theorems.go:94", after := #[], guard := none }) (v := ?vh1) rfl ?hsh1 ?hfh1 ?hrh1 ?hQh1 ?hyh1 (by assumption) ?resth1
  case hsh1 => kernel_rfl
  case hfh1 => kernel_rfl
  case hrh1 => kernel_rfl
  case hQh1 => exact fun _ _ _ h => h
  case hyh1 => (refine Or.inl ⟨by rfl, ?_⟩; intro w hSw; (try dsimp only at hSw); go_simp; try with_reducible rfl)
  try simp only [Act.put, List.setIfInBounds_toArray, List.set_cons_zero, List.set_cons_succ]
  refine wpAnyH_take (i := 1) (oi := { dst := some 118, op := Op.binOp BinOp.neq 28 (Operand.tmp 117) (Operand.const (Value.int IntKind.i64 0)) 28, type := 4, pos := "theorems.go:94", after := #[{ on := 0, ground := Ground.data }], guard := none }) (v := ?vh2) rfl ?hsh2 ?hfh2 ?hrh2 ?hQh2 ?hyh2 (by assumption) ?resth2
  case hsh2 => kernel_rfl
  case hfh2 => kernel_rfl
  case hrh2 => kernel_rfl
  case hQh2 => exact fun _ _ _ h => h
  case hyh2 => (refine Or.inl ⟨by rfl, ?_⟩; intro w hSw; (try dsimp only at hSw); go_simp; try with_reducible rfl)
  try simp only [Act.put, List.setIfInBounds_toArray, List.set_cons_zero, List.set_cons_succ]
  refine wpAnyH_take (i := 2) (oi := { dst := some 119, op := Op.move (Operand.tmp 118), type := 4, pos := "theorems.go:94", after := #[{ on := 1, ground := Ground.data }], guard := none }) (v := ?vh3) rfl ?hsh3 ?hfh3 ?hrh3 ?hQh3 ?hyh3 (by assumption) ?resth3
  case hsh3 => kernel_rfl
  case hfh3 => kernel_rfl
  case hrh3 => kernel_rfl
  case hQh3 => exact fun _ _ _ h => h
  case hyh3 => (refine Or.inl ⟨by rfl, ?_⟩; intro w hSw; (try dsimp only at hSw); go_simp; try with_reducible rfl)
  try simp only [Act.put, List.setIfInBounds_toArray, List.set_cons_zero, List.set_cons_succ]
  refine wpAnyH_take (i := 3) (oi := { dst := some 120, op := Op.move (Operand.tmp 15), type := 28, pos := "theorems.go:94", after := #[{ on := 2, ground := Ground.guard }], guard := some (2, false) }) (v := ?vh4) rfl ?hsh4 ?hfh4 ?hrh4 ?hQh4 ?hyh4 (by assumption) ?resth4
  case hsh4 => kernel_rfl
  case hfh4 => kernel_rfl
  case hrh4 => kernel_rfl
  case hQh4 => exact fun _ _ _ h => h
  case hyh4 => (refine Or.inl ⟨by rfl, ?_⟩; intro w hSw; (try dsimp only at hSw); go_simp; try with_reducible rfl)
  try simp only [Act.put, List.setIfInBounds_toArray, List.set_cons_zero, List.set_cons_succ]
  refine wpAnyH_take (i := 4) (oi := { dst := some 121, op := Op.binOp BinOp.neq 28 (Operand.tmp 120) (Operand.const (Value.int IntKind.i64 0)) 28, type := 4, pos := "theorems.go:94", after := #[{ on := 3, ground := Ground.data }, { on := 2, ground := Ground.guard }], guard := some (2, false) }) (v := ?vh5) rfl ?hsh5 ?hfh5 ?hrh5 ?hQh5 ?hyh5 (by assumption) ?resth5
  case hsh5 => kernel_rfl
  case hfh5 => kernel_rfl
  case hrh5 => kernel_rfl
  case hQh5 => exact fun _ _ _ h => h
  case hyh5 => (refine Or.inl ⟨by rfl, ?_⟩; intro w hSw; (try dsimp only at hSw); go_simp; try with_reducible rfl)
  try simp only [Act.put, List.setIfInBounds_toArray, List.set_cons_zero, List.set_cons_succ]
  refine wpAnyH_take (i := 5) (oi := { dst := some 122, op := Op.pick (Operand.tmp 119) (Operand.const (Value.bool true)) (Operand.tmp 121), type := 4, pos := "theorems.go:94", after := #[{ on := 2, ground := Ground.data }, { on := 4, ground := Ground.data }], guard := none }) (v := ?vh6) rfl ?hsh6 ?hfh6 ?hrh6 ?hQh6 ?hyh6 (by assumption) ?resth6
  case hsh6 => kernel_rfl
  case hfh6 => kernel_rfl
  case hrh6 => kernel_rfl
  case hQh6 => exact fun _ _ _ h => h
  case hyh6 => (refine Or.inl ⟨by rfl, ?_⟩; intro w hSw; (try dsimp only at hSw); go_simp; try with_reducible rfl)
  try simp only [Act.put, List.setIfInBounds_toArray, List.set_cons_zero, List.set_cons_succ]
  refine wpAnyH_take (i := 6) (oi := { dst := some 123, op := Op.move (Operand.tmp 122), type := 4, pos := "theorems.go:94", after := #[{ on := 5, ground := Ground.data }, { on := 2, ground := Ground.chain }], guard := none }) (v := ?vh7) rfl ?hsh7 ?hfh7 ?hrh7 ?hQh7 ?hyh7 (by assumption) ?resth7
  case hsh7 => kernel_rfl
  case hfh7 => kernel_rfl
  case hrh7 => kernel_rfl
  case hQh7 => exact fun _ _ _ h => h
  case hyh7 => (refine Or.inl ⟨by rfl, ?_⟩; intro w hSw; (try dsimp only at hSw); go_simp; try with_reducible rfl)
  try simp only [Act.put, List.setIfInBounds_toArray, List.set_cons_zero, List.set_cons_succ]
  refine wpAnyH_take (i := 7) (oi := { dst := some 124, op := Op.move (Operand.tmp 17), type := 28, pos := "theorems.go:94", after := #[{ on := 6, ground := Ground.guard }], guard := some (6, false) }) (v := ?vh8) rfl ?hsh8 ?hfh8 ?hrh8 ?hQh8 ?hyh8 (by assumption) ?resth8
  case hsh8 => kernel_rfl
  case hfh8 => kernel_rfl
  case hrh8 => kernel_rfl
  case hQh8 => exact fun _ _ _ h => h
  case hyh8 => (refine Or.inl ⟨by rfl, ?_⟩; intro w hSw; (try dsimp only at hSw); go_simp; try with_reducible rfl)
  try simp only [Act.put, List.setIfInBounds_toArray, List.set_cons_zero, List.set_cons_succ]
  refine wpAnyH_take (i := 8) (oi := { dst := some 125, op := Op.binOp BinOp.neq 28 (Operand.tmp 124) (Operand.const (Value.int IntKind.i64 0)) 28, type := 4, pos := "theorems.go:94", after := #[{ on := 7, ground := Ground.data }, { on := 6, ground := Ground.guard }], guard := some (6, false) }) (v := ?vh9) rfl ?hsh9 ?hfh9 ?hrh9 ?hQh9 ?hyh9 (by assumption) ?resth9
  case hsh9 => kernel_rfl
  case hfh9 => kernel_rfl
  case hrh9 => kernel_rfl
  case hQh9 => exact fun _ _ _ h => h
  case hyh9 => (refine Or.inl ⟨by rfl, ?_⟩; intro w hSw; (try dsimp only at hSw); go_simp; try with_reducible rfl)
  try simp only [Act.put, List.setIfInBounds_toArray, List.set_cons_zero, List.set_cons_succ]
  refine wpAnyH_take (i := 9) (oi := { dst := some 126, op := Op.pick (Operand.tmp 123) (Operand.const (Value.bool true)) (Operand.tmp 125), type := 4, pos := "theorems.go:94", after := #[{ on := 6, ground := Ground.data }, { on := 8, ground := Ground.data }], guard := none }) (v := ?vh10) rfl ?hsh10 ?hfh10 ?hrh10 ?hQh10 ?hyh10 (by assumption) ?resth10
  case hsh10 => kernel_rfl
  case hfh10 => kernel_rfl
  case hrh10 => kernel_rfl
  case hQh10 => exact fun _ _ _ h => h
  case hyh10 => (refine Or.inl ⟨by rfl, ?_⟩; intro w hSw; (try dsimp only at hSw); go_simp; try with_reducible rfl)
  try simp only [Act.put, List.setIfInBounds_toArray, List.set_cons_zero, List.set_cons_succ]
  refine wpAnyH_take (i := 10) (oi := { dst := some 127, op := Op.move (Operand.tmp 126), type := 4, pos := "theorems.go:94", after := #[{ on := 9, ground := Ground.data }, { on := 6, ground := Ground.chain }], guard := none }) (v := ?vh11) rfl ?hsh11 ?hfh11 ?hrh11 ?hQh11 ?hyh11 (by assumption) ?resth11
  case hsh11 => kernel_rfl
  case hfh11 => kernel_rfl
  case hrh11 => kernel_rfl
  case hQh11 => exact fun _ _ _ h => h
  case hyh11 => (refine Or.inl ⟨by rfl, ?_⟩; intro w hSw; (try dsimp only at hSw); go_simp; try with_reducible rfl)
  try simp only [Act.put, List.setIfInBounds_toArray, List.set_cons_zero, List.set_cons_succ]
  refine wpAnyH_take (i := 11) (oi := { dst := some 128, op := Op.move (Operand.tmp 10), type := 25, pos := "theorems.go:94", after := #[{ on := 10, ground := Ground.guard }], guard := some (10, false) }) (v := ?vh12) rfl ?hsh12 ?hfh12 ?hrh12 ?hQh12 ?hyh12 (by assumption) ?resth12
  case hsh12 => kernel_rfl
  case hfh12 => kernel_rfl
  case hrh12 => kernel_rfl
  case hQh12 => exact fun _ _ _ h => h
  case hyh12 => (refine Or.inl ⟨by rfl, ?_⟩; intro w hSw; (try dsimp only at hSw); go_simp; try with_reducible rfl)
  try simp only [Act.put, List.setIfInBounds_toArray, List.set_cons_zero, List.set_cons_succ]
  refine wpAnyH_take (i := 12) (oi := { dst := some 129, op := Op.call { callee := Callee.builtin Builtin.len, args := #[Operand.tmp 128], argTypes := #[25] }, type := 3, pos := "theorems.go:94", after := #[{ on := 11, ground := Ground.data }, { on := 10, ground := Ground.guard }], guard := some (10, false) }) (v := ?vh13) rfl ?hsh13 ?hfh13 ?hrh13 ?hQh13 ?hyh13 (by assumption) ?resth13
  case hsh13 => kernel_rfl
  case hfh13 => kernel_rfl
  case hrh13 => kernel_rfl
  case hQh13 => exact fun _ _ _ h => h
  case hyh13 => (refine Or.inl ⟨by rfl, ?_⟩; intro w hSw; (try dsimp only at hSw); go_simp; try with_reducible rfl)
  try simp only [Act.put, List.setIfInBounds_toArray, List.set_cons_zero, List.set_cons_succ]
  refine wpAnyH_take (i := 13) (oi := { dst := some 130, op := Op.move (Operand.tmp 14), type := 25, pos := "theorems.go:94", after := #[{ on := 10, ground := Ground.guard }], guard := some (10, false) }) (v := ?vh14) rfl ?hsh14 ?hfh14 ?hrh14 ?hQh14 ?hyh14 (by assumption) ?resth14
  case hsh14 => kernel_rfl
  case hfh14 => kernel_rfl
  case hrh14 => kernel_rfl
  case hQh14 => exact fun _ _ _ h => h
  case hyh14 => (refine Or.inl ⟨by rfl, ?_⟩; intro w hSw; (try dsimp only at hSw); go_simp; try with_reducible rfl)
  try simp only [Act.put, List.setIfInBounds_toArray, List.set_cons_zero, List.set_cons_succ]
  refine wpAnyH_take (i := 14) (oi := { dst := some 131, op := Op.call { callee := Callee.builtin Builtin.len, args := #[Operand.tmp 130], argTypes := #[25] }, type := 3, pos := "theorems.go:94", after := #[{ on := 13, ground := Ground.data }, { on := 10, ground := Ground.guard }], guard := some (10, false) }) (v := ?vh15) rfl ?hsh15 ?hfh15 ?hrh15 ?hQh15 ?hyh15 (by assumption) ?resth15
  case hsh15 => kernel_rfl
  case hfh15 => kernel_rfl
  case hrh15 => kernel_rfl
  case hQh15 => exact fun _ _ _ h => h
  case hyh15 => (refine Or.inl ⟨by rfl, ?_⟩; intro w hSw; (try dsimp only at hSw); go_simp; try with_reducible rfl)
  try simp only [Act.put, List.setIfInBounds_toArray, List.set_cons_zero, List.set_cons_succ]
  refine wpAnyH_take (i := 15) (oi := { dst := some 132, op := Op.binOp BinOp.neq 3 (Operand.tmp 129) (Operand.tmp 131) 3, type := 4, pos := "theorems.go:94", after := #[{ on := 12, ground := Ground.data }, { on := 14, ground := Ground.data }, { on := 10, ground := Ground.guard }], guard := some (10, false) }) (v := ?vh16) rfl ?hsh16 ?hfh16 ?hrh16 ?hQh16 ?hyh16 (by assumption) ?resth16
  case hsh16 => kernel_rfl
  case hfh16 => kernel_rfl
  case hrh16 => kernel_rfl
  case hQh16 => exact fun _ _ _ h => h
  case hyh16 => (refine Or.inl ⟨by rfl, ?_⟩; intro w hSw; (try dsimp only at hSw); go_simp; try with_reducible rfl)
  try simp only [Act.put, List.setIfInBounds_toArray, List.set_cons_zero, List.set_cons_succ]
  refine wpAnyH_take (i := 16) (oi := { dst := some 133, op := Op.pick (Operand.tmp 127) (Operand.const (Value.bool true)) (Operand.tmp 132), type := 4, pos := "theorems.go:94", after := #[{ on := 10, ground := Ground.data }, { on := 15, ground := Ground.data }], guard := none }) (v := ?vh17) rfl ?hsh17 ?hfh17 ?hrh17 ?hQh17 ?hyh17 (by assumption) ?resth17
  case hsh17 => kernel_rfl
  case hfh17 => kernel_rfl
  case hrh17 => kernel_rfl
  case hQh17 => exact fun _ _ _ h => h
  case hyh17 => (refine Or.inl ⟨by rfl, ?_⟩; intro w hSw; (try dsimp only at hSw); go_simp; try with_reducible rfl)
  try simp only [Act.put, List.setIfInBounds_toArray, List.set_cons_zero, List.set_cons_succ]
  refine wpAnyH_take (i := 17) (oi := { dst := some 134, op := Op.move (Operand.tmp 133), type := 4, pos := "theorems.go:94", after := #[{ on := 16, ground := Ground.data }, { on := 10, ground := Ground.chain }], guard := none }) (v := ?vh18) rfl ?hsh18 ?hfh18 ?hrh18 ?hQh18 ?hyh18 (by assumption) ?resth18
  case hsh18 => kernel_rfl
  case hfh18 => kernel_rfl
  case hrh18 => kernel_rfl
  case hQh18 => exact fun _ _ _ h => h
  case hyh18 => (refine Or.inl ⟨by rfl, ?_⟩; intro w hSw; (try dsimp only at hSw); go_simp; try with_reducible rfl)
  try simp only [Act.put, List.setIfInBounds_toArray, List.set_cons_zero, List.set_cons_succ]
  refine wpAnyH_take (i := 18) (oi := { dst := some 135, op := Op.move (Operand.tmp 12), type := 25, pos := "theorems.go:94", after := #[{ on := 17, ground := Ground.guard }], guard := some (17, false) }) (v := ?vh19) rfl ?hsh19 ?hfh19 ?hrh19 ?hQh19 ?hyh19 (by assumption) ?resth19
  case hsh19 => kernel_rfl
  case hfh19 => kernel_rfl
  case hrh19 => kernel_rfl
  case hQh19 => exact fun _ _ _ h => h
  case hyh19 => (refine Or.inl ⟨by rfl, ?_⟩; intro w hSw; (try dsimp only at hSw); go_simp; try with_reducible rfl)
  try simp only [Act.put, List.setIfInBounds_toArray, List.set_cons_zero, List.set_cons_succ]
  refine wpAnyH_take (i := 19) (oi := { dst := some 136, op := Op.call { callee := Callee.builtin Builtin.len, args := #[Operand.tmp 135], argTypes := #[25] }, type := 3, pos := "theorems.go:94", after := #[{ on := 18, ground := Ground.data }, { on := 17, ground := Ground.guard }], guard := some (17, false) }) (v := ?vh20) rfl ?hsh20 ?hfh20 ?hrh20 ?hQh20 ?hyh20 (by assumption) ?resth20
  case hsh20 => kernel_rfl
  case hfh20 => kernel_rfl
  case hrh20 => kernel_rfl
  case hQh20 => exact fun _ _ _ h => h
  case hyh20 => (refine Or.inl ⟨by rfl, ?_⟩; intro w hSw; (try dsimp only at hSw); go_simp; try with_reducible rfl)
  try simp only [Act.put, List.setIfInBounds_toArray, List.set_cons_zero, List.set_cons_succ]
  refine wpAnyH_take (i := 20) (oi := { dst := some 137, op := Op.move (Operand.tmp 14), type := 25, pos := "theorems.go:94", after := #[{ on := 17, ground := Ground.guard }], guard := some (17, false) }) (v := ?vh21) rfl ?hsh21 ?hfh21 ?hrh21 ?hQh21 ?hyh21 (by assumption) ?resth21
  case hsh21 => kernel_rfl
  case hfh21 => kernel_rfl
  case hrh21 => kernel_rfl
  case hQh21 => exact fun _ _ _ h => h
  case hyh21 => (refine Or.inl ⟨by rfl, ?_⟩; intro w hSw; (try dsimp only at hSw); go_simp; try with_reducible rfl)
  try simp only [Act.put, List.setIfInBounds_toArray, List.set_cons_zero, List.set_cons_succ]
  refine wpAnyH_take (i := 21) (oi := { dst := some 138, op := Op.call { callee := Callee.builtin Builtin.len, args := #[Operand.tmp 137], argTypes := #[25] }, type := 3, pos := "theorems.go:94", after := #[{ on := 20, ground := Ground.data }, { on := 17, ground := Ground.guard }], guard := some (17, false) }) (v := ?vh22) rfl ?hsh22 ?hfh22 ?hrh22 ?hQh22 ?hyh22 (by assumption) ?resth22
  case hsh22 => kernel_rfl
  case hfh22 => kernel_rfl
  case hrh22 => kernel_rfl
  case hQh22 => exact fun _ _ _ h => h
  case hyh22 => (refine Or.inl ⟨by rfl, ?_⟩; intro w hSw; (try dsimp only at hSw); go_simp; try with_reducible rfl)
  try simp only [Act.put, List.setIfInBounds_toArray, List.set_cons_zero, List.set_cons_succ]
  refine wpAnyH_take (i := 22) (oi := { dst := some 139, op := Op.binOp BinOp.neq 3 (Operand.tmp 136) (Operand.tmp 138) 3, type := 4, pos := "theorems.go:94", after := #[{ on := 19, ground := Ground.data }, { on := 21, ground := Ground.data }, { on := 17, ground := Ground.guard }], guard := some (17, false) }) (v := ?vh23) rfl ?hsh23 ?hfh23 ?hrh23 ?hQh23 ?hyh23 (by assumption) ?resth23
  case hsh23 => kernel_rfl
  case hfh23 => kernel_rfl
  case hrh23 => kernel_rfl
  case hQh23 => exact fun _ _ _ h => h
  case hyh23 => (refine Or.inl ⟨by rfl, ?_⟩; intro w hSw; (try dsimp only at hSw); go_simp; try with_reducible rfl)
  try simp only [Act.put, List.setIfInBounds_toArray, List.set_cons_zero, List.set_cons_succ]
  refine wpAnyH_take (i := 23) (oi := { dst := some 140, op := Op.pick (Operand.tmp 134) (Operand.const (Value.bool true)) (Operand.tmp 139), type := 4, pos := "theorems.go:94", after := #[{ on := 17, ground := Ground.data }, { on := 22, ground := Ground.data }], guard := none }) (v := ?vh24) rfl ?hsh24 ?hfh24 ?hrh24 ?hQh24 ?hyh24 (by assumption) ?resth24
  case hsh24 => kernel_rfl
  case hfh24 => kernel_rfl
  case hrh24 => kernel_rfl
  case hQh24 => exact fun _ _ _ h => h
  case hyh24 => (refine Or.inl ⟨by rfl, ?_⟩; intro w hSw; (try dsimp only at hSw); go_simp; try with_reducible rfl)
  try simp only [Act.put, List.setIfInBounds_toArray, List.set_cons_zero, List.set_cons_succ]
  refine wpAnyH_take (i := 24) (oi := { dst := some 141, op := Op.move (Operand.tmp 140), type := 4, pos := "theorems.go:94", after := #[{ on := 23, ground := Ground.data }, { on := 17, ground := Ground.chain }], guard := none }) (v := ?vh25) rfl ?hsh25 ?hfh25 ?hrh25 ?hQh25 ?hyh25 (by assumption) ?resth25
  case hsh25 => kernel_rfl
  case hfh25 => kernel_rfl
  case hrh25 => kernel_rfl
  case hQh25 => exact fun _ _ _ h => h
  case hyh25 => (refine Or.inl ⟨by rfl, ?_⟩; intro w hSw; (try dsimp only at hSw); go_simp; try with_reducible rfl)
  try simp only [Act.put, List.setIfInBounds_toArray, List.set_cons_zero, List.set_cons_succ]
  refine wpAnyH_take (i := 25) (oi := { dst := some 142, op := Op.move (Operand.tmp 10), type := 25, pos := "theorems.go:94", after := #[{ on := 24, ground := Ground.guard }], guard := some (24, false) }) (v := ?vh26) rfl ?hsh26 ?hfh26 ?hrh26 ?hQh26 ?hyh26 (by assumption) ?resth26
  case hsh26 => kernel_rfl
  case hfh26 => kernel_rfl
  case hrh26 => kernel_rfl
  case hQh26 => exact fun _ _ _ h => h
  case hyh26 => (refine Or.inl ⟨by rfl, ?_⟩; intro w hSw; (try dsimp only at hSw); go_simp; try with_reducible rfl)
  try simp only [Act.put, List.setIfInBounds_toArray, List.set_cons_zero, List.set_cons_succ]
  refine wpAnyH_take (i := 27) (oi := { dst := some 144, op := Op.fieldAddr 24 (Operand.tmp 3) 0, type := 0, pos := "theorems.go:94", after := #[{ on := 24, ground := Ground.guard }], guard := some (24, false) }) (v := ?vh27) rfl ?hsh27 ?hfh27 ?hrh27 ?hQh27 ?hyh27 (by assumption) ?resth27
  case hsh27 => kernel_rfl
  case hfh27 => kernel_rfl
  case hrh27 => kernel_rfl
  case hQh27 => exact fun _ _ _ h => h
  case hyh27 => (refine Or.inl ⟨by rfl, ?_⟩; intro w hSw; (try dsimp only at hSw); go_simp; try with_reducible rfl)
  try simp only [Act.put, List.setIfInBounds_toArray, List.set_cons_zero, List.set_cons_succ]
  refine wpAnyH_take (i := 28) (oi := { dst := some 145, op := Op.load 3 (Operand.tmp 144), type := 3, pos := "theorems.go:94", after := #[{ on := 27, ground := Ground.data }, { on := 24, ground := Ground.guard }], guard := some (24, false) }) (v := ?vh28) rfl ?hsh28 ?hfh28 ?hrh28 ?hQh28 ?hyh28 (by assumption) ?resth28
  case hsh28 => kernel_rfl
  case hfh28 => kernel_rfl
  case hrh28 => kernel_rfl
  case hQh28 => exact fun _ _ _ h => h
  case hyh28 => (refine Or.inl ⟨by rfl, ?_⟩; intro w hSw; (try dsimp only at hSw); go_simp; try with_reducible rfl)
  try simp only [Act.put, List.setIfInBounds_toArray, List.set_cons_zero, List.set_cons_succ]
  refine wpAnyH_take (i := 29) (oi := { dst := some 146, op := Op.move (Operand.tmp 16), type := 3, pos := "theorems.go:94", after := #[{ on := 24, ground := Ground.guard }], guard := some (24, false) }) (v := ?vh29) rfl ?hsh29 ?hfh29 ?hrh29 ?hQh29 ?hyh29 (by assumption) ?resth29
  case hsh29 => kernel_rfl
  case hfh29 => kernel_rfl
  case hrh29 => kernel_rfl
  case hQh29 => exact fun _ _ _ h => h
  case hyh29 => (refine Or.inl ⟨by rfl, ?_⟩; intro w hSw; (try dsimp only at hSw); go_simp; try with_reducible rfl)
  try simp only [Act.put, List.setIfInBounds_toArray, List.set_cons_zero, List.set_cons_succ]
  refine wpAnyH_take (i := 30) (oi := { dst := some 147, op := Op.binOp BinOp.mul 3 (Operand.tmp 145) (Operand.tmp 146) 3, type := 3, pos := "theorems.go:94", after := #[{ on := 28, ground := Ground.data }, { on := 29, ground := Ground.data }, { on := 24, ground := Ground.guard }], guard := some (24, false) }) (v := ?vh30) rfl ?hsh30 ?hfh30 ?hrh30 ?hQh30 ?hyh30 (by assumption) ?resth30
  case hsh30 => kernel_rfl
  case hfh30 => kernel_rfl
  case hrh30 => kernel_rfl
  case hQh30 => exact fun _ _ _ h => h
  case hyh30 => (refine Or.inl ⟨by rfl, ?_⟩; intro w hSw; (try dsimp only at hSw); go_simp; try with_reducible rfl)
  try simp only [Act.put, List.setIfInBounds_toArray, List.set_cons_zero, List.set_cons_succ]
  refine wpAnyH_ready (rs := [26]) (by kernel_rfl) (by simp) ?_
  refine AllReadyH.cons (o := _) (by rfl) (fun K hK => ?_) AllReadyH.nil
  go_simp
  go_at_call 58
  refine (lsum_b L1 x 40000000 HX.out _ _ (h1d) HL.out (by omega) (by omega) HC.out).mono ?_
  rintro e w10 ⟨rfl, rfl⟩
  have hb10 : Below wq.drew.heap.size wq.drew wq.drew := Below.refl _ _
  go_wp2_with fail
  refine hK.out _ _ (Hcall.out _ _ hHeld (by assumption)) (fun hHeld0 => ?_)
  clear hK K hHeld
  have hHeld := hHeld0
  clear hHeld0
  try simp only [Act.put, List.setIfInBounds_toArray, List.set_cons_zero, List.set_cons_succ]
  refine wpAnyH_take (i := 31) (oi := { dst := some 148, op := Op.binOp BinOp.neq 3 (Operand.tmp 143) (Operand.tmp 147) 3, type := 4, pos := "theorems.go:94", after := #[{ on := 26, ground := Ground.data }, { on := 30, ground := Ground.data }, { on := 24, ground := Ground.guard }], guard := some (24, false) }) (v := ?vh31) rfl ?hsh31 ?hfh31 ?hrh31 ?hQh31 ?hyh31 (by assumption) ?resth31
  case hsh31 => kernel_rfl
  case hfh31 => kernel_rfl
  case hrh31 => kernel_rfl
  case hQh31 => exact fun _ _ _ h => h
  case hyh31 => (refine Or.inl ⟨by rfl, ?_⟩; intro w hSw; (try dsimp only at hSw); go_simp; try with_reducible rfl)
  try simp only [Act.put, List.setIfInBounds_toArray, List.set_cons_zero, List.set_cons_succ]
  refine wpAnyH_take (i := 32) (oi := { dst := some 149, op := Op.pick (Operand.tmp 141) (Operand.const (Value.bool true)) (Operand.tmp 148), type := 4, pos := "theorems.go:94", after := #[{ on := 24, ground := Ground.data }, { on := 31, ground := Ground.data }], guard := none }) (v := ?vh32) rfl ?hsh32 ?hfh32 ?hrh32 ?hQh32 ?hyh32 (by assumption) ?resth32
  case hsh32 => kernel_rfl
  case hfh32 => kernel_rfl
  case hrh32 => kernel_rfl
  case hQh32 => exact fun _ _ _ h => h
  case hyh32 => (refine Or.inl ⟨by rfl, ?_⟩; intro w hSw; (try dsimp only at hSw); go_simp; try with_reducible rfl)
  try simp only [Act.put, List.setIfInBounds_toArray, List.set_cons_zero, List.set_cons_succ]
  refine wpAnyH_done (by kernel_rfl) ?_ _
  refine NoPanic.normal ?_
  obtain ⟨-, -, xb, -⟩ := hHeld
  exact HQ.out _ _ _ _ _ _ _ _ _ _ _ _ _ _ _ _ _ _ _ _ _ _ _ _ _ _ _ _ _ _ _ _ _ xb

end Go.Proofs.Ytfhbpeafapabhaa

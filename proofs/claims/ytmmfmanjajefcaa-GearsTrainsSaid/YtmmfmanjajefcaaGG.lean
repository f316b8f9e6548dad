/- GearsTrains: the test, a region by itself. -/
import Derived.Test.YtmmfmanjajefcaaGC
import Derived.Deep.RegionHeld3
namespace Go.Proofs.Ytmmfmanjajefcaa
open Go.RowKit

set_option maxRecDepth 100000 in
set_option maxHeartbeats 8000000 in
theorem trains12_c (ms : List Mh) (A : Option Addr) (l c : Nat) (xn xd e h gr ml k : Int) (hu : Bool) (a0 r0 r1 : Nat) (wq : World) (Q : Exit → Act → World → Prop) (x0 x1 x2 x3 x5 x6 x7 x8 x26 x27 x28 x29 x30 x31 x32 x33 x34 x35 x36 x37 x38 x39 x40 x41 x42 x43 x44 x45 x46 x47 x48 x49 x50 x51 x52 x53 x54 x55 x56 x57 x58 x59 x60 x61 x62 x63 x64 x65 x66 x67 x68 x69 x70 x71 x72 x73 x74 x75 x76 x77 x78 x79 x80 x81 x82 x83 x84 x85 x86 x87 x88 x89 x90 x91 x92 x93 x94 x95 x96 x97 x98 x99 x100 x101 x102 x103 x104 x105 x106 x107 x108 x109 x110 x111 x112 x113 x114 x115 x116 x117 x118 x119 x120 x121 x122 : Value)
    (hT : IsTr wq wq.heap.size (.agg #[.slice A l c]) ms)
    (hl : ms.length ≤ 100)
    (bA : Box wq a0 35 #[.slice A l c])
    (bR0 : Box wq r0 23 #[.int .i64 xn, .int .i64 xd])
    (bR1 : Box wq r1 23 #[.int .i64 xn, .int .i64 xd])
    (hQ : ∀ (y75 y76 y77 y78 y79 y80 y81 y82 y83 y84 y85 y86 y87 y88 y89 y90 y91 y92 y93 y94 y95 y96 y97 y98 y99 y100 y101 y102 y103 y104 y105 y106 y107 y108 y109 y110 y111 y112 y113 y114 y115 y116 y117 y118 y119 y120 y121 y122 : Value) (w14 : World), Below wq.heap.size wq w14 → Q .normal { tmps := #[x0, x1, x2, x3, .pointer (some ⟨a0, 0, none⟩), x5, x6, x7, .bool true, .bool true, .pointer (some ⟨r0, 0, none⟩), .int .i64 e, .pointer (some ⟨r1, 0, none⟩), .int .i64 e, .bool hu, .int .i64 h, .bool hu, .int .i64 h, .int .i64 gr, .int .i64 h, .int .i64 gr, .int .i64 h, .int .i64 ml, .int .i64 k, .int .i64 ml, .int .i64 k, x26, x27, x28, x29, x30, x31, x32, x33, x34, x35, x36, x37, x38, x39, x40, x41, x42, x43, x44, x45, x46, x47, x48, x49, x50, x51, x52, x53, x54, x55, x56, x57, x58, x59, x60, x61, x62, x63, x64, x65, x66, x67, x68, x69, x70, x71, x72, x73, x74, y75, y76, y77, y78, y79, y80, y81, y82, y83, y84, y85, y86, y87, y88, y89, y90, y91, y92, y93, y94, y95, y96, y97, y98, y99, y100, y101, y102, y103, y104, y105, y106, y107, y108, y109, y110, y111, y112, y113, y114, y115, y116, y117, y118, y119, y120, y121, y122], defers := [] } w14) :
    (Code.region 12 #[{ dst := some 75, op := Op.move (Operand.tmp 9), type := 4, pos := "law.go:61", after := #[], guard := none }, { dst := some 76, op := Op.move (Operand.tmp 75), type := 4, pos := "law.go:61", after := #[{ on := 0, ground := Ground.data }], guard := none }, { dst := some 77, op := Op.load 35 (Operand.tmp 4), type := 35, pos := "law.go:61", after := #[{ on := 1, ground := Ground.guard }], guard := some (1, true) }, { dst := some 78, op := Op.call { callee := Callee.value (Operand.func 36), args := #[Operand.tmp 77], argTypes := #[35] }, type := 4, pos := "law.go:61", after := #[{ on := 2, ground := Ground.data }, { on := 1, ground := Ground.chain }, { on := 1, ground := Ground.guard }], guard := some (1, true) }, { dst := some 79, op := Op.load 35 (Operand.tmp 4), type := 35, pos := "law.go:61", after := #[{ on := 1, ground := Ground.guard }], guard := some (1, true) }, { dst := some 80, op := Op.call { callee := Callee.value (Operand.func 37), args := #[Operand.tmp 79], argTypes := #[35] }, type := 4, pos := "law.go:61", after := #[{ on := 4, ground := Ground.data }, { on := 3, ground := Ground.chain }, { on := 1, ground := Ground.guard }], guard := some (1, true) }, { dst := some 81, op := Op.binOp BinOp.eql 4 (Operand.tmp 78) (Operand.tmp 80) 4, type := 4, pos := "law.go:61", after := #[{ on := 3, ground := Ground.data }, { on := 5, ground := Ground.data }, { on := 1, ground := Ground.guard }], guard := some (1, true) }, { dst := some 82, op := Op.pick (Operand.tmp 76) (Operand.tmp 81) (Operand.const (Value.bool false)), type := 4, pos := "law.go:61", after := #[{ on := 1, ground := Ground.data }, { on := 6, ground := Ground.data }], guard := none }, { dst := some 83, op := Op.move (Operand.tmp 82), type := 4, pos := "law.go:61", after := #[{ on := 7, ground := Ground.data }, { on := 5, ground := Ground.chain }], guard := none }, { dst := some 84, op := Op.load 23 (Operand.tmp 10), type := 23, pos := "law.go:61", after := #[{ on := 8, ground := Ground.guard }], guard := some (8, true) }, { dst := some 85, op := Op.load 23 (Operand.tmp 12), type := 23, pos := "law.go:61", after := #[{ on := 8, ground := Ground.guard }], guard := some (8, true) }, { dst := some 86, op := Op.binOp BinOp.eql 23 (Operand.tmp 84) (Operand.tmp 85) 23, type := 4, pos := "law.go:61", after := #[{ on := 9, ground := Ground.data }, { on := 10, ground := Ground.data }, { on := 8, ground := Ground.guard }], guard := some (8, true) }, { dst := some 87, op := Op.pick (Operand.tmp 83) (Operand.tmp 86) (Operand.const (Value.bool false)), type := 4, pos := "law.go:61", after := #[{ on := 8, ground := Ground.data }, { on := 11, ground := Ground.data }], guard := none }, { dst := some 88, op := Op.move (Operand.tmp 87), type := 4, pos := "law.go:61", after := #[{ on := 12, ground := Ground.data }, { on := 8, ground := Ground.chain }], guard := none }, { dst := some 89, op := Op.move (Operand.tmp 11), type := 24, pos := "law.go:61", after := #[{ on := 13, ground := Ground.guard }], guard := some (13, true) }, { dst := some 90, op := Op.move (Operand.tmp 13), type := 24, pos := "law.go:61", after := #[{ on := 13, ground := Ground.guard }], guard := some (13, true) }, { dst := some 91, op := Op.binOp BinOp.eql 24 (Operand.tmp 89) (Operand.tmp 90) 24, type := 4, pos := "law.go:61", after := #[{ on := 14, ground := Ground.data }, { on := 15, ground := Ground.data }, { on := 13, ground := Ground.guard }], guard := some (13, true) }, { dst := some 92, op := Op.pick (Operand.tmp 88) (Operand.tmp 91) (Operand.const (Value.bool false)), type := 4, pos := "law.go:61", after := #[{ on := 13, ground := Ground.data }, { on := 16, ground := Ground.data }], guard := none }, { dst := some 93, op := Op.move (Operand.tmp 92), type := 4, pos := "law.go:61", after := #[{ on := 17, ground := Ground.data }, { on := 13, ground := Ground.chain }], guard := none }, { dst := some 94, op := Op.move (Operand.tmp 14), type := 4, pos := "law.go:61", after := #[{ on := 18, ground := Ground.guard }], guard := some (18, true) }, { dst := some 95, op := Op.move (Operand.tmp 16), type := 4, pos := "law.go:61", after := #[{ on := 18, ground := Ground.guard }], guard := some (18, true) }, { dst := some 96, op := Op.binOp BinOp.eql 4 (Operand.tmp 94) (Operand.tmp 95) 4, type := 4, pos := "law.go:61", after := #[{ on := 19, ground := Ground.data }, { on := 20, ground := Ground.data }, { on := 18, ground := Ground.guard }], guard := some (18, true) }, { dst := some 97, op := Op.pick (Operand.tmp 93) (Operand.tmp 96) (Operand.const (Value.bool false)), type := 4, pos := "law.go:61", after := #[{ on := 18, ground := Ground.data }, { on := 21, ground := Ground.data }], guard := none }, { dst := some 98, op := Op.move (Operand.tmp 97), type := 4, pos := "law.go:61", after := #[{ on := 22, ground := Ground.data }, { on := 18, ground := Ground.chain }], guard := none }, { dst := some 99, op := Op.move (Operand.tmp 15), type := 24, pos := "law.go:61", after := #[{ on := 23, ground := Ground.guard }], guard := some (23, true) }, { dst := some 100, op := Op.move (Operand.tmp 17), type := 24, pos := "law.go:61", after := #[{ on := 23, ground := Ground.guard }], guard := some (23, true) }, { dst := some 101, op := Op.binOp BinOp.eql 24 (Operand.tmp 99) (Operand.tmp 100) 24, type := 4, pos := "law.go:61", after := #[{ on := 24, ground := Ground.data }, { on := 25, ground := Ground.data }, { on := 23, ground := Ground.guard }], guard := some (23, true) }, { dst := some 102, op := Op.pick (Operand.tmp 98) (Operand.tmp 101) (Operand.const (Value.bool false)), type := 4, pos := "law.go:61", after := #[{ on := 23, ground := Ground.data }, { on := 26, ground := Ground.data }], guard := none }, { dst := some 103, op := Op.move (Operand.tmp 102), type := 4, pos := "law.go:61", after := #[{ on := 27, ground := Ground.data }, { on := 23, ground := Ground.chain }], guard := none }, { dst := some 104, op := Op.move (Operand.tmp 18), type := 3, pos := "law.go:61", after := #[{ on := 28, ground := Ground.guard }], guard := some (28, true) }, { dst := some 105, op := Op.move (Operand.tmp 20), type := 3, pos := "law.go:61", after := #[{ on := 28, ground := Ground.guard }], guard := some (28, true) }, { dst := some 106, op := Op.binOp BinOp.eql 3 (Operand.tmp 104) (Operand.tmp 105) 3, type := 4, pos := "law.go:61", after := #[{ on := 29, ground := Ground.data }, { on := 30, ground := Ground.data }, { on := 28, ground := Ground.guard }], guard := some (28, true) }, { dst := some 107, op := Op.pick (Operand.tmp 103) (Operand.tmp 106) (Operand.const (Value.bool false)), type := 4, pos := "law.go:61", after := #[{ on := 28, ground := Ground.data }, { on := 31, ground := Ground.data }], guard := none }, { dst := some 108, op := Op.move (Operand.tmp 107), type := 4, pos := "law.go:61", after := #[{ on := 32, ground := Ground.data }, { on := 28, ground := Ground.chain }], guard := none }, { dst := some 109, op := Op.move (Operand.tmp 19), type := 24, pos := "law.go:61", after := #[{ on := 33, ground := Ground.guard }], guard := some (33, true) }, { dst := some 110, op := Op.move (Operand.tmp 21), type := 24, pos := "law.go:61", after := #[{ on := 33, ground := Ground.guard }], guard := some (33, true) }, { dst := some 111, op := Op.binOp BinOp.eql 24 (Operand.tmp 109) (Operand.tmp 110) 24, type := 4, pos := "law.go:61", after := #[{ on := 34, ground := Ground.data }, { on := 35, ground := Ground.data }, { on := 33, ground := Ground.guard }], guard := some (33, true) }, { dst := some 112, op := Op.pick (Operand.tmp 108) (Operand.tmp 111) (Operand.const (Value.bool false)), type := 4, pos := "law.go:61", after := #[{ on := 33, ground := Ground.data }, { on := 36, ground := Ground.data }], guard := none }, { dst := some 113, op := Op.move (Operand.tmp 112), type := 4, pos := "law.go:61", after := #[{ on := 37, ground := Ground.data }, { on := 33, ground := Ground.chain }], guard := none }, { dst := some 114, op := Op.move (Operand.tmp 22), type := 3, pos := "law.go:61", after := #[{ on := 38, ground := Ground.guard }], guard := some (38, true) }, { dst := some 115, op := Op.move (Operand.tmp 24), type := 3, pos := "law.go:61", after := #[{ on := 38, ground := Ground.guard }], guard := some (38, true) }, { dst := some 116, op := Op.binOp BinOp.eql 3 (Operand.tmp 114) (Operand.tmp 115) 3, type := 4, pos := "law.go:61", after := #[{ on := 39, ground := Ground.data }, { on := 40, ground := Ground.data }, { on := 38, ground := Ground.guard }], guard := some (38, true) }, { dst := some 117, op := Op.pick (Operand.tmp 113) (Operand.tmp 116) (Operand.const (Value.bool false)), type := 4, pos := "law.go:61", after := #[{ on := 38, ground := Ground.data }, { on := 41, ground := Ground.data }], guard := none }, { dst := some 118, op := Op.move (Operand.tmp 117), type := 4, pos := "law.go:61", after := #[{ on := 42, ground := Ground.data }, { on := 38, ground := Ground.chain }], guard := none }, { dst := some 119, op := Op.move (Operand.tmp 23), type := 24, pos := "law.go:61", after := #[{ on := 43, ground := Ground.guard }], guard := some (43, true) }, { dst := some 120, op := Op.move (Operand.tmp 25), type := 24, pos := "law.go:61", after := #[{ on := 43, ground := Ground.guard }], guard := some (43, true) }, { dst := some 121, op := Op.binOp BinOp.eql 24 (Operand.tmp 119) (Operand.tmp 120) 24, type := 4, pos := "law.go:61", after := #[{ on := 44, ground := Ground.data }, { on := 45, ground := Ground.data }, { on := 43, ground := Ground.guard }], guard := some (43, true) }, { dst := some 122, op := Op.pick (Operand.tmp 118) (Operand.tmp 121) (Operand.const (Value.bool false)), type := 4, pos := "law.go:61", after := #[{ on := 43, ground := Ground.data }, { on := 46, ground := Ground.data }], guard := none }, { dst := some 8, op := Op.assign (Operand.tmp 122), type := 4, pos := "law.go:61", after := #[{ on := 47, ground := Ground.data }, { on := 43, ground := Ground.chain }, { on := 0, ground := Ground.phase }, { on := 1, ground := Ground.phase }, { on := 2, ground := Ground.phase }, { on := 3, ground := Ground.phase }, { on := 4, ground := Ground.phase }, { on := 5, ground := Ground.phase }, { on := 6, ground := Ground.phase }, { on := 7, ground := Ground.phase }, { on := 8, ground := Ground.phase }, { on := 9, ground := Ground.phase }, { on := 10, ground := Ground.phase }, { on := 11, ground := Ground.phase }, { on := 12, ground := Ground.phase }, { on := 13, ground := Ground.phase }, { on := 14, ground := Ground.phase }, { on := 15, ground := Ground.phase }, { on := 16, ground := Ground.phase }, { on := 17, ground := Ground.phase }, { on := 18, ground := Ground.phase }, { on := 19, ground := Ground.phase }, { on := 20, ground := Ground.phase }, { on := 21, ground := Ground.phase }, { on := 22, ground := Ground.phase }, { on := 23, ground := Ground.phase }, { on := 24, ground := Ground.phase }, { on := 25, ground := Ground.phase }, { on := 26, ground := Ground.phase }, { on := 27, ground := Ground.phase }, { on := 28, ground := Ground.phase }, { on := 29, ground := Ground.phase }, { on := 30, ground := Ground.phase }, { on := 31, ground := Ground.phase }, { on := 32, ground := Ground.phase }, { on := 33, ground := Ground.phase }, { on := 34, ground := Ground.phase }, { on := 35, ground := Ground.phase }, { on := 36, ground := Ground.phase }, { on := 37, ground := Ground.phase }, { on := 38, ground := Ground.phase }, { on := 39, ground := Ground.phase }, { on := 40, ground := Ground.phase }, { on := 41, ground := Ground.phase }, { on := 42, ground := Ground.phase }, { on := 43, ground := Ground.phase }, { on := 44, ground := Ground.phase }, { on := 45, ground := Ground.phase }, { on := 46, ground := Ground.phase }, { on := 47, ground := Ground.phase }], guard := none }] true).wp Try.prog Q { tmps := #[x0, x1, x2, x3, .pointer (some ⟨a0, 0, none⟩), x5, x6, x7, x8, .bool true, .pointer (some ⟨r0, 0, none⟩), .int .i64 e, .pointer (some ⟨r1, 0, none⟩), .int .i64 e, .bool hu, .int .i64 h, .bool hu, .int .i64 h, .int .i64 gr, .int .i64 h, .int .i64 gr, .int .i64 h, .int .i64 ml, .int .i64 k, .int .i64 ml, .int .i64 k, x26, x27, x28, x29, x30, x31, x32, x33, x34, x35, x36, x37, x38, x39, x40, x41, x42, x43, x44, x45, x46, x47, x48, x49, x50, x51, x52, x53, x54, x55, x56, x57, x58, x59, x60, x61, x62, x63, x64, x65, x66, x67, x68, x69, x70, x71, x72, x73, x74, x75, x76, x77, x78, x79, x80, x81, x82, x83, x84, x85, x86, x87, x88, x89, x90, x91, x92, x93, x94, x95, x96, x97, x98, x99, x100, x101, x102, x103, x104, x105, x106, x107, x108, x109, x110, x111, x112, x113, x114, x115, x116, x117, x118, x119, x120, x121, x122], defers := [] } wq := by
  have HQ := Lib.hid hQ
  clear hQ
  have hdr : Below wq.heap.size wq wq.drew := (Below.refl _ _).drew
  have HTD := Lib.hid (hT.later hdr)
  have HL := Lib.hid hl
  have l0 := bA.lt
  have l1 := bR0.lt
  have l2 := bR1.lt
  have hcall : ∀ X Y : World, (fun W => W.cell? ⟨a0, 0, none⟩ = some (.slice A l c) ∧ W.cell? ⟨r0, 0, none⟩ = some (.int .i64 xn) ∧ W.cell? ⟨r0, 1, none⟩ = some (.int .i64 xd) ∧ W.cell? ⟨r1, 0, none⟩ = some (.int .i64 xn) ∧ W.cell? ⟨r1, 1, none⟩ = some (.int .i64 xd) ∧ Below wq.heap.size wq W ∧ wq.heap.size ≤ W.heap.size) X → Below X.heap.size X Y → (fun W => W.cell? ⟨a0, 0, none⟩ = some (.slice A l c) ∧ W.cell? ⟨r0, 0, none⟩ = some (.int .i64 xn) ∧ W.cell? ⟨r0, 1, none⟩ = some (.int .i64 xd) ∧ W.cell? ⟨r1, 0, none⟩ = some (.int .i64 xn) ∧ W.cell? ⟨r1, 1, none⟩ = some (.int .i64 xd) ∧ Below wq.heap.size wq W ∧ wq.heap.size ≤ W.heap.size) Y := by
    rintro X Y ⟨z0, z1, z2, z3, z4, xb, xs⟩ hb
    have hb2 := Below.mono (B' := wq.heap.size) hb xs
    exact ⟨keepd z0 hb2 l0, keepd z1 hb2 l1, keepd z2 hb2 l1, keepd z3 hb2 l2, keepd z4 hb2 l2, Below.trans xb hb2, Nat.le_trans xs hb.size⟩
  have hini : (fun W => W.cell? ⟨a0, 0, none⟩ = some (.slice A l c) ∧ W.cell? ⟨r0, 0, none⟩ = some (.int .i64 xn) ∧ W.cell? ⟨r0, 1, none⟩ = some (.int .i64 xd) ∧ W.cell? ⟨r1, 0, none⟩ = some (.int .i64 xn) ∧ W.cell? ⟨r1, 1, none⟩ = some (.int .i64 xd) ∧ Below wq.heap.size wq W ∧ wq.heap.size ≤ W.heap.size) wq.drew := ⟨bA.cell 0, bR0.cell 0, bR0.cell 1, bR1.cell 0, bR1.cell 1, hdr, Nat.le_refl _⟩
  have e0 : ∀ z : Int, (z == z) = true := fun z => by simp
  have e1 : (trB ms == trB ms) = true := by simp
  have e2 : (hu == hu) = true := by simp
  have Hcall := Lib.hid hcall
  have Hini := Lib.hid hini
  clear hT hl bA bR0 bR1 hdr l0 l1 l2 hcall hini
  refine wp_region_noPanic ?_
  refine wp_region_held_drew (S := (fun W => W.cell? ⟨a0, 0, none⟩ = some (.slice A l c) ∧ W.cell? ⟨r0, 0, none⟩ = some (.int .i64 xn) ∧ W.cell? ⟨r0, 1, none⟩ = some (.int .i64 xd) ∧ W.cell? ⟨r1, 0, none⟩ = some (.int .i64 xn) ∧ W.cell? ⟨r1, 1, none⟩ = some (.int .i64 xd) ∧ Below wq.heap.size wq W ∧ wq.heap.size ≤ W.heap.size)) (by kernel_rfl) Hini.out (fun hHeld => ?_)
  refine wpAnyH_take (i := 0) (oi := { dst := some 75, op := Op.move (Operand.tmp 9), type := 4, pos := "law.go:61", after := #[], guard := none }) (v := ?vh1) rfl ?hsh1 ?hfh1 ?hrh1 ?hQh1 ?hyh1 (by assumption) ?resth1
  case hsh1 => kernel_rfl
  case hfh1 => kernel_rfl
  case hrh1 => kernel_rfl
  case hQh1 => exact fun _ _ _ h => h
  case hyh1 => (refine Or.inl ⟨by rfl, ?_⟩; intro w hSw; (try dsimp only at hSw); go_simp; try with_reducible rfl)
  try simp only [Act.put, List.setIfInBounds_toArray, List.set_cons_zero, List.set_cons_succ]
  refine wpAnyH_take (i := 1) (oi := { dst := some 76, op := Op.move (Operand.tmp 75), type := 4, pos := "law.go:61", after := #[{ on := 0, ground := Ground.data }], guard := none }) (v := ?vh2) rfl ?hsh2 ?hfh2 ?hrh2 ?hQh2 ?hyh2 (by assumption) ?resth2
  case hsh2 => kernel_rfl
  case hfh2 => kernel_rfl
  case hrh2 => kernel_rfl
  case hQh2 => exact fun _ _ _ h => h
  case hyh2 => (refine Or.inl ⟨by rfl, ?_⟩; intro w hSw; (try dsimp only at hSw); go_simp; try with_reducible rfl)
  try simp only [Act.put, List.setIfInBounds_toArray, List.set_cons_zero, List.set_cons_succ]
  refine wpAnyH_take (i := 2) (oi := { dst := some 77, op := Op.load 35 (Operand.tmp 4), type := 35, pos := "law.go:61", after := #[{ on := 1, ground := Ground.guard }], guard := some (1, true) }) (v := ?vh3) rfl ?hsh3 ?hfh3 ?hrh3 ?hQh3 ?hyh3 (by assumption) ?resth3
  case hsh3 => kernel_rfl
  case hfh3 => kernel_rfl
  case hrh3 => kernel_rfl
  case hQh3 => exact fun _ _ _ h => h
  case hyh3 => (refine Or.inl ⟨by rfl, ?_⟩; intro w hSw; (try dsimp only at hSw); go_simp; try with_reducible rfl)
  try simp only [Act.put, List.setIfInBounds_toArray, List.set_cons_zero, List.set_cons_succ]
  refine wpAnyH_take (i := 4) (oi := { dst := some 79, op := Op.load 35 (Operand.tmp 4), type := 35, pos := "law.go:61", after := #[{ on := 1, ground := Ground.guard }], guard := some (1, true) }) (v := ?vh4) rfl ?hsh4 ?hfh4 ?hrh4 ?hQh4 ?hyh4 (by assumption) ?resth4
  case hsh4 => kernel_rfl
  case hfh4 => kernel_rfl
  case hrh4 => kernel_rfl
  case hQh4 => exact fun _ _ _ h => h
  case hyh4 => (refine Or.inl ⟨by rfl, ?_⟩; intro w hSw; (try dsimp only at hSw); go_simp; try with_reducible rfl)
  try simp only [Act.put, List.setIfInBounds_toArray, List.set_cons_zero, List.set_cons_succ]
  refine wpAnyH_ready (rs := [3]) (by kernel_rfl) (by simp) ?_
  refine AllReadyH.cons (o := _) (by rfl) (fun K hK => ?_) AllReadyH.nil
  go_simp
  go_at_call 36
  refine (ValidTrain_c ms _ _ HTD.out).mono ?_
  rintro e w10 ⟨rfl, hb10⟩
  have HT10 := Lib.hid (HTD.out.later hb10)
  go_wp2_with fail
  refine hK.out _ _ (Hcall.out _ _ hHeld (by assumption)) (fun hHeld0 => ?_)
  clear hK K hHeld
  have hHeld := hHeld0
  clear hHeld0
  try simp only [Act.put, List.setIfInBounds_toArray, List.set_cons_zero, List.set_cons_succ]
  refine wpAnyH_ready (rs := [5]) (by kernel_rfl) (by simp) ?_
  refine AllReadyH.cons (o := _) (by rfl) (fun K hK => ?_) AllReadyH.nil
  go_simp
  go_at_call 37
  refine (rValidTrain_c ms _ _ HT10.out HL.out).mono ?_
  rintro e w11 ⟨rfl, hb11⟩
  go_wp2_with fail
  refine hK.out _ _ (Hcall.out _ _ hHeld (by assumption)) (fun hHeld1 => ?_)
  clear hK K hHeld
  have hHeld := hHeld1
  clear hHeld1
  try simp only [Act.put, List.setIfInBounds_toArray, List.set_cons_zero, List.set_cons_succ]
  refine wpAnyH_take (i := 6) (oi := { dst := some 81, op := Op.binOp BinOp.eql 4 (Operand.tmp 78) (Operand.tmp 80) 4, type := 4, pos := "law.go:61", after := #[{ on := 3, ground := Ground.data }, { on := 5, ground := Ground.data }, { on := 1, ground := Ground.guard }], guard := some (1, true) }) (v := ?vh5) rfl ?hsh5 ?hfh5 ?hrh5 ?hQh5 ?hyh5 (by assumption) ?resth5
  case hsh5 => kernel_rfl
  case hfh5 => kernel_rfl
  case hrh5 => kernel_rfl
  case hQh5 => exact fun _ _ _ h => h
  case hyh5 => (refine Or.inl ⟨by rfl, ?_⟩; intro w hSw; (try dsimp only at hSw); go_simp; try with_reducible rfl)
  try simp only [Act.put, List.setIfInBounds_toArray, List.set_cons_zero, List.set_cons_succ]
  refine wpAnyH_take (i := 7) (oi := { dst := some 82, op := Op.pick (Operand.tmp 76) (Operand.tmp 81) (Operand.const (Value.bool false)), type := 4, pos := "law.go:61", after := #[{ on := 1, ground := Ground.data }, { on := 6, ground := Ground.data }], guard := none }) (v := ?vh6) rfl ?hsh6 ?hfh6 ?hrh6 ?hQh6 ?hyh6 (by assumption) ?resth6
  case hsh6 => kernel_rfl
  case hfh6 => kernel_rfl
  case hrh6 => kernel_rfl
  case hQh6 => exact fun _ _ _ h => h
  case hyh6 => (refine Or.inl ⟨by rfl, ?_⟩; intro w hSw; (try dsimp only at hSw); go_simp; try with_reducible rfl)
  try simp only [Act.put, List.setIfInBounds_toArray, List.set_cons_zero, List.set_cons_succ]
  refine wpAnyH_take (i := 8) (oi := { dst := some 83, op := Op.move (Operand.tmp 82), type := 4, pos := "law.go:61", after := #[{ on := 7, ground := Ground.data }, { on := 5, ground := Ground.chain }], guard := none }) (v := ?vh7) rfl ?hsh7 ?hfh7 ?hrh7 ?hQh7 ?hyh7 (by assumption) ?resth7
  case hsh7 => kernel_rfl
  case hfh7 => kernel_rfl
  case hrh7 => kernel_rfl
  case hQh7 => exact fun _ _ _ h => h
  case hyh7 => (refine Or.inl ⟨by rfl, ?_⟩; intro w hSw; (try dsimp only at hSw); go_simp; try with_reducible rfl)
  try simp only [Act.put, List.setIfInBounds_toArray, List.set_cons_zero, List.set_cons_succ]
  refine wpAnyH_take (i := 9) (oi := { dst := some 84, op := Op.load 23 (Operand.tmp 10), type := 23, pos := "law.go:61", after := #[{ on := 8, ground := Ground.guard }], guard := some (8, true) }) (v := ?vh8) rfl ?hsh8 ?hfh8 ?hrh8 ?hQh8 ?hyh8 (by assumption) ?resth8
  case hsh8 => kernel_rfl
  case hfh8 => kernel_rfl
  case hrh8 => kernel_rfl
  case hQh8 => exact fun _ _ _ h => h
  case hyh8 => (refine Or.inl ⟨by rfl, ?_⟩; intro w hSw; (try dsimp only at hSw); go_simp; try with_reducible rfl)
  try simp only [Act.put, List.setIfInBounds_toArray, List.set_cons_zero, List.set_cons_succ]
  refine wpAnyH_take (i := 10) (oi := { dst := some 85, op := Op.load 23 (Operand.tmp 12), type := 23, pos := "law.go:61", after := #[{ on := 8, ground := Ground.guard }], guard := some (8, true) }) (v := ?vh9) rfl ?hsh9 ?hfh9 ?hrh9 ?hQh9 ?hyh9 (by assumption) ?resth9
  case hsh9 => kernel_rfl
  case hfh9 => kernel_rfl
  case hrh9 => kernel_rfl
  case hQh9 => exact fun _ _ _ h => h
  case hyh9 => (refine Or.inl ⟨by rfl, ?_⟩; intro w hSw; (try dsimp only at hSw); go_simp; try with_reducible rfl)
  try simp only [Act.put, List.setIfInBounds_toArray, List.set_cons_zero, List.set_cons_succ]
  refine wpAnyH_take (i := 11) (oi := { dst := some 86, op := Op.binOp BinOp.eql 23 (Operand.tmp 84) (Operand.tmp 85) 23, type := 4, pos := "law.go:61", after := #[{ on := 9, ground := Ground.data }, { on := 10, ground := Ground.data }, { on := 8, ground := Ground.guard }], guard := some (8, true) }) (v := ?vh10) rfl ?hsh10 ?hfh10 ?hrh10 ?hQh10 ?hyh10 (by assumption) ?resth10
  case hsh10 => kernel_rfl
  case hfh10 => kernel_rfl
  case hrh10 => kernel_rfl
  case hQh10 => exact fun _ _ _ h => h
  case hyh10 => (refine Or.inl ⟨by rfl, ?_⟩; intro w hSw; (try dsimp only at hSw); go_simp; try with_reducible rfl)
  try simp only [Act.put, List.setIfInBounds_toArray, List.set_cons_zero, List.set_cons_succ]
  refine wpAnyH_take (i := 12) (oi := { dst := some 87, op := Op.pick (Operand.tmp 83) (Operand.tmp 86) (Operand.const (Value.bool false)), type := 4, pos := "law.go:61", after := #[{ on := 8, ground := Ground.data }, { on := 11, ground := Ground.data }], guard := none }) (v := ?vh11) rfl ?hsh11 ?hfh11 ?hrh11 ?hQh11 ?hyh11 (by assumption) ?resth11
  case hsh11 => kernel_rfl
  case hfh11 => kernel_rfl
  case hrh11 => kernel_rfl
  case hQh11 => exact fun _ _ _ h => h
  case hyh11 => (refine Or.inl ⟨by rfl, ?_⟩; intro w hSw; (try dsimp only at hSw); go_simp; try with_reducible rfl)
  try simp only [Act.put, List.setIfInBounds_toArray, List.set_cons_zero, List.set_cons_succ]
  refine wpAnyH_take (i := 13) (oi := { dst := some 88, op := Op.move (Operand.tmp 87), type := 4, pos := "law.go:61", after := #[{ on := 12, ground := Ground.data }, { on := 8, ground := Ground.chain }], guard := none }) (v := ?vh12) rfl ?hsh12 ?hfh12 ?hrh12 ?hQh12 ?hyh12 (by assumption) ?resth12
  case hsh12 => kernel_rfl
  case hfh12 => kernel_rfl
  case hrh12 => kernel_rfl
  case hQh12 => exact fun _ _ _ h => h
  case hyh12 => (refine Or.inl ⟨by rfl, ?_⟩; intro w hSw; (try dsimp only at hSw); go_simp; try with_reducible rfl)
  try simp only [Act.put, List.setIfInBounds_toArray, List.set_cons_zero, List.set_cons_succ]
  refine wpAnyH_take (i := 14) (oi := { dst := some 89, op := Op.move (Operand.tmp 11), type := 24, pos := "law.go:61", after := #[{ on := 13, ground := Ground.guard }], guard := some (13, true) }) (v := ?vh13) rfl ?hsh13 ?hfh13 ?hrh13 ?hQh13 ?hyh13 (by assumption) ?resth13
  case hsh13 => kernel_rfl
  case hfh13 => kernel_rfl
  case hrh13 => kernel_rfl
  case hQh13 => exact fun _ _ _ h => h
  case hyh13 => (refine Or.inl ⟨by rfl, ?_⟩; intro w hSw; (try dsimp only at hSw); go_simp; try with_reducible rfl)
  try simp only [Act.put, List.setIfInBounds_toArray, List.set_cons_zero, List.set_cons_succ]
  refine wpAnyH_take (i := 15) (oi := { dst := some 90, op := Op.move (Operand.tmp 13), type := 24, pos := "law.go:61", after := #[{ on := 13, ground := Ground.guard }], guard := some (13, true) }) (v := ?vh14) rfl ?hsh14 ?hfh14 ?hrh14 ?hQh14 ?hyh14 (by assumption) ?resth14
  case hsh14 => kernel_rfl
  case hfh14 => kernel_rfl
  case hrh14 => kernel_rfl
  case hQh14 => exact fun _ _ _ h => h
  case hyh14 => (refine Or.inl ⟨by rfl, ?_⟩; intro w hSw; (try dsimp only at hSw); go_simp; try with_reducible rfl)
  try simp only [Act.put, List.setIfInBounds_toArray, List.set_cons_zero, List.set_cons_succ]
  refine wpAnyH_take (i := 16) (oi := { dst := some 91, op := Op.binOp BinOp.eql 24 (Operand.tmp 89) (Operand.tmp 90) 24, type := 4, pos := "law.go:61", after := #[{ on := 14, ground := Ground.data }, { on := 15, ground := Ground.data }, { on := 13, ground := Ground.guard }], guard := some (13, true) }) (v := ?vh15) rfl ?hsh15 ?hfh15 ?hrh15 ?hQh15 ?hyh15 (by assumption) ?resth15
  case hsh15 => kernel_rfl
  case hfh15 => kernel_rfl
  case hrh15 => kernel_rfl
  case hQh15 => exact fun _ _ _ h => h
  case hyh15 => (refine Or.inl ⟨by rfl, ?_⟩; intro w hSw; (try dsimp only at hSw); go_simp; try with_reducible rfl)
  try simp only [Act.put, List.setIfInBounds_toArray, List.set_cons_zero, List.set_cons_succ]
  refine wpAnyH_take (i := 17) (oi := { dst := some 92, op := Op.pick (Operand.tmp 88) (Operand.tmp 91) (Operand.const (Value.bool false)), type := 4, pos := "law.go:61", after := #[{ on := 13, ground := Ground.data }, { on := 16, ground := Ground.data }], guard := none }) (v := ?vh16) rfl ?hsh16 ?hfh16 ?hrh16 ?hQh16 ?hyh16 (by assumption) ?resth16
  case hsh16 => kernel_rfl
  case hfh16 => kernel_rfl
  case hrh16 => kernel_rfl
  case hQh16 => exact fun _ _ _ h => h
  case hyh16 => (refine Or.inl ⟨by rfl, ?_⟩; intro w hSw; (try dsimp only at hSw); go_simp; try with_reducible rfl)
  try simp only [Act.put, List.setIfInBounds_toArray, List.set_cons_zero, List.set_cons_succ]
  refine wpAnyH_take (i := 18) (oi := { dst := some 93, op := Op.move (Operand.tmp 92), type := 4, pos := "law.go:61", after := #[{ on := 17, ground := Ground.data }, { on := 13, ground := Ground.chain }], guard := none }) (v := ?vh17) rfl ?hsh17 ?hfh17 ?hrh17 ?hQh17 ?hyh17 (by assumption) ?resth17
  case hsh17 => kernel_rfl
  case hfh17 => kernel_rfl
  case hrh17 => kernel_rfl
  case hQh17 => exact fun _ _ _ h => h
  case hyh17 => (refine Or.inl ⟨by rfl, ?_⟩; intro w hSw; (try dsimp only at hSw); go_simp; try with_reducible rfl)
  try simp only [Act.put, List.setIfInBounds_toArray, List.set_cons_zero, List.set_cons_succ]
  refine wpAnyH_take (i := 19) (oi := { dst := some 94, op := Op.move (Operand.tmp 14), type := 4, pos := "law.go:61", after := #[{ on := 18, ground := Ground.guard }], guard := some (18, true) }) (v := ?vh18) rfl ?hsh18 ?hfh18 ?hrh18 ?hQh18 ?hyh18 (by assumption) ?resth18
  case hsh18 => kernel_rfl
  case hfh18 => kernel_rfl
  case hrh18 => kernel_rfl
  case hQh18 => exact fun _ _ _ h => h
  case hyh18 => (refine Or.inl ⟨by rfl, ?_⟩; intro w hSw; (try dsimp only at hSw); go_simp; try with_reducible rfl)
  try simp only [Act.put, List.setIfInBounds_toArray, List.set_cons_zero, List.set_cons_succ]
  refine wpAnyH_take (i := 20) (oi := { dst := some 95, op := Op.move (Operand.tmp 16), type := 4, pos := "law.go:61", after := #[{ on := 18, ground := Ground.guard }], guard := some (18, true) }) (v := ?vh19) rfl ?hsh19 ?hfh19 ?hrh19 ?hQh19 ?hyh19 (by assumption) ?resth19
  case hsh19 => kernel_rfl
  case hfh19 => kernel_rfl
  case hrh19 => kernel_rfl
  case hQh19 => exact fun _ _ _ h => h
  case hyh19 => (refine Or.inl ⟨by rfl, ?_⟩; intro w hSw; (try dsimp only at hSw); go_simp; try with_reducible rfl)
  try simp only [Act.put, List.setIfInBounds_toArray, List.set_cons_zero, List.set_cons_succ]
  refine wpAnyH_take (i := 21) (oi := { dst := some 96, op := Op.binOp BinOp.eql 4 (Operand.tmp 94) (Operand.tmp 95) 4, type := 4, pos := "law.go:61", after := #[{ on := 19, ground := Ground.data }, { on := 20, ground := Ground.data }, { on := 18, ground := Ground.guard }], guard := some (18, true) }) (v := ?vh20) rfl ?hsh20 ?hfh20 ?hrh20 ?hQh20 ?hyh20 (by assumption) ?resth20
  case hsh20 => kernel_rfl
  case hfh20 => kernel_rfl
  case hrh20 => kernel_rfl
  case hQh20 => exact fun _ _ _ h => h
  case hyh20 => (refine Or.inl ⟨by rfl, ?_⟩; intro w hSw; (try dsimp only at hSw); go_simp; try with_reducible rfl)
  try simp only [Act.put, List.setIfInBounds_toArray, List.set_cons_zero, List.set_cons_succ]
  refine wpAnyH_take (i := 22) (oi := { dst := some 97, op := Op.pick (Operand.tmp 93) (Operand.tmp 96) (Operand.const (Value.bool false)), type := 4, pos := "law.go:61", after := #[{ on := 18, ground := Ground.data }, { on := 21, ground := Ground.data }], guard := none }) (v := ?vh21) rfl ?hsh21 ?hfh21 ?hrh21 ?hQh21 ?hyh21 (by assumption) ?resth21
  case hsh21 => kernel_rfl
  case hfh21 => kernel_rfl
  case hrh21 => kernel_rfl
  case hQh21 => exact fun _ _ _ h => h
  case hyh21 => (refine Or.inl ⟨by rfl, ?_⟩; intro w hSw; (try dsimp only at hSw); go_simp; try with_reducible rfl)
  try simp only [Act.put, List.setIfInBounds_toArray, List.set_cons_zero, List.set_cons_succ]
  refine wpAnyH_take (i := 23) (oi := { dst := some 98, op := Op.move (Operand.tmp 97), type := 4, pos := "law.go:61", after := #[{ on := 22, ground := Ground.data }, { on := 18, ground := Ground.chain }], guard := none }) (v := ?vh22) rfl ?hsh22 ?hfh22 ?hrh22 ?hQh22 ?hyh22 (by assumption) ?resth22
  case hsh22 => kernel_rfl
  case hfh22 => kernel_rfl
  case hrh22 => kernel_rfl
  case hQh22 => exact fun _ _ _ h => h
  case hyh22 => (refine Or.inl ⟨by rfl, ?_⟩; intro w hSw; (try dsimp only at hSw); go_simp; try with_reducible rfl)
  try simp only [Act.put, List.setIfInBounds_toArray, List.set_cons_zero, List.set_cons_succ]
  refine wpAnyH_take (i := 24) (oi := { dst := some 99, op := Op.move (Operand.tmp 15), type := 24, pos := "law.go:61", after := #[{ on := 23, ground := Ground.guard }], guard := some (23, true) }) (v := ?vh23) rfl ?hsh23 ?hfh23 ?hrh23 ?hQh23 ?hyh23 (by assumption) ?resth23
  case hsh23 => kernel_rfl
  case hfh23 => kernel_rfl
  case hrh23 => kernel_rfl
  case hQh23 => exact fun _ _ _ h => h
  case hyh23 => (refine Or.inl ⟨by rfl, ?_⟩; intro w hSw; (try dsimp only at hSw); go_simp; try with_reducible rfl)
  try simp only [Act.put, List.setIfInBounds_toArray, List.set_cons_zero, List.set_cons_succ]
  refine wpAnyH_take (i := 25) (oi := { dst := some 100, op := Op.move (Operand.tmp 17), type := 24, pos := "law.go:61", after := #[{ on := 23, ground := Ground.guard }], guard := some (23, true) }) (v := ?vh24) rfl ?hsh24 ?hfh24 ?hrh24 ?hQh24 ?hyh24 (by assumption) ?resth24
  case hsh24 => kernel_rfl
  case hfh24 => kernel_rfl
  case hrh24 => kernel_rfl
  case hQh24 => exact fun _ _ _ h => h
  case hyh24 => (refine Or.inl ⟨by rfl, ?_⟩; intro w hSw; (try dsimp only at hSw); go_simp; try with_reducible rfl)
  try simp only [Act.put, List.setIfInBounds_toArray, List.set_cons_zero, List.set_cons_succ]
  refine wpAnyH_take (i := 26) (oi := { dst := some 101, op := Op.binOp BinOp.eql 24 (Operand.tmp 99) (Operand.tmp 100) 24, type := 4, pos := "law.go:61", after := #[{ on := 24, ground := Ground.data }, { on := 25, ground := Ground.data }, { on := 23, ground := Ground.guard }], guard := some (23, true) }) (v := ?vh25) rfl ?hsh25 ?hfh25 ?hrh25 ?hQh25 ?hyh25 (by assumption) ?resth25
  case hsh25 => kernel_rfl
  case hfh25 => kernel_rfl
  case hrh25 => kernel_rfl
  case hQh25 => exact fun _ _ _ h => h
  case hyh25 => (refine Or.inl ⟨by rfl, ?_⟩; intro w hSw; (try dsimp only at hSw); go_simp; try with_reducible rfl)
  try simp only [Act.put, List.setIfInBounds_toArray, List.set_cons_zero, List.set_cons_succ]
  refine wpAnyH_take (i := 27) (oi := { dst := some 102, op := Op.pick (Operand.tmp 98) (Operand.tmp 101) (Operand.const (Value.bool false)), type := 4, pos := "law.go:61", after := #[{ on := 23, ground := Ground.data }, { on := 26, ground := Ground.data }], guard := none }) (v := ?vh26) rfl ?hsh26 ?hfh26 ?hrh26 ?hQh26 ?hyh26 (by assumption) ?resth26
  case hsh26 => kernel_rfl
  case hfh26 => kernel_rfl
  case hrh26 => kernel_rfl
  case hQh26 => exact fun _ _ _ h => h
  case hyh26 => (refine Or.inl ⟨by rfl, ?_⟩; intro w hSw; (try dsimp only at hSw); go_simp; try with_reducible rfl)
  try simp only [Act.put, List.setIfInBounds_toArray, List.set_cons_zero, List.set_cons_succ]
  refine wpAnyH_take (i := 28) (oi := { dst := some 103, op := Op.move (Operand.tmp 102), type := 4, pos := "law.go:61", after := #[{ on := 27, ground := Ground.data }, { on := 23, ground := Ground.chain }], guard := none }) (v := ?vh27) rfl ?hsh27 ?hfh27 ?hrh27 ?hQh27 ?hyh27 (by assumption) ?resth27
  case hsh27 => kernel_rfl
  case hfh27 => kernel_rfl
  case hrh27 => kernel_rfl
  case hQh27 => exact fun _ _ _ h => h
  case hyh27 => (refine Or.inl ⟨by rfl, ?_⟩; intro w hSw; (try dsimp only at hSw); go_simp; try with_reducible rfl)
  try simp only [Act.put, List.setIfInBounds_toArray, List.set_cons_zero, List.set_cons_succ]
  refine wpAnyH_take (i := 29) (oi := { dst := some 104, op := Op.move (Operand.tmp 18), type := 3, pos := "law.go:61", after := #[{ on := 28, ground := Ground.guard }], guard := some (28, true) }) (v := ?vh28) rfl ?hsh28 ?hfh28 ?hrh28 ?hQh28 ?hyh28 (by assumption) ?resth28
  case hsh28 => kernel_rfl
  case hfh28 => kernel_rfl
  case hrh28 => kernel_rfl
  case hQh28 => exact fun _ _ _ h => h
  case hyh28 => (refine Or.inl ⟨by rfl, ?_⟩; intro w hSw; (try dsimp only at hSw); go_simp; try with_reducible rfl)
  try simp only [Act.put, List.setIfInBounds_toArray, List.set_cons_zero, List.set_cons_succ]
  refine wpAnyH_take (i := 30) (oi := { dst := some 105, op := Op.move (Operand.tmp 20), type := 3, pos := "law.go:61", after := #[{ on := 28, ground := Ground.guard }], guard := some (28, true) }) (v := ?vh29) rfl ?hsh29 ?hfh29 ?hrh29 ?hQh29 ?hyh29 (by assumption) ?resth29
  case hsh29 => kernel_rfl
  case hfh29 => kernel_rfl
  case hrh29 => kernel_rfl
  case hQh29 => exact fun _ _ _ h => h
  case hyh29 => (refine Or.inl ⟨by rfl, ?_⟩; intro w hSw; (try dsimp only at hSw); go_simp; try with_reducible rfl)
  try simp only [Act.put, List.setIfInBounds_toArray, List.set_cons_zero, List.set_cons_succ]
  refine wpAnyH_take (i := 31) (oi := { dst := some 106, op := Op.binOp BinOp.eql 3 (Operand.tmp 104) (Operand.tmp 105) 3, type := 4, pos := "law.go:61", after := #[{ on := 29, ground := Ground.data }, { on := 30, ground := Ground.data }, { on := 28, ground := Ground.guard }], guard := some (28, true) }) (v := ?vh30) rfl ?hsh30 ?hfh30 ?hrh30 ?hQh30 ?hyh30 (by assumption) ?resth30
  case hsh30 => kernel_rfl
  case hfh30 => kernel_rfl
  case hrh30 => kernel_rfl
  case hQh30 => exact fun _ _ _ h => h
  case hyh30 => (refine Or.inl ⟨by rfl, ?_⟩; intro w hSw; (try dsimp only at hSw); go_simp; try with_reducible rfl)
  try simp only [Act.put, List.setIfInBounds_toArray, List.set_cons_zero, List.set_cons_succ]
  refine wpAnyH_take (i := 32) (oi := { dst := some 107, op := Op.pick (Operand.tmp 103) (Operand.tmp 106) (Operand.const (Value.bool false)), type := 4, pos := "law.go:61", after := #[{ on := 28, ground := Ground.data }, { on := 31, ground := Ground.data }], guard := none }) (v := ?vh31) rfl ?hsh31 ?hfh31 ?hrh31 ?hQh31 ?hyh31 (by assumption) ?resth31
  case hsh31 => kernel_rfl
  case hfh31 => kernel_rfl
  case hrh31 => kernel_rfl
  case hQh31 => exact fun _ _ _ h => h
  case hyh31 => (refine Or.inl ⟨by rfl, ?_⟩; intro w hSw; (try dsimp only at hSw); go_simp; try with_reducible rfl)
  try simp only [Act.put, List.setIfInBounds_toArray, List.set_cons_zero, List.set_cons_succ]
  refine wpAnyH_take (i := 33) (oi := { dst := some 108, op := Op.move (Operand.tmp 107), type := 4, pos := "law.go:61", after := #[{ on := 32, ground := Ground.data }, { on := 28, ground := Ground.chain }], guard := none }) (v := ?vh32) rfl ?hsh32 ?hfh32 ?hrh32 ?hQh32 ?hyh32 (by assumption) ?resth32
  case hsh32 => kernel_rfl
  case hfh32 => kernel_rfl
  case hrh32 => kernel_rfl
  case hQh32 => exact fun _ _ _ h => h
  case hyh32 => (refine Or.inl ⟨by rfl, ?_⟩; intro w hSw; (try dsimp only at hSw); go_simp; try with_reducible rfl)
  try simp only [Act.put, List.setIfInBounds_toArray, List.set_cons_zero, List.set_cons_succ]
  refine wpAnyH_take (i := 34) (oi := { dst := some 109, op := Op.move (Operand.tmp 19), type := 24, pos := "law.go:61", after := #[{ on := 33, ground := Ground.guard }], guard := some (33, true) }) (v := ?vh33) rfl ?hsh33 ?hfh33 ?hrh33 ?hQh33 ?hyh33 (by assumption) ?resth33
  case hsh33 => kernel_rfl
  case hfh33 => kernel_rfl
  case hrh33 => kernel_rfl
  case hQh33 => exact fun _ _ _ h => h
  case hyh33 => (refine Or.inl ⟨by rfl, ?_⟩; intro w hSw; (try dsimp only at hSw); go_simp; try with_reducible rfl)
  try simp only [Act.put, List.setIfInBounds_toArray, List.set_cons_zero, List.set_cons_succ]
  refine wpAnyH_take (i := 35) (oi := { dst := some 110, op := Op.move (Operand.tmp 21), type := 24, pos := "law.go:61", after := #[{ on := 33, ground := Ground.guard }], guard := some (33, true) }) (v := ?vh34) rfl ?hsh34 ?hfh34 ?hrh34 ?hQh34 ?hyh34 (by assumption) ?resth34
  case hsh34 => kernel_rfl
  case hfh34 => kernel_rfl
  case hrh34 => kernel_rfl
  case hQh34 => exact fun _ _ _ h => h
  case hyh34 => (refine Or.inl ⟨by rfl, ?_⟩; intro w hSw; (try dsimp only at hSw); go_simp; try with_reducible rfl)
  try simp only [Act.put, List.setIfInBounds_toArray, List.set_cons_zero, List.set_cons_succ]
  refine wpAnyH_take (i := 36) (oi := { dst := some 111, op := Op.binOp BinOp.eql 24 (Operand.tmp 109) (Operand.tmp 110) 24, type := 4, pos := "law.go:61", after := #[{ on := 34, ground := Ground.data }, { on := 35, ground := Ground.data }, { on := 33, ground := Ground.guard }], guard := some (33, true) }) (v := ?vh35) rfl ?hsh35 ?hfh35 ?hrh35 ?hQh35 ?hyh35 (by assumption) ?resth35
  case hsh35 => kernel_rfl
  case hfh35 => kernel_rfl
  case hrh35 => kernel_rfl
  case hQh35 => exact fun _ _ _ h => h
  case hyh35 => (refine Or.inl ⟨by rfl, ?_⟩; intro w hSw; (try dsimp only at hSw); go_simp; try with_reducible rfl)
  try simp only [Act.put, List.setIfInBounds_toArray, List.set_cons_zero, List.set_cons_succ]
  refine wpAnyH_take (i := 37) (oi := { dst := some 112, op := Op.pick (Operand.tmp 108) (Operand.tmp 111) (Operand.const (Value.bool false)), type := 4, pos := "law.go:61", after := #[{ on := 33, ground := Ground.data }, { on := 36, ground := Ground.data }], guard := none }) (v := ?vh36) rfl ?hsh36 ?hfh36 ?hrh36 ?hQh36 ?hyh36 (by assumption) ?resth36
  case hsh36 => kernel_rfl
  case hfh36 => kernel_rfl
  case hrh36 => kernel_rfl
  case hQh36 => exact fun _ _ _ h => h
  case hyh36 => (refine Or.inl ⟨by rfl, ?_⟩; intro w hSw; (try dsimp only at hSw); go_simp; try with_reducible rfl)
  try simp only [Act.put, List.setIfInBounds_toArray, List.set_cons_zero, List.set_cons_succ]
  refine wpAnyH_take (i := 38) (oi := { dst := some 113, op := Op.move (Operand.tmp 112), type := 4, pos := "law.go:61", after := #[{ on := 37, ground := Ground.data }, { on := 33, ground := Ground.chain }], guard := none }) (v := ?vh37) rfl ?hsh37 ?hfh37 ?hrh37 ?hQh37 ?hyh37 (by assumption) ?resth37
  case hsh37 => kernel_rfl
  case hfh37 => kernel_rfl
  case hrh37 => kernel_rfl
  case hQh37 => exact fun _ _ _ h => h
  case hyh37 => (refine Or.inl ⟨by rfl, ?_⟩; intro w hSw; (try dsimp only at hSw); go_simp; try with_reducible rfl)
  try simp only [Act.put, List.setIfInBounds_toArray, List.set_cons_zero, List.set_cons_succ]
  refine wpAnyH_take (i := 39) (oi := { dst := some 114, op := Op.move (Operand.tmp 22), type := 3, pos := "law.go:61", after := #[{ on := 38, ground := Ground.guard }], guard := some (38, true) }) (v := ?vh38) rfl ?hsh38 ?hfh38 ?hrh38 ?hQh38 ?hyh38 (by assumption) ?resth38
  case hsh38 => kernel_rfl
  case hfh38 => kernel_rfl
  case hrh38 => kernel_rfl
  case hQh38 => exact fun _ _ _ h => h
  case hyh38 => (refine Or.inl ⟨by rfl, ?_⟩; intro w hSw; (try dsimp only at hSw); go_simp; try with_reducible rfl)
  try simp only [Act.put, List.setIfInBounds_toArray, List.set_cons_zero, List.set_cons_succ]
  refine wpAnyH_take (i := 40) (oi := { dst := some 115, op := Op.move (Operand.tmp 24), type := 3, pos := "law.go:61", after := #[{ on := 38, ground := Ground.guard }], guard := some (38, true) }) (v := ?vh39) rfl ?hsh39 ?hfh39 ?hrh39 ?hQh39 ?hyh39 (by assumption) ?resth39
  case hsh39 => kernel_rfl
  case hfh39 => kernel_rfl
  case hrh39 => kernel_rfl
  case hQh39 => exact fun _ _ _ h => h
  case hyh39 => (refine Or.inl ⟨by rfl, ?_⟩; intro w hSw; (try dsimp only at hSw); go_simp; try with_reducible rfl)
  try simp only [Act.put, List.setIfInBounds_toArray, List.set_cons_zero, List.set_cons_succ]
  refine wpAnyH_take (i := 41) (oi := { dst := some 116, op := Op.binOp BinOp.eql 3 (Operand.tmp 114) (Operand.tmp 115) 3, type := 4, pos := "law.go:61", after := #[{ on := 39, ground := Ground.data }, { on := 40, ground := Ground.data }, { on := 38, ground := Ground.guard }], guard := some (38, true) }) (v := ?vh40) rfl ?hsh40 ?hfh40 ?hrh40 ?hQh40 ?hyh40 (by assumption) ?resth40
  case hsh40 => kernel_rfl
  case hfh40 => kernel_rfl
  case hrh40 => kernel_rfl
  case hQh40 => exact fun _ _ _ h => h
  case hyh40 => (refine Or.inl ⟨by rfl, ?_⟩; intro w hSw; (try dsimp only at hSw); go_simp; try with_reducible rfl)
  try simp only [Act.put, List.setIfInBounds_toArray, List.set_cons_zero, List.set_cons_succ]
  refine wpAnyH_take (i := 42) (oi := { dst := some 117, op := Op.pick (Operand.tmp 113) (Operand.tmp 116) (Operand.const (Value.bool false)), type := 4, pos := "law.go:61", after := #[{ on := 38, ground := Ground.data }, { on := 41, ground := Ground.data }], guard := none }) (v := ?vh41) rfl ?hsh41 ?hfh41 ?hrh41 ?hQh41 ?hyh41 (by assumption) ?resth41
  case hsh41 => kernel_rfl
  case hfh41 => kernel_rfl
  case hrh41 => kernel_rfl
  case hQh41 => exact fun _ _ _ h => h
  case hyh41 => (refine Or.inl ⟨by rfl, ?_⟩; intro w hSw; (try dsimp only at hSw); go_simp; try with_reducible rfl)
  try simp only [Act.put, List.setIfInBounds_toArray, List.set_cons_zero, List.set_cons_succ]
  refine wpAnyH_take (i := 43) (oi := { dst := some 118, op := Op.move (Operand.tmp 117), type := 4, pos := "law.go:61", after := #[{ on := 42, ground := Ground.data }, { on := 38, ground := Ground.chain }], guard := none }) (v := ?vh42) rfl ?hsh42 ?hfh42 ?hrh42 ?hQh42 ?hyh42 (by assumption) ?resth42
  case hsh42 => kernel_rfl
  case hfh42 => kernel_rfl
  case hrh42 => kernel_rfl
  case hQh42 => exact fun _ _ _ h => h
  case hyh42 => (refine Or.inl ⟨by rfl, ?_⟩; intro w hSw; (try dsimp only at hSw); go_simp; try with_reducible rfl)
  try simp only [Act.put, List.setIfInBounds_toArray, List.set_cons_zero, List.set_cons_succ]
  refine wpAnyH_take (i := 44) (oi := { dst := some 119, op := Op.move (Operand.tmp 23), type := 24, pos := "law.go:61", after := #[{ on := 43, ground := Ground.guard }], guard := some (43, true) }) (v := ?vh43) rfl ?hsh43 ?hfh43 ?hrh43 ?hQh43 ?hyh43 (by assumption) ?resth43
  case hsh43 => kernel_rfl
  case hfh43 => kernel_rfl
  case hrh43 => kernel_rfl
  case hQh43 => exact fun _ _ _ h => h
  case hyh43 => (refine Or.inl ⟨by rfl, ?_⟩; intro w hSw; (try dsimp only at hSw); go_simp; try with_reducible rfl)
  try simp only [Act.put, List.setIfInBounds_toArray, List.set_cons_zero, List.set_cons_succ]
  refine wpAnyH_take (i := 45) (oi := { dst := some 120, op := Op.move (Operand.tmp 25), type := 24, pos := "law.go:61", after := #[{ on := 43, ground := Ground.guard }], guard := some (43, true) }) (v := ?vh44) rfl ?hsh44 ?hfh44 ?hrh44 ?hQh44 ?hyh44 (by assumption) ?resth44
  case hsh44 => kernel_rfl
  case hfh44 => kernel_rfl
  case hrh44 => kernel_rfl
  case hQh44 => exact fun _ _ _ h => h
  case hyh44 => (refine Or.inl ⟨by rfl, ?_⟩; intro w hSw; (try dsimp only at hSw); go_simp; try with_reducible rfl)
  try simp only [Act.put, List.setIfInBounds_toArray, List.set_cons_zero, List.set_cons_succ]
  refine wpAnyH_take (i := 46) (oi := { dst := some 121, op := Op.binOp BinOp.eql 24 (Operand.tmp 119) (Operand.tmp 120) 24, type := 4, pos := "law.go:61", after := #[{ on := 44, ground := Ground.data }, { on := 45, ground := Ground.data }, { on := 43, ground := Ground.guard }], guard := some (43, true) }) (v := ?vh45) rfl ?hsh45 ?hfh45 ?hrh45 ?hQh45 ?hyh45 (by assumption) ?resth45
  case hsh45 => kernel_rfl
  case hfh45 => kernel_rfl
  case hrh45 => kernel_rfl
  case hQh45 => exact fun _ _ _ h => h
  case hyh45 => (refine Or.inl ⟨by rfl, ?_⟩; intro w hSw; (try dsimp only at hSw); go_simp; try with_reducible rfl)
  try simp only [Act.put, List.setIfInBounds_toArray, List.set_cons_zero, List.set_cons_succ]
  refine wpAnyH_take (i := 47) (oi := { dst := some 122, op := Op.pick (Operand.tmp 118) (Operand.tmp 121) (Operand.const (Value.bool false)), type := 4, pos := "law.go:61", after := #[{ on := 43, ground := Ground.data }, { on := 46, ground := Ground.data }], guard := none }) (v := ?vh46) rfl ?hsh46 ?hfh46 ?hrh46 ?hQh46 ?hyh46 (by assumption) ?resth46
  case hsh46 => kernel_rfl
  case hfh46 => kernel_rfl
  case hrh46 => kernel_rfl
  case hQh46 => exact fun _ _ _ h => h
  case hyh46 => (refine Or.inl ⟨by rfl, ?_⟩; intro w hSw; (try dsimp only at hSw); go_simp; try with_reducible rfl)
  try simp only [Act.put, List.setIfInBounds_toArray, List.set_cons_zero, List.set_cons_succ]
  refine wpAnyH_take (i := 48) (oi := { dst := some 8, op := Op.assign (Operand.tmp 122), type := 4, pos := "law.go:61", after := #[{ on := 47, ground := Ground.data }, { on := 43, ground := Ground.chain }, { on := 0, ground := Ground.phase }, { on := 1, ground := Ground.phase }, { on := 2, ground := Ground.phase }, { on := 3, ground := Ground.phase }, { on := 4, ground := Ground.phase }, { on := 5, ground := Ground.phase }, { on := 6, ground := Ground.phase }, { on := 7, ground := Ground.phase }, { on := 8, ground := Ground.phase }, { on := 9, ground := Ground.phase }, { on := 10, ground := Ground.phase }, { on := 11, ground := Ground.phase }, { on := 12, ground := Ground.phase }, { on := 13, ground := Ground.phase }, { on := 14, ground := Ground.phase }, { on := 15, ground := Ground.phase }, { on := 16, ground := Ground.phase }, { on := 17, ground := Ground.phase }, { on := 18, ground := Ground.phase }, { on := 19, ground := Ground.phase }, { on := 20, ground := Ground.phase }, { on := 21, ground := Ground.phase }, { on := 22, ground := Ground.phase }, { on := 23, ground := Ground.phase }, { on := 24, ground := Ground.phase }, { on := 25, ground := Ground.phase }, { on := 26, ground := Ground.phase }, { on := 27, ground := Ground.phase }, { on := 28, ground := Ground.phase }, { on := 29, ground := Ground.phase }, { on := 30, ground := Ground.phase }, { on := 31, ground := Ground.phase }, { on := 32, ground := Ground.phase }, { on := 33, ground := Ground.phase }, { on := 34, ground := Ground.phase }, { on := 35, ground := Ground.phase }, { on := 36, ground := Ground.phase }, { on := 37, ground := Ground.phase }, { on := 38, ground := Ground.phase }, { on := 39, ground := Ground.phase }, { on := 40, ground := Ground.phase }, { on := 41, ground := Ground.phase }, { on := 42, ground := Ground.phase }, { on := 43, ground := Ground.phase }, { on := 44, ground := Ground.phase }, { on := 45, ground := Ground.phase }, { on := 46, ground := Ground.phase }, { on := 47, ground := Ground.phase }], guard := none }) (v := ?vh47) rfl ?hsh47 ?hfh47 ?hrh47 ?hQh47 ?hyh47 (by assumption) ?resth47
  case hsh47 => kernel_rfl
  case hfh47 => kernel_rfl
  case hrh47 => kernel_rfl
  case hQh47 => exact fun _ _ _ h => h
  case hyh47 => (refine Or.inl ⟨by rfl, ?_⟩; intro w hSw; (try dsimp only at hSw); go_simp; try with_reducible rfl)
  try simp only [Act.put, List.setIfInBounds_toArray, List.set_cons_zero, List.set_cons_succ]
  refine wpAnyH_done (by kernel_rfl) ?_ _
  refine NoPanic.normal ?_
  obtain ⟨-, -, -, -, -, xb, -⟩ := hHeld
  exact HQ.out _ _ _ _ _ _ _ _ _ _ _ _ _ _ _ _ _ _ _ _ _ _ _ _ _ _ _ _ _ _ _ _ _ _ _ _ _ _ _ _ _ _ _ _ _ _ _ _ _ xb

end Go.Proofs.Ytmmfmanjajefcaa

/- DressingTasks: the test, a region by itself. -/
import Derived.Test.YtfhbpeafapabhaaQ6
import Derived.Deep.RegionHeld3
namespace Go.Proofs.Ytfhbpeafapabhaa
open Go.RowKit

set_option maxRecDepth 100000 in
set_option maxHeartbeats 8000000 in
theorem tasks8_c (t : Tk) (p L : List Int) (A A1 A6 A8 : Option Addr) (c m1 c1 n6 c6 n8 c8 a0 : Nat) (ca tv te : Int) (wq : World) (Q : Exit → Act → World → Prop) (x0 x3 x4 x14 x15 x16 x17 x18 x19 x20 x21 x22 x23 x24 x25 x26 x27 x28 x29 x30 x31 x32 x33 x34 x35 x36 x37 x38 x39 x40 x41 x42 x43 x44 x45 x46 x47 x48 x49 x50 x51 x52 x53 x54 x55 x56 x57 x58 x59 x60 x61 x62 x63 x64 x65 x66 x67 x68 x69 x70 x71 x72 x73 x74 x75 x76 x77 x78 x79 x80 x81 x82 : Value)
    (hT : IsTask wq wq.heap.size (.agg #[.int .i64 t.wide, .slice A t.need.length c]) t)
    (hP : Ints wq wq.heap.size (.slice A1 m1 c1) p)
    (hA : Ints wq wq.heap.size (.slice A6 n6 c6) L)
    (hB : Ints wq wq.heap.size (.slice A8 n8 c8) L)
    (bT : Box wq a0 24 #[.int .i64 t.wide, .slice A t.need.length c])
    (hQ : ∀ (y46 y47 y48 y49 y50 y51 y52 y53 y54 y55 y56 y57 y58 y59 y60 y61 y62 y63 y64 y65 y66 y67 y68 y69 y70 y71 y72 y73 y74 y75 y76 y77 y78 y79 y80 y81 y82 : Value) (w14 : World), Below wq.heap.size wq w14 → Q .normal { tmps := #[x0, .slice A1 m1 c1, .pointer (some ⟨a0, 0, none⟩), x3, .bool true, .bool true, .slice A6 n6 c6, .int .i64 ca, .slice A8 n8 c8, .int .i64 ca, .int .i64 tv, .int .i64 te, .int .i64 tv, .int .i64 te, x14, x15, x16, x17, x18, x19, x20, x21, x22, x23, x24, x25, x26, x27, x28, x29, x30, x31, x32, x33, x34, x35, x36, x37, x38, x39, x40, x41, x42, x43, x44, x45, y46, y47, y48, y49, y50, y51, y52, y53, y54, y55, y56, y57, y58, y59, y60, y61, y62, y63, y64, y65, y66, y67, y68, y69, y70, y71, y72, y73, y74, y75, y76, y77, y78, y79, y80, y81, y82], defers := [] } w14) :
    (Code.region 8 #[{ dst := some 46, op := Op.move (Operand.tmp 5), type := 4, pos := "law.go:69", after := #[], guard := none }, { dst := some 47, op := Op.move (Operand.tmp 46), type := 4, pos := "law.go:69", after := #[{ on := 0, ground := Ground.data }], guard := none }, { dst := some 48, op := Op.load 24 (Operand.tmp 2), type := 24, pos := "law.go:69", after := #[{ on := 1, ground := Ground.guard }], guard := some (1, true) }, { dst := some 49, op := Op.call { callee := Callee.value (Operand.func 25), args := #[Operand.tmp 48], argTypes := #[24] }, type := 28, pos := "law.go:69", after := #[{ on := 2, ground := Ground.data }, { on := 1, ground := Ground.chain }, { on := 1, ground := Ground.guard }], guard := some (1, true) }, { dst := some 50, op := Op.load 24 (Operand.tmp 2), type := 24, pos := "law.go:69", after := #[{ on := 1, ground := Ground.guard }], guard := some (1, true) }, { dst := some 51, op := Op.call { callee := Callee.value (Operand.func 26), args := #[Operand.tmp 50], argTypes := #[24] }, type := 28, pos := "law.go:69", after := #[{ on := 4, ground := Ground.data }, { on := 3, ground := Ground.chain }, { on := 1, ground := Ground.guard }], guard := some (1, true) }, { dst := some 52, op := Op.binOp BinOp.eql 28 (Operand.tmp 49) (Operand.tmp 51) 28, type := 4, pos := "law.go:69", after := #[{ on := 3, ground := Ground.data }, { on := 5, ground := Ground.data }, { on := 1, ground := Ground.guard }], guard := some (1, true) }, { dst := some 53, op := Op.pick (Operand.tmp 47) (Operand.tmp 52) (Operand.const (Value.bool false)), type := 4, pos := "law.go:69", after := #[{ on := 1, ground := Ground.data }, { on := 6, ground := Ground.data }], guard := none }, { dst := some 54, op := Op.move (Operand.tmp 53), type := 4, pos := "law.go:69", after := #[{ on := 7, ground := Ground.data }, { on := 5, ground := Ground.chain }], guard := none }, { dst := some 55, op := Op.move (Operand.tmp 6), type := 25, pos := "law.go:69", after := #[{ on := 8, ground := Ground.guard }], guard := some (8, true) }, { dst := some 56, op := Op.move (Operand.tmp 8), type := 25, pos := "law.go:69", after := #[{ on := 8, ground := Ground.guard }], guard := some (8, true) }, { dst := some 57, op := Op.call { callee := Callee.value (Operand.func 27), args := #[Operand.tmp 55, Operand.tmp 56], argTypes := #[25, 25] }, type := 4, pos := "law.go:69", after := #[{ on := 9, ground := Ground.data }, { on := 10, ground := Ground.data }, { on := 8, ground := Ground.chain }, { on := 8, ground := Ground.guard }], guard := some (8, true) }, { dst := some 58, op := Op.pick (Operand.tmp 54) (Operand.tmp 57) (Operand.const (Value.bool false)), type := 4, pos := "law.go:69", after := #[{ on := 8, ground := Ground.data }, { on := 11, ground := Ground.data }], guard := none }, { dst := some 59, op := Op.move (Operand.tmp 58), type := 4, pos := "law.go:69", after := #[{ on := 12, ground := Ground.data }, { on := 11, ground := Ground.chain }], guard := none }, { dst := some 60, op := Op.move (Operand.tmp 7), type := 28, pos := "law.go:69", after := #[{ on := 13, ground := Ground.guard }], guard := some (13, true) }, { dst := some 61, op := Op.move (Operand.tmp 9), type := 28, pos := "law.go:69", after := #[{ on := 13, ground := Ground.guard }], guard := some (13, true) }, { dst := some 62, op := Op.binOp BinOp.eql 28 (Operand.tmp 60) (Operand.tmp 61) 28, type := 4, pos := "law.go:69", after := #[{ on := 14, ground := Ground.data }, { on := 15, ground := Ground.data }, { on := 13, ground := Ground.guard }], guard := some (13, true) }, { dst := some 63, op := Op.pick (Operand.tmp 59) (Operand.tmp 62) (Operand.const (Value.bool false)), type := 4, pos := "law.go:69", after := #[{ on := 13, ground := Ground.data }, { on := 16, ground := Ground.data }], guard := none }, { dst := some 64, op := Op.move (Operand.tmp 63), type := 4, pos := "law.go:69", after := #[{ on := 17, ground := Ground.data }, { on := 13, ground := Ground.chain }], guard := none }, { dst := some 65, op := Op.load 24 (Operand.tmp 2), type := 24, pos := "law.go:69", after := #[{ on := 18, ground := Ground.guard }], guard := some (18, true) }, { dst := some 66, op := Op.move (Operand.tmp 1), type := 25, pos := "law.go:69", after := #[{ on := 18, ground := Ground.guard }], guard := some (18, true) }, { dst := some 67, op := Op.call { callee := Callee.value (Operand.func 28), args := #[Operand.tmp 65, Operand.tmp 66], argTypes := #[24, 25] }, type := 28, pos := "law.go:69", after := #[{ on := 19, ground := Ground.data }, { on := 20, ground := Ground.data }, { on := 18, ground := Ground.chain }, { on := 18, ground := Ground.guard }], guard := some (18, true) }, { dst := some 68, op := Op.load 24 (Operand.tmp 2), type := 24, pos := "law.go:69", after := #[{ on := 18, ground := Ground.guard }], guard := some (18, true) }, { dst := some 69, op := Op.move (Operand.tmp 1), type := 25, pos := "law.go:69", after := #[{ on := 18, ground := Ground.guard }], guard := some (18, true) }, { dst := some 70, op := Op.call { callee := Callee.value (Operand.func 29), args := #[Operand.tmp 68, Operand.tmp 69], argTypes := #[24, 25] }, type := 28, pos := "law.go:69", after := #[{ on := 22, ground := Ground.data }, { on := 23, ground := Ground.data }, { on := 21, ground := Ground.chain }, { on := 18, ground := Ground.guard }], guard := some (18, true) }, { dst := some 71, op := Op.binOp BinOp.eql 28 (Operand.tmp 67) (Operand.tmp 70) 28, type := 4, pos := "law.go:69", after := #[{ on := 21, ground := Ground.data }, { on := 24, ground := Ground.data }, { on := 18, ground := Ground.guard }], guard := some (18, true) }, { dst := some 72, op := Op.pick (Operand.tmp 64) (Operand.tmp 71) (Operand.const (Value.bool false)), type := 4, pos := "law.go:69", after := #[{ on := 18, ground := Ground.data }, { on := 25, ground := Ground.data }], guard := none }, { dst := some 73, op := Op.move (Operand.tmp 72), type := 4, pos := "law.go:69", after := #[{ on := 26, ground := Ground.data }, { on := 24, ground := Ground.chain }], guard := none }, { dst := some 74, op := Op.move (Operand.tmp 10), type := 3, pos := "law.go:69", after := #[{ on := 27, ground := Ground.guard }], guard := some (27, true) }, { dst := some 75, op := Op.move (Operand.tmp 12), type := 3, pos := "law.go:69", after := #[{ on := 27, ground := Ground.guard }], guard := some (27, true) }, { dst := some 76, op := Op.binOp BinOp.eql 3 (Operand.tmp 74) (Operand.tmp 75) 3, type := 4, pos := "law.go:69", after := #[{ on := 28, ground := Ground.data }, { on := 29, ground := Ground.data }, { on := 27, ground := Ground.guard }], guard := some (27, true) }, { dst := some 77, op := Op.pick (Operand.tmp 73) (Operand.tmp 76) (Operand.const (Value.bool false)), type := 4, pos := "law.go:69", after := #[{ on := 27, ground := Ground.data }, { on := 30, ground := Ground.data }], guard := none }, { dst := some 78, op := Op.move (Operand.tmp 77), type := 4, pos := "law.go:69", after := #[{ on := 31, ground := Ground.data }, { on := 27, ground := Ground.chain }], guard := none }, { dst := some 79, op := Op.move (Operand.tmp 11), type := 28, pos := "law.go:69", after := #[{ on := 32, ground := Ground.guard }], guard := some (32, true) }, { dst := some 80, op := Op.move (Operand.tmp 13), type := 28, pos := "law.go:69", after := #[{ on := 32, ground := Ground.guard }], guard := some (32, true) }, { dst := some 81, op := Op.binOp BinOp.eql 28 (Operand.tmp 79) (Operand.tmp 80) 28, type := 4, pos := "law.go:69", after := #[{ on := 33, ground := Ground.data }, { on := 34, ground := Ground.data }, { on := 32, ground := Ground.guard }], guard := some (32, true) }, { dst := some 82, op := Op.pick (Operand.tmp 78) (Operand.tmp 81) (Operand.const (Value.bool false)), type := 4, pos := "law.go:69", after := #[{ on := 32, ground := Ground.data }, { on := 35, ground := Ground.data }], guard := none }, { dst := some 4, op := Op.assign (Operand.tmp 82), type := 4, pos := "law.go:69", after := #[{ on := 36, ground := Ground.data }, { on := 32, ground := Ground.chain }, { on := 0, ground := Ground.phase }, { on := 1, ground := Ground.phase }, { on := 2, ground := Ground.phase }, { on := 3, ground := Ground.phase }, { on := 4, ground := Ground.phase }, { on := 5, ground := Ground.phase }, { on := 6, ground := Ground.phase }, { on := 7, ground := Ground.phase }, { on := 8, ground := Ground.phase }, { on := 9, ground := Ground.phase }, { on := 10, ground := Ground.phase }, { on := 11, ground := Ground.phase }, { on := 12, ground := Ground.phase }, { on := 13, ground := Ground.phase }, { on := 14, ground := Ground.phase }, { on := 15, ground := Ground.phase }, { on := 16, ground := Ground.phase }, { on := 17, ground := Ground.phase }, { on := 18, ground := Ground.phase }, { on := 19, ground := Ground.phase }, { on := 20, ground := Ground.phase }, { on := 21, ground := Ground.phase }, { on := 22, ground := Ground.phase }, { on := 23, ground := Ground.phase }, { on := 24, ground := Ground.phase }, { on := 25, ground := Ground.phase }, { on := 26, ground := Ground.phase }, { on := 27, ground := Ground.phase }, { on := 28, ground := Ground.phase }, { on := 29, ground := Ground.phase }, { on := 30, ground := Ground.phase }, { on := 31, ground := Ground.phase }, { on := 32, ground := Ground.phase }, { on := 33, ground := Ground.phase }, { on := 34, ground := Ground.phase }, { on := 35, ground := Ground.phase }, { on := 36, ground := Ground.phase }], guard := none }] true).wp Try.prog Q { tmps := #[x0, .slice A1 m1 c1, .pointer (some ⟨a0, 0, none⟩), x3, x4, .bool true, .slice A6 n6 c6, .int .i64 ca, .slice A8 n8 c8, .int .i64 ca, .int .i64 tv, .int .i64 te, .int .i64 tv, .int .i64 te, x14, x15, x16, x17, x18, x19, x20, x21, x22, x23, x24, x25, x26, x27, x28, x29, x30, x31, x32, x33, x34, x35, x36, x37, x38, x39, x40, x41, x42, x43, x44, x45, x46, x47, x48, x49, x50, x51, x52, x53, x54, x55, x56, x57, x58, x59, x60, x61, x62, x63, x64, x65, x66, x67, x68, x69, x70, x71, x72, x73, x74, x75, x76, x77, x78, x79, x80, x81, x82], defers := [] } wq := by
  have HQ := Lib.hid hQ
  clear hQ
  have hdr : Below wq.heap.size wq wq.drew := (Below.refl _ _).drew
  have hTd := hT.mono hdr hdr.size
  have hPd := hP.mono hdr hdr.size
  have hAd := hA.mono hdr hdr.size
  have hBd := hB.mono hdr hdr.size
  have l0 := bT.lt
  have hcall : ∀ X Y : World, (fun W => W.cell? ⟨a0, 0, none⟩ = some (.int .i64 t.wide) ∧ W.cell? ⟨a0, 1, none⟩ = some (.slice A t.need.length c) ∧ Below wq.heap.size wq W ∧ wq.heap.size ≤ W.heap.size) X → Below X.heap.size X Y → (fun W => W.cell? ⟨a0, 0, none⟩ = some (.int .i64 t.wide) ∧ W.cell? ⟨a0, 1, none⟩ = some (.slice A t.need.length c) ∧ Below wq.heap.size wq W ∧ wq.heap.size ≤ W.heap.size) Y := by
    rintro X Y ⟨z0, z1, xb, xs⟩ hb
    have hb2 := Below.mono (B' := wq.heap.size) hb xs
    exact ⟨keepd z0 hb2 l0, keepd z1 hb2 l0, Below.trans xb hb2, Nat.le_trans xs hb.size⟩
  have hini : (fun W => W.cell? ⟨a0, 0, none⟩ = some (.int .i64 t.wide) ∧ W.cell? ⟨a0, 1, none⟩ = some (.slice A t.need.length c) ∧ Below wq.heap.size wq W ∧ wq.heap.size ≤ W.heap.size) wq.drew := ⟨bT.cell 0, bT.cell 1, hdr, Nat.le_refl _⟩
  have e1 : (tkE t == tkE t) = true := by simp
  have e2 : (ca == ca) = true := by simp
  have e3 : (tv == tv) = true := by simp
  have e4 : (te == te) = true := by simp
  have e5 : (doesE t p == doesE t p) = true := by simp
  have Hcall := Lib.hid hcall
  have Hini := Lib.hid hini
  clear hT hP hA hB bT hdr l0 hcall hini
  refine wp_region_noPanic ?_
  refine wp_region_held_drew (S := (fun W => W.cell? ⟨a0, 0, none⟩ = some (.int .i64 t.wide) ∧ W.cell? ⟨a0, 1, none⟩ = some (.slice A t.need.length c) ∧ Below wq.heap.size wq W ∧ wq.heap.size ≤ W.heap.size)) (by kernel_rfl) Hini.out (fun hHeld => ?_)
  refine wpAnyH_take (i := 0) (oi := { dst := some 46, op := Op.move (Operand.tmp 5), type := 4, pos := "law.go:69", after := #[], guard := none }) (v := ?vh1) rfl ?hsh1 ?hfh1 ?hrh1 ?hQh1 ?hyh1 (by assumption) ?resth1
  case hsh1 => kernel_rfl
  case hfh1 => kernel_rfl
  case hrh1 => kernel_rfl
  case hQh1 => exact fun _ _ _ h => h
  case hyh1 => (refine Or.inl ⟨by rfl, ?_⟩; intro w hSw; (try dsimp only at hSw); go_simp; try with_reducible rfl)
  try simp only [Act.put, List.setIfInBounds_toArray, List.set_cons_zero, List.set_cons_succ]
  refine wpAnyH_take (i := 1) (oi := { dst := some 47, op := Op.move (Operand.tmp 46), type := 4, pos := "law.go:69", after := #[{ on := 0, ground := Ground.data }], guard := none }) (v := ?vh2) rfl ?hsh2 ?hfh2 ?hrh2 ?hQh2 ?hyh2 (by assumption) ?resth2
  case hsh2 => kernel_rfl
  case hfh2 => kernel_rfl
  case hrh2 => kernel_rfl
  case hQh2 => exact fun _ _ _ h => h
  case hyh2 => (refine Or.inl ⟨by rfl, ?_⟩; intro w hSw; (try dsimp only at hSw); go_simp; try with_reducible rfl)
  try simp only [Act.put, List.setIfInBounds_toArray, List.set_cons_zero, List.set_cons_succ]
  refine wpAnyH_take (i := 2) (oi := { dst := some 48, op := Op.load 24 (Operand.tmp 2), type := 24, pos := "law.go:69", after := #[{ on := 1, ground := Ground.guard }], guard := some (1, true) }) (v := ?vh3) rfl ?hsh3 ?hfh3 ?hrh3 ?hQh3 ?hyh3 (by assumption) ?resth3
  case hsh3 => kernel_rfl
  case hfh3 => kernel_rfl
  case hrh3 => kernel_rfl
  case hQh3 => exact fun _ _ _ h => h
  case hyh3 => (refine Or.inl ⟨by rfl, ?_⟩; intro w hSw; (try dsimp only at hSw); go_simp; try with_reducible rfl)
  try simp only [Act.put, List.setIfInBounds_toArray, List.set_cons_zero, List.set_cons_succ]
  refine wpAnyH_take (i := 4) (oi := { dst := some 50, op := Op.load 24 (Operand.tmp 2), type := 24, pos := "law.go:69", after := #[{ on := 1, ground := Ground.guard }], guard := some (1, true) }) (v := ?vh4) rfl ?hsh4 ?hfh4 ?hrh4 ?hQh4 ?hyh4 (by assumption) ?resth4
  case hsh4 => kernel_rfl
  case hfh4 => kernel_rfl
  case hrh4 => kernel_rfl
  case hQh4 => exact fun _ _ _ h => h
  case hyh4 => (refine Or.inl ⟨by rfl, ?_⟩; intro w hSw; (try dsimp only at hSw); go_simp; try with_reducible rfl)
  try simp only [Act.put, List.setIfInBounds_toArray, List.set_cons_zero, List.set_cons_succ]
  refine wpAnyH_ready (rs := [3]) (by kernel_rfl) (by simp) ?_
  refine AllReadyH.cons (o := _) (by rfl) (fun K hK => ?_) AllReadyH.nil
  go_simp
  go_at_call 25
  refine (Check_c t _ _ hTd).mono ?_
  rintro e w10 ⟨rfl, hb10⟩
  have hT10 := hTd.mono hb10 hb10.size
  have hP10 := hPd.mono hb10 hb10.size
  have hA10 := hAd.mono hb10 hb10.size
  have hB10 := hBd.mono hb10 hb10.size
  go_wp2_with fail
  refine hK.out _ _ (Hcall.out _ _ hHeld (by assumption)) (fun hHeld0 => ?_)
  clear hK K hHeld
  have hHeld := hHeld0
  clear hHeld0
  try simp only [Act.put, List.setIfInBounds_toArray, List.set_cons_zero, List.set_cons_succ]
  refine wpAnyH_ready (rs := [5]) (by kernel_rfl) (by simp) ?_
  refine AllReadyH.cons (o := _) (by rfl) (fun K hK => ?_) AllReadyH.nil
  go_simp
  go_at_call 26
  refine (rCheck_c t _ _ hT10).mono ?_
  rintro e w11 ⟨rfl, hb11⟩
  have hT11 := hT10.mono hb11 hb11.size
  have hP11 := hP10.mono hb11 hb11.size
  have hA11 := hA10.mono hb11 hb11.size
  have hB11 := hB10.mono hb11 hb11.size
  go_wp2_with fail
  refine hK.out _ _ (Hcall.out _ _ hHeld (by assumption)) (fun hHeld1 => ?_)
  clear hK K hHeld
  have hHeld := hHeld1
  clear hHeld1
  try simp only [Act.put, List.setIfInBounds_toArray, List.set_cons_zero, List.set_cons_succ]
  refine wpAnyH_take (i := 6) (oi := { dst := some 52, op := Op.binOp BinOp.eql 28 (Operand.tmp 49) (Operand.tmp 51) 28, type := 4, pos := "law.go:69", after := #[{ on := 3, ground := Ground.data }, { on := 5, ground := Ground.data }, { on := 1, ground := Ground.guard }], guard := some (1, true) }) (v := ?vh5) rfl ?hsh5 ?hfh5 ?hrh5 ?hQh5 ?hyh5 (by assumption) ?resth5
  case hsh5 => kernel_rfl
  case hfh5 => kernel_rfl
  case hrh5 => kernel_rfl
  case hQh5 => exact fun _ _ _ h => h
  case hyh5 => (refine Or.inl ⟨by rfl, ?_⟩; intro w hSw; (try dsimp only at hSw); go_simp; try with_reducible rfl)
  try simp only [Act.put, List.setIfInBounds_toArray, List.set_cons_zero, List.set_cons_succ]
  refine wpAnyH_take (i := 7) (oi := { dst := some 53, op := Op.pick (Operand.tmp 47) (Operand.tmp 52) (Operand.const (Value.bool false)), type := 4, pos := "law.go:69", after := #[{ on := 1, ground := Ground.data }, { on := 6, ground := Ground.data }], guard := none }) (v := ?vh6) rfl ?hsh6 ?hfh6 ?hrh6 ?hQh6 ?hyh6 (by assumption) ?resth6
  case hsh6 => kernel_rfl
  case hfh6 => kernel_rfl
  case hrh6 => kernel_rfl
  case hQh6 => exact fun _ _ _ h => h
  case hyh6 => (refine Or.inl ⟨by rfl, ?_⟩; intro w hSw; (try dsimp only at hSw); go_simp; try with_reducible rfl)
  try simp only [Act.put, List.setIfInBounds_toArray, List.set_cons_zero, List.set_cons_succ]
  refine wpAnyH_take (i := 8) (oi := { dst := some 54, op := Op.move (Operand.tmp 53), type := 4, pos := "law.go:69", after := #[{ on := 7, ground := Ground.data }, { on := 5, ground := Ground.chain }], guard := none }) (v := ?vh7) rfl ?hsh7 ?hfh7 ?hrh7 ?hQh7 ?hyh7 (by assumption) ?resth7
  case hsh7 => kernel_rfl
  case hfh7 => kernel_rfl
  case hrh7 => kernel_rfl
  case hQh7 => exact fun _ _ _ h => h
  case hyh7 => (refine Or.inl ⟨by rfl, ?_⟩; intro w hSw; (try dsimp only at hSw); go_simp; try with_reducible rfl)
  try simp only [Act.put, List.setIfInBounds_toArray, List.set_cons_zero, List.set_cons_succ]
  refine wpAnyH_take (i := 9) (oi := { dst := some 55, op := Op.move (Operand.tmp 6), type := 25, pos := "law.go:69", after := #[{ on := 8, ground := Ground.guard }], guard := some (8, true) }) (v := ?vh8) rfl ?hsh8 ?hfh8 ?hrh8 ?hQh8 ?hyh8 (by assumption) ?resth8
  case hsh8 => kernel_rfl
  case hfh8 => kernel_rfl
  case hrh8 => kernel_rfl
  case hQh8 => exact fun _ _ _ h => h
  case hyh8 => (refine Or.inl ⟨by rfl, ?_⟩; intro w hSw; (try dsimp only at hSw); go_simp; try with_reducible rfl)
  try simp only [Act.put, List.setIfInBounds_toArray, List.set_cons_zero, List.set_cons_succ]
  refine wpAnyH_take (i := 10) (oi := { dst := some 56, op := Op.move (Operand.tmp 8), type := 25, pos := "law.go:69", after := #[{ on := 8, ground := Ground.guard }], guard := some (8, true) }) (v := ?vh9) rfl ?hsh9 ?hfh9 ?hrh9 ?hQh9 ?hyh9 (by assumption) ?resth9
  case hsh9 => kernel_rfl
  case hfh9 => kernel_rfl
  case hrh9 => kernel_rfl
  case hQh9 => exact fun _ _ _ h => h
  case hyh9 => (refine Or.inl ⟨by rfl, ?_⟩; intro w hSw; (try dsimp only at hSw); go_simp; try with_reducible rfl)
  try simp only [Act.put, List.setIfInBounds_toArray, List.set_cons_zero, List.set_cons_succ]
  refine wpAnyH_ready (rs := [11]) (by kernel_rfl) (by simp) ?_
  refine AllReadyH.cons (o := _) (by rfl) (fun K hK => ?_) AllReadyH.nil
  go_simp
  go_at_call 27
  refine (SameInts_b L L true (by simp) _ _ _ hA11 hB11).mono ?_
  rintro e w12 ⟨rfl, hb12⟩
  have hT12 := hT11.mono hb12 hb12.size
  have hP12 := hP11.mono hb12 hb12.size
  go_wp2_with fail
  refine hK.out _ _ (Hcall.out _ _ hHeld (by assumption)) (fun hHeld2 => ?_)
  clear hK K hHeld
  have hHeld := hHeld2
  clear hHeld2
  try simp only [Act.put, List.setIfInBounds_toArray, List.set_cons_zero, List.set_cons_succ]
  refine wpAnyH_take (i := 12) (oi := { dst := some 58, op := Op.pick (Operand.tmp 54) (Operand.tmp 57) (Operand.const (Value.bool false)), type := 4, pos := "law.go:69", after := #[{ on := 8, ground := Ground.data }, { on := 11, ground := Ground.data }], guard := none }) (v := ?vh10) rfl ?hsh10 ?hfh10 ?hrh10 ?hQh10 ?hyh10 (by assumption) ?resth10
  case hsh10 => kernel_rfl
  case hfh10 => kernel_rfl
  case hrh10 => kernel_rfl
  case hQh10 => exact fun _ _ _ h => h
  case hyh10 => (refine Or.inl ⟨by rfl, ?_⟩; intro w hSw; (try dsimp only at hSw); go_simp; try with_reducible rfl)
  try simp only [Act.put, List.setIfInBounds_toArray, List.set_cons_zero, List.set_cons_succ]
  refine wpAnyH_take (i := 13) (oi := { dst := some 59, op := Op.move (Operand.tmp 58), type := 4, pos := "law.go:69", after := #[{ on := 12, ground := Ground.data }, { on := 11, ground := Ground.chain }], guard := none }) (v := ?vh11) rfl ?hsh11 ?hfh11 ?hrh11 ?hQh11 ?hyh11 (by assumption) ?resth11
  case hsh11 => kernel_rfl
  case hfh11 => kernel_rfl
  case hrh11 => kernel_rfl
  case hQh11 => exact fun _ _ _ h => h
  case hyh11 => (refine Or.inl ⟨by rfl, ?_⟩; intro w hSw; (try dsimp only at hSw); go_simp; try with_reducible rfl)
  try simp only [Act.put, List.setIfInBounds_toArray, List.set_cons_zero, List.set_cons_succ]
  refine wpAnyH_take (i := 14) (oi := { dst := some 60, op := Op.move (Operand.tmp 7), type := 28, pos := "law.go:69", after := #[{ on := 13, ground := Ground.guard }], guard := some (13, true) }) (v := ?vh12) rfl ?hsh12 ?hfh12 ?hrh12 ?hQh12 ?hyh12 (by assumption) ?resth12
  case hsh12 => kernel_rfl
  case hfh12 => kernel_rfl
  case hrh12 => kernel_rfl
  case hQh12 => exact fun _ _ _ h => h
  case hyh12 => (refine Or.inl ⟨by rfl, ?_⟩; intro w hSw; (try dsimp only at hSw); go_simp; try with_reducible rfl)
  try simp only [Act.put, List.setIfInBounds_toArray, List.set_cons_zero, List.set_cons_succ]
  refine wpAnyH_take (i := 15) (oi := { dst := some 61, op := Op.move (Operand.tmp 9), type := 28, pos := "law.go:69", after := #[{ on := 13, ground := Ground.guard }], guard := some (13, true) }) (v := ?vh13) rfl ?hsh13 ?hfh13 ?hrh13 ?hQh13 ?hyh13 (by assumption) ?resth13
  case hsh13 => kernel_rfl
  case hfh13 => kernel_rfl
  case hrh13 => kernel_rfl
  case hQh13 => exact fun _ _ _ h => h
  case hyh13 => (refine Or.inl ⟨by rfl, ?_⟩; intro w hSw; (try dsimp only at hSw); go_simp; try with_reducible rfl)
  try simp only [Act.put, List.setIfInBounds_toArray, List.set_cons_zero, List.set_cons_succ]
  refine wpAnyH_take (i := 16) (oi := { dst := some 62, op := Op.binOp BinOp.eql 28 (Operand.tmp 60) (Operand.tmp 61) 28, type := 4, pos := "law.go:69", after := #[{ on := 14, ground := Ground.data }, { on := 15, ground := Ground.data }, { on := 13, ground := Ground.guard }], guard := some (13, true) }) (v := ?vh14) rfl ?hsh14 ?hfh14 ?hrh14 ?hQh14 ?hyh14 (by assumption) ?resth14
  case hsh14 => kernel_rfl
  case hfh14 => kernel_rfl
  case hrh14 => kernel_rfl
  case hQh14 => exact fun _ _ _ h => h
  case hyh14 => (refine Or.inl ⟨by rfl, ?_⟩; intro w hSw; (try dsimp only at hSw); go_simp; try with_reducible rfl)
  try simp only [Act.put, List.setIfInBounds_toArray, List.set_cons_zero, List.set_cons_succ]
  refine wpAnyH_take (i := 17) (oi := { dst := some 63, op := Op.pick (Operand.tmp 59) (Operand.tmp 62) (Operand.const (Value.bool false)), type := 4, pos := "law.go:69", after := #[{ on := 13, ground := Ground.data }, { on := 16, ground := Ground.data }], guard := none }) (v := ?vh15) rfl ?hsh15 ?hfh15 ?hrh15 ?hQh15 ?hyh15 (by assumption) ?resth15
  case hsh15 => kernel_rfl
  case hfh15 => kernel_rfl
  case hrh15 => kernel_rfl
  case hQh15 => exact fun _ _ _ h => h
  case hyh15 => (refine Or.inl ⟨by rfl, ?_⟩; intro w hSw; (try dsimp only at hSw); go_simp; try with_reducible rfl)
  try simp only [Act.put, List.setIfInBounds_toArray, List.set_cons_zero, List.set_cons_succ]
  refine wpAnyH_take (i := 18) (oi := { dst := some 64, op := Op.move (Operand.tmp 63), type := 4, pos := "law.go:69", after := #[{ on := 17, ground := Ground.data }, { on := 13, ground := Ground.chain }], guard := none }) (v := ?vh16) rfl ?hsh16 ?hfh16 ?hrh16 ?hQh16 ?hyh16 (by assumption) ?resth16
  case hsh16 => kernel_rfl
  case hfh16 => kernel_rfl
  case hrh16 => kernel_rfl
  case hQh16 => exact fun _ _ _ h => h
  case hyh16 => (refine Or.inl ⟨by rfl, ?_⟩; intro w hSw; (try dsimp only at hSw); go_simp; try with_reducible rfl)
  try simp only [Act.put, List.setIfInBounds_toArray, List.set_cons_zero, List.set_cons_succ]
  refine wpAnyH_take (i := 19) (oi := { dst := some 65, op := Op.load 24 (Operand.tmp 2), type := 24, pos := "law.go:69", after := #[{ on := 18, ground := Ground.guard }], guard := some (18, true) }) (v := ?vh17) rfl ?hsh17 ?hfh17 ?hrh17 ?hQh17 ?hyh17 (by assumption) ?resth17
  case hsh17 => kernel_rfl
  case hfh17 => kernel_rfl
  case hrh17 => kernel_rfl
  case hQh17 => exact fun _ _ _ h => h
  case hyh17 => (refine Or.inl ⟨by rfl, ?_⟩; intro w hSw; (try dsimp only at hSw); go_simp; try with_reducible rfl)
  try simp only [Act.put, List.setIfInBounds_toArray, List.set_cons_zero, List.set_cons_succ]
  refine wpAnyH_take (i := 20) (oi := { dst := some 66, op := Op.move (Operand.tmp 1), type := 25, pos := "law.go:69", after := #[{ on := 18, ground := Ground.guard }], guard := some (18, true) }) (v := ?vh18) rfl ?hsh18 ?hfh18 ?hrh18 ?hQh18 ?hyh18 (by assumption) ?resth18
  case hsh18 => kernel_rfl
  case hfh18 => kernel_rfl
  case hrh18 => kernel_rfl
  case hQh18 => exact fun _ _ _ h => h
  case hyh18 => (refine Or.inl ⟨by rfl, ?_⟩; intro w hSw; (try dsimp only at hSw); go_simp; try with_reducible rfl)
  try simp only [Act.put, List.setIfInBounds_toArray, List.set_cons_zero, List.set_cons_succ]
  refine wpAnyH_take (i := 22) (oi := { dst := some 68, op := Op.load 24 (Operand.tmp 2), type := 24, pos := "law.go:69", after := #[{ on := 18, ground := Ground.guard }], guard := some (18, true) }) (v := ?vh19) rfl ?hsh19 ?hfh19 ?hrh19 ?hQh19 ?hyh19 (by assumption) ?resth19
  case hsh19 => kernel_rfl
  case hfh19 => kernel_rfl
  case hrh19 => kernel_rfl
  case hQh19 => exact fun _ _ _ h => h
  case hyh19 => (refine Or.inl ⟨by rfl, ?_⟩; intro w hSw; (try dsimp only at hSw); go_simp; try with_reducible rfl)
  try simp only [Act.put, List.setIfInBounds_toArray, List.set_cons_zero, List.set_cons_succ]
  refine wpAnyH_take (i := 23) (oi := { dst := some 69, op := Op.move (Operand.tmp 1), type := 25, pos := "law.go:69", after := #[{ on := 18, ground := Ground.guard }], guard := some (18, true) }) (v := ?vh20) rfl ?hsh20 ?hfh20 ?hrh20 ?hQh20 ?hyh20 (by assumption) ?resth20
  case hsh20 => kernel_rfl
  case hfh20 => kernel_rfl
  case hrh20 => kernel_rfl
  case hQh20 => exact fun _ _ _ h => h
  case hyh20 => (refine Or.inl ⟨by rfl, ?_⟩; intro w hSw; (try dsimp only at hSw); go_simp; try with_reducible rfl)
  try simp only [Act.put, List.setIfInBounds_toArray, List.set_cons_zero, List.set_cons_succ]
  refine wpAnyH_ready (rs := [21]) (by kernel_rfl) (by simp) ?_
  refine AllReadyH.cons (o := _) (by rfl) (fun K hK => ?_) AllReadyH.nil
  go_simp
  go_at_call 28
  refine (Does_c t p _ _ _ hT12 hP12).mono ?_
  rintro e w13 ⟨rfl, hb13⟩
  have hT13 := hT12.mono hb13 hb13.size
  have hP13 := hP12.mono hb13 hb13.size
  go_wp2_with fail
  refine hK.out _ _ (Hcall.out _ _ hHeld (by assumption)) (fun hHeld3 => ?_)
  clear hK K hHeld
  have hHeld := hHeld3
  clear hHeld3
  try simp only [Act.put, List.setIfInBounds_toArray, List.set_cons_zero, List.set_cons_succ]
  refine wpAnyH_ready (rs := [24]) (by kernel_rfl) (by simp) ?_
  refine AllReadyH.cons (o := _) (by rfl) (fun K hK => ?_) AllReadyH.nil
  go_simp
  go_at_call 29
  refine (rDoes_c t p _ _ _ hT13 hP13).mono ?_
  rintro e w14 ⟨rfl, hb14⟩
  go_wp2_with fail
  refine hK.out _ _ (Hcall.out _ _ hHeld (by assumption)) (fun hHeld4 => ?_)
  clear hK K hHeld
  have hHeld := hHeld4
  clear hHeld4
  try simp only [Act.put, List.setIfInBounds_toArray, List.set_cons_zero, List.set_cons_succ]
  refine wpAnyH_take (i := 25) (oi := { dst := some 71, op := Op.binOp BinOp.eql 28 (Operand.tmp 67) (Operand.tmp 70) 28, type := 4, pos := "law.go:69", after := #[{ on := 21, ground := Ground.data }, { on := 24, ground := Ground.data }, { on := 18, ground := Ground.guard }], guard := some (18, true) }) (v := ?vh21) rfl ?hsh21 ?hfh21 ?hrh21 ?hQh21 ?hyh21 (by assumption) ?resth21
  case hsh21 => kernel_rfl
  case hfh21 => kernel_rfl
  case hrh21 => kernel_rfl
  case hQh21 => exact fun _ _ _ h => h
  case hyh21 => (refine Or.inl ⟨by rfl, ?_⟩; intro w hSw; (try dsimp only at hSw); go_simp; try with_reducible rfl)
  try simp only [Act.put, List.setIfInBounds_toArray, List.set_cons_zero, List.set_cons_succ]
  refine wpAnyH_take (i := 26) (oi := { dst := some 72, op := Op.pick (Operand.tmp 64) (Operand.tmp 71) (Operand.const (Value.bool false)), type := 4, pos := "law.go:69", after := #[{ on := 18, ground := Ground.data }, { on := 25, ground := Ground.data }], guard := none }) (v := ?vh22) rfl ?hsh22 ?hfh22 ?hrh22 ?hQh22 ?hyh22 (by assumption) ?resth22
  case hsh22 => kernel_rfl
  case hfh22 => kernel_rfl
  case hrh22 => kernel_rfl
  case hQh22 => exact fun _ _ _ h => h
  case hyh22 => (refine Or.inl ⟨by rfl, ?_⟩; intro w hSw; (try dsimp only at hSw); go_simp; try with_reducible rfl)
  try simp only [Act.put, List.setIfInBounds_toArray, List.set_cons_zero, List.set_cons_succ]
  refine wpAnyH_take (i := 27) (oi := { dst := some 73, op := Op.move (Operand.tmp 72), type := 4, pos := "law.go:69", after := #[{ on := 26, ground := Ground.data }, { on := 24, ground := Ground.chain }], guard := none }) (v := ?vh23) rfl ?hsh23 ?hfh23 ?hrh23 ?hQh23 ?hyh23 (by assumption) ?resth23
  case hsh23 => kernel_rfl
  case hfh23 => kernel_rfl
  case hrh23 => kernel_rfl
  case hQh23 => exact fun _ _ _ h => h
  case hyh23 => (refine Or.inl ⟨by rfl, ?_⟩; intro w hSw; (try dsimp only at hSw); go_simp; try with_reducible rfl)
  try simp only [Act.put, List.setIfInBounds_toArray, List.set_cons_zero, List.set_cons_succ]
  refine wpAnyH_take (i := 28) (oi := { dst := some 74, op := Op.move (Operand.tmp 10), type := 3, pos := "law.go:69", after := #[{ on := 27, ground := Ground.guard }], guard := some (27, true) }) (v := ?vh24) rfl ?hsh24 ?hfh24 ?hrh24 ?hQh24 ?hyh24 (by assumption) ?resth24
  case hsh24 => kernel_rfl
  case hfh24 => kernel_rfl
  case hrh24 => kernel_rfl
  case hQh24 => exact fun _ _ _ h => h
  case hyh24 => (refine Or.inl ⟨by rfl, ?_⟩; intro w hSw; (try dsimp only at hSw); go_simp; try with_reducible rfl)
  try simp only [Act.put, List.setIfInBounds_toArray, List.set_cons_zero, List.set_cons_succ]
  refine wpAnyH_take (i := 29) (oi := { dst := some 75, op := Op.move (Operand.tmp 12), type := 3, pos := "law.go:69", after := #[{ on := 27, ground := Ground.guard }], guard := some (27, true) }) (v := ?vh25) rfl ?hsh25 ?hfh25 ?hrh25 ?hQh25 ?hyh25 (by assumption) ?resth25
  case hsh25 => kernel_rfl
  case hfh25 => kernel_rfl
  case hrh25 => kernel_rfl
  case hQh25 => exact fun _ _ _ h => h
  case hyh25 => (refine Or.inl ⟨by rfl, ?_⟩; intro w hSw; (try dsimp only at hSw); go_simp; try with_reducible rfl)
  try simp only [Act.put, List.setIfInBounds_toArray, List.set_cons_zero, List.set_cons_succ]
  refine wpAnyH_take (i := 30) (oi := { dst := some 76, op := Op.binOp BinOp.eql 3 (Operand.tmp 74) (Operand.tmp 75) 3, type := 4, pos := "law.go:69", after := #[{ on := 28, ground := Ground.data }, { on := 29, ground := Ground.data }, { on := 27, ground := Ground.guard }], guard := some (27, true) }) (v := ?vh26) rfl ?hsh26 ?hfh26 ?hrh26 ?hQh26 ?hyh26 (by assumption) ?resth26
  case hsh26 => kernel_rfl
  case hfh26 => kernel_rfl
  case hrh26 => kernel_rfl
  case hQh26 => exact fun _ _ _ h => h
  case hyh26 => (refine Or.inl ⟨by rfl, ?_⟩; intro w hSw; (try dsimp only at hSw); go_simp; try with_reducible rfl)
  try simp only [Act.put, List.setIfInBounds_toArray, List.set_cons_zero, List.set_cons_succ]
  refine wpAnyH_take (i := 31) (oi := { dst := some 77, op := Op.pick (Operand.tmp 73) (Operand.tmp 76) (Operand.const (Value.bool false)), type := 4, pos := "law.go:69", after := #[{ on := 27, ground := Ground.data }, { on := 30, ground := Ground.data }], guard := none }) (v := ?vh27) rfl ?hsh27 ?hfh27 ?hrh27 ?hQh27 ?hyh27 (by assumption) ?resth27
  case hsh27 => kernel_rfl
  case hfh27 => kernel_rfl
  case hrh27 => kernel_rfl
  case hQh27 => exact fun _ _ _ h => h
  case hyh27 => (refine Or.inl ⟨by rfl, ?_⟩; intro w hSw; (try dsimp only at hSw); go_simp; try with_reducible rfl)
  try simp only [Act.put, List.setIfInBounds_toArray, List.set_cons_zero, List.set_cons_succ]
  refine wpAnyH_take (i := 32) (oi := { dst := some 78, op := Op.move (Operand.tmp 77), type := 4, pos := "law.go:69", after := #[{ on := 31, ground := Ground.data }, { on := 27, ground := Ground.chain }], guard := none }) (v := ?vh28) rfl ?hsh28 ?hfh28 ?hrh28 ?hQh28 ?hyh28 (by assumption) ?resth28
  case hsh28 => kernel_rfl
  case hfh28 => kernel_rfl
  case hrh28 => kernel_rfl
  case hQh28 => exact fun _ _ _ h => h
  case hyh28 => (refine Or.inl ⟨by rfl, ?_⟩; intro w hSw; (try dsimp only at hSw); go_simp; try with_reducible rfl)
  try simp only [Act.put, List.setIfInBounds_toArray, List.set_cons_zero, List.set_cons_succ]
  refine wpAnyH_take (i := 33) (oi := { dst := some 79, op := Op.move (Operand.tmp 11), type := 28, pos := "law.go:69", after := #[{ on := 32, ground := Ground.guard }], guard := some (32, true) }) (v := ?vh29) rfl ?hsh29 ?hfh29 ?hrh29 ?hQh29 ?hyh29 (by assumption) ?resth29
  case hsh29 => kernel_rfl
  case hfh29 => kernel_rfl
  case hrh29 => kernel_rfl
  case hQh29 => exact fun _ _ _ h => h
  case hyh29 => (refine Or.inl ⟨by rfl, ?_⟩; intro w hSw; (try dsimp only at hSw); go_simp; try with_reducible rfl)
  try simp only [Act.put, List.setIfInBounds_toArray, List.set_cons_zero, List.set_cons_succ]
  refine wpAnyH_take (i := 34) (oi := { dst := some 80, op := Op.move (Operand.tmp 13), type := 28, pos := "law.go:69", after := #[{ on := 32, ground := Ground.guard }], guard := some (32, true) }) (v := ?vh30) rfl ?hsh30 ?hfh30 ?hrh30 ?hQh30 ?hyh30 (by assumption) ?resth30
  case hsh30 => kernel_rfl
  case hfh30 => kernel_rfl
  case hrh30 => kernel_rfl
  case hQh30 => exact fun _ _ _ h => h
  case hyh30 => (refine Or.inl ⟨by rfl, ?_⟩; intro w hSw; (try dsimp only at hSw); go_simp; try with_reducible rfl)
  try simp only [Act.put, List.setIfInBounds_toArray, List.set_cons_zero, List.set_cons_succ]
  refine wpAnyH_take (i := 35) (oi := { dst := some 81, op := Op.binOp BinOp.eql 28 (Operand.tmp 79) (Operand.tmp 80) 28, type := 4, pos := "law.go:69", after := #[{ on := 33, ground := Ground.data }, { on := 34, ground := Ground.data }, { on := 32, ground := Ground.guard }], guard := some (32, true) }) (v := ?vh31) rfl ?hsh31 ?hfh31 ?hrh31 ?hQh31 ?hyh31 (by assumption) ?resth31
  case hsh31 => kernel_rfl
  case hfh31 => kernel_rfl
  case hrh31 => kernel_rfl
  case hQh31 => exact fun _ _ _ h => h
  case hyh31 => (refine Or.inl ⟨by rfl, ?_⟩; intro w hSw; (try dsimp only at hSw); go_simp; try with_reducible rfl)
  try simp only [Act.put, List.setIfInBounds_toArray, List.set_cons_zero, List.set_cons_succ]
  refine wpAnyH_take (i := 36) (oi := { dst := some 82, op := Op.pick (Operand.tmp 78) (Operand.tmp 81) (Operand.const (Value.bool false)), type := 4, pos := "law.go:69", after := #[{ on := 32, ground := Ground.data }, { on := 35, ground := Ground.data }], guard := none }) (v := ?vh32) rfl ?hsh32 ?hfh32 ?hrh32 ?hQh32 ?hyh32 (by assumption) ?resth32
  case hsh32 => kernel_rfl
  case hfh32 => kernel_rfl
  case hrh32 => kernel_rfl
  case hQh32 => exact fun _ _ _ h => h
  case hyh32 => (refine Or.inl ⟨by rfl, ?_⟩; intro w hSw; (try dsimp only at hSw); go_simp; try with_reducible rfl)
  try simp only [Act.put, List.setIfInBounds_toArray, List.set_cons_zero, List.set_cons_succ]
  refine wpAnyH_take (i := 37) (oi := { dst := some 4, op := Op.assign (Operand.tmp 82), type := 4, pos := "law.go:69", after := #[{ on := 36, ground := Ground.data }, { on := 32, ground := Ground.chain }, { on := 0, ground := Ground.phase }, { on := 1, ground := Ground.phase }, { on := 2, ground := Ground.phase }, { on := 3, ground := Ground.phase }, { on := 4, ground := Ground.phase }, { on := 5, ground := Ground.phase }, { on := 6, ground := Ground.phase }, { on := 7, ground := Ground.phase }, { on := 8, ground := Ground.phase }, { on := 9, ground := Ground.phase }, { on := 10, ground := Ground.phase }, { on := 11, ground := Ground.phase }, { on := 12, ground := Ground.phase }, { on := 13, ground := Ground.phase }, { on := 14, ground := Ground.phase }, { on := 15, ground := Ground.phase }, { on := 16, ground := Ground.phase }, { on := 17, ground := Ground.phase }, { on := 18, ground := Ground.phase }, { on := 19, ground := Ground.phase }, { on := 20, ground := Ground.phase }, { on := 21, ground := Ground.phase }, { on := 22, ground := Ground.phase }, { on := 23, ground := Ground.phase }, { on := 24, ground := Ground.phase }, { on := 25, ground := Ground.phase }, { on := 26, ground := Ground.phase }, { on := 27, ground := Ground.phase }, { on := 28, ground := Ground.phase }, { on := 29, ground := Ground.phase }, { on := 30, ground := Ground.phase }, { on := 31, ground := Ground.phase }, { on := 32, ground := Ground.phase }, { on := 33, ground := Ground.phase }, { on := 34, ground := Ground.phase }, { on := 35, ground := Ground.phase }, { on := 36, ground := Ground.phase }], guard := none }) (v := ?vh33) rfl ?hsh33 ?hfh33 ?hrh33 ?hQh33 ?hyh33 (by assumption) ?resth33
  case hsh33 => kernel_rfl
  case hfh33 => kernel_rfl
  case hrh33 => kernel_rfl
  case hQh33 => exact fun _ _ _ h => h
  case hyh33 => (refine Or.inl ⟨by rfl, ?_⟩; intro w hSw; (try dsimp only at hSw); go_simp; try with_reducible rfl)
  try simp only [Act.put, List.setIfInBounds_toArray, List.set_cons_zero, List.set_cons_succ]
  refine wpAnyH_done (by kernel_rfl) ?_ _
  refine NoPanic.normal ?_
  obtain ⟨-, -, xb, -⟩ := hHeld
  exact HQ.out _ _ _ _ _ _ _ _ _ _ _ _ _ _ _ _ _ _ _ _ _ _ _ _ _ _ _ _ _ _ _ _ _ _ _ _ _ _ xb

end Go.Proofs.Ytfhbpeafapabhaa

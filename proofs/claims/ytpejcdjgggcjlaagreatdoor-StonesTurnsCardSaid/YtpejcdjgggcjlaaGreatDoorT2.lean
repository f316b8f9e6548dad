/- The specification's turned: a round's region by itself. The specification's Mirror: a round's region by itself. The specification's turned. The specification's Mirror. -/
import Derived.Test.YtpejcdjgggcjlaaGreatDoorN0
import Derived.Test.YtpejcdjgggcjlaaGreatDoorB3
import Derived.Deep.RegionHeld3
import Derived.Test.YtpejcdjgggcjlaaGreatDoorJ9
import Derived.Test.YtpejcdjgggcjlaaGreatDoorA6
import Derived.Test.YtpejcdjgggcjlaaGreatDoorF3
import Derived.Test.YtpejcdjgggcjlaaGreatDoorF1
namespace Go.Proofs.YtpejcdjgggcjlaaGreatDoor
open Go.RowKit

set_option maxRecDepth 100000 in
set_option maxHeartbeats 8000000 in
theorem rt7_c (f : Fc) (n b off cp gk ck base a0 ob cb k idx : Nat) (q m t x : Int) (L : List Int) (wq : World) (Q : Exit → Act → World → Prop) (x0 x3 x4 x8 x9 x10 x11 x12 x13 x14 x15 x16 x17 x18 x19 x20 x21 x22 x23 x24 x25 x26 x27 x28 x29 x30 x31 x32 x33 x34 x35 x36 x37 x38 x39 x40 x41 x42 x43 : Value)
    (bF : Box wq a0 24 #[.int .i64 f.eye, .int .i64 f.rings, .int .i64 f.sectors, .slice (some ⟨b, off, none⟩) n cp])
    (bO : Box wq ob 24 #[.int .i64 f.eye, .int .i64 f.rings, .int .i64 f.sectors, .slice (some ⟨gk, 0, none⟩) n ck])
    (bC : Box wq cb 26 #[.int .i64 q, .int .i64 m])
    (hx : wq.cell? ⟨b, off + idx, none⟩ = some (.int .i64 x)) (hbx : b < wq.heap.size)
    (own : wq.ownsRow base 3 1 (.slice (some ⟨gk, 0, none⟩) n ck) n (ints L)) (hL : L.length = n) (hk : k < n) (hi : idx < n)
    (n1 : gk ≠ a0) (n2 : gk ≠ ob) (n3 : gk ≠ cb) (n4 : gk ≠ b)
    (q0 : 0 ≤ q) (q1 : q ≤ 24) (m0 : 0 ≤ m) (m1 : m < f.sectors) (s0 : 1 ≤ f.sectors) (s1 : f.sectors ≤ 96) (t0 : -96 ≤ t) (t1 : t ≤ 96)
    (hidx : q * f.sectors + rnd (m - t) f.sectors = (idx : Int))
    (hQ : ∀ (y24 y25 y26 y27 y28 y29 y30 y31 y32 y33 y34 y35 y36 y37 y38 y39 y40 y41 y42 : Value) (w11 : World), Below wq.heap.size wq w11 → Q .normal { tmps := #[x0, .int .i64 t, .pointer (some ⟨a0, 0, none⟩), x3, x4, .pointer (some ⟨ob, 0, none⟩), .int .i64 (k : Int), .pointer (some ⟨cb, 0, none⟩), x8, x9, x10, x11, x12, x13, x14, x15, x16, x17, x18, x19, x20, x21, x22, x23, y24, y25, y26, y27, y28, y29, y30, y31, y32, y33, y34, y35, y36, y37, y38, y39, y40, y41, y42, x43], defers := [] } (w11.setCell ⟨gk, k, none⟩ (.int .i64 x))) :
    (Code.region 7 #[{ dst := some 24, op := Op.fieldAddr 24 (Operand.tmp 5) 3, type := 0, pos := "ref.go:275", after := #[], guard := none }, { dst := some 25, op := Op.load 22 (Operand.tmp 24), type := 22, pos := "ref.go:275", after := #[{ on := 0, ground := Ground.data }], guard := none }, { dst := some 26, op := Op.move (Operand.tmp 6), type := 3, pos := "ref.go:275", after := #[], guard := none }, { dst := some 27, op := Op.fieldAddr 24 (Operand.tmp 2) 3, type := 0, pos := "ref.go:275", after := #[], guard := none }, { dst := some 28, op := Op.load 22 (Operand.tmp 27), type := 22, pos := "ref.go:275", after := #[{ on := 3, ground := Ground.data }], guard := none }, { dst := some 29, op := Op.load 24 (Operand.tmp 2), type := 24, pos := "ref.go:275", after := #[], guard := none }, { dst := some 30, op := Op.fieldAddr 26 (Operand.tmp 7) 0, type := 0, pos := "ref.go:275", after := #[], guard := none }, { dst := some 31, op := Op.load 3 (Operand.tmp 30), type := 3, pos := "ref.go:275", after := #[{ on := 6, ground := Ground.data }], guard := none }, { dst := some 32, op := Op.load 24 (Operand.tmp 2), type := 24, pos := "ref.go:275", after := #[], guard := none }, { dst := some 33, op := Op.fieldAddr 26 (Operand.tmp 7) 1, type := 0, pos := "ref.go:275", after := #[], guard := none }, { dst := some 34, op := Op.load 3 (Operand.tmp 33), type := 3, pos := "ref.go:275", after := #[{ on := 9, ground := Ground.data }], guard := none }, { dst := some 35, op := Op.move (Operand.tmp 1), type := 3, pos := "ref.go:275", after := #[], guard := none }, { dst := some 36, op := Op.binOp BinOp.sub 3 (Operand.tmp 34) (Operand.tmp 35) 3, type := 3, pos := "ref.go:275", after := #[{ on := 10, ground := Ground.data }, { on := 11, ground := Ground.data }], guard := none }, { dst := some 37, op := Op.call { callee := Callee.value (Operand.func 80), args := #[Operand.tmp 32, Operand.tmp 36], argTypes := #[24, 3] }, type := 3, pos := "ref.go:275", after := #[{ on := 8, ground := Ground.data }, { on := 12, ground := Ground.data }], guard := none }, { dst := some 38, op := Op.build 26 #[(0, Operand.tmp 31), (1, Operand.tmp 37)], type := 26, pos := "ref.go:275", after := #[{ on := 7, ground := Ground.data }, { on := 13, ground := Ground.data }], guard := none }, { dst := some 39, op := Op.call { callee := Callee.value (Operand.func 50), args := #[Operand.tmp 29, Operand.tmp 38], argTypes := #[24, 26] }, type := 3, pos := "ref.go:275", after := #[{ on := 5, ground := Ground.data }, { on := 14, ground := Ground.data }, { on := 13, ground := Ground.chain }], guard := none }, { dst := some 40, op := Op.indexAddr 22 (Operand.tmp 28) (Operand.tmp 39), type := 0, pos := "ref.go:275", after := #[{ on := 4, ground := Ground.data }, { on := 15, ground := Ground.data }], guard := none }, { dst := some 41, op := Op.load 3 (Operand.tmp 40), type := 3, pos := "ref.go:275", after := #[{ on := 16, ground := Ground.data }], guard := none }, { dst := some 42, op := Op.indexAddr 22 (Operand.tmp 25) (Operand.tmp 26), type := 0, pos := "ref.go:275", after := #[{ on := 1, ground := Ground.data }, { on := 2, ground := Ground.data }, { on := 0, ground := Ground.phase }, { on := 1, ground := Ground.phase }, { on := 2, ground := Ground.phase }, { on := 3, ground := Ground.phase }, { on := 4, ground := Ground.phase }, { on := 5, ground := Ground.phase }, { on := 6, ground := Ground.phase }, { on := 7, ground := Ground.phase }, { on := 8, ground := Ground.phase }, { on := 9, ground := Ground.phase }, { on := 10, ground := Ground.phase }, { on := 11, ground := Ground.phase }, { on := 12, ground := Ground.phase }, { on := 13, ground := Ground.phase }, { on := 14, ground := Ground.phase }, { on := 15, ground := Ground.phase }, { on := 16, ground := Ground.phase }, { on := 17, ground := Ground.phase }], guard := none }, { dst := none, op := Op.store 3 (Operand.tmp 42) (Operand.tmp 41), type := 0, pos := "ref.go:275", after := #[{ on := 18, ground := Ground.data }, { on := 17, ground := Ground.data }, { on := 15, ground := Ground.chain }, { on := 0, ground := Ground.phase }, { on := 1, ground := Ground.phase }, { on := 2, ground := Ground.phase }, { on := 3, ground := Ground.phase }, { on := 4, ground := Ground.phase }, { on := 5, ground := Ground.phase }, { on := 6, ground := Ground.phase }, { on := 7, ground := Ground.phase }, { on := 8, ground := Ground.phase }, { on := 9, ground := Ground.phase }, { on := 10, ground := Ground.phase }, { on := 11, ground := Ground.phase }, { on := 12, ground := Ground.phase }, { on := 13, ground := Ground.phase }, { on := 14, ground := Ground.phase }, { on := 15, ground := Ground.phase }, { on := 16, ground := Ground.phase }, { on := 17, ground := Ground.phase }], guard := none }] true).wp Tryz.prog Q { tmps := #[x0, .int .i64 t, .pointer (some ⟨a0, 0, none⟩), x3, x4, .pointer (some ⟨ob, 0, none⟩), .int .i64 (k : Int), .pointer (some ⟨cb, 0, none⟩), x8, x9, x10, x11, x12, x13, x14, x15, x16, x17, x18, x19, x20, x21, x22, x23, x24, x25, x26, x27, x28, x29, x30, x31, x32, x33, x34, x35, x36, x37, x38, x39, x40, x41, x42, x43], defers := [] } wq := by
  have HQ := Lib.hid hQ
  have Hidx := Lib.hid hidx
  clear hQ hidx
  have hdr : Below wq.heap.size wq wq.drew := (Below.refl _ _).drew
  have lF := bF.lt
  have lO := bO.lt
  have lC := bC.lt
  have lG := (own.lt gk rfl).2
  have hcall : ∀ X Y : World, (fun W => W.cell? ⟨a0, 0, none⟩ = some (.int .i64 f.eye) ∧ W.cell? ⟨a0, 1, none⟩ = some (.int .i64 f.rings) ∧ W.cell? ⟨a0, 2, none⟩ = some (.int .i64 f.sectors) ∧ W.cell? ⟨a0, 3, none⟩ = some (.slice (some ⟨b, off, none⟩) n cp) ∧ W.cell? ⟨ob, 3, none⟩ = some (.slice (some ⟨gk, 0, none⟩) n ck) ∧ W.cell? ⟨cb, 0, none⟩ = some (.int .i64 q) ∧ W.cell? ⟨cb, 1, none⟩ = some (.int .i64 m) ∧ W.cell? ⟨b, off + idx, none⟩ = some (.int .i64 x) ∧ wq.heap.size ≤ W.heap.size) X → Below X.heap.size X Y → (fun W => W.cell? ⟨a0, 0, none⟩ = some (.int .i64 f.eye) ∧ W.cell? ⟨a0, 1, none⟩ = some (.int .i64 f.rings) ∧ W.cell? ⟨a0, 2, none⟩ = some (.int .i64 f.sectors) ∧ W.cell? ⟨a0, 3, none⟩ = some (.slice (some ⟨b, off, none⟩) n cp) ∧ W.cell? ⟨ob, 3, none⟩ = some (.slice (some ⟨gk, 0, none⟩) n ck) ∧ W.cell? ⟨cb, 0, none⟩ = some (.int .i64 q) ∧ W.cell? ⟨cb, 1, none⟩ = some (.int .i64 m) ∧ W.cell? ⟨b, off + idx, none⟩ = some (.int .i64 x) ∧ wq.heap.size ≤ W.heap.size) Y := by
    rintro X Y ⟨z0, z1, z2, z3, z4, z5, z6, z7, xs⟩ hb
    exact ⟨keepd z0 hb (by omega), keepd z1 hb (by omega), keepd z2 hb (by omega), keepd z3 hb (by omega), keepd z4 hb (by omega), keepd z5 hb (by omega), keepd z6 hb (by omega), keepd z7 hb (by omega), Nat.le_trans xs hb.size⟩
  have hput : ∀ (X : World) (u : Value), (fun W => W.cell? ⟨a0, 0, none⟩ = some (.int .i64 f.eye) ∧ W.cell? ⟨a0, 1, none⟩ = some (.int .i64 f.rings) ∧ W.cell? ⟨a0, 2, none⟩ = some (.int .i64 f.sectors) ∧ W.cell? ⟨a0, 3, none⟩ = some (.slice (some ⟨b, off, none⟩) n cp) ∧ W.cell? ⟨ob, 3, none⟩ = some (.slice (some ⟨gk, 0, none⟩) n ck) ∧ W.cell? ⟨cb, 0, none⟩ = some (.int .i64 q) ∧ W.cell? ⟨cb, 1, none⟩ = some (.int .i64 m) ∧ W.cell? ⟨b, off + idx, none⟩ = some (.int .i64 x) ∧ wq.heap.size ≤ W.heap.size) X → (fun W => W.cell? ⟨a0, 0, none⟩ = some (.int .i64 f.eye) ∧ W.cell? ⟨a0, 1, none⟩ = some (.int .i64 f.rings) ∧ W.cell? ⟨a0, 2, none⟩ = some (.int .i64 f.sectors) ∧ W.cell? ⟨a0, 3, none⟩ = some (.slice (some ⟨b, off, none⟩) n cp) ∧ W.cell? ⟨ob, 3, none⟩ = some (.slice (some ⟨gk, 0, none⟩) n ck) ∧ W.cell? ⟨cb, 0, none⟩ = some (.int .i64 q) ∧ W.cell? ⟨cb, 1, none⟩ = some (.int .i64 m) ∧ W.cell? ⟨b, off + idx, none⟩ = some (.int .i64 x) ∧ wq.heap.size ≤ W.heap.size) (X.setCell ⟨gk, k, none⟩ u) := by
    rintro X u ⟨z0, z1, z2, z3, z4, z5, z6, z7, xs⟩
    exact ⟨(World.cell?_setCell_other _ _ _ _ (fun e => by have := congrArg Addr.block e; dsimp only at this; omega)).trans z0, (World.cell?_setCell_other _ _ _ _ (fun e => by have := congrArg Addr.block e; dsimp only at this; omega)).trans z1, (World.cell?_setCell_other _ _ _ _ (fun e => by have := congrArg Addr.block e; dsimp only at this; omega)).trans z2, (World.cell?_setCell_other _ _ _ _ (fun e => by have := congrArg Addr.block e; dsimp only at this; omega)).trans z3, (World.cell?_setCell_other _ _ _ _ (fun e => by have := congrArg Addr.block e; dsimp only at this; omega)).trans z4, (World.cell?_setCell_other _ _ _ _ (fun e => by have := congrArg Addr.block e; dsimp only at this; omega)).trans z5, (World.cell?_setCell_other _ _ _ _ (fun e => by have := congrArg Addr.block e; dsimp only at this; omega)).trans z6, (World.cell?_setCell_other _ _ _ _ (fun e => by have := congrArg Addr.block e; dsimp only at this; omega)).trans z7, by rw [World.size_setCell]; exact xs⟩
  have hini : (fun W => W.cell? ⟨a0, 0, none⟩ = some (.int .i64 f.eye) ∧ W.cell? ⟨a0, 1, none⟩ = some (.int .i64 f.rings) ∧ W.cell? ⟨a0, 2, none⟩ = some (.int .i64 f.sectors) ∧ W.cell? ⟨a0, 3, none⟩ = some (.slice (some ⟨b, off, none⟩) n cp) ∧ W.cell? ⟨ob, 3, none⟩ = some (.slice (some ⟨gk, 0, none⟩) n ck) ∧ W.cell? ⟨cb, 0, none⟩ = some (.int .i64 q) ∧ W.cell? ⟨cb, 1, none⟩ = some (.int .i64 m) ∧ W.cell? ⟨b, off + idx, none⟩ = some (.int .i64 x) ∧ wq.heap.size ≤ W.heap.size) wq.drew := ⟨bF.cell 0, bF.cell 1, bF.cell 2, bF.cell 3, bO.cell 3, bC.cell 0, bC.cell 1, hx, Nat.le_refl _⟩
  have Hcall := Lib.hid hcall
  have Hput := Lib.hid hput
  have Hini := Lib.hid hini
  have hl0 : own.1 = own.1 := rfl
  have Hown := fun (_ : Unit) => own
  clear hl0
  have Hset : ∀ Y : World, Below wq.heap.size wq Y → Y.cell? ⟨gk, k, none⟩ = some (.int .i64 (nth L k)) ∧ Y.frozen? ⟨gk, k, none⟩ = false := by
    intro Y hb
    have o := own_later (Hown ()) hb
    refine ⟨?_, o.frozenAt k⟩
    rw [o.cellAt k (by omega)]
    unfold ints nth
    rw [List.getElem?_map, List.getD_eq_getElem?_getD, List.getElem?_eq_getElem (by omega)]
    rfl
  have HSet := Lib.hid Hset
  have hsub : IntKind.i64.wrap (m - t) = m - t := wrap_id (by omega) (by omega)
  have i0 : (0 : Int) ≤ (k : Int) := Int.natCast_nonneg _
  have i1 : (k : Int) < (n : Int) := by omega
  have i2 : (0 : Int) ≤ (idx : Int) := Int.natCast_nonneg _
  have i3 : (idx : Int) < (n : Int) := by omega
  have i4 : ((k : Int)).toNat = k := rfl
  have i5 : ((idx : Int)).toNat = idx := rfl
  clear bF bO bC hx own Hown hcall hput hini Hset lG n1 n2 n3 n4 hL
  refine wp_region_noPanic ?_
  refine wp_region_held_drew (S := (fun W => W.cell? ⟨a0, 0, none⟩ = some (.int .i64 f.eye) ∧ W.cell? ⟨a0, 1, none⟩ = some (.int .i64 f.rings) ∧ W.cell? ⟨a0, 2, none⟩ = some (.int .i64 f.sectors) ∧ W.cell? ⟨a0, 3, none⟩ = some (.slice (some ⟨b, off, none⟩) n cp) ∧ W.cell? ⟨ob, 3, none⟩ = some (.slice (some ⟨gk, 0, none⟩) n ck) ∧ W.cell? ⟨cb, 0, none⟩ = some (.int .i64 q) ∧ W.cell? ⟨cb, 1, none⟩ = some (.int .i64 m) ∧ W.cell? ⟨b, off + idx, none⟩ = some (.int .i64 x) ∧ wq.heap.size ≤ W.heap.size)) (by kernel_rfl) Hini.out (fun hHeld => ?_)
  refine wpAnyH_take (i := 0) (oi := { dst := some 24, op := Op.fieldAddr 24 (Operand.tmp 5) 3, type := 0, pos := "ref.go:275", after := #[], guard := none }) (v := ?vh1) rfl ?hsh1 ?hfh1 ?hrh1 ?hQh1 ?hyh1 (by assumption) ?resth1
  case hsh1 => kernel_rfl
  case hfh1 => kernel_rfl
  case hrh1 => kernel_rfl
  case hQh1 => exact fun _ _ _ h => h
  case hyh1 => (refine Or.inl ⟨by rfl, ?_⟩; intro w hSw; (try dsimp only at hSw); go_simp; try with_reducible rfl)
  try simp only [Act.put, List.setIfInBounds_toArray, List.set_cons_zero, List.set_cons_succ]
  refine wpAnyH_take (i := 1) (oi := { dst := some 25, op := Op.load 22 (Operand.tmp 24), type := 22, pos := "ref.go:275", after := #[{ on := 0, ground := Ground.data }], guard := none }) (v := ?vh2) rfl ?hsh2 ?hfh2 ?hrh2 ?hQh2 ?hyh2 (by assumption) ?resth2
  case hsh2 => kernel_rfl
  case hfh2 => kernel_rfl
  case hrh2 => kernel_rfl
  case hQh2 => exact fun _ _ _ h => h
  case hyh2 => (refine Or.inl ⟨by rfl, ?_⟩; intro w hSw; (try dsimp only at hSw); go_simp; try with_reducible rfl)
  try simp only [Act.put, List.setIfInBounds_toArray, List.set_cons_zero, List.set_cons_succ]
  refine wpAnyH_take (i := 2) (oi := { dst := some 26, op := Op.move (Operand.tmp 6), type := 3, pos := "ref.go:275", after := #[], guard := none }) (v := ?vh3) rfl ?hsh3 ?hfh3 ?hrh3 ?hQh3 ?hyh3 (by assumption) ?resth3
  case hsh3 => kernel_rfl
  case hfh3 => kernel_rfl
  case hrh3 => kernel_rfl
  case hQh3 => exact fun _ _ _ h => h
  case hyh3 => (refine Or.inl ⟨by rfl, ?_⟩; intro w hSw; (try dsimp only at hSw); go_simp; try with_reducible rfl)
  try simp only [Act.put, List.setIfInBounds_toArray, List.set_cons_zero, List.set_cons_succ]
  refine wpAnyH_take (i := 3) (oi := { dst := some 27, op := Op.fieldAddr 24 (Operand.tmp 2) 3, type := 0, pos := "ref.go:275", after := #[], guard := none }) (v := ?vh4) rfl ?hsh4 ?hfh4 ?hrh4 ?hQh4 ?hyh4 (by assumption) ?resth4
  case hsh4 => kernel_rfl
  case hfh4 => kernel_rfl
  case hrh4 => kernel_rfl
  case hQh4 => exact fun _ _ _ h => h
  case hyh4 => (refine Or.inl ⟨by rfl, ?_⟩; intro w hSw; (try dsimp only at hSw); go_simp; try with_reducible rfl)
  try simp only [Act.put, List.setIfInBounds_toArray, List.set_cons_zero, List.set_cons_succ]
  refine wpAnyH_take (i := 4) (oi := { dst := some 28, op := Op.load 22 (Operand.tmp 27), type := 22, pos := "ref.go:275", after := #[{ on := 3, ground := Ground.data }], guard := none }) (v := ?vh5) rfl ?hsh5 ?hfh5 ?hrh5 ?hQh5 ?hyh5 (by assumption) ?resth5
  case hsh5 => kernel_rfl
  case hfh5 => kernel_rfl
  case hrh5 => kernel_rfl
  case hQh5 => exact fun _ _ _ h => h
  case hyh5 => (refine Or.inl ⟨by rfl, ?_⟩; intro w hSw; (try dsimp only at hSw); go_simp; try with_reducible rfl)
  try simp only [Act.put, List.setIfInBounds_toArray, List.set_cons_zero, List.set_cons_succ]
  refine wpAnyH_take (i := 5) (oi := { dst := some 29, op := Op.load 24 (Operand.tmp 2), type := 24, pos := "ref.go:275", after := #[], guard := none }) (v := ?vh6) rfl ?hsh6 ?hfh6 ?hrh6 ?hQh6 ?hyh6 (by assumption) ?resth6
  case hsh6 => kernel_rfl
  case hfh6 => kernel_rfl
  case hrh6 => kernel_rfl
  case hQh6 => exact fun _ _ _ h => h
  case hyh6 => (refine Or.inl ⟨by rfl, ?_⟩; intro w hSw; (try dsimp only at hSw); go_simp; try with_reducible rfl)
  try simp only [Act.put, List.setIfInBounds_toArray, List.set_cons_zero, List.set_cons_succ]
  refine wpAnyH_take (i := 6) (oi := { dst := some 30, op := Op.fieldAddr 26 (Operand.tmp 7) 0, type := 0, pos := "ref.go:275", after := #[], guard := none }) (v := ?vh7) rfl ?hsh7 ?hfh7 ?hrh7 ?hQh7 ?hyh7 (by assumption) ?resth7
  case hsh7 => kernel_rfl
  case hfh7 => kernel_rfl
  case hrh7 => kernel_rfl
  case hQh7 => exact fun _ _ _ h => h
  case hyh7 => (refine Or.inl ⟨by rfl, ?_⟩; intro w hSw; (try dsimp only at hSw); go_simp; try with_reducible rfl)
  try simp only [Act.put, List.setIfInBounds_toArray, List.set_cons_zero, List.set_cons_succ]
  refine wpAnyH_take (i := 7) (oi := { dst := some 31, op := Op.load 3 (Operand.tmp 30), type := 3, pos := "ref.go:275", after := #[{ on := 6, ground := Ground.data }], guard := none }) (v := ?vh8) rfl ?hsh8 ?hfh8 ?hrh8 ?hQh8 ?hyh8 (by assumption) ?resth8
  case hsh8 => kernel_rfl
  case hfh8 => kernel_rfl
  case hrh8 => kernel_rfl
  case hQh8 => exact fun _ _ _ h => h
  case hyh8 => (refine Or.inl ⟨by rfl, ?_⟩; intro w hSw; (try dsimp only at hSw); go_simp; try with_reducible rfl)
  try simp only [Act.put, List.setIfInBounds_toArray, List.set_cons_zero, List.set_cons_succ]
  refine wpAnyH_take (i := 8) (oi := { dst := some 32, op := Op.load 24 (Operand.tmp 2), type := 24, pos := "ref.go:275", after := #[], guard := none }) (v := ?vh9) rfl ?hsh9 ?hfh9 ?hrh9 ?hQh9 ?hyh9 (by assumption) ?resth9
  case hsh9 => kernel_rfl
  case hfh9 => kernel_rfl
  case hrh9 => kernel_rfl
  case hQh9 => exact fun _ _ _ h => h
  case hyh9 => (refine Or.inl ⟨by rfl, ?_⟩; intro w hSw; (try dsimp only at hSw); go_simp; try with_reducible rfl)
  try simp only [Act.put, List.setIfInBounds_toArray, List.set_cons_zero, List.set_cons_succ]
  refine wpAnyH_take (i := 9) (oi := { dst := some 33, op := Op.fieldAddr 26 (Operand.tmp 7) 1, type := 0, pos := "ref.go:275", after := #[], guard := none }) (v := ?vh10) rfl ?hsh10 ?hfh10 ?hrh10 ?hQh10 ?hyh10 (by assumption) ?resth10
  case hsh10 => kernel_rfl
  case hfh10 => kernel_rfl
  case hrh10 => kernel_rfl
  case hQh10 => exact fun _ _ _ h => h
  case hyh10 => (refine Or.inl ⟨by rfl, ?_⟩; intro w hSw; (try dsimp only at hSw); go_simp; try with_reducible rfl)
  try simp only [Act.put, List.setIfInBounds_toArray, List.set_cons_zero, List.set_cons_succ]
  refine wpAnyH_take (i := 10) (oi := { dst := some 34, op := Op.load 3 (Operand.tmp 33), type := 3, pos := "ref.go:275", after := #[{ on := 9, ground := Ground.data }], guard := none }) (v := ?vh11) rfl ?hsh11 ?hfh11 ?hrh11 ?hQh11 ?hyh11 (by assumption) ?resth11
  case hsh11 => kernel_rfl
  case hfh11 => kernel_rfl
  case hrh11 => kernel_rfl
  case hQh11 => exact fun _ _ _ h => h
  case hyh11 => (refine Or.inl ⟨by rfl, ?_⟩; intro w hSw; (try dsimp only at hSw); go_simp; try with_reducible rfl)
  try simp only [Act.put, List.setIfInBounds_toArray, List.set_cons_zero, List.set_cons_succ]
  refine wpAnyH_take (i := 11) (oi := { dst := some 35, op := Op.move (Operand.tmp 1), type := 3, pos := "ref.go:275", after := #[], guard := none }) (v := ?vh12) rfl ?hsh12 ?hfh12 ?hrh12 ?hQh12 ?hyh12 (by assumption) ?resth12
  case hsh12 => kernel_rfl
  case hfh12 => kernel_rfl
  case hrh12 => kernel_rfl
  case hQh12 => exact fun _ _ _ h => h
  case hyh12 => (refine Or.inl ⟨by rfl, ?_⟩; intro w hSw; (try dsimp only at hSw); go_simp; try with_reducible rfl)
  try simp only [Act.put, List.setIfInBounds_toArray, List.set_cons_zero, List.set_cons_succ]
  refine wpAnyH_take (i := 12) (oi := { dst := some 36, op := Op.binOp BinOp.sub 3 (Operand.tmp 34) (Operand.tmp 35) 3, type := 3, pos := "ref.go:275", after := #[{ on := 10, ground := Ground.data }, { on := 11, ground := Ground.data }], guard := none }) (v := ?vh13) rfl ?hsh13 ?hfh13 ?hrh13 ?hQh13 ?hyh13 (by assumption) ?resth13
  case hsh13 => kernel_rfl
  case hfh13 => kernel_rfl
  case hrh13 => kernel_rfl
  case hQh13 => exact fun _ _ _ h => h
  case hyh13 => (refine Or.inl ⟨by rfl, ?_⟩; intro w hSw; (try dsimp only at hSw); go_simp; try with_reducible rfl)
  try simp only [Act.put, List.setIfInBounds_toArray, List.set_cons_zero, List.set_cons_succ]
  refine wpAnyH_ready (rs := [13]) (by kernel_rfl) (by simp) ?_
  refine AllReadyH.cons (o := _) (by rfl) (fun K hK => ?_) AllReadyH.nil
  go_simp
  go_at_call 80
  refine (rround_c f (.slice (some ⟨b, off, none⟩) n cp) (m - t) wq.drew s0 s1).mono ?_
  rintro e w10 ⟨rfl, hb10⟩
  have hb10w := Below.trans hdr hb10
  go_wp2_with fail
  refine hK.out _ _ (Hcall.out _ _ hHeld (by assumption)) (fun hHeld0 => ?_)
  clear hK K hHeld
  have hHeld := hHeld0
  clear hHeld0
  try simp only [Act.put, List.setIfInBounds_toArray, List.set_cons_zero, List.set_cons_succ]
  refine wpAnyH_take (i := 14) (oi := { dst := some 38, op := Op.build 26 #[(0, Operand.tmp 31), (1, Operand.tmp 37)], type := 26, pos := "ref.go:275", after := #[{ on := 7, ground := Ground.data }, { on := 13, ground := Ground.data }], guard := none }) (v := ?vh14) rfl ?hsh14 ?hfh14 ?hrh14 ?hQh14 ?hyh14 (by assumption) ?resth14
  case hsh14 => kernel_rfl
  case hfh14 => kernel_rfl
  case hrh14 => kernel_rfl
  case hQh14 => exact fun _ _ _ h => h
  case hyh14 => (refine Or.inl ⟨by rfl, ?_⟩; intro w hSw; (try dsimp only at hSw); go_simp; try with_reducible rfl)
  try simp only [Act.put, List.setIfInBounds_toArray, List.set_cons_zero, List.set_cons_succ]
  refine wpAnyH_ready (rs := [15]) (by kernel_rfl) (by simp) ?_
  refine AllReadyH.cons (o := _) (by rfl) (fun K hK => ?_) AllReadyH.nil
  go_simp
  go_at_call 50
  refine (rnumber_c f (.slice (some ⟨b, off, none⟩) n cp) q (rnd (m - t) f.sectors) w10 (by omega) (by omega) (by have := (rnd_bd (a := m - t) (s := f.sectors) s0).1; omega) (by have := (rnd_bd (a := m - t) (s := f.sectors) s0).2; omega) (by omega) (by omega)).mono ?_
  rw [Hidx.out]
  rintro e w11 ⟨rfl, hb11⟩
  have hbw := chain hb10w hb11
  go_wp2_with fail
  refine hK.out _ _ (Hcall.out _ _ hHeld (by assumption)) (fun hHeld1 => ?_)
  clear hK K hHeld
  have hHeld := hHeld1
  clear hHeld1
  try simp only [Act.put, List.setIfInBounds_toArray, List.set_cons_zero, List.set_cons_succ]
  refine wpAnyH_take (i := 16) (oi := { dst := some 40, op := Op.indexAddr 22 (Operand.tmp 28) (Operand.tmp 39), type := 0, pos := "ref.go:275", after := #[{ on := 4, ground := Ground.data }, { on := 15, ground := Ground.data }], guard := none }) (v := ?vh15) rfl ?hsh15 ?hfh15 ?hrh15 ?hQh15 ?hyh15 (by assumption) ?resth15
  case hsh15 => kernel_rfl
  case hfh15 => kernel_rfl
  case hrh15 => kernel_rfl
  case hQh15 => exact fun _ _ _ h => h
  case hyh15 => (refine Or.inl ⟨by rfl, ?_⟩; intro w hSw; (try dsimp only at hSw); go_simp; try with_reducible rfl)
  try simp only [Act.put, List.setIfInBounds_toArray, List.set_cons_zero, List.set_cons_succ]
  refine wpAnyH_take (i := 17) (oi := { dst := some 41, op := Op.load 3 (Operand.tmp 40), type := 3, pos := "ref.go:275", after := #[{ on := 16, ground := Ground.data }], guard := none }) (v := ?vh16) rfl ?hsh16 ?hfh16 ?hrh16 ?hQh16 ?hyh16 (by assumption) ?resth16
  case hsh16 => kernel_rfl
  case hfh16 => kernel_rfl
  case hrh16 => kernel_rfl
  case hQh16 => exact fun _ _ _ h => h
  case hyh16 => (refine Or.inl ⟨by rfl, ?_⟩; intro w hSw; (try dsimp only at hSw); go_simp; try with_reducible rfl)
  try simp only [Act.put, List.setIfInBounds_toArray, List.set_cons_zero, List.set_cons_succ]
  refine wpAnyH_take (i := 18) (oi := { dst := some 42, op := Op.indexAddr 22 (Operand.tmp 25) (Operand.tmp 26), type := 0, pos := "ref.go:275", after := #[{ on := 1, ground := Ground.data }, { on := 2, ground := Ground.data }, { on := 0, ground := Ground.phase }, { on := 1, ground := Ground.phase }, { on := 2, ground := Ground.phase }, { on := 3, ground := Ground.phase }, { on := 4, ground := Ground.phase }, { on := 5, ground := Ground.phase }, { on := 6, ground := Ground.phase }, { on := 7, ground := Ground.phase }, { on := 8, ground := Ground.phase }, { on := 9, ground := Ground.phase }, { on := 10, ground := Ground.phase }, { on := 11, ground := Ground.phase }, { on := 12, ground := Ground.phase }, { on := 13, ground := Ground.phase }, { on := 14, ground := Ground.phase }, { on := 15, ground := Ground.phase }, { on := 16, ground := Ground.phase }, { on := 17, ground := Ground.phase }], guard := none }) (v := ?vh17) rfl ?hsh17 ?hfh17 ?hrh17 ?hQh17 ?hyh17 (by assumption) ?resth17
  case hsh17 => kernel_rfl
  case hfh17 => kernel_rfl
  case hrh17 => kernel_rfl
  case hQh17 => exact fun _ _ _ h => h
  case hyh17 => (refine Or.inl ⟨by rfl, ?_⟩; intro w hSw; (try dsimp only at hSw); go_simp; try with_reducible rfl)
  try simp only [Act.put, List.setIfInBounds_toArray, List.set_cons_zero, List.set_cons_succ]
  refine wpAnyH_ready (rs := [19]) (by kernel_rfl) (by simp) ?_
  refine AllReadyH.cons (o := _) (by rfl) (fun K hK => ?_) AllReadyH.nil
  go_simp
  obtain ⟨kx, fx⟩ := HSet.out _ hbw
  go_simp
  refine hK.out _ _ (Hput.out _ _ hHeld) (fun hHeld2 => ?_)
  clear hK K hHeld
  have hHeld := hHeld2
  clear hHeld2
  try simp only [Act.put, List.setIfInBounds_toArray, List.set_cons_zero, List.set_cons_succ]
  refine wpAnyH_done (by kernel_rfl) ?_ _
  refine NoPanic.normal ?_
  exact HQ.out _ _ _ _ _ _ _ _ _ _ _ _ _ _ _ _ _ _ _ _ (by assumption)

end Go.Proofs.YtpejcdjgggcjlaaGreatDoor

namespace Go.Proofs.YtpejcdjgggcjlaaGreatDoor
open Go.RowKit

set_option maxRecDepth 100000 in
set_option maxHeartbeats 8000000 in
theorem rm8_c (f : Fc) (n b off cp gk ck base a0 ob cb k idx : Nat) (q m x : Int) (L : List Int) (wq : World) (Q : Exit → Act → World → Prop) (x0 x2 x3 x7 x8 x9 x10 x11 x12 x13 x14 x15 x16 x17 x18 x19 x20 x21 x22 x23 x24 x25 x26 x27 x28 x29 x30 x31 x32 x33 x34 x35 x36 x37 x38 x39 x40 x41 x42 : Value)
    (bF : Box wq a0 24 #[.int .i64 f.eye, .int .i64 f.rings, .int .i64 f.sectors, .slice (some ⟨b, off, none⟩) n cp])
    (bO : Box wq ob 24 #[.int .i64 f.eye, .int .i64 f.rings, .int .i64 f.sectors, .slice (some ⟨gk, 0, none⟩) n ck])
    (bC : Box wq cb 26 #[.int .i64 q, .int .i64 m])
    (hx : wq.cell? ⟨b, off + idx, none⟩ = some (.int .i64 x)) (hbx : b < wq.heap.size)
    (own : wq.ownsRow base 3 1 (.slice (some ⟨gk, 0, none⟩) n ck) n (ints L)) (hL : L.length = n) (hk : k < n) (hi : idx < n)
    (n1 : gk ≠ a0) (n2 : gk ≠ ob) (n3 : gk ≠ cb) (n4 : gk ≠ b)
    (q0 : 0 ≤ q) (q1 : q ≤ 24) (m0 : 0 ≤ m) (m1 : m < f.sectors) (s0 : 1 ≤ f.sectors) (s1 : f.sectors ≤ 96)
    (hidx : q * f.sectors + (f.sectors - 1 - m) = (idx : Int))
    (hQ : ∀ (y23 y24 y25 y26 y27 y28 y29 y30 y31 y32 y33 y34 y35 y36 y37 y38 y39 y40 y41 : Value) (w11 : World), Below wq.heap.size wq w11 → Q .normal { tmps := #[x0, .pointer (some ⟨a0, 0, none⟩), x2, x3, .pointer (some ⟨ob, 0, none⟩), .int .i64 (k : Int), .pointer (some ⟨cb, 0, none⟩), x7, x8, x9, x10, x11, x12, x13, x14, x15, x16, x17, x18, x19, x20, x21, x22, y23, y24, y25, y26, y27, y28, y29, y30, y31, y32, y33, y34, y35, y36, y37, y38, y39, y40, y41, x42], defers := [] } (w11.setCell ⟨gk, k, none⟩ (.int .i64 x))) :
    (Code.region 8 #[{ dst := some 23, op := Op.fieldAddr 24 (Operand.tmp 4) 3, type := 0, pos := "ref.go:296", after := #[], guard := none }, { dst := some 24, op := Op.load 22 (Operand.tmp 23), type := 22, pos := "ref.go:296", after := #[{ on := 0, ground := Ground.data }], guard := none }, { dst := some 25, op := Op.move (Operand.tmp 5), type := 3, pos := "ref.go:296", after := #[], guard := none }, { dst := some 26, op := Op.fieldAddr 24 (Operand.tmp 1) 3, type := 0, pos := "ref.go:296", after := #[], guard := none }, { dst := some 27, op := Op.load 22 (Operand.tmp 26), type := 22, pos := "ref.go:296", after := #[{ on := 3, ground := Ground.data }], guard := none }, { dst := some 28, op := Op.load 24 (Operand.tmp 1), type := 24, pos := "ref.go:296", after := #[], guard := none }, { dst := some 29, op := Op.fieldAddr 26 (Operand.tmp 6) 0, type := 0, pos := "ref.go:296", after := #[], guard := none }, { dst := some 30, op := Op.load 3 (Operand.tmp 29), type := 3, pos := "ref.go:296", after := #[{ on := 6, ground := Ground.data }], guard := none }, { dst := some 31, op := Op.fieldAddr 24 (Operand.tmp 1) 2, type := 0, pos := "ref.go:296", after := #[], guard := none }, { dst := some 32, op := Op.load 3 (Operand.tmp 31), type := 3, pos := "ref.go:296", after := #[{ on := 8, ground := Ground.data }], guard := none }, { dst := some 33, op := Op.binOp BinOp.sub 3 (Operand.tmp 32) (Operand.const (Value.int IntKind.i64 1)) 3, type := 3, pos := "ref.go:296", after := #[{ on := 9, ground := Ground.data }], guard := none }, { dst := some 34, op := Op.fieldAddr 26 (Operand.tmp 6) 1, type := 0, pos := "ref.go:296", after := #[], guard := none }, { dst := some 35, op := Op.load 3 (Operand.tmp 34), type := 3, pos := "ref.go:296", after := #[{ on := 11, ground := Ground.data }], guard := none }, { dst := some 36, op := Op.binOp BinOp.sub 3 (Operand.tmp 33) (Operand.tmp 35) 3, type := 3, pos := "ref.go:296", after := #[{ on := 10, ground := Ground.data }, { on := 12, ground := Ground.data }], guard := none }, { dst := some 37, op := Op.build 26 #[(0, Operand.tmp 30), (1, Operand.tmp 36)], type := 26, pos := "ref.go:296", after := #[{ on := 7, ground := Ground.data }, { on := 13, ground := Ground.data }], guard := none }, { dst := some 38, op := Op.call { callee := Callee.value (Operand.func 50), args := #[Operand.tmp 28, Operand.tmp 37], argTypes := #[24, 26] }, type := 3, pos := "ref.go:296", after := #[{ on := 5, ground := Ground.data }, { on := 14, ground := Ground.data }], guard := none }, { dst := some 39, op := Op.indexAddr 22 (Operand.tmp 27) (Operand.tmp 38), type := 0, pos := "ref.go:296", after := #[{ on := 4, ground := Ground.data }, { on := 15, ground := Ground.data }], guard := none }, { dst := some 40, op := Op.load 3 (Operand.tmp 39), type := 3, pos := "ref.go:296", after := #[{ on := 16, ground := Ground.data }], guard := none }, { dst := some 41, op := Op.indexAddr 22 (Operand.tmp 24) (Operand.tmp 25), type := 0, pos := "ref.go:296", after := #[{ on := 1, ground := Ground.data }, { on := 2, ground := Ground.data }, { on := 0, ground := Ground.phase }, { on := 1, ground := Ground.phase }, { on := 2, ground := Ground.phase }, { on := 3, ground := Ground.phase }, { on := 4, ground := Ground.phase }, { on := 5, ground := Ground.phase }, { on := 6, ground := Ground.phase }, { on := 7, ground := Ground.phase }, { on := 8, ground := Ground.phase }, { on := 9, ground := Ground.phase }, { on := 10, ground := Ground.phase }, { on := 11, ground := Ground.phase }, { on := 12, ground := Ground.phase }, { on := 13, ground := Ground.phase }, { on := 14, ground := Ground.phase }, { on := 15, ground := Ground.phase }, { on := 16, ground := Ground.phase }, { on := 17, ground := Ground.phase }], guard := none }, { dst := none, op := Op.store 3 (Operand.tmp 41) (Operand.tmp 40), type := 0, pos := "ref.go:296", after := #[{ on := 18, ground := Ground.data }, { on := 17, ground := Ground.data }, { on := 15, ground := Ground.chain }, { on := 0, ground := Ground.phase }, { on := 1, ground := Ground.phase }, { on := 2, ground := Ground.phase }, { on := 3, ground := Ground.phase }, { on := 4, ground := Ground.phase }, { on := 5, ground := Ground.phase }, { on := 6, ground := Ground.phase }, { on := 7, ground := Ground.phase }, { on := 8, ground := Ground.phase }, { on := 9, ground := Ground.phase }, { on := 10, ground := Ground.phase }, { on := 11, ground := Ground.phase }, { on := 12, ground := Ground.phase }, { on := 13, ground := Ground.phase }, { on := 14, ground := Ground.phase }, { on := 15, ground := Ground.phase }, { on := 16, ground := Ground.phase }, { on := 17, ground := Ground.phase }], guard := none }] true).wp Tryz.prog Q { tmps := #[x0, .pointer (some ⟨a0, 0, none⟩), x2, x3, .pointer (some ⟨ob, 0, none⟩), .int .i64 (k : Int), .pointer (some ⟨cb, 0, none⟩), x7, x8, x9, x10, x11, x12, x13, x14, x15, x16, x17, x18, x19, x20, x21, x22, x23, x24, x25, x26, x27, x28, x29, x30, x31, x32, x33, x34, x35, x36, x37, x38, x39, x40, x41, x42], defers := [] } wq := by
  have HQ := Lib.hid hQ
  have Hidx := Lib.hid hidx
  clear hQ hidx
  have hdr : Below wq.heap.size wq wq.drew := (Below.refl _ _).drew
  have lF := bF.lt
  have lO := bO.lt
  have lC := bC.lt
  have lG := (own.lt gk rfl).2
  have hcall : ∀ X Y : World, (fun W => W.cell? ⟨a0, 0, none⟩ = some (.int .i64 f.eye) ∧ W.cell? ⟨a0, 1, none⟩ = some (.int .i64 f.rings) ∧ W.cell? ⟨a0, 2, none⟩ = some (.int .i64 f.sectors) ∧ W.cell? ⟨a0, 3, none⟩ = some (.slice (some ⟨b, off, none⟩) n cp) ∧ W.cell? ⟨ob, 3, none⟩ = some (.slice (some ⟨gk, 0, none⟩) n ck) ∧ W.cell? ⟨cb, 0, none⟩ = some (.int .i64 q) ∧ W.cell? ⟨cb, 1, none⟩ = some (.int .i64 m) ∧ W.cell? ⟨b, off + idx, none⟩ = some (.int .i64 x) ∧ wq.heap.size ≤ W.heap.size) X → Below X.heap.size X Y → (fun W => W.cell? ⟨a0, 0, none⟩ = some (.int .i64 f.eye) ∧ W.cell? ⟨a0, 1, none⟩ = some (.int .i64 f.rings) ∧ W.cell? ⟨a0, 2, none⟩ = some (.int .i64 f.sectors) ∧ W.cell? ⟨a0, 3, none⟩ = some (.slice (some ⟨b, off, none⟩) n cp) ∧ W.cell? ⟨ob, 3, none⟩ = some (.slice (some ⟨gk, 0, none⟩) n ck) ∧ W.cell? ⟨cb, 0, none⟩ = some (.int .i64 q) ∧ W.cell? ⟨cb, 1, none⟩ = some (.int .i64 m) ∧ W.cell? ⟨b, off + idx, none⟩ = some (.int .i64 x) ∧ wq.heap.size ≤ W.heap.size) Y := by
    rintro X Y ⟨z0, z1, z2, z3, z4, z5, z6, z7, xs⟩ hb
    exact ⟨keepd z0 hb (by omega), keepd z1 hb (by omega), keepd z2 hb (by omega), keepd z3 hb (by omega), keepd z4 hb (by omega), keepd z5 hb (by omega), keepd z6 hb (by omega), keepd z7 hb (by omega), Nat.le_trans xs hb.size⟩
  have hput : ∀ (X : World) (u : Value), (fun W => W.cell? ⟨a0, 0, none⟩ = some (.int .i64 f.eye) ∧ W.cell? ⟨a0, 1, none⟩ = some (.int .i64 f.rings) ∧ W.cell? ⟨a0, 2, none⟩ = some (.int .i64 f.sectors) ∧ W.cell? ⟨a0, 3, none⟩ = some (.slice (some ⟨b, off, none⟩) n cp) ∧ W.cell? ⟨ob, 3, none⟩ = some (.slice (some ⟨gk, 0, none⟩) n ck) ∧ W.cell? ⟨cb, 0, none⟩ = some (.int .i64 q) ∧ W.cell? ⟨cb, 1, none⟩ = some (.int .i64 m) ∧ W.cell? ⟨b, off + idx, none⟩ = some (.int .i64 x) ∧ wq.heap.size ≤ W.heap.size) X → (fun W => W.cell? ⟨a0, 0, none⟩ = some (.int .i64 f.eye) ∧ W.cell? ⟨a0, 1, none⟩ = some (.int .i64 f.rings) ∧ W.cell? ⟨a0, 2, none⟩ = some (.int .i64 f.sectors) ∧ W.cell? ⟨a0, 3, none⟩ = some (.slice (some ⟨b, off, none⟩) n cp) ∧ W.cell? ⟨ob, 3, none⟩ = some (.slice (some ⟨gk, 0, none⟩) n ck) ∧ W.cell? ⟨cb, 0, none⟩ = some (.int .i64 q) ∧ W.cell? ⟨cb, 1, none⟩ = some (.int .i64 m) ∧ W.cell? ⟨b, off + idx, none⟩ = some (.int .i64 x) ∧ wq.heap.size ≤ W.heap.size) (X.setCell ⟨gk, k, none⟩ u) := by
    rintro X u ⟨z0, z1, z2, z3, z4, z5, z6, z7, xs⟩
    exact ⟨(World.cell?_setCell_other _ _ _ _ (fun e => by have := congrArg Addr.block e; dsimp only at this; omega)).trans z0, (World.cell?_setCell_other _ _ _ _ (fun e => by have := congrArg Addr.block e; dsimp only at this; omega)).trans z1, (World.cell?_setCell_other _ _ _ _ (fun e => by have := congrArg Addr.block e; dsimp only at this; omega)).trans z2, (World.cell?_setCell_other _ _ _ _ (fun e => by have := congrArg Addr.block e; dsimp only at this; omega)).trans z3, (World.cell?_setCell_other _ _ _ _ (fun e => by have := congrArg Addr.block e; dsimp only at this; omega)).trans z4, (World.cell?_setCell_other _ _ _ _ (fun e => by have := congrArg Addr.block e; dsimp only at this; omega)).trans z5, (World.cell?_setCell_other _ _ _ _ (fun e => by have := congrArg Addr.block e; dsimp only at this; omega)).trans z6, (World.cell?_setCell_other _ _ _ _ (fun e => by have := congrArg Addr.block e; dsimp only at this; omega)).trans z7, by rw [World.size_setCell]; exact xs⟩
  have hini : (fun W => W.cell? ⟨a0, 0, none⟩ = some (.int .i64 f.eye) ∧ W.cell? ⟨a0, 1, none⟩ = some (.int .i64 f.rings) ∧ W.cell? ⟨a0, 2, none⟩ = some (.int .i64 f.sectors) ∧ W.cell? ⟨a0, 3, none⟩ = some (.slice (some ⟨b, off, none⟩) n cp) ∧ W.cell? ⟨ob, 3, none⟩ = some (.slice (some ⟨gk, 0, none⟩) n ck) ∧ W.cell? ⟨cb, 0, none⟩ = some (.int .i64 q) ∧ W.cell? ⟨cb, 1, none⟩ = some (.int .i64 m) ∧ W.cell? ⟨b, off + idx, none⟩ = some (.int .i64 x) ∧ wq.heap.size ≤ W.heap.size) wq.drew := ⟨bF.cell 0, bF.cell 1, bF.cell 2, bF.cell 3, bO.cell 3, bC.cell 0, bC.cell 1, hx, Nat.le_refl _⟩
  have Hcall := Lib.hid hcall
  have Hput := Lib.hid hput
  have Hini := Lib.hid hini
  have hl0 : own.1 = own.1 := rfl
  have Hown := fun (_ : Unit) => own
  clear hl0
  have Hset : ∀ Y : World, Below wq.heap.size wq Y → Y.cell? ⟨gk, k, none⟩ = some (.int .i64 (nth L k)) ∧ Y.frozen? ⟨gk, k, none⟩ = false := by
    intro Y hb
    have o := own_later (Hown ()) hb
    refine ⟨?_, o.frozenAt k⟩
    rw [o.cellAt k (by omega)]
    unfold ints nth
    rw [List.getElem?_map, List.getD_eq_getElem?_getD, List.getElem?_eq_getElem (by omega)]
    rfl
  have HSet := Lib.hid Hset
  have hsub : IntKind.i64.wrap (f.sectors - 1) = f.sectors - 1 := wrap_id (by omega) (by omega)
  have hsub2 : IntKind.i64.wrap (f.sectors - 1 - m) = f.sectors - 1 - m := wrap_id (by omega) (by omega)
  have i0 : (0 : Int) ≤ (k : Int) := Int.natCast_nonneg _
  have i1 : (k : Int) < (n : Int) := by omega
  have i2 : (0 : Int) ≤ (idx : Int) := Int.natCast_nonneg _
  have i3 : (idx : Int) < (n : Int) := by omega
  have i4 : ((k : Int)).toNat = k := rfl
  have i5 : ((idx : Int)).toNat = idx := rfl
  clear bF bO bC hx own Hown hcall hput hini Hset lG n1 n2 n3 n4 hL
  refine wp_region_noPanic ?_
  refine wp_region_held_drew (S := (fun W => W.cell? ⟨a0, 0, none⟩ = some (.int .i64 f.eye) ∧ W.cell? ⟨a0, 1, none⟩ = some (.int .i64 f.rings) ∧ W.cell? ⟨a0, 2, none⟩ = some (.int .i64 f.sectors) ∧ W.cell? ⟨a0, 3, none⟩ = some (.slice (some ⟨b, off, none⟩) n cp) ∧ W.cell? ⟨ob, 3, none⟩ = some (.slice (some ⟨gk, 0, none⟩) n ck) ∧ W.cell? ⟨cb, 0, none⟩ = some (.int .i64 q) ∧ W.cell? ⟨cb, 1, none⟩ = some (.int .i64 m) ∧ W.cell? ⟨b, off + idx, none⟩ = some (.int .i64 x) ∧ wq.heap.size ≤ W.heap.size)) (by kernel_rfl) Hini.out (fun hHeld => ?_)
  refine wpAnyH_take (i := 0) (oi := { dst := some 23, op := Op.fieldAddr 24 (Operand.tmp 4) 3, type := 0, pos := "ref.go:296", after := #[], guard := none }) (v := ?vh1) rfl ?hsh1 ?hfh1 ?hrh1 ?hQh1 ?hyh1 (by assumption) ?resth1
  case hsh1 => kernel_rfl
  case hfh1 => kernel_rfl
  case hrh1 => kernel_rfl
  case hQh1 => exact fun _ _ _ h => h
  case hyh1 => (refine Or.inl ⟨by rfl, ?_⟩; intro w hSw; (try dsimp only at hSw); go_simp; try with_reducible rfl)
  try simp only [Act.put, List.setIfInBounds_toArray, List.set_cons_zero, List.set_cons_succ]
  refine wpAnyH_take (i := 1) (oi := { dst := some 24, op := Op.load 22 (Operand.tmp 23), type := 22, pos := "ref.go:296", after := #[{ on := 0, ground := Ground.data }], guard := none }) (v := ?vh2) rfl ?hsh2 ?hfh2 ?hrh2 ?hQh2 ?hyh2 (by assumption) ?resth2
  case hsh2 => kernel_rfl
  case hfh2 => kernel_rfl
  case hrh2 => kernel_rfl
  case hQh2 => exact fun _ _ _ h => h
  case hyh2 => (refine Or.inl ⟨by rfl, ?_⟩; intro w hSw; (try dsimp only at hSw); go_simp; try with_reducible rfl)
  try simp only [Act.put, List.setIfInBounds_toArray, List.set_cons_zero, List.set_cons_succ]
  refine wpAnyH_take (i := 2) (oi := { dst := some 25, op := Op.move (Operand.tmp 5), type := 3, pos := "ref.go:296", after := #[], guard := none }) (v := ?vh3) rfl ?hsh3 ?hfh3 ?hrh3 ?hQh3 ?hyh3 (by assumption) ?resth3
  case hsh3 => kernel_rfl
  case hfh3 => kernel_rfl
  case hrh3 => kernel_rfl
  case hQh3 => exact fun _ _ _ h => h
  case hyh3 => (refine Or.inl ⟨by rfl, ?_⟩; intro w hSw; (try dsimp only at hSw); go_simp; try with_reducible rfl)
  try simp only [Act.put, List.setIfInBounds_toArray, List.set_cons_zero, List.set_cons_succ]
  refine wpAnyH_take (i := 3) (oi := { dst := some 26, op := Op.fieldAddr 24 (Operand.tmp 1) 3, type := 0, pos := "ref.go:296", after := #[], guard := none }) (v := ?vh4) rfl ?hsh4 ?hfh4 ?hrh4 ?hQh4 ?hyh4 (by assumption) ?resth4
  case hsh4 => kernel_rfl
  case hfh4 => kernel_rfl
  case hrh4 => kernel_rfl
  case hQh4 => exact fun _ _ _ h => h
  case hyh4 => (refine Or.inl ⟨by rfl, ?_⟩; intro w hSw; (try dsimp only at hSw); go_simp; try with_reducible rfl)
  try simp only [Act.put, List.setIfInBounds_toArray, List.set_cons_zero, List.set_cons_succ]
  refine wpAnyH_take (i := 4) (oi := { dst := some 27, op := Op.load 22 (Operand.tmp 26), type := 22, pos := "ref.go:296", after := #[{ on := 3, ground := Ground.data }], guard := none }) (v := ?vh5) rfl ?hsh5 ?hfh5 ?hrh5 ?hQh5 ?hyh5 (by assumption) ?resth5
  case hsh5 => kernel_rfl
  case hfh5 => kernel_rfl
  case hrh5 => kernel_rfl
  case hQh5 => exact fun _ _ _ h => h
  case hyh5 => (refine Or.inl ⟨by rfl, ?_⟩; intro w hSw; (try dsimp only at hSw); go_simp; try with_reducible rfl)
  try simp only [Act.put, List.setIfInBounds_toArray, List.set_cons_zero, List.set_cons_succ]
  refine wpAnyH_take (i := 5) (oi := { dst := some 28, op := Op.load 24 (Operand.tmp 1), type := 24, pos := "ref.go:296", after := #[], guard := none }) (v := ?vh6) rfl ?hsh6 ?hfh6 ?hrh6 ?hQh6 ?hyh6 (by assumption) ?resth6
  case hsh6 => kernel_rfl
  case hfh6 => kernel_rfl
  case hrh6 => kernel_rfl
  case hQh6 => exact fun _ _ _ h => h
  case hyh6 => (refine Or.inl ⟨by rfl, ?_⟩; intro w hSw; (try dsimp only at hSw); go_simp; try with_reducible rfl)
  try simp only [Act.put, List.setIfInBounds_toArray, List.set_cons_zero, List.set_cons_succ]
  refine wpAnyH_take (i := 6) (oi := { dst := some 29, op := Op.fieldAddr 26 (Operand.tmp 6) 0, type := 0, pos := "ref.go:296", after := #[], guard := none }) (v := ?vh7) rfl ?hsh7 ?hfh7 ?hrh7 ?hQh7 ?hyh7 (by assumption) ?resth7
  case hsh7 => kernel_rfl
  case hfh7 => kernel_rfl
  case hrh7 => kernel_rfl
  case hQh7 => exact fun _ _ _ h => h
  case hyh7 => (refine Or.inl ⟨by rfl, ?_⟩; intro w hSw; (try dsimp only at hSw); go_simp; try with_reducible rfl)
  try simp only [Act.put, List.setIfInBounds_toArray, List.set_cons_zero, List.set_cons_succ]
  refine wpAnyH_take (i := 7) (oi := { dst := some 30, op := Op.load 3 (Operand.tmp 29), type := 3, pos := "ref.go:296", after := #[{ on := 6, ground := Ground.data }], guard := none }) (v := ?vh8) rfl ?hsh8 ?hfh8 ?hrh8 ?hQh8 ?hyh8 (by assumption) ?resth8
  case hsh8 => kernel_rfl
  case hfh8 => kernel_rfl
  case hrh8 => kernel_rfl
  case hQh8 => exact fun _ _ _ h => h
  case hyh8 => (refine Or.inl ⟨by rfl, ?_⟩; intro w hSw; (try dsimp only at hSw); go_simp; try with_reducible rfl)
  try simp only [Act.put, List.setIfInBounds_toArray, List.set_cons_zero, List.set_cons_succ]
  refine wpAnyH_take (i := 8) (oi := { dst := some 31, op := Op.fieldAddr 24 (Operand.tmp 1) 2, type := 0, pos := "ref.go:296", after := #[], guard := none }) (v := ?vh9) rfl ?hsh9 ?hfh9 ?hrh9 ?hQh9 ?hyh9 (by assumption) ?resth9
  case hsh9 => kernel_rfl
  case hfh9 => kernel_rfl
  case hrh9 => kernel_rfl
  case hQh9 => exact fun _ _ _ h => h
  case hyh9 => (refine Or.inl ⟨by rfl, ?_⟩; intro w hSw; (try dsimp only at hSw); go_simp; try with_reducible rfl)
  try simp only [Act.put, List.setIfInBounds_toArray, List.set_cons_zero, List.set_cons_succ]
  refine wpAnyH_take (i := 9) (oi := { dst := some 32, op := Op.load 3 (Operand.tmp 31), type := 3, pos := "ref.go:296", after := #[{ on := 8, ground := Ground.data }], guard := none }) (v := ?vh10) rfl ?hsh10 ?hfh10 ?hrh10 ?hQh10 ?hyh10 (by assumption) ?resth10
  case hsh10 => kernel_rfl
  case hfh10 => kernel_rfl
  case hrh10 => kernel_rfl
  case hQh10 => exact fun _ _ _ h => h
  case hyh10 => (refine Or.inl ⟨by rfl, ?_⟩; intro w hSw; (try dsimp only at hSw); go_simp; try with_reducible rfl)
  try simp only [Act.put, List.setIfInBounds_toArray, List.set_cons_zero, List.set_cons_succ]
  refine wpAnyH_take (i := 10) (oi := { dst := some 33, op := Op.binOp BinOp.sub 3 (Operand.tmp 32) (Operand.const (Value.int IntKind.i64 1)) 3, type := 3, pos := "ref.go:296", after := #[{ on := 9, ground := Ground.data }], guard := none }) (v := ?vh11) rfl ?hsh11 ?hfh11 ?hrh11 ?hQh11 ?hyh11 (by assumption) ?resth11
  case hsh11 => kernel_rfl
  case hfh11 => kernel_rfl
  case hrh11 => kernel_rfl
  case hQh11 => exact fun _ _ _ h => h
  case hyh11 => (refine Or.inl ⟨by rfl, ?_⟩; intro w hSw; (try dsimp only at hSw); go_simp; try with_reducible rfl)
  try simp only [Act.put, List.setIfInBounds_toArray, List.set_cons_zero, List.set_cons_succ]
  refine wpAnyH_take (i := 11) (oi := { dst := some 34, op := Op.fieldAddr 26 (Operand.tmp 6) 1, type := 0, pos := "ref.go:296", after := #[], guard := none }) (v := ?vh12) rfl ?hsh12 ?hfh12 ?hrh12 ?hQh12 ?hyh12 (by assumption) ?resth12
  case hsh12 => kernel_rfl
  case hfh12 => kernel_rfl
  case hrh12 => kernel_rfl
  case hQh12 => exact fun _ _ _ h => h
  case hyh12 => (refine Or.inl ⟨by rfl, ?_⟩; intro w hSw; (try dsimp only at hSw); go_simp; try with_reducible rfl)
  try simp only [Act.put, List.setIfInBounds_toArray, List.set_cons_zero, List.set_cons_succ]
  refine wpAnyH_take (i := 12) (oi := { dst := some 35, op := Op.load 3 (Operand.tmp 34), type := 3, pos := "ref.go:296", after := #[{ on := 11, ground := Ground.data }], guard := none }) (v := ?vh13) rfl ?hsh13 ?hfh13 ?hrh13 ?hQh13 ?hyh13 (by assumption) ?resth13
  case hsh13 => kernel_rfl
  case hfh13 => kernel_rfl
  case hrh13 => kernel_rfl
  case hQh13 => exact fun _ _ _ h => h
  case hyh13 => (refine Or.inl ⟨by rfl, ?_⟩; intro w hSw; (try dsimp only at hSw); go_simp; try with_reducible rfl)
  try simp only [Act.put, List.setIfInBounds_toArray, List.set_cons_zero, List.set_cons_succ]
  refine wpAnyH_take (i := 13) (oi := { dst := some 36, op := Op.binOp BinOp.sub 3 (Operand.tmp 33) (Operand.tmp 35) 3, type := 3, pos := "ref.go:296", after := #[{ on := 10, ground := Ground.data }, { on := 12, ground := Ground.data }], guard := none }) (v := ?vh14) rfl ?hsh14 ?hfh14 ?hrh14 ?hQh14 ?hyh14 (by assumption) ?resth14
  case hsh14 => kernel_rfl
  case hfh14 => kernel_rfl
  case hrh14 => kernel_rfl
  case hQh14 => exact fun _ _ _ h => h
  case hyh14 => (refine Or.inl ⟨by rfl, ?_⟩; intro w hSw; (try dsimp only at hSw); go_simp; try with_reducible rfl)
  try simp only [Act.put, List.setIfInBounds_toArray, List.set_cons_zero, List.set_cons_succ]
  refine wpAnyH_take (i := 14) (oi := { dst := some 37, op := Op.build 26 #[(0, Operand.tmp 30), (1, Operand.tmp 36)], type := 26, pos := "ref.go:296", after := #[{ on := 7, ground := Ground.data }, { on := 13, ground := Ground.data }], guard := none }) (v := ?vh15) rfl ?hsh15 ?hfh15 ?hrh15 ?hQh15 ?hyh15 (by assumption) ?resth15
  case hsh15 => kernel_rfl
  case hfh15 => kernel_rfl
  case hrh15 => kernel_rfl
  case hQh15 => exact fun _ _ _ h => h
  case hyh15 => (refine Or.inl ⟨by rfl, ?_⟩; intro w hSw; (try dsimp only at hSw); go_simp; try with_reducible rfl)
  try simp only [Act.put, List.setIfInBounds_toArray, List.set_cons_zero, List.set_cons_succ]
  refine wpAnyH_ready (rs := [15]) (by kernel_rfl) (by simp) ?_
  refine AllReadyH.cons (o := _) (by rfl) (fun K hK => ?_) AllReadyH.nil
  go_simp
  go_at_call 50
  refine (rnumber_c f (.slice (some ⟨b, off, none⟩) n cp) q (f.sectors - 1 - m) wq.drew (by omega) (by omega) (by omega) (by omega) (by omega) (by omega)).mono ?_
  rw [Hidx.out]
  rintro e w11 ⟨rfl, hb11⟩
  have hbw := Below.trans hdr hb11
  go_wp2_with fail
  refine hK.out _ _ (Hcall.out _ _ hHeld (by assumption)) (fun hHeld0 => ?_)
  clear hK K hHeld
  have hHeld := hHeld0
  clear hHeld0
  try simp only [Act.put, List.setIfInBounds_toArray, List.set_cons_zero, List.set_cons_succ]
  refine wpAnyH_take (i := 16) (oi := { dst := some 39, op := Op.indexAddr 22 (Operand.tmp 27) (Operand.tmp 38), type := 0, pos := "ref.go:296", after := #[{ on := 4, ground := Ground.data }, { on := 15, ground := Ground.data }], guard := none }) (v := ?vh16) rfl ?hsh16 ?hfh16 ?hrh16 ?hQh16 ?hyh16 (by assumption) ?resth16
  case hsh16 => kernel_rfl
  case hfh16 => kernel_rfl
  case hrh16 => kernel_rfl
  case hQh16 => exact fun _ _ _ h => h
  case hyh16 => (refine Or.inl ⟨by rfl, ?_⟩; intro w hSw; (try dsimp only at hSw); go_simp; try with_reducible rfl)
  try simp only [Act.put, List.setIfInBounds_toArray, List.set_cons_zero, List.set_cons_succ]
  refine wpAnyH_take (i := 17) (oi := { dst := some 40, op := Op.load 3 (Operand.tmp 39), type := 3, pos := "ref.go:296", after := #[{ on := 16, ground := Ground.data }], guard := none }) (v := ?vh17) rfl ?hsh17 ?hfh17 ?hrh17 ?hQh17 ?hyh17 (by assumption) ?resth17
  case hsh17 => kernel_rfl
  case hfh17 => kernel_rfl
  case hrh17 => kernel_rfl
  case hQh17 => exact fun _ _ _ h => h
  case hyh17 => (refine Or.inl ⟨by rfl, ?_⟩; intro w hSw; (try dsimp only at hSw); go_simp; try with_reducible rfl)
  try simp only [Act.put, List.setIfInBounds_toArray, List.set_cons_zero, List.set_cons_succ]
  refine wpAnyH_take (i := 18) (oi := { dst := some 41, op := Op.indexAddr 22 (Operand.tmp 24) (Operand.tmp 25), type := 0, pos := "ref.go:296", after := #[{ on := 1, ground := Ground.data }, { on := 2, ground := Ground.data }, { on := 0, ground := Ground.phase }, { on := 1, ground := Ground.phase }, { on := 2, ground := Ground.phase }, { on := 3, ground := Ground.phase }, { on := 4, ground := Ground.phase }, { on := 5, ground := Ground.phase }, { on := 6, ground := Ground.phase }, { on := 7, ground := Ground.phase }, { on := 8, ground := Ground.phase }, { on := 9, ground := Ground.phase }, { on := 10, ground := Ground.phase }, { on := 11, ground := Ground.phase }, { on := 12, ground := Ground.phase }, { on := 13, ground := Ground.phase }, { on := 14, ground := Ground.phase }, { on := 15, ground := Ground.phase }, { on := 16, ground := Ground.phase }, { on := 17, ground := Ground.phase }], guard := none }) (v := ?vh18) rfl ?hsh18 ?hfh18 ?hrh18 ?hQh18 ?hyh18 (by assumption) ?resth18
  case hsh18 => kernel_rfl
  case hfh18 => kernel_rfl
  case hrh18 => kernel_rfl
  case hQh18 => exact fun _ _ _ h => h
  case hyh18 => (refine Or.inl ⟨by rfl, ?_⟩; intro w hSw; (try dsimp only at hSw); go_simp; try with_reducible rfl)
  try simp only [Act.put, List.setIfInBounds_toArray, List.set_cons_zero, List.set_cons_succ]
  refine wpAnyH_ready (rs := [19]) (by kernel_rfl) (by simp) ?_
  refine AllReadyH.cons (o := _) (by rfl) (fun K hK => ?_) AllReadyH.nil
  go_simp
  obtain ⟨kx, fx⟩ := HSet.out _ hbw
  go_simp
  refine hK.out _ _ (Hput.out _ _ hHeld) (fun hHeld1 => ?_)
  clear hK K hHeld
  have hHeld := hHeld1
  clear hHeld1
  try simp only [Act.put, List.setIfInBounds_toArray, List.set_cons_zero, List.set_cons_succ]
  refine wpAnyH_done (by kernel_rfl) ?_ _
  refine NoPanic.normal ?_
  exact HQ.out _ _ _ _ _ _ _ _ _ _ _ _ _ _ _ _ _ _ _ _ (by assumption)

end Go.Proofs.YtpejcdjgggcjlaaGreatDoor

namespace Go.Proofs.YtpejcdjgggcjlaaGreatDoor
open Go.RowKit

theorem rnd_tsub {x a s : Int} : rnd (x - a.tmod s) s = rnd (x - rnd a s) s := by
  unfold rnd
  rw [Int.tmod_def, Int.emod_def a s]
  rw [show x - (a - s * a.tdiv s) = (x - a) + s * a.tdiv s by omega, show x - (a - s * (a / s)) = (x - a) + s * (a / s) by omega, Int.add_mul_emod_self_left, Int.add_mul_emod_self_left]

/-- the kinds while a face is redrawn in place -/
def midL (f : Fc) (fr : Int → Int) (k : Nat) : List Int := redL f f.sectors.toNat fr k ++ f.kinds.drop k
theorem midL_zero (f : Fc) (fr : Int → Int) : midL f fr 0 = f.kinds := by simp [midL, redL]
theorem midL_len (f : Fc) (fr : Int → Int) {k : Nat} (h : k ≤ f.kinds.length) : (midL f fr k).length = f.kinds.length := by
  unfold midL
  rw [List.length_append, redL_len, List.length_drop]
  omega
theorem midL_end (f : Fc) (fr : Int → Int) : midL f fr f.kinds.length = redL f f.sectors.toNat fr f.kinds.length := by
  unfold midL
  rw [List.drop_length, List.append_nil]
theorem midL_step {f : Fc} {fr : Int → Int} {k : Nat} (h : k < f.kinds.length) : (midL f fr k).set k (kat f (k / f.sectors.toNat : Nat) (fr (k % f.sectors.toNat : Nat))) = midL f fr (k + 1) := by
  unfold midL
  rw [List.set_append_right _ _ (by rw [redL_len]; exact Nat.le_refl _), redL_len, Nat.sub_self, List.drop_eq_getElem_cons h, redL_snoc, List.set_cons_zero, List.append_assoc]
  rfl

theorem cell_nat {f : Fc} {S k : Nat} (hS : f.sectors = S) : (k : Int) / f.sectors = ((k / f.sectors.toNat : Nat) : Int) ∧ (k : Int) % f.sectors = ((k % f.sectors.toNat : Nat) : Int) := by
  have h : f.sectors.toNat = S := by omega
  rw [h, hS]
  exact ⟨(Int.natCast_ediv k S).symm, (Int.natCast_emod k S).symm⟩
theorem drop_step {f : Fc} {fr : Int → Int} {S k idx : Nat} {q m c : Int} (hS : f.sectors = S) (hq : q = (k : Int) / f.sectors) (hm : m = (k : Int) % f.sectors) (hk : k < f.kinds.length) (hc : fr m = c) (hi : q * f.sectors + c = (idx : Int)) :
    (midL f fr k).set k (nth f.kinds idx) = midL f fr (k + 1) := by
  obtain ⟨h1, h2⟩ := cell_nat (k := k) hS
  rw [← midL_step (fr := fr) hk, ← h1, ← h2, ← hq, ← hm, hc]
  unfold kat
  rw [hi]
  rfl

/-- what memory looks like while a face is redrawn in place -/
structure RdI (w wr : World) (f : Fc) (s : Value) (ob gk ck : Nat) (L : List Int) : Prop where
  b0 : Box wr w.heap.size 24 #[.int .i64 f.eye, .int .i64 f.rings, .int .i64 f.sectors, s]
  br : Box wr (w.heap.size + 1) 24 #[.int .i64 0, .int .i64 0, .int .i64 0, .slice none 0 0]
  bo : Box wr ob 24 #[.int .i64 f.eye, .int .i64 f.rings, .int .i64 f.sectors, .slice (some ⟨gk, 0, none⟩) f.kinds.length ck]
  own : wr.ownsRow (w.heap.size + 2) 3 1 (.slice (some ⟨gk, 0, none⟩) f.kinds.length ck) f.kinds.length (ints L)
  bel : Below w.heap.size w wr
theorem RdI.later {w wr W : World} {f : Fc} {s : Value} {ob gk ck : Nat} {L : List Int} (h : RdI w wr f s ob gk ck L) (hb : Below wr.heap.size wr W) : RdI w W f s ob gk ck L :=
  ⟨h.b0.later hb, h.br.later hb, h.bo.later hb, own_later h.own hb, chain h.bel hb⟩
theorem RdI.put {w wr : World} {f : Fc} {s : Value} {ob gk ck : Nat} {L : List Int} (h : RdI w wr f s ob gk ck L) (i : Nat) (x : Int) (h1 : w.heap.size + 2 ≤ gk) (h2 : gk ≠ ob) : RdI w (wr.setCell ⟨gk, i, none⟩ (.int .i64 x)) f s ob gk ck (L.set i x) :=
  ⟨h.b0.far (by simp; omega) _, h.br.far (by simp; omega) _, h.bo.far (by simp; omega) _, by rw [ints_set]; exact (h.own.stored i _).1, h.bel.setCell (by simp; omega) _⟩

theorem turned_mid {f : Fc} {by_ : Int} (hv : validB f = true) : midL f (fun i => rnd (i - rnd by_ f.sectors) f.sectors) f.kinds.length = (turnF f by_).kinds := by
  obtain ⟨R, S, -, -, -, -, -, -, h5, h6, h7⟩ := dims hv
  rw [midL_end]
  unfold turnF
  dsimp only
  rw [h5, h6, h7]

set_option maxRecDepth 100000 in
set_option maxHeartbeats 8000000 in
theorem rturned_c (f : Fc) (v : Value) (by_ : Int) (w : World) (h : IsFace w w.heap.size v f) (hv : validB f = true) :
    Calls Tryz.prog 63 #[v, .int .i64 by_] w (RetFace w (turnF f by_)) := by
  have hF := h
  obtain ⟨s, rfl, hlen, A, cp, rfl, hcap, hcell⟩ := h
  obtain ⟨⟨⟨a1, a2⟩, ⟨a3, a4⟩, a5, a6⟩, hl, -⟩ := validB_iff.1 hv
  have hl6 : f.kinds.length ≤ 2304 := (len_val hv).2.2
  have hl0 : 0 < f.kinds.length := by
    have : 1 * 2 ≤ f.rings * f.sectors := Int.mul_le_mul a3 a5 (by omega) (by omega)
    omega
  obtain ⟨b, off, rfl, hbB, hcc⟩ := hcell hl0
  have b0 := faceBox w f (.slice (some ⟨b, off, none⟩) f.kinds.length cp) (.cells #[.int .i64 0, .int .i64 0, .int .i64 0, .slice none 0 0] 24)
  have br := resBox w (.cells #[.int .i64 f.eye, .int .i64 f.rings, .int .i64 f.sectors, .slice (some ⟨b, off, none⟩) f.kinds.length cp] 24)
  have hbel : Below w.heap.size w ((w.alloc (.cells #[.int .i64 f.eye, .int .i64 f.rings, .int .i64 f.sectors, .slice (some ⟨b, off, none⟩) f.kinds.length cp] 24)).alloc (.cells #[.int .i64 0, .int .i64 0, .int .i64 0, .slice none 0 0] 24)) := ((Below.refl _ _).alloc (Nat.le_refl _) _).alloc (by simp) _
  have hs0 : ¬ f.sectors = 0 := by omega
  have hr1 : -f.sectors < by_.tmod f.sectors := Int.lt_tmod_of_pos by_ (by omega)
  have hr2 : by_.tmod f.sectors < f.sectors := Int.tmod_lt_of_pos by_ (by omega)
  have Hv := Lib.hid hv
  have Hl := Lib.hid hl
  have Hcc := Lib.hid hcc
  clear hcell hcc hv hl
  go_enter Tryz.func63, Tryz.ntmps63
  go_wp2_with fail
  refine (rCopied_c f _ _ (hF.mono hbel hbel.size) hl0 (by omega)).mono ?_
  rintro e w2 ⟨sA, ck, rfl, hown, hb2⟩
  obtain ⟨gk, rfl⟩ : ∃ gk, sA = some ⟨gk, 0, none⟩ := by
    rcases hown.2 with ⟨-, hz⟩ | ⟨g, cap, cur, hx, _⟩
    · omega
    · injection hx with hx
      exact ⟨g, hx⟩
  have hgk := hown.lt gk rfl
  simp only [World.size_alloc] at hgk hown
  obtain ⟨hgk1, hgk2⟩ := hgk
  have hal : Below w2.heap.size w2 (w2.alloc (.cells #[.int .i64 f.eye, .int .i64 f.rings, .int .i64 f.sectors, .slice (some ⟨gk, 0, none⟩) f.kinds.length ck] 24)) := (Below.refl _ _).alloc (Nat.le_refl _) _
  have hst : RdI w (w2.alloc (.cells #[.int .i64 f.eye, .int .i64 f.rings, .int .i64 f.sectors, .slice (some ⟨gk, 0, none⟩) f.kinds.length ck] 24)) f (.slice (some ⟨b, off, none⟩) f.kinds.length cp) w2.heap.size gk ck f.kinds :=
    ⟨(b0.later hb2).later hal, (br.later hb2).later hal, Box.made _ _ _, own_later hown hal, chain (chain hbel hb2) hal⟩
  have k2 : ∀ o : Obj, (w2.alloc o).cell? ⟨w.heap.size, 2, none⟩ = some (.int .i64 f.sectors) := fun o => ((b0.later hb2).alloc o).cell 2
  clear b0 br hbel hb2 hown hal
  go_wp2_with fail
  clear k2
  obtain ⟨R, S, -, hS, -, -, -, -, -, -, -⟩ := dims Hv.out
  have HS := Lib.hid hS
  clear hS
  generalize w2.alloc (.cells #[.int .i64 f.eye, .int .i64 f.rings, .int .i64 f.sectors, .slice (some ⟨gk, 0, none⟩) f.kinds.length ck] 24) = w3 at *
  generalize w2.heap.size = ob at *
  go_loopw [6] (fun i wr => ∃ k : Nat, k ≤ f.kinds.length ∧ i = .int .i64 (k : Int) ∧ RdI w wr f (.slice (some ⟨b, off, none⟩) f.kinds.length cp) ob gk ck (midL f (fun i => rnd (i - rnd by_ f.sectors) f.sectors) k)) (fun i _ => f.kinds.length - (intOf i).toNat)
  case atStart => exact ⟨0, Nat.zero_le _, rfl, by rw [midL_zero]; exact hst⟩
  case round =>
    clear hst
    obtain ⟨k, hk, rfl, hst⟩ := hrel
    have g5 : wr.cell? ⟨ob, 3, none⟩ = some (.slice (some ⟨gk, 0, none⟩) f.kinds.length ck) := hst.bo.cell 3
    have i0 : (0 : Int) ≤ (k : Int) := Int.natCast_nonneg _
    by_cases hlt : k < f.kinds.length
    · have hd : decide ((k : Int) < (f.kinds.length : Int)) = true := by rw [decide_eq_true_iff]; omega
      have i1 : (k : Int) < (f.kinds.length : Int) := by omega
      have Hlt := Lib.hid (show k + 1 ≤ f.kinds.length ∧ f.kinds.length - (k + 1) < f.kinds.length - k by omega)
      have k0 : wr.cell? ⟨w.heap.size, 0, none⟩ = some (.int .i64 f.eye) := hst.b0.cell 0
      have k1 : wr.cell? ⟨w.heap.size, 1, none⟩ = some (.int .i64 f.rings) := hst.b0.cell 1
      have k2 : wr.cell? ⟨w.heap.size, 2, none⟩ = some (.int .i64 f.sectors) := hst.b0.cell 2
      have k3 : wr.cell? ⟨w.heap.size, 3, none⟩ = some (.slice (some ⟨b, off, none⟩) f.kinds.length cp) := hst.b0.cell 3
      go_wp2_with fail
      refine (rPlace_c f _ (k : Int) wr (by omega) (by omega) (by omega) (by omega)).mono ?_; rintro e w4 ⟨rfl, hb4⟩
      have h4 := hst.later hb4
      have hq0 : 0 ≤ (k : Int) / f.sectors := Int.ediv_nonneg (by omega) (by omega)
      have hq1 : (k : Int) / f.sectors < f.rings := Int.ediv_lt_of_lt_mul (by omega) (by have := Hl.out; omega)
      have hm0 : 0 ≤ (k : Int) % f.sectors := Int.emod_nonneg _ (by omega)
      have hm1 : (k : Int) % f.sectors < f.sectors := Int.emod_lt_of_pos _ (by omega)
      obtain ⟨q, hq⟩ : ∃ q, q = (k : Int) / f.sectors := ⟨_, rfl⟩
      obtain ⟨m, hm⟩ : ∃ m, m = (k : Int) % f.sectors := ⟨_, rfl⟩
      rw [← hq] at hq0 hq1 ⊢
      rw [← hm] at hm0 hm1 ⊢
      have HQ := Lib.hid hq
      have HM := Lib.hid hm
      clear hq hm
      have bc := Box.made w4 26 #[.int .i64 q, .int .i64 m]
      have hal : Below w4.heap.size w4 (w4.alloc (.cells #[.int .i64 q, .int .i64 m] 26)) := (Below.refl _ _).alloc (Nat.le_refl _) _
      have h5 := h4.later hal
      have hc4 := h4.bo.lt
      have hown4 := (h4.own.lt gk rfl).2
      have hb4s := h4.bel.size
      clear hst k0 k1 k2 k3 g5 hb4 h4 hal
      go_wp2_with fail
      generalize w4.alloc (.cells #[.int .i64 q, .int .i64 m] 26) = w5 at *
      generalize w4.heap.size = cb at *
      obtain ⟨r1, r2⟩ := rnd_bd (a := m - by_.tmod f.sectors) (s := f.sectors) (by omega)
      obtain ⟨x1, x2⟩ := idx_bd Hv.out hq0 hq1 r1 r2
      obtain ⟨idx, hidx⟩ := Int.eq_ofNat_of_zero_le x1
      have hi : idx < f.kinds.length := by omega
      have Hstep := Lib.hid (drop_step (fr := fun i => rnd (i - rnd by_ f.sectors) f.sectors) HS.out HQ.out HM.out hlt rnd_tsub.symm hidx)
      refine rt7_c f f.kinds.length b off cp gk ck (w.heap.size + 2) w.heap.size ob cb k idx q m (by_.tmod f.sectors) (nth f.kinds idx) (midL f (fun i => rnd (i - rnd by_ f.sectors) f.sectors) k) w5 _ _ _ _ _ _ _ _ _ _ _ _ _ _ _ _ _ _ _ _ _ _ _ _ _ _ _ _ _ _ _ _ _ _ _ _ _ _ _ _
        h5.b0 h5.bo bc (keepd (Hcc.out idx hi) h5.bel hbB) (Nat.lt_of_lt_of_le hbB h5.bel.size) h5.own (midL_len f _ hk) hlt hi (by omega) (by omega) (by omega) (by omega) hq0 (by omega) hm0 hm1 (by omega) a6 (by omega) (by omega) hidx ?_
      rintro _ _ _ _ _ _ _ _ _ _ _ _ _ _ _ _ _ _ _ w11 hb11
      have h11 := (h5.later hb11).put k (nth f.kinds idx) (by omega) (by omega)
      rw [Hstep.out] at h11
      clear h5 bc hb11 hidx x1 x2 r1 r2
      go_wp2_with fail
      go_roundw
      case rel => exact ⟨k + 1, Hlt.out.1, by go_num, h11⟩
      case measure => have := Hlt.out; simp [intOf]; omega
    · obtain rfl : k = f.kinds.length := by omega
      have hd : decide ((f.kinds.length : Int) < (f.kinds.length : Int)) = false := by simp
      have o0 : wr.cell? ⟨ob, 0, none⟩ = some (.int .i64 f.eye) := hst.bo.cell 0
      have o1 : wr.cell? ⟨ob, 1, none⟩ = some (.int .i64 f.rings) := hst.bo.cell 1
      have o2 : wr.cell? ⟨ob, 2, none⟩ = some (.int .i64 f.sectors) := hst.bo.cell 2
      have hbr := hst.br
      have y0 : wr.cell? ⟨w.heap.size + 1, 0, none⟩ = some (.int .i64 0) := hbr.cell 0
      have yf0 := hbr.free 0
      have y1 : wr.cell? ⟨w.heap.size + 1, 1, none⟩ = some (.int .i64 0) := hbr.cell 1
      have yf1 := hbr.free 1
      have y2 : wr.cell? ⟨w.heap.size + 1, 2, none⟩ = some (.int .i64 0) := hbr.cell 2
      have yf2 := hbr.free 2
      have y3 : wr.cell? ⟨w.heap.size + 1, 3, none⟩ = some (.slice none 0 0) := hbr.cell 3
      have yf3 := hbr.free 3
      go_wp2_with fail
      exact endPut (G := turnF f by_) (lo := w.heap.size + 2) Tryz.results63 rfl hbr (by rw [← turned_mid Hv.out]; exact ints_own (by rw [midL_len f _ (Nat.le_refl _)]; exact hst.own) (Nat.le_refl _) (by rw [midL_len f _ (Nat.le_refl _)]; omega)) (NewS.own hst.own) (by omega) (by omega) hst.bel

end Go.Proofs.YtpejcdjgggcjlaaGreatDoor

namespace Go.Proofs.YtpejcdjgggcjlaaGreatDoor
open Go.RowKit

theorem mir_mid {f : Fc} (hv : validB f = true) : midL f (fun i => f.sectors - 1 - i) f.kinds.length = (mirF f).kinds := by
  obtain ⟨R, S, -, -, -, -, -, -, h5, h6, h7⟩ := dims hv
  rw [midL_end]
  unfold mirF
  dsimp only
  rw [h5, h6, h7]

set_option maxRecDepth 100000 in
set_option maxHeartbeats 8000000 in
theorem rMirror_c (f : Fc) (v : Value) (w : World) (h : IsFace w w.heap.size v f) :
    Calls Tryz.prog 31 #[v] w (RetFaceE w (if validB f = true then mirF f else zF) (if validB f = true then 0 else 10)) := by
  have hF := h
  obtain ⟨s, rfl, hlen, A, cp, rfl, hcap, hcell⟩ := h
  have b0 := faceBox w f (.slice A f.kinds.length cp) (.cells #[.int .i64 0, .int .i64 0, .int .i64 0, .slice none 0 0] 24)
  have hr := resBox w (.cells #[.int .i64 f.eye, .int .i64 f.rings, .int .i64 f.sectors, .slice A f.kinds.length cp] 24)
  cases hv : validB f
  · clear hcell b0
    go_enter Tryz.func31, Tryz.ntmps31
    go_wp2_with fail
    refine (rValid_c f _ _ ((hF.box _).box _)).mono ?_; rintro e w1 ⟨rfl, hb⟩
    have hbx := hr.later hb
    have hbw : Below w.heap.size w w1 := boxed (boxed hb)
    have h0 : w1.cell? ⟨w.heap.size + 1, 0, none⟩ = some (.int .i64 0) := hbx.cell 0
    have hf0 := hbx.free 0
    have h1 : w1.cell? ⟨w.heap.size + 1, 1, none⟩ = some (.int .i64 0) := hbx.cell 1
    have hf1 := hbx.free 1
    have h2 : w1.cell? ⟨w.heap.size + 1, 2, none⟩ = some (.int .i64 0) := hbx.cell 2
    have hf2 := hbx.free 2
    have h3 : w1.cell? ⟨w.heap.size + 1, 3, none⟩ = some (.slice none 0 0) := hbx.cell 3
    have hf3 := hbx.free 3
    clear hb
    go_wp2_with fail
    exact endPutE (G := zF) (lo := w.heap.size + 2) Tryz.results31 rfl rfl hbx (zF_ints _ _ _) (NewS.none_ _ _ _) (by omega) (by omega) hbw
  obtain ⟨⟨⟨a1, a2⟩, ⟨a3, a4⟩, a5, a6⟩, hl, -⟩ := validB_iff.1 hv
  have hl6 : f.kinds.length ≤ 2304 := (len_val hv).2.2
  have hl0 : 0 < f.kinds.length := by
    have : 1 * 2 ≤ f.rings * f.sectors := Int.mul_le_mul a3 a5 (by omega) (by omega)
    omega
  obtain ⟨b, off, rfl, hbB, hcc⟩ := hcell hl0
  have Hv := Lib.hid hv
  have Hl := Lib.hid hl
  have Hcc := Lib.hid hcc
  clear hcell hcc hl
  go_enter Tryz.func31, Tryz.ntmps31
  go_wp2_with fail
  refine (rValid_c f _ _ ((hF.box _).box _)).mono ?_; rintro e w1 ⟨rfl, hb1⟩
  rw [hv]
  clear hv
  have hbel : Below w.heap.size w w1 := boxed (boxed hb1)
  have c0 := b0.later hb1
  have cr := hr.later hb1
  have hs1 := cr.lt
  clear b0 hr hb1
  have k0 : w1.cell? ⟨w.heap.size, 0, none⟩ = some (.int .i64 f.eye) := c0.cell 0
  have k1 : w1.cell? ⟨w.heap.size, 1, none⟩ = some (.int .i64 f.rings) := c0.cell 1
  have k2 : w1.cell? ⟨w.heap.size, 2, none⟩ = some (.int .i64 f.sectors) := c0.cell 2
  have k3 : w1.cell? ⟨w.heap.size, 3, none⟩ = some (.slice (some ⟨b, off, none⟩) f.kinds.length cp) := c0.cell 3
  go_wp2_with fail
  refine (rCopied_c f _ w1 (hF.mono hbel hbel.size) hl0 (by omega)).mono ?_
  rintro e w2 ⟨sA, ck, rfl, hown0, hb2⟩
  have hown := own_less hown0 (show w.heap.size + 2 ≤ w1.heap.size by omega)
  obtain ⟨gk, rfl⟩ : ∃ gk, sA = some ⟨gk, 0, none⟩ := by
    rcases hown.2 with ⟨-, hz⟩ | ⟨g, cap, cur, hx, _⟩
    · omega
    · injection hx with hx
      exact ⟨g, hx⟩
  obtain ⟨hgk1, hgk2⟩ := hown.lt gk rfl
  have hal : Below w2.heap.size w2 (w2.alloc (.cells #[.int .i64 f.eye, .int .i64 f.rings, .int .i64 f.sectors, .slice (some ⟨gk, 0, none⟩) f.kinds.length ck] 24)) := (Below.refl _ _).alloc (Nat.le_refl _) _
  have hst : RdI w (w2.alloc (.cells #[.int .i64 f.eye, .int .i64 f.rings, .int .i64 f.sectors, .slice (some ⟨gk, 0, none⟩) f.kinds.length ck] 24)) f (.slice (some ⟨b, off, none⟩) f.kinds.length cp) w2.heap.size gk ck f.kinds :=
    ⟨(c0.later hb2).later hal, (cr.later hb2).later hal, Box.made _ _ _, own_later hown hal, chain (chain hbel hb2) hal⟩
  clear c0 cr hbel hb2 hown hown0 hal k0 k1 k2 k3
  go_wp2_with fail
  obtain ⟨R, S, -, hS, -, -, -, -, -, -, -⟩ := dims Hv.out
  have HS := Lib.hid hS
  clear hS
  generalize w2.alloc (.cells #[.int .i64 f.eye, .int .i64 f.rings, .int .i64 f.sectors, .slice (some ⟨gk, 0, none⟩) f.kinds.length ck] 24) = w3 at *
  generalize w2.heap.size = ob at *
  go_loopw [5] (fun i wr => ∃ k : Nat, k ≤ f.kinds.length ∧ i = .int .i64 (k : Int) ∧ RdI w wr f (.slice (some ⟨b, off, none⟩) f.kinds.length cp) ob gk ck (midL f (fun i => f.sectors - 1 - i) k)) (fun i _ => f.kinds.length - (intOf i).toNat)
  case atStart => exact ⟨0, Nat.zero_le _, rfl, by rw [midL_zero]; exact hst⟩
  case round =>
    clear hst
    obtain ⟨k, hk, rfl, hst⟩ := hrel
    have g5 : wr.cell? ⟨ob, 3, none⟩ = some (.slice (some ⟨gk, 0, none⟩) f.kinds.length ck) := hst.bo.cell 3
    have i0 : (0 : Int) ≤ (k : Int) := Int.natCast_nonneg _
    by_cases hlt : k < f.kinds.length
    · have hd : decide ((k : Int) < (f.kinds.length : Int)) = true := by rw [decide_eq_true_iff]; omega
      have i1 : (k : Int) < (f.kinds.length : Int) := by omega
      have Hlt := Lib.hid (show k + 1 ≤ f.kinds.length ∧ f.kinds.length - (k + 1) < f.kinds.length - k by omega)
      have k0 : wr.cell? ⟨w.heap.size, 0, none⟩ = some (.int .i64 f.eye) := hst.b0.cell 0
      have k1 : wr.cell? ⟨w.heap.size, 1, none⟩ = some (.int .i64 f.rings) := hst.b0.cell 1
      have k2 : wr.cell? ⟨w.heap.size, 2, none⟩ = some (.int .i64 f.sectors) := hst.b0.cell 2
      have k3 : wr.cell? ⟨w.heap.size, 3, none⟩ = some (.slice (some ⟨b, off, none⟩) f.kinds.length cp) := hst.b0.cell 3
      go_wp2_with fail
      refine (rPlace_c f _ (k : Int) wr (by omega) (by omega) (by omega) (by omega)).mono ?_; rintro e w4 ⟨rfl, hb4⟩
      have h4 := hst.later hb4
      have hq0 : 0 ≤ (k : Int) / f.sectors := Int.ediv_nonneg (by omega) (by omega)
      have hq1 : (k : Int) / f.sectors < f.rings := Int.ediv_lt_of_lt_mul (by omega) (by have := Hl.out; omega)
      have hm0 : 0 ≤ (k : Int) % f.sectors := Int.emod_nonneg _ (by omega)
      have hm1 : (k : Int) % f.sectors < f.sectors := Int.emod_lt_of_pos _ (by omega)
      obtain ⟨q, hq⟩ : ∃ q, q = (k : Int) / f.sectors := ⟨_, rfl⟩
      obtain ⟨m, hm⟩ : ∃ m, m = (k : Int) % f.sectors := ⟨_, rfl⟩
      rw [← hq] at hq0 hq1 ⊢
      rw [← hm] at hm0 hm1 ⊢
      have HQ := Lib.hid hq
      have HM := Lib.hid hm
      clear hq hm
      have bc := Box.made w4 26 #[.int .i64 q, .int .i64 m]
      have hal : Below w4.heap.size w4 (w4.alloc (.cells #[.int .i64 q, .int .i64 m] 26)) := (Below.refl _ _).alloc (Nat.le_refl _) _
      have h5 := h4.later hal
      have hc4 := h4.bo.lt
      have hown4 := (h4.own.lt gk rfl).2
      have hb4s := h4.bel.size
      clear hst k0 k1 k2 k3 g5 hb4 h4 hal
      go_wp2_with fail
      generalize w4.alloc (.cells #[.int .i64 q, .int .i64 m] 26) = w5 at *
      generalize w4.heap.size = cb at *
      obtain ⟨x1, x2⟩ := idx_bd Hv.out hq0 hq1 (show 0 ≤ f.sectors - 1 - m by omega) (show f.sectors - 1 - m < f.sectors by omega)
      obtain ⟨idx, hidx⟩ := Int.eq_ofNat_of_zero_le x1
      have hi : idx < f.kinds.length := by omega
      have Hstep := Lib.hid (drop_step (fr := fun i => f.sectors - 1 - i) HS.out HQ.out HM.out hlt rfl hidx)
      refine rm8_c f f.kinds.length b off cp gk ck (w.heap.size + 2) w.heap.size ob cb k idx q m (nth f.kinds idx) (midL f (fun i => f.sectors - 1 - i) k) w5 _ _ _ _ _ _ _ _ _ _ _ _ _ _ _ _ _ _ _ _ _ _ _ _ _ _ _ _ _ _ _ _ _ _ _ _ _ _ _ _
        h5.b0 h5.bo bc (keepd (Hcc.out idx hi) h5.bel hbB) (Nat.lt_of_lt_of_le hbB h5.bel.size) h5.own (midL_len f _ hk) hlt hi (by omega) (by omega) (by omega) (by omega) hq0 (by omega) hm0 hm1 (by omega) a6 hidx ?_
      rintro _ _ _ _ _ _ _ _ _ _ _ _ _ _ _ _ _ _ _ w11 hb11
      have h11 := (h5.later hb11).put k (nth f.kinds idx) (by omega) (by omega)
      rw [Hstep.out] at h11
      clear h5 bc hb11 hidx x1 x2
      go_wp2_with fail
      go_roundw
      case rel => exact ⟨k + 1, Hlt.out.1, by go_num, h11⟩
      case measure => have := Hlt.out; simp [intOf]; omega
    · obtain rfl : k = f.kinds.length := by omega
      have hd : decide ((f.kinds.length : Int) < (f.kinds.length : Int)) = false := by simp
      have o0 : wr.cell? ⟨ob, 0, none⟩ = some (.int .i64 f.eye) := hst.bo.cell 0
      have o1 : wr.cell? ⟨ob, 1, none⟩ = some (.int .i64 f.rings) := hst.bo.cell 1
      have o2 : wr.cell? ⟨ob, 2, none⟩ = some (.int .i64 f.sectors) := hst.bo.cell 2
      have hbr := hst.br
      have y0 : wr.cell? ⟨w.heap.size + 1, 0, none⟩ = some (.int .i64 0) := hbr.cell 0
      have yf0 := hbr.free 0
      have y1 : wr.cell? ⟨w.heap.size + 1, 1, none⟩ = some (.int .i64 0) := hbr.cell 1
      have yf1 := hbr.free 1
      have y2 : wr.cell? ⟨w.heap.size + 1, 2, none⟩ = some (.int .i64 0) := hbr.cell 2
      have yf2 := hbr.free 2
      have y3 : wr.cell? ⟨w.heap.size + 1, 3, none⟩ = some (.slice none 0 0) := hbr.cell 3
      have yf3 := hbr.free 3
      go_wp2_with fail
      exact endPutE (G := mirF f) (lo := w.heap.size + 2) Tryz.results31 rfl rfl hbr (by rw [← mir_mid Hv.out]; exact ints_own (by rw [midL_len f _ (Nat.le_refl _)]; exact hst.own) (Nat.le_refl _) (by rw [midL_len f _ (Nat.le_refl _)]; omega)) (NewS.own hst.own) (by omega) (by omega) hst.bel

end Go.Proofs.YtpejcdjgggcjlaaGreatDoor

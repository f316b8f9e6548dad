/- What falls in some turns, on the side of the specification: a region by itself. -/
import Derived.Test.YtobhnkkjhglgcaaI4
import Derived.Deep.RegionHeld3
namespace Go.Proofs.Ytobhnkkjhglgcaa
open Go.RowKit

theorem rtimes_w (a b r : Int) (w : World) (hr : rt a b = r) (h : 0 ≤ a ∧ a ≤ 1000000 ∧ 1 ≤ b ∧ b ≤ 1000000) : Calls Try.prog 23 #[.int .i64 a, .int .i64 b] w fun e w' => e = .returned (.int .i64 r) ∧ Below w.heap.size w w' :=
  (rtimes_b a b r w hr h).mono fun _ _ ⟨h1, h2⟩ => ⟨h1, by rw [h2]; exact Below.refl _ _⟩

set_option maxRecDepth 100000 in
set_option maxHeartbeats 8000000 in
theorem rfed_r (x d k n m p : Int) (a2 : Nat) (HM : Hid (rt n k = m)) (HP : Hid (rt m d = p)) (HRT : Hid (0 ≤ n ∧ n ≤ 1000000 ∧ 1 ≤ k ∧ k ≤ 1000000)) (HRU : Hid (0 ≤ m ∧ m ≤ 1000000 ∧ 1 ≤ d ∧ d ≤ 1000000)) (wq : World) (Q : Exit → Act → World → Prop) (x0 x3 x4 x5 x6 x7 x8 x9 x10 x11 x12 x13 x14 x15 x16 x17 x18 x19 x20 x21 : Value)
    (bX : Box wq a2 23 #[.int .i64 x, .int .i64 d, .int .i64 k])
    (hQ : ∀ (y12 y13 y14 y15 y16 y17 y18 y19 y20 y21 : Value) (w14 : World), Below wq.heap.size wq w14 → Q .normal { tmps := #[x0, .int .i64 n, .pointer (some ⟨a2, 0, none⟩), x3, .int .i64 (if p < x then p else x), .int .i64 0, x6, x7, x8, x9, x10, x11, y12, y13, y14, y15, y16, y17, y18, y19, y20, y21], defers := [] } w14) :
    (Code.region 5 #[{ dst := some 12, op := Op.fieldAddr 23 (Operand.tmp 2) 0, type := 0, pos := "ref.go:484", after := #[], guard := none }, { dst := some 13, op := Op.load 3 (Operand.tmp 12), type := 3, pos := "ref.go:484", after := #[{ on := 0, ground := Ground.data }], guard := none }, { dst := some 14, op := Op.move (Operand.tmp 1), type := 3, pos := "ref.go:484", after := #[], guard := none }, { dst := some 15, op := Op.fieldAddr 23 (Operand.tmp 2) 2, type := 0, pos := "ref.go:484", after := #[], guard := none }, { dst := some 16, op := Op.load 3 (Operand.tmp 15), type := 3, pos := "ref.go:484", after := #[{ on := 3, ground := Ground.data }], guard := none }, { dst := some 17, op := Op.call { callee := Callee.value (Operand.func 23), args := #[Operand.tmp 14, Operand.tmp 16], argTypes := #[3, 3] }, type := 3, pos := "ref.go:484", after := #[{ on := 2, ground := Ground.data }, { on := 4, ground := Ground.data }], guard := none }, { dst := some 18, op := Op.fieldAddr 23 (Operand.tmp 2) 1, type := 0, pos := "ref.go:484", after := #[], guard := none }, { dst := some 19, op := Op.load 3 (Operand.tmp 18), type := 3, pos := "ref.go:484", after := #[{ on := 6, ground := Ground.data }], guard := none }, { dst := some 20, op := Op.call { callee := Callee.value (Operand.func 23), args := #[Operand.tmp 17, Operand.tmp 19], argTypes := #[3, 3] }, type := 3, pos := "ref.go:484", after := #[{ on := 5, ground := Ground.data }, { on := 7, ground := Ground.data }, { on := 5, ground := Ground.chain }], guard := none }, { dst := some 21, op := Op.call { callee := Callee.builtin Builtin.min, args := #[Operand.tmp 13, Operand.tmp 20], argTypes := #[3, 3] }, type := 3, pos := "ref.go:484", after := #[{ on := 1, ground := Ground.data }, { on := 8, ground := Ground.data }], guard := none }, { dst := some 4, op := Op.assign (Operand.tmp 21), type := 3, pos := "ref.go:484", after := #[{ on := 9, ground := Ground.data }, { on := 8, ground := Ground.chain }, { on := 0, ground := Ground.phase }, { on := 1, ground := Ground.phase }, { on := 2, ground := Ground.phase }, { on := 3, ground := Ground.phase }, { on := 4, ground := Ground.phase }, { on := 5, ground := Ground.phase }, { on := 6, ground := Ground.phase }, { on := 7, ground := Ground.phase }, { on := 8, ground := Ground.phase }, { on := 9, ground := Ground.phase }], guard := none }, { dst := some 5, op := Op.assign (Operand.const (Value.int IntKind.i64 0)), type := 25, pos := "ref.go:484", after := #[{ on := 10, ground := Ground.chain }, { on := 0, ground := Ground.phase }, { on := 1, ground := Ground.phase }, { on := 2, ground := Ground.phase }, { on := 3, ground := Ground.phase }, { on := 4, ground := Ground.phase }, { on := 5, ground := Ground.phase }, { on := 6, ground := Ground.phase }, { on := 7, ground := Ground.phase }, { on := 8, ground := Ground.phase }, { on := 9, ground := Ground.phase }, { on := 10, ground := Ground.phase }], guard := none }] true).wp Try.prog Q { tmps := #[x0, .int .i64 n, .pointer (some ⟨a2, 0, none⟩), x3, x4, x5, x6, x7, x8, x9, x10, x11, x12, x13, x14, x15, x16, x17, x18, x19, x20, x21], defers := [] } wq := by
  have HQ := Lib.hid hQ
  clear hQ
  have hdr : Below wq.heap.size wq wq.drew := (Below.refl _ _).drew
  have l0 := bX.lt
  have hcall : ∀ X Y : World, (fun W => W.cell? ⟨a2, 0, none⟩ = some (.int .i64 x) ∧ W.cell? ⟨a2, 1, none⟩ = some (.int .i64 d) ∧ W.cell? ⟨a2, 2, none⟩ = some (.int .i64 k) ∧ Below wq.heap.size wq W ∧ wq.heap.size ≤ W.heap.size) X → Below X.heap.size X Y → (fun W => W.cell? ⟨a2, 0, none⟩ = some (.int .i64 x) ∧ W.cell? ⟨a2, 1, none⟩ = some (.int .i64 d) ∧ W.cell? ⟨a2, 2, none⟩ = some (.int .i64 k) ∧ Below wq.heap.size wq W ∧ wq.heap.size ≤ W.heap.size) Y := by
    rintro X Y ⟨z0, z1, z2, xb, xs⟩ hb
    have hb2 := Below.mono (B' := wq.heap.size) hb xs
    exact ⟨keepd z0 hb2 l0, keepd z1 hb2 l0, keepd z2 hb2 l0, Below.trans xb hb2, Nat.le_trans xs hb.size⟩
  have hini : (fun W => W.cell? ⟨a2, 0, none⟩ = some (.int .i64 x) ∧ W.cell? ⟨a2, 1, none⟩ = some (.int .i64 d) ∧ W.cell? ⟨a2, 2, none⟩ = some (.int .i64 k) ∧ Below wq.heap.size wq W ∧ wq.heap.size ≤ W.heap.size) wq.drew := ⟨bX.cell 0, bX.cell 1, bX.cell 2, hdr, Nat.le_refl _⟩
  have Hcall := Lib.hid hcall
  have Hini := Lib.hid hini
  clear  bX hdr l0 hcall hini
  refine wp_region_noPanic ?_
  refine wp_region_held_drew (S := (fun W => W.cell? ⟨a2, 0, none⟩ = some (.int .i64 x) ∧ W.cell? ⟨a2, 1, none⟩ = some (.int .i64 d) ∧ W.cell? ⟨a2, 2, none⟩ = some (.int .i64 k) ∧ Below wq.heap.size wq W ∧ wq.heap.size ≤ W.heap.size)) (by kernel_rfl) Hini.out (fun hHeld => ?_)
  refine wpAnyH_take (i := 0) (oi := { dst := some 12, op := Op.fieldAddr 23 (Operand.tmp 2) 0, type := 0, pos := "ref.go:484", after := #[], guard := none }) (v := ?vh1) rfl ?hsh1 ?hfh1 ?hrh1 ?hQh1 ?hyh1 (by assumption) ?resth1
  case hsh1 => kernel_rfl
  case hfh1 => kernel_rfl
  case hrh1 => kernel_rfl
  case hQh1 => exact fun _ _ _ h => h
  case hyh1 => (refine Or.inl ⟨by rfl, ?_⟩; intro w hSw; (try dsimp only at hSw); go_simp; try with_reducible rfl)
  try simp only [Act.put, List.setIfInBounds_toArray, List.set_cons_zero, List.set_cons_succ]
  refine wpAnyH_take (i := 1) (oi := { dst := some 13, op := Op.load 3 (Operand.tmp 12), type := 3, pos := "ref.go:484", after := #[{ on := 0, ground := Ground.data }], guard := none }) (v := ?vh2) rfl ?hsh2 ?hfh2 ?hrh2 ?hQh2 ?hyh2 (by assumption) ?resth2
  case hsh2 => kernel_rfl
  case hfh2 => kernel_rfl
  case hrh2 => kernel_rfl
  case hQh2 => exact fun _ _ _ h => h
  case hyh2 => (refine Or.inl ⟨by rfl, ?_⟩; intro w hSw; (try dsimp only at hSw); go_simp; try with_reducible rfl)
  try simp only [Act.put, List.setIfInBounds_toArray, List.set_cons_zero, List.set_cons_succ]
  refine wpAnyH_take (i := 2) (oi := { dst := some 14, op := Op.move (Operand.tmp 1), type := 3, pos := "ref.go:484", after := #[], guard := none }) (v := ?vh3) rfl ?hsh3 ?hfh3 ?hrh3 ?hQh3 ?hyh3 (by assumption) ?resth3
  case hsh3 => kernel_rfl
  case hfh3 => kernel_rfl
  case hrh3 => kernel_rfl
  case hQh3 => exact fun _ _ _ h => h
  case hyh3 => (refine Or.inl ⟨by rfl, ?_⟩; intro w hSw; (try dsimp only at hSw); go_simp; try with_reducible rfl)
  try simp only [Act.put, List.setIfInBounds_toArray, List.set_cons_zero, List.set_cons_succ]
  refine wpAnyH_take (i := 3) (oi := { dst := some 15, op := Op.fieldAddr 23 (Operand.tmp 2) 2, type := 0, pos := "ref.go:484", after := #[], guard := none }) (v := ?vh4) rfl ?hsh4 ?hfh4 ?hrh4 ?hQh4 ?hyh4 (by assumption) ?resth4
  case hsh4 => kernel_rfl
  case hfh4 => kernel_rfl
  case hrh4 => kernel_rfl
  case hQh4 => exact fun _ _ _ h => h
  case hyh4 => (refine Or.inl ⟨by rfl, ?_⟩; intro w hSw; (try dsimp only at hSw); go_simp; try with_reducible rfl)
  try simp only [Act.put, List.setIfInBounds_toArray, List.set_cons_zero, List.set_cons_succ]
  refine wpAnyH_take (i := 4) (oi := { dst := some 16, op := Op.load 3 (Operand.tmp 15), type := 3, pos := "ref.go:484", after := #[{ on := 3, ground := Ground.data }], guard := none }) (v := ?vh5) rfl ?hsh5 ?hfh5 ?hrh5 ?hQh5 ?hyh5 (by assumption) ?resth5
  case hsh5 => kernel_rfl
  case hfh5 => kernel_rfl
  case hrh5 => kernel_rfl
  case hQh5 => exact fun _ _ _ h => h
  case hyh5 => (refine Or.inl ⟨by rfl, ?_⟩; intro w hSw; (try dsimp only at hSw); go_simp; try with_reducible rfl)
  try simp only [Act.put, List.setIfInBounds_toArray, List.set_cons_zero, List.set_cons_succ]
  refine wpAnyH_take (i := 6) (oi := { dst := some 18, op := Op.fieldAddr 23 (Operand.tmp 2) 1, type := 0, pos := "ref.go:484", after := #[], guard := none }) (v := ?vh6) rfl ?hsh6 ?hfh6 ?hrh6 ?hQh6 ?hyh6 (by assumption) ?resth6
  case hsh6 => kernel_rfl
  case hfh6 => kernel_rfl
  case hrh6 => kernel_rfl
  case hQh6 => exact fun _ _ _ h => h
  case hyh6 => (refine Or.inl ⟨by rfl, ?_⟩; intro w hSw; (try dsimp only at hSw); go_simp; try with_reducible rfl)
  try simp only [Act.put, List.setIfInBounds_toArray, List.set_cons_zero, List.set_cons_succ]
  refine wpAnyH_take (i := 7) (oi := { dst := some 19, op := Op.load 3 (Operand.tmp 18), type := 3, pos := "ref.go:484", after := #[{ on := 6, ground := Ground.data }], guard := none }) (v := ?vh7) rfl ?hsh7 ?hfh7 ?hrh7 ?hQh7 ?hyh7 (by assumption) ?resth7
  case hsh7 => kernel_rfl
  case hfh7 => kernel_rfl
  case hrh7 => kernel_rfl
  case hQh7 => exact fun _ _ _ h => h
  case hyh7 => (refine Or.inl ⟨by rfl, ?_⟩; intro w hSw; (try dsimp only at hSw); go_simp; try with_reducible rfl)
  try simp only [Act.put, List.setIfInBounds_toArray, List.set_cons_zero, List.set_cons_succ]
  refine wpAnyH_ready (rs := [5]) (by kernel_rfl) (by simp) ?_
  refine AllReadyH.cons (o := _) (by rfl) (fun K hK => ?_) AllReadyH.nil
  go_simp
  go_at_call 23
  refine (rtimes_w n k m _ HM.out HRT.out).mono ?_
  rintro e w10 ⟨rfl, hb10⟩
  go_wp2_with fail
  refine hK.out _ _ (Hcall.out _ _ hHeld (by assumption)) (fun hHeld0 => ?_)
  clear hK K hHeld
  have hHeld := hHeld0
  clear hHeld0
  try simp only [Act.put, List.setIfInBounds_toArray, List.set_cons_zero, List.set_cons_succ]
  refine wpAnyH_ready (rs := [8]) (by kernel_rfl) (by simp) ?_
  refine AllReadyH.cons (o := _) (by rfl) (fun K hK => ?_) AllReadyH.nil
  go_simp
  go_at_call 23
  refine (rtimes_w m d p _ HP.out HRU.out).mono ?_
  rintro e w14 ⟨rfl, hb14⟩
  go_wp2_with fail
  refine hK.out _ _ (Hcall.out _ _ hHeld (by assumption)) (fun hHeld1 => ?_)
  clear hK K hHeld
  have hHeld := hHeld1
  clear hHeld1
  try simp only [Act.put, List.setIfInBounds_toArray, List.set_cons_zero, List.set_cons_succ]
  refine wpAnyH_take (i := 9) (oi := { dst := some 21, op := Op.call { callee := Callee.builtin Builtin.min, args := #[Operand.tmp 13, Operand.tmp 20], argTypes := #[3, 3] }, type := 3, pos := "ref.go:484", after := #[{ on := 1, ground := Ground.data }, { on := 8, ground := Ground.data }], guard := none }) (v := ?vh8) rfl ?hsh8 ?hfh8 ?hrh8 ?hQh8 ?hyh8 (by assumption) ?resth8
  case hsh8 => kernel_rfl
  case hfh8 => kernel_rfl
  case hrh8 => kernel_rfl
  case hQh8 => exact fun _ _ _ h => h
  case hyh8 => (refine Or.inl ⟨by rfl, ?_⟩; intro w hSw; (try dsimp only at hSw); go_simp; try with_reducible rfl)
  try simp only [Act.put, List.setIfInBounds_toArray, List.set_cons_zero, List.set_cons_succ]
  refine wpAnyH_take (i := 10) (oi := { dst := some 4, op := Op.assign (Operand.tmp 21), type := 3, pos := "ref.go:484", after := #[{ on := 9, ground := Ground.data }, { on := 8, ground := Ground.chain }, { on := 0, ground := Ground.phase }, { on := 1, ground := Ground.phase }, { on := 2, ground := Ground.phase }, { on := 3, ground := Ground.phase }, { on := 4, ground := Ground.phase }, { on := 5, ground := Ground.phase }, { on := 6, ground := Ground.phase }, { on := 7, ground := Ground.phase }, { on := 8, ground := Ground.phase }, { on := 9, ground := Ground.phase }], guard := none }) (v := ?vh9) rfl ?hsh9 ?hfh9 ?hrh9 ?hQh9 ?hyh9 (by assumption) ?resth9
  case hsh9 => kernel_rfl
  case hfh9 => kernel_rfl
  case hrh9 => kernel_rfl
  case hQh9 => exact fun _ _ _ h => h
  case hyh9 => (refine Or.inl ⟨by rfl, ?_⟩; intro w hSw; (try dsimp only at hSw); go_simp; try with_reducible rfl)
  try simp only [Act.put, List.setIfInBounds_toArray, List.set_cons_zero, List.set_cons_succ]
  refine wpAnyH_take (i := 11) (oi := { dst := some 5, op := Op.assign (Operand.const (Value.int IntKind.i64 0)), type := 25, pos := "ref.go:484", after := #[{ on := 10, ground := Ground.chain }, { on := 0, ground := Ground.phase }, { on := 1, ground := Ground.phase }, { on := 2, ground := Ground.phase }, { on := 3, ground := Ground.phase }, { on := 4, ground := Ground.phase }, { on := 5, ground := Ground.phase }, { on := 6, ground := Ground.phase }, { on := 7, ground := Ground.phase }, { on := 8, ground := Ground.phase }, { on := 9, ground := Ground.phase }, { on := 10, ground := Ground.phase }], guard := none }) (v := ?vh10) rfl ?hsh10 ?hfh10 ?hrh10 ?hQh10 ?hyh10 (by assumption) ?resth10
  case hsh10 => kernel_rfl
  case hfh10 => kernel_rfl
  case hrh10 => kernel_rfl
  case hQh10 => exact fun _ _ _ h => h
  case hyh10 => (refine Or.inl ⟨by rfl, ?_⟩; intro w hSw; (try dsimp only at hSw); go_simp; try with_reducible rfl)
  try simp only [Act.put, List.setIfInBounds_toArray, List.set_cons_zero, List.set_cons_succ]
  refine wpAnyH_done (by kernel_rfl) ?_ _
  refine NoPanic.normal ?_
  obtain ⟨-, -, -, xb, -⟩ := hHeld
  exact HQ.out _ _ _ _ _ _ _ _ _ _ _ xb

end Go.Proofs.Ytobhnkkjhglgcaa

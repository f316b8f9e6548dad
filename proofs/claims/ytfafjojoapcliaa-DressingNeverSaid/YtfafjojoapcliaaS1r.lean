/- What first cells gain: the sums, a region by itself. -/
import Derived.Test.YtfafjojoapcliaaS0
import Derived.Deep.RegionHeld3
namespace Go.Proofs.Ytfafjojoapcliaa
open Go.RowKit

set_option maxRecDepth 100000 in
set_option maxHeartbeats 8000000 in
theorem gain1_c (l h : List Int) (a1 : Nat) (A1 A2 : Option Addr) (c1 c2 : Nat) (hll : l.length ≤ 1000) (hhl : h.length ≤ 1000) (hcl : cntB l 100000 = true) (hch : cntB h 100000 = true) (wq : World) (Q : Exit → Act → World → Prop) (x0 x1 x2 x3 x5 x6 x7 x8 x9 x10 x11 x12 x13 x14 x15 x16 x17 x18 x19 x20 x21 x22 x23 x24 x25 x26 x27 x28 x29 x30 x31 x32 x33 x34 x35 x36 x37 x38 x39 x40 x41 x42 x43 x44 x45 x46 x47 : Value)
    (hL : Ints wq wq.heap.size (.slice A1 l.length c1) l)
    (hH : Ints wq wq.heap.size (.slice A2 h.length c2) h)
    (bX : Box wq a1 35 #[.slice A1 l.length c1, .slice A2 h.length c2])
    (hQ : ∀ (y11 y12 y14 y15 : Value) (g1 g2 : Nat) (w14 : World), Row w14 g1 (sumsL l) → Row w14 g2 (sumsL h) → Below wq.heap.size wq w14 → Q .normal { tmps := #[x0, x1, x2, x3, .pointer (some ⟨a1, 0, none⟩), x5, x6, .slice (some ⟨g1, 0, none⟩) (l.length + 1) (l.length + 1), .slice (some ⟨g2, 0, none⟩) (h.length + 1) (h.length + 1), x9, x10, y11, y12, .slice (some ⟨g1, 0, none⟩) (l.length + 1) (l.length + 1), y14, y15, .slice (some ⟨g2, 0, none⟩) (h.length + 1) (h.length + 1), x17, x18, x19, x20, x21, x22, x23, x24, x25, x26, x27, x28, x29, x30, x31, x32, x33, x34, x35, x36, x37, x38, x39, x40, x41, x42, x43, x44, x45, x46, x47], defers := [] } w14) :
    (Code.region 1 #[{ dst := some 11, op := Op.fieldAddr 35 (Operand.tmp 4) 0, type := 0, pos := "prices.go:57", after := #[], guard := none }, { dst := some 12, op := Op.load 30 (Operand.tmp 11), type := 30, pos := "prices.go:57", after := #[{ on := 0, ground := Ground.data }], guard := none }, { dst := some 13, op := Op.call { callee := Callee.value (Operand.func 50), args := #[Operand.tmp 12], argTypes := #[30] }, type := 30, pos := "prices.go:57", after := #[{ on := 1, ground := Ground.data }], guard := none }, { dst := some 14, op := Op.fieldAddr 35 (Operand.tmp 4) 1, type := 0, pos := "prices.go:57", after := #[], guard := none }, { dst := some 15, op := Op.load 30 (Operand.tmp 14), type := 30, pos := "prices.go:57", after := #[{ on := 3, ground := Ground.data }], guard := none }, { dst := some 16, op := Op.call { callee := Callee.value (Operand.func 50), args := #[Operand.tmp 15], argTypes := #[30] }, type := 30, pos := "prices.go:57", after := #[{ on := 4, ground := Ground.data }, { on := 2, ground := Ground.chain }], guard := none }, { dst := some 7, op := Op.assign (Operand.tmp 13), type := 30, pos := "prices.go:57", after := #[{ on := 2, ground := Ground.data }, { on := 5, ground := Ground.chain }, { on := 0, ground := Ground.phase }, { on := 1, ground := Ground.phase }, { on := 2, ground := Ground.phase }, { on := 3, ground := Ground.textOnly Departure.lateStores }, { on := 4, ground := Ground.textOnly Departure.lateStores }, { on := 5, ground := Ground.textOnly Departure.lateStoresUnsure }], guard := none }, { dst := some 8, op := Op.assign (Operand.tmp 16), type := 30, pos := "prices.go:57", after := #[{ on := 5, ground := Ground.data }, { on := 6, ground := Ground.chain }, { on := 0, ground := Ground.phase }, { on := 1, ground := Ground.phase }, { on := 2, ground := Ground.phase }, { on := 3, ground := Ground.phase }, { on := 4, ground := Ground.phase }, { on := 5, ground := Ground.phase }, { on := 6, ground := Ground.phase }], guard := none }] true).wp Try.prog Q { tmps := #[x0, x1, x2, x3, .pointer (some ⟨a1, 0, none⟩), x5, x6, x7, x8, x9, x10, x11, x12, x13, x14, x15, x16, x17, x18, x19, x20, x21, x22, x23, x24, x25, x26, x27, x28, x29, x30, x31, x32, x33, x34, x35, x36, x37, x38, x39, x40, x41, x42, x43, x44, x45, x46, x47], defers := [] } wq := by
  have HQ := Lib.hid hQ
  clear hQ
  have hdr : Below wq.heap.size wq wq.drew := (Below.refl _ _).drew
  have hLd := hL.mono hdr hdr.size
  have hHd := hH.mono hdr hdr.size
  have l0 := bX.lt
  have hcall : ∀ X Y : World, (fun W => W.cell? ⟨a1, 0, none⟩ = some (.slice A1 l.length c1) ∧ W.cell? ⟨a1, 1, none⟩ = some (.slice A2 h.length c2) ∧ Below wq.heap.size wq W ∧ wq.heap.size ≤ W.heap.size) X → Below X.heap.size X Y → (fun W => W.cell? ⟨a1, 0, none⟩ = some (.slice A1 l.length c1) ∧ W.cell? ⟨a1, 1, none⟩ = some (.slice A2 h.length c2) ∧ Below wq.heap.size wq W ∧ wq.heap.size ≤ W.heap.size) Y := by
    rintro X Y ⟨z0, z1, xb, xs⟩ hb
    have hb2 := Below.mono (B' := wq.heap.size) hb xs
    exact ⟨keepd z0 hb2 l0, keepd z1 hb2 l0, Below.trans xb hb2, Nat.le_trans xs hb.size⟩
  have hini : (fun W => W.cell? ⟨a1, 0, none⟩ = some (.slice A1 l.length c1) ∧ W.cell? ⟨a1, 1, none⟩ = some (.slice A2 h.length c2) ∧ Below wq.heap.size wq W ∧ wq.heap.size ≤ W.heap.size) wq.drew := ⟨bX.cell 0, bX.cell 1, hdr, Nat.le_refl _⟩
  have Hcall := Lib.hid hcall
  have Hini := Lib.hid hini
  clear hL hH bX hdr l0 hcall hini
  refine wp_region_noPanic ?_
  refine wp_region_held_drew (S := (fun W => W.cell? ⟨a1, 0, none⟩ = some (.slice A1 l.length c1) ∧ W.cell? ⟨a1, 1, none⟩ = some (.slice A2 h.length c2) ∧ Below wq.heap.size wq W ∧ wq.heap.size ≤ W.heap.size)) (by kernel_rfl) Hini.out (fun hHeld => ?_)
  refine wpAnyH_take (i := 0) (oi := { dst := some 11, op := Op.fieldAddr 35 (Operand.tmp 4) 0, type := 0, pos := "prices.go:57", after := #[], guard := none }) (v := ?vh1) rfl ?hsh1 ?hfh1 ?hrh1 ?hQh1 ?hyh1 (by assumption) ?resth1
  case hsh1 => kernel_rfl
  case hfh1 => kernel_rfl
  case hrh1 => kernel_rfl
  case hQh1 => exact fun _ _ _ h => h
  case hyh1 => (refine Or.inl ⟨by rfl, ?_⟩; intro w hSw; (try dsimp only at hSw); go_simp; try with_reducible rfl)
  try simp only [Act.put, List.setIfInBounds_toArray, List.set_cons_zero, List.set_cons_succ]
  refine wpAnyH_take (i := 1) (oi := { dst := some 12, op := Op.load 30 (Operand.tmp 11), type := 30, pos := "prices.go:57", after := #[{ on := 0, ground := Ground.data }], guard := none }) (v := ?vh2) rfl ?hsh2 ?hfh2 ?hrh2 ?hQh2 ?hyh2 (by assumption) ?resth2
  case hsh2 => kernel_rfl
  case hfh2 => kernel_rfl
  case hrh2 => kernel_rfl
  case hQh2 => exact fun _ _ _ h => h
  case hyh2 => (refine Or.inl ⟨by rfl, ?_⟩; intro w hSw; (try dsimp only at hSw); go_simp; try with_reducible rfl)
  try simp only [Act.put, List.setIfInBounds_toArray, List.set_cons_zero, List.set_cons_succ]
  refine wpAnyH_take (i := 3) (oi := { dst := some 14, op := Op.fieldAddr 35 (Operand.tmp 4) 1, type := 0, pos := "prices.go:57", after := #[], guard := none }) (v := ?vh3) rfl ?hsh3 ?hfh3 ?hrh3 ?hQh3 ?hyh3 (by assumption) ?resth3
  case hsh3 => kernel_rfl
  case hfh3 => kernel_rfl
  case hrh3 => kernel_rfl
  case hQh3 => exact fun _ _ _ h => h
  case hyh3 => (refine Or.inl ⟨by rfl, ?_⟩; intro w hSw; (try dsimp only at hSw); go_simp; try with_reducible rfl)
  try simp only [Act.put, List.setIfInBounds_toArray, List.set_cons_zero, List.set_cons_succ]
  refine wpAnyH_take (i := 4) (oi := { dst := some 15, op := Op.load 30 (Operand.tmp 14), type := 30, pos := "prices.go:57", after := #[{ on := 3, ground := Ground.data }], guard := none }) (v := ?vh4) rfl ?hsh4 ?hfh4 ?hrh4 ?hQh4 ?hyh4 (by assumption) ?resth4
  case hsh4 => kernel_rfl
  case hfh4 => kernel_rfl
  case hrh4 => kernel_rfl
  case hQh4 => exact fun _ _ _ h => h
  case hyh4 => (refine Or.inl ⟨by rfl, ?_⟩; intro w hSw; (try dsimp only at hSw); go_simp; try with_reducible rfl)
  try simp only [Act.put, List.setIfInBounds_toArray, List.set_cons_zero, List.set_cons_succ]
  refine wpAnyH_ready (rs := [2]) (by kernel_rfl) (by simp) ?_
  refine AllReadyH.cons (o := _) (by rfl) (fun K hK => ?_) AllReadyH.nil
  go_simp
  go_at_call 50
  refine (sums_c l 100000 _ _ hLd hll (by omega) (by omega) hcl).mono ?_
  rintro e w10 ⟨rfl, hr10, hb10⟩
  have hH10 := hHd.mono hb10 hb10.size
  go_wp2_with fail
  refine hK.out _ _ (Hcall.out _ _ hHeld (by assumption)) (fun hHeld0 => ?_)
  clear hK K hHeld
  have hHeld := hHeld0
  clear hHeld0
  try simp only [Act.put, List.setIfInBounds_toArray, List.set_cons_zero, List.set_cons_succ]
  refine wpAnyH_ready (rs := [5]) (by kernel_rfl) (by simp) ?_
  refine AllReadyH.cons (o := _) (by rfl) (fun K hK => ?_) AllReadyH.nil
  go_simp
  go_at_call 50
  refine (sums_c h 100000 _ _ hH10 hhl (by omega) (by omega) hch).mono ?_
  rintro e w14 ⟨rfl, hr14, hb14⟩
  have hr10' := hr10.later hb14
  go_wp2_with fail
  refine hK.out _ _ (Hcall.out _ _ hHeld (by assumption)) (fun hHeld1 => ?_)
  clear hK K hHeld
  have hHeld := hHeld1
  clear hHeld1
  try simp only [Act.put, List.setIfInBounds_toArray, List.set_cons_zero, List.set_cons_succ]
  refine wpAnyH_take (i := 6) (oi := { dst := some 7, op := Op.assign (Operand.tmp 13), type := 30, pos := "prices.go:57", after := #[{ on := 2, ground := Ground.data }, { on := 5, ground := Ground.chain }, { on := 0, ground := Ground.phase }, { on := 1, ground := Ground.phase }, { on := 2, ground := Ground.phase }, { on := 3, ground := Ground.textOnly Departure.lateStores }, { on := 4, ground := Ground.textOnly Departure.lateStores }, { on := 5, ground := Ground.textOnly Departure.lateStoresUnsure }], guard := none }) (v := ?vh5) rfl ?hsh5 ?hfh5 ?hrh5 ?hQh5 ?hyh5 (by assumption) ?resth5
  case hsh5 => kernel_rfl
  case hfh5 => kernel_rfl
  case hrh5 => kernel_rfl
  case hQh5 => exact fun _ _ _ h => h
  case hyh5 => (refine Or.inl ⟨by rfl, ?_⟩; intro w hSw; (try dsimp only at hSw); go_simp; try with_reducible rfl)
  try simp only [Act.put, List.setIfInBounds_toArray, List.set_cons_zero, List.set_cons_succ]
  refine wpAnyH_take (i := 7) (oi := { dst := some 8, op := Op.assign (Operand.tmp 16), type := 30, pos := "prices.go:57", after := #[{ on := 5, ground := Ground.data }, { on := 6, ground := Ground.chain }, { on := 0, ground := Ground.phase }, { on := 1, ground := Ground.phase }, { on := 2, ground := Ground.phase }, { on := 3, ground := Ground.phase }, { on := 4, ground := Ground.phase }, { on := 5, ground := Ground.phase }, { on := 6, ground := Ground.phase }], guard := none }) (v := ?vh6) rfl ?hsh6 ?hfh6 ?hrh6 ?hQh6 ?hyh6 (by assumption) ?resth6
  case hsh6 => kernel_rfl
  case hfh6 => kernel_rfl
  case hrh6 => kernel_rfl
  case hQh6 => exact fun _ _ _ h => h
  case hyh6 => (refine Or.inl ⟨by rfl, ?_⟩; intro w hSw; (try dsimp only at hSw); go_simp; try with_reducible rfl)
  try simp only [Act.put, List.setIfInBounds_toArray, List.set_cons_zero, List.set_cons_succ]
  refine wpAnyH_done (by kernel_rfl) ?_ _
  refine NoPanic.normal ?_
  obtain ⟨-, -, xb, -⟩ := hHeld
  exact HQ.out _ _ _ _ _ _ _ hr10' hr14 xb

end Go.Proofs.Ytfafjojoapcliaa

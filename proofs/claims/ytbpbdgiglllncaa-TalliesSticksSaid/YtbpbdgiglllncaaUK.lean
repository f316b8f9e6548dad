/- Layer 9: sticks: Sizes: the program's answers. -/
import Derived.Test.YtbpbdgiglllncaaUJ
set_option linter.all false
namespace Go.Proofs.Ytbpbdgiglllncaa
open Go.RowKit

set_option maxRecDepth 100000 in
set_option maxHeartbeats 8000000 in
theorem Sizes_c (b base : Nat) (v1 v2 : Value) (S F : List Int) (d1 d2 : Nat) (w : World) (h : StkP w b base v1 v2 S F d1 d2) : Calls Try.prog 28 #[.pointer (some ⟨b, 0, none⟩)] w fun e w' => e = .returned (.tuple #[.int .i64 (d1 : Int), .int .i64 ((S.length : Int) - (d1 : Int)), .int .i64 (d2 : Int), .int .i64 ((F.length : Int) - (d2 : Int))]) ∧ Below w.heap.size w w' := by
  have H := Lib.hid h
  obtain ⟨A1, c1, rfl⟩ := own_shape h.o1
  obtain ⟨A2, c2, rfl⟩ := own_shape h.o2
  have HBOX := Lib.hid h.box
  have HB0 := Lib.hid (Below.refl w.heap.size w)
  have k1 := Lib.hid (fun (W : World) (q0 : W.cell? ⟨b, 0, none⟩ = some (.slice A1 S.length c1)) (q1 : W.cell? ⟨b, 1, none⟩ = some (.int .i64 (d1 : Int))) => pending_c b 0 A1 S.length c1 (d1 : Int) W q0 q1 (by have := H.out.s1; omega) (by omega) (by have := H.out.l1; omega))
  have k2 := Lib.hid (fun (W : World) (q0 : W.cell? ⟨b, 2, none⟩ = some (.slice A2 F.length c2)) (q1 : W.cell? ⟨b, 3, none⟩ = some (.int .i64 (d2 : Int))) => pending_c b 2 A2 F.length c2 (d2 : Int) W q0 q1 (by have := H.out.s2; omega) (by omega) (by have := H.out.l2; omega))
  clear h
  go_enter Try.func28, Try.ntmps28
  go_wp2_with fail
  have hdr9 : Below (w).heap.size (w) (w).drew := (Below.refl _ _).drew
  have lt5 := HBOX.out.lt
  have lt6 := HBOX.out.lt
  have lt7 := HBOX.out.lt
  have lt8 := HBOX.out.lt
  have hcall10 : ∀ X Y : World, (fun Wz => Wz.cell? ⟨b, 0, none⟩ = some (.slice A1 S.length c1) ∧ Wz.cell? ⟨b, 1, none⟩ = some (.int .i64 (d1 : Int)) ∧ Wz.cell? ⟨b, 2, none⟩ = some (.slice A2 F.length c2) ∧ Wz.cell? ⟨b, 3, none⟩ = some (.int .i64 (d2 : Int)) ∧ (w).heap.size ≤ Wz.heap.size) X → Below X.heap.size X Y → (fun Wz => Wz.cell? ⟨b, 0, none⟩ = some (.slice A1 S.length c1) ∧ Wz.cell? ⟨b, 1, none⟩ = some (.int .i64 (d1 : Int)) ∧ Wz.cell? ⟨b, 2, none⟩ = some (.slice A2 F.length c2) ∧ Wz.cell? ⟨b, 3, none⟩ = some (.int .i64 (d2 : Int)) ∧ (w).heap.size ≤ Wz.heap.size) Y := by
    rintro X Y ⟨z1, z2, z3, z4, xs⟩ hb
    have hb2 := Below.mono (B' := (w).heap.size) hb xs
    exact ⟨keepd z1 hb2 lt5, keepd z2 hb2 lt6, keepd z3 hb2 lt7, keepd z4 hb2 lt8, Nat.le_trans xs hb.size⟩
  have hini11 : (fun Wz => Wz.cell? ⟨b, 0, none⟩ = some (.slice A1 S.length c1) ∧ Wz.cell? ⟨b, 1, none⟩ = some (.int .i64 (d1 : Int)) ∧ Wz.cell? ⟨b, 2, none⟩ = some (.slice A2 F.length c2) ∧ Wz.cell? ⟨b, 3, none⟩ = some (.int .i64 (d2 : Int)) ∧ (w).heap.size ≤ Wz.heap.size) (w).drew := ⟨keepd (HBOX.out.cell 0) hdr9 lt5, keepd (HBOX.out.cell 1) hdr9 lt6, keepd (HBOX.out.cell 2) hdr9 lt7, keepd (HBOX.out.cell 3) hdr9 lt8, Nat.le_refl _⟩
  have Hcall10 := Lib.hid hcall10
  have Hini11 := Lib.hid hini11
  clear hcall10 hini11 lt5 lt6 lt7 lt8
  refine wp_region_noPanic ?_
  refine wp_region_held_drew (S := (fun Wz => Wz.cell? ⟨b, 0, none⟩ = some (.slice A1 S.length c1) ∧ Wz.cell? ⟨b, 1, none⟩ = some (.int .i64 (d1 : Int)) ∧ Wz.cell? ⟨b, 2, none⟩ = some (.slice A2 F.length c2) ∧ Wz.cell? ⟨b, 3, none⟩ = some (.int .i64 (d2 : Int)) ∧ (w).heap.size ≤ Wz.heap.size)) (by kernel_rfl) Hini11.out (fun hHeld => ?_)
  obtain ⟨W13, hW14⟩ : ∃ Wzz, (w).drew = Wzz := ⟨_, rfl⟩
  rw [hW14] at hHeld hdr9 ⊢
  clear hW14
  have X15 := Lib.hid (HBOX.out.later hdr9)
  have B16 := Lib.hid (HB0.out.trans (hdr9.mono HB0.out.size))
  clear hdr9
  refine wpAnyH_take (i := 0) (oi := { dst := some 8, op := Op.move (Operand.tmp 0), type := 56, pos := "sticks.go:64", after := #[], guard := none }) (v := ?vh17) rfl ?hsh17 ?hfh17 ?hrh17 ?hQh17 ?hyh17 (by assumption) ?resth17
  case hsh17 => kernel_rfl
  case hfh17 => kernel_rfl
  case hrh17 => kernel_rfl
  case hQh17 => exact fun _ _ _ h => h
  case hyh17 => (refine Or.inl ⟨by rfl, ?_⟩; intro w hSw; (try dsimp only at hSw); go_simp; try with_reducible rfl)
  try simp only [Act.put, List.setIfInBounds_toArray, List.set_cons_zero, List.set_cons_succ]
  refine wpAnyH_take (i := 1) (oi := { dst := some 9, op := Op.nilCheck (Operand.tmp 8), type := 0, pos := "sticks.go:64", after := #[{ on := 0, ground := Ground.data }], guard := none }) (v := ?vh18) rfl ?hsh18 ?hfh18 ?hrh18 ?hQh18 ?hyh18 (by assumption) ?resth18
  case hsh18 => kernel_rfl
  case hfh18 => kernel_rfl
  case hrh18 => kernel_rfl
  case hQh18 => exact fun _ _ _ h => h
  case hyh18 => (refine Or.inl ⟨by rfl, ?_⟩; intro w hSw; (try dsimp only at hSw); go_simp; try with_reducible rfl)
  try simp only [Act.put, List.setIfInBounds_toArray, List.set_cons_zero, List.set_cons_succ]
  refine wpAnyH_take (i := 2) (oi := { dst := some 10, op := Op.fieldAddr 94 (Operand.tmp 9) 0, type := 0, pos := "sticks.go:64", after := #[{ on := 1, ground := Ground.data }], guard := none }) (v := ?vh19) rfl ?hsh19 ?hfh19 ?hrh19 ?hQh19 ?hyh19 (by assumption) ?resth19
  case hsh19 => kernel_rfl
  case hfh19 => kernel_rfl
  case hrh19 => kernel_rfl
  case hQh19 => exact fun _ _ _ h => h
  case hyh19 => (refine Or.inl ⟨by rfl, ?_⟩; intro w hSw; (try dsimp only at hSw); go_simp; try with_reducible rfl)
  try simp only [Act.put, List.setIfInBounds_toArray, List.set_cons_zero, List.set_cons_succ]
  refine wpAnyH_take (i := 3) (oi := { dst := some 11, op := Op.fieldAddr 91 (Operand.tmp 10) 0, type := 0, pos := "sticks.go:64", after := #[{ on := 2, ground := Ground.data }], guard := none }) (v := ?vh20) rfl ?hsh20 ?hfh20 ?hrh20 ?hQh20 ?hyh20 (by assumption) ?resth20
  case hsh20 => kernel_rfl
  case hfh20 => kernel_rfl
  case hrh20 => kernel_rfl
  case hQh20 => exact fun _ _ _ h => h
  case hyh20 => (refine Or.inl ⟨by rfl, ?_⟩; intro w hSw; (try dsimp only at hSw); go_simp; try with_reducible rfl)
  try simp only [Act.put, List.setIfInBounds_toArray, List.set_cons_zero, List.set_cons_succ]
  refine wpAnyH_take (i := 4) (oi := { dst := some 12, op := Op.fieldAddr 89 (Operand.tmp 11) 1, type := 0, pos := "sticks.go:64", after := #[{ on := 3, ground := Ground.data }], guard := none }) (v := ?vh21) rfl ?hsh21 ?hfh21 ?hrh21 ?hQh21 ?hyh21 (by assumption) ?resth21
  case hsh21 => kernel_rfl
  case hfh21 => kernel_rfl
  case hrh21 => kernel_rfl
  case hQh21 => exact fun _ _ _ h => h
  case hyh21 => (refine Or.inl ⟨by rfl, ?_⟩; intro w hSw; (try dsimp only at hSw); go_simp; try with_reducible rfl)
  try simp only [Act.put, List.setIfInBounds_toArray, List.set_cons_zero, List.set_cons_succ]
  refine wpAnyH_take (i := 5) (oi := { dst := some 13, op := Op.load 3 (Operand.tmp 12), type := 3, pos := "sticks.go:64", after := #[{ on := 4, ground := Ground.data }], guard := none }) (v := ?vh22) rfl ?hsh22 ?hfh22 ?hrh22 ?hQh22 ?hyh22 (by assumption) ?resth22
  case hsh22 => kernel_rfl
  case hfh22 => kernel_rfl
  case hrh22 => kernel_rfl
  case hQh22 => exact fun _ _ _ h => h
  case hyh22 => (refine Or.inl ⟨by rfl, ?_⟩; intro w hSw; (try dsimp only at hSw); go_simp; try with_reducible rfl)
  try simp only [Act.put, List.setIfInBounds_toArray, List.set_cons_zero, List.set_cons_succ]
  refine wpAnyH_take (i := 6) (oi := { dst := some 14, op := Op.move (Operand.tmp 0), type := 56, pos := "sticks.go:64", after := #[], guard := none }) (v := ?vh23) rfl ?hsh23 ?hfh23 ?hrh23 ?hQh23 ?hyh23 (by assumption) ?resth23
  case hsh23 => kernel_rfl
  case hfh23 => kernel_rfl
  case hrh23 => kernel_rfl
  case hQh23 => exact fun _ _ _ h => h
  case hyh23 => (refine Or.inl ⟨by rfl, ?_⟩; intro w hSw; (try dsimp only at hSw); go_simp; try with_reducible rfl)
  try simp only [Act.put, List.setIfInBounds_toArray, List.set_cons_zero, List.set_cons_succ]
  refine wpAnyH_take (i := 7) (oi := { dst := some 15, op := Op.nilCheck (Operand.tmp 14), type := 0, pos := "sticks.go:64", after := #[{ on := 6, ground := Ground.data }], guard := none }) (v := ?vh24) rfl ?hsh24 ?hfh24 ?hrh24 ?hQh24 ?hyh24 (by assumption) ?resth24
  case hsh24 => kernel_rfl
  case hfh24 => kernel_rfl
  case hrh24 => kernel_rfl
  case hQh24 => exact fun _ _ _ h => h
  case hyh24 => (refine Or.inl ⟨by rfl, ?_⟩; intro w hSw; (try dsimp only at hSw); go_simp; try with_reducible rfl)
  try simp only [Act.put, List.setIfInBounds_toArray, List.set_cons_zero, List.set_cons_succ]
  refine wpAnyH_take (i := 8) (oi := { dst := some 16, op := Op.fieldAddr 94 (Operand.tmp 15) 0, type := 0, pos := "sticks.go:64", after := #[{ on := 7, ground := Ground.data }], guard := none }) (v := ?vh25) rfl ?hsh25 ?hfh25 ?hrh25 ?hQh25 ?hyh25 (by assumption) ?resth25
  case hsh25 => kernel_rfl
  case hfh25 => kernel_rfl
  case hrh25 => kernel_rfl
  case hQh25 => exact fun _ _ _ h => h
  case hyh25 => (refine Or.inl ⟨by rfl, ?_⟩; intro w hSw; (try dsimp only at hSw); go_simp; try with_reducible rfl)
  try simp only [Act.put, List.setIfInBounds_toArray, List.set_cons_zero, List.set_cons_succ]
  refine wpAnyH_take (i := 9) (oi := { dst := some 17, op := Op.fieldAddr 91 (Operand.tmp 16) 0, type := 0, pos := "sticks.go:64", after := #[{ on := 8, ground := Ground.data }], guard := none }) (v := ?vh26) rfl ?hsh26 ?hfh26 ?hrh26 ?hQh26 ?hyh26 (by assumption) ?resth26
  case hsh26 => kernel_rfl
  case hfh26 => kernel_rfl
  case hrh26 => kernel_rfl
  case hQh26 => exact fun _ _ _ h => h
  case hyh26 => (refine Or.inl ⟨by rfl, ?_⟩; intro w hSw; (try dsimp only at hSw); go_simp; try with_reducible rfl)
  try simp only [Act.put, List.setIfInBounds_toArray, List.set_cons_zero, List.set_cons_succ]
  refine wpAnyH_take (i := 11) (oi := { dst := some 19, op := Op.move (Operand.tmp 0), type := 56, pos := "sticks.go:64", after := #[{ on := 23, ground := Ground.gcOnly Departure.lateStores }], guard := none }) (v := ?vh27) rfl ?hsh27 ?hfh27 ?hrh27 ?hQh27 ?hyh27 (by assumption) ?resth27
  case hsh27 => kernel_rfl
  case hfh27 => kernel_rfl
  case hrh27 => kernel_rfl
  case hQh27 => exact fun _ _ _ h => h
  case hyh27 => (refine Or.inl ⟨by rfl, ?_⟩; intro w hSw; (try dsimp only at hSw); go_simp; try with_reducible rfl)
  try simp only [Act.put, List.setIfInBounds_toArray, List.set_cons_zero, List.set_cons_succ]
  refine wpAnyH_take (i := 12) (oi := { dst := some 20, op := Op.nilCheck (Operand.tmp 19), type := 0, pos := "sticks.go:64", after := #[{ on := 11, ground := Ground.data }, { on := 23, ground := Ground.gcOnly Departure.lateStores }], guard := none }) (v := ?vh28) rfl ?hsh28 ?hfh28 ?hrh28 ?hQh28 ?hyh28 (by assumption) ?resth28
  case hsh28 => kernel_rfl
  case hfh28 => kernel_rfl
  case hrh28 => kernel_rfl
  case hQh28 => exact fun _ _ _ h => h
  case hyh28 => (refine Or.inl ⟨by rfl, ?_⟩; intro w hSw; (try dsimp only at hSw); go_simp; try with_reducible rfl)
  try simp only [Act.put, List.setIfInBounds_toArray, List.set_cons_zero, List.set_cons_succ]
  refine wpAnyH_take (i := 13) (oi := { dst := some 21, op := Op.fieldAddr 94 (Operand.tmp 20) 1, type := 0, pos := "sticks.go:64", after := #[{ on := 12, ground := Ground.data }, { on := 23, ground := Ground.gcOnly Departure.lateStores }], guard := none }) (v := ?vh29) rfl ?hsh29 ?hfh29 ?hrh29 ?hQh29 ?hyh29 (by assumption) ?resth29
  case hsh29 => kernel_rfl
  case hfh29 => kernel_rfl
  case hrh29 => kernel_rfl
  case hQh29 => exact fun _ _ _ h => h
  case hyh29 => (refine Or.inl ⟨by rfl, ?_⟩; intro w hSw; (try dsimp only at hSw); go_simp; try with_reducible rfl)
  try simp only [Act.put, List.setIfInBounds_toArray, List.set_cons_zero, List.set_cons_succ]
  refine wpAnyH_take (i := 14) (oi := { dst := some 22, op := Op.fieldAddr 92 (Operand.tmp 21) 0, type := 0, pos := "sticks.go:64", after := #[{ on := 13, ground := Ground.data }, { on := 23, ground := Ground.gcOnly Departure.lateStores }], guard := none }) (v := ?vh30) rfl ?hsh30 ?hfh30 ?hrh30 ?hQh30 ?hyh30 (by assumption) ?resth30
  case hsh30 => kernel_rfl
  case hfh30 => kernel_rfl
  case hrh30 => kernel_rfl
  case hQh30 => exact fun _ _ _ h => h
  case hyh30 => (refine Or.inl ⟨by rfl, ?_⟩; intro w hSw; (try dsimp only at hSw); go_simp; try with_reducible rfl)
  try simp only [Act.put, List.setIfInBounds_toArray, List.set_cons_zero, List.set_cons_succ]
  refine wpAnyH_take (i := 15) (oi := { dst := some 23, op := Op.fieldAddr 89 (Operand.tmp 22) 1, type := 0, pos := "sticks.go:64", after := #[{ on := 14, ground := Ground.data }, { on := 23, ground := Ground.gcOnly Departure.lateStores }], guard := none }) (v := ?vh31) rfl ?hsh31 ?hfh31 ?hrh31 ?hQh31 ?hyh31 (by assumption) ?resth31
  case hsh31 => kernel_rfl
  case hfh31 => kernel_rfl
  case hrh31 => kernel_rfl
  case hQh31 => exact fun _ _ _ h => h
  case hyh31 => (refine Or.inl ⟨by rfl, ?_⟩; intro w hSw; (try dsimp only at hSw); go_simp; try with_reducible rfl)
  try simp only [Act.put, List.setIfInBounds_toArray, List.set_cons_zero, List.set_cons_succ]
  refine wpAnyH_take (i := 16) (oi := { dst := some 24, op := Op.load 3 (Operand.tmp 23), type := 3, pos := "sticks.go:64", after := #[{ on := 15, ground := Ground.data }, { on := 23, ground := Ground.gcOnly Departure.lateStores }], guard := none }) (v := ?vh32) rfl ?hsh32 ?hfh32 ?hrh32 ?hQh32 ?hyh32 (by assumption) ?resth32
  case hsh32 => kernel_rfl
  case hfh32 => kernel_rfl
  case hrh32 => kernel_rfl
  case hQh32 => exact fun _ _ _ h => h
  case hyh32 => (refine Or.inl ⟨by rfl, ?_⟩; intro w hSw; (try dsimp only at hSw); go_simp; try with_reducible rfl)
  try simp only [Act.put, List.setIfInBounds_toArray, List.set_cons_zero, List.set_cons_succ]
  refine wpAnyH_take (i := 17) (oi := { dst := some 25, op := Op.move (Operand.tmp 0), type := 56, pos := "sticks.go:64", after := #[], guard := none }) (v := ?vh33) rfl ?hsh33 ?hfh33 ?hrh33 ?hQh33 ?hyh33 (by assumption) ?resth33
  case hsh33 => kernel_rfl
  case hfh33 => kernel_rfl
  case hrh33 => kernel_rfl
  case hQh33 => exact fun _ _ _ h => h
  case hyh33 => (refine Or.inl ⟨by rfl, ?_⟩; intro w hSw; (try dsimp only at hSw); go_simp; try with_reducible rfl)
  try simp only [Act.put, List.setIfInBounds_toArray, List.set_cons_zero, List.set_cons_succ]
  refine wpAnyH_take (i := 18) (oi := { dst := some 26, op := Op.nilCheck (Operand.tmp 25), type := 0, pos := "sticks.go:64", after := #[{ on := 17, ground := Ground.data }], guard := none }) (v := ?vh34) rfl ?hsh34 ?hfh34 ?hrh34 ?hQh34 ?hyh34 (by assumption) ?resth34
  case hsh34 => kernel_rfl
  case hfh34 => kernel_rfl
  case hrh34 => kernel_rfl
  case hQh34 => exact fun _ _ _ h => h
  case hyh34 => (refine Or.inl ⟨by rfl, ?_⟩; intro w hSw; (try dsimp only at hSw); go_simp; try with_reducible rfl)
  try simp only [Act.put, List.setIfInBounds_toArray, List.set_cons_zero, List.set_cons_succ]
  refine wpAnyH_take (i := 19) (oi := { dst := some 27, op := Op.fieldAddr 94 (Operand.tmp 26) 1, type := 0, pos := "sticks.go:64", after := #[{ on := 18, ground := Ground.data }], guard := none }) (v := ?vh35) rfl ?hsh35 ?hfh35 ?hrh35 ?hQh35 ?hyh35 (by assumption) ?resth35
  case hsh35 => kernel_rfl
  case hfh35 => kernel_rfl
  case hrh35 => kernel_rfl
  case hQh35 => exact fun _ _ _ h => h
  case hyh35 => (refine Or.inl ⟨by rfl, ?_⟩; intro w hSw; (try dsimp only at hSw); go_simp; try with_reducible rfl)
  try simp only [Act.put, List.setIfInBounds_toArray, List.set_cons_zero, List.set_cons_succ]
  refine wpAnyH_take (i := 20) (oi := { dst := some 28, op := Op.fieldAddr 92 (Operand.tmp 27) 0, type := 0, pos := "sticks.go:64", after := #[{ on := 19, ground := Ground.data }], guard := none }) (v := ?vh36) rfl ?hsh36 ?hfh36 ?hrh36 ?hQh36 ?hyh36 (by assumption) ?resth36
  case hsh36 => kernel_rfl
  case hfh36 => kernel_rfl
  case hrh36 => kernel_rfl
  case hQh36 => exact fun _ _ _ h => h
  case hyh36 => (refine Or.inl ⟨by rfl, ?_⟩; intro w hSw; (try dsimp only at hSw); go_simp; try with_reducible rfl)
  try simp only [Act.put, List.setIfInBounds_toArray, List.set_cons_zero, List.set_cons_succ]
  refine wpAnyH_ready (rs := [10]) (by kernel_rfl) (by simp) ?_
  refine AllReadyH.cons (o := _) (by rfl) (fun K hK => ?_) AllReadyH.nil
  go_simp
  go_at_call 51
  refine (k1.out _ (X15.out.cell 0) (X15.out.cell 1)).mono ?_; rintro e v37 ⟨rfl, hb38⟩
  have X39 := Lib.hid (X15.out.later hb38)
  have B40 := Lib.hid (B16.out.trans (hb38.mono B16.out.size))
  clear X15 B16
  go_wp2_with fail
  refine hK.out _ _ (Hcall10.out _ _ hHeld (by assumption)) (fun hHeld41 => ?_)
  clear hK K hHeld
  clear hb38
  have hHeld := hHeld41
  clear hHeld41
  try simp only [Act.put, List.setIfInBounds_toArray, List.set_cons_zero, List.set_cons_succ]
  refine wpAnyH_ready (rs := [21]) (by kernel_rfl) (by simp) ?_
  refine AllReadyH.cons (o := _) (by rfl) (fun K hK => ?_) AllReadyH.nil
  go_simp
  go_at_call 51
  refine (k2.out _ (X39.out.cell 2) (X39.out.cell 3)).mono ?_; rintro e v42 ⟨rfl, hb43⟩
  have X44 := Lib.hid (X39.out.later hb43)
  have B45 := Lib.hid (B40.out.trans (hb43.mono B40.out.size))
  clear X39 B40
  go_wp2_with fail
  refine hK.out _ _ (Hcall10.out _ _ hHeld (by assumption)) (fun hHeld46 => ?_)
  clear hK K hHeld
  clear hb43
  have hHeld := hHeld46
  clear hHeld46
  try simp only [Act.put, List.setIfInBounds_toArray, List.set_cons_zero, List.set_cons_succ]
  refine wpAnyH_take (i := 22) (oi := { dst := some 2, op := Op.assign (Operand.tmp 13), type := 3, pos := "sticks.go:64", after := #[{ on := 5, ground := Ground.data }, { on := 21, ground := Ground.chain }, { on := 0, ground := Ground.phase }, { on := 1, ground := Ground.phase }, { on := 2, ground := Ground.phase }, { on := 3, ground := Ground.phase }, { on := 4, ground := Ground.phase }, { on := 5, ground := Ground.phase }, { on := 6, ground := Ground.textOnly Departure.lateStores }, { on := 7, ground := Ground.textOnly Departure.lateStores }, { on := 8, ground := Ground.textOnly Departure.lateStores }, { on := 9, ground := Ground.textOnly Departure.lateStores }, { on := 10, ground := Ground.textOnly Departure.lateStoresUnsure }, { on := 11, ground := Ground.textOnly Departure.lateStores }, { on := 12, ground := Ground.textOnly Departure.lateStores }, { on := 13, ground := Ground.textOnly Departure.lateStores }, { on := 14, ground := Ground.textOnly Departure.lateStores }, { on := 15, ground := Ground.textOnly Departure.lateStores }, { on := 16, ground := Ground.textOnly Departure.lateStores }, { on := 17, ground := Ground.textOnly Departure.lateStores }, { on := 18, ground := Ground.textOnly Departure.lateStores }, { on := 19, ground := Ground.textOnly Departure.lateStores }, { on := 20, ground := Ground.textOnly Departure.lateStores }, { on := 21, ground := Ground.textOnly Departure.lateStoresUnsure }], guard := none }) (v := ?vh47) rfl ?hsh47 ?hfh47 ?hrh47 ?hQh47 ?hyh47 (by assumption) ?resth47
  case hsh47 => kernel_rfl
  case hfh47 => kernel_rfl
  case hrh47 => kernel_rfl
  case hQh47 => exact fun _ _ _ h => h
  case hyh47 => (refine Or.inl ⟨by rfl, ?_⟩; intro w hSw; (try dsimp only at hSw); go_simp; try with_reducible rfl)
  try simp only [Act.put, List.setIfInBounds_toArray, List.set_cons_zero, List.set_cons_succ]
  refine wpAnyH_take (i := 23) (oi := { dst := some 3, op := Op.assign (Operand.tmp 18), type := 3, pos := "sticks.go:64", after := #[{ on := 10, ground := Ground.data }, { on := 22, ground := Ground.chain }, { on := 0, ground := Ground.phase }, { on := 1, ground := Ground.phase }, { on := 2, ground := Ground.phase }, { on := 3, ground := Ground.phase }, { on := 4, ground := Ground.phase }, { on := 5, ground := Ground.phase }, { on := 6, ground := Ground.phase }, { on := 7, ground := Ground.phase }, { on := 8, ground := Ground.phase }, { on := 9, ground := Ground.phase }, { on := 10, ground := Ground.phase }, { on := 11, ground := Ground.textOnly Departure.lateStores }, { on := 12, ground := Ground.textOnly Departure.lateStores }, { on := 13, ground := Ground.textOnly Departure.lateStores }, { on := 14, ground := Ground.textOnly Departure.lateStores }, { on := 15, ground := Ground.textOnly Departure.lateStores }, { on := 16, ground := Ground.textOnly Departure.lateStores }, { on := 17, ground := Ground.textOnly Departure.lateStores }, { on := 18, ground := Ground.textOnly Departure.lateStores }, { on := 19, ground := Ground.textOnly Departure.lateStores }, { on := 20, ground := Ground.textOnly Departure.lateStores }, { on := 21, ground := Ground.textOnly Departure.lateStoresUnsure }, { on := 22, ground := Ground.phase }], guard := none }) (v := ?vh48) rfl ?hsh48 ?hfh48 ?hrh48 ?hQh48 ?hyh48 (by assumption) ?resth48
  case hsh48 => kernel_rfl
  case hfh48 => kernel_rfl
  case hrh48 => kernel_rfl
  case hQh48 => exact fun _ _ _ h => h
  case hyh48 => (refine Or.inl ⟨by rfl, ?_⟩; intro w hSw; (try dsimp only at hSw); go_simp; try with_reducible rfl)
  try simp only [Act.put, List.setIfInBounds_toArray, List.set_cons_zero, List.set_cons_succ]
  refine wpAnyH_take (i := 24) (oi := { dst := some 4, op := Op.assign (Operand.tmp 24), type := 3, pos := "sticks.go:64", after := #[{ on := 16, ground := Ground.data }, { on := 23, ground := Ground.chain }, { on := 0, ground := Ground.phase }, { on := 1, ground := Ground.phase }, { on := 2, ground := Ground.phase }, { on := 3, ground := Ground.phase }, { on := 4, ground := Ground.phase }, { on := 5, ground := Ground.phase }, { on := 6, ground := Ground.phase }, { on := 7, ground := Ground.phase }, { on := 8, ground := Ground.phase }, { on := 9, ground := Ground.phase }, { on := 10, ground := Ground.phase }, { on := 11, ground := Ground.phase }, { on := 12, ground := Ground.phase }, { on := 13, ground := Ground.phase }, { on := 14, ground := Ground.phase }, { on := 15, ground := Ground.phase }, { on := 16, ground := Ground.phase }, { on := 17, ground := Ground.textOnly Departure.lateStores }, { on := 18, ground := Ground.textOnly Departure.lateStores }, { on := 19, ground := Ground.textOnly Departure.lateStores }, { on := 20, ground := Ground.textOnly Departure.lateStores }, { on := 21, ground := Ground.textOnly Departure.lateStoresUnsure }, { on := 22, ground := Ground.phase }, { on := 23, ground := Ground.phase }], guard := none }) (v := ?vh49) rfl ?hsh49 ?hfh49 ?hrh49 ?hQh49 ?hyh49 (by assumption) ?resth49
  case hsh49 => kernel_rfl
  case hfh49 => kernel_rfl
  case hrh49 => kernel_rfl
  case hQh49 => exact fun _ _ _ h => h
  case hyh49 => (refine Or.inl ⟨by rfl, ?_⟩; intro w hSw; (try dsimp only at hSw); go_simp; try with_reducible rfl)
  try simp only [Act.put, List.setIfInBounds_toArray, List.set_cons_zero, List.set_cons_succ]
  refine wpAnyH_take (i := 25) (oi := { dst := some 5, op := Op.assign (Operand.tmp 29), type := 3, pos := "sticks.go:64", after := #[{ on := 21, ground := Ground.data }, { on := 24, ground := Ground.chain }, { on := 0, ground := Ground.phase }, { on := 1, ground := Ground.phase }, { on := 2, ground := Ground.phase }, { on := 3, ground := Ground.phase }, { on := 4, ground := Ground.phase }, { on := 5, ground := Ground.phase }, { on := 6, ground := Ground.phase }, { on := 7, ground := Ground.phase }, { on := 8, ground := Ground.phase }, { on := 9, ground := Ground.phase }, { on := 10, ground := Ground.phase }, { on := 11, ground := Ground.phase }, { on := 12, ground := Ground.phase }, { on := 13, ground := Ground.phase }, { on := 14, ground := Ground.phase }, { on := 15, ground := Ground.phase }, { on := 16, ground := Ground.phase }, { on := 17, ground := Ground.phase }, { on := 18, ground := Ground.phase }, { on := 19, ground := Ground.phase }, { on := 20, ground := Ground.phase }, { on := 21, ground := Ground.phase }, { on := 22, ground := Ground.phase }, { on := 23, ground := Ground.phase }, { on := 24, ground := Ground.phase }], guard := none }) (v := ?vh50) rfl ?hsh50 ?hfh50 ?hrh50 ?hQh50 ?hyh50 (by assumption) ?resth50
  case hsh50 => kernel_rfl
  case hfh50 => kernel_rfl
  case hrh50 => kernel_rfl
  case hQh50 => exact fun _ _ _ h => h
  case hyh50 => (refine Or.inl ⟨by rfl, ?_⟩; intro w hSw; (try dsimp only at hSw); go_simp; try with_reducible rfl)
  try simp only [Act.put, List.setIfInBounds_toArray, List.set_cons_zero, List.set_cons_succ]
  refine wpAnyH_done (by kernel_rfl) ?_ _
  refine NoPanic.normal ?_
  clear hHeld Hcall10 Hini11
  have q51 : v42.cell? ⟨b, 0, none⟩ = some (.slice A1 S.length c1) := X44.out.cell 0
  have q52 : v42.cell? ⟨b, 1, none⟩ = some (.int .i64 (d1 : Int)) := X44.out.cell 1
  have q53 : v42.cell? ⟨b, 2, none⟩ = some (.slice A2 F.length c2) := X44.out.cell 2
  have q54 : v42.cell? ⟨b, 3, none⟩ = some (.int .i64 (d2 : Int)) := X44.out.cell 3
  go_wp2_with fail
  exact bodyPost_ret (v := .tuple #[.int .i64 (d1 : Int), .int .i64 ((S.length : Int) - (d1 : Int)), .int .i64 (d2 : Int), .int .i64 ((F.length : Int) - (d2 : Int))]) (by simp [results, Try.results28]) rfl ⟨rfl, B45.out⟩

end Go.Proofs.Ytbpbdgiglllncaa

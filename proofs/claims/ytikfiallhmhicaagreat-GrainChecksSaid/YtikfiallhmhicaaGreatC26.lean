/- Layer 2: a pair laid together: cells, lists of moves. -/
import Derived.Test.YtikfiallhmhicaaGreatC25
set_option linter.all false
namespace Go.Proofs.YtikfiallhmhicaaGreat
open Go.RowKit


theorem arnd_bd {n m : Int} (h : 0 < m) : 0 ≤ arnd n m ∧ arnd n m < m := ⟨Int.emod_nonneg _ (by omega), Int.emod_lt_of_pos _ h⟩
theorem cells_bd {R S a b : Int} (hS : 2 ≤ S ∧ S ≤ 96) (hR : R ≤ 24) (ha : 0 ≤ a ∧ a < R) (hb : 0 ≤ b ∧ b < S) : (0 ≤ a * S ∧ a * S ≤ 2304) ∧ 0 ≤ a * S + b ∧ a * S + b < R * S := by
  obtain ⟨m1, m2⟩ := mul_bd (a := a) (b := S) (m := 24) (n := 96) (by omega) (by omega) (by omega) (by omega)
  have h1 : a * S ≤ (R - 1) * S := Int.mul_le_mul_of_nonneg_right (by omega) (by omega)
  have h2 : (R - 1) * S = R * S - S := by rw [Int.sub_mul, Int.one_mul]
  exact ⟨⟨m1, by omega⟩, by omega, by omega⟩
set_option maxRecDepth 100000 in
set_option maxHeartbeats 8000000 in
theorem cells_c (p : Pr) (a b t : Int) (g : Nat) (w : World) (h : IsChart w g p) (h0 : ckE p = 0) (hs : hasB p ⟨a, b, t⟩ = true) : Calls Tryz.prog 127 #[.pointer (some ⟨g, 0, none⟩), .agg #[.int .i64 a, .int .i64 b, .int .i64 t]] w fun e w' => e = .returned (.tuple #[.int .i64 (belowI p ⟨a, b, t⟩), .int .i64 (aboveI p ⟨a, b, t⟩)]) ∧ Below w.heap.size w w' := by
  obtain ⟨hR, hS, -⟩ := ckE_bd h0
  obtain ⟨c1, c2, c3⟩ := hasB_parts.1 hs
  dsimp only at c1 c2 c3
  have HCH0 := Lib.hid h
  have HP := Lib.hid h0
  have HHS := Lib.hid hs
  have ha := arnd_bd (n := b - t) (m := p.bed.sectors) (by omega)
  obtain ⟨⟨m1, m2⟩, m3, m4⟩ := cells_bd hS hR.2 c1 c2
  obtain ⟨-, m5, m6⟩ := cells_bd hS hR.2 c1 ha
  obtain ⟨m7, m8⟩ := mul_bd (a := p.bed.rings) (b := p.bed.sectors) (m := 24) (n := 96) (by omega) (by omega) (by omega) (by omega)
  have HD := Lib.hid (show -p.bed.sectors ≤ b - t ∧ b - t ≤ 200 by omega)
  have HV0 : belowI p ⟨a, b, t⟩ = a * p.bed.sectors + b ∧ aboveI p ⟨a, b, t⟩ = a * p.bed.sectors + arnd (b - t) p.bed.sectors := ⟨rfl, rfl⟩
  have w1 : IntKind.i64.wrap (a * p.bed.sectors) = a * p.bed.sectors := wrap_id (by omega) (by omega)
  have w2 : IntKind.i64.wrap (a * p.bed.sectors + b) = a * p.bed.sectors + b := wrap_id (by omega) (by omega)
  have w3 : IntKind.i64.wrap (b - t) = b - t := wrap_id (by omega) (by omega)
  have w4 : IntKind.i64.wrap (a * p.bed.sectors + arnd (b - t) p.bed.sectors) = a * p.bed.sectors + arnd (b - t) p.bed.sectors := wrap_id (by omega) (by omega)
  obtain ⟨r, hr⟩ : ∃ r, arnd (b - t) p.bed.sectors = r := ⟨_, rfl⟩
  have HRR := Lib.hid hr
  rw [hr] at w4 HV0
  obtain ⟨x, hx⟩ : ∃ x, a * p.bed.sectors = x := ⟨_, rfl⟩
  have v1 : IntKind.i64.wrap (a * p.bed.sectors) = x := by rw [w1, hx]
  rw [hx] at w2 w4 HV0
  have HV := Lib.hid HV0
  clear h h0 hs hR hS c1 c2 c3 ha m1 m2 m3 m4 m5 m6 m7 m8 w1 hr hx HV0
  go_enter Tryz.func127, Tryz.ntmps127
  go_wp2_with fail
  obtain ⟨W1, hW2⟩ : ∃ Wzz, (w.alloc (.cells #[.int .i64 a, .int .i64 b, .int .i64 t] 46)) = Wzz := ⟨_, rfl⟩
  have B3 := Lib.hid (show Below w.heap.size w W1 by rw [← hW2]; exact ((Below.refl w.heap.size w).alloc (Nat.le_refl _) _))
  have X4 := Lib.hid (show Box W1 (w.heap.size) 46 #[.int .i64 a, .int .i64 b, .int .i64 t] by rw [← hW2]; exact Box.made w 46 #[.int .i64 a, .int .i64 b, .int .i64 t])
  have C5 := Lib.hid (HCH0.out.later B3.out)
  have SZ6 := Lib.hid (show W1.heap.size = w.heap.size + 1 by rw [← hW2]; simp)
  rw [hW2]
  clear hW2
  have q7 : W1.cell? ⟨w.heap.size, 0, none⟩ = some (.int .i64 a) := X4.out.cell 0
  have q8 : W1.cell? ⟨w.heap.size, 1, none⟩ = some (.int .i64 b) := X4.out.cell 1
  have q9 : W1.cell? ⟨w.heap.size, 2, none⟩ = some (.int .i64 t) := X4.out.cell 2
  have k0 := C5.out.rings.1
  have k1 := C5.out.rings.2.1
  go_wp2_with fail
  go_quiet (fail)
  obtain ⟨W10, hW11⟩ : ∃ Wzz, (W1).drewN nq = Wzz := ⟨_, rfl⟩
  have hb12 : Below (W1).heap.size (W1) W10 := by rw [← hW11]; exact below_drewN _ _
  have X13 := Lib.hid (X4.out.later hb12)
  have C14 := Lib.hid (C5.out.later hb12)
  have B15 := Lib.hid (B3.out.trans (hb12.mono B3.out.size))
  have HBQ := Lib.hid hb12
  rw [hW11]
  clear hb12 hW11
  clear k0 k1
  clear q7 q8 q9
  have q16 : W10.cell? ⟨w.heap.size, 0, none⟩ = some (.int .i64 a) := X13.out.cell 0
  have q17 : W10.cell? ⟨w.heap.size, 1, none⟩ = some (.int .i64 b) := X13.out.cell 1
  have q18 : W10.cell? ⟨w.heap.size, 2, none⟩ = some (.int .i64 t) := X13.out.cell 2
  go_wp2_with fail
  have hdr29 : Below (W10).heap.size (W10) (W10).drew := (Below.refl _ _).drew
  have lt24 := X13.out.lt
  have lt25 := X13.out.lt
  have lt26 := X13.out.lt
  have lt27 := C14.out.rings.2.2
  have lt28 := C14.out.rings.2.2
  have hcall30 : ∀ X Y : World, (fun Wz => Wz.cell? ⟨w.heap.size, 0, none⟩ = some (.int .i64 a) ∧ Wz.cell? ⟨w.heap.size, 1, none⟩ = some (.int .i64 b) ∧ Wz.cell? ⟨w.heap.size, 2, none⟩ = some (.int .i64 t) ∧ Wz.cell? ⟨g, 0, none⟩ = some (.int .i64 p.bed.rings) ∧ Wz.cell? ⟨g, 1, none⟩ = some (.int .i64 p.bed.sectors) ∧ (W10).heap.size ≤ Wz.heap.size) X → Below X.heap.size X Y → (fun Wz => Wz.cell? ⟨w.heap.size, 0, none⟩ = some (.int .i64 a) ∧ Wz.cell? ⟨w.heap.size, 1, none⟩ = some (.int .i64 b) ∧ Wz.cell? ⟨w.heap.size, 2, none⟩ = some (.int .i64 t) ∧ Wz.cell? ⟨g, 0, none⟩ = some (.int .i64 p.bed.rings) ∧ Wz.cell? ⟨g, 1, none⟩ = some (.int .i64 p.bed.sectors) ∧ (W10).heap.size ≤ Wz.heap.size) Y := by
    rintro X Y ⟨z19, z20, z21, z22, z23, xs⟩ hb
    have hb2 := Below.mono (B' := (W10).heap.size) hb xs
    exact ⟨keepd z19 hb2 lt24, keepd z20 hb2 lt25, keepd z21 hb2 lt26, keepd z22 hb2 lt27, keepd z23 hb2 lt28, Nat.le_trans xs hb.size⟩
  have hini31 : (fun Wz => Wz.cell? ⟨w.heap.size, 0, none⟩ = some (.int .i64 a) ∧ Wz.cell? ⟨w.heap.size, 1, none⟩ = some (.int .i64 b) ∧ Wz.cell? ⟨w.heap.size, 2, none⟩ = some (.int .i64 t) ∧ Wz.cell? ⟨g, 0, none⟩ = some (.int .i64 p.bed.rings) ∧ Wz.cell? ⟨g, 1, none⟩ = some (.int .i64 p.bed.sectors) ∧ (W10).heap.size ≤ Wz.heap.size) (W10).drew := ⟨keepd (X13.out.cell 0) hdr29 lt24, keepd (X13.out.cell 1) hdr29 lt25, keepd (X13.out.cell 2) hdr29 lt26, keepd (C14.out.rings.1) hdr29 lt27, keepd (C14.out.rings.2.1) hdr29 lt28, Nat.le_refl _⟩
  have Hcall30 := Lib.hid hcall30
  have Hini31 := Lib.hid hini31
  clear hcall30 hini31 lt24 lt25 lt26 lt27 lt28
  clear q16 q17 q18
  refine wp_region_noPanic ?_
  refine wp_region_held_drew (S := (fun Wz => Wz.cell? ⟨w.heap.size, 0, none⟩ = some (.int .i64 a) ∧ Wz.cell? ⟨w.heap.size, 1, none⟩ = some (.int .i64 b) ∧ Wz.cell? ⟨w.heap.size, 2, none⟩ = some (.int .i64 t) ∧ Wz.cell? ⟨g, 0, none⟩ = some (.int .i64 p.bed.rings) ∧ Wz.cell? ⟨g, 1, none⟩ = some (.int .i64 p.bed.sectors) ∧ (W10).heap.size ≤ Wz.heap.size)) (by kernel_rfl) Hini31.out (fun hHeld => ?_)
  obtain ⟨W33, hW34⟩ : ∃ Wzz, (W10).drew = Wzz := ⟨_, rfl⟩
  rw [hW34] at hHeld hdr29 ⊢
  clear hW34
  have X35 := Lib.hid (X13.out.later hdr29)
  have C36 := Lib.hid (C14.out.later hdr29)
  have B37 := Lib.hid (B15.out.trans (hdr29.mono B15.out.size))
  clear hdr29
  refine wpAnyH_take (i := 0) (oi := { dst := some 14, op := Op.move (Operand.tmp 6), type := 3, pos := "chart.go:108", after := #[], guard := none }) (v := ?vh38) rfl ?hsh38 ?hfh38 ?hrh38 ?hQh38 ?hyh38 (by assumption) ?resth38
  case hsh38 => kernel_rfl
  case hfh38 => kernel_rfl
  case hrh38 => kernel_rfl
  case hQh38 => exact fun _ _ _ h => h
  case hyh38 => (refine Or.inl ⟨by rfl, ?_⟩; intro w hSw; (try dsimp only at hSw); go_simp; try with_reducible rfl)
  try simp only [Act.put, List.setIfInBounds_toArray, List.set_cons_zero, List.set_cons_succ]
  refine wpAnyH_take (i := 1) (oi := { dst := some 15, op := Op.fieldAddr 46 (Operand.tmp 3) 1, type := 0, pos := "chart.go:108", after := #[], guard := none }) (v := ?vh39) rfl ?hsh39 ?hfh39 ?hrh39 ?hQh39 ?hyh39 (by assumption) ?resth39
  case hsh39 => kernel_rfl
  case hfh39 => kernel_rfl
  case hrh39 => kernel_rfl
  case hQh39 => exact fun _ _ _ h => h
  case hyh39 => (refine Or.inl ⟨by rfl, ?_⟩; intro w hSw; (try dsimp only at hSw); go_simp; try with_reducible rfl)
  try simp only [Act.put, List.setIfInBounds_toArray, List.set_cons_zero, List.set_cons_succ]
  refine wpAnyH_take (i := 2) (oi := { dst := some 16, op := Op.load 3 (Operand.tmp 15), type := 3, pos := "chart.go:108", after := #[{ on := 1, ground := Ground.data }], guard := none }) (v := ?vh40) rfl ?hsh40 ?hfh40 ?hrh40 ?hQh40 ?hyh40 (by assumption) ?resth40
  case hsh40 => kernel_rfl
  case hfh40 => kernel_rfl
  case hrh40 => kernel_rfl
  case hQh40 => exact fun _ _ _ h => h
  case hyh40 => (refine Or.inl ⟨by rfl, ?_⟩; intro w hSw; (try dsimp only at hSw); go_simp; try with_reducible rfl)
  try simp only [Act.put, List.setIfInBounds_toArray, List.set_cons_zero, List.set_cons_succ]
  refine wpAnyH_take (i := 3) (oi := { dst := some 17, op := Op.binOp BinOp.add 3 (Operand.tmp 14) (Operand.tmp 16) 3, type := 3, pos := "chart.go:108", after := #[{ on := 0, ground := Ground.data }, { on := 2, ground := Ground.data }], guard := none }) (v := ?vh41) rfl ?hsh41 ?hfh41 ?hrh41 ?hQh41 ?hyh41 (by assumption) ?resth41
  case hsh41 => kernel_rfl
  case hfh41 => kernel_rfl
  case hrh41 => kernel_rfl
  case hQh41 => exact fun _ _ _ h => h
  case hyh41 => (refine Or.inl ⟨by rfl, ?_⟩; intro w hSw; (try dsimp only at hSw); go_simp; try with_reducible rfl)
  try simp only [Act.put, List.setIfInBounds_toArray, List.set_cons_zero, List.set_cons_succ]
  refine wpAnyH_take (i := 4) (oi := { dst := some 18, op := Op.move (Operand.tmp 6), type := 3, pos := "chart.go:108", after := #[{ on := 13, ground := Ground.gcOnly Departure.lateStores }], guard := none }) (v := ?vh42) rfl ?hsh42 ?hfh42 ?hrh42 ?hQh42 ?hyh42 (by assumption) ?resth42
  case hsh42 => kernel_rfl
  case hfh42 => kernel_rfl
  case hrh42 => kernel_rfl
  case hQh42 => exact fun _ _ _ h => h
  case hyh42 => (refine Or.inl ⟨by rfl, ?_⟩; intro w hSw; (try dsimp only at hSw); go_simp; try with_reducible rfl)
  try simp only [Act.put, List.setIfInBounds_toArray, List.set_cons_zero, List.set_cons_succ]
  refine wpAnyH_take (i := 5) (oi := { dst := some 19, op := Op.move (Operand.tmp 0), type := 118, pos := "chart.go:108", after := #[], guard := none }) (v := ?vh43) rfl ?hsh43 ?hfh43 ?hrh43 ?hQh43 ?hyh43 (by assumption) ?resth43
  case hsh43 => kernel_rfl
  case hfh43 => kernel_rfl
  case hrh43 => kernel_rfl
  case hQh43 => exact fun _ _ _ h => h
  case hyh43 => (refine Or.inl ⟨by rfl, ?_⟩; intro w hSw; (try dsimp only at hSw); go_simp; try with_reducible rfl)
  try simp only [Act.put, List.setIfInBounds_toArray, List.set_cons_zero, List.set_cons_succ]
  refine wpAnyH_take (i := 6) (oi := { dst := some 20, op := Op.fieldAddr 46 (Operand.tmp 3) 1, type := 0, pos := "chart.go:108", after := #[], guard := none }) (v := ?vh44) rfl ?hsh44 ?hfh44 ?hrh44 ?hQh44 ?hyh44 (by assumption) ?resth44
  case hsh44 => kernel_rfl
  case hfh44 => kernel_rfl
  case hrh44 => kernel_rfl
  case hQh44 => exact fun _ _ _ h => h
  case hyh44 => (refine Or.inl ⟨by rfl, ?_⟩; intro w hSw; (try dsimp only at hSw); go_simp; try with_reducible rfl)
  try simp only [Act.put, List.setIfInBounds_toArray, List.set_cons_zero, List.set_cons_succ]
  refine wpAnyH_take (i := 7) (oi := { dst := some 21, op := Op.load 3 (Operand.tmp 20), type := 3, pos := "chart.go:108", after := #[{ on := 6, ground := Ground.data }], guard := none }) (v := ?vh45) rfl ?hsh45 ?hfh45 ?hrh45 ?hQh45 ?hyh45 (by assumption) ?resth45
  case hsh45 => kernel_rfl
  case hfh45 => kernel_rfl
  case hrh45 => kernel_rfl
  case hQh45 => exact fun _ _ _ h => h
  case hyh45 => (refine Or.inl ⟨by rfl, ?_⟩; intro w hSw; (try dsimp only at hSw); go_simp; try with_reducible rfl)
  try simp only [Act.put, List.setIfInBounds_toArray, List.set_cons_zero, List.set_cons_succ]
  refine wpAnyH_take (i := 8) (oi := { dst := some 22, op := Op.fieldAddr 46 (Operand.tmp 3) 2, type := 0, pos := "chart.go:108", after := #[], guard := none }) (v := ?vh46) rfl ?hsh46 ?hfh46 ?hrh46 ?hQh46 ?hyh46 (by assumption) ?resth46
  case hsh46 => kernel_rfl
  case hfh46 => kernel_rfl
  case hrh46 => kernel_rfl
  case hQh46 => exact fun _ _ _ h => h
  case hyh46 => (refine Or.inl ⟨by rfl, ?_⟩; intro w hSw; (try dsimp only at hSw); go_simp; try with_reducible rfl)
  try simp only [Act.put, List.setIfInBounds_toArray, List.set_cons_zero, List.set_cons_succ]
  refine wpAnyH_take (i := 9) (oi := { dst := some 23, op := Op.load 3 (Operand.tmp 22), type := 3, pos := "chart.go:108", after := #[{ on := 8, ground := Ground.data }], guard := none }) (v := ?vh47) rfl ?hsh47 ?hfh47 ?hrh47 ?hQh47 ?hyh47 (by assumption) ?resth47
  case hsh47 => kernel_rfl
  case hfh47 => kernel_rfl
  case hrh47 => kernel_rfl
  case hQh47 => exact fun _ _ _ h => h
  case hyh47 => (refine Or.inl ⟨by rfl, ?_⟩; intro w hSw; (try dsimp only at hSw); go_simp; try with_reducible rfl)
  try simp only [Act.put, List.setIfInBounds_toArray, List.set_cons_zero, List.set_cons_succ]
  refine wpAnyH_take (i := 10) (oi := { dst := some 24, op := Op.binOp BinOp.sub 3 (Operand.tmp 21) (Operand.tmp 23) 3, type := 3, pos := "chart.go:108", after := #[{ on := 7, ground := Ground.data }, { on := 9, ground := Ground.data }], guard := none }) (v := ?vh48) rfl ?hsh48 ?hfh48 ?hrh48 ?hQh48 ?hyh48 (by assumption) ?resth48
  case hsh48 => kernel_rfl
  case hfh48 => kernel_rfl
  case hrh48 => kernel_rfl
  case hQh48 => exact fun _ _ _ h => h
  case hyh48 => (refine Or.inl ⟨by rfl, ?_⟩; intro w hSw; (try dsimp only at hSw); go_simp; try with_reducible rfl)
  try simp only [Act.put, List.setIfInBounds_toArray, List.set_cons_zero, List.set_cons_succ]
  refine wpAnyH_ready (rs := [11]) (by kernel_rfl) (by simp) ?_
  refine AllReadyH.cons (o := _) (by rfl) (fun K hK => ?_) AllReadyH.nil
  go_simp
  go_at_call 126
  refine (round_ch p (b - t) g _ C36.out HP.out HD.out).mono ?_; rintro e v49 ⟨rfl, hb50⟩
  have X51 := Lib.hid (X35.out.later hb50)
  have C52 := Lib.hid (C36.out.later hb50)
  have B53 := Lib.hid (B37.out.trans (hb50.mono B37.out.size))
  clear X35 C36 B37
  rw [HRR.out]
  go_wp2_with fail
  refine hK.out _ _ (Hcall30.out _ _ hHeld (by assumption)) (fun hHeld54 => ?_)
  clear hK K hHeld
  clear hb50
  have hHeld := hHeld54
  clear hHeld54
  try simp only [Act.put, List.setIfInBounds_toArray, List.set_cons_zero, List.set_cons_succ]
  refine wpAnyH_take (i := 12) (oi := { dst := some 26, op := Op.binOp BinOp.add 3 (Operand.tmp 18) (Operand.tmp 25) 3, type := 3, pos := "chart.go:108", after := #[{ on := 4, ground := Ground.data }, { on := 11, ground := Ground.data }, { on := 13, ground := Ground.gcOnly Departure.lateStores }], guard := none }) (v := ?vh55) rfl ?hsh55 ?hfh55 ?hrh55 ?hQh55 ?hyh55 (by assumption) ?resth55
  case hsh55 => kernel_rfl
  case hfh55 => kernel_rfl
  case hrh55 => kernel_rfl
  case hQh55 => exact fun _ _ _ h => h
  case hyh55 => (refine Or.inl ⟨by rfl, ?_⟩; intro w hSw; (try dsimp only at hSw); go_simp; try with_reducible rfl)
  try simp only [Act.put, List.setIfInBounds_toArray, List.set_cons_zero, List.set_cons_succ]
  refine wpAnyH_take (i := 13) (oi := { dst := some 4, op := Op.assign (Operand.tmp 17), type := 3, pos := "chart.go:108", after := #[{ on := 3, ground := Ground.data }, { on := 11, ground := Ground.chain }, { on := 0, ground := Ground.phase }, { on := 1, ground := Ground.phase }, { on := 2, ground := Ground.phase }, { on := 3, ground := Ground.phase }, { on := 4, ground := Ground.textOnly Departure.lateStores }, { on := 5, ground := Ground.textOnly Departure.lateStores }, { on := 6, ground := Ground.textOnly Departure.lateStores }, { on := 7, ground := Ground.textOnly Departure.lateStores }, { on := 8, ground := Ground.textOnly Departure.lateStores }, { on := 9, ground := Ground.textOnly Departure.lateStores }, { on := 10, ground := Ground.textOnly Departure.lateStores }, { on := 11, ground := Ground.textOnly Departure.lateStoresUnsure }, { on := 12, ground := Ground.textOnly Departure.lateStores }], guard := none }) (v := ?vh56) rfl ?hsh56 ?hfh56 ?hrh56 ?hQh56 ?hyh56 (by assumption) ?resth56
  case hsh56 => kernel_rfl
  case hfh56 => kernel_rfl
  case hrh56 => kernel_rfl
  case hQh56 => exact fun _ _ _ h => h
  case hyh56 => (refine Or.inl ⟨by rfl, ?_⟩; intro w hSw; (try dsimp only at hSw); go_simp; try with_reducible rfl)
  try simp only [Act.put, List.setIfInBounds_toArray, List.set_cons_zero, List.set_cons_succ]
  refine wpAnyH_take (i := 14) (oi := { dst := some 5, op := Op.assign (Operand.tmp 26), type := 3, pos := "chart.go:108", after := #[{ on := 12, ground := Ground.data }, { on := 13, ground := Ground.chain }, { on := 0, ground := Ground.phase }, { on := 1, ground := Ground.phase }, { on := 2, ground := Ground.phase }, { on := 3, ground := Ground.phase }, { on := 4, ground := Ground.phase }, { on := 5, ground := Ground.phase }, { on := 6, ground := Ground.phase }, { on := 7, ground := Ground.phase }, { on := 8, ground := Ground.phase }, { on := 9, ground := Ground.phase }, { on := 10, ground := Ground.phase }, { on := 11, ground := Ground.phase }, { on := 12, ground := Ground.phase }, { on := 13, ground := Ground.phase }], guard := none }) (v := ?vh57) rfl ?hsh57 ?hfh57 ?hrh57 ?hQh57 ?hyh57 (by assumption) ?resth57
  case hsh57 => kernel_rfl
  case hfh57 => kernel_rfl
  case hrh57 => kernel_rfl
  case hQh57 => exact fun _ _ _ h => h
  case hyh57 => (refine Or.inl ⟨by rfl, ?_⟩; intro w hSw; (try dsimp only at hSw); go_simp; try with_reducible rfl)
  try simp only [Act.put, List.setIfInBounds_toArray, List.set_cons_zero, List.set_cons_succ]
  refine wpAnyH_done (by kernel_rfl) ?_ _
  refine NoPanic.normal ?_
  clear hHeld Hcall30 Hini31
  have q58 : v49.cell? ⟨w.heap.size, 0, none⟩ = some (.int .i64 a) := X51.out.cell 0
  have q59 : v49.cell? ⟨w.heap.size, 1, none⟩ = some (.int .i64 b) := X51.out.cell 1
  have q60 : v49.cell? ⟨w.heap.size, 2, none⟩ = some (.int .i64 t) := X51.out.cell 2
  go_wp2_with fail
  go_ret2
  exact ⟨by rw [HV.out.1, HV.out.2]; first | rfl | skip, B53.out⟩


theorem IsChart.kinds {w : World} {g : Nat} {p : Pr} (h : IsChart w g p) {n m : Nat} (hn : n < p.bed.kinds.length) (hm : m < p.run.kinds.length) :
    ∃ b off c b2 off2 c2, w.cell? ⟨g, 2, none⟩ = some (.slice (some ⟨b, off, none⟩) p.bed.kinds.length c) ∧ w.cell? ⟨g, 3, none⟩ = some (.slice (some ⟨b2, off2, none⟩) p.run.kinds.length c2) ∧
      w.cell? ⟨b, off + n, none⟩ = some (.int .i64 (nth p.bed.kinds n)) ∧ w.cell? ⟨b2, off2 + m, none⟩ = some (.int .i64 (nth p.run.kinds m)) ∧ b < w.heap.size ∧ b2 < w.heap.size := by
  obtain ⟨s, r, d0, d1, d2, d3, d4, d5, d6, d7, d8, h1, ⟨-, A, c, rfl, -, h2⟩, ⟨-, A2, c2, rfl, -, h3⟩, -⟩ := h
  obtain ⟨b, off, rfl, hb, hc⟩ := h2 (by omega)
  obtain ⟨b2, off2, rfl, hb2, hc2⟩ := h3 (by omega)
  exact ⟨b, off, c, b2, off2, c2, h1.cell 2, h1.cell 3, hc n hn, hc2 m hm, hb, hb2⟩
theorem IsChart.move {w : World} {g : Nat} {p : Pr} (h : IsChart w g p) {k : Nat} (hk : k < 9) : ∃ d, w.cell? ⟨g, 4 + k, none⟩ = some d ∧ Moves w w.heap.size d (nthL p.drive k) := by
  obtain ⟨s, r, d0, d1, d2, d3, d4, d5, d6, d7, d8, h1, -, -, h4⟩ := h
  have hc := h1.cell (4 + k)
  match k, hk with
  | 0, _ => exact ⟨d0, hc, h4 0 d0 (by omega) rfl⟩
  | 1, _ => exact ⟨d1, hc, h4 1 d1 (by omega) rfl⟩
  | 2, _ => exact ⟨d2, hc, h4 2 d2 (by omega) rfl⟩
  | 3, _ => exact ⟨d3, hc, h4 3 d3 (by omega) rfl⟩
  | 4, _ => exact ⟨d4, hc, h4 4 d4 (by omega) rfl⟩
  | 5, _ => exact ⟨d5, hc, h4 5 d5 (by omega) rfl⟩
  | 6, _ => exact ⟨d6, hc, h4 6 d6 (by omega) rfl⟩
  | 7, _ => exact ⟨d7, hc, h4 7 d7 (by omega) rfl⟩
  | 8, _ => exact ⟨d8, hc, h4 8 d8 (by omega) rfl⟩
theorem kinds_nth {l : List Int} (h : kindsB l = true) {k : Nat} (hk : k < l.length) : 0 ≤ nth l k ∧ nth l k ≤ 2 := by
  cases hq : inB (nth l k) 0 2
  · rw [kindsB_false l k hk hq] at h; cases h
  · exact inB_iff.1 hq
/-- where the cells below and above a state lie, and their kinds -/
theorem over_bd {p : Pr} {s : St3} (h0 : ckE p = 0) (hs : hasB p s = true) :
    ∃ n m : Nat, belowI p s = (n : Int) ∧ aboveI p s = (m : Int) ∧ n < p.bed.kinds.length ∧ m < p.run.kinds.length ∧ bedK p s = nth p.bed.kinds n ∧ runK p s = nth p.run.kinds m ∧ (0 ≤ bedK p s ∧ bedK p s ≤ 2) ∧ 0 ≤ runK p s ∧ runK p s ≤ 2 := by
  obtain ⟨hR, hS, -, -, -, -, l1, l2⟩ := ckE_bd h0
  obtain ⟨c1, c2, c3⟩ := hasB_parts.1 hs
  have ha := arnd_bd (n := s.sector - s.turn) (m := p.bed.sectors) (by omega)
  obtain ⟨-, m3, m4⟩ := cells_bd hS hR.2 c1 c2
  obtain ⟨-, m5, m6⟩ := cells_bd hS hR.2 c1 ha
  obtain ⟨h1, -, -⟩ := ckE_zero h0
  obtain ⟨f1, f2, -⟩ := fitB_parts h1
  obtain ⟨-, -, k1⟩ := validB_parts f1
  obtain ⟨-, -, k2⟩ := validB_parts f2
  obtain ⟨n, hn⟩ := Int.eq_ofNat_of_zero_le (show 0 ≤ belowI p s from m3)
  obtain ⟨m, hm⟩ := Int.eq_ofNat_of_zero_le (show 0 ≤ aboveI p s from m5)
  have hn2 : n < p.bed.kinds.length := by have : belowI p s < p.bed.rings * p.bed.sectors := m4; omega
  have hm2 : m < p.run.kinds.length := by have : aboveI p s < p.bed.rings * p.bed.sectors := m6; omega
  have e1 : bedK p s = nth p.bed.kinds n := by unfold bedK; rw [hn]; rfl
  have e2 : runK p s = nth p.run.kinds m := by unfold runK; rw [hm]; rfl
  exact ⟨n, m, hn, hm, hn2, hm2, e1, e2, by rw [e1]; exact kinds_nth k1 hn2, by rw [e2]; exact kinds_nth k2 hm2⟩
set_option maxRecDepth 100000 in
set_option maxHeartbeats 8000000 in
theorem over_c (p : Pr) (a b t : Int) (g : Nat) (w : World) (h : IsChart w g p) (h0 : ckE p = 0) (hs : hasB p ⟨a, b, t⟩ = true) : Calls Tryz.prog 125 #[.pointer (some ⟨g, 0, none⟩), .agg #[.int .i64 a, .int .i64 b, .int .i64 t]] w fun e w' => e = .returned (.tuple #[.int .i64 (bedK p ⟨a, b, t⟩), .int .i64 (runK p ⟨a, b, t⟩)]) ∧ Below w.heap.size w w' := by
  obtain ⟨hR, hS, -⟩ := ckE_bd h0
  obtain ⟨c1, c2, c3⟩ := hasB_parts.1 hs
  dsimp only at c1 c2 c3
  have HCH0 := Lib.hid h
  have HP := Lib.hid h0
  have HHS := Lib.hid hs
  obtain ⟨n, m, q1, q2, q3, q4, q5, q6, -⟩ := over_bd h0 hs
  have HN := Lib.hid (And.intro q1 q2)
  have HL := Lib.hid (And.intro q3 q4)
  have HV := Lib.hid (And.intro q5 q6)
  clear h h0 hs hR hS c1 c2 c3 q1 q2 q3 q4 q5 q6
  go_enter Tryz.func125, Tryz.ntmps125
  go_wp2_with fail
  obtain ⟨W61, hW62⟩ : ∃ Wzz, (w.alloc (.cells #[.int .i64 a, .int .i64 b, .int .i64 t] 46)) = Wzz := ⟨_, rfl⟩
  have B63 := Lib.hid (show Below w.heap.size w W61 by rw [← hW62]; exact ((Below.refl w.heap.size w).alloc (Nat.le_refl _) _))
  have X64 := Lib.hid (show Box W61 (w.heap.size) 46 #[.int .i64 a, .int .i64 b, .int .i64 t] by rw [← hW62]; exact Box.made w 46 #[.int .i64 a, .int .i64 b, .int .i64 t])
  have C65 := Lib.hid (HCH0.out.later B63.out)
  have SZ66 := Lib.hid (show W61.heap.size = w.heap.size + 1 by rw [← hW62]; simp)
  rw [hW62]
  clear hW62
  have q67 : W61.cell? ⟨w.heap.size, 0, none⟩ = some (.int .i64 a) := X64.out.cell 0
  have q68 : W61.cell? ⟨w.heap.size, 1, none⟩ = some (.int .i64 b) := X64.out.cell 1
  have q69 : W61.cell? ⟨w.heap.size, 2, none⟩ = some (.int .i64 t) := X64.out.cell 2
  go_wp2_with fail
  refine (cells_c p a b t g _ C65.out HP.out HHS.out).mono ?_; rintro e v70 ⟨rfl, hb71⟩
  have X72 := Lib.hid (X64.out.later hb71)
  have C73 := Lib.hid (C65.out.later hb71)
  have B74 := Lib.hid (B63.out.trans (hb71.mono B63.out.size))
  clear hb71
  rw [HN.out.1, HN.out.2]
  clear q67 q68 q69
  have q75 : v70.cell? ⟨w.heap.size, 0, none⟩ = some (.int .i64 a) := X72.out.cell 0
  have q76 : v70.cell? ⟨w.heap.size, 1, none⟩ = some (.int .i64 b) := X72.out.cell 1
  have q77 : v70.cell? ⟨w.heap.size, 2, none⟩ = some (.int .i64 t) := X72.out.cell 2
  obtain ⟨b1, o1, cc1, b2, o2, cc2, y2, y3, y4, y5, -, -⟩ := C73.out.kinds (n := n) (m := m) HL.out.1 HL.out.2
  obtain ⟨l1, hl1⟩ : ∃ l, p.bed.kinds.length = l := ⟨_, rfl⟩
  obtain ⟨l2, hl2⟩ : ∃ l, p.run.kinds.length = l := ⟨_, rfl⟩
  rw [hl1] at y2 HL
  rw [hl2] at y3 HL
  have i0 : (0 : Int) ≤ (n : Int) := Int.natCast_nonneg _
  have i1 : (n : Int) < (l1 : Int) := by have := HL.out; omega
  have i2 : (0 : Int) ≤ (m : Int) := Int.natCast_nonneg _
  have i3 : (m : Int) < (l2 : Int) := by have := HL.out; omega
  clear hl1 hl2
  go_wp2_with fail
  go_quiet (fail)
  go_wp2_with fail
  go_ret2
  exact ⟨by rw [HV.out.1, HV.out.2]; rfl, B74.out.trans (below_drewN _ _)⟩

set_option maxRecDepth 100000 in
set_option maxHeartbeats 8000000 in
theorem list_c (p : Pr) (a b t : Int) (g : Nat) (w : World) (h : IsChart w g p) (h0 : ckE p = 0) (hs : hasB p ⟨a, b, t⟩ = true) : Calls Tryz.prog 122 #[.pointer (some ⟨g, 0, none⟩), .agg #[.int .i64 a, .int .i64 b, .int .i64 t]] w fun e w' => (∃ v, e = .returned v ∧ Moves w' w'.heap.size v (movesL p ⟨a, b, t⟩)) ∧ Below w.heap.size w w' := by
  obtain ⟨hR, hS, -⟩ := ckE_bd h0
  obtain ⟨c1, c2, c3⟩ := hasB_parts.1 hs
  dsimp only at c1 c2 c3
  have HCH0 := Lib.hid h
  have HP := Lib.hid h0
  have HHS := Lib.hid hs
  obtain ⟨-, -, -, -, -, -, -, -, q1, q2⟩ := over_bd h0 hs
  obtain ⟨x, hx⟩ : ∃ x, bedK p ⟨a, b, t⟩ = x := ⟨_, rfl⟩
  obtain ⟨y, hy⟩ : ∃ x, runK p ⟨a, b, t⟩ = x := ⟨_, rfl⟩
  rw [hx] at q1
  rw [hy] at q2
  have HN := Lib.hid (And.intro hx hy)
  obtain ⟨k, hk⟩ : ∃ k : Nat, 3 * x + y = (k : Int) := ⟨(3 * x + y).toNat, by omega⟩
  have HK := Lib.hid (show k < 9 by omega)
  have HJ := Lib.hid (show (3 * x + y).toNat = k by omega)
  have w1 : IntKind.i64.wrap (3 * x) = 3 * x := wrap_id (by omega) (by omega)
  have w2 : IntKind.i64.wrap (3 * x + y) = (k : Int) := by rw [hk]; exact wrap_id (by omega) (by omega)
  clear h h0 hs hR hS c1 c2 c3 q1 q2 hx hy hk
  go_enter Tryz.func122, Tryz.ntmps122
  go_wp2_with fail
  obtain ⟨W78, hW79⟩ : ∃ Wzz, (w.alloc (.cells #[.int .i64 a, .int .i64 b, .int .i64 t] 46)) = Wzz := ⟨_, rfl⟩
  have B80 := Lib.hid (show Below w.heap.size w W78 by rw [← hW79]; exact ((Below.refl w.heap.size w).alloc (Nat.le_refl _) _))
  have X81 := Lib.hid (show Box W78 (w.heap.size) 46 #[.int .i64 a, .int .i64 b, .int .i64 t] by rw [← hW79]; exact Box.made w 46 #[.int .i64 a, .int .i64 b, .int .i64 t])
  have C82 := Lib.hid (HCH0.out.later B80.out)
  have SZ83 := Lib.hid (show W78.heap.size = w.heap.size + 1 by rw [← hW79]; simp)
  rw [hW79]
  clear hW79
  have q84 : W78.cell? ⟨w.heap.size, 0, none⟩ = some (.int .i64 a) := X81.out.cell 0
  have q85 : W78.cell? ⟨w.heap.size, 1, none⟩ = some (.int .i64 b) := X81.out.cell 1
  have q86 : W78.cell? ⟨w.heap.size, 2, none⟩ = some (.int .i64 t) := X81.out.cell 2
  go_wp2_with fail
  refine (over_c p a b t g _ C82.out HP.out HHS.out).mono ?_; rintro e v87 ⟨rfl, hb88⟩
  have X89 := Lib.hid (X81.out.later hb88)
  have C90 := Lib.hid (C82.out.later hb88)
  have B91 := Lib.hid (B80.out.trans (hb88.mono B80.out.size))
  clear hb88
  rw [HN.out.1, HN.out.2]
  clear q84 q85 q86
  have q92 : v87.cell? ⟨w.heap.size, 0, none⟩ = some (.int .i64 a) := X89.out.cell 0
  have q93 : v87.cell? ⟨w.heap.size, 1, none⟩ = some (.int .i64 b) := X89.out.cell 1
  have q94 : v87.cell? ⟨w.heap.size, 2, none⟩ = some (.int .i64 t) := X89.out.cell 2
  obtain ⟨d, y1, y2⟩ := C90.out.move (k := k) HK.out
  have HM := Lib.hid y2
  have i0 : (0 : Int) ≤ (k : Int) := Int.natCast_nonneg _
  have i1 : (k : Int) < 9 := by have := HK.out; omega
  clear y2
  go_wp2_with fail
  go_ret
  exact ⟨⟨d, rfl, by unfold movesL; rw [HN.out.1, HN.out.2, HJ.out]; exact HM.out⟩, B91.out⟩

end Go.Proofs.YtikfiallhmhicaaGreat

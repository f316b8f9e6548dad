/- Layer 9: sticks: Sync and Tallies: the program's answers. -/
import Derived.Test.YtbpbdgiglllncaaUI
set_option linter.all false
namespace Go.Proofs.Ytbpbdgiglllncaa
open Go.RowKit

theorem own_bys {w : World} {base n : Nat} {v : Value} {xs : List Int} (h : w.ownsRow base 5 1 v n (bys xs)) (hn : xs.length = n) (hl : n ≤ 140737488351232) (hb : IsBy xs) : Bys w w.heap.size v xs := by subst hn; exact bys_own h (Nat.le_refl _) hl hb
/-- a world behind another one -/
def Aft (w W : World) : Prop := Below w.heap.size w W
theorem Aft.later {w W W' : World} (h : Aft w W) (hb : Below W.heap.size W W') : Aft w W' := Below.trans h (Below.mono hb (Below.size h))
theorem StkP.set {W : World} {b base : Nat} {v1 v2 : Value} {S F : List Int} {d1 d2 e1 e2 : Nat} (h : StkP W b base v1 v2 S F d1 d2) (i : Nat) (u : Value) (hi : (#[v1, .int .i64 (d1 : Int), v2, .int .i64 (d2 : Int)] : Array Value).setIfInBounds i u = #[v1, .int .i64 (e1 : Int), v2, .int .i64 (e2 : Int)])
    (h1 : e1 ≤ S.length) (h2 : e2 ≤ F.length) : StkP (W.setCell ⟨b, i, none⟩ u) b base v1 v2 S F e1 e2 ∧ Chg W (W.setCell ⟨b, i, none⟩ u) b base v1 v2 := by
  have hg : W.grownBy (W.setCell ⟨b, i, none⟩ u) (some b) := ⟨rfl, rfl, rfl, by rw [World.size_setCell]; exact Nat.le_refl _, fun k hk hne => Below.heap_setCell _ _ _ _ (fun e => hne (by rw [e]))⟩
  have hfar : ∀ {n : Nat} {v : Value} {ys : List Value}, W.ownsRow base 5 1 v n ys → (W.setCell ⟨b, i, none⟩ u).ownsRow base 5 1 v n ys := fun {n v ys} h1 =>
    h1.kept hg (by
      cases hv : v.ownBlock with
      | none => exact .inl rfl
      | some g => exact .inr fun e => by cases e; exact own_box_ne h1 h.box b hv rfl)
  refine ⟨{ h with box := by have := h.box.put i u; rw [hi] at this; exact this, o1 := hfar h.o1, o2 := hfar h.o2, l1 := h1, l2 := h2 }, (Below.refl base W).setCell (p := ⟨b, i, none⟩) h.hb _, by rw [World.size_setCell]; exact Nat.le_refl _, fun k hk q1 _ _ => Below.heap_setCell _ _ _ _ (by exact q1)⟩

set_option maxRecDepth 100000 in
set_option maxHeartbeats 4000000 in
theorem Sync_c (b base : Nat) (v1 v2 : Value) (S F : List Int) (d1 d2 : Nat) (w : World) (h : StkP w b base v1 v2 S F d1 d2) (hbase : base ≤ w.heap.size) :
    Calls Try.prog 22 #[.pointer (some ⟨b, 0, none⟩)] w fun e w' => (∃ r, e = .returned r) ∧ StkP w' b base v1 v2 S F S.length F.length ∧ Chg w w' b base v1 v2 := by
  have H := Lib.hid h
  obtain ⟨A1, c1, rfl⟩ := own_shape h.o1
  obtain ⟨A2, c2, rfl⟩ := own_shape h.o2
  have k1 := Lib.hid (sync_c b 0 A1 S.length c1 (.int .i64 (d1 : Int)) w (h.box.cell 0) (h.box.cell 1) (fun i => h.box.free i))
  obtain ⟨s1, g1⟩ := h.set (e1 := S.length) (e2 := d2) 1 (.int .i64 (S.length : Int)) rfl (Nat.le_refl _) h.l2
  have k2 := Lib.hid (sync_c b 2 A2 F.length c2 (.int .i64 (d2 : Int)) _ (s1.box.cell 2) (s1.box.cell 3) (fun i => s1.box.free i))
  obtain ⟨s2, g2⟩ := s1.set (e1 := S.length) (e2 := F.length) 3 (.int .i64 (F.length : Int)) rfl (Nat.le_refl _) (Nat.le_refl _)
  have HS := Lib.hid s2
  have HC := Lib.hid (g1.trans g2 (NewB.refl _ _) (NewB.refl _ _))
  clear h s1 g1 s2 g2
  go_enter Try.func22, Try.ntmps22
  go_wp2_with fail
  refine k1.out.mono ?_; rintro e w1 ⟨⟨r, rfl⟩, rfl⟩
  go_wp2_with fail
  refine k2.out.mono ?_; rintro e w2 ⟨⟨r, rfl⟩, rfl⟩
  go_wp2_with fail
  go_end0
  exact ⟨⟨_, rfl⟩, HS.out, HC.out⟩
set_option maxRecDepth 100000 in
set_option maxHeartbeats 8000000 in
theorem Tallies_c (b base : Nat) (v1 v2 : Value) (S F : List Int) (d1 d2 : Nat) (w : World) (h : StkP w b base v1 v2 S F d1 d2) : Calls Try.prog 30 #[.pointer (some ⟨b, 0, none⟩)] w fun e w' => (∃ ov, e = .returned ov ∧ ByL w' w'.heap.size ov (joinL S F)) ∧ Below w.heap.size w w' := by
  have H := Lib.hid h
  obtain ⟨A1, c1, rfl⟩ := own_shape h.o1
  obtain ⟨A2, c2, rfl⟩ := own_shape h.o2
  have HBOX := Lib.hid h.box
  have BS := Lib.hid (own_bys h.o1 rfl (by have := h.s1; omega) h.y1)
  have BF := Lib.hid (own_bys h.o2 rfl (by have := h.s2; omega) h.y2)
  have kj := Lib.hid (fun (W : World) (hb : Aft w W) => Join_c S F _ _ W (BS.out.later hb) (BF.out.later hb) (by have := H.out.s1; omega) (by have := H.out.s2; omega))
  have AF0 := Lib.hid (show Aft w w from Below.refl _ _)
  have HB0 := Lib.hid (Below.refl w.heap.size w)
  clear h
  go_enter Try.func30, Try.ntmps30
  go_wp2_with fail
  have hdr9 : Below (w).heap.size (w) (w).drew := (Below.refl _ _).drew
  have lt5 := HBOX.out.lt
  have lt6 := HBOX.out.lt
  have lt7 := HBOX.out.lt
  have lt8 := HBOX.out.lt
  have hcall10 : ∀ X Y : World, (fun Wz => Wz.cell? ⟨b, 0, none⟩ = some (.slice A1 S.length c1) ∧ Wz.cell? ⟨b, 1, none⟩ = some (.int .i64 (d1 : Int)) ∧ Wz.cell? ⟨b, 2, none⟩ = some (.slice A2 F.length c2) ∧ Wz.cell? ⟨b, 3, none⟩ = some (.int .i64 (d2 : Int)) ∧ (w).heap.size ≤ Wz.heap.size) X → Below X.heap.size X Y → (fun Wz => Wz.cell? ⟨b, 0, none⟩ = some (.slice A1 S.length c1) ∧ Wz.cell? ⟨b, 1, none⟩ = some (.int .i64 (d1 : Int)) ∧ Wz.cell? ⟨b, 2, none⟩ = some (.slice A2 F.length c2) ∧ Wz.cell? ⟨b, 3, none⟩ = some (.int .i64 (d2 : Int)) ∧ (w).heap.size ≤ Wz.heap.size) Y := by
    rintro X Y ⟨z1, z2, z3, z4, xs⟩ hb
    have hb2 := Below.mono (B' := (w).heap.size) hb xs
    exact ⟨keepd z1 hb2 lt5, keepd z2 hb2 lt6, keepd z3 hb2 lt7, keepd z4 hb2 lt8, Nat.le_trans xs hb.size⟩
  have hini11 : (fun Wz => Wz.cell? ⟨b, 0, none⟩ = some (.slice A1 S.length c1) ∧ Wz.cell? ⟨b, 1, none⟩ = some (.int .i64 (d1 : Int)) ∧ Wz.cell? ⟨b, 2, none⟩ = some (.slice A2 F.length c2) ∧ Wz.cell? ⟨b, 3, none⟩ = some (.int .i64 (d2 : Int)) ∧ (w).heap.size ≤ Wz.heap.size) (w).drew := ⟨keepd (HBOX.out.cell 0) hdr9 lt5, keepd (HBOX.out.cell 1) hdr9 lt6, keepd (HBOX.out.cell 2) hdr9 lt7, keepd (HBOX.out.cell 3) hdr9 lt8, Nat.le_refl _⟩
  have Hcall10 := Lib.hid hcall10
  have Hini11 := Lib.hid hini11
  clear hcall10 hini11 lt5 lt6 lt7 lt8
  refine wp_region_noPanic ?_
  refine wp_region_held_drew (S := (fun Wz => Wz.cell? ⟨b, 0, none⟩ = some (.slice A1 S.length c1) ∧ Wz.cell? ⟨b, 1, none⟩ = some (.int .i64 (d1 : Int)) ∧ Wz.cell? ⟨b, 2, none⟩ = some (.slice A2 F.length c2) ∧ Wz.cell? ⟨b, 3, none⟩ = some (.int .i64 (d2 : Int)) ∧ (w).heap.size ≤ Wz.heap.size)) (by kernel_rfl) Hini11.out (fun hHeld => ?_)
  obtain ⟨W13, hW14⟩ : ∃ Wzz, (w).drew = Wzz := ⟨_, rfl⟩
  rw [hW14] at hHeld hdr9 ⊢
  clear hW14
  have X15 := Lib.hid (HBOX.out.later hdr9)
  have C16 := Lib.hid (AF0.out.later hdr9)
  have B17 := Lib.hid (HB0.out.trans (hdr9.mono HB0.out.size))
  clear hdr9
  refine wpAnyH_take (i := 0) (oi := { dst := some 9, op := Op.move (Operand.tmp 0), type := 56, pos := "sticks.go:55", after := #[], guard := none }) (v := ?vh18) rfl ?hsh18 ?hfh18 ?hrh18 ?hQh18 ?hyh18 (by assumption) ?resth18
  case hsh18 => kernel_rfl
  case hfh18 => kernel_rfl
  case hrh18 => kernel_rfl
  case hQh18 => exact fun _ _ _ h => h
  case hyh18 => (refine Or.inl ⟨by rfl, ?_⟩; intro w hSw; (try dsimp only at hSw); go_simp; try with_reducible rfl)
  try simp only [Act.put, List.setIfInBounds_toArray, List.set_cons_zero, List.set_cons_succ]
  refine wpAnyH_take (i := 1) (oi := { dst := some 10, op := Op.nilCheck (Operand.tmp 9), type := 0, pos := "sticks.go:55", after := #[{ on := 0, ground := Ground.data }], guard := none }) (v := ?vh19) rfl ?hsh19 ?hfh19 ?hrh19 ?hQh19 ?hyh19 (by assumption) ?resth19
  case hsh19 => kernel_rfl
  case hfh19 => kernel_rfl
  case hrh19 => kernel_rfl
  case hQh19 => exact fun _ _ _ h => h
  case hyh19 => (refine Or.inl ⟨by rfl, ?_⟩; intro w hSw; (try dsimp only at hSw); go_simp; try with_reducible rfl)
  try simp only [Act.put, List.setIfInBounds_toArray, List.set_cons_zero, List.set_cons_succ]
  refine wpAnyH_take (i := 2) (oi := { dst := some 11, op := Op.fieldAddr 94 (Operand.tmp 10) 0, type := 0, pos := "sticks.go:55", after := #[{ on := 1, ground := Ground.data }], guard := none }) (v := ?vh20) rfl ?hsh20 ?hfh20 ?hrh20 ?hQh20 ?hyh20 (by assumption) ?resth20
  case hsh20 => kernel_rfl
  case hfh20 => kernel_rfl
  case hrh20 => kernel_rfl
  case hQh20 => exact fun _ _ _ h => h
  case hyh20 => (refine Or.inl ⟨by rfl, ?_⟩; intro w hSw; (try dsimp only at hSw); go_simp; try with_reducible rfl)
  try simp only [Act.put, List.setIfInBounds_toArray, List.set_cons_zero, List.set_cons_succ]
  refine wpAnyH_take (i := 3) (oi := { dst := some 12, op := Op.fieldAddr 91 (Operand.tmp 11) 0, type := 0, pos := "sticks.go:55", after := #[{ on := 2, ground := Ground.data }], guard := none }) (v := ?vh21) rfl ?hsh21 ?hfh21 ?hrh21 ?hQh21 ?hyh21 (by assumption) ?resth21
  case hsh21 => kernel_rfl
  case hfh21 => kernel_rfl
  case hrh21 => kernel_rfl
  case hQh21 => exact fun _ _ _ h => h
  case hyh21 => (refine Or.inl ⟨by rfl, ?_⟩; intro w hSw; (try dsimp only at hSw); go_simp; try with_reducible rfl)
  try simp only [Act.put, List.setIfInBounds_toArray, List.set_cons_zero, List.set_cons_succ]
  refine wpAnyH_take (i := 4) (oi := { dst := some 13, op := Op.fieldAddr 89 (Operand.tmp 12) 0, type := 0, pos := "sticks.go:55", after := #[{ on := 3, ground := Ground.data }], guard := none }) (v := ?vh22) rfl ?hsh22 ?hfh22 ?hrh22 ?hQh22 ?hyh22 (by assumption) ?resth22
  case hsh22 => kernel_rfl
  case hfh22 => kernel_rfl
  case hrh22 => kernel_rfl
  case hQh22 => exact fun _ _ _ h => h
  case hyh22 => (refine Or.inl ⟨by rfl, ?_⟩; intro w hSw; (try dsimp only at hSw); go_simp; try with_reducible rfl)
  try simp only [Act.put, List.setIfInBounds_toArray, List.set_cons_zero, List.set_cons_succ]
  refine wpAnyH_take (i := 5) (oi := { dst := some 14, op := Op.load 31 (Operand.tmp 13), type := 31, pos := "sticks.go:55", after := #[{ on := 4, ground := Ground.data }], guard := none }) (v := ?vh23) rfl ?hsh23 ?hfh23 ?hrh23 ?hQh23 ?hyh23 (by assumption) ?resth23
  case hsh23 => kernel_rfl
  case hfh23 => kernel_rfl
  case hrh23 => kernel_rfl
  case hQh23 => exact fun _ _ _ h => h
  case hyh23 => (refine Or.inl ⟨by rfl, ?_⟩; intro w hSw; (try dsimp only at hSw); go_simp; try with_reducible rfl)
  try simp only [Act.put, List.setIfInBounds_toArray, List.set_cons_zero, List.set_cons_succ]
  refine wpAnyH_take (i := 6) (oi := { dst := some 15, op := Op.move (Operand.tmp 0), type := 56, pos := "sticks.go:55", after := #[], guard := none }) (v := ?vh24) rfl ?hsh24 ?hfh24 ?hrh24 ?hQh24 ?hyh24 (by assumption) ?resth24
  case hsh24 => kernel_rfl
  case hfh24 => kernel_rfl
  case hrh24 => kernel_rfl
  case hQh24 => exact fun _ _ _ h => h
  case hyh24 => (refine Or.inl ⟨by rfl, ?_⟩; intro w hSw; (try dsimp only at hSw); go_simp; try with_reducible rfl)
  try simp only [Act.put, List.setIfInBounds_toArray, List.set_cons_zero, List.set_cons_succ]
  refine wpAnyH_take (i := 7) (oi := { dst := some 16, op := Op.nilCheck (Operand.tmp 15), type := 0, pos := "sticks.go:55", after := #[{ on := 6, ground := Ground.data }], guard := none }) (v := ?vh25) rfl ?hsh25 ?hfh25 ?hrh25 ?hQh25 ?hyh25 (by assumption) ?resth25
  case hsh25 => kernel_rfl
  case hfh25 => kernel_rfl
  case hrh25 => kernel_rfl
  case hQh25 => exact fun _ _ _ h => h
  case hyh25 => (refine Or.inl ⟨by rfl, ?_⟩; intro w hSw; (try dsimp only at hSw); go_simp; try with_reducible rfl)
  try simp only [Act.put, List.setIfInBounds_toArray, List.set_cons_zero, List.set_cons_succ]
  refine wpAnyH_take (i := 8) (oi := { dst := some 17, op := Op.fieldAddr 94 (Operand.tmp 16) 1, type := 0, pos := "sticks.go:55", after := #[{ on := 7, ground := Ground.data }], guard := none }) (v := ?vh26) rfl ?hsh26 ?hfh26 ?hrh26 ?hQh26 ?hyh26 (by assumption) ?resth26
  case hsh26 => kernel_rfl
  case hfh26 => kernel_rfl
  case hrh26 => kernel_rfl
  case hQh26 => exact fun _ _ _ h => h
  case hyh26 => (refine Or.inl ⟨by rfl, ?_⟩; intro w hSw; (try dsimp only at hSw); go_simp; try with_reducible rfl)
  try simp only [Act.put, List.setIfInBounds_toArray, List.set_cons_zero, List.set_cons_succ]
  refine wpAnyH_take (i := 9) (oi := { dst := some 18, op := Op.fieldAddr 92 (Operand.tmp 17) 0, type := 0, pos := "sticks.go:55", after := #[{ on := 8, ground := Ground.data }], guard := none }) (v := ?vh27) rfl ?hsh27 ?hfh27 ?hrh27 ?hQh27 ?hyh27 (by assumption) ?resth27
  case hsh27 => kernel_rfl
  case hfh27 => kernel_rfl
  case hrh27 => kernel_rfl
  case hQh27 => exact fun _ _ _ h => h
  case hyh27 => (refine Or.inl ⟨by rfl, ?_⟩; intro w hSw; (try dsimp only at hSw); go_simp; try with_reducible rfl)
  try simp only [Act.put, List.setIfInBounds_toArray, List.set_cons_zero, List.set_cons_succ]
  refine wpAnyH_take (i := 10) (oi := { dst := some 19, op := Op.fieldAddr 89 (Operand.tmp 18) 0, type := 0, pos := "sticks.go:55", after := #[{ on := 9, ground := Ground.data }], guard := none }) (v := ?vh28) rfl ?hsh28 ?hfh28 ?hrh28 ?hQh28 ?hyh28 (by assumption) ?resth28
  case hsh28 => kernel_rfl
  case hfh28 => kernel_rfl
  case hrh28 => kernel_rfl
  case hQh28 => exact fun _ _ _ h => h
  case hyh28 => (refine Or.inl ⟨by rfl, ?_⟩; intro w hSw; (try dsimp only at hSw); go_simp; try with_reducible rfl)
  try simp only [Act.put, List.setIfInBounds_toArray, List.set_cons_zero, List.set_cons_succ]
  refine wpAnyH_take (i := 11) (oi := { dst := some 20, op := Op.load 31 (Operand.tmp 19), type := 31, pos := "sticks.go:55", after := #[{ on := 10, ground := Ground.data }], guard := none }) (v := ?vh29) rfl ?hsh29 ?hfh29 ?hrh29 ?hQh29 ?hyh29 (by assumption) ?resth29
  case hsh29 => kernel_rfl
  case hfh29 => kernel_rfl
  case hrh29 => kernel_rfl
  case hQh29 => exact fun _ _ _ h => h
  case hyh29 => (refine Or.inl ⟨by rfl, ?_⟩; intro w hSw; (try dsimp only at hSw); go_simp; try with_reducible rfl)
  try simp only [Act.put, List.setIfInBounds_toArray, List.set_cons_zero, List.set_cons_succ]
  refine wpAnyH_ready (rs := [12]) (by kernel_rfl) (by simp) ?_
  refine AllReadyH.cons (o := _) (by rfl) (fun K hK => ?_) AllReadyH.nil
  go_simp
  go_at_call 16
  refine (kj.out _ C16.out).mono ?_; rintro e v30 ⟨ov, rfl, hov, hb31⟩
  have X32 := Lib.hid (X15.out.later hb31)
  have C33 := Lib.hid (C16.out.later hb31)
  have B34 := Lib.hid (B17.out.trans (hb31.mono B17.out.size))
  clear X15 C16 B17
  have HOV := Lib.hid hov
  clear hov
  go_wp2_with fail
  refine hK.out _ _ (Hcall10.out _ _ hHeld (by assumption)) (fun hHeld35 => ?_)
  clear hK K hHeld
  clear hb31
  have hHeld := hHeld35
  clear hHeld35
  try simp only [Act.put, List.setIfInBounds_toArray, List.set_cons_zero, List.set_cons_succ]
  refine wpAnyH_take (i := 13) (oi := { dst := some 8, op := Op.move (Operand.tmp 21), type := 45, pos := "sticks.go:55", after := #[{ on := 12, ground := Ground.data }], guard := none }) (v := ?vh36) rfl ?hsh36 ?hfh36 ?hrh36 ?hQh36 ?hyh36 (by assumption) ?resth36
  case hsh36 => kernel_rfl
  case hfh36 => kernel_rfl
  case hrh36 => kernel_rfl
  case hQh36 => exact fun _ _ _ h => h
  case hyh36 => (refine Or.inl ⟨by rfl, ?_⟩; intro w hSw; (try dsimp only at hSw); go_simp; try with_reducible rfl)
  try simp only [Act.put, List.setIfInBounds_toArray, List.set_cons_zero, List.set_cons_succ]
  refine wpAnyH_take (i := 14) (oi := { dst := some 22, op := Op.extract (Operand.tmp 8) 0, type := 44, pos := "sticks.go:55", after := #[{ on := 13, ground := Ground.data }], guard := none }) (v := ?vh37) rfl ?hsh37 ?hfh37 ?hrh37 ?hQh37 ?hyh37 (by assumption) ?resth37
  case hsh37 => kernel_rfl
  case hfh37 => kernel_rfl
  case hrh37 => kernel_rfl
  case hQh37 => exact fun _ _ _ h => h
  case hyh37 => (refine Or.inl ⟨by rfl, ?_⟩; intro w hSw; (try dsimp only at hSw); go_simp; try with_reducible rfl)
  try simp only [Act.put, List.setIfInBounds_toArray, List.set_cons_zero, List.set_cons_succ]
  refine wpAnyH_take (i := 15) (oi := { dst := some 23, op := Op.extract (Operand.tmp 8) 1, type := 3, pos := "sticks.go:55", after := #[{ on := 13, ground := Ground.data }, { on := 17, ground := Ground.gcOnly Departure.lateStores }], guard := none }) (v := ?vh38) rfl ?hsh38 ?hfh38 ?hrh38 ?hQh38 ?hyh38 (by assumption) ?resth38
  case hsh38 => kernel_rfl
  case hfh38 => kernel_rfl
  case hrh38 => kernel_rfl
  case hQh38 => exact fun _ _ _ h => h
  case hyh38 => (refine Or.inl ⟨by rfl, ?_⟩; intro w hSw; (try dsimp only at hSw); go_simp; try with_reducible rfl)
  try simp only [Act.put, List.setIfInBounds_toArray, List.set_cons_zero, List.set_cons_succ]
  refine wpAnyH_take (i := 16) (oi := { dst := some 24, op := Op.extract (Operand.tmp 8) 2, type := 3, pos := "sticks.go:55", after := #[{ on := 13, ground := Ground.data }, { on := 18, ground := Ground.gcOnly Departure.lateStores }], guard := none }) (v := ?vh39) rfl ?hsh39 ?hfh39 ?hrh39 ?hQh39 ?hyh39 (by assumption) ?resth39
  case hsh39 => kernel_rfl
  case hfh39 => kernel_rfl
  case hrh39 => kernel_rfl
  case hQh39 => exact fun _ _ _ h => h
  case hyh39 => (refine Or.inl ⟨by rfl, ?_⟩; intro w hSw; (try dsimp only at hSw); go_simp; try with_reducible rfl)
  try simp only [Act.put, List.setIfInBounds_toArray, List.set_cons_zero, List.set_cons_succ]
  refine wpAnyH_take (i := 17) (oi := { dst := some 3, op := Op.assign (Operand.tmp 22), type := 44, pos := "sticks.go:55", after := #[{ on := 14, ground := Ground.data }, { on := 12, ground := Ground.chain }, { on := 0, ground := Ground.phase }, { on := 1, ground := Ground.phase }, { on := 2, ground := Ground.phase }, { on := 3, ground := Ground.phase }, { on := 4, ground := Ground.phase }, { on := 5, ground := Ground.phase }, { on := 6, ground := Ground.phase }, { on := 7, ground := Ground.phase }, { on := 8, ground := Ground.phase }, { on := 9, ground := Ground.phase }, { on := 10, ground := Ground.phase }, { on := 11, ground := Ground.phase }, { on := 12, ground := Ground.phase }, { on := 13, ground := Ground.phase }, { on := 14, ground := Ground.phase }, { on := 15, ground := Ground.textOnly Departure.lateStores }, { on := 16, ground := Ground.textOnly Departure.lateStores }], guard := none }) (v := ?vh40) rfl ?hsh40 ?hfh40 ?hrh40 ?hQh40 ?hyh40 (by assumption) ?resth40
  case hsh40 => kernel_rfl
  case hfh40 => kernel_rfl
  case hrh40 => kernel_rfl
  case hQh40 => exact fun _ _ _ h => h
  case hyh40 => (refine Or.inl ⟨by rfl, ?_⟩; intro w hSw; (try dsimp only at hSw); go_simp; try with_reducible rfl)
  try simp only [Act.put, List.setIfInBounds_toArray, List.set_cons_zero, List.set_cons_succ]
  refine wpAnyH_take (i := 18) (oi := { dst := some 4, op := Op.assign (Operand.tmp 23), type := 3, pos := "sticks.go:55", after := #[{ on := 15, ground := Ground.data }, { on := 17, ground := Ground.chain }, { on := 0, ground := Ground.phase }, { on := 1, ground := Ground.phase }, { on := 2, ground := Ground.phase }, { on := 3, ground := Ground.phase }, { on := 4, ground := Ground.phase }, { on := 5, ground := Ground.phase }, { on := 6, ground := Ground.phase }, { on := 7, ground := Ground.phase }, { on := 8, ground := Ground.phase }, { on := 9, ground := Ground.phase }, { on := 10, ground := Ground.phase }, { on := 11, ground := Ground.phase }, { on := 12, ground := Ground.phase }, { on := 13, ground := Ground.phase }, { on := 14, ground := Ground.phase }, { on := 15, ground := Ground.phase }, { on := 16, ground := Ground.textOnly Departure.lateStores }, { on := 17, ground := Ground.phase }], guard := none }) (v := ?vh41) rfl ?hsh41 ?hfh41 ?hrh41 ?hQh41 ?hyh41 (by assumption) ?resth41
  case hsh41 => kernel_rfl
  case hfh41 => kernel_rfl
  case hrh41 => kernel_rfl
  case hQh41 => exact fun _ _ _ h => h
  case hyh41 => (refine Or.inl ⟨by rfl, ?_⟩; intro w hSw; (try dsimp only at hSw); go_simp; try with_reducible rfl)
  try simp only [Act.put, List.setIfInBounds_toArray, List.set_cons_zero, List.set_cons_succ]
  refine wpAnyH_take (i := 19) (oi := { dst := some 5, op := Op.assign (Operand.tmp 24), type := 3, pos := "sticks.go:55", after := #[{ on := 16, ground := Ground.data }, { on := 18, ground := Ground.chain }, { on := 0, ground := Ground.phase }, { on := 1, ground := Ground.phase }, { on := 2, ground := Ground.phase }, { on := 3, ground := Ground.phase }, { on := 4, ground := Ground.phase }, { on := 5, ground := Ground.phase }, { on := 6, ground := Ground.phase }, { on := 7, ground := Ground.phase }, { on := 8, ground := Ground.phase }, { on := 9, ground := Ground.phase }, { on := 10, ground := Ground.phase }, { on := 11, ground := Ground.phase }, { on := 12, ground := Ground.phase }, { on := 13, ground := Ground.phase }, { on := 14, ground := Ground.phase }, { on := 15, ground := Ground.phase }, { on := 16, ground := Ground.phase }, { on := 17, ground := Ground.phase }, { on := 18, ground := Ground.phase }], guard := none }) (v := ?vh42) rfl ?hsh42 ?hfh42 ?hrh42 ?hQh42 ?hyh42 (by assumption) ?resth42
  case hsh42 => kernel_rfl
  case hfh42 => kernel_rfl
  case hrh42 => kernel_rfl
  case hQh42 => exact fun _ _ _ h => h
  case hyh42 => (refine Or.inl ⟨by rfl, ?_⟩; intro w hSw; (try dsimp only at hSw); go_simp; try with_reducible rfl)
  try simp only [Act.put, List.setIfInBounds_toArray, List.set_cons_zero, List.set_cons_succ]
  refine wpAnyH_done (by kernel_rfl) ?_ _
  refine NoPanic.normal ?_
  clear hHeld Hcall10 Hini11
  have q43 : v30.cell? ⟨b, 0, none⟩ = some (.slice A1 S.length c1) := X32.out.cell 0
  have q44 : v30.cell? ⟨b, 1, none⟩ = some (.int .i64 (d1 : Int)) := X32.out.cell 1
  have q45 : v30.cell? ⟨b, 2, none⟩ = some (.slice A2 F.length c2) := X32.out.cell 2
  have q46 : v30.cell? ⟨b, 3, none⟩ = some (.int .i64 (d2 : Int)) := X32.out.cell 3
  go_wp2_with fail
  go_ret
  exact ⟨⟨_, rfl, HOV.out⟩, B34.out⟩

end Go.Proofs.Ytbpbdgiglllncaa

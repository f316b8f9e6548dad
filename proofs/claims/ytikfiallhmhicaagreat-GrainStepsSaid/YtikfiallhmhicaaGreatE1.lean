/- Layer 3: a mill laid out: cells, bites, cuts, moves, next states. -/
import Derived.Test.YtikfiallhmhicaaGreatD1
import Derived.Test.YtikfiallhmhicaaGreatC28
set_option linter.all false
namespace Go.Proofs.YtikfiallhmhicaaGreat
open Go.RowKit


/-- a mill laid out -/
def IsGC (w : World) (g : Nat) (m : Ml) : Prop :=
  ∃ s r d gv, Box w g 126 #[.int .i64 m.pr.bed.eye, .int .i64 m.pr.bed.rings, .int .i64 m.pr.bed.sectors, s, .int .i64 m.pr.run.eye, .int .i64 m.pr.run.rings, .int .i64 m.pr.run.sectors, r, d, gv] ∧
    Ints w w.heap.size s m.pr.bed.kinds ∧ Ints w w.heap.size r m.pr.run.kinds ∧ Drive w w.heap.size d m.pr.drive ∧ Ints w w.heap.size gv m.gap
theorem IsGC.later {w w1 : World} {g : Nat} {m : Ml} (h : IsGC w g m) (hb : Below w.heap.size w w1) : IsGC w1 g m := by
  obtain ⟨s, r, d, gv, h1, h2, h3, h4, h5⟩ := h
  exact ⟨s, r, d, gv, h1.later hb, h2.later hb, h3.later hb, h4.later hb, h5.later hb⟩
theorem IsGC.sizes {w : World} {g : Nat} {m : Ml} (h : IsGC w g m) : w.cell? ⟨g, 1, none⟩ = some (.int .i64 m.pr.bed.rings) ∧ w.cell? ⟨g, 2, none⟩ = some (.int .i64 m.pr.bed.sectors) ∧ g < w.heap.size := by
  obtain ⟨s, r, d, gv, h1, -⟩ := h
  exact ⟨h1.cell 1, h1.cell 2, h1.lt⟩
theorem IsGC.gapAt {w : World} {g : Nat} {m : Ml} (h : IsGC w g m) {n : Nat} (hn : n < m.gap.length) :
    ∃ b off c, w.cell? ⟨g, 9, none⟩ = some (.slice (some ⟨b, off, none⟩) m.gap.length c) ∧ w.cell? ⟨b, off + n, none⟩ = some (.int .i64 (nth m.gap n)) ∧ b < w.heap.size := by
  obtain ⟨s, r, d, gv, h1, -, -, -, -, A, c, rfl, -, h2⟩ := h
  obtain ⟨b, off, rfl, hb, hc⟩ := h2 (by omega)
  exact ⟨b, off, c, h1.cell 9, hc n hn, hb⟩
theorem IsGC.kinds {w : World} {g : Nat} {m : Ml} (h : IsGC w g m) {n k : Nat} (hn : n < m.pr.bed.kinds.length) (hk : k < m.pr.run.kinds.length) :
    ∃ b off c b2 off2 c2, w.cell? ⟨g, 3, none⟩ = some (.slice (some ⟨b, off, none⟩) m.pr.bed.kinds.length c) ∧ w.cell? ⟨g, 7, none⟩ = some (.slice (some ⟨b2, off2, none⟩) m.pr.run.kinds.length c2) ∧
      w.cell? ⟨b, off + n, none⟩ = some (.int .i64 (nth m.pr.bed.kinds n)) ∧ w.cell? ⟨b2, off2 + k, none⟩ = some (.int .i64 (nth m.pr.run.kinds k)) ∧ b < w.heap.size ∧ b2 < w.heap.size := by
  obtain ⟨s, r, d, gv, h1, ⟨-, A, c, rfl, -, h2⟩, ⟨-, A2, c2, rfl, -, h3⟩, -⟩ := h
  obtain ⟨b, off, rfl, hb, hc⟩ := h2 (by omega)
  obtain ⟨b2, off2, rfl, hb2, hc2⟩ := h3 (by omega)
  exact ⟨b, off, c, b2, off2, c2, h1.cell 3, h1.cell 7, hc n hn, hc2 k hk, hb, hb2⟩
theorem IsGC.move {w : World} {g : Nat} {m : Ml} (h : IsGC w g m) {k : Nat} (hk : k < m.pr.drive.length) : ∃ b off c d, w.cell? ⟨g, 8, none⟩ = some (.slice (some ⟨b, off, none⟩) m.pr.drive.length c) ∧ w.cell? ⟨b, off + k, none⟩ = some d ∧ b < w.heap.size ∧ Moves w w.heap.size d (nthL m.pr.drive k) := by
  obtain ⟨s, r, d, gv, h1, -, -, ⟨-, A, c, rfl, -, h4⟩, -⟩ := h
  obtain ⟨b, off, rfl, hb, hc⟩ := h4 (by omega)
  obtain ⟨d2, hd, hm⟩ := hc k hk
  exact ⟨b, off, c, d2, h1.cell 8, hd, hb, hm⟩
def gapI (m : Ml) (s : St3) : Int := nth m.gap (belowI m.pr s).toNat
def bitesB (m : Ml) (s : St3) (size : Int) : Bool := decide (gapI m s < size)
def cutsI (m : Ml) (s : St3) (size : Int) (mc : Bool) : Int := if mc && bitesB m s size then 1 else 0
theorem arnd_id {n m : Int} (h : 0 ≤ n ∧ n < m) : arnd n m = n := Int.emod_eq_of_lt h.1 h.2
set_option maxRecDepth 100000 in
set_option maxHeartbeats 8000000 in
theorem round_g (m : Ml) (n : Int) (g : Nat) (w : World) (h : IsGC w g m) (h0 : ckM m = 0) (h1 : -m.pr.bed.sectors ≤ n ∧ n ≤ 200) : Calls Tryz.prog 94 #[.pointer (some ⟨g, 0, none⟩), .int .i64 n] w fun e w' => e = .returned (.int .i64 (arnd n m.pr.bed.sectors)) ∧ Below w.heap.size w w' := by
  obtain ⟨hR, hS, -⟩ := ckE_bd (ckM_zero h0).1
  obtain ⟨-, z1, -⟩ := h.sizes
  have HN0 : arnd n m.pr.bed.sectors = (n + m.pr.bed.sectors) % m.pr.bed.sectors := by unfold arnd; rw [Int.add_emod_right]
  clear h h0 hR
  obtain ⟨S, hS2⟩ : ∃ S : Nat, m.pr.bed.sectors = (S : Int) := ⟨m.pr.bed.sectors.toNat, by omega⟩
  rw [hS2] at z1 HN0 hS h1
  obtain ⟨k, hm⟩ : ∃ k : Nat, n + (S : Int) = (k : Int) := ⟨(n + (S : Int)).toNat, by omega⟩
  have v1 : IntKind.i64.wrap (n + (S : Int)) = (k : Int) := by rw [hm]; exact wrap_id (by omega) (by omega)
  rw [hm] at HN0
  have hq := Nat.mod_lt k (show 0 < S by omega)
  obtain ⟨q, hqe⟩ : ∃ q, k % S = q := ⟨_, rfl⟩
  rw [hqe] at hq
  have eq : (k : Int) % (S : Int) = (q : Int) := by rw [← hqe]; simp
  have v2 : IntKind.i64.wrap (q : Int) = (q : Int) := wrap_id (by omega) (by omega)
  have z3 : decide ((S : Int) = 0) = false := decide_eq_false (by omega)
  have z4 : decide (S = 0) = false := decide_eq_false (by omega)
  have s0 : (0 : Int) < (S : Int) := by omega
  have s1 : 0 < S := by omega
  have HN := Lib.hid (show (k : Int) % (S : Int) = arnd n m.pr.bed.sectors ∧ (q : Int) = arnd n m.pr.bed.sectors by rw [hS2, HN0, eq]; exact ⟨rfl, rfl⟩)
  clear HN0 hm hqe hq h1 hS hS2
  go_enter Tryz.func94, Tryz.ntmps94
  go_wp2_with fail
  go_ret
  exact ⟨by first | exact ret_int HN.out.1 | exact ret_int HN.out.2, Below.refl _ _⟩

set_option maxRecDepth 100000 in
set_option maxHeartbeats 8000000 in
theorem cell_g (m : Ml) (a n : Int) (g : Nat) (w : World) (h : IsGC w g m) (h0 : ckM m = 0) (h1 : -m.pr.bed.sectors ≤ n ∧ n ≤ 200) (ha : 0 ≤ a ∧ a < m.pr.bed.rings) : Calls Tryz.prog 72 #[.pointer (some ⟨g, 0, none⟩), .int .i64 a, .int .i64 n] w fun e w' => e = .returned (.int .i64 (a * m.pr.bed.sectors + arnd n m.pr.bed.sectors)) ∧ Below w.heap.size w w' := by
  obtain ⟨hR, hS, -⟩ := ckE_bd (ckM_zero h0).1
  have hn := arnd_bd (n := n) (m := m.pr.bed.sectors) (by omega)
  obtain ⟨⟨m1, m2⟩, m3, m4⟩ := cells_bd hS hR.2 ha hn
  have HD := Lib.hid h1
  have HCH0 := Lib.hid h
  have HP := Lib.hid h0
  obtain ⟨m7, m8⟩ := mul_bd (a := m.pr.bed.rings) (b := m.pr.bed.sectors) (m := 24) (n := 96) (by omega) (by omega) (by omega) (by omega)
  have w1 : IntKind.i64.wrap (a * m.pr.bed.sectors) = a * m.pr.bed.sectors := wrap_id (by omega) (by omega)
  have w4 : IntKind.i64.wrap (a * m.pr.bed.sectors + arnd n m.pr.bed.sectors) = a * m.pr.bed.sectors + arnd n m.pr.bed.sectors := wrap_id (by omega) (by omega)
  obtain ⟨r, hr⟩ : ∃ r, arnd n m.pr.bed.sectors = r := ⟨_, rfl⟩
  have HRR := Lib.hid hr
  rw [hr] at w4
  obtain ⟨x, hx⟩ : ∃ x, a * m.pr.bed.sectors = x := ⟨_, rfl⟩
  have v1 : IntKind.i64.wrap (a * m.pr.bed.sectors) = x := by rw [w1, hx]
  rw [hx] at w4
  have HV := Lib.hid (show x + r = a * m.pr.bed.sectors + arnd n m.pr.bed.sectors by rw [hx, hr])
  clear h h0 h1 hR hS ha hn m1 m2 m3 m4 m7 m8 w1 hr hx
  go_enter Tryz.func72, Tryz.ntmps72
  go_wp2_with fail
  have B1 := Lib.hid (Below.refl w.heap.size w)
  go_wp2_with fail
  have hdr4 : Below (w).heap.size (w) (w).drew := (Below.refl _ _).drew
  have lt3 := HCH0.out.sizes.2.2
  have hcall5 : ∀ X Y : World, (fun Wz => Wz.cell? ⟨g, 2, none⟩ = some (.int .i64 m.pr.bed.sectors) ∧ (w).heap.size ≤ Wz.heap.size) X → Below X.heap.size X Y → (fun Wz => Wz.cell? ⟨g, 2, none⟩ = some (.int .i64 m.pr.bed.sectors) ∧ (w).heap.size ≤ Wz.heap.size) Y := by
    rintro X Y ⟨z2, xs⟩ hb
    have hb2 := Below.mono (B' := (w).heap.size) hb xs
    exact ⟨keepd z2 hb2 lt3, Nat.le_trans xs hb.size⟩
  have hini6 : (fun Wz => Wz.cell? ⟨g, 2, none⟩ = some (.int .i64 m.pr.bed.sectors) ∧ (w).heap.size ≤ Wz.heap.size) (w).drew := ⟨keepd (HCH0.out.sizes.2.1) hdr4 lt3, Nat.le_refl _⟩
  have Hcall5 := Lib.hid hcall5
  have Hini6 := Lib.hid hini6
  clear hcall5 hini6 lt3
  refine wp_region_noPanic ?_
  refine wp_region_held_drew (S := (fun Wz => Wz.cell? ⟨g, 2, none⟩ = some (.int .i64 m.pr.bed.sectors) ∧ (w).heap.size ≤ Wz.heap.size)) (by kernel_rfl) Hini6.out (fun hHeld => ?_)
  obtain ⟨W8, hW9⟩ : ∃ Wzz, (w).drew = Wzz := ⟨_, rfl⟩
  rw [hW9] at hHeld hdr4 ⊢
  clear hW9
  have C10 := Lib.hid (HCH0.out.later hdr4)
  have B11 := Lib.hid (B1.out.trans (hdr4.mono B1.out.size))
  clear hdr4
  refine wpAnyH_take (i := 0) (oi := { dst := some 7, op := Op.move (Operand.tmp 1), type := 3, pos := "steps.go:55", after := #[], guard := none }) (v := ?vh12) rfl ?hsh12 ?hfh12 ?hrh12 ?hQh12 ?hyh12 (by assumption) ?resth12
  case hsh12 => kernel_rfl
  case hfh12 => kernel_rfl
  case hrh12 => kernel_rfl
  case hQh12 => exact fun _ _ _ h => h
  case hyh12 => (refine Or.inl ⟨by rfl, ?_⟩; intro w hSw; (try dsimp only at hSw); go_simp; try with_reducible rfl)
  try simp only [Act.put, List.setIfInBounds_toArray, List.set_cons_zero, List.set_cons_succ]
  refine wpAnyH_take (i := 1) (oi := { dst := some 8, op := Op.move (Operand.tmp 0), type := 89, pos := "steps.go:55", after := #[], guard := none }) (v := ?vh13) rfl ?hsh13 ?hfh13 ?hrh13 ?hQh13 ?hyh13 (by assumption) ?resth13
  case hsh13 => kernel_rfl
  case hfh13 => kernel_rfl
  case hrh13 => kernel_rfl
  case hQh13 => exact fun _ _ _ h => h
  case hyh13 => (refine Or.inl ⟨by rfl, ?_⟩; intro w hSw; (try dsimp only at hSw); go_simp; try with_reducible rfl)
  try simp only [Act.put, List.setIfInBounds_toArray, List.set_cons_zero, List.set_cons_succ]
  refine wpAnyH_take (i := 2) (oi := { dst := some 9, op := Op.nilCheck (Operand.tmp 8), type := 0, pos := "steps.go:55", after := #[{ on := 1, ground := Ground.data }], guard := none }) (v := ?vh14) rfl ?hsh14 ?hfh14 ?hrh14 ?hQh14 ?hyh14 (by assumption) ?resth14
  case hsh14 => kernel_rfl
  case hfh14 => kernel_rfl
  case hrh14 => kernel_rfl
  case hQh14 => exact fun _ _ _ h => h
  case hyh14 => (refine Or.inl ⟨by rfl, ?_⟩; intro w hSw; (try dsimp only at hSw); go_simp; try with_reducible rfl)
  try simp only [Act.put, List.setIfInBounds_toArray, List.set_cons_zero, List.set_cons_succ]
  refine wpAnyH_take (i := 3) (oi := { dst := some 10, op := Op.fieldAddr 126 (Operand.tmp 9) 0, type := 0, pos := "steps.go:55", after := #[{ on := 2, ground := Ground.data }], guard := none }) (v := ?vh15) rfl ?hsh15 ?hfh15 ?hrh15 ?hQh15 ?hyh15 (by assumption) ?resth15
  case hsh15 => kernel_rfl
  case hfh15 => kernel_rfl
  case hrh15 => kernel_rfl
  case hQh15 => exact fun _ _ _ h => h
  case hyh15 => (refine Or.inl ⟨by rfl, ?_⟩; intro w hSw; (try dsimp only at hSw); go_simp; try with_reducible rfl)
  try simp only [Act.put, List.setIfInBounds_toArray, List.set_cons_zero, List.set_cons_succ]
  refine wpAnyH_take (i := 4) (oi := { dst := some 11, op := Op.fieldAddr 31 (Operand.tmp 10) 0, type := 0, pos := "steps.go:55", after := #[{ on := 3, ground := Ground.data }], guard := none }) (v := ?vh16) rfl ?hsh16 ?hfh16 ?hrh16 ?hQh16 ?hyh16 (by assumption) ?resth16
  case hsh16 => kernel_rfl
  case hfh16 => kernel_rfl
  case hrh16 => kernel_rfl
  case hQh16 => exact fun _ _ _ h => h
  case hyh16 => (refine Or.inl ⟨by rfl, ?_⟩; intro w hSw; (try dsimp only at hSw); go_simp; try with_reducible rfl)
  try simp only [Act.put, List.setIfInBounds_toArray, List.set_cons_zero, List.set_cons_succ]
  refine wpAnyH_take (i := 5) (oi := { dst := some 12, op := Op.fieldAddr 28 (Operand.tmp 11) 2, type := 0, pos := "steps.go:55", after := #[{ on := 4, ground := Ground.data }], guard := none }) (v := ?vh17) rfl ?hsh17 ?hfh17 ?hrh17 ?hQh17 ?hyh17 (by assumption) ?resth17
  case hsh17 => kernel_rfl
  case hfh17 => kernel_rfl
  case hrh17 => kernel_rfl
  case hQh17 => exact fun _ _ _ h => h
  case hyh17 => (refine Or.inl ⟨by rfl, ?_⟩; intro w hSw; (try dsimp only at hSw); go_simp; try with_reducible rfl)
  try simp only [Act.put, List.setIfInBounds_toArray, List.set_cons_zero, List.set_cons_succ]
  refine wpAnyH_take (i := 6) (oi := { dst := some 13, op := Op.load 3 (Operand.tmp 12), type := 3, pos := "steps.go:55", after := #[{ on := 5, ground := Ground.data }], guard := none }) (v := ?vh18) rfl ?hsh18 ?hfh18 ?hrh18 ?hQh18 ?hyh18 (by assumption) ?resth18
  case hsh18 => kernel_rfl
  case hfh18 => kernel_rfl
  case hrh18 => kernel_rfl
  case hQh18 => exact fun _ _ _ h => h
  case hyh18 => (refine Or.inl ⟨by rfl, ?_⟩; intro w hSw; (try dsimp only at hSw); go_simp; try with_reducible rfl)
  try simp only [Act.put, List.setIfInBounds_toArray, List.set_cons_zero, List.set_cons_succ]
  refine wpAnyH_take (i := 7) (oi := { dst := some 14, op := Op.binOp BinOp.mul 3 (Operand.tmp 7) (Operand.tmp 13) 3, type := 3, pos := "steps.go:55", after := #[{ on := 0, ground := Ground.data }, { on := 6, ground := Ground.data }], guard := none }) (v := ?vh19) rfl ?hsh19 ?hfh19 ?hrh19 ?hQh19 ?hyh19 (by assumption) ?resth19
  case hsh19 => kernel_rfl
  case hfh19 => kernel_rfl
  case hrh19 => kernel_rfl
  case hQh19 => exact fun _ _ _ h => h
  case hyh19 => (refine Or.inl ⟨by rfl, ?_⟩; intro w hSw; (try dsimp only at hSw); go_simp; try with_reducible rfl)
  try simp only [Act.put, List.setIfInBounds_toArray, List.set_cons_zero, List.set_cons_succ]
  refine wpAnyH_take (i := 8) (oi := { dst := some 15, op := Op.move (Operand.tmp 0), type := 89, pos := "steps.go:55", after := #[], guard := none }) (v := ?vh20) rfl ?hsh20 ?hfh20 ?hrh20 ?hQh20 ?hyh20 (by assumption) ?resth20
  case hsh20 => kernel_rfl
  case hfh20 => kernel_rfl
  case hrh20 => kernel_rfl
  case hQh20 => exact fun _ _ _ h => h
  case hyh20 => (refine Or.inl ⟨by rfl, ?_⟩; intro w hSw; (try dsimp only at hSw); go_simp; try with_reducible rfl)
  try simp only [Act.put, List.setIfInBounds_toArray, List.set_cons_zero, List.set_cons_succ]
  refine wpAnyH_take (i := 9) (oi := { dst := some 16, op := Op.move (Operand.tmp 2), type := 3, pos := "steps.go:55", after := #[], guard := none }) (v := ?vh21) rfl ?hsh21 ?hfh21 ?hrh21 ?hQh21 ?hyh21 (by assumption) ?resth21
  case hsh21 => kernel_rfl
  case hfh21 => kernel_rfl
  case hrh21 => kernel_rfl
  case hQh21 => exact fun _ _ _ h => h
  case hyh21 => (refine Or.inl ⟨by rfl, ?_⟩; intro w hSw; (try dsimp only at hSw); go_simp; try with_reducible rfl)
  try simp only [Act.put, List.setIfInBounds_toArray, List.set_cons_zero, List.set_cons_succ]
  refine wpAnyH_ready (rs := [10]) (by kernel_rfl) (by simp) ?_
  refine AllReadyH.cons (o := _) (by rfl) (fun K hK => ?_) AllReadyH.nil
  go_simp
  go_at_call 94
  refine (round_g m n g _ C10.out HP.out HD.out).mono ?_; rintro e v22 ⟨rfl, hb23⟩
  have C24 := Lib.hid (C10.out.later hb23)
  have B25 := Lib.hid (B11.out.trans (hb23.mono B11.out.size))
  clear C10 B11
  rw [HRR.out]
  go_wp2_with fail
  refine hK.out _ _ (Hcall5.out _ _ hHeld (by assumption)) (fun hHeld26 => ?_)
  clear hK K hHeld
  clear hb23
  have hHeld := hHeld26
  clear hHeld26
  try simp only [Act.put, List.setIfInBounds_toArray, List.set_cons_zero, List.set_cons_succ]
  refine wpAnyH_take (i := 11) (oi := { dst := some 18, op := Op.binOp BinOp.add 3 (Operand.tmp 14) (Operand.tmp 17) 3, type := 3, pos := "steps.go:55", after := #[{ on := 7, ground := Ground.data }, { on := 10, ground := Ground.data }], guard := none }) (v := ?vh27) rfl ?hsh27 ?hfh27 ?hrh27 ?hQh27 ?hyh27 (by assumption) ?resth27
  case hsh27 => kernel_rfl
  case hfh27 => kernel_rfl
  case hrh27 => kernel_rfl
  case hQh27 => exact fun _ _ _ h => h
  case hyh27 => (refine Or.inl ⟨by rfl, ?_⟩; intro w hSw; (try dsimp only at hSw); go_simp; try with_reducible rfl)
  try simp only [Act.put, List.setIfInBounds_toArray, List.set_cons_zero, List.set_cons_succ]
  refine wpAnyH_take (i := 12) (oi := { dst := some 6, op := Op.assign (Operand.tmp 18), type := 3, pos := "steps.go:55", after := #[{ on := 11, ground := Ground.data }, { on := 10, ground := Ground.chain }, { on := 0, ground := Ground.phase }, { on := 1, ground := Ground.phase }, { on := 2, ground := Ground.phase }, { on := 3, ground := Ground.phase }, { on := 4, ground := Ground.phase }, { on := 5, ground := Ground.phase }, { on := 6, ground := Ground.phase }, { on := 7, ground := Ground.phase }, { on := 8, ground := Ground.phase }, { on := 9, ground := Ground.phase }, { on := 10, ground := Ground.phase }, { on := 11, ground := Ground.phase }], guard := none }) (v := ?vh28) rfl ?hsh28 ?hfh28 ?hrh28 ?hQh28 ?hyh28 (by assumption) ?resth28
  case hsh28 => kernel_rfl
  case hfh28 => kernel_rfl
  case hrh28 => kernel_rfl
  case hQh28 => exact fun _ _ _ h => h
  case hyh28 => (refine Or.inl ⟨by rfl, ?_⟩; intro w hSw; (try dsimp only at hSw); go_simp; try with_reducible rfl)
  try simp only [Act.put, List.setIfInBounds_toArray, List.set_cons_zero, List.set_cons_succ]
  refine wpAnyH_done (by kernel_rfl) ?_ _
  refine NoPanic.normal ?_
  clear hHeld Hcall5 Hini6
  go_wp2_with fail
  go_ret
  exact ⟨ret_int HV.out, B25.out⟩


theorem gap_bd {m : Ml} {s : St3} (h0 : ckM m = 0) (hs : hasB m.pr s = true) : ∃ n : Nat, belowI m.pr s = (n : Int) ∧ n < m.gap.length ∧ gapI m s = nth m.gap n ∧ 0 ≤ nth m.gap n ∧ nth m.gap n ≤ 4095 := by
  obtain ⟨e1, e2, e3⟩ := ckM_zero h0
  obtain ⟨hR, hS, -, -, -, -, l1, l2⟩ := ckE_bd e1
  obtain ⟨c1, c2, c3⟩ := hasB_parts.1 hs
  obtain ⟨-, m3, m4⟩ := cells_bd hS hR.2 c1 c2
  obtain ⟨n, hn⟩ := Int.eq_ofNat_of_zero_le (show 0 ≤ belowI m.pr s from m3)
  have hn2 : n < m.gap.length := by have : belowI m.pr s < m.pr.bed.rings * m.pr.bed.sectors := m4; omega
  exact ⟨n, hn, hn2, by unfold gapI; rw [hn]; rfl, allB_nth e3 hn2⟩
set_option maxRecDepth 100000 in
set_option maxHeartbeats 8000000 in
theorem bites_g (m : Ml) (a b t size : Int) (g : Nat) (w : World) (h : IsGC w g m) (h0 : ckM m = 0) (hs : hasB m.pr ⟨a, b, t⟩ = true) : Calls Tryz.prog 47 #[.pointer (some ⟨g, 0, none⟩), .agg #[.int .i64 a, .int .i64 b, .int .i64 t], .int .i64 size] w fun e w' => e = .returned (.bool (bitesB m ⟨a, b, t⟩ size)) ∧ Below w.heap.size w w' := by
  obtain ⟨hR, hS, -⟩ := ckE_bd (ckM_zero h0).1
  obtain ⟨c1, c2, c3⟩ := hasB_parts.1 hs
  dsimp only at c1 c2 c3
  have HCH0 := Lib.hid h
  have HP := Lib.hid h0
  have HHS := Lib.hid hs
  obtain ⟨n, q1, q2, q3, -, -⟩ := gap_bd h0 hs
  obtain ⟨gb, go_, gc, y1, y2, y3⟩ := h.gapAt q2
  have HLT := Lib.hid (And.intro h.sizes.2.2 y3)
  have HA := Lib.hid c1
  have HD := Lib.hid (show -m.pr.bed.sectors ≤ b ∧ b ≤ 200 by omega)
  have HI := Lib.hid (show a * m.pr.bed.sectors + arnd b m.pr.bed.sectors = (n : Int) by rw [arnd_id c2, ← q1]; rfl)
  obtain ⟨gn, hgn⟩ : ∃ k, m.gap.length = k := ⟨_, rfl⟩
  obtain ⟨z, hz⟩ : ∃ k, nth m.gap n = k := ⟨_, rfl⟩
  rw [hgn] at y1 q2
  rw [hz] at y2 q3
  have Y9 := Lib.hid y1
  have YE := Lib.hid y2
  have HV := Lib.hid (show bitesB m ⟨a, b, t⟩ size = decide (z < size) by unfold bitesB; rw [q3])
  have i0 : (0 : Int) ≤ (n : Int) := Int.natCast_nonneg _
  have i1 : (n : Int) < (gn : Int) := by omega
  clear h h0 hs hR hS c1 c2 c3 q1 q2 q3 y1 y2 y3 hgn hz
  go_enter Tryz.func47, Tryz.ntmps47
  go_wp2_with fail
  obtain ⟨W29, hW30⟩ : ∃ Wzz, (w.alloc (.cells #[.int .i64 a, .int .i64 b, .int .i64 t] 46)) = Wzz := ⟨_, rfl⟩
  have B31 := Lib.hid (show Below w.heap.size w W29 by rw [← hW30]; exact ((Below.refl w.heap.size w).alloc (Nat.le_refl _) _))
  have X32 := Lib.hid (show Box W29 (w.heap.size) 46 #[.int .i64 a, .int .i64 b, .int .i64 t] by rw [← hW30]; exact Box.made w 46 #[.int .i64 a, .int .i64 b, .int .i64 t])
  have C33 := Lib.hid (HCH0.out.later B31.out)
  have SZ34 := Lib.hid (show W29.heap.size = w.heap.size + 1 by rw [← hW30]; simp)
  rw [hW30]
  clear hW30
  have q35 : W29.cell? ⟨w.heap.size, 0, none⟩ = some (.int .i64 a) := X32.out.cell 0
  have q36 : W29.cell? ⟨w.heap.size, 1, none⟩ = some (.int .i64 b) := X32.out.cell 1
  have q37 : W29.cell? ⟨w.heap.size, 2, none⟩ = some (.int .i64 t) := X32.out.cell 2
  go_wp2_with fail
  have hdr48 : Below (W29).heap.size (W29) (W29).drew := (Below.refl _ _).drew
  have lt43 := X32.out.lt
  have lt44 := X32.out.lt
  have lt45 := X32.out.lt
  have lt46 := (Nat.lt_of_lt_of_le HLT.out.1 B31.out.size)
  have lt47 := (Nat.lt_of_lt_of_le HLT.out.2 B31.out.size)
  have hcall49 : ∀ X Y : World, (fun Wz => Wz.cell? ⟨w.heap.size, 0, none⟩ = some (.int .i64 a) ∧ Wz.cell? ⟨w.heap.size, 1, none⟩ = some (.int .i64 b) ∧ Wz.cell? ⟨w.heap.size, 2, none⟩ = some (.int .i64 t) ∧ Wz.cell? ⟨g, 9, none⟩ = some (.slice (some ⟨gb, go_, none⟩) gn gc) ∧ Wz.cell? ⟨gb, go_ + n, none⟩ = some (.int .i64 z) ∧ (W29).heap.size ≤ Wz.heap.size) X → Below X.heap.size X Y → (fun Wz => Wz.cell? ⟨w.heap.size, 0, none⟩ = some (.int .i64 a) ∧ Wz.cell? ⟨w.heap.size, 1, none⟩ = some (.int .i64 b) ∧ Wz.cell? ⟨w.heap.size, 2, none⟩ = some (.int .i64 t) ∧ Wz.cell? ⟨g, 9, none⟩ = some (.slice (some ⟨gb, go_, none⟩) gn gc) ∧ Wz.cell? ⟨gb, go_ + n, none⟩ = some (.int .i64 z) ∧ (W29).heap.size ≤ Wz.heap.size) Y := by
    rintro X Y ⟨z38, z39, z40, z41, z42, xs⟩ hb
    have hb2 := Below.mono (B' := (W29).heap.size) hb xs
    exact ⟨keepd z38 hb2 lt43, keepd z39 hb2 lt44, keepd z40 hb2 lt45, keepd z41 hb2 lt46, keepd z42 hb2 lt47, Nat.le_trans xs hb.size⟩
  have hini50 : (fun Wz => Wz.cell? ⟨w.heap.size, 0, none⟩ = some (.int .i64 a) ∧ Wz.cell? ⟨w.heap.size, 1, none⟩ = some (.int .i64 b) ∧ Wz.cell? ⟨w.heap.size, 2, none⟩ = some (.int .i64 t) ∧ Wz.cell? ⟨g, 9, none⟩ = some (.slice (some ⟨gb, go_, none⟩) gn gc) ∧ Wz.cell? ⟨gb, go_ + n, none⟩ = some (.int .i64 z) ∧ (W29).heap.size ≤ Wz.heap.size) (W29).drew := ⟨keepd (X32.out.cell 0) hdr48 lt43, keepd (X32.out.cell 1) hdr48 lt44, keepd (X32.out.cell 2) hdr48 lt45, keepd (keepd Y9.out B31.out HLT.out.1) hdr48 lt46, keepd (keepd YE.out B31.out HLT.out.2) hdr48 lt47, Nat.le_refl _⟩
  have Hcall49 := Lib.hid hcall49
  have Hini50 := Lib.hid hini50
  clear hcall49 hini50 lt43 lt44 lt45 lt46 lt47
  clear q35 q36 q37
  refine wp_region_noPanic ?_
  refine wp_region_held_drew (S := (fun Wz => Wz.cell? ⟨w.heap.size, 0, none⟩ = some (.int .i64 a) ∧ Wz.cell? ⟨w.heap.size, 1, none⟩ = some (.int .i64 b) ∧ Wz.cell? ⟨w.heap.size, 2, none⟩ = some (.int .i64 t) ∧ Wz.cell? ⟨g, 9, none⟩ = some (.slice (some ⟨gb, go_, none⟩) gn gc) ∧ Wz.cell? ⟨gb, go_ + n, none⟩ = some (.int .i64 z) ∧ (W29).heap.size ≤ Wz.heap.size)) (by kernel_rfl) Hini50.out (fun hHeld => ?_)
  obtain ⟨W52, hW53⟩ : ∃ Wzz, (W29).drew = Wzz := ⟨_, rfl⟩
  rw [hW53] at hHeld hdr48 ⊢
  clear hW53
  have X54 := Lib.hid (X32.out.later hdr48)
  have C55 := Lib.hid (C33.out.later hdr48)
  have B56 := Lib.hid (B31.out.trans (hdr48.mono B31.out.size))
  clear hdr48
  refine wpAnyH_take (i := 0) (oi := { dst := some 7, op := Op.move (Operand.tmp 0), type := 89, pos := "steps.go:78", after := #[], guard := none }) (v := ?vh57) rfl ?hsh57 ?hfh57 ?hrh57 ?hQh57 ?hyh57 (by assumption) ?resth57
  case hsh57 => kernel_rfl
  case hfh57 => kernel_rfl
  case hrh57 => kernel_rfl
  case hQh57 => exact fun _ _ _ h => h
  case hyh57 => (refine Or.inl ⟨by rfl, ?_⟩; intro w hSw; (try dsimp only at hSw); go_simp; try with_reducible rfl)
  try simp only [Act.put, List.setIfInBounds_toArray, List.set_cons_zero, List.set_cons_succ]
  refine wpAnyH_take (i := 1) (oi := { dst := some 8, op := Op.nilCheck (Operand.tmp 7), type := 0, pos := "steps.go:78", after := #[{ on := 0, ground := Ground.data }], guard := none }) (v := ?vh58) rfl ?hsh58 ?hfh58 ?hrh58 ?hQh58 ?hyh58 (by assumption) ?resth58
  case hsh58 => kernel_rfl
  case hfh58 => kernel_rfl
  case hrh58 => kernel_rfl
  case hQh58 => exact fun _ _ _ h => h
  case hyh58 => (refine Or.inl ⟨by rfl, ?_⟩; intro w hSw; (try dsimp only at hSw); go_simp; try with_reducible rfl)
  try simp only [Act.put, List.setIfInBounds_toArray, List.set_cons_zero, List.set_cons_succ]
  refine wpAnyH_take (i := 2) (oi := { dst := some 9, op := Op.fieldAddr 126 (Operand.tmp 8) 1, type := 0, pos := "steps.go:78", after := #[{ on := 1, ground := Ground.data }], guard := none }) (v := ?vh59) rfl ?hsh59 ?hfh59 ?hrh59 ?hQh59 ?hyh59 (by assumption) ?resth59
  case hsh59 => kernel_rfl
  case hfh59 => kernel_rfl
  case hrh59 => kernel_rfl
  case hQh59 => exact fun _ _ _ h => h
  case hyh59 => (refine Or.inl ⟨by rfl, ?_⟩; intro w hSw; (try dsimp only at hSw); go_simp; try with_reducible rfl)
  try simp only [Act.put, List.setIfInBounds_toArray, List.set_cons_zero, List.set_cons_succ]
  refine wpAnyH_take (i := 3) (oi := { dst := some 10, op := Op.load 26 (Operand.tmp 9), type := 26, pos := "steps.go:78", after := #[{ on := 2, ground := Ground.data }], guard := none }) (v := ?vh60) rfl ?hsh60 ?hfh60 ?hrh60 ?hQh60 ?hyh60 (by assumption) ?resth60
  case hsh60 => kernel_rfl
  case hfh60 => kernel_rfl
  case hrh60 => kernel_rfl
  case hQh60 => exact fun _ _ _ h => h
  case hyh60 => (refine Or.inl ⟨by rfl, ?_⟩; intro w hSw; (try dsimp only at hSw); go_simp; try with_reducible rfl)
  try simp only [Act.put, List.setIfInBounds_toArray, List.set_cons_zero, List.set_cons_succ]
  refine wpAnyH_take (i := 4) (oi := { dst := some 11, op := Op.move (Operand.tmp 0), type := 89, pos := "steps.go:78", after := #[], guard := none }) (v := ?vh61) rfl ?hsh61 ?hfh61 ?hrh61 ?hQh61 ?hyh61 (by assumption) ?resth61
  case hsh61 => kernel_rfl
  case hfh61 => kernel_rfl
  case hrh61 => kernel_rfl
  case hQh61 => exact fun _ _ _ h => h
  case hyh61 => (refine Or.inl ⟨by rfl, ?_⟩; intro w hSw; (try dsimp only at hSw); go_simp; try with_reducible rfl)
  try simp only [Act.put, List.setIfInBounds_toArray, List.set_cons_zero, List.set_cons_succ]
  refine wpAnyH_take (i := 5) (oi := { dst := some 12, op := Op.fieldAddr 46 (Operand.tmp 4) 0, type := 0, pos := "steps.go:78", after := #[], guard := none }) (v := ?vh62) rfl ?hsh62 ?hfh62 ?hrh62 ?hQh62 ?hyh62 (by assumption) ?resth62
  case hsh62 => kernel_rfl
  case hfh62 => kernel_rfl
  case hrh62 => kernel_rfl
  case hQh62 => exact fun _ _ _ h => h
  case hyh62 => (refine Or.inl ⟨by rfl, ?_⟩; intro w hSw; (try dsimp only at hSw); go_simp; try with_reducible rfl)
  try simp only [Act.put, List.setIfInBounds_toArray, List.set_cons_zero, List.set_cons_succ]
  refine wpAnyH_take (i := 6) (oi := { dst := some 13, op := Op.load 3 (Operand.tmp 12), type := 3, pos := "steps.go:78", after := #[{ on := 5, ground := Ground.data }], guard := none }) (v := ?vh63) rfl ?hsh63 ?hfh63 ?hrh63 ?hQh63 ?hyh63 (by assumption) ?resth63
  case hsh63 => kernel_rfl
  case hfh63 => kernel_rfl
  case hrh63 => kernel_rfl
  case hQh63 => exact fun _ _ _ h => h
  case hyh63 => (refine Or.inl ⟨by rfl, ?_⟩; intro w hSw; (try dsimp only at hSw); go_simp; try with_reducible rfl)
  try simp only [Act.put, List.setIfInBounds_toArray, List.set_cons_zero, List.set_cons_succ]
  refine wpAnyH_take (i := 7) (oi := { dst := some 14, op := Op.fieldAddr 46 (Operand.tmp 4) 1, type := 0, pos := "steps.go:78", after := #[], guard := none }) (v := ?vh64) rfl ?hsh64 ?hfh64 ?hrh64 ?hQh64 ?hyh64 (by assumption) ?resth64
  case hsh64 => kernel_rfl
  case hfh64 => kernel_rfl
  case hrh64 => kernel_rfl
  case hQh64 => exact fun _ _ _ h => h
  case hyh64 => (refine Or.inl ⟨by rfl, ?_⟩; intro w hSw; (try dsimp only at hSw); go_simp; try with_reducible rfl)
  try simp only [Act.put, List.setIfInBounds_toArray, List.set_cons_zero, List.set_cons_succ]
  refine wpAnyH_take (i := 8) (oi := { dst := some 15, op := Op.load 3 (Operand.tmp 14), type := 3, pos := "steps.go:78", after := #[{ on := 7, ground := Ground.data }], guard := none }) (v := ?vh65) rfl ?hsh65 ?hfh65 ?hrh65 ?hQh65 ?hyh65 (by assumption) ?resth65
  case hsh65 => kernel_rfl
  case hfh65 => kernel_rfl
  case hrh65 => kernel_rfl
  case hQh65 => exact fun _ _ _ h => h
  case hyh65 => (refine Or.inl ⟨by rfl, ?_⟩; intro w hSw; (try dsimp only at hSw); go_simp; try with_reducible rfl)
  try simp only [Act.put, List.setIfInBounds_toArray, List.set_cons_zero, List.set_cons_succ]
  refine wpAnyH_take (i := 12) (oi := { dst := some 19, op := Op.move (Operand.tmp 2), type := 3, pos := "steps.go:78", after := #[], guard := none }) (v := ?vh66) rfl ?hsh66 ?hfh66 ?hrh66 ?hQh66 ?hyh66 (by assumption) ?resth66
  case hsh66 => kernel_rfl
  case hfh66 => kernel_rfl
  case hrh66 => kernel_rfl
  case hQh66 => exact fun _ _ _ h => h
  case hyh66 => (refine Or.inl ⟨by rfl, ?_⟩; intro w hSw; (try dsimp only at hSw); go_simp; try with_reducible rfl)
  try simp only [Act.put, List.setIfInBounds_toArray, List.set_cons_zero, List.set_cons_succ]
  refine wpAnyH_ready (rs := [9]) (by kernel_rfl) (by simp) ?_
  refine AllReadyH.cons (o := _) (by rfl) (fun K hK => ?_) AllReadyH.nil
  go_simp
  go_at_call 72
  refine (cell_g m a b g _ C55.out HP.out HD.out HA.out).mono ?_; rintro e v67 ⟨rfl, hb68⟩
  have X69 := Lib.hid (X54.out.later hb68)
  have C70 := Lib.hid (C55.out.later hb68)
  have B71 := Lib.hid (B56.out.trans (hb68.mono B56.out.size))
  clear X54 C55 B56
  rw [HI.out]
  go_wp2_with fail
  refine hK.out _ _ (Hcall49.out _ _ hHeld (by assumption)) (fun hHeld72 => ?_)
  clear hK K hHeld
  clear hb68
  have hHeld := hHeld72
  clear hHeld72
  try simp only [Act.put, List.setIfInBounds_toArray, List.set_cons_zero, List.set_cons_succ]
  refine wpAnyH_take (i := 10) (oi := { dst := some 17, op := Op.indexAddr 26 (Operand.tmp 10) (Operand.tmp 16), type := 0, pos := "steps.go:78", after := #[{ on := 3, ground := Ground.data }, { on := 9, ground := Ground.data }], guard := none }) (v := ?vh73) rfl ?hsh73 ?hfh73 ?hrh73 ?hQh73 ?hyh73 (by assumption) ?resth73
  case hsh73 => kernel_rfl
  case hfh73 => kernel_rfl
  case hrh73 => kernel_rfl
  case hQh73 => exact fun _ _ _ h => h
  case hyh73 => (refine Or.inl ⟨by rfl, ?_⟩; intro w hSw; (try dsimp only at hSw); go_simp; try with_reducible rfl)
  try simp only [Act.put, List.setIfInBounds_toArray, List.set_cons_zero, List.set_cons_succ]
  refine wpAnyH_take (i := 11) (oi := { dst := some 18, op := Op.load 3 (Operand.tmp 17), type := 3, pos := "steps.go:78", after := #[{ on := 10, ground := Ground.data }], guard := none }) (v := ?vh74) rfl ?hsh74 ?hfh74 ?hrh74 ?hQh74 ?hyh74 (by assumption) ?resth74
  case hsh74 => kernel_rfl
  case hfh74 => kernel_rfl
  case hrh74 => kernel_rfl
  case hQh74 => exact fun _ _ _ h => h
  case hyh74 => (refine Or.inl ⟨by rfl, ?_⟩; intro w hSw; (try dsimp only at hSw); go_simp; try with_reducible rfl)
  try simp only [Act.put, List.setIfInBounds_toArray, List.set_cons_zero, List.set_cons_succ]
  refine wpAnyH_take (i := 13) (oi := { dst := some 20, op := Op.binOp BinOp.lss 3 (Operand.tmp 18) (Operand.tmp 19) 3, type := 4, pos := "steps.go:78", after := #[{ on := 11, ground := Ground.data }, { on := 12, ground := Ground.data }], guard := none }) (v := ?vh75) rfl ?hsh75 ?hfh75 ?hrh75 ?hQh75 ?hyh75 (by assumption) ?resth75
  case hsh75 => kernel_rfl
  case hfh75 => kernel_rfl
  case hrh75 => kernel_rfl
  case hQh75 => exact fun _ _ _ h => h
  case hyh75 => (refine Or.inl ⟨by rfl, ?_⟩; intro w hSw; (try dsimp only at hSw); go_simp; try with_reducible rfl)
  try simp only [Act.put, List.setIfInBounds_toArray, List.set_cons_zero, List.set_cons_succ]
  refine wpAnyH_take (i := 14) (oi := { dst := some 6, op := Op.assign (Operand.tmp 20), type := 4, pos := "steps.go:78", after := #[{ on := 13, ground := Ground.data }, { on := 9, ground := Ground.chain }, { on := 0, ground := Ground.phase }, { on := 1, ground := Ground.phase }, { on := 2, ground := Ground.phase }, { on := 3, ground := Ground.phase }, { on := 4, ground := Ground.phase }, { on := 5, ground := Ground.phase }, { on := 6, ground := Ground.phase }, { on := 7, ground := Ground.phase }, { on := 8, ground := Ground.phase }, { on := 9, ground := Ground.phase }, { on := 10, ground := Ground.phase }, { on := 11, ground := Ground.phase }, { on := 12, ground := Ground.phase }, { on := 13, ground := Ground.phase }], guard := none }) (v := ?vh76) rfl ?hsh76 ?hfh76 ?hrh76 ?hQh76 ?hyh76 (by assumption) ?resth76
  case hsh76 => kernel_rfl
  case hfh76 => kernel_rfl
  case hrh76 => kernel_rfl
  case hQh76 => exact fun _ _ _ h => h
  case hyh76 => (refine Or.inl ⟨by rfl, ?_⟩; intro w hSw; (try dsimp only at hSw); go_simp; try with_reducible rfl)
  try simp only [Act.put, List.setIfInBounds_toArray, List.set_cons_zero, List.set_cons_succ]
  refine wpAnyH_done (by kernel_rfl) ?_ _
  refine NoPanic.normal ?_
  clear hHeld Hcall49 Hini50
  have q77 : v67.cell? ⟨w.heap.size, 0, none⟩ = some (.int .i64 a) := X69.out.cell 0
  have q78 : v67.cell? ⟨w.heap.size, 1, none⟩ = some (.int .i64 b) := X69.out.cell 1
  have q79 : v67.cell? ⟨w.heap.size, 2, none⟩ = some (.int .i64 t) := X69.out.cell 2
  go_wp2_with fail
  go_ret
  exact ⟨ret_bool HV.out.symm, B71.out⟩

set_option maxRecDepth 100000 in
set_option maxHeartbeats 8000000 in
theorem cuts_g (m : Ml) (a b t size mo ms : Int) (mc : Bool) (g : Nat) (w : World) (h : IsGC w g m) (h0 : ckM m = 0) (hs : hasB m.pr ⟨a, b, t⟩ = true) : Calls Tryz.prog 75 #[.pointer (some ⟨g, 0, none⟩), .agg #[.int .i64 a, .int .i64 b, .int .i64 t], .int .i64 size, .agg #[.int .i64 mo, .int .i64 ms, .bool mc]] w fun e w' => e = .returned (.int .i64 (cutsI m ⟨a, b, t⟩ size mc)) ∧ Below w.heap.size w w' := by
  have HCH0 := Lib.hid h
  have HP := Lib.hid h0
  have HHS := Lib.hid hs
  clear h h0 hs
  cases mc
  · have HV := Lib.hid (show cutsI m ⟨a, b, t⟩ size false = 0 from rfl)
    go_enter Tryz.func75, Tryz.ntmps75
    go_wp2_with fail
    obtain ⟨W80, hW81⟩ : ∃ Wzz, ((w.alloc (.cells #[.int .i64 a, .int .i64 b, .int .i64 t] 46)).alloc (.cells #[.int .i64 mo, .int .i64 ms, .bool false] 50)) = Wzz := ⟨_, rfl⟩
    have B82 := Lib.hid (show Below w.heap.size w W80 by rw [← hW81]; exact (((Below.refl w.heap.size w).alloc (Nat.le_refl _) _).alloc (by first | (simp; done) | (simp; omega)) _))
    have X83 := Lib.hid (show Box W80 (w.heap.size) 46 #[.int .i64 a, .int .i64 b, .int .i64 t] by rw [← hW81]; exact Box.alloc (Box.made w 46 #[.int .i64 a, .int .i64 b, .int .i64 t]) (.cells #[.int .i64 mo, .int .i64 ms, .bool false] 50))
    have X84 := Lib.hid (show Box W80 (w.heap.size + 1) 50 #[.int .i64 mo, .int .i64 ms, .bool false] by
      have hz := Box.made (w.alloc (.cells #[.int .i64 a, .int .i64 b, .int .i64 t] 46)) 50 #[.int .i64 mo, .int .i64 ms, .bool false]
      rw [World.size_alloc] at hz
      rw [← hW81]; exact hz)
    have C85 := Lib.hid (HCH0.out.later B82.out)
    have SZ86 := Lib.hid (show W80.heap.size = w.heap.size + 1 + 1 by rw [← hW81]; simp)
    rw [hW81]
    clear hW81
    have q87 : W80.cell? ⟨w.heap.size, 0, none⟩ = some (.int .i64 a) := X83.out.cell 0
    have q88 : W80.cell? ⟨w.heap.size, 1, none⟩ = some (.int .i64 b) := X83.out.cell 1
    have q89 : W80.cell? ⟨w.heap.size, 2, none⟩ = some (.int .i64 t) := X83.out.cell 2
    have q90 : W80.cell? ⟨w.heap.size + 1, 0, none⟩ = some (.int .i64 mo) := X84.out.cell 0
    have q91 : W80.cell? ⟨w.heap.size + 1, 1, none⟩ = some (.int .i64 ms) := X84.out.cell 1
    have q92 : W80.cell? ⟨w.heap.size + 1, 2, none⟩ = some (.bool false) := X84.out.cell 2
    go_wp2_with fail
    go_ret
    exact ⟨ret_int HV.out.symm, B82.out⟩
  · skip
    go_enter Tryz.func75, Tryz.ntmps75
    go_wp2_with fail
    obtain ⟨W93, hW94⟩ : ∃ Wzz, ((w.alloc (.cells #[.int .i64 a, .int .i64 b, .int .i64 t] 46)).alloc (.cells #[.int .i64 mo, .int .i64 ms, .bool true] 50)) = Wzz := ⟨_, rfl⟩
    have B95 := Lib.hid (show Below w.heap.size w W93 by rw [← hW94]; exact (((Below.refl w.heap.size w).alloc (Nat.le_refl _) _).alloc (by first | (simp; done) | (simp; omega)) _))
    have X96 := Lib.hid (show Box W93 (w.heap.size) 46 #[.int .i64 a, .int .i64 b, .int .i64 t] by rw [← hW94]; exact Box.alloc (Box.made w 46 #[.int .i64 a, .int .i64 b, .int .i64 t]) (.cells #[.int .i64 mo, .int .i64 ms, .bool true] 50))
    have X97 := Lib.hid (show Box W93 (w.heap.size + 1) 50 #[.int .i64 mo, .int .i64 ms, .bool true] by
      have hz := Box.made (w.alloc (.cells #[.int .i64 a, .int .i64 b, .int .i64 t] 46)) 50 #[.int .i64 mo, .int .i64 ms, .bool true]
      rw [World.size_alloc] at hz
      rw [← hW94]; exact hz)
    have C98 := Lib.hid (HCH0.out.later B95.out)
    have SZ99 := Lib.hid (show W93.heap.size = w.heap.size + 1 + 1 by rw [← hW94]; simp)
    rw [hW94]
    clear hW94
    have q100 : W93.cell? ⟨w.heap.size, 0, none⟩ = some (.int .i64 a) := X96.out.cell 0
    have q101 : W93.cell? ⟨w.heap.size, 1, none⟩ = some (.int .i64 b) := X96.out.cell 1
    have q102 : W93.cell? ⟨w.heap.size, 2, none⟩ = some (.int .i64 t) := X96.out.cell 2
    have q103 : W93.cell? ⟨w.heap.size + 1, 0, none⟩ = some (.int .i64 mo) := X97.out.cell 0
    have q104 : W93.cell? ⟨w.heap.size + 1, 1, none⟩ = some (.int .i64 ms) := X97.out.cell 1
    have q105 : W93.cell? ⟨w.heap.size + 1, 2, none⟩ = some (.bool true) := X97.out.cell 2
    go_wp2_with fail
    refine (bites_g m a b t size g _ C98.out HP.out HHS.out).mono ?_; rintro e v106 ⟨rfl, hb107⟩
    have X108 := Lib.hid (X96.out.later hb107)
    have X109 := Lib.hid (X97.out.later hb107)
    have C110 := Lib.hid (C98.out.later hb107)
    have B111 := Lib.hid (B95.out.trans (hb107.mono B95.out.size))
    clear hb107
    clear q100 q101 q102 q103 q104 q105
    have q112 : v106.cell? ⟨w.heap.size, 0, none⟩ = some (.int .i64 a) := X108.out.cell 0
    have q113 : v106.cell? ⟨w.heap.size, 1, none⟩ = some (.int .i64 b) := X108.out.cell 1
    have q114 : v106.cell? ⟨w.heap.size, 2, none⟩ = some (.int .i64 t) := X108.out.cell 2
    have q115 : v106.cell? ⟨w.heap.size + 1, 0, none⟩ = some (.int .i64 mo) := X109.out.cell 0
    have q116 : v106.cell? ⟨w.heap.size + 1, 1, none⟩ = some (.int .i64 ms) := X109.out.cell 1
    have q117 : v106.cell? ⟨w.heap.size + 1, 2, none⟩ = some (.bool true) := X109.out.cell 2
    cases hq : bitesB m ⟨a, b, t⟩ size
    · have HV := Lib.hid (show cutsI m ⟨a, b, t⟩ size true = 0 by unfold cutsI; rw [hq]; rfl)
      clear hq
      go_wp2_with fail
      go_ret
      exact ⟨ret_int HV.out.symm, B111.out⟩
    · have HV := Lib.hid (show cutsI m ⟨a, b, t⟩ size true = 1 by unfold cutsI; rw [hq]; rfl)
      clear hq
      go_wp2_with fail
      go_ret
      exact ⟨ret_int HV.out.symm, B111.out⟩

set_option maxRecDepth 100000 in
set_option maxHeartbeats 8000000 in
theorem moves_g (m : Ml) (a b t : Int) (g : Nat) (w : World) (h : IsGC w g m) (h0 : ckM m = 0) (hs : hasB m.pr ⟨a, b, t⟩ = true) : Calls Tryz.prog 51 #[.pointer (some ⟨g, 0, none⟩), .agg #[.int .i64 a, .int .i64 b, .int .i64 t]] w fun e w' => (∃ v, e = .returned v ∧ Moves w' w'.heap.size v (movesL m.pr ⟨a, b, t⟩)) ∧ Below w.heap.size w w' := by
  obtain ⟨hR, hS, -⟩ := ckE_bd (ckM_zero h0).1
  obtain ⟨c1, c2, c3⟩ := hasB_parts.1 hs
  dsimp only at c1 c2 c3
  have HCH0 := Lib.hid h
  have HP := Lib.hid h0
  have HHS := Lib.hid hs
  obtain ⟨n, j, q1, q2, q3, q4, q5, q6, q7, q8⟩ := over_bd (ckM_zero h0).1 hs
  obtain ⟨b1, o1, cc1, b2, o2, cc2, y2, y3, y4, y5, y6, y7⟩ := h.kinds q3 q4
  obtain ⟨-, -, -, -, -, hd9, -⟩ := ckE_bd (ckM_zero h0).1
  obtain ⟨x, hx⟩ : ∃ x, bedK m.pr ⟨a, b, t⟩ = x := ⟨_, rfl⟩
  obtain ⟨y, hy⟩ : ∃ x, runK m.pr ⟨a, b, t⟩ = x := ⟨_, rfl⟩
  rw [hx] at q5 q7
  rw [hy] at q6 q8
  obtain ⟨k, hk⟩ : ∃ k : Nat, 3 * x + y = (k : Int) := ⟨(3 * x + y).toNat, by omega⟩
  obtain ⟨b3, o3, cc3, d, y8, yd, y9, hmv⟩ := h.move (k := k) (by omega)
  rw [hd9] at y8
  have HLT := Lib.hid (show g < w.heap.size ∧ b1 < w.heap.size ∧ b2 < w.heap.size ∧ b3 < w.heap.size from ⟨h.sizes.2.2, y6, y7, y9⟩)
  have HA := Lib.hid c1
  have HD := Lib.hid (show (-m.pr.bed.sectors ≤ b ∧ b ≤ 200) ∧ -m.pr.bed.sectors ≤ b - t ∧ b - t ≤ 200 by omega)
  have HI := Lib.hid (show a * m.pr.bed.sectors + arnd b m.pr.bed.sectors = (n : Int) by rw [arnd_id c2, ← q1]; rfl)
  have HJ := Lib.hid (show a * m.pr.bed.sectors + arnd (b - t) m.pr.bed.sectors = (j : Int) by rw [← q2]; rfl)
  obtain ⟨l1, hl1⟩ : ∃ k, m.pr.bed.kinds.length = k := ⟨_, rfl⟩
  obtain ⟨l2, hl2⟩ : ∃ k, m.pr.run.kinds.length = k := ⟨_, rfl⟩
  rw [hl1] at y2 q3
  rw [hl2] at y3 q4
  rw [← q5] at y4
  rw [← q6] at y5
  have Y2 := Lib.hid y2
  have Y3 := Lib.hid y3
  have Y4 := Lib.hid y4
  have Y5 := Lib.hid y5
  have Y8 := Lib.hid y8
  have YD := Lib.hid yd
  have HMV := Lib.hid hmv
  have HV := Lib.hid (show movesL m.pr ⟨a, b, t⟩ = nthL m.pr.drive k by unfold movesL; rw [hx, hy, hk]; rfl)
  have i0 : (0 : Int) ≤ (n : Int) := Int.natCast_nonneg _
  have i1 : (n : Int) < (l1 : Int) := by omega
  have i2 : (0 : Int) ≤ (j : Int) := Int.natCast_nonneg _
  have i3 : (j : Int) < (l2 : Int) := by omega
  have i4 : (0 : Int) ≤ (k : Int) := Int.natCast_nonneg _
  have i5 : (k : Int) < 9 := by omega
  have w1 : IntKind.i64.wrap (3 * x) = 3 * x := wrap_id (by omega) (by omega)
  have w2 : IntKind.i64.wrap (3 * x + y) = (k : Int) := by rw [hk]; exact wrap_id (by omega) (by omega)
  have w3 : IntKind.i64.wrap (b - t) = b - t := wrap_id (by omega) (by omega)
  clear h h0 hs hR hS c1 c2 c3 q1 q2 q3 q4 q5 q6 q7 q8 y2 y3 y4 y5 y6 y7 y8 y9 yd hmv hx hy hk hl1 hl2 hd9
  go_enter Tryz.func51, Tryz.ntmps51
  go_wp2_with fail
  obtain ⟨W118, hW119⟩ : ∃ Wzz, (w.alloc (.cells #[.int .i64 a, .int .i64 b, .int .i64 t] 46)) = Wzz := ⟨_, rfl⟩
  have B120 := Lib.hid (show Below w.heap.size w W118 by rw [← hW119]; exact ((Below.refl w.heap.size w).alloc (Nat.le_refl _) _))
  have X121 := Lib.hid (show Box W118 (w.heap.size) 46 #[.int .i64 a, .int .i64 b, .int .i64 t] by rw [← hW119]; exact Box.made w 46 #[.int .i64 a, .int .i64 b, .int .i64 t])
  have C122 := Lib.hid (HCH0.out.later B120.out)
  have SZ123 := Lib.hid (show W118.heap.size = w.heap.size + 1 by rw [← hW119]; simp)
  rw [hW119]
  clear hW119
  have q124 : W118.cell? ⟨w.heap.size, 0, none⟩ = some (.int .i64 a) := X121.out.cell 0
  have q125 : W118.cell? ⟨w.heap.size, 1, none⟩ = some (.int .i64 b) := X121.out.cell 1
  have q126 : W118.cell? ⟨w.heap.size, 2, none⟩ = some (.int .i64 t) := X121.out.cell 2
  go_wp2_with fail
  have hdr137 : Below (W118).heap.size (W118) (W118).drew := (Below.refl _ _).drew
  have lt132 := X121.out.lt
  have lt133 := X121.out.lt
  have lt134 := X121.out.lt
  have lt135 := (Nat.lt_of_lt_of_le HLT.out.1 B120.out.size)
  have lt136 := (Nat.lt_of_lt_of_le HLT.out.2.1 B120.out.size)
  have hcall138 : ∀ X Y : World, (fun Wz => Wz.cell? ⟨w.heap.size, 0, none⟩ = some (.int .i64 a) ∧ Wz.cell? ⟨w.heap.size, 1, none⟩ = some (.int .i64 b) ∧ Wz.cell? ⟨w.heap.size, 2, none⟩ = some (.int .i64 t) ∧ Wz.cell? ⟨g, 3, none⟩ = some (.slice (some ⟨b1, o1, none⟩) l1 cc1) ∧ Wz.cell? ⟨b1, o1 + n, none⟩ = some (.int .i64 x) ∧ (W118).heap.size ≤ Wz.heap.size) X → Below X.heap.size X Y → (fun Wz => Wz.cell? ⟨w.heap.size, 0, none⟩ = some (.int .i64 a) ∧ Wz.cell? ⟨w.heap.size, 1, none⟩ = some (.int .i64 b) ∧ Wz.cell? ⟨w.heap.size, 2, none⟩ = some (.int .i64 t) ∧ Wz.cell? ⟨g, 3, none⟩ = some (.slice (some ⟨b1, o1, none⟩) l1 cc1) ∧ Wz.cell? ⟨b1, o1 + n, none⟩ = some (.int .i64 x) ∧ (W118).heap.size ≤ Wz.heap.size) Y := by
    rintro X Y ⟨z127, z128, z129, z130, z131, xs⟩ hb
    have hb2 := Below.mono (B' := (W118).heap.size) hb xs
    exact ⟨keepd z127 hb2 lt132, keepd z128 hb2 lt133, keepd z129 hb2 lt134, keepd z130 hb2 lt135, keepd z131 hb2 lt136, Nat.le_trans xs hb.size⟩
  have hini139 : (fun Wz => Wz.cell? ⟨w.heap.size, 0, none⟩ = some (.int .i64 a) ∧ Wz.cell? ⟨w.heap.size, 1, none⟩ = some (.int .i64 b) ∧ Wz.cell? ⟨w.heap.size, 2, none⟩ = some (.int .i64 t) ∧ Wz.cell? ⟨g, 3, none⟩ = some (.slice (some ⟨b1, o1, none⟩) l1 cc1) ∧ Wz.cell? ⟨b1, o1 + n, none⟩ = some (.int .i64 x) ∧ (W118).heap.size ≤ Wz.heap.size) (W118).drew := ⟨keepd (X121.out.cell 0) hdr137 lt132, keepd (X121.out.cell 1) hdr137 lt133, keepd (X121.out.cell 2) hdr137 lt134, keepd (keepd Y2.out B120.out HLT.out.1) hdr137 lt135, keepd (keepd Y4.out B120.out HLT.out.2.1) hdr137 lt136, Nat.le_refl _⟩
  have Hcall138 := Lib.hid hcall138
  have Hini139 := Lib.hid hini139
  clear hcall138 hini139 lt132 lt133 lt134 lt135 lt136
  clear q124 q125 q126
  refine wp_region_noPanic ?_
  refine wp_region_held_drew (S := (fun Wz => Wz.cell? ⟨w.heap.size, 0, none⟩ = some (.int .i64 a) ∧ Wz.cell? ⟨w.heap.size, 1, none⟩ = some (.int .i64 b) ∧ Wz.cell? ⟨w.heap.size, 2, none⟩ = some (.int .i64 t) ∧ Wz.cell? ⟨g, 3, none⟩ = some (.slice (some ⟨b1, o1, none⟩) l1 cc1) ∧ Wz.cell? ⟨b1, o1 + n, none⟩ = some (.int .i64 x) ∧ (W118).heap.size ≤ Wz.heap.size)) (by kernel_rfl) Hini139.out (fun hHeld => ?_)
  obtain ⟨W141, hW142⟩ : ∃ Wzz, (W118).drew = Wzz := ⟨_, rfl⟩
  rw [hW142] at hHeld hdr137 ⊢
  clear hW142
  have X143 := Lib.hid (X121.out.later hdr137)
  have C144 := Lib.hid (C122.out.later hdr137)
  have B145 := Lib.hid (B120.out.trans (hdr137.mono B120.out.size))
  clear hdr137
  refine wpAnyH_take (i := 0) (oi := { dst := some 7, op := Op.move (Operand.tmp 0), type := 89, pos := "steps.go:64", after := #[], guard := none }) (v := ?vh146) rfl ?hsh146 ?hfh146 ?hrh146 ?hQh146 ?hyh146 (by assumption) ?resth146
  case hsh146 => kernel_rfl
  case hfh146 => kernel_rfl
  case hrh146 => kernel_rfl
  case hQh146 => exact fun _ _ _ h => h
  case hyh146 => (refine Or.inl ⟨by rfl, ?_⟩; intro w hSw; (try dsimp only at hSw); go_simp; try with_reducible rfl)
  try simp only [Act.put, List.setIfInBounds_toArray, List.set_cons_zero, List.set_cons_succ]
  refine wpAnyH_take (i := 1) (oi := { dst := some 8, op := Op.nilCheck (Operand.tmp 7), type := 0, pos := "steps.go:64", after := #[{ on := 0, ground := Ground.data }], guard := none }) (v := ?vh147) rfl ?hsh147 ?hfh147 ?hrh147 ?hQh147 ?hyh147 (by assumption) ?resth147
  case hsh147 => kernel_rfl
  case hfh147 => kernel_rfl
  case hrh147 => kernel_rfl
  case hQh147 => exact fun _ _ _ h => h
  case hyh147 => (refine Or.inl ⟨by rfl, ?_⟩; intro w hSw; (try dsimp only at hSw); go_simp; try with_reducible rfl)
  try simp only [Act.put, List.setIfInBounds_toArray, List.set_cons_zero, List.set_cons_succ]
  refine wpAnyH_take (i := 2) (oi := { dst := some 9, op := Op.fieldAddr 126 (Operand.tmp 8) 0, type := 0, pos := "steps.go:64", after := #[{ on := 1, ground := Ground.data }], guard := none }) (v := ?vh148) rfl ?hsh148 ?hfh148 ?hrh148 ?hQh148 ?hyh148 (by assumption) ?resth148
  case hsh148 => kernel_rfl
  case hfh148 => kernel_rfl
  case hrh148 => kernel_rfl
  case hQh148 => exact fun _ _ _ h => h
  case hyh148 => (refine Or.inl ⟨by rfl, ?_⟩; intro w hSw; (try dsimp only at hSw); go_simp; try with_reducible rfl)
  try simp only [Act.put, List.setIfInBounds_toArray, List.set_cons_zero, List.set_cons_succ]
  refine wpAnyH_take (i := 3) (oi := { dst := some 10, op := Op.fieldAddr 31 (Operand.tmp 9) 0, type := 0, pos := "steps.go:64", after := #[{ on := 2, ground := Ground.data }], guard := none }) (v := ?vh149) rfl ?hsh149 ?hfh149 ?hrh149 ?hQh149 ?hyh149 (by assumption) ?resth149
  case hsh149 => kernel_rfl
  case hfh149 => kernel_rfl
  case hrh149 => kernel_rfl
  case hQh149 => exact fun _ _ _ h => h
  case hyh149 => (refine Or.inl ⟨by rfl, ?_⟩; intro w hSw; (try dsimp only at hSw); go_simp; try with_reducible rfl)
  try simp only [Act.put, List.setIfInBounds_toArray, List.set_cons_zero, List.set_cons_succ]
  refine wpAnyH_take (i := 4) (oi := { dst := some 11, op := Op.fieldAddr 28 (Operand.tmp 10) 3, type := 0, pos := "steps.go:64", after := #[{ on := 3, ground := Ground.data }], guard := none }) (v := ?vh150) rfl ?hsh150 ?hfh150 ?hrh150 ?hQh150 ?hyh150 (by assumption) ?resth150
  case hsh150 => kernel_rfl
  case hfh150 => kernel_rfl
  case hrh150 => kernel_rfl
  case hQh150 => exact fun _ _ _ h => h
  case hyh150 => (refine Or.inl ⟨by rfl, ?_⟩; intro w hSw; (try dsimp only at hSw); go_simp; try with_reducible rfl)
  try simp only [Act.put, List.setIfInBounds_toArray, List.set_cons_zero, List.set_cons_succ]
  refine wpAnyH_take (i := 5) (oi := { dst := some 12, op := Op.load 26 (Operand.tmp 11), type := 26, pos := "steps.go:64", after := #[{ on := 4, ground := Ground.data }], guard := none }) (v := ?vh151) rfl ?hsh151 ?hfh151 ?hrh151 ?hQh151 ?hyh151 (by assumption) ?resth151
  case hsh151 => kernel_rfl
  case hfh151 => kernel_rfl
  case hrh151 => kernel_rfl
  case hQh151 => exact fun _ _ _ h => h
  case hyh151 => (refine Or.inl ⟨by rfl, ?_⟩; intro w hSw; (try dsimp only at hSw); go_simp; try with_reducible rfl)
  try simp only [Act.put, List.setIfInBounds_toArray, List.set_cons_zero, List.set_cons_succ]
  refine wpAnyH_take (i := 6) (oi := { dst := some 13, op := Op.move (Operand.tmp 0), type := 89, pos := "steps.go:64", after := #[], guard := none }) (v := ?vh152) rfl ?hsh152 ?hfh152 ?hrh152 ?hQh152 ?hyh152 (by assumption) ?resth152
  case hsh152 => kernel_rfl
  case hfh152 => kernel_rfl
  case hrh152 => kernel_rfl
  case hQh152 => exact fun _ _ _ h => h
  case hyh152 => (refine Or.inl ⟨by rfl, ?_⟩; intro w hSw; (try dsimp only at hSw); go_simp; try with_reducible rfl)
  try simp only [Act.put, List.setIfInBounds_toArray, List.set_cons_zero, List.set_cons_succ]
  refine wpAnyH_take (i := 7) (oi := { dst := some 14, op := Op.fieldAddr 46 (Operand.tmp 3) 0, type := 0, pos := "steps.go:64", after := #[], guard := none }) (v := ?vh153) rfl ?hsh153 ?hfh153 ?hrh153 ?hQh153 ?hyh153 (by assumption) ?resth153
  case hsh153 => kernel_rfl
  case hfh153 => kernel_rfl
  case hrh153 => kernel_rfl
  case hQh153 => exact fun _ _ _ h => h
  case hyh153 => (refine Or.inl ⟨by rfl, ?_⟩; intro w hSw; (try dsimp only at hSw); go_simp; try with_reducible rfl)
  try simp only [Act.put, List.setIfInBounds_toArray, List.set_cons_zero, List.set_cons_succ]
  refine wpAnyH_take (i := 8) (oi := { dst := some 15, op := Op.load 3 (Operand.tmp 14), type := 3, pos := "steps.go:64", after := #[{ on := 7, ground := Ground.data }], guard := none }) (v := ?vh154) rfl ?hsh154 ?hfh154 ?hrh154 ?hQh154 ?hyh154 (by assumption) ?resth154
  case hsh154 => kernel_rfl
  case hfh154 => kernel_rfl
  case hrh154 => kernel_rfl
  case hQh154 => exact fun _ _ _ h => h
  case hyh154 => (refine Or.inl ⟨by rfl, ?_⟩; intro w hSw; (try dsimp only at hSw); go_simp; try with_reducible rfl)
  try simp only [Act.put, List.setIfInBounds_toArray, List.set_cons_zero, List.set_cons_succ]
  refine wpAnyH_take (i := 9) (oi := { dst := some 16, op := Op.fieldAddr 46 (Operand.tmp 3) 1, type := 0, pos := "steps.go:64", after := #[], guard := none }) (v := ?vh155) rfl ?hsh155 ?hfh155 ?hrh155 ?hQh155 ?hyh155 (by assumption) ?resth155
  case hsh155 => kernel_rfl
  case hfh155 => kernel_rfl
  case hrh155 => kernel_rfl
  case hQh155 => exact fun _ _ _ h => h
  case hyh155 => (refine Or.inl ⟨by rfl, ?_⟩; intro w hSw; (try dsimp only at hSw); go_simp; try with_reducible rfl)
  try simp only [Act.put, List.setIfInBounds_toArray, List.set_cons_zero, List.set_cons_succ]
  refine wpAnyH_take (i := 10) (oi := { dst := some 17, op := Op.load 3 (Operand.tmp 16), type := 3, pos := "steps.go:64", after := #[{ on := 9, ground := Ground.data }], guard := none }) (v := ?vh156) rfl ?hsh156 ?hfh156 ?hrh156 ?hQh156 ?hyh156 (by assumption) ?resth156
  case hsh156 => kernel_rfl
  case hfh156 => kernel_rfl
  case hrh156 => kernel_rfl
  case hQh156 => exact fun _ _ _ h => h
  case hyh156 => (refine Or.inl ⟨by rfl, ?_⟩; intro w hSw; (try dsimp only at hSw); go_simp; try with_reducible rfl)
  try simp only [Act.put, List.setIfInBounds_toArray, List.set_cons_zero, List.set_cons_succ]
  refine wpAnyH_ready (rs := [11]) (by kernel_rfl) (by simp) ?_
  refine AllReadyH.cons (o := _) (by rfl) (fun K hK => ?_) AllReadyH.nil
  go_simp
  go_at_call 72
  refine (cell_g m a b g _ C144.out HP.out HD.out.1 HA.out).mono ?_; rintro e v157 ⟨rfl, hb158⟩
  have X159 := Lib.hid (X143.out.later hb158)
  have C160 := Lib.hid (C144.out.later hb158)
  have B161 := Lib.hid (B145.out.trans (hb158.mono B145.out.size))
  clear X143 C144 B145
  rw [HI.out]
  go_wp2_with fail
  refine hK.out _ _ (Hcall138.out _ _ hHeld (by assumption)) (fun hHeld162 => ?_)
  clear hK K hHeld
  clear hb158
  have hHeld := hHeld162
  clear hHeld162
  try simp only [Act.put, List.setIfInBounds_toArray, List.set_cons_zero, List.set_cons_succ]
  refine wpAnyH_take (i := 12) (oi := { dst := some 19, op := Op.indexAddr 26 (Operand.tmp 12) (Operand.tmp 18), type := 0, pos := "steps.go:64", after := #[{ on := 5, ground := Ground.data }, { on := 11, ground := Ground.data }], guard := none }) (v := ?vh163) rfl ?hsh163 ?hfh163 ?hrh163 ?hQh163 ?hyh163 (by assumption) ?resth163
  case hsh163 => kernel_rfl
  case hfh163 => kernel_rfl
  case hrh163 => kernel_rfl
  case hQh163 => exact fun _ _ _ h => h
  case hyh163 => (refine Or.inl ⟨by rfl, ?_⟩; intro w hSw; (try dsimp only at hSw); go_simp; try with_reducible rfl)
  try simp only [Act.put, List.setIfInBounds_toArray, List.set_cons_zero, List.set_cons_succ]
  refine wpAnyH_take (i := 13) (oi := { dst := some 20, op := Op.load 3 (Operand.tmp 19), type := 3, pos := "steps.go:64", after := #[{ on := 12, ground := Ground.data }], guard := none }) (v := ?vh164) rfl ?hsh164 ?hfh164 ?hrh164 ?hQh164 ?hyh164 (by assumption) ?resth164
  case hsh164 => kernel_rfl
  case hfh164 => kernel_rfl
  case hrh164 => kernel_rfl
  case hQh164 => exact fun _ _ _ h => h
  case hyh164 => (refine Or.inl ⟨by rfl, ?_⟩; intro w hSw; (try dsimp only at hSw); go_simp; try with_reducible rfl)
  try simp only [Act.put, List.setIfInBounds_toArray, List.set_cons_zero, List.set_cons_succ]
  refine wpAnyH_take (i := 14) (oi := { dst := some 5, op := Op.assign (Operand.tmp 20), type := 3, pos := "steps.go:64", after := #[{ on := 13, ground := Ground.data }, { on := 11, ground := Ground.chain }, { on := 0, ground := Ground.phase }, { on := 1, ground := Ground.phase }, { on := 2, ground := Ground.phase }, { on := 3, ground := Ground.phase }, { on := 4, ground := Ground.phase }, { on := 5, ground := Ground.phase }, { on := 6, ground := Ground.phase }, { on := 7, ground := Ground.phase }, { on := 8, ground := Ground.phase }, { on := 9, ground := Ground.phase }, { on := 10, ground := Ground.phase }, { on := 11, ground := Ground.phase }, { on := 12, ground := Ground.phase }, { on := 13, ground := Ground.phase }], guard := none }) (v := ?vh165) rfl ?hsh165 ?hfh165 ?hrh165 ?hQh165 ?hyh165 (by assumption) ?resth165
  case hsh165 => kernel_rfl
  case hfh165 => kernel_rfl
  case hrh165 => kernel_rfl
  case hQh165 => exact fun _ _ _ h => h
  case hyh165 => (refine Or.inl ⟨by rfl, ?_⟩; intro w hSw; (try dsimp only at hSw); go_simp; try with_reducible rfl)
  try simp only [Act.put, List.setIfInBounds_toArray, List.set_cons_zero, List.set_cons_succ]
  refine wpAnyH_done (by kernel_rfl) ?_ _
  refine NoPanic.normal ?_
  clear hHeld Hcall138 Hini139
  have q166 : v157.cell? ⟨w.heap.size, 0, none⟩ = some (.int .i64 a) := X159.out.cell 0
  have q167 : v157.cell? ⟨w.heap.size, 1, none⟩ = some (.int .i64 b) := X159.out.cell 1
  have q168 : v157.cell? ⟨w.heap.size, 2, none⟩ = some (.int .i64 t) := X159.out.cell 2
  go_wp2_with fail
  have hdr179 : Below (v157).heap.size (v157) (v157).drew := (Below.refl _ _).drew
  have lt174 := X159.out.lt
  have lt175 := X159.out.lt
  have lt176 := X159.out.lt
  have lt177 := (Nat.lt_of_lt_of_le HLT.out.1 B161.out.size)
  have lt178 := (Nat.lt_of_lt_of_le HLT.out.2.2.1 B161.out.size)
  have hcall180 : ∀ X Y : World, (fun Wz => Wz.cell? ⟨w.heap.size, 0, none⟩ = some (.int .i64 a) ∧ Wz.cell? ⟨w.heap.size, 1, none⟩ = some (.int .i64 b) ∧ Wz.cell? ⟨w.heap.size, 2, none⟩ = some (.int .i64 t) ∧ Wz.cell? ⟨g, 7, none⟩ = some (.slice (some ⟨b2, o2, none⟩) l2 cc2) ∧ Wz.cell? ⟨b2, o2 + j, none⟩ = some (.int .i64 y) ∧ (v157).heap.size ≤ Wz.heap.size) X → Below X.heap.size X Y → (fun Wz => Wz.cell? ⟨w.heap.size, 0, none⟩ = some (.int .i64 a) ∧ Wz.cell? ⟨w.heap.size, 1, none⟩ = some (.int .i64 b) ∧ Wz.cell? ⟨w.heap.size, 2, none⟩ = some (.int .i64 t) ∧ Wz.cell? ⟨g, 7, none⟩ = some (.slice (some ⟨b2, o2, none⟩) l2 cc2) ∧ Wz.cell? ⟨b2, o2 + j, none⟩ = some (.int .i64 y) ∧ (v157).heap.size ≤ Wz.heap.size) Y := by
    rintro X Y ⟨z169, z170, z171, z172, z173, xs⟩ hb
    have hb2 := Below.mono (B' := (v157).heap.size) hb xs
    exact ⟨keepd z169 hb2 lt174, keepd z170 hb2 lt175, keepd z171 hb2 lt176, keepd z172 hb2 lt177, keepd z173 hb2 lt178, Nat.le_trans xs hb.size⟩
  have hini181 : (fun Wz => Wz.cell? ⟨w.heap.size, 0, none⟩ = some (.int .i64 a) ∧ Wz.cell? ⟨w.heap.size, 1, none⟩ = some (.int .i64 b) ∧ Wz.cell? ⟨w.heap.size, 2, none⟩ = some (.int .i64 t) ∧ Wz.cell? ⟨g, 7, none⟩ = some (.slice (some ⟨b2, o2, none⟩) l2 cc2) ∧ Wz.cell? ⟨b2, o2 + j, none⟩ = some (.int .i64 y) ∧ (v157).heap.size ≤ Wz.heap.size) (v157).drew := ⟨keepd (X159.out.cell 0) hdr179 lt174, keepd (X159.out.cell 1) hdr179 lt175, keepd (X159.out.cell 2) hdr179 lt176, keepd (keepd Y3.out B161.out HLT.out.1) hdr179 lt177, keepd (keepd Y5.out B161.out HLT.out.2.2.1) hdr179 lt178, Nat.le_refl _⟩
  have Hcall180 := Lib.hid hcall180
  have Hini181 := Lib.hid hini181
  clear hcall180 hini181 lt174 lt175 lt176 lt177 lt178
  clear q166 q167 q168
  refine wp_region_noPanic ?_
  refine wp_region_held_drew (S := (fun Wz => Wz.cell? ⟨w.heap.size, 0, none⟩ = some (.int .i64 a) ∧ Wz.cell? ⟨w.heap.size, 1, none⟩ = some (.int .i64 b) ∧ Wz.cell? ⟨w.heap.size, 2, none⟩ = some (.int .i64 t) ∧ Wz.cell? ⟨g, 7, none⟩ = some (.slice (some ⟨b2, o2, none⟩) l2 cc2) ∧ Wz.cell? ⟨b2, o2 + j, none⟩ = some (.int .i64 y) ∧ (v157).heap.size ≤ Wz.heap.size)) (by kernel_rfl) Hini181.out (fun hHeld => ?_)
  obtain ⟨W183, hW184⟩ : ∃ Wzz, (v157).drew = Wzz := ⟨_, rfl⟩
  rw [hW184] at hHeld hdr179 ⊢
  clear hW184
  have X185 := Lib.hid (X159.out.later hdr179)
  have C186 := Lib.hid (C160.out.later hdr179)
  have B187 := Lib.hid (B161.out.trans (hdr179.mono B161.out.size))
  clear hdr179
  refine wpAnyH_take (i := 0) (oi := { dst := some 21, op := Op.move (Operand.tmp 0), type := 89, pos := "steps.go:65", after := #[], guard := none }) (v := ?vh188) rfl ?hsh188 ?hfh188 ?hrh188 ?hQh188 ?hyh188 (by assumption) ?resth188
  case hsh188 => kernel_rfl
  case hfh188 => kernel_rfl
  case hrh188 => kernel_rfl
  case hQh188 => exact fun _ _ _ h => h
  case hyh188 => (refine Or.inl ⟨by rfl, ?_⟩; intro w hSw; (try dsimp only at hSw); go_simp; try with_reducible rfl)
  try simp only [Act.put, List.setIfInBounds_toArray, List.set_cons_zero, List.set_cons_succ]
  refine wpAnyH_take (i := 1) (oi := { dst := some 22, op := Op.nilCheck (Operand.tmp 21), type := 0, pos := "steps.go:65", after := #[{ on := 0, ground := Ground.data }], guard := none }) (v := ?vh189) rfl ?hsh189 ?hfh189 ?hrh189 ?hQh189 ?hyh189 (by assumption) ?resth189
  case hsh189 => kernel_rfl
  case hfh189 => kernel_rfl
  case hrh189 => kernel_rfl
  case hQh189 => exact fun _ _ _ h => h
  case hyh189 => (refine Or.inl ⟨by rfl, ?_⟩; intro w hSw; (try dsimp only at hSw); go_simp; try with_reducible rfl)
  try simp only [Act.put, List.setIfInBounds_toArray, List.set_cons_zero, List.set_cons_succ]
  refine wpAnyH_take (i := 2) (oi := { dst := some 23, op := Op.fieldAddr 126 (Operand.tmp 22) 0, type := 0, pos := "steps.go:65", after := #[{ on := 1, ground := Ground.data }], guard := none }) (v := ?vh190) rfl ?hsh190 ?hfh190 ?hrh190 ?hQh190 ?hyh190 (by assumption) ?resth190
  case hsh190 => kernel_rfl
  case hfh190 => kernel_rfl
  case hrh190 => kernel_rfl
  case hQh190 => exact fun _ _ _ h => h
  case hyh190 => (refine Or.inl ⟨by rfl, ?_⟩; intro w hSw; (try dsimp only at hSw); go_simp; try with_reducible rfl)
  try simp only [Act.put, List.setIfInBounds_toArray, List.set_cons_zero, List.set_cons_succ]
  refine wpAnyH_take (i := 3) (oi := { dst := some 24, op := Op.fieldAddr 31 (Operand.tmp 23) 1, type := 0, pos := "steps.go:65", after := #[{ on := 2, ground := Ground.data }], guard := none }) (v := ?vh191) rfl ?hsh191 ?hfh191 ?hrh191 ?hQh191 ?hyh191 (by assumption) ?resth191
  case hsh191 => kernel_rfl
  case hfh191 => kernel_rfl
  case hrh191 => kernel_rfl
  case hQh191 => exact fun _ _ _ h => h
  case hyh191 => (refine Or.inl ⟨by rfl, ?_⟩; intro w hSw; (try dsimp only at hSw); go_simp; try with_reducible rfl)
  try simp only [Act.put, List.setIfInBounds_toArray, List.set_cons_zero, List.set_cons_succ]
  refine wpAnyH_take (i := 4) (oi := { dst := some 25, op := Op.fieldAddr 28 (Operand.tmp 24) 3, type := 0, pos := "steps.go:65", after := #[{ on := 3, ground := Ground.data }], guard := none }) (v := ?vh192) rfl ?hsh192 ?hfh192 ?hrh192 ?hQh192 ?hyh192 (by assumption) ?resth192
  case hsh192 => kernel_rfl
  case hfh192 => kernel_rfl
  case hrh192 => kernel_rfl
  case hQh192 => exact fun _ _ _ h => h
  case hyh192 => (refine Or.inl ⟨by rfl, ?_⟩; intro w hSw; (try dsimp only at hSw); go_simp; try with_reducible rfl)
  try simp only [Act.put, List.setIfInBounds_toArray, List.set_cons_zero, List.set_cons_succ]
  refine wpAnyH_take (i := 5) (oi := { dst := some 26, op := Op.load 26 (Operand.tmp 25), type := 26, pos := "steps.go:65", after := #[{ on := 4, ground := Ground.data }], guard := none }) (v := ?vh193) rfl ?hsh193 ?hfh193 ?hrh193 ?hQh193 ?hyh193 (by assumption) ?resth193
  case hsh193 => kernel_rfl
  case hfh193 => kernel_rfl
  case hrh193 => kernel_rfl
  case hQh193 => exact fun _ _ _ h => h
  case hyh193 => (refine Or.inl ⟨by rfl, ?_⟩; intro w hSw; (try dsimp only at hSw); go_simp; try with_reducible rfl)
  try simp only [Act.put, List.setIfInBounds_toArray, List.set_cons_zero, List.set_cons_succ]
  refine wpAnyH_take (i := 6) (oi := { dst := some 27, op := Op.move (Operand.tmp 0), type := 89, pos := "steps.go:65", after := #[], guard := none }) (v := ?vh194) rfl ?hsh194 ?hfh194 ?hrh194 ?hQh194 ?hyh194 (by assumption) ?resth194
  case hsh194 => kernel_rfl
  case hfh194 => kernel_rfl
  case hrh194 => kernel_rfl
  case hQh194 => exact fun _ _ _ h => h
  case hyh194 => (refine Or.inl ⟨by rfl, ?_⟩; intro w hSw; (try dsimp only at hSw); go_simp; try with_reducible rfl)
  try simp only [Act.put, List.setIfInBounds_toArray, List.set_cons_zero, List.set_cons_succ]
  refine wpAnyH_take (i := 7) (oi := { dst := some 28, op := Op.fieldAddr 46 (Operand.tmp 3) 0, type := 0, pos := "steps.go:65", after := #[], guard := none }) (v := ?vh195) rfl ?hsh195 ?hfh195 ?hrh195 ?hQh195 ?hyh195 (by assumption) ?resth195
  case hsh195 => kernel_rfl
  case hfh195 => kernel_rfl
  case hrh195 => kernel_rfl
  case hQh195 => exact fun _ _ _ h => h
  case hyh195 => (refine Or.inl ⟨by rfl, ?_⟩; intro w hSw; (try dsimp only at hSw); go_simp; try with_reducible rfl)
  try simp only [Act.put, List.setIfInBounds_toArray, List.set_cons_zero, List.set_cons_succ]
  refine wpAnyH_take (i := 8) (oi := { dst := some 29, op := Op.load 3 (Operand.tmp 28), type := 3, pos := "steps.go:65", after := #[{ on := 7, ground := Ground.data }], guard := none }) (v := ?vh196) rfl ?hsh196 ?hfh196 ?hrh196 ?hQh196 ?hyh196 (by assumption) ?resth196
  case hsh196 => kernel_rfl
  case hfh196 => kernel_rfl
  case hrh196 => kernel_rfl
  case hQh196 => exact fun _ _ _ h => h
  case hyh196 => (refine Or.inl ⟨by rfl, ?_⟩; intro w hSw; (try dsimp only at hSw); go_simp; try with_reducible rfl)
  try simp only [Act.put, List.setIfInBounds_toArray, List.set_cons_zero, List.set_cons_succ]
  refine wpAnyH_take (i := 9) (oi := { dst := some 30, op := Op.fieldAddr 46 (Operand.tmp 3) 1, type := 0, pos := "steps.go:65", after := #[], guard := none }) (v := ?vh197) rfl ?hsh197 ?hfh197 ?hrh197 ?hQh197 ?hyh197 (by assumption) ?resth197
  case hsh197 => kernel_rfl
  case hfh197 => kernel_rfl
  case hrh197 => kernel_rfl
  case hQh197 => exact fun _ _ _ h => h
  case hyh197 => (refine Or.inl ⟨by rfl, ?_⟩; intro w hSw; (try dsimp only at hSw); go_simp; try with_reducible rfl)
  try simp only [Act.put, List.setIfInBounds_toArray, List.set_cons_zero, List.set_cons_succ]
  refine wpAnyH_take (i := 10) (oi := { dst := some 31, op := Op.load 3 (Operand.tmp 30), type := 3, pos := "steps.go:65", after := #[{ on := 9, ground := Ground.data }], guard := none }) (v := ?vh198) rfl ?hsh198 ?hfh198 ?hrh198 ?hQh198 ?hyh198 (by assumption) ?resth198
  case hsh198 => kernel_rfl
  case hfh198 => kernel_rfl
  case hrh198 => kernel_rfl
  case hQh198 => exact fun _ _ _ h => h
  case hyh198 => (refine Or.inl ⟨by rfl, ?_⟩; intro w hSw; (try dsimp only at hSw); go_simp; try with_reducible rfl)
  try simp only [Act.put, List.setIfInBounds_toArray, List.set_cons_zero, List.set_cons_succ]
  refine wpAnyH_take (i := 11) (oi := { dst := some 32, op := Op.fieldAddr 46 (Operand.tmp 3) 2, type := 0, pos := "steps.go:65", after := #[], guard := none }) (v := ?vh199) rfl ?hsh199 ?hfh199 ?hrh199 ?hQh199 ?hyh199 (by assumption) ?resth199
  case hsh199 => kernel_rfl
  case hfh199 => kernel_rfl
  case hrh199 => kernel_rfl
  case hQh199 => exact fun _ _ _ h => h
  case hyh199 => (refine Or.inl ⟨by rfl, ?_⟩; intro w hSw; (try dsimp only at hSw); go_simp; try with_reducible rfl)
  try simp only [Act.put, List.setIfInBounds_toArray, List.set_cons_zero, List.set_cons_succ]
  refine wpAnyH_take (i := 12) (oi := { dst := some 33, op := Op.load 3 (Operand.tmp 32), type := 3, pos := "steps.go:65", after := #[{ on := 11, ground := Ground.data }], guard := none }) (v := ?vh200) rfl ?hsh200 ?hfh200 ?hrh200 ?hQh200 ?hyh200 (by assumption) ?resth200
  case hsh200 => kernel_rfl
  case hfh200 => kernel_rfl
  case hrh200 => kernel_rfl
  case hQh200 => exact fun _ _ _ h => h
  case hyh200 => (refine Or.inl ⟨by rfl, ?_⟩; intro w hSw; (try dsimp only at hSw); go_simp; try with_reducible rfl)
  try simp only [Act.put, List.setIfInBounds_toArray, List.set_cons_zero, List.set_cons_succ]
  refine wpAnyH_take (i := 13) (oi := { dst := some 34, op := Op.binOp BinOp.sub 3 (Operand.tmp 31) (Operand.tmp 33) 3, type := 3, pos := "steps.go:65", after := #[{ on := 10, ground := Ground.data }, { on := 12, ground := Ground.data }], guard := none }) (v := ?vh201) rfl ?hsh201 ?hfh201 ?hrh201 ?hQh201 ?hyh201 (by assumption) ?resth201
  case hsh201 => kernel_rfl
  case hfh201 => kernel_rfl
  case hrh201 => kernel_rfl
  case hQh201 => exact fun _ _ _ h => h
  case hyh201 => (refine Or.inl ⟨by rfl, ?_⟩; intro w hSw; (try dsimp only at hSw); go_simp; try with_reducible rfl)
  try simp only [Act.put, List.setIfInBounds_toArray, List.set_cons_zero, List.set_cons_succ]
  refine wpAnyH_ready (rs := [14]) (by kernel_rfl) (by simp) ?_
  refine AllReadyH.cons (o := _) (by rfl) (fun K hK => ?_) AllReadyH.nil
  go_simp
  go_at_call 72
  refine (cell_g m a (b - t) g _ C186.out HP.out HD.out.2 HA.out).mono ?_; rintro e v202 ⟨rfl, hb203⟩
  have X204 := Lib.hid (X185.out.later hb203)
  have C205 := Lib.hid (C186.out.later hb203)
  have B206 := Lib.hid (B187.out.trans (hb203.mono B187.out.size))
  clear X185 C186 B187
  rw [HJ.out]
  go_wp2_with fail
  refine hK.out _ _ (Hcall180.out _ _ hHeld (by assumption)) (fun hHeld207 => ?_)
  clear hK K hHeld
  clear hb203
  have hHeld := hHeld207
  clear hHeld207
  try simp only [Act.put, List.setIfInBounds_toArray, List.set_cons_zero, List.set_cons_succ]
  refine wpAnyH_take (i := 15) (oi := { dst := some 36, op := Op.indexAddr 26 (Operand.tmp 26) (Operand.tmp 35), type := 0, pos := "steps.go:65", after := #[{ on := 5, ground := Ground.data }, { on := 14, ground := Ground.data }], guard := none }) (v := ?vh208) rfl ?hsh208 ?hfh208 ?hrh208 ?hQh208 ?hyh208 (by assumption) ?resth208
  case hsh208 => kernel_rfl
  case hfh208 => kernel_rfl
  case hrh208 => kernel_rfl
  case hQh208 => exact fun _ _ _ h => h
  case hyh208 => (refine Or.inl ⟨by rfl, ?_⟩; intro w hSw; (try dsimp only at hSw); go_simp; try with_reducible rfl)
  try simp only [Act.put, List.setIfInBounds_toArray, List.set_cons_zero, List.set_cons_succ]
  refine wpAnyH_take (i := 16) (oi := { dst := some 37, op := Op.load 3 (Operand.tmp 36), type := 3, pos := "steps.go:65", after := #[{ on := 15, ground := Ground.data }], guard := none }) (v := ?vh209) rfl ?hsh209 ?hfh209 ?hrh209 ?hQh209 ?hyh209 (by assumption) ?resth209
  case hsh209 => kernel_rfl
  case hfh209 => kernel_rfl
  case hrh209 => kernel_rfl
  case hQh209 => exact fun _ _ _ h => h
  case hyh209 => (refine Or.inl ⟨by rfl, ?_⟩; intro w hSw; (try dsimp only at hSw); go_simp; try with_reducible rfl)
  try simp only [Act.put, List.setIfInBounds_toArray, List.set_cons_zero, List.set_cons_succ]
  refine wpAnyH_take (i := 17) (oi := { dst := some 6, op := Op.assign (Operand.tmp 37), type := 3, pos := "steps.go:65", after := #[{ on := 16, ground := Ground.data }, { on := 14, ground := Ground.chain }, { on := 0, ground := Ground.phase }, { on := 1, ground := Ground.phase }, { on := 2, ground := Ground.phase }, { on := 3, ground := Ground.phase }, { on := 4, ground := Ground.phase }, { on := 5, ground := Ground.phase }, { on := 6, ground := Ground.phase }, { on := 7, ground := Ground.phase }, { on := 8, ground := Ground.phase }, { on := 9, ground := Ground.phase }, { on := 10, ground := Ground.phase }, { on := 11, ground := Ground.phase }, { on := 12, ground := Ground.phase }, { on := 13, ground := Ground.phase }, { on := 14, ground := Ground.phase }, { on := 15, ground := Ground.phase }, { on := 16, ground := Ground.phase }], guard := none }) (v := ?vh210) rfl ?hsh210 ?hfh210 ?hrh210 ?hQh210 ?hyh210 (by assumption) ?resth210
  case hsh210 => kernel_rfl
  case hfh210 => kernel_rfl
  case hrh210 => kernel_rfl
  case hQh210 => exact fun _ _ _ h => h
  case hyh210 => (refine Or.inl ⟨by rfl, ?_⟩; intro w hSw; (try dsimp only at hSw); go_simp; try with_reducible rfl)
  try simp only [Act.put, List.setIfInBounds_toArray, List.set_cons_zero, List.set_cons_succ]
  refine wpAnyH_done (by kernel_rfl) ?_ _
  refine NoPanic.normal ?_
  clear hHeld Hcall180 Hini181
  have q211 : v202.cell? ⟨w.heap.size, 0, none⟩ = some (.int .i64 a) := X204.out.cell 0
  have q212 : v202.cell? ⟨w.heap.size, 1, none⟩ = some (.int .i64 b) := X204.out.cell 1
  have q213 : v202.cell? ⟨w.heap.size, 2, none⟩ = some (.int .i64 t) := X204.out.cell 2
  have r1 := keepd Y8.out B206.out HLT.out.1
  have r2 := keepd YD.out B206.out HLT.out.2.2.2
  go_wp2_with fail
  go_ret
  exact ⟨⟨d, rfl, by rw [HV.out]; exact HMV.out.mono B206.out B206.out.size⟩, B206.out⟩

set_option maxRecDepth 100000 in
set_option maxHeartbeats 8000000 in
theorem next_g_out (m : Ml) (a b t mo ms : Int) (mc : Bool) (g : Nat) (w : World) (h : IsGC w g m) (h0 : ckM m = 0) (hs : hasB m.pr ⟨a, b, t⟩ = true) (hm : mvB ⟨mo, ms, mc⟩ = true) (ho : a + mo = m.pr.bed.rings) : Calls Tryz.prog 76 #[.pointer (some ⟨g, 0, none⟩), .agg #[.int .i64 a, .int .i64 b, .int .i64 t], .agg #[.int .i64 mo, .int .i64 ms, .bool mc]] w fun e w' => e = .returned (.tuple #[stV st0, .bool true]) ∧ Below w.heap.size w w' := by
  obtain ⟨hR, hS, -⟩ := ckE_bd (ckM_zero h0).1
  obtain ⟨c1, c2, c3⟩ := hasB_parts.1 hs
  obtain ⟨c4, c5⟩ := mvB_parts.1 hm
  dsimp only at c1 c2 c3
  have HCH0 := Lib.hid h
  have HP := Lib.hid h0
  have HGL := Lib.hid h.sizes.2.2
  have x1 : IntKind.i64.wrap (a + mo) = a + mo := wrap_id (by omega) (by omega)
  have HO := Lib.hid ho
  clear x1
  have x1 : IntKind.i64.wrap (a + mo) = m.pr.bed.rings := by rw [ho]; exact wrap_id (by omega) (by omega)
  have e1 : (m.pr.bed.rings == m.pr.bed.rings) = true := by simp
  clear h h0 hs hm hR hS c1 c2 c3 c4 c5 ho
  go_enter Tryz.func76, Tryz.ntmps76
  go_wp2_with fail
  obtain ⟨W214, hW215⟩ : ∃ Wzz, (((w.alloc (.cells #[.int .i64 a, .int .i64 b, .int .i64 t] 46)).alloc (.cells #[.int .i64 mo, .int .i64 ms, .bool mc] 50)).alloc (.cells #[.int .i64 0, .int .i64 0, .int .i64 0] 46)) = Wzz := ⟨_, rfl⟩
  have B216 := Lib.hid (show Below w.heap.size w W214 by rw [← hW215]; exact ((((Below.refl w.heap.size w).alloc (Nat.le_refl _) _).alloc (by first | (simp; done) | (simp; omega)) _).alloc (by first | (simp; done) | (simp; omega)) _))
  have X217 := Lib.hid (show Box W214 (w.heap.size) 46 #[.int .i64 a, .int .i64 b, .int .i64 t] by rw [← hW215]; exact Box.alloc (Box.alloc (Box.made w 46 #[.int .i64 a, .int .i64 b, .int .i64 t]) (.cells #[.int .i64 mo, .int .i64 ms, .bool mc] 50)) (.cells #[.int .i64 0, .int .i64 0, .int .i64 0] 46))
  have X218 := Lib.hid (show Box W214 (w.heap.size + 1) 50 #[.int .i64 mo, .int .i64 ms, .bool mc] by
    have hz := Box.alloc (Box.made (w.alloc (.cells #[.int .i64 a, .int .i64 b, .int .i64 t] 46)) 50 #[.int .i64 mo, .int .i64 ms, .bool mc]) (.cells #[.int .i64 0, .int .i64 0, .int .i64 0] 46)
    rw [World.size_alloc] at hz
    rw [← hW215]; exact hz)
  have X219 := Lib.hid (show Box W214 (w.heap.size + 1 + 1) 46 #[.int .i64 0, .int .i64 0, .int .i64 0] by
    have hz := Box.made ((w.alloc (.cells #[.int .i64 a, .int .i64 b, .int .i64 t] 46)).alloc (.cells #[.int .i64 mo, .int .i64 ms, .bool mc] 50)) 46 #[.int .i64 0, .int .i64 0, .int .i64 0]
    rw [World.size_alloc, World.size_alloc] at hz
    rw [← hW215]; exact hz)
  have C220 := Lib.hid (HCH0.out.later B216.out)
  have SZ221 := Lib.hid (show W214.heap.size = w.heap.size + 1 + 1 + 1 by rw [← hW215]; simp)
  rw [hW215]
  clear hW215
  have q222 : W214.cell? ⟨w.heap.size, 0, none⟩ = some (.int .i64 a) := X217.out.cell 0
  have q223 : W214.cell? ⟨w.heap.size, 1, none⟩ = some (.int .i64 b) := X217.out.cell 1
  have q224 : W214.cell? ⟨w.heap.size, 2, none⟩ = some (.int .i64 t) := X217.out.cell 2
  have q225 : W214.cell? ⟨w.heap.size + 1, 0, none⟩ = some (.int .i64 mo) := X218.out.cell 0
  have q226 : W214.cell? ⟨w.heap.size + 1, 1, none⟩ = some (.int .i64 ms) := X218.out.cell 1
  have q227 : W214.cell? ⟨w.heap.size + 1, 2, none⟩ = some (.bool mc) := X218.out.cell 2
  have q228 : W214.cell? ⟨w.heap.size + 1 + 1, 0, none⟩ = some (.int .i64 0) := X219.out.cell 0
  have q229 : W214.cell? ⟨w.heap.size + 1 + 1, 1, none⟩ = some (.int .i64 0) := X219.out.cell 1
  have q230 : W214.cell? ⟨w.heap.size + 1 + 1, 2, none⟩ = some (.int .i64 0) := X219.out.cell 2
  have fz231 : ∀ o, W214.frozen? ⟨w.heap.size + 1 + 1, o, none⟩ = false := fun o => X219.out.free o
  have k0 := C220.out.sizes.1
  go_wp2_with fail
  go_quiet (fail)
  obtain ⟨W232, hW233⟩ : ∃ Wzz, (W214).drewN nq = Wzz := ⟨_, rfl⟩
  have hb234 : Below (W214).heap.size (W214) W232 := by rw [← hW233]; exact below_drewN _ _
  have X235 := Lib.hid (X217.out.later hb234)
  have X236 := Lib.hid (X218.out.later hb234)
  have X237 := Lib.hid (X219.out.later hb234)
  have C238 := Lib.hid (C220.out.later hb234)
  have B239 := Lib.hid (B216.out.trans (hb234.mono B216.out.size))
  have HBQ := Lib.hid hb234
  rw [hW233]
  clear hb234 hW233
  clear k0
  clear q222 q223 q224 q225 q226 q227 q228 q229 q230 fz231
  have q240 : W232.cell? ⟨w.heap.size, 0, none⟩ = some (.int .i64 a) := X235.out.cell 0
  have q241 : W232.cell? ⟨w.heap.size, 1, none⟩ = some (.int .i64 b) := X235.out.cell 1
  have q242 : W232.cell? ⟨w.heap.size, 2, none⟩ = some (.int .i64 t) := X235.out.cell 2
  have q243 : W232.cell? ⟨w.heap.size + 1, 0, none⟩ = some (.int .i64 mo) := X236.out.cell 0
  have q244 : W232.cell? ⟨w.heap.size + 1, 1, none⟩ = some (.int .i64 ms) := X236.out.cell 1
  have q245 : W232.cell? ⟨w.heap.size + 1, 2, none⟩ = some (.bool mc) := X236.out.cell 2
  have q246 : W232.cell? ⟨w.heap.size + 1 + 1, 0, none⟩ = some (.int .i64 0) := X237.out.cell 0
  have q247 : W232.cell? ⟨w.heap.size + 1 + 1, 1, none⟩ = some (.int .i64 0) := X237.out.cell 1
  have q248 : W232.cell? ⟨w.heap.size + 1 + 1, 2, none⟩ = some (.int .i64 0) := X237.out.cell 2
  have fz249 : ∀ o, W232.frozen? ⟨w.heap.size + 1 + 1, o, none⟩ = false := fun o => X237.out.free o
  go_wp2_with fail
  (try simp only [Exit.inBlock, Exit.then])
  refine endS2 (t := 6) (u := 7) (x := .bool true) (v := .tuple #[stV st0, .bool true]) ?_ ?_ ?_ (((X237.out.put 0 (.int .i64 0)).put 1 (.int .i64 0)).put 2 (.int .i64 0)) (((B239.out.setCell (by simp; omega) _).setCell (by simp; omega) _).setCell (by simp; omega) _) ?_ <;> rfl

set_option maxRecDepth 100000 in
set_option maxHeartbeats 8000000 in
theorem next_g_in (m : Ml) (a b t mo ms : Int) (mc : Bool) (g : Nat) (w : World) (h : IsGC w g m) (h0 : ckM m = 0) (hs : hasB m.pr ⟨a, b, t⟩ = true) (hm : mvB ⟨mo, ms, mc⟩ = true) (ho : a + mo ≠ m.pr.bed.rings) : Calls Tryz.prog 76 #[.pointer (some ⟨g, 0, none⟩), .agg #[.int .i64 a, .int .i64 b, .int .i64 t], .agg #[.int .i64 mo, .int .i64 ms, .bool mc]] w fun e w' => e = .returned (.tuple #[stV (nextS m.pr ⟨a, b, t⟩ ⟨mo, ms, mc⟩), .bool false]) ∧ Below w.heap.size w w' := by
  obtain ⟨hR, hS, -⟩ := ckE_bd (ckM_zero h0).1
  obtain ⟨c1, c2, c3⟩ := hasB_parts.1 hs
  obtain ⟨c4, c5⟩ := mvB_parts.1 hm
  dsimp only at c1 c2 c3
  have HCH0 := Lib.hid h
  have HP := Lib.hid h0
  have HGL := Lib.hid h.sizes.2.2
  have x1 : IntKind.i64.wrap (a + mo) = a + mo := wrap_id (by omega) (by omega)
  have HD := Lib.hid (show (-m.pr.bed.sectors ≤ b + ms ∧ b + ms ≤ 200) ∧ -m.pr.bed.sectors ≤ t + 1 ∧ t + 1 ≤ 200 by omega)
  have y2 : IntKind.i64.wrap (b + ms) = b + ms := wrap_id (by omega) (by omega)
  have y3 : IntKind.i64.wrap (t + 1) = t + 1 := wrap_id (by omega) (by omega)
  have HN0 : nextS m.pr ⟨a, b, t⟩ ⟨mo, ms, mc⟩ = ⟨max 0 (a + mo), arnd (b + ms) m.pr.bed.sectors, arnd (t + 1) m.pr.bed.sectors⟩ := by
    unfold nextS outB
    dsimp only
    rw [if_neg (by simpa using ho)]
  have e1 : ((a + mo) == m.pr.bed.rings) = false := by simpa using ho
  clear h h0 hs hm hR hS c1 c2 c3 c4 c5 ho
  obtain ⟨n1, hn1⟩ : ∃ n, a + mo = n := ⟨_, rfl⟩
  obtain ⟨x2, hx2⟩ : ∃ n, b + ms = n := ⟨_, rfl⟩
  obtain ⟨x3, hx3⟩ : ∃ n, t + 1 = n := ⟨_, rfl⟩
  rw [hx2, hx3] at HD
  have v1 : IntKind.i64.wrap (a + mo) = n1 := by rw [x1, hn1]
  have v2 : IntKind.i64.wrap (b + ms) = x2 := by rw [y2, hx2]
  have v3 : IntKind.i64.wrap (t + 1) = x3 := by rw [y3, hx3]
  rw [hn1] at HN0 e1
  rw [hx2, hx3] at HN0
  obtain ⟨r2, hr2⟩ : ∃ n, arnd x2 m.pr.bed.sectors = n := ⟨_, rfl⟩
  obtain ⟨r3, hr3⟩ : ∃ n, arnd x3 m.pr.bed.sectors = n := ⟨_, rfl⟩
  rw [hr2, hr3] at HN0
  have HR2 := Lib.hid hr2
  have HR3 := Lib.hid hr3
  have HN := Lib.hid HN0
  have e2 : decide (n1 = m.pr.bed.rings) = false := by simpa using e1
  clear x1 y2 y3 hn1 hx2 hx3 hr2 hr3 HN0
  go_enter Tryz.func76, Tryz.ntmps76
  go_wp2_with fail
  obtain ⟨W250, hW251⟩ : ∃ Wzz, (((w.alloc (.cells #[.int .i64 a, .int .i64 b, .int .i64 t] 46)).alloc (.cells #[.int .i64 mo, .int .i64 ms, .bool mc] 50)).alloc (.cells #[.int .i64 0, .int .i64 0, .int .i64 0] 46)) = Wzz := ⟨_, rfl⟩
  have B252 := Lib.hid (show Below w.heap.size w W250 by rw [← hW251]; exact ((((Below.refl w.heap.size w).alloc (Nat.le_refl _) _).alloc (by first | (simp; done) | (simp; omega)) _).alloc (by first | (simp; done) | (simp; omega)) _))
  have X253 := Lib.hid (show Box W250 (w.heap.size) 46 #[.int .i64 a, .int .i64 b, .int .i64 t] by rw [← hW251]; exact Box.alloc (Box.alloc (Box.made w 46 #[.int .i64 a, .int .i64 b, .int .i64 t]) (.cells #[.int .i64 mo, .int .i64 ms, .bool mc] 50)) (.cells #[.int .i64 0, .int .i64 0, .int .i64 0] 46))
  have X254 := Lib.hid (show Box W250 (w.heap.size + 1) 50 #[.int .i64 mo, .int .i64 ms, .bool mc] by
    have hz := Box.alloc (Box.made (w.alloc (.cells #[.int .i64 a, .int .i64 b, .int .i64 t] 46)) 50 #[.int .i64 mo, .int .i64 ms, .bool mc]) (.cells #[.int .i64 0, .int .i64 0, .int .i64 0] 46)
    rw [World.size_alloc] at hz
    rw [← hW251]; exact hz)
  have X255 := Lib.hid (show Box W250 (w.heap.size + 1 + 1) 46 #[.int .i64 0, .int .i64 0, .int .i64 0] by
    have hz := Box.made ((w.alloc (.cells #[.int .i64 a, .int .i64 b, .int .i64 t] 46)).alloc (.cells #[.int .i64 mo, .int .i64 ms, .bool mc] 50)) 46 #[.int .i64 0, .int .i64 0, .int .i64 0]
    rw [World.size_alloc, World.size_alloc] at hz
    rw [← hW251]; exact hz)
  have C256 := Lib.hid (HCH0.out.later B252.out)
  have SZ257 := Lib.hid (show W250.heap.size = w.heap.size + 1 + 1 + 1 by rw [← hW251]; simp)
  rw [hW251]
  clear hW251
  have q258 : W250.cell? ⟨w.heap.size, 0, none⟩ = some (.int .i64 a) := X253.out.cell 0
  have q259 : W250.cell? ⟨w.heap.size, 1, none⟩ = some (.int .i64 b) := X253.out.cell 1
  have q260 : W250.cell? ⟨w.heap.size, 2, none⟩ = some (.int .i64 t) := X253.out.cell 2
  have q261 : W250.cell? ⟨w.heap.size + 1, 0, none⟩ = some (.int .i64 mo) := X254.out.cell 0
  have q262 : W250.cell? ⟨w.heap.size + 1, 1, none⟩ = some (.int .i64 ms) := X254.out.cell 1
  have q263 : W250.cell? ⟨w.heap.size + 1, 2, none⟩ = some (.bool mc) := X254.out.cell 2
  have q264 : W250.cell? ⟨w.heap.size + 1 + 1, 0, none⟩ = some (.int .i64 0) := X255.out.cell 0
  have q265 : W250.cell? ⟨w.heap.size + 1 + 1, 1, none⟩ = some (.int .i64 0) := X255.out.cell 1
  have q266 : W250.cell? ⟨w.heap.size + 1 + 1, 2, none⟩ = some (.int .i64 0) := X255.out.cell 2
  have fz267 : ∀ o, W250.frozen? ⟨w.heap.size + 1 + 1, o, none⟩ = false := fun o => X255.out.free o
  have k0 := C256.out.sizes.1
  go_wp2_with fail
  go_quiet (fail)
  obtain ⟨W268, hW269⟩ : ∃ Wzz, (W250).drewN nq = Wzz := ⟨_, rfl⟩
  have hb270 : Below (W250).heap.size (W250) W268 := by rw [← hW269]; exact below_drewN _ _
  have X271 := Lib.hid (X253.out.later hb270)
  have X272 := Lib.hid (X254.out.later hb270)
  have X273 := Lib.hid (X255.out.later hb270)
  have C274 := Lib.hid (C256.out.later hb270)
  have B275 := Lib.hid (B252.out.trans (hb270.mono B252.out.size))
  have HBQ := Lib.hid hb270
  rw [hW269]
  clear hb270 hW269
  clear k0
  clear q258 q259 q260 q261 q262 q263 q264 q265 q266 fz267
  have q276 : W268.cell? ⟨w.heap.size, 0, none⟩ = some (.int .i64 a) := X271.out.cell 0
  have q277 : W268.cell? ⟨w.heap.size, 1, none⟩ = some (.int .i64 b) := X271.out.cell 1
  have q278 : W268.cell? ⟨w.heap.size, 2, none⟩ = some (.int .i64 t) := X271.out.cell 2
  have q279 : W268.cell? ⟨w.heap.size + 1, 0, none⟩ = some (.int .i64 mo) := X272.out.cell 0
  have q280 : W268.cell? ⟨w.heap.size + 1, 1, none⟩ = some (.int .i64 ms) := X272.out.cell 1
  have q281 : W268.cell? ⟨w.heap.size + 1, 2, none⟩ = some (.bool mc) := X272.out.cell 2
  have q282 : W268.cell? ⟨w.heap.size + 1 + 1, 0, none⟩ = some (.int .i64 0) := X273.out.cell 0
  have q283 : W268.cell? ⟨w.heap.size + 1 + 1, 1, none⟩ = some (.int .i64 0) := X273.out.cell 1
  have q284 : W268.cell? ⟨w.heap.size + 1 + 1, 2, none⟩ = some (.int .i64 0) := X273.out.cell 2
  have fz285 : ∀ o, W268.frozen? ⟨w.heap.size + 1 + 1, o, none⟩ = false := fun o => X273.out.free o
  rcases Int.lt_or_le 0 n1 with hpos | hneg
  · have HX := Lib.hid (show max 0 n1 = n1 by omega)
    have d1 : decide (n1 < 0) = false := by simp; omega
    have d2 : decide (0 < n1) = true := by simp; omega
    have d3 : ¬ n1 < 0 := by omega
    have d4 : ¬ n1 ≤ 0 := by omega
    go_wp2_with fail
    have hdr302 : Below (W268).heap.size (W268) (W268).drew := (Below.refl _ _).drew
    have lt294 := X271.out.lt
    have lt295 := X271.out.lt
    have lt296 := X271.out.lt
    have lt297 := X272.out.lt
    have lt298 := X272.out.lt
    have lt299 := X272.out.lt
    have lt300 := C274.out.sizes.2.2
    have lt301 := C274.out.sizes.2.2
    have hcall303 : ∀ X Y : World, (fun Wz => Wz.cell? ⟨w.heap.size, 0, none⟩ = some (.int .i64 a) ∧ Wz.cell? ⟨w.heap.size, 1, none⟩ = some (.int .i64 b) ∧ Wz.cell? ⟨w.heap.size, 2, none⟩ = some (.int .i64 t) ∧ Wz.cell? ⟨w.heap.size + 1, 0, none⟩ = some (.int .i64 mo) ∧ Wz.cell? ⟨w.heap.size + 1, 1, none⟩ = some (.int .i64 ms) ∧ Wz.cell? ⟨w.heap.size + 1, 2, none⟩ = some (.bool mc) ∧ Wz.cell? ⟨g, 1, none⟩ = some (.int .i64 m.pr.bed.rings) ∧ Wz.cell? ⟨g, 2, none⟩ = some (.int .i64 m.pr.bed.sectors) ∧ (W268).heap.size ≤ Wz.heap.size) X → Below X.heap.size X Y → (fun Wz => Wz.cell? ⟨w.heap.size, 0, none⟩ = some (.int .i64 a) ∧ Wz.cell? ⟨w.heap.size, 1, none⟩ = some (.int .i64 b) ∧ Wz.cell? ⟨w.heap.size, 2, none⟩ = some (.int .i64 t) ∧ Wz.cell? ⟨w.heap.size + 1, 0, none⟩ = some (.int .i64 mo) ∧ Wz.cell? ⟨w.heap.size + 1, 1, none⟩ = some (.int .i64 ms) ∧ Wz.cell? ⟨w.heap.size + 1, 2, none⟩ = some (.bool mc) ∧ Wz.cell? ⟨g, 1, none⟩ = some (.int .i64 m.pr.bed.rings) ∧ Wz.cell? ⟨g, 2, none⟩ = some (.int .i64 m.pr.bed.sectors) ∧ (W268).heap.size ≤ Wz.heap.size) Y := by
      rintro X Y ⟨z286, z287, z288, z289, z290, z291, z292, z293, xs⟩ hb
      have hb2 := Below.mono (B' := (W268).heap.size) hb xs
      exact ⟨keepd z286 hb2 lt294, keepd z287 hb2 lt295, keepd z288 hb2 lt296, keepd z289 hb2 lt297, keepd z290 hb2 lt298, keepd z291 hb2 lt299, keepd z292 hb2 lt300, keepd z293 hb2 lt301, Nat.le_trans xs hb.size⟩
    have ne306 : w.heap.size ≠ w.heap.size + 1 + 1 := by first | (simp; done) | (simp; omega) | omega
    have ne309 : w.heap.size + 1 ≠ w.heap.size + 1 + 1 := by first | (simp; done) | (simp; omega) | omega
    have ne312 : g ≠ w.heap.size + 1 + 1 := by have := HGL.out; first | omega | (simp; omega)
    have hput305 : ∀ (X : World) (o : Nat) (v : Value), (fun Wz => Wz.cell? ⟨w.heap.size, 0, none⟩ = some (.int .i64 a) ∧ Wz.cell? ⟨w.heap.size, 1, none⟩ = some (.int .i64 b) ∧ Wz.cell? ⟨w.heap.size, 2, none⟩ = some (.int .i64 t) ∧ Wz.cell? ⟨w.heap.size + 1, 0, none⟩ = some (.int .i64 mo) ∧ Wz.cell? ⟨w.heap.size + 1, 1, none⟩ = some (.int .i64 ms) ∧ Wz.cell? ⟨w.heap.size + 1, 2, none⟩ = some (.bool mc) ∧ Wz.cell? ⟨g, 1, none⟩ = some (.int .i64 m.pr.bed.rings) ∧ Wz.cell? ⟨g, 2, none⟩ = some (.int .i64 m.pr.bed.sectors) ∧ (W268).heap.size ≤ Wz.heap.size) X → (fun Wz => Wz.cell? ⟨w.heap.size, 0, none⟩ = some (.int .i64 a) ∧ Wz.cell? ⟨w.heap.size, 1, none⟩ = some (.int .i64 b) ∧ Wz.cell? ⟨w.heap.size, 2, none⟩ = some (.int .i64 t) ∧ Wz.cell? ⟨w.heap.size + 1, 0, none⟩ = some (.int .i64 mo) ∧ Wz.cell? ⟨w.heap.size + 1, 1, none⟩ = some (.int .i64 ms) ∧ Wz.cell? ⟨w.heap.size + 1, 2, none⟩ = some (.bool mc) ∧ Wz.cell? ⟨g, 1, none⟩ = some (.int .i64 m.pr.bed.rings) ∧ Wz.cell? ⟨g, 2, none⟩ = some (.int .i64 m.pr.bed.sectors) ∧ (W268).heap.size ≤ Wz.heap.size) (X.setCell ⟨w.heap.size + 1 + 1, o, none⟩ v) := by
      rintro X o v ⟨z286, z287, z288, z289, z290, z291, z292, z293, xs⟩
      exact ⟨(World.cell?_setCell_other X _ _ v (fun e => ne306 (congrArg Addr.block e).symm)).trans z286, (World.cell?_setCell_other X _ _ v (fun e => ne306 (congrArg Addr.block e).symm)).trans z287, (World.cell?_setCell_other X _ _ v (fun e => ne306 (congrArg Addr.block e).symm)).trans z288, (World.cell?_setCell_other X _ _ v (fun e => ne309 (congrArg Addr.block e).symm)).trans z289, (World.cell?_setCell_other X _ _ v (fun e => ne309 (congrArg Addr.block e).symm)).trans z290, (World.cell?_setCell_other X _ _ v (fun e => ne309 (congrArg Addr.block e).symm)).trans z291, (World.cell?_setCell_other X _ _ v (fun e => ne312 (congrArg Addr.block e).symm)).trans z292, (World.cell?_setCell_other X _ _ v (fun e => ne312 (congrArg Addr.block e).symm)).trans z293, by rw [World.size_setCell]; exact xs⟩
    have hini304 : (fun Wz => Wz.cell? ⟨w.heap.size, 0, none⟩ = some (.int .i64 a) ∧ Wz.cell? ⟨w.heap.size, 1, none⟩ = some (.int .i64 b) ∧ Wz.cell? ⟨w.heap.size, 2, none⟩ = some (.int .i64 t) ∧ Wz.cell? ⟨w.heap.size + 1, 0, none⟩ = some (.int .i64 mo) ∧ Wz.cell? ⟨w.heap.size + 1, 1, none⟩ = some (.int .i64 ms) ∧ Wz.cell? ⟨w.heap.size + 1, 2, none⟩ = some (.bool mc) ∧ Wz.cell? ⟨g, 1, none⟩ = some (.int .i64 m.pr.bed.rings) ∧ Wz.cell? ⟨g, 2, none⟩ = some (.int .i64 m.pr.bed.sectors) ∧ (W268).heap.size ≤ Wz.heap.size) (W268).drew := ⟨keepd (X271.out.cell 0) hdr302 lt294, keepd (X271.out.cell 1) hdr302 lt295, keepd (X271.out.cell 2) hdr302 lt296, keepd (X272.out.cell 0) hdr302 lt297, keepd (X272.out.cell 1) hdr302 lt298, keepd (X272.out.cell 2) hdr302 lt299, keepd (C274.out.sizes.1) hdr302 lt300, keepd (C274.out.sizes.2.1) hdr302 lt301, Nat.le_refl _⟩
    have Hcall303 := Lib.hid hcall303
    have Hini304 := Lib.hid hini304
    have Hput305 := Lib.hid hput305
    clear hcall303 ne306 ne309 ne312 hput305 hini304 lt294 lt295 lt296 lt297 lt298 lt299 lt300 lt301
    clear q276 q277 q278 q279 q280 q281 q282 q283 q284 fz285
    refine wp_region_noPanic ?_
    refine wp_region_held_drew (S := (fun Wz => Wz.cell? ⟨w.heap.size, 0, none⟩ = some (.int .i64 a) ∧ Wz.cell? ⟨w.heap.size, 1, none⟩ = some (.int .i64 b) ∧ Wz.cell? ⟨w.heap.size, 2, none⟩ = some (.int .i64 t) ∧ Wz.cell? ⟨w.heap.size + 1, 0, none⟩ = some (.int .i64 mo) ∧ Wz.cell? ⟨w.heap.size + 1, 1, none⟩ = some (.int .i64 ms) ∧ Wz.cell? ⟨w.heap.size + 1, 2, none⟩ = some (.bool mc) ∧ Wz.cell? ⟨g, 1, none⟩ = some (.int .i64 m.pr.bed.rings) ∧ Wz.cell? ⟨g, 2, none⟩ = some (.int .i64 m.pr.bed.sectors) ∧ (W268).heap.size ≤ Wz.heap.size)) (by kernel_rfl) Hini304.out (fun hHeld => ?_)
    obtain ⟨W314, hW315⟩ : ∃ Wzz, (W268).drew = Wzz := ⟨_, rfl⟩
    rw [hW315] at hHeld hdr302 ⊢
    clear hW315
    have X316 := Lib.hid (X271.out.later hdr302)
    have X317 := Lib.hid (X272.out.later hdr302)
    have X318 := Lib.hid (X273.out.later hdr302)
    have C319 := Lib.hid (C274.out.later hdr302)
    have B320 := Lib.hid (B275.out.trans (hdr302.mono B275.out.size))
    clear hdr302
    refine wpAnyH_take (i := 0) (oi := { dst := some 21, op := Op.fieldAddr 46 (Operand.tmp 4) 0, type := 0, pos := "steps.go:74", after := #[], guard := none }) (v := ?vh321) rfl ?hsh321 ?hfh321 ?hrh321 ?hQh321 ?hyh321 (by assumption) ?resth321
    case hsh321 => kernel_rfl
    case hfh321 => kernel_rfl
    case hrh321 => kernel_rfl
    case hQh321 => exact fun _ _ _ h => h
    case hyh321 => (refine Or.inl ⟨by rfl, ?_⟩; intro w hSw; (try dsimp only at hSw); go_simp; try with_reducible rfl)
    try simp only [Act.put, List.setIfInBounds_toArray, List.set_cons_zero, List.set_cons_succ]
    refine wpAnyH_take (i := 1) (oi := { dst := some 22, op := Op.load 3 (Operand.tmp 21), type := 3, pos := "steps.go:74", after := #[{ on := 0, ground := Ground.data }], guard := none }) (v := ?vh322) rfl ?hsh322 ?hfh322 ?hrh322 ?hQh322 ?hyh322 (by assumption) ?resth322
    case hsh322 => kernel_rfl
    case hfh322 => kernel_rfl
    case hrh322 => kernel_rfl
    case hQh322 => exact fun _ _ _ h => h
    case hyh322 => (refine Or.inl ⟨by rfl, ?_⟩; intro w hSw; (try dsimp only at hSw); go_simp; try with_reducible rfl)
    try simp only [Act.put, List.setIfInBounds_toArray, List.set_cons_zero, List.set_cons_succ]
    refine wpAnyH_take (i := 2) (oi := { dst := some 23, op := Op.fieldAddr 50 (Operand.tmp 5) 0, type := 0, pos := "steps.go:74", after := #[], guard := none }) (v := ?vh323) rfl ?hsh323 ?hfh323 ?hrh323 ?hQh323 ?hyh323 (by assumption) ?resth323
    case hsh323 => kernel_rfl
    case hfh323 => kernel_rfl
    case hrh323 => kernel_rfl
    case hQh323 => exact fun _ _ _ h => h
    case hyh323 => (refine Or.inl ⟨by rfl, ?_⟩; intro w hSw; (try dsimp only at hSw); go_simp; try with_reducible rfl)
    try simp only [Act.put, List.setIfInBounds_toArray, List.set_cons_zero, List.set_cons_succ]
    refine wpAnyH_take (i := 3) (oi := { dst := some 24, op := Op.load 3 (Operand.tmp 23), type := 3, pos := "steps.go:74", after := #[{ on := 2, ground := Ground.data }], guard := none }) (v := ?vh324) rfl ?hsh324 ?hfh324 ?hrh324 ?hQh324 ?hyh324 (by assumption) ?resth324
    case hsh324 => kernel_rfl
    case hfh324 => kernel_rfl
    case hrh324 => kernel_rfl
    case hQh324 => exact fun _ _ _ h => h
    case hyh324 => (refine Or.inl ⟨by rfl, ?_⟩; intro w hSw; (try dsimp only at hSw); go_simp; try with_reducible rfl)
    try simp only [Act.put, List.setIfInBounds_toArray, List.set_cons_zero, List.set_cons_succ]
    refine wpAnyH_take (i := 4) (oi := { dst := some 25, op := Op.binOp BinOp.add 3 (Operand.tmp 22) (Operand.tmp 24) 3, type := 3, pos := "steps.go:74", after := #[{ on := 1, ground := Ground.data }, { on := 3, ground := Ground.data }], guard := none }) (v := ?vh325) rfl ?hsh325 ?hfh325 ?hrh325 ?hQh325 ?hyh325 (by assumption) ?resth325
    case hsh325 => kernel_rfl
    case hfh325 => kernel_rfl
    case hrh325 => kernel_rfl
    case hQh325 => exact fun _ _ _ h => h
    case hyh325 => (refine Or.inl ⟨by rfl, ?_⟩; intro w hSw; (try dsimp only at hSw); go_simp; try with_reducible rfl)
    try simp only [Act.put, List.setIfInBounds_toArray, List.set_cons_zero, List.set_cons_succ]
    refine wpAnyH_take (i := 5) (oi := { dst := some 26, op := Op.call { callee := Callee.builtin Builtin.max, args := #[Operand.const (Value.int IntKind.i64 0), Operand.tmp 25], argTypes := #[3, 3] }, type := 3, pos := "steps.go:74", after := #[{ on := 4, ground := Ground.data }], guard := none }) (v := ?vh326) rfl ?hsh326 ?hfh326 ?hrh326 ?hQh326 ?hyh326 (by assumption) ?resth326
    case hsh326 => kernel_rfl
    case hfh326 => kernel_rfl
    case hrh326 => kernel_rfl
    case hQh326 => exact fun _ _ _ h => h
    case hyh326 => (refine Or.inl ⟨by rfl, ?_⟩; intro w hSw; (try dsimp only at hSw); go_simp; try with_reducible rfl)
    try simp only [Act.put, List.setIfInBounds_toArray, List.set_cons_zero, List.set_cons_succ]
    refine wpAnyH_take (i := 6) (oi := { dst := some 27, op := Op.move (Operand.tmp 0), type := 89, pos := "steps.go:74", after := #[], guard := none }) (v := ?vh327) rfl ?hsh327 ?hfh327 ?hrh327 ?hQh327 ?hyh327 (by assumption) ?resth327
    case hsh327 => kernel_rfl
    case hfh327 => kernel_rfl
    case hrh327 => kernel_rfl
    case hQh327 => exact fun _ _ _ h => h
    case hyh327 => (refine Or.inl ⟨by rfl, ?_⟩; intro w hSw; (try dsimp only at hSw); go_simp; try with_reducible rfl)
    try simp only [Act.put, List.setIfInBounds_toArray, List.set_cons_zero, List.set_cons_succ]
    refine wpAnyH_take (i := 7) (oi := { dst := some 28, op := Op.fieldAddr 46 (Operand.tmp 4) 1, type := 0, pos := "steps.go:74", after := #[], guard := none }) (v := ?vh328) rfl ?hsh328 ?hfh328 ?hrh328 ?hQh328 ?hyh328 (by assumption) ?resth328
    case hsh328 => kernel_rfl
    case hfh328 => kernel_rfl
    case hrh328 => kernel_rfl
    case hQh328 => exact fun _ _ _ h => h
    case hyh328 => (refine Or.inl ⟨by rfl, ?_⟩; intro w hSw; (try dsimp only at hSw); go_simp; try with_reducible rfl)
    try simp only [Act.put, List.setIfInBounds_toArray, List.set_cons_zero, List.set_cons_succ]
    refine wpAnyH_take (i := 8) (oi := { dst := some 29, op := Op.load 3 (Operand.tmp 28), type := 3, pos := "steps.go:74", after := #[{ on := 7, ground := Ground.data }], guard := none }) (v := ?vh329) rfl ?hsh329 ?hfh329 ?hrh329 ?hQh329 ?hyh329 (by assumption) ?resth329
    case hsh329 => kernel_rfl
    case hfh329 => kernel_rfl
    case hrh329 => kernel_rfl
    case hQh329 => exact fun _ _ _ h => h
    case hyh329 => (refine Or.inl ⟨by rfl, ?_⟩; intro w hSw; (try dsimp only at hSw); go_simp; try with_reducible rfl)
    try simp only [Act.put, List.setIfInBounds_toArray, List.set_cons_zero, List.set_cons_succ]
    refine wpAnyH_take (i := 9) (oi := { dst := some 30, op := Op.fieldAddr 50 (Operand.tmp 5) 1, type := 0, pos := "steps.go:74", after := #[], guard := none }) (v := ?vh330) rfl ?hsh330 ?hfh330 ?hrh330 ?hQh330 ?hyh330 (by assumption) ?resth330
    case hsh330 => kernel_rfl
    case hfh330 => kernel_rfl
    case hrh330 => kernel_rfl
    case hQh330 => exact fun _ _ _ h => h
    case hyh330 => (refine Or.inl ⟨by rfl, ?_⟩; intro w hSw; (try dsimp only at hSw); go_simp; try with_reducible rfl)
    try simp only [Act.put, List.setIfInBounds_toArray, List.set_cons_zero, List.set_cons_succ]
    refine wpAnyH_take (i := 10) (oi := { dst := some 31, op := Op.load 3 (Operand.tmp 30), type := 3, pos := "steps.go:74", after := #[{ on := 9, ground := Ground.data }], guard := none }) (v := ?vh331) rfl ?hsh331 ?hfh331 ?hrh331 ?hQh331 ?hyh331 (by assumption) ?resth331
    case hsh331 => kernel_rfl
    case hfh331 => kernel_rfl
    case hrh331 => kernel_rfl
    case hQh331 => exact fun _ _ _ h => h
    case hyh331 => (refine Or.inl ⟨by rfl, ?_⟩; intro w hSw; (try dsimp only at hSw); go_simp; try with_reducible rfl)
    try simp only [Act.put, List.setIfInBounds_toArray, List.set_cons_zero, List.set_cons_succ]
    refine wpAnyH_take (i := 11) (oi := { dst := some 32, op := Op.binOp BinOp.add 3 (Operand.tmp 29) (Operand.tmp 31) 3, type := 3, pos := "steps.go:74", after := #[{ on := 8, ground := Ground.data }, { on := 10, ground := Ground.data }], guard := none }) (v := ?vh332) rfl ?hsh332 ?hfh332 ?hrh332 ?hQh332 ?hyh332 (by assumption) ?resth332
    case hsh332 => kernel_rfl
    case hfh332 => kernel_rfl
    case hrh332 => kernel_rfl
    case hQh332 => exact fun _ _ _ h => h
    case hyh332 => (refine Or.inl ⟨by rfl, ?_⟩; intro w hSw; (try dsimp only at hSw); go_simp; try with_reducible rfl)
    try simp only [Act.put, List.setIfInBounds_toArray, List.set_cons_zero, List.set_cons_succ]
    refine wpAnyH_take (i := 13) (oi := { dst := some 34, op := Op.move (Operand.tmp 0), type := 89, pos := "steps.go:74", after := #[], guard := none }) (v := ?vh333) rfl ?hsh333 ?hfh333 ?hrh333 ?hQh333 ?hyh333 (by assumption) ?resth333
    case hsh333 => kernel_rfl
    case hfh333 => kernel_rfl
    case hrh333 => kernel_rfl
    case hQh333 => exact fun _ _ _ h => h
    case hyh333 => (refine Or.inl ⟨by rfl, ?_⟩; intro w hSw; (try dsimp only at hSw); go_simp; try with_reducible rfl)
    try simp only [Act.put, List.setIfInBounds_toArray, List.set_cons_zero, List.set_cons_succ]
    refine wpAnyH_take (i := 14) (oi := { dst := some 35, op := Op.fieldAddr 46 (Operand.tmp 4) 2, type := 0, pos := "steps.go:74", after := #[], guard := none }) (v := ?vh334) rfl ?hsh334 ?hfh334 ?hrh334 ?hQh334 ?hyh334 (by assumption) ?resth334
    case hsh334 => kernel_rfl
    case hfh334 => kernel_rfl
    case hrh334 => kernel_rfl
    case hQh334 => exact fun _ _ _ h => h
    case hyh334 => (refine Or.inl ⟨by rfl, ?_⟩; intro w hSw; (try dsimp only at hSw); go_simp; try with_reducible rfl)
    try simp only [Act.put, List.setIfInBounds_toArray, List.set_cons_zero, List.set_cons_succ]
    refine wpAnyH_take (i := 15) (oi := { dst := some 36, op := Op.load 3 (Operand.tmp 35), type := 3, pos := "steps.go:74", after := #[{ on := 14, ground := Ground.data }], guard := none }) (v := ?vh335) rfl ?hsh335 ?hfh335 ?hrh335 ?hQh335 ?hyh335 (by assumption) ?resth335
    case hsh335 => kernel_rfl
    case hfh335 => kernel_rfl
    case hrh335 => kernel_rfl
    case hQh335 => exact fun _ _ _ h => h
    case hyh335 => (refine Or.inl ⟨by rfl, ?_⟩; intro w hSw; (try dsimp only at hSw); go_simp; try with_reducible rfl)
    try simp only [Act.put, List.setIfInBounds_toArray, List.set_cons_zero, List.set_cons_succ]
    refine wpAnyH_take (i := 16) (oi := { dst := some 37, op := Op.binOp BinOp.add 3 (Operand.tmp 36) (Operand.const (Value.int IntKind.i64 1)) 3, type := 3, pos := "steps.go:74", after := #[{ on := 15, ground := Ground.data }], guard := none }) (v := ?vh336) rfl ?hsh336 ?hfh336 ?hrh336 ?hQh336 ?hyh336 (by assumption) ?resth336
    case hsh336 => kernel_rfl
    case hfh336 => kernel_rfl
    case hrh336 => kernel_rfl
    case hQh336 => exact fun _ _ _ h => h
    case hyh336 => (refine Or.inl ⟨by rfl, ?_⟩; intro w hSw; (try dsimp only at hSw); go_simp; try with_reducible rfl)
    try simp only [Act.put, List.setIfInBounds_toArray, List.set_cons_zero, List.set_cons_succ]
    refine wpAnyH_ready (rs := [12]) (by kernel_rfl) (by simp) ?_
    refine AllReadyH.cons (o := _) (by rfl) (fun K hK => ?_) AllReadyH.nil
    go_simp
    go_at_call 94
    refine (round_g m x2 g _ C319.out HP.out HD.out.1).mono ?_; rintro e v337 ⟨rfl, hb338⟩
    have X339 := Lib.hid (X316.out.later hb338)
    have X340 := Lib.hid (X317.out.later hb338)
    have X341 := Lib.hid (X318.out.later hb338)
    have C342 := Lib.hid (C319.out.later hb338)
    have B343 := Lib.hid (B320.out.trans (hb338.mono B320.out.size))
    clear X316 X317 X318 C319 B320
    rw [HR2.out]
    go_wp2_with fail
    refine hK.out _ _ (Hcall303.out _ _ hHeld (by assumption)) (fun hHeld344 => ?_)
    clear hK K hHeld
    clear hb338
    have hHeld := hHeld344
    clear hHeld344
    try simp only [Act.put, List.setIfInBounds_toArray, List.set_cons_zero, List.set_cons_succ]
    refine wpAnyH_ready (rs := [17]) (by kernel_rfl) (by simp) ?_
    refine AllReadyH.cons (o := _) (by rfl) (fun K hK => ?_) AllReadyH.nil
    go_simp
    go_at_call 94
    refine (round_g m x3 g _ C342.out HP.out HD.out.2).mono ?_; rintro e v345 ⟨rfl, hb346⟩
    have X347 := Lib.hid (X339.out.later hb346)
    have X348 := Lib.hid (X340.out.later hb346)
    have X349 := Lib.hid (X341.out.later hb346)
    have C350 := Lib.hid (C342.out.later hb346)
    have B351 := Lib.hid (B343.out.trans (hb346.mono B343.out.size))
    clear X339 X340 X341 C342 B343
    rw [HR3.out]
    go_wp2_with fail
    refine hK.out _ _ (Hcall303.out _ _ hHeld (by assumption)) (fun hHeld352 => ?_)
    clear hK K hHeld
    clear hb346
    have hHeld := hHeld352
    clear hHeld352
    try simp only [Act.put, List.setIfInBounds_toArray, List.set_cons_zero, List.set_cons_succ]
    refine wpAnyH_take (i := 18) (oi := { dst := some 39, op := Op.build 46 #[(0, Operand.tmp 26), (1, Operand.tmp 33), (2, Operand.tmp 38)], type := 46, pos := "steps.go:74", after := #[{ on := 5, ground := Ground.data }, { on := 12, ground := Ground.data }, { on := 17, ground := Ground.data }], guard := none }) (v := ?vh353) rfl ?hsh353 ?hfh353 ?hrh353 ?hQh353 ?hyh353 (by assumption) ?resth353
    case hsh353 => kernel_rfl
    case hfh353 => kernel_rfl
    case hrh353 => kernel_rfl
    case hQh353 => exact fun _ _ _ h => h
    case hyh353 => (refine Or.inl ⟨by rfl, ?_⟩; intro w hSw; (try dsimp only at hSw); go_simp; try with_reducible rfl)
    try simp only [Act.put, List.setIfInBounds_toArray, List.set_cons_zero, List.set_cons_succ]
    refine wpAnyH_ready (rs := [19]) (by kernel_rfl) (by simp) ?_
    refine AllReadyH.cons (o := _) (by rfl) (fun K hK => ?_) AllReadyH.nil
    have q354 : v345.cell? ⟨w.heap.size + 1 + 1, 0, none⟩ = some (.int .i64 0) := X349.out.cell 0
    have q355 : v345.cell? ⟨w.heap.size + 1 + 1, 1, none⟩ = some (.int .i64 0) := X349.out.cell 1
    have q356 : v345.cell? ⟨w.heap.size + 1 + 1, 2, none⟩ = some (.int .i64 0) := X349.out.cell 2
    have q357 : ∀ o, v345.frozen? ⟨w.heap.size + 1 + 1, o, none⟩ = false := fun o => X349.out.free o
    go_simp
    clear q354 q355 q356 q357
    have X358 := Lib.hid (show Box (((v345.setCell ⟨w.heap.size + 1 + 1, 0, none⟩ (.int .i64 n1)).setCell ⟨w.heap.size + 1 + 1, 1, none⟩ (.int .i64 r2)).setCell ⟨w.heap.size + 1 + 1, 2, none⟩ (.int .i64 r3)) (w.heap.size) 46 #[.int .i64 a, .int .i64 b, .int .i64 t] from ((((((X347.out).far (p := ⟨w.heap.size + 1 + 1, 0, none⟩) (by first | (simp; done) | (simp; omega) | omega) (.int .i64 n1))).far (p := ⟨w.heap.size + 1 + 1, 1, none⟩) (by first | (simp; done) | (simp; omega) | omega) (.int .i64 r2))).far (p := ⟨w.heap.size + 1 + 1, 2, none⟩) (by first | (simp; done) | (simp; omega) | omega) (.int .i64 r3)))
    have X359 := Lib.hid (show Box (((v345.setCell ⟨w.heap.size + 1 + 1, 0, none⟩ (.int .i64 n1)).setCell ⟨w.heap.size + 1 + 1, 1, none⟩ (.int .i64 r2)).setCell ⟨w.heap.size + 1 + 1, 2, none⟩ (.int .i64 r3)) (w.heap.size + 1) 50 #[.int .i64 mo, .int .i64 ms, .bool mc] from ((((((X348.out).far (p := ⟨w.heap.size + 1 + 1, 0, none⟩) (by first | (simp; done) | (simp; omega) | omega) (.int .i64 n1))).far (p := ⟨w.heap.size + 1 + 1, 1, none⟩) (by first | (simp; done) | (simp; omega) | omega) (.int .i64 r2))).far (p := ⟨w.heap.size + 1 + 1, 2, none⟩) (by first | (simp; done) | (simp; omega) | omega) (.int .i64 r3)))
    have X360 := Lib.hid (show Box (((v345.setCell ⟨w.heap.size + 1 + 1, 0, none⟩ (.int .i64 n1)).setCell ⟨w.heap.size + 1 + 1, 1, none⟩ (.int .i64 r2)).setCell ⟨w.heap.size + 1 + 1, 2, none⟩ (.int .i64 r3)) (w.heap.size + 1 + 1) 46 #[.int .i64 n1, .int .i64 r2, .int .i64 r3] from ((((((X349.out).put 0 (.int .i64 n1))).put 1 (.int .i64 r2))).put 2 (.int .i64 r3)))
    have B361 := Lib.hid ((((((B351.out).setCell (p := ⟨w.heap.size + 1 + 1, 0, none⟩) (by first | (simp; done) | (simp; omega) | omega) (.int .i64 n1))).setCell (p := ⟨w.heap.size + 1 + 1, 1, none⟩) (by first | (simp; done) | (simp; omega) | omega) (.int .i64 r2))).setCell (p := ⟨w.heap.size + 1 + 1, 2, none⟩) (by first | (simp; done) | (simp; omega) | omega) (.int .i64 r3))
    refine hK.out _ _ (Hput305.out _ 2 (.int .i64 r3) (Hput305.out _ 1 (.int .i64 r2) (Hput305.out _ 0 (.int .i64 n1) hHeld))) (fun hHeld362 => ?_)
    clear hK K hHeld
    have hHeld := hHeld362
    clear hHeld362
    try simp only [Act.put, List.setIfInBounds_toArray, List.set_cons_zero, List.set_cons_succ]
    refine wpAnyH_take (i := 20) (oi := { dst := some 7, op := Op.assign (Operand.const (Value.bool false)), type := 4, pos := "steps.go:74", after := #[{ on := 19, ground := Ground.chain }, { on := 0, ground := Ground.phase }, { on := 1, ground := Ground.phase }, { on := 2, ground := Ground.phase }, { on := 3, ground := Ground.phase }, { on := 4, ground := Ground.phase }, { on := 5, ground := Ground.phase }, { on := 6, ground := Ground.phase }, { on := 7, ground := Ground.phase }, { on := 8, ground := Ground.phase }, { on := 9, ground := Ground.phase }, { on := 10, ground := Ground.phase }, { on := 11, ground := Ground.phase }, { on := 12, ground := Ground.phase }, { on := 13, ground := Ground.phase }, { on := 14, ground := Ground.phase }, { on := 15, ground := Ground.phase }, { on := 16, ground := Ground.phase }, { on := 17, ground := Ground.phase }, { on := 18, ground := Ground.phase }, { on := 19, ground := Ground.phase }], guard := none }) (v := ?vh363) rfl ?hsh363 ?hfh363 ?hrh363 ?hQh363 ?hyh363 (by assumption) ?resth363
    case hsh363 => kernel_rfl
    case hfh363 => kernel_rfl
    case hrh363 => kernel_rfl
    case hQh363 => exact fun _ _ _ h => h
    case hyh363 => (refine Or.inl ⟨by rfl, ?_⟩; intro w hSw; (try dsimp only at hSw); go_simp; try with_reducible rfl)
    try simp only [Act.put, List.setIfInBounds_toArray, List.set_cons_zero, List.set_cons_succ]
    refine wpAnyH_done (by kernel_rfl) ?_ _
    refine NoPanic.normal ?_
    clear hHeld Hcall303 Hini304 Hput305
    obtain ⟨W364, hW365⟩ : ∃ Wzz, (((v345.setCell ⟨w.heap.size + 1 + 1, 0, none⟩ (.int .i64 n1)).setCell ⟨w.heap.size + 1 + 1, 1, none⟩ (.int .i64 r2)).setCell ⟨w.heap.size + 1 + 1, 2, none⟩ (.int .i64 r3)) = Wzz := ⟨_, rfl⟩
    have x366 := X358.out
    rw [hW365] at x366
    have X366 := Lib.hid x366
    clear x366 X358
    have x367 := X359.out
    rw [hW365] at x367
    have X367 := Lib.hid x367
    clear x367 X359
    have x368 := X360.out
    rw [hW365] at x368
    have X368 := Lib.hid x368
    clear x368 X360
    have b369 := B361.out
    rw [hW365] at b369
    have B369 := Lib.hid b369
    clear b369 B361
    rw [hW365]
    clear hW365
    have q370 : W364.cell? ⟨w.heap.size, 0, none⟩ = some (.int .i64 a) := X366.out.cell 0
    have q371 : W364.cell? ⟨w.heap.size, 1, none⟩ = some (.int .i64 b) := X366.out.cell 1
    have q372 : W364.cell? ⟨w.heap.size, 2, none⟩ = some (.int .i64 t) := X366.out.cell 2
    have q373 : W364.cell? ⟨w.heap.size + 1, 0, none⟩ = some (.int .i64 mo) := X367.out.cell 0
    have q374 : W364.cell? ⟨w.heap.size + 1, 1, none⟩ = some (.int .i64 ms) := X367.out.cell 1
    have q375 : W364.cell? ⟨w.heap.size + 1, 2, none⟩ = some (.bool mc) := X367.out.cell 2
    have q376 : W364.cell? ⟨w.heap.size + 1 + 1, 0, none⟩ = some (.int .i64 n1) := X368.out.cell 0
    have q377 : W364.cell? ⟨w.heap.size + 1 + 1, 1, none⟩ = some (.int .i64 r2) := X368.out.cell 1
    have q378 : W364.cell? ⟨w.heap.size + 1 + 1, 2, none⟩ = some (.int .i64 r3) := X368.out.cell 2
    have fz379 : ∀ o, W364.frozen? ⟨w.heap.size + 1 + 1, o, none⟩ = false := fun o => X368.out.free o
    go_wp2_with fail
    (try simp only [Exit.inBlock, Exit.then])
    refine endS2 (t := 6) (u := 7) (x := .bool false) (v := .tuple #[stV (nextS m.pr ⟨a, b, t⟩ ⟨mo, ms, mc⟩), .bool false]) ?_ ?_ ?_ X368.out B369.out ?_
    · rfl
    · rfl
    · rfl
    · rw [HN.out, HX.out]; rfl
  · have HX := Lib.hid (show max 0 n1 = 0 by omega)
    have d2 : decide (0 < n1) = false := by simp; omega
    have d4 : ¬ 0 < n1 := by omega
    go_wp2_with fail
    have hdr396 : Below (W268).heap.size (W268) (W268).drew := (Below.refl _ _).drew
    have lt388 := X271.out.lt
    have lt389 := X271.out.lt
    have lt390 := X271.out.lt
    have lt391 := X272.out.lt
    have lt392 := X272.out.lt
    have lt393 := X272.out.lt
    have lt394 := C274.out.sizes.2.2
    have lt395 := C274.out.sizes.2.2
    have hcall397 : ∀ X Y : World, (fun Wz => Wz.cell? ⟨w.heap.size, 0, none⟩ = some (.int .i64 a) ∧ Wz.cell? ⟨w.heap.size, 1, none⟩ = some (.int .i64 b) ∧ Wz.cell? ⟨w.heap.size, 2, none⟩ = some (.int .i64 t) ∧ Wz.cell? ⟨w.heap.size + 1, 0, none⟩ = some (.int .i64 mo) ∧ Wz.cell? ⟨w.heap.size + 1, 1, none⟩ = some (.int .i64 ms) ∧ Wz.cell? ⟨w.heap.size + 1, 2, none⟩ = some (.bool mc) ∧ Wz.cell? ⟨g, 1, none⟩ = some (.int .i64 m.pr.bed.rings) ∧ Wz.cell? ⟨g, 2, none⟩ = some (.int .i64 m.pr.bed.sectors) ∧ (W268).heap.size ≤ Wz.heap.size) X → Below X.heap.size X Y → (fun Wz => Wz.cell? ⟨w.heap.size, 0, none⟩ = some (.int .i64 a) ∧ Wz.cell? ⟨w.heap.size, 1, none⟩ = some (.int .i64 b) ∧ Wz.cell? ⟨w.heap.size, 2, none⟩ = some (.int .i64 t) ∧ Wz.cell? ⟨w.heap.size + 1, 0, none⟩ = some (.int .i64 mo) ∧ Wz.cell? ⟨w.heap.size + 1, 1, none⟩ = some (.int .i64 ms) ∧ Wz.cell? ⟨w.heap.size + 1, 2, none⟩ = some (.bool mc) ∧ Wz.cell? ⟨g, 1, none⟩ = some (.int .i64 m.pr.bed.rings) ∧ Wz.cell? ⟨g, 2, none⟩ = some (.int .i64 m.pr.bed.sectors) ∧ (W268).heap.size ≤ Wz.heap.size) Y := by
      rintro X Y ⟨z380, z381, z382, z383, z384, z385, z386, z387, xs⟩ hb
      have hb2 := Below.mono (B' := (W268).heap.size) hb xs
      exact ⟨keepd z380 hb2 lt388, keepd z381 hb2 lt389, keepd z382 hb2 lt390, keepd z383 hb2 lt391, keepd z384 hb2 lt392, keepd z385 hb2 lt393, keepd z386 hb2 lt394, keepd z387 hb2 lt395, Nat.le_trans xs hb.size⟩
    have ne400 : w.heap.size ≠ w.heap.size + 1 + 1 := by first | (simp; done) | (simp; omega) | omega
    have ne403 : w.heap.size + 1 ≠ w.heap.size + 1 + 1 := by first | (simp; done) | (simp; omega) | omega
    have ne406 : g ≠ w.heap.size + 1 + 1 := by have := HGL.out; first | omega | (simp; omega)
    have hput399 : ∀ (X : World) (o : Nat) (v : Value), (fun Wz => Wz.cell? ⟨w.heap.size, 0, none⟩ = some (.int .i64 a) ∧ Wz.cell? ⟨w.heap.size, 1, none⟩ = some (.int .i64 b) ∧ Wz.cell? ⟨w.heap.size, 2, none⟩ = some (.int .i64 t) ∧ Wz.cell? ⟨w.heap.size + 1, 0, none⟩ = some (.int .i64 mo) ∧ Wz.cell? ⟨w.heap.size + 1, 1, none⟩ = some (.int .i64 ms) ∧ Wz.cell? ⟨w.heap.size + 1, 2, none⟩ = some (.bool mc) ∧ Wz.cell? ⟨g, 1, none⟩ = some (.int .i64 m.pr.bed.rings) ∧ Wz.cell? ⟨g, 2, none⟩ = some (.int .i64 m.pr.bed.sectors) ∧ (W268).heap.size ≤ Wz.heap.size) X → (fun Wz => Wz.cell? ⟨w.heap.size, 0, none⟩ = some (.int .i64 a) ∧ Wz.cell? ⟨w.heap.size, 1, none⟩ = some (.int .i64 b) ∧ Wz.cell? ⟨w.heap.size, 2, none⟩ = some (.int .i64 t) ∧ Wz.cell? ⟨w.heap.size + 1, 0, none⟩ = some (.int .i64 mo) ∧ Wz.cell? ⟨w.heap.size + 1, 1, none⟩ = some (.int .i64 ms) ∧ Wz.cell? ⟨w.heap.size + 1, 2, none⟩ = some (.bool mc) ∧ Wz.cell? ⟨g, 1, none⟩ = some (.int .i64 m.pr.bed.rings) ∧ Wz.cell? ⟨g, 2, none⟩ = some (.int .i64 m.pr.bed.sectors) ∧ (W268).heap.size ≤ Wz.heap.size) (X.setCell ⟨w.heap.size + 1 + 1, o, none⟩ v) := by
      rintro X o v ⟨z380, z381, z382, z383, z384, z385, z386, z387, xs⟩
      exact ⟨(World.cell?_setCell_other X _ _ v (fun e => ne400 (congrArg Addr.block e).symm)).trans z380, (World.cell?_setCell_other X _ _ v (fun e => ne400 (congrArg Addr.block e).symm)).trans z381, (World.cell?_setCell_other X _ _ v (fun e => ne400 (congrArg Addr.block e).symm)).trans z382, (World.cell?_setCell_other X _ _ v (fun e => ne403 (congrArg Addr.block e).symm)).trans z383, (World.cell?_setCell_other X _ _ v (fun e => ne403 (congrArg Addr.block e).symm)).trans z384, (World.cell?_setCell_other X _ _ v (fun e => ne403 (congrArg Addr.block e).symm)).trans z385, (World.cell?_setCell_other X _ _ v (fun e => ne406 (congrArg Addr.block e).symm)).trans z386, (World.cell?_setCell_other X _ _ v (fun e => ne406 (congrArg Addr.block e).symm)).trans z387, by rw [World.size_setCell]; exact xs⟩
    have hini398 : (fun Wz => Wz.cell? ⟨w.heap.size, 0, none⟩ = some (.int .i64 a) ∧ Wz.cell? ⟨w.heap.size, 1, none⟩ = some (.int .i64 b) ∧ Wz.cell? ⟨w.heap.size, 2, none⟩ = some (.int .i64 t) ∧ Wz.cell? ⟨w.heap.size + 1, 0, none⟩ = some (.int .i64 mo) ∧ Wz.cell? ⟨w.heap.size + 1, 1, none⟩ = some (.int .i64 ms) ∧ Wz.cell? ⟨w.heap.size + 1, 2, none⟩ = some (.bool mc) ∧ Wz.cell? ⟨g, 1, none⟩ = some (.int .i64 m.pr.bed.rings) ∧ Wz.cell? ⟨g, 2, none⟩ = some (.int .i64 m.pr.bed.sectors) ∧ (W268).heap.size ≤ Wz.heap.size) (W268).drew := ⟨keepd (X271.out.cell 0) hdr396 lt388, keepd (X271.out.cell 1) hdr396 lt389, keepd (X271.out.cell 2) hdr396 lt390, keepd (X272.out.cell 0) hdr396 lt391, keepd (X272.out.cell 1) hdr396 lt392, keepd (X272.out.cell 2) hdr396 lt393, keepd (C274.out.sizes.1) hdr396 lt394, keepd (C274.out.sizes.2.1) hdr396 lt395, Nat.le_refl _⟩
    have Hcall397 := Lib.hid hcall397
    have Hini398 := Lib.hid hini398
    have Hput399 := Lib.hid hput399
    clear hcall397 ne400 ne403 ne406 hput399 hini398 lt388 lt389 lt390 lt391 lt392 lt393 lt394 lt395
    clear q276 q277 q278 q279 q280 q281 q282 q283 q284 fz285
    refine wp_region_noPanic ?_
    refine wp_region_held_drew (S := (fun Wz => Wz.cell? ⟨w.heap.size, 0, none⟩ = some (.int .i64 a) ∧ Wz.cell? ⟨w.heap.size, 1, none⟩ = some (.int .i64 b) ∧ Wz.cell? ⟨w.heap.size, 2, none⟩ = some (.int .i64 t) ∧ Wz.cell? ⟨w.heap.size + 1, 0, none⟩ = some (.int .i64 mo) ∧ Wz.cell? ⟨w.heap.size + 1, 1, none⟩ = some (.int .i64 ms) ∧ Wz.cell? ⟨w.heap.size + 1, 2, none⟩ = some (.bool mc) ∧ Wz.cell? ⟨g, 1, none⟩ = some (.int .i64 m.pr.bed.rings) ∧ Wz.cell? ⟨g, 2, none⟩ = some (.int .i64 m.pr.bed.sectors) ∧ (W268).heap.size ≤ Wz.heap.size)) (by kernel_rfl) Hini398.out (fun hHeld => ?_)
    obtain ⟨W408, hW409⟩ : ∃ Wzz, (W268).drew = Wzz := ⟨_, rfl⟩
    rw [hW409] at hHeld hdr396 ⊢
    clear hW409
    have X410 := Lib.hid (X271.out.later hdr396)
    have X411 := Lib.hid (X272.out.later hdr396)
    have X412 := Lib.hid (X273.out.later hdr396)
    have C413 := Lib.hid (C274.out.later hdr396)
    have B414 := Lib.hid (B275.out.trans (hdr396.mono B275.out.size))
    clear hdr396
    refine wpAnyH_take (i := 0) (oi := { dst := some 21, op := Op.fieldAddr 46 (Operand.tmp 4) 0, type := 0, pos := "steps.go:74", after := #[], guard := none }) (v := ?vh415) rfl ?hsh415 ?hfh415 ?hrh415 ?hQh415 ?hyh415 (by assumption) ?resth415
    case hsh415 => kernel_rfl
    case hfh415 => kernel_rfl
    case hrh415 => kernel_rfl
    case hQh415 => exact fun _ _ _ h => h
    case hyh415 => (refine Or.inl ⟨by rfl, ?_⟩; intro w hSw; (try dsimp only at hSw); go_simp; try with_reducible rfl)
    try simp only [Act.put, List.setIfInBounds_toArray, List.set_cons_zero, List.set_cons_succ]
    refine wpAnyH_take (i := 1) (oi := { dst := some 22, op := Op.load 3 (Operand.tmp 21), type := 3, pos := "steps.go:74", after := #[{ on := 0, ground := Ground.data }], guard := none }) (v := ?vh416) rfl ?hsh416 ?hfh416 ?hrh416 ?hQh416 ?hyh416 (by assumption) ?resth416
    case hsh416 => kernel_rfl
    case hfh416 => kernel_rfl
    case hrh416 => kernel_rfl
    case hQh416 => exact fun _ _ _ h => h
    case hyh416 => (refine Or.inl ⟨by rfl, ?_⟩; intro w hSw; (try dsimp only at hSw); go_simp; try with_reducible rfl)
    try simp only [Act.put, List.setIfInBounds_toArray, List.set_cons_zero, List.set_cons_succ]
    refine wpAnyH_take (i := 2) (oi := { dst := some 23, op := Op.fieldAddr 50 (Operand.tmp 5) 0, type := 0, pos := "steps.go:74", after := #[], guard := none }) (v := ?vh417) rfl ?hsh417 ?hfh417 ?hrh417 ?hQh417 ?hyh417 (by assumption) ?resth417
    case hsh417 => kernel_rfl
    case hfh417 => kernel_rfl
    case hrh417 => kernel_rfl
    case hQh417 => exact fun _ _ _ h => h
    case hyh417 => (refine Or.inl ⟨by rfl, ?_⟩; intro w hSw; (try dsimp only at hSw); go_simp; try with_reducible rfl)
    try simp only [Act.put, List.setIfInBounds_toArray, List.set_cons_zero, List.set_cons_succ]
    refine wpAnyH_take (i := 3) (oi := { dst := some 24, op := Op.load 3 (Operand.tmp 23), type := 3, pos := "steps.go:74", after := #[{ on := 2, ground := Ground.data }], guard := none }) (v := ?vh418) rfl ?hsh418 ?hfh418 ?hrh418 ?hQh418 ?hyh418 (by assumption) ?resth418
    case hsh418 => kernel_rfl
    case hfh418 => kernel_rfl
    case hrh418 => kernel_rfl
    case hQh418 => exact fun _ _ _ h => h
    case hyh418 => (refine Or.inl ⟨by rfl, ?_⟩; intro w hSw; (try dsimp only at hSw); go_simp; try with_reducible rfl)
    try simp only [Act.put, List.setIfInBounds_toArray, List.set_cons_zero, List.set_cons_succ]
    refine wpAnyH_take (i := 4) (oi := { dst := some 25, op := Op.binOp BinOp.add 3 (Operand.tmp 22) (Operand.tmp 24) 3, type := 3, pos := "steps.go:74", after := #[{ on := 1, ground := Ground.data }, { on := 3, ground := Ground.data }], guard := none }) (v := ?vh419) rfl ?hsh419 ?hfh419 ?hrh419 ?hQh419 ?hyh419 (by assumption) ?resth419
    case hsh419 => kernel_rfl
    case hfh419 => kernel_rfl
    case hrh419 => kernel_rfl
    case hQh419 => exact fun _ _ _ h => h
    case hyh419 => (refine Or.inl ⟨by rfl, ?_⟩; intro w hSw; (try dsimp only at hSw); go_simp; try with_reducible rfl)
    try simp only [Act.put, List.setIfInBounds_toArray, List.set_cons_zero, List.set_cons_succ]
    refine wpAnyH_take (i := 5) (oi := { dst := some 26, op := Op.call { callee := Callee.builtin Builtin.max, args := #[Operand.const (Value.int IntKind.i64 0), Operand.tmp 25], argTypes := #[3, 3] }, type := 3, pos := "steps.go:74", after := #[{ on := 4, ground := Ground.data }], guard := none }) (v := ?vh420) rfl ?hsh420 ?hfh420 ?hrh420 ?hQh420 ?hyh420 (by assumption) ?resth420
    case hsh420 => kernel_rfl
    case hfh420 => kernel_rfl
    case hrh420 => kernel_rfl
    case hQh420 => exact fun _ _ _ h => h
    case hyh420 => (refine Or.inl ⟨by rfl, ?_⟩; intro w hSw; (try dsimp only at hSw); go_simp; try with_reducible rfl)
    try simp only [Act.put, List.setIfInBounds_toArray, List.set_cons_zero, List.set_cons_succ]
    refine wpAnyH_take (i := 6) (oi := { dst := some 27, op := Op.move (Operand.tmp 0), type := 89, pos := "steps.go:74", after := #[], guard := none }) (v := ?vh421) rfl ?hsh421 ?hfh421 ?hrh421 ?hQh421 ?hyh421 (by assumption) ?resth421
    case hsh421 => kernel_rfl
    case hfh421 => kernel_rfl
    case hrh421 => kernel_rfl
    case hQh421 => exact fun _ _ _ h => h
    case hyh421 => (refine Or.inl ⟨by rfl, ?_⟩; intro w hSw; (try dsimp only at hSw); go_simp; try with_reducible rfl)
    try simp only [Act.put, List.setIfInBounds_toArray, List.set_cons_zero, List.set_cons_succ]
    refine wpAnyH_take (i := 7) (oi := { dst := some 28, op := Op.fieldAddr 46 (Operand.tmp 4) 1, type := 0, pos := "steps.go:74", after := #[], guard := none }) (v := ?vh422) rfl ?hsh422 ?hfh422 ?hrh422 ?hQh422 ?hyh422 (by assumption) ?resth422
    case hsh422 => kernel_rfl
    case hfh422 => kernel_rfl
    case hrh422 => kernel_rfl
    case hQh422 => exact fun _ _ _ h => h
    case hyh422 => (refine Or.inl ⟨by rfl, ?_⟩; intro w hSw; (try dsimp only at hSw); go_simp; try with_reducible rfl)
    try simp only [Act.put, List.setIfInBounds_toArray, List.set_cons_zero, List.set_cons_succ]
    refine wpAnyH_take (i := 8) (oi := { dst := some 29, op := Op.load 3 (Operand.tmp 28), type := 3, pos := "steps.go:74", after := #[{ on := 7, ground := Ground.data }], guard := none }) (v := ?vh423) rfl ?hsh423 ?hfh423 ?hrh423 ?hQh423 ?hyh423 (by assumption) ?resth423
    case hsh423 => kernel_rfl
    case hfh423 => kernel_rfl
    case hrh423 => kernel_rfl
    case hQh423 => exact fun _ _ _ h => h
    case hyh423 => (refine Or.inl ⟨by rfl, ?_⟩; intro w hSw; (try dsimp only at hSw); go_simp; try with_reducible rfl)
    try simp only [Act.put, List.setIfInBounds_toArray, List.set_cons_zero, List.set_cons_succ]
    refine wpAnyH_take (i := 9) (oi := { dst := some 30, op := Op.fieldAddr 50 (Operand.tmp 5) 1, type := 0, pos := "steps.go:74", after := #[], guard := none }) (v := ?vh424) rfl ?hsh424 ?hfh424 ?hrh424 ?hQh424 ?hyh424 (by assumption) ?resth424
    case hsh424 => kernel_rfl
    case hfh424 => kernel_rfl
    case hrh424 => kernel_rfl
    case hQh424 => exact fun _ _ _ h => h
    case hyh424 => (refine Or.inl ⟨by rfl, ?_⟩; intro w hSw; (try dsimp only at hSw); go_simp; try with_reducible rfl)
    try simp only [Act.put, List.setIfInBounds_toArray, List.set_cons_zero, List.set_cons_succ]
    refine wpAnyH_take (i := 10) (oi := { dst := some 31, op := Op.load 3 (Operand.tmp 30), type := 3, pos := "steps.go:74", after := #[{ on := 9, ground := Ground.data }], guard := none }) (v := ?vh425) rfl ?hsh425 ?hfh425 ?hrh425 ?hQh425 ?hyh425 (by assumption) ?resth425
    case hsh425 => kernel_rfl
    case hfh425 => kernel_rfl
    case hrh425 => kernel_rfl
    case hQh425 => exact fun _ _ _ h => h
    case hyh425 => (refine Or.inl ⟨by rfl, ?_⟩; intro w hSw; (try dsimp only at hSw); go_simp; try with_reducible rfl)
    try simp only [Act.put, List.setIfInBounds_toArray, List.set_cons_zero, List.set_cons_succ]
    refine wpAnyH_take (i := 11) (oi := { dst := some 32, op := Op.binOp BinOp.add 3 (Operand.tmp 29) (Operand.tmp 31) 3, type := 3, pos := "steps.go:74", after := #[{ on := 8, ground := Ground.data }, { on := 10, ground := Ground.data }], guard := none }) (v := ?vh426) rfl ?hsh426 ?hfh426 ?hrh426 ?hQh426 ?hyh426 (by assumption) ?resth426
    case hsh426 => kernel_rfl
    case hfh426 => kernel_rfl
    case hrh426 => kernel_rfl
    case hQh426 => exact fun _ _ _ h => h
    case hyh426 => (refine Or.inl ⟨by rfl, ?_⟩; intro w hSw; (try dsimp only at hSw); go_simp; try with_reducible rfl)
    try simp only [Act.put, List.setIfInBounds_toArray, List.set_cons_zero, List.set_cons_succ]
    refine wpAnyH_take (i := 13) (oi := { dst := some 34, op := Op.move (Operand.tmp 0), type := 89, pos := "steps.go:74", after := #[], guard := none }) (v := ?vh427) rfl ?hsh427 ?hfh427 ?hrh427 ?hQh427 ?hyh427 (by assumption) ?resth427
    case hsh427 => kernel_rfl
    case hfh427 => kernel_rfl
    case hrh427 => kernel_rfl
    case hQh427 => exact fun _ _ _ h => h
    case hyh427 => (refine Or.inl ⟨by rfl, ?_⟩; intro w hSw; (try dsimp only at hSw); go_simp; try with_reducible rfl)
    try simp only [Act.put, List.setIfInBounds_toArray, List.set_cons_zero, List.set_cons_succ]
    refine wpAnyH_take (i := 14) (oi := { dst := some 35, op := Op.fieldAddr 46 (Operand.tmp 4) 2, type := 0, pos := "steps.go:74", after := #[], guard := none }) (v := ?vh428) rfl ?hsh428 ?hfh428 ?hrh428 ?hQh428 ?hyh428 (by assumption) ?resth428
    case hsh428 => kernel_rfl
    case hfh428 => kernel_rfl
    case hrh428 => kernel_rfl
    case hQh428 => exact fun _ _ _ h => h
    case hyh428 => (refine Or.inl ⟨by rfl, ?_⟩; intro w hSw; (try dsimp only at hSw); go_simp; try with_reducible rfl)
    try simp only [Act.put, List.setIfInBounds_toArray, List.set_cons_zero, List.set_cons_succ]
    refine wpAnyH_take (i := 15) (oi := { dst := some 36, op := Op.load 3 (Operand.tmp 35), type := 3, pos := "steps.go:74", after := #[{ on := 14, ground := Ground.data }], guard := none }) (v := ?vh429) rfl ?hsh429 ?hfh429 ?hrh429 ?hQh429 ?hyh429 (by assumption) ?resth429
    case hsh429 => kernel_rfl
    case hfh429 => kernel_rfl
    case hrh429 => kernel_rfl
    case hQh429 => exact fun _ _ _ h => h
    case hyh429 => (refine Or.inl ⟨by rfl, ?_⟩; intro w hSw; (try dsimp only at hSw); go_simp; try with_reducible rfl)
    try simp only [Act.put, List.setIfInBounds_toArray, List.set_cons_zero, List.set_cons_succ]
    refine wpAnyH_take (i := 16) (oi := { dst := some 37, op := Op.binOp BinOp.add 3 (Operand.tmp 36) (Operand.const (Value.int IntKind.i64 1)) 3, type := 3, pos := "steps.go:74", after := #[{ on := 15, ground := Ground.data }], guard := none }) (v := ?vh430) rfl ?hsh430 ?hfh430 ?hrh430 ?hQh430 ?hyh430 (by assumption) ?resth430
    case hsh430 => kernel_rfl
    case hfh430 => kernel_rfl
    case hrh430 => kernel_rfl
    case hQh430 => exact fun _ _ _ h => h
    case hyh430 => (refine Or.inl ⟨by rfl, ?_⟩; intro w hSw; (try dsimp only at hSw); go_simp; try with_reducible rfl)
    try simp only [Act.put, List.setIfInBounds_toArray, List.set_cons_zero, List.set_cons_succ]
    refine wpAnyH_ready (rs := [12]) (by kernel_rfl) (by simp) ?_
    refine AllReadyH.cons (o := _) (by rfl) (fun K hK => ?_) AllReadyH.nil
    go_simp
    go_at_call 94
    refine (round_g m x2 g _ C413.out HP.out HD.out.1).mono ?_; rintro e v431 ⟨rfl, hb432⟩
    have X433 := Lib.hid (X410.out.later hb432)
    have X434 := Lib.hid (X411.out.later hb432)
    have X435 := Lib.hid (X412.out.later hb432)
    have C436 := Lib.hid (C413.out.later hb432)
    have B437 := Lib.hid (B414.out.trans (hb432.mono B414.out.size))
    clear X410 X411 X412 C413 B414
    rw [HR2.out]
    go_wp2_with fail
    refine hK.out _ _ (Hcall397.out _ _ hHeld (by assumption)) (fun hHeld438 => ?_)
    clear hK K hHeld
    clear hb432
    have hHeld := hHeld438
    clear hHeld438
    try simp only [Act.put, List.setIfInBounds_toArray, List.set_cons_zero, List.set_cons_succ]
    refine wpAnyH_ready (rs := [17]) (by kernel_rfl) (by simp) ?_
    refine AllReadyH.cons (o := _) (by rfl) (fun K hK => ?_) AllReadyH.nil
    go_simp
    go_at_call 94
    refine (round_g m x3 g _ C436.out HP.out HD.out.2).mono ?_; rintro e v439 ⟨rfl, hb440⟩
    have X441 := Lib.hid (X433.out.later hb440)
    have X442 := Lib.hid (X434.out.later hb440)
    have X443 := Lib.hid (X435.out.later hb440)
    have C444 := Lib.hid (C436.out.later hb440)
    have B445 := Lib.hid (B437.out.trans (hb440.mono B437.out.size))
    clear X433 X434 X435 C436 B437
    rw [HR3.out]
    go_wp2_with fail
    refine hK.out _ _ (Hcall397.out _ _ hHeld (by assumption)) (fun hHeld446 => ?_)
    clear hK K hHeld
    clear hb440
    have hHeld := hHeld446
    clear hHeld446
    try simp only [Act.put, List.setIfInBounds_toArray, List.set_cons_zero, List.set_cons_succ]
    refine wpAnyH_take (i := 18) (oi := { dst := some 39, op := Op.build 46 #[(0, Operand.tmp 26), (1, Operand.tmp 33), (2, Operand.tmp 38)], type := 46, pos := "steps.go:74", after := #[{ on := 5, ground := Ground.data }, { on := 12, ground := Ground.data }, { on := 17, ground := Ground.data }], guard := none }) (v := ?vh447) rfl ?hsh447 ?hfh447 ?hrh447 ?hQh447 ?hyh447 (by assumption) ?resth447
    case hsh447 => kernel_rfl
    case hfh447 => kernel_rfl
    case hrh447 => kernel_rfl
    case hQh447 => exact fun _ _ _ h => h
    case hyh447 => (refine Or.inl ⟨by rfl, ?_⟩; intro w hSw; (try dsimp only at hSw); go_simp; try with_reducible rfl)
    try simp only [Act.put, List.setIfInBounds_toArray, List.set_cons_zero, List.set_cons_succ]
    refine wpAnyH_ready (rs := [19]) (by kernel_rfl) (by simp) ?_
    refine AllReadyH.cons (o := _) (by rfl) (fun K hK => ?_) AllReadyH.nil
    have q448 : v439.cell? ⟨w.heap.size + 1 + 1, 0, none⟩ = some (.int .i64 0) := X443.out.cell 0
    have q449 : v439.cell? ⟨w.heap.size + 1 + 1, 1, none⟩ = some (.int .i64 0) := X443.out.cell 1
    have q450 : v439.cell? ⟨w.heap.size + 1 + 1, 2, none⟩ = some (.int .i64 0) := X443.out.cell 2
    have q451 : ∀ o, v439.frozen? ⟨w.heap.size + 1 + 1, o, none⟩ = false := fun o => X443.out.free o
    go_simp
    clear q448 q449 q450 q451
    have X452 := Lib.hid (show Box (((v439.setCell ⟨w.heap.size + 1 + 1, 0, none⟩ (.int .i64 0)).setCell ⟨w.heap.size + 1 + 1, 1, none⟩ (.int .i64 r2)).setCell ⟨w.heap.size + 1 + 1, 2, none⟩ (.int .i64 r3)) (w.heap.size) 46 #[.int .i64 a, .int .i64 b, .int .i64 t] from ((((((X441.out).far (p := ⟨w.heap.size + 1 + 1, 0, none⟩) (by first | (simp; done) | (simp; omega) | omega) (.int .i64 0))).far (p := ⟨w.heap.size + 1 + 1, 1, none⟩) (by first | (simp; done) | (simp; omega) | omega) (.int .i64 r2))).far (p := ⟨w.heap.size + 1 + 1, 2, none⟩) (by first | (simp; done) | (simp; omega) | omega) (.int .i64 r3)))
    have X453 := Lib.hid (show Box (((v439.setCell ⟨w.heap.size + 1 + 1, 0, none⟩ (.int .i64 0)).setCell ⟨w.heap.size + 1 + 1, 1, none⟩ (.int .i64 r2)).setCell ⟨w.heap.size + 1 + 1, 2, none⟩ (.int .i64 r3)) (w.heap.size + 1) 50 #[.int .i64 mo, .int .i64 ms, .bool mc] from ((((((X442.out).far (p := ⟨w.heap.size + 1 + 1, 0, none⟩) (by first | (simp; done) | (simp; omega) | omega) (.int .i64 0))).far (p := ⟨w.heap.size + 1 + 1, 1, none⟩) (by first | (simp; done) | (simp; omega) | omega) (.int .i64 r2))).far (p := ⟨w.heap.size + 1 + 1, 2, none⟩) (by first | (simp; done) | (simp; omega) | omega) (.int .i64 r3)))
    have X454 := Lib.hid (show Box (((v439.setCell ⟨w.heap.size + 1 + 1, 0, none⟩ (.int .i64 0)).setCell ⟨w.heap.size + 1 + 1, 1, none⟩ (.int .i64 r2)).setCell ⟨w.heap.size + 1 + 1, 2, none⟩ (.int .i64 r3)) (w.heap.size + 1 + 1) 46 #[.int .i64 0, .int .i64 r2, .int .i64 r3] from ((((((X443.out).put 0 (.int .i64 0))).put 1 (.int .i64 r2))).put 2 (.int .i64 r3)))
    have B455 := Lib.hid ((((((B445.out).setCell (p := ⟨w.heap.size + 1 + 1, 0, none⟩) (by first | (simp; done) | (simp; omega) | omega) (.int .i64 0))).setCell (p := ⟨w.heap.size + 1 + 1, 1, none⟩) (by first | (simp; done) | (simp; omega) | omega) (.int .i64 r2))).setCell (p := ⟨w.heap.size + 1 + 1, 2, none⟩) (by first | (simp; done) | (simp; omega) | omega) (.int .i64 r3))
    refine hK.out _ _ (Hput399.out _ 2 (.int .i64 r3) (Hput399.out _ 1 (.int .i64 r2) (Hput399.out _ 0 (.int .i64 0) hHeld))) (fun hHeld456 => ?_)
    clear hK K hHeld
    have hHeld := hHeld456
    clear hHeld456
    try simp only [Act.put, List.setIfInBounds_toArray, List.set_cons_zero, List.set_cons_succ]
    refine wpAnyH_take (i := 20) (oi := { dst := some 7, op := Op.assign (Operand.const (Value.bool false)), type := 4, pos := "steps.go:74", after := #[{ on := 19, ground := Ground.chain }, { on := 0, ground := Ground.phase }, { on := 1, ground := Ground.phase }, { on := 2, ground := Ground.phase }, { on := 3, ground := Ground.phase }, { on := 4, ground := Ground.phase }, { on := 5, ground := Ground.phase }, { on := 6, ground := Ground.phase }, { on := 7, ground := Ground.phase }, { on := 8, ground := Ground.phase }, { on := 9, ground := Ground.phase }, { on := 10, ground := Ground.phase }, { on := 11, ground := Ground.phase }, { on := 12, ground := Ground.phase }, { on := 13, ground := Ground.phase }, { on := 14, ground := Ground.phase }, { on := 15, ground := Ground.phase }, { on := 16, ground := Ground.phase }, { on := 17, ground := Ground.phase }, { on := 18, ground := Ground.phase }, { on := 19, ground := Ground.phase }], guard := none }) (v := ?vh457) rfl ?hsh457 ?hfh457 ?hrh457 ?hQh457 ?hyh457 (by assumption) ?resth457
    case hsh457 => kernel_rfl
    case hfh457 => kernel_rfl
    case hrh457 => kernel_rfl
    case hQh457 => exact fun _ _ _ h => h
    case hyh457 => (refine Or.inl ⟨by rfl, ?_⟩; intro w hSw; (try dsimp only at hSw); go_simp; try with_reducible rfl)
    try simp only [Act.put, List.setIfInBounds_toArray, List.set_cons_zero, List.set_cons_succ]
    refine wpAnyH_done (by kernel_rfl) ?_ _
    refine NoPanic.normal ?_
    clear hHeld Hcall397 Hini398 Hput399
    obtain ⟨W458, hW459⟩ : ∃ Wzz, (((v439.setCell ⟨w.heap.size + 1 + 1, 0, none⟩ (.int .i64 0)).setCell ⟨w.heap.size + 1 + 1, 1, none⟩ (.int .i64 r2)).setCell ⟨w.heap.size + 1 + 1, 2, none⟩ (.int .i64 r3)) = Wzz := ⟨_, rfl⟩
    have x460 := X452.out
    rw [hW459] at x460
    have X460 := Lib.hid x460
    clear x460 X452
    have x461 := X453.out
    rw [hW459] at x461
    have X461 := Lib.hid x461
    clear x461 X453
    have x462 := X454.out
    rw [hW459] at x462
    have X462 := Lib.hid x462
    clear x462 X454
    have b463 := B455.out
    rw [hW459] at b463
    have B463 := Lib.hid b463
    clear b463 B455
    rw [hW459]
    clear hW459
    have q464 : W458.cell? ⟨w.heap.size, 0, none⟩ = some (.int .i64 a) := X460.out.cell 0
    have q465 : W458.cell? ⟨w.heap.size, 1, none⟩ = some (.int .i64 b) := X460.out.cell 1
    have q466 : W458.cell? ⟨w.heap.size, 2, none⟩ = some (.int .i64 t) := X460.out.cell 2
    have q467 : W458.cell? ⟨w.heap.size + 1, 0, none⟩ = some (.int .i64 mo) := X461.out.cell 0
    have q468 : W458.cell? ⟨w.heap.size + 1, 1, none⟩ = some (.int .i64 ms) := X461.out.cell 1
    have q469 : W458.cell? ⟨w.heap.size + 1, 2, none⟩ = some (.bool mc) := X461.out.cell 2
    have q470 : W458.cell? ⟨w.heap.size + 1 + 1, 0, none⟩ = some (.int .i64 0) := X462.out.cell 0
    have q471 : W458.cell? ⟨w.heap.size + 1 + 1, 1, none⟩ = some (.int .i64 r2) := X462.out.cell 1
    have q472 : W458.cell? ⟨w.heap.size + 1 + 1, 2, none⟩ = some (.int .i64 r3) := X462.out.cell 2
    have fz473 : ∀ o, W458.frozen? ⟨w.heap.size + 1 + 1, o, none⟩ = false := fun o => X462.out.free o
    go_wp2_with fail
    (try simp only [Exit.inBlock, Exit.then])
    refine endS2 (t := 6) (u := 7) (x := .bool false) (v := .tuple #[stV (nextS m.pr ⟨a, b, t⟩ ⟨mo, ms, mc⟩), .bool false]) ?_ ?_ ?_ X462.out B463.out ?_
    · rfl
    · rfl
    · rfl
    · rw [HN.out, HX.out]; rfl

end Go.Proofs.YtikfiallhmhicaaGreat

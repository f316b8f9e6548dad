/- Layer 2: a pair laid together: where a move leads. -/
import Derived.Test.YtikfiallhmhicaaGreatC26
set_option linter.all false
namespace Go.Proofs.YtikfiallhmhicaaGreat
open Go.RowKit

set_option maxRecDepth 100000 in
set_option maxHeartbeats 8000000 in
theorem next_out (p : Pr) (a b t mo ms : Int) (mc : Bool) (g : Nat) (w : World) (h : IsChart w g p) (h0 : ckE p = 0) (hs : hasB p ⟨a, b, t⟩ = true) (hm : mvB ⟨mo, ms, mc⟩ = true) (ho : a + mo = p.bed.rings) : Calls Tryz.prog 123 #[.pointer (some ⟨g, 0, none⟩), .agg #[.int .i64 a, .int .i64 b, .int .i64 t], .agg #[.int .i64 mo, .int .i64 ms, .bool mc]] w fun e w' => e = .returned (.tuple #[stV st0, .bool true]) ∧ Below w.heap.size w w' := by
  obtain ⟨hR, hS, -⟩ := ckE_bd h0
  obtain ⟨c1, c2, c3⟩ := hasB_parts.1 hs
  obtain ⟨c4, c5⟩ := mvB_parts.1 hm
  dsimp only at c1 c2 c3
  have HCH0 := Lib.hid h
  have HP := Lib.hid h0
  have HGL := Lib.hid h.rings.2.2
  have x1 : IntKind.i64.wrap (a + mo) = a + mo := wrap_id (by omega) (by omega)
  have HO := Lib.hid ho
  clear x1
  have x1 : IntKind.i64.wrap (a + mo) = p.bed.rings := by rw [ho]; exact wrap_id (by omega) (by omega)
  have e1 : (p.bed.rings == p.bed.rings) = true := by simp
  clear h h0 hs hm hR hS c1 c2 c3 c4 c5 ho
  go_enter Tryz.func123, Tryz.ntmps123
  go_wp2_with fail
  obtain ⟨W1, hW2⟩ : ∃ Wzz, (((w.alloc (.cells #[.int .i64 a, .int .i64 b, .int .i64 t] 46)).alloc (.cells #[.int .i64 mo, .int .i64 ms, .bool mc] 50)).alloc (.cells #[.int .i64 0, .int .i64 0, .int .i64 0] 46)) = Wzz := ⟨_, rfl⟩
  have B3 := Lib.hid (show Below w.heap.size w W1 by rw [← hW2]; exact ((((Below.refl w.heap.size w).alloc (Nat.le_refl _) _).alloc (by first | (simp; done) | (simp; omega)) _).alloc (by first | (simp; done) | (simp; omega)) _))
  have X4 := Lib.hid (show Box W1 (w.heap.size) 46 #[.int .i64 a, .int .i64 b, .int .i64 t] by rw [← hW2]; exact Box.alloc (Box.alloc (Box.made w 46 #[.int .i64 a, .int .i64 b, .int .i64 t]) (.cells #[.int .i64 mo, .int .i64 ms, .bool mc] 50)) (.cells #[.int .i64 0, .int .i64 0, .int .i64 0] 46))
  have X5 := Lib.hid (show Box W1 (w.heap.size + 1) 50 #[.int .i64 mo, .int .i64 ms, .bool mc] by
    have hz := Box.alloc (Box.made (w.alloc (.cells #[.int .i64 a, .int .i64 b, .int .i64 t] 46)) 50 #[.int .i64 mo, .int .i64 ms, .bool mc]) (.cells #[.int .i64 0, .int .i64 0, .int .i64 0] 46)
    rw [World.size_alloc] at hz
    rw [← hW2]; exact hz)
  have X6 := Lib.hid (show Box W1 (w.heap.size + 1 + 1) 46 #[.int .i64 0, .int .i64 0, .int .i64 0] by
    have hz := Box.made ((w.alloc (.cells #[.int .i64 a, .int .i64 b, .int .i64 t] 46)).alloc (.cells #[.int .i64 mo, .int .i64 ms, .bool mc] 50)) 46 #[.int .i64 0, .int .i64 0, .int .i64 0]
    rw [World.size_alloc, World.size_alloc] at hz
    rw [← hW2]; exact hz)
  have C7 := Lib.hid (HCH0.out.later B3.out)
  have SZ8 := Lib.hid (show W1.heap.size = w.heap.size + 1 + 1 + 1 by rw [← hW2]; simp)
  rw [hW2]
  clear hW2
  have q9 : W1.cell? ⟨w.heap.size, 0, none⟩ = some (.int .i64 a) := X4.out.cell 0
  have q10 : W1.cell? ⟨w.heap.size, 1, none⟩ = some (.int .i64 b) := X4.out.cell 1
  have q11 : W1.cell? ⟨w.heap.size, 2, none⟩ = some (.int .i64 t) := X4.out.cell 2
  have q12 : W1.cell? ⟨w.heap.size + 1, 0, none⟩ = some (.int .i64 mo) := X5.out.cell 0
  have q13 : W1.cell? ⟨w.heap.size + 1, 1, none⟩ = some (.int .i64 ms) := X5.out.cell 1
  have q14 : W1.cell? ⟨w.heap.size + 1, 2, none⟩ = some (.bool mc) := X5.out.cell 2
  have q15 : W1.cell? ⟨w.heap.size + 1 + 1, 0, none⟩ = some (.int .i64 0) := X6.out.cell 0
  have q16 : W1.cell? ⟨w.heap.size + 1 + 1, 1, none⟩ = some (.int .i64 0) := X6.out.cell 1
  have q17 : W1.cell? ⟨w.heap.size + 1 + 1, 2, none⟩ = some (.int .i64 0) := X6.out.cell 2
  have fz18 : ∀ o, W1.frozen? ⟨w.heap.size + 1 + 1, o, none⟩ = false := fun o => X6.out.free o
  have k0 := C7.out.rings.1
  have k1 := C7.out.rings.2.1
  go_wp2_with fail
  go_quiet (fail)
  obtain ⟨W19, hW20⟩ : ∃ Wzz, (W1).drewN nq = Wzz := ⟨_, rfl⟩
  have hb21 : Below (W1).heap.size (W1) W19 := by rw [← hW20]; exact below_drewN _ _
  have X22 := Lib.hid (X4.out.later hb21)
  have X23 := Lib.hid (X5.out.later hb21)
  have X24 := Lib.hid (X6.out.later hb21)
  have C25 := Lib.hid (C7.out.later hb21)
  have B26 := Lib.hid (B3.out.trans (hb21.mono B3.out.size))
  have HBQ := Lib.hid hb21
  rw [hW20]
  clear hb21 hW20
  clear k0 k1
  clear q9 q10 q11 q12 q13 q14 q15 q16 q17 fz18
  have q27 : W19.cell? ⟨w.heap.size, 0, none⟩ = some (.int .i64 a) := X22.out.cell 0
  have q28 : W19.cell? ⟨w.heap.size, 1, none⟩ = some (.int .i64 b) := X22.out.cell 1
  have q29 : W19.cell? ⟨w.heap.size, 2, none⟩ = some (.int .i64 t) := X22.out.cell 2
  have q30 : W19.cell? ⟨w.heap.size + 1, 0, none⟩ = some (.int .i64 mo) := X23.out.cell 0
  have q31 : W19.cell? ⟨w.heap.size + 1, 1, none⟩ = some (.int .i64 ms) := X23.out.cell 1
  have q32 : W19.cell? ⟨w.heap.size + 1, 2, none⟩ = some (.bool mc) := X23.out.cell 2
  have q33 : W19.cell? ⟨w.heap.size + 1 + 1, 0, none⟩ = some (.int .i64 0) := X24.out.cell 0
  have q34 : W19.cell? ⟨w.heap.size + 1 + 1, 1, none⟩ = some (.int .i64 0) := X24.out.cell 1
  have q35 : W19.cell? ⟨w.heap.size + 1 + 1, 2, none⟩ = some (.int .i64 0) := X24.out.cell 2
  have fz36 : ∀ o, W19.frozen? ⟨w.heap.size + 1 + 1, o, none⟩ = false := fun o => X24.out.free o
  go_wp2_with fail
  (try simp only [Exit.inBlock, Exit.then])
  refine endS2 (t := 6) (u := 7) (x := .bool true) (v := .tuple #[stV st0, .bool true]) ?_ ?_ ?_ (((X24.out.put 0 (.int .i64 0)).put 1 (.int .i64 0)).put 2 (.int .i64 0)) (((B26.out.setCell (by simp; omega) _).setCell (by simp; omega) _).setCell (by simp; omega) _) ?_ <;> rfl

set_option maxRecDepth 100000 in
set_option maxHeartbeats 8000000 in
theorem next_in (p : Pr) (a b t mo ms : Int) (mc : Bool) (g : Nat) (w : World) (h : IsChart w g p) (h0 : ckE p = 0) (hs : hasB p ⟨a, b, t⟩ = true) (hm : mvB ⟨mo, ms, mc⟩ = true) (ho : a + mo ≠ p.bed.rings) : Calls Tryz.prog 123 #[.pointer (some ⟨g, 0, none⟩), .agg #[.int .i64 a, .int .i64 b, .int .i64 t], .agg #[.int .i64 mo, .int .i64 ms, .bool mc]] w fun e w' => e = .returned (.tuple #[stV (nextS p ⟨a, b, t⟩ ⟨mo, ms, mc⟩), .bool false]) ∧ Below w.heap.size w w' := by
  obtain ⟨hR, hS, -⟩ := ckE_bd h0
  obtain ⟨c1, c2, c3⟩ := hasB_parts.1 hs
  obtain ⟨c4, c5⟩ := mvB_parts.1 hm
  dsimp only at c1 c2 c3
  have HCH0 := Lib.hid h
  have HP := Lib.hid h0
  have HGL := Lib.hid h.rings.2.2
  have x1 : IntKind.i64.wrap (a + mo) = a + mo := wrap_id (by omega) (by omega)
  have HD := Lib.hid (show (-p.bed.sectors ≤ b + ms ∧ b + ms ≤ 200) ∧ -p.bed.sectors ≤ t + 1 ∧ t + 1 ≤ 200 by omega)
  have y2 : IntKind.i64.wrap (b + ms) = b + ms := wrap_id (by omega) (by omega)
  have y3 : IntKind.i64.wrap (t + 1) = t + 1 := wrap_id (by omega) (by omega)
  have HN0 : nextS p ⟨a, b, t⟩ ⟨mo, ms, mc⟩ = ⟨max 0 (a + mo), arnd (b + ms) p.bed.sectors, arnd (t + 1) p.bed.sectors⟩ := by
    unfold nextS outB
    dsimp only
    rw [if_neg (by simpa using ho)]
  have e1 : ((a + mo) == p.bed.rings) = false := by simpa using ho
  clear h h0 hs hm hR hS c1 c2 c3 c4 c5 ho
  obtain ⟨n1, hn1⟩ : ∃ n, a + mo = n := ⟨_, rfl⟩
  obtain ⟨x2, hx2⟩ : ∃ n, b + ms = n := ⟨_, rfl⟩
  obtain ⟨x3, hx3⟩ : ∃ n, t + 1 = n := ⟨_, rfl⟩
  rw [hx2, hx3] at HD
  have v1 : IntKind.i64.wrap (a + mo) = n1 := by rw [x1, hn1]
  have v2 : IntKind.i64.wrap (b + ms) = x2 := by rw [y2, hx2]
  have v3 : IntKind.i64.wrap (t + 1) = x3 := by rw [y3, hx3]
  rw [hn1] at HN0 e1
  rw [hx2, hx3] at HN0
  obtain ⟨r2, hr2⟩ : ∃ n, arnd x2 p.bed.sectors = n := ⟨_, rfl⟩
  obtain ⟨r3, hr3⟩ : ∃ n, arnd x3 p.bed.sectors = n := ⟨_, rfl⟩
  rw [hr2, hr3] at HN0
  have HR2 := Lib.hid hr2
  have HR3 := Lib.hid hr3
  have HN := Lib.hid HN0
  have e2 : decide (n1 = p.bed.rings) = false := by simpa using e1
  clear x1 y2 y3 hn1 hx2 hx3 hr2 hr3 HN0
  go_enter Tryz.func123, Tryz.ntmps123
  go_wp2_with fail
  obtain ⟨W37, hW38⟩ : ∃ Wzz, (((w.alloc (.cells #[.int .i64 a, .int .i64 b, .int .i64 t] 46)).alloc (.cells #[.int .i64 mo, .int .i64 ms, .bool mc] 50)).alloc (.cells #[.int .i64 0, .int .i64 0, .int .i64 0] 46)) = Wzz := ⟨_, rfl⟩
  have B39 := Lib.hid (show Below w.heap.size w W37 by rw [← hW38]; exact ((((Below.refl w.heap.size w).alloc (Nat.le_refl _) _).alloc (by first | (simp; done) | (simp; omega)) _).alloc (by first | (simp; done) | (simp; omega)) _))
  have X40 := Lib.hid (show Box W37 (w.heap.size) 46 #[.int .i64 a, .int .i64 b, .int .i64 t] by rw [← hW38]; exact Box.alloc (Box.alloc (Box.made w 46 #[.int .i64 a, .int .i64 b, .int .i64 t]) (.cells #[.int .i64 mo, .int .i64 ms, .bool mc] 50)) (.cells #[.int .i64 0, .int .i64 0, .int .i64 0] 46))
  have X41 := Lib.hid (show Box W37 (w.heap.size + 1) 50 #[.int .i64 mo, .int .i64 ms, .bool mc] by
    have hz := Box.alloc (Box.made (w.alloc (.cells #[.int .i64 a, .int .i64 b, .int .i64 t] 46)) 50 #[.int .i64 mo, .int .i64 ms, .bool mc]) (.cells #[.int .i64 0, .int .i64 0, .int .i64 0] 46)
    rw [World.size_alloc] at hz
    rw [← hW38]; exact hz)
  have X42 := Lib.hid (show Box W37 (w.heap.size + 1 + 1) 46 #[.int .i64 0, .int .i64 0, .int .i64 0] by
    have hz := Box.made ((w.alloc (.cells #[.int .i64 a, .int .i64 b, .int .i64 t] 46)).alloc (.cells #[.int .i64 mo, .int .i64 ms, .bool mc] 50)) 46 #[.int .i64 0, .int .i64 0, .int .i64 0]
    rw [World.size_alloc, World.size_alloc] at hz
    rw [← hW38]; exact hz)
  have C43 := Lib.hid (HCH0.out.later B39.out)
  have SZ44 := Lib.hid (show W37.heap.size = w.heap.size + 1 + 1 + 1 by rw [← hW38]; simp)
  rw [hW38]
  clear hW38
  have q45 : W37.cell? ⟨w.heap.size, 0, none⟩ = some (.int .i64 a) := X40.out.cell 0
  have q46 : W37.cell? ⟨w.heap.size, 1, none⟩ = some (.int .i64 b) := X40.out.cell 1
  have q47 : W37.cell? ⟨w.heap.size, 2, none⟩ = some (.int .i64 t) := X40.out.cell 2
  have q48 : W37.cell? ⟨w.heap.size + 1, 0, none⟩ = some (.int .i64 mo) := X41.out.cell 0
  have q49 : W37.cell? ⟨w.heap.size + 1, 1, none⟩ = some (.int .i64 ms) := X41.out.cell 1
  have q50 : W37.cell? ⟨w.heap.size + 1, 2, none⟩ = some (.bool mc) := X41.out.cell 2
  have q51 : W37.cell? ⟨w.heap.size + 1 + 1, 0, none⟩ = some (.int .i64 0) := X42.out.cell 0
  have q52 : W37.cell? ⟨w.heap.size + 1 + 1, 1, none⟩ = some (.int .i64 0) := X42.out.cell 1
  have q53 : W37.cell? ⟨w.heap.size + 1 + 1, 2, none⟩ = some (.int .i64 0) := X42.out.cell 2
  have fz54 : ∀ o, W37.frozen? ⟨w.heap.size + 1 + 1, o, none⟩ = false := fun o => X42.out.free o
  have k0 := C43.out.rings.1
  have k1 := C43.out.rings.2.1
  go_wp2_with fail
  go_quiet (fail)
  obtain ⟨W55, hW56⟩ : ∃ Wzz, (W37).drewN nq = Wzz := ⟨_, rfl⟩
  have hb57 : Below (W37).heap.size (W37) W55 := by rw [← hW56]; exact below_drewN _ _
  have X58 := Lib.hid (X40.out.later hb57)
  have X59 := Lib.hid (X41.out.later hb57)
  have X60 := Lib.hid (X42.out.later hb57)
  have C61 := Lib.hid (C43.out.later hb57)
  have B62 := Lib.hid (B39.out.trans (hb57.mono B39.out.size))
  have HBQ := Lib.hid hb57
  rw [hW56]
  clear hb57 hW56
  clear k0 k1
  clear q45 q46 q47 q48 q49 q50 q51 q52 q53 fz54
  have q63 : W55.cell? ⟨w.heap.size, 0, none⟩ = some (.int .i64 a) := X58.out.cell 0
  have q64 : W55.cell? ⟨w.heap.size, 1, none⟩ = some (.int .i64 b) := X58.out.cell 1
  have q65 : W55.cell? ⟨w.heap.size, 2, none⟩ = some (.int .i64 t) := X58.out.cell 2
  have q66 : W55.cell? ⟨w.heap.size + 1, 0, none⟩ = some (.int .i64 mo) := X59.out.cell 0
  have q67 : W55.cell? ⟨w.heap.size + 1, 1, none⟩ = some (.int .i64 ms) := X59.out.cell 1
  have q68 : W55.cell? ⟨w.heap.size + 1, 2, none⟩ = some (.bool mc) := X59.out.cell 2
  have q69 : W55.cell? ⟨w.heap.size + 1 + 1, 0, none⟩ = some (.int .i64 0) := X60.out.cell 0
  have q70 : W55.cell? ⟨w.heap.size + 1 + 1, 1, none⟩ = some (.int .i64 0) := X60.out.cell 1
  have q71 : W55.cell? ⟨w.heap.size + 1 + 1, 2, none⟩ = some (.int .i64 0) := X60.out.cell 2
  have fz72 : ∀ o, W55.frozen? ⟨w.heap.size + 1 + 1, o, none⟩ = false := fun o => X60.out.free o
  rcases Int.lt_or_le 0 n1 with hpos | hneg
  · have HX := Lib.hid (show max 0 n1 = n1 by omega)
    have d1 : decide (n1 < 0) = false := by simp; omega
    have d2 : decide (0 < n1) = true := by simp; omega
    have d3 : ¬ n1 < 0 := by omega
    have d4 : ¬ n1 ≤ 0 := by omega
    go_wp2_with fail
    have hdr89 : Below (W55).heap.size (W55) (W55).drew := (Below.refl _ _).drew
    have lt81 := X58.out.lt
    have lt82 := X58.out.lt
    have lt83 := X58.out.lt
    have lt84 := X59.out.lt
    have lt85 := X59.out.lt
    have lt86 := X59.out.lt
    have lt87 := C61.out.rings.2.2
    have lt88 := C61.out.rings.2.2
    have hcall90 : ∀ X Y : World, (fun Wz => Wz.cell? ⟨w.heap.size, 0, none⟩ = some (.int .i64 a) ∧ Wz.cell? ⟨w.heap.size, 1, none⟩ = some (.int .i64 b) ∧ Wz.cell? ⟨w.heap.size, 2, none⟩ = some (.int .i64 t) ∧ Wz.cell? ⟨w.heap.size + 1, 0, none⟩ = some (.int .i64 mo) ∧ Wz.cell? ⟨w.heap.size + 1, 1, none⟩ = some (.int .i64 ms) ∧ Wz.cell? ⟨w.heap.size + 1, 2, none⟩ = some (.bool mc) ∧ Wz.cell? ⟨g, 0, none⟩ = some (.int .i64 p.bed.rings) ∧ Wz.cell? ⟨g, 1, none⟩ = some (.int .i64 p.bed.sectors) ∧ (W55).heap.size ≤ Wz.heap.size) X → Below X.heap.size X Y → (fun Wz => Wz.cell? ⟨w.heap.size, 0, none⟩ = some (.int .i64 a) ∧ Wz.cell? ⟨w.heap.size, 1, none⟩ = some (.int .i64 b) ∧ Wz.cell? ⟨w.heap.size, 2, none⟩ = some (.int .i64 t) ∧ Wz.cell? ⟨w.heap.size + 1, 0, none⟩ = some (.int .i64 mo) ∧ Wz.cell? ⟨w.heap.size + 1, 1, none⟩ = some (.int .i64 ms) ∧ Wz.cell? ⟨w.heap.size + 1, 2, none⟩ = some (.bool mc) ∧ Wz.cell? ⟨g, 0, none⟩ = some (.int .i64 p.bed.rings) ∧ Wz.cell? ⟨g, 1, none⟩ = some (.int .i64 p.bed.sectors) ∧ (W55).heap.size ≤ Wz.heap.size) Y := by
      rintro X Y ⟨z73, z74, z75, z76, z77, z78, z79, z80, xs⟩ hb
      have hb2 := Below.mono (B' := (W55).heap.size) hb xs
      exact ⟨keepd z73 hb2 lt81, keepd z74 hb2 lt82, keepd z75 hb2 lt83, keepd z76 hb2 lt84, keepd z77 hb2 lt85, keepd z78 hb2 lt86, keepd z79 hb2 lt87, keepd z80 hb2 lt88, Nat.le_trans xs hb.size⟩
    have ne93 : w.heap.size ≠ w.heap.size + 1 + 1 := by first | (simp; done) | (simp; omega) | omega
    have ne96 : w.heap.size + 1 ≠ w.heap.size + 1 + 1 := by first | (simp; done) | (simp; omega) | omega
    have ne99 : g ≠ w.heap.size + 1 + 1 := by have := HGL.out; first | omega | (simp; omega)
    have hput92 : ∀ (X : World) (o : Nat) (v : Value), (fun Wz => Wz.cell? ⟨w.heap.size, 0, none⟩ = some (.int .i64 a) ∧ Wz.cell? ⟨w.heap.size, 1, none⟩ = some (.int .i64 b) ∧ Wz.cell? ⟨w.heap.size, 2, none⟩ = some (.int .i64 t) ∧ Wz.cell? ⟨w.heap.size + 1, 0, none⟩ = some (.int .i64 mo) ∧ Wz.cell? ⟨w.heap.size + 1, 1, none⟩ = some (.int .i64 ms) ∧ Wz.cell? ⟨w.heap.size + 1, 2, none⟩ = some (.bool mc) ∧ Wz.cell? ⟨g, 0, none⟩ = some (.int .i64 p.bed.rings) ∧ Wz.cell? ⟨g, 1, none⟩ = some (.int .i64 p.bed.sectors) ∧ (W55).heap.size ≤ Wz.heap.size) X → (fun Wz => Wz.cell? ⟨w.heap.size, 0, none⟩ = some (.int .i64 a) ∧ Wz.cell? ⟨w.heap.size, 1, none⟩ = some (.int .i64 b) ∧ Wz.cell? ⟨w.heap.size, 2, none⟩ = some (.int .i64 t) ∧ Wz.cell? ⟨w.heap.size + 1, 0, none⟩ = some (.int .i64 mo) ∧ Wz.cell? ⟨w.heap.size + 1, 1, none⟩ = some (.int .i64 ms) ∧ Wz.cell? ⟨w.heap.size + 1, 2, none⟩ = some (.bool mc) ∧ Wz.cell? ⟨g, 0, none⟩ = some (.int .i64 p.bed.rings) ∧ Wz.cell? ⟨g, 1, none⟩ = some (.int .i64 p.bed.sectors) ∧ (W55).heap.size ≤ Wz.heap.size) (X.setCell ⟨w.heap.size + 1 + 1, o, none⟩ v) := by
      rintro X o v ⟨z73, z74, z75, z76, z77, z78, z79, z80, xs⟩
      exact ⟨(World.cell?_setCell_other X _ _ v (fun e => ne93 (congrArg Addr.block e).symm)).trans z73, (World.cell?_setCell_other X _ _ v (fun e => ne93 (congrArg Addr.block e).symm)).trans z74, (World.cell?_setCell_other X _ _ v (fun e => ne93 (congrArg Addr.block e).symm)).trans z75, (World.cell?_setCell_other X _ _ v (fun e => ne96 (congrArg Addr.block e).symm)).trans z76, (World.cell?_setCell_other X _ _ v (fun e => ne96 (congrArg Addr.block e).symm)).trans z77, (World.cell?_setCell_other X _ _ v (fun e => ne96 (congrArg Addr.block e).symm)).trans z78, (World.cell?_setCell_other X _ _ v (fun e => ne99 (congrArg Addr.block e).symm)).trans z79, (World.cell?_setCell_other X _ _ v (fun e => ne99 (congrArg Addr.block e).symm)).trans z80, by rw [World.size_setCell]; exact xs⟩
    have hini91 : (fun Wz => Wz.cell? ⟨w.heap.size, 0, none⟩ = some (.int .i64 a) ∧ Wz.cell? ⟨w.heap.size, 1, none⟩ = some (.int .i64 b) ∧ Wz.cell? ⟨w.heap.size, 2, none⟩ = some (.int .i64 t) ∧ Wz.cell? ⟨w.heap.size + 1, 0, none⟩ = some (.int .i64 mo) ∧ Wz.cell? ⟨w.heap.size + 1, 1, none⟩ = some (.int .i64 ms) ∧ Wz.cell? ⟨w.heap.size + 1, 2, none⟩ = some (.bool mc) ∧ Wz.cell? ⟨g, 0, none⟩ = some (.int .i64 p.bed.rings) ∧ Wz.cell? ⟨g, 1, none⟩ = some (.int .i64 p.bed.sectors) ∧ (W55).heap.size ≤ Wz.heap.size) (W55).drew := ⟨keepd (X58.out.cell 0) hdr89 lt81, keepd (X58.out.cell 1) hdr89 lt82, keepd (X58.out.cell 2) hdr89 lt83, keepd (X59.out.cell 0) hdr89 lt84, keepd (X59.out.cell 1) hdr89 lt85, keepd (X59.out.cell 2) hdr89 lt86, keepd (C61.out.rings.1) hdr89 lt87, keepd (C61.out.rings.2.1) hdr89 lt88, Nat.le_refl _⟩
    have Hcall90 := Lib.hid hcall90
    have Hini91 := Lib.hid hini91
    have Hput92 := Lib.hid hput92
    clear hcall90 ne93 ne96 ne99 hput92 hini91 lt81 lt82 lt83 lt84 lt85 lt86 lt87 lt88
    clear q63 q64 q65 q66 q67 q68 q69 q70 q71 fz72
    refine wp_region_noPanic ?_
    refine wp_region_held_drew (S := (fun Wz => Wz.cell? ⟨w.heap.size, 0, none⟩ = some (.int .i64 a) ∧ Wz.cell? ⟨w.heap.size, 1, none⟩ = some (.int .i64 b) ∧ Wz.cell? ⟨w.heap.size, 2, none⟩ = some (.int .i64 t) ∧ Wz.cell? ⟨w.heap.size + 1, 0, none⟩ = some (.int .i64 mo) ∧ Wz.cell? ⟨w.heap.size + 1, 1, none⟩ = some (.int .i64 ms) ∧ Wz.cell? ⟨w.heap.size + 1, 2, none⟩ = some (.bool mc) ∧ Wz.cell? ⟨g, 0, none⟩ = some (.int .i64 p.bed.rings) ∧ Wz.cell? ⟨g, 1, none⟩ = some (.int .i64 p.bed.sectors) ∧ (W55).heap.size ≤ Wz.heap.size)) (by kernel_rfl) Hini91.out (fun hHeld => ?_)
    obtain ⟨W101, hW102⟩ : ∃ Wzz, (W55).drew = Wzz := ⟨_, rfl⟩
    rw [hW102] at hHeld hdr89 ⊢
    clear hW102
    have X103 := Lib.hid (X58.out.later hdr89)
    have X104 := Lib.hid (X59.out.later hdr89)
    have X105 := Lib.hid (X60.out.later hdr89)
    have C106 := Lib.hid (C61.out.later hdr89)
    have B107 := Lib.hid (B62.out.trans (hdr89.mono B62.out.size))
    clear hdr89
    refine wpAnyH_take (i := 0) (oi := { dst := some 19, op := Op.fieldAddr 46 (Operand.tmp 4) 0, type := 0, pos := "chart.go:125", after := #[], guard := none }) (v := ?vh108) rfl ?hsh108 ?hfh108 ?hrh108 ?hQh108 ?hyh108 (by assumption) ?resth108
    case hsh108 => kernel_rfl
    case hfh108 => kernel_rfl
    case hrh108 => kernel_rfl
    case hQh108 => exact fun _ _ _ h => h
    case hyh108 => (refine Or.inl ⟨by rfl, ?_⟩; intro w hSw; (try dsimp only at hSw); go_simp; try with_reducible rfl)
    try simp only [Act.put, List.setIfInBounds_toArray, List.set_cons_zero, List.set_cons_succ]
    refine wpAnyH_take (i := 1) (oi := { dst := some 20, op := Op.load 3 (Operand.tmp 19), type := 3, pos := "chart.go:125", after := #[{ on := 0, ground := Ground.data }], guard := none }) (v := ?vh109) rfl ?hsh109 ?hfh109 ?hrh109 ?hQh109 ?hyh109 (by assumption) ?resth109
    case hsh109 => kernel_rfl
    case hfh109 => kernel_rfl
    case hrh109 => kernel_rfl
    case hQh109 => exact fun _ _ _ h => h
    case hyh109 => (refine Or.inl ⟨by rfl, ?_⟩; intro w hSw; (try dsimp only at hSw); go_simp; try with_reducible rfl)
    try simp only [Act.put, List.setIfInBounds_toArray, List.set_cons_zero, List.set_cons_succ]
    refine wpAnyH_take (i := 2) (oi := { dst := some 21, op := Op.fieldAddr 50 (Operand.tmp 5) 0, type := 0, pos := "chart.go:125", after := #[], guard := none }) (v := ?vh110) rfl ?hsh110 ?hfh110 ?hrh110 ?hQh110 ?hyh110 (by assumption) ?resth110
    case hsh110 => kernel_rfl
    case hfh110 => kernel_rfl
    case hrh110 => kernel_rfl
    case hQh110 => exact fun _ _ _ h => h
    case hyh110 => (refine Or.inl ⟨by rfl, ?_⟩; intro w hSw; (try dsimp only at hSw); go_simp; try with_reducible rfl)
    try simp only [Act.put, List.setIfInBounds_toArray, List.set_cons_zero, List.set_cons_succ]
    refine wpAnyH_take (i := 3) (oi := { dst := some 22, op := Op.load 3 (Operand.tmp 21), type := 3, pos := "chart.go:125", after := #[{ on := 2, ground := Ground.data }], guard := none }) (v := ?vh111) rfl ?hsh111 ?hfh111 ?hrh111 ?hQh111 ?hyh111 (by assumption) ?resth111
    case hsh111 => kernel_rfl
    case hfh111 => kernel_rfl
    case hrh111 => kernel_rfl
    case hQh111 => exact fun _ _ _ h => h
    case hyh111 => (refine Or.inl ⟨by rfl, ?_⟩; intro w hSw; (try dsimp only at hSw); go_simp; try with_reducible rfl)
    try simp only [Act.put, List.setIfInBounds_toArray, List.set_cons_zero, List.set_cons_succ]
    refine wpAnyH_take (i := 4) (oi := { dst := some 23, op := Op.binOp BinOp.add 3 (Operand.tmp 20) (Operand.tmp 22) 3, type := 3, pos := "chart.go:125", after := #[{ on := 1, ground := Ground.data }, { on := 3, ground := Ground.data }], guard := none }) (v := ?vh112) rfl ?hsh112 ?hfh112 ?hrh112 ?hQh112 ?hyh112 (by assumption) ?resth112
    case hsh112 => kernel_rfl
    case hfh112 => kernel_rfl
    case hrh112 => kernel_rfl
    case hQh112 => exact fun _ _ _ h => h
    case hyh112 => (refine Or.inl ⟨by rfl, ?_⟩; intro w hSw; (try dsimp only at hSw); go_simp; try with_reducible rfl)
    try simp only [Act.put, List.setIfInBounds_toArray, List.set_cons_zero, List.set_cons_succ]
    refine wpAnyH_take (i := 5) (oi := { dst := some 24, op := Op.call { callee := Callee.builtin Builtin.max, args := #[Operand.const (Value.int IntKind.i64 0), Operand.tmp 23], argTypes := #[3, 3] }, type := 3, pos := "chart.go:125", after := #[{ on := 4, ground := Ground.data }], guard := none }) (v := ?vh113) rfl ?hsh113 ?hfh113 ?hrh113 ?hQh113 ?hyh113 (by assumption) ?resth113
    case hsh113 => kernel_rfl
    case hfh113 => kernel_rfl
    case hrh113 => kernel_rfl
    case hQh113 => exact fun _ _ _ h => h
    case hyh113 => (refine Or.inl ⟨by rfl, ?_⟩; intro w hSw; (try dsimp only at hSw); go_simp; try with_reducible rfl)
    try simp only [Act.put, List.setIfInBounds_toArray, List.set_cons_zero, List.set_cons_succ]
    refine wpAnyH_take (i := 6) (oi := { dst := some 25, op := Op.move (Operand.tmp 0), type := 118, pos := "chart.go:125", after := #[], guard := none }) (v := ?vh114) rfl ?hsh114 ?hfh114 ?hrh114 ?hQh114 ?hyh114 (by assumption) ?resth114
    case hsh114 => kernel_rfl
    case hfh114 => kernel_rfl
    case hrh114 => kernel_rfl
    case hQh114 => exact fun _ _ _ h => h
    case hyh114 => (refine Or.inl ⟨by rfl, ?_⟩; intro w hSw; (try dsimp only at hSw); go_simp; try with_reducible rfl)
    try simp only [Act.put, List.setIfInBounds_toArray, List.set_cons_zero, List.set_cons_succ]
    refine wpAnyH_take (i := 7) (oi := { dst := some 26, op := Op.fieldAddr 46 (Operand.tmp 4) 1, type := 0, pos := "chart.go:125", after := #[], guard := none }) (v := ?vh115) rfl ?hsh115 ?hfh115 ?hrh115 ?hQh115 ?hyh115 (by assumption) ?resth115
    case hsh115 => kernel_rfl
    case hfh115 => kernel_rfl
    case hrh115 => kernel_rfl
    case hQh115 => exact fun _ _ _ h => h
    case hyh115 => (refine Or.inl ⟨by rfl, ?_⟩; intro w hSw; (try dsimp only at hSw); go_simp; try with_reducible rfl)
    try simp only [Act.put, List.setIfInBounds_toArray, List.set_cons_zero, List.set_cons_succ]
    refine wpAnyH_take (i := 8) (oi := { dst := some 27, op := Op.load 3 (Operand.tmp 26), type := 3, pos := "chart.go:125", after := #[{ on := 7, ground := Ground.data }], guard := none }) (v := ?vh116) rfl ?hsh116 ?hfh116 ?hrh116 ?hQh116 ?hyh116 (by assumption) ?resth116
    case hsh116 => kernel_rfl
    case hfh116 => kernel_rfl
    case hrh116 => kernel_rfl
    case hQh116 => exact fun _ _ _ h => h
    case hyh116 => (refine Or.inl ⟨by rfl, ?_⟩; intro w hSw; (try dsimp only at hSw); go_simp; try with_reducible rfl)
    try simp only [Act.put, List.setIfInBounds_toArray, List.set_cons_zero, List.set_cons_succ]
    refine wpAnyH_take (i := 9) (oi := { dst := some 28, op := Op.fieldAddr 50 (Operand.tmp 5) 1, type := 0, pos := "chart.go:125", after := #[], guard := none }) (v := ?vh117) rfl ?hsh117 ?hfh117 ?hrh117 ?hQh117 ?hyh117 (by assumption) ?resth117
    case hsh117 => kernel_rfl
    case hfh117 => kernel_rfl
    case hrh117 => kernel_rfl
    case hQh117 => exact fun _ _ _ h => h
    case hyh117 => (refine Or.inl ⟨by rfl, ?_⟩; intro w hSw; (try dsimp only at hSw); go_simp; try with_reducible rfl)
    try simp only [Act.put, List.setIfInBounds_toArray, List.set_cons_zero, List.set_cons_succ]
    refine wpAnyH_take (i := 10) (oi := { dst := some 29, op := Op.load 3 (Operand.tmp 28), type := 3, pos := "chart.go:125", after := #[{ on := 9, ground := Ground.data }], guard := none }) (v := ?vh118) rfl ?hsh118 ?hfh118 ?hrh118 ?hQh118 ?hyh118 (by assumption) ?resth118
    case hsh118 => kernel_rfl
    case hfh118 => kernel_rfl
    case hrh118 => kernel_rfl
    case hQh118 => exact fun _ _ _ h => h
    case hyh118 => (refine Or.inl ⟨by rfl, ?_⟩; intro w hSw; (try dsimp only at hSw); go_simp; try with_reducible rfl)
    try simp only [Act.put, List.setIfInBounds_toArray, List.set_cons_zero, List.set_cons_succ]
    refine wpAnyH_take (i := 11) (oi := { dst := some 30, op := Op.binOp BinOp.add 3 (Operand.tmp 27) (Operand.tmp 29) 3, type := 3, pos := "chart.go:125", after := #[{ on := 8, ground := Ground.data }, { on := 10, ground := Ground.data }], guard := none }) (v := ?vh119) rfl ?hsh119 ?hfh119 ?hrh119 ?hQh119 ?hyh119 (by assumption) ?resth119
    case hsh119 => kernel_rfl
    case hfh119 => kernel_rfl
    case hrh119 => kernel_rfl
    case hQh119 => exact fun _ _ _ h => h
    case hyh119 => (refine Or.inl ⟨by rfl, ?_⟩; intro w hSw; (try dsimp only at hSw); go_simp; try with_reducible rfl)
    try simp only [Act.put, List.setIfInBounds_toArray, List.set_cons_zero, List.set_cons_succ]
    refine wpAnyH_take (i := 13) (oi := { dst := some 32, op := Op.move (Operand.tmp 0), type := 118, pos := "chart.go:125", after := #[], guard := none }) (v := ?vh120) rfl ?hsh120 ?hfh120 ?hrh120 ?hQh120 ?hyh120 (by assumption) ?resth120
    case hsh120 => kernel_rfl
    case hfh120 => kernel_rfl
    case hrh120 => kernel_rfl
    case hQh120 => exact fun _ _ _ h => h
    case hyh120 => (refine Or.inl ⟨by rfl, ?_⟩; intro w hSw; (try dsimp only at hSw); go_simp; try with_reducible rfl)
    try simp only [Act.put, List.setIfInBounds_toArray, List.set_cons_zero, List.set_cons_succ]
    refine wpAnyH_take (i := 14) (oi := { dst := some 33, op := Op.fieldAddr 46 (Operand.tmp 4) 2, type := 0, pos := "chart.go:125", after := #[], guard := none }) (v := ?vh121) rfl ?hsh121 ?hfh121 ?hrh121 ?hQh121 ?hyh121 (by assumption) ?resth121
    case hsh121 => kernel_rfl
    case hfh121 => kernel_rfl
    case hrh121 => kernel_rfl
    case hQh121 => exact fun _ _ _ h => h
    case hyh121 => (refine Or.inl ⟨by rfl, ?_⟩; intro w hSw; (try dsimp only at hSw); go_simp; try with_reducible rfl)
    try simp only [Act.put, List.setIfInBounds_toArray, List.set_cons_zero, List.set_cons_succ]
    refine wpAnyH_take (i := 15) (oi := { dst := some 34, op := Op.load 3 (Operand.tmp 33), type := 3, pos := "chart.go:125", after := #[{ on := 14, ground := Ground.data }], guard := none }) (v := ?vh122) rfl ?hsh122 ?hfh122 ?hrh122 ?hQh122 ?hyh122 (by assumption) ?resth122
    case hsh122 => kernel_rfl
    case hfh122 => kernel_rfl
    case hrh122 => kernel_rfl
    case hQh122 => exact fun _ _ _ h => h
    case hyh122 => (refine Or.inl ⟨by rfl, ?_⟩; intro w hSw; (try dsimp only at hSw); go_simp; try with_reducible rfl)
    try simp only [Act.put, List.setIfInBounds_toArray, List.set_cons_zero, List.set_cons_succ]
    refine wpAnyH_take (i := 16) (oi := { dst := some 35, op := Op.binOp BinOp.add 3 (Operand.tmp 34) (Operand.const (Value.int IntKind.i64 1)) 3, type := 3, pos := "chart.go:125", after := #[{ on := 15, ground := Ground.data }], guard := none }) (v := ?vh123) rfl ?hsh123 ?hfh123 ?hrh123 ?hQh123 ?hyh123 (by assumption) ?resth123
    case hsh123 => kernel_rfl
    case hfh123 => kernel_rfl
    case hrh123 => kernel_rfl
    case hQh123 => exact fun _ _ _ h => h
    case hyh123 => (refine Or.inl ⟨by rfl, ?_⟩; intro w hSw; (try dsimp only at hSw); go_simp; try with_reducible rfl)
    try simp only [Act.put, List.setIfInBounds_toArray, List.set_cons_zero, List.set_cons_succ]
    refine wpAnyH_ready (rs := [12]) (by kernel_rfl) (by simp) ?_
    refine AllReadyH.cons (o := _) (by rfl) (fun K hK => ?_) AllReadyH.nil
    go_simp
    go_at_call 126
    refine (round_ch p x2 g _ C106.out HP.out HD.out.1).mono ?_; rintro e v124 ⟨rfl, hb125⟩
    have X126 := Lib.hid (X103.out.later hb125)
    have X127 := Lib.hid (X104.out.later hb125)
    have X128 := Lib.hid (X105.out.later hb125)
    have C129 := Lib.hid (C106.out.later hb125)
    have B130 := Lib.hid (B107.out.trans (hb125.mono B107.out.size))
    clear X103 X104 X105 C106 B107
    rw [HR2.out]
    go_wp2_with fail
    refine hK.out _ _ (Hcall90.out _ _ hHeld (by assumption)) (fun hHeld131 => ?_)
    clear hK K hHeld
    clear hb125
    have hHeld := hHeld131
    clear hHeld131
    try simp only [Act.put, List.setIfInBounds_toArray, List.set_cons_zero, List.set_cons_succ]
    refine wpAnyH_ready (rs := [17]) (by kernel_rfl) (by simp) ?_
    refine AllReadyH.cons (o := _) (by rfl) (fun K hK => ?_) AllReadyH.nil
    go_simp
    go_at_call 126
    refine (round_ch p x3 g _ C129.out HP.out HD.out.2).mono ?_; rintro e v132 ⟨rfl, hb133⟩
    have X134 := Lib.hid (X126.out.later hb133)
    have X135 := Lib.hid (X127.out.later hb133)
    have X136 := Lib.hid (X128.out.later hb133)
    have C137 := Lib.hid (C129.out.later hb133)
    have B138 := Lib.hid (B130.out.trans (hb133.mono B130.out.size))
    clear X126 X127 X128 C129 B130
    rw [HR3.out]
    go_wp2_with fail
    refine hK.out _ _ (Hcall90.out _ _ hHeld (by assumption)) (fun hHeld139 => ?_)
    clear hK K hHeld
    clear hb133
    have hHeld := hHeld139
    clear hHeld139
    try simp only [Act.put, List.setIfInBounds_toArray, List.set_cons_zero, List.set_cons_succ]
    refine wpAnyH_take (i := 18) (oi := { dst := some 37, op := Op.build 46 #[(0, Operand.tmp 24), (1, Operand.tmp 31), (2, Operand.tmp 36)], type := 46, pos := "chart.go:125", after := #[{ on := 5, ground := Ground.data }, { on := 12, ground := Ground.data }, { on := 17, ground := Ground.data }], guard := none }) (v := ?vh140) rfl ?hsh140 ?hfh140 ?hrh140 ?hQh140 ?hyh140 (by assumption) ?resth140
    case hsh140 => kernel_rfl
    case hfh140 => kernel_rfl
    case hrh140 => kernel_rfl
    case hQh140 => exact fun _ _ _ h => h
    case hyh140 => (refine Or.inl ⟨by rfl, ?_⟩; intro w hSw; (try dsimp only at hSw); go_simp; try with_reducible rfl)
    try simp only [Act.put, List.setIfInBounds_toArray, List.set_cons_zero, List.set_cons_succ]
    refine wpAnyH_ready (rs := [19]) (by kernel_rfl) (by simp) ?_
    refine AllReadyH.cons (o := _) (by rfl) (fun K hK => ?_) AllReadyH.nil
    have q141 : v132.cell? ⟨w.heap.size + 1 + 1, 0, none⟩ = some (.int .i64 0) := X136.out.cell 0
    have q142 : v132.cell? ⟨w.heap.size + 1 + 1, 1, none⟩ = some (.int .i64 0) := X136.out.cell 1
    have q143 : v132.cell? ⟨w.heap.size + 1 + 1, 2, none⟩ = some (.int .i64 0) := X136.out.cell 2
    have q144 : ∀ o, v132.frozen? ⟨w.heap.size + 1 + 1, o, none⟩ = false := fun o => X136.out.free o
    go_simp
    clear q141 q142 q143 q144
    have X145 := Lib.hid (show Box (((v132.setCell ⟨w.heap.size + 1 + 1, 0, none⟩ (.int .i64 n1)).setCell ⟨w.heap.size + 1 + 1, 1, none⟩ (.int .i64 r2)).setCell ⟨w.heap.size + 1 + 1, 2, none⟩ (.int .i64 r3)) (w.heap.size) 46 #[.int .i64 a, .int .i64 b, .int .i64 t] from ((((((X134.out).far (p := ⟨w.heap.size + 1 + 1, 0, none⟩) (by first | (simp; done) | (simp; omega) | omega) (.int .i64 n1))).far (p := ⟨w.heap.size + 1 + 1, 1, none⟩) (by first | (simp; done) | (simp; omega) | omega) (.int .i64 r2))).far (p := ⟨w.heap.size + 1 + 1, 2, none⟩) (by first | (simp; done) | (simp; omega) | omega) (.int .i64 r3)))
    have X146 := Lib.hid (show Box (((v132.setCell ⟨w.heap.size + 1 + 1, 0, none⟩ (.int .i64 n1)).setCell ⟨w.heap.size + 1 + 1, 1, none⟩ (.int .i64 r2)).setCell ⟨w.heap.size + 1 + 1, 2, none⟩ (.int .i64 r3)) (w.heap.size + 1) 50 #[.int .i64 mo, .int .i64 ms, .bool mc] from ((((((X135.out).far (p := ⟨w.heap.size + 1 + 1, 0, none⟩) (by first | (simp; done) | (simp; omega) | omega) (.int .i64 n1))).far (p := ⟨w.heap.size + 1 + 1, 1, none⟩) (by first | (simp; done) | (simp; omega) | omega) (.int .i64 r2))).far (p := ⟨w.heap.size + 1 + 1, 2, none⟩) (by first | (simp; done) | (simp; omega) | omega) (.int .i64 r3)))
    have X147 := Lib.hid (show Box (((v132.setCell ⟨w.heap.size + 1 + 1, 0, none⟩ (.int .i64 n1)).setCell ⟨w.heap.size + 1 + 1, 1, none⟩ (.int .i64 r2)).setCell ⟨w.heap.size + 1 + 1, 2, none⟩ (.int .i64 r3)) (w.heap.size + 1 + 1) 46 #[.int .i64 n1, .int .i64 r2, .int .i64 r3] from ((((((X136.out).put 0 (.int .i64 n1))).put 1 (.int .i64 r2))).put 2 (.int .i64 r3)))
    have B148 := Lib.hid ((((((B138.out).setCell (p := ⟨w.heap.size + 1 + 1, 0, none⟩) (by first | (simp; done) | (simp; omega) | omega) (.int .i64 n1))).setCell (p := ⟨w.heap.size + 1 + 1, 1, none⟩) (by first | (simp; done) | (simp; omega) | omega) (.int .i64 r2))).setCell (p := ⟨w.heap.size + 1 + 1, 2, none⟩) (by first | (simp; done) | (simp; omega) | omega) (.int .i64 r3))
    refine hK.out _ _ (Hput92.out _ 2 (.int .i64 r3) (Hput92.out _ 1 (.int .i64 r2) (Hput92.out _ 0 (.int .i64 n1) hHeld))) (fun hHeld149 => ?_)
    clear hK K hHeld
    have hHeld := hHeld149
    clear hHeld149
    try simp only [Act.put, List.setIfInBounds_toArray, List.set_cons_zero, List.set_cons_succ]
    refine wpAnyH_take (i := 20) (oi := { dst := some 7, op := Op.assign (Operand.const (Value.bool false)), type := 4, pos := "chart.go:125", after := #[{ on := 19, ground := Ground.chain }, { on := 0, ground := Ground.phase }, { on := 1, ground := Ground.phase }, { on := 2, ground := Ground.phase }, { on := 3, ground := Ground.phase }, { on := 4, ground := Ground.phase }, { on := 5, ground := Ground.phase }, { on := 6, ground := Ground.phase }, { on := 7, ground := Ground.phase }, { on := 8, ground := Ground.phase }, { on := 9, ground := Ground.phase }, { on := 10, ground := Ground.phase }, { on := 11, ground := Ground.phase }, { on := 12, ground := Ground.phase }, { on := 13, ground := Ground.phase }, { on := 14, ground := Ground.phase }, { on := 15, ground := Ground.phase }, { on := 16, ground := Ground.phase }, { on := 17, ground := Ground.phase }, { on := 18, ground := Ground.phase }, { on := 19, ground := Ground.phase }], guard := none }) (v := ?vh150) rfl ?hsh150 ?hfh150 ?hrh150 ?hQh150 ?hyh150 (by assumption) ?resth150
    case hsh150 => kernel_rfl
    case hfh150 => kernel_rfl
    case hrh150 => kernel_rfl
    case hQh150 => exact fun _ _ _ h => h
    case hyh150 => (refine Or.inl ⟨by rfl, ?_⟩; intro w hSw; (try dsimp only at hSw); go_simp; try with_reducible rfl)
    try simp only [Act.put, List.setIfInBounds_toArray, List.set_cons_zero, List.set_cons_succ]
    refine wpAnyH_done (by kernel_rfl) ?_ _
    refine NoPanic.normal ?_
    clear hHeld Hcall90 Hini91 Hput92
    obtain ⟨W151, hW152⟩ : ∃ Wzz, (((v132.setCell ⟨w.heap.size + 1 + 1, 0, none⟩ (.int .i64 n1)).setCell ⟨w.heap.size + 1 + 1, 1, none⟩ (.int .i64 r2)).setCell ⟨w.heap.size + 1 + 1, 2, none⟩ (.int .i64 r3)) = Wzz := ⟨_, rfl⟩
    have x153 := X145.out
    rw [hW152] at x153
    have X153 := Lib.hid x153
    clear x153 X145
    have x154 := X146.out
    rw [hW152] at x154
    have X154 := Lib.hid x154
    clear x154 X146
    have x155 := X147.out
    rw [hW152] at x155
    have X155 := Lib.hid x155
    clear x155 X147
    have b156 := B148.out
    rw [hW152] at b156
    have B156 := Lib.hid b156
    clear b156 B148
    rw [hW152]
    clear hW152
    have q157 : W151.cell? ⟨w.heap.size, 0, none⟩ = some (.int .i64 a) := X153.out.cell 0
    have q158 : W151.cell? ⟨w.heap.size, 1, none⟩ = some (.int .i64 b) := X153.out.cell 1
    have q159 : W151.cell? ⟨w.heap.size, 2, none⟩ = some (.int .i64 t) := X153.out.cell 2
    have q160 : W151.cell? ⟨w.heap.size + 1, 0, none⟩ = some (.int .i64 mo) := X154.out.cell 0
    have q161 : W151.cell? ⟨w.heap.size + 1, 1, none⟩ = some (.int .i64 ms) := X154.out.cell 1
    have q162 : W151.cell? ⟨w.heap.size + 1, 2, none⟩ = some (.bool mc) := X154.out.cell 2
    have q163 : W151.cell? ⟨w.heap.size + 1 + 1, 0, none⟩ = some (.int .i64 n1) := X155.out.cell 0
    have q164 : W151.cell? ⟨w.heap.size + 1 + 1, 1, none⟩ = some (.int .i64 r2) := X155.out.cell 1
    have q165 : W151.cell? ⟨w.heap.size + 1 + 1, 2, none⟩ = some (.int .i64 r3) := X155.out.cell 2
    have fz166 : ∀ o, W151.frozen? ⟨w.heap.size + 1 + 1, o, none⟩ = false := fun o => X155.out.free o
    go_wp2_with fail
    (try simp only [Exit.inBlock, Exit.then])
    refine endS2 (t := 6) (u := 7) (x := .bool false) (v := .tuple #[stV (nextS p ⟨a, b, t⟩ ⟨mo, ms, mc⟩), .bool false]) ?_ ?_ ?_ X155.out B156.out ?_
    · rfl
    · rfl
    · rfl
    · rw [HN.out, HX.out]; rfl
  · have HX := Lib.hid (show max 0 n1 = 0 by omega)
    have d2 : decide (0 < n1) = false := by simp; omega
    have d4 : ¬ 0 < n1 := by omega
    go_wp2_with fail
    have hdr183 : Below (W55).heap.size (W55) (W55).drew := (Below.refl _ _).drew
    have lt175 := X58.out.lt
    have lt176 := X58.out.lt
    have lt177 := X58.out.lt
    have lt178 := X59.out.lt
    have lt179 := X59.out.lt
    have lt180 := X59.out.lt
    have lt181 := C61.out.rings.2.2
    have lt182 := C61.out.rings.2.2
    have hcall184 : ∀ X Y : World, (fun Wz => Wz.cell? ⟨w.heap.size, 0, none⟩ = some (.int .i64 a) ∧ Wz.cell? ⟨w.heap.size, 1, none⟩ = some (.int .i64 b) ∧ Wz.cell? ⟨w.heap.size, 2, none⟩ = some (.int .i64 t) ∧ Wz.cell? ⟨w.heap.size + 1, 0, none⟩ = some (.int .i64 mo) ∧ Wz.cell? ⟨w.heap.size + 1, 1, none⟩ = some (.int .i64 ms) ∧ Wz.cell? ⟨w.heap.size + 1, 2, none⟩ = some (.bool mc) ∧ Wz.cell? ⟨g, 0, none⟩ = some (.int .i64 p.bed.rings) ∧ Wz.cell? ⟨g, 1, none⟩ = some (.int .i64 p.bed.sectors) ∧ (W55).heap.size ≤ Wz.heap.size) X → Below X.heap.size X Y → (fun Wz => Wz.cell? ⟨w.heap.size, 0, none⟩ = some (.int .i64 a) ∧ Wz.cell? ⟨w.heap.size, 1, none⟩ = some (.int .i64 b) ∧ Wz.cell? ⟨w.heap.size, 2, none⟩ = some (.int .i64 t) ∧ Wz.cell? ⟨w.heap.size + 1, 0, none⟩ = some (.int .i64 mo) ∧ Wz.cell? ⟨w.heap.size + 1, 1, none⟩ = some (.int .i64 ms) ∧ Wz.cell? ⟨w.heap.size + 1, 2, none⟩ = some (.bool mc) ∧ Wz.cell? ⟨g, 0, none⟩ = some (.int .i64 p.bed.rings) ∧ Wz.cell? ⟨g, 1, none⟩ = some (.int .i64 p.bed.sectors) ∧ (W55).heap.size ≤ Wz.heap.size) Y := by
      rintro X Y ⟨z167, z168, z169, z170, z171, z172, z173, z174, xs⟩ hb
      have hb2 := Below.mono (B' := (W55).heap.size) hb xs
      exact ⟨keepd z167 hb2 lt175, keepd z168 hb2 lt176, keepd z169 hb2 lt177, keepd z170 hb2 lt178, keepd z171 hb2 lt179, keepd z172 hb2 lt180, keepd z173 hb2 lt181, keepd z174 hb2 lt182, Nat.le_trans xs hb.size⟩
    have ne187 : w.heap.size ≠ w.heap.size + 1 + 1 := by first | (simp; done) | (simp; omega) | omega
    have ne190 : w.heap.size + 1 ≠ w.heap.size + 1 + 1 := by first | (simp; done) | (simp; omega) | omega
    have ne193 : g ≠ w.heap.size + 1 + 1 := by have := HGL.out; first | omega | (simp; omega)
    have hput186 : ∀ (X : World) (o : Nat) (v : Value), (fun Wz => Wz.cell? ⟨w.heap.size, 0, none⟩ = some (.int .i64 a) ∧ Wz.cell? ⟨w.heap.size, 1, none⟩ = some (.int .i64 b) ∧ Wz.cell? ⟨w.heap.size, 2, none⟩ = some (.int .i64 t) ∧ Wz.cell? ⟨w.heap.size + 1, 0, none⟩ = some (.int .i64 mo) ∧ Wz.cell? ⟨w.heap.size + 1, 1, none⟩ = some (.int .i64 ms) ∧ Wz.cell? ⟨w.heap.size + 1, 2, none⟩ = some (.bool mc) ∧ Wz.cell? ⟨g, 0, none⟩ = some (.int .i64 p.bed.rings) ∧ Wz.cell? ⟨g, 1, none⟩ = some (.int .i64 p.bed.sectors) ∧ (W55).heap.size ≤ Wz.heap.size) X → (fun Wz => Wz.cell? ⟨w.heap.size, 0, none⟩ = some (.int .i64 a) ∧ Wz.cell? ⟨w.heap.size, 1, none⟩ = some (.int .i64 b) ∧ Wz.cell? ⟨w.heap.size, 2, none⟩ = some (.int .i64 t) ∧ Wz.cell? ⟨w.heap.size + 1, 0, none⟩ = some (.int .i64 mo) ∧ Wz.cell? ⟨w.heap.size + 1, 1, none⟩ = some (.int .i64 ms) ∧ Wz.cell? ⟨w.heap.size + 1, 2, none⟩ = some (.bool mc) ∧ Wz.cell? ⟨g, 0, none⟩ = some (.int .i64 p.bed.rings) ∧ Wz.cell? ⟨g, 1, none⟩ = some (.int .i64 p.bed.sectors) ∧ (W55).heap.size ≤ Wz.heap.size) (X.setCell ⟨w.heap.size + 1 + 1, o, none⟩ v) := by
      rintro X o v ⟨z167, z168, z169, z170, z171, z172, z173, z174, xs⟩
      exact ⟨(World.cell?_setCell_other X _ _ v (fun e => ne187 (congrArg Addr.block e).symm)).trans z167, (World.cell?_setCell_other X _ _ v (fun e => ne187 (congrArg Addr.block e).symm)).trans z168, (World.cell?_setCell_other X _ _ v (fun e => ne187 (congrArg Addr.block e).symm)).trans z169, (World.cell?_setCell_other X _ _ v (fun e => ne190 (congrArg Addr.block e).symm)).trans z170, (World.cell?_setCell_other X _ _ v (fun e => ne190 (congrArg Addr.block e).symm)).trans z171, (World.cell?_setCell_other X _ _ v (fun e => ne190 (congrArg Addr.block e).symm)).trans z172, (World.cell?_setCell_other X _ _ v (fun e => ne193 (congrArg Addr.block e).symm)).trans z173, (World.cell?_setCell_other X _ _ v (fun e => ne193 (congrArg Addr.block e).symm)).trans z174, by rw [World.size_setCell]; exact xs⟩
    have hini185 : (fun Wz => Wz.cell? ⟨w.heap.size, 0, none⟩ = some (.int .i64 a) ∧ Wz.cell? ⟨w.heap.size, 1, none⟩ = some (.int .i64 b) ∧ Wz.cell? ⟨w.heap.size, 2, none⟩ = some (.int .i64 t) ∧ Wz.cell? ⟨w.heap.size + 1, 0, none⟩ = some (.int .i64 mo) ∧ Wz.cell? ⟨w.heap.size + 1, 1, none⟩ = some (.int .i64 ms) ∧ Wz.cell? ⟨w.heap.size + 1, 2, none⟩ = some (.bool mc) ∧ Wz.cell? ⟨g, 0, none⟩ = some (.int .i64 p.bed.rings) ∧ Wz.cell? ⟨g, 1, none⟩ = some (.int .i64 p.bed.sectors) ∧ (W55).heap.size ≤ Wz.heap.size) (W55).drew := ⟨keepd (X58.out.cell 0) hdr183 lt175, keepd (X58.out.cell 1) hdr183 lt176, keepd (X58.out.cell 2) hdr183 lt177, keepd (X59.out.cell 0) hdr183 lt178, keepd (X59.out.cell 1) hdr183 lt179, keepd (X59.out.cell 2) hdr183 lt180, keepd (C61.out.rings.1) hdr183 lt181, keepd (C61.out.rings.2.1) hdr183 lt182, Nat.le_refl _⟩
    have Hcall184 := Lib.hid hcall184
    have Hini185 := Lib.hid hini185
    have Hput186 := Lib.hid hput186
    clear hcall184 ne187 ne190 ne193 hput186 hini185 lt175 lt176 lt177 lt178 lt179 lt180 lt181 lt182
    clear q63 q64 q65 q66 q67 q68 q69 q70 q71 fz72
    refine wp_region_noPanic ?_
    refine wp_region_held_drew (S := (fun Wz => Wz.cell? ⟨w.heap.size, 0, none⟩ = some (.int .i64 a) ∧ Wz.cell? ⟨w.heap.size, 1, none⟩ = some (.int .i64 b) ∧ Wz.cell? ⟨w.heap.size, 2, none⟩ = some (.int .i64 t) ∧ Wz.cell? ⟨w.heap.size + 1, 0, none⟩ = some (.int .i64 mo) ∧ Wz.cell? ⟨w.heap.size + 1, 1, none⟩ = some (.int .i64 ms) ∧ Wz.cell? ⟨w.heap.size + 1, 2, none⟩ = some (.bool mc) ∧ Wz.cell? ⟨g, 0, none⟩ = some (.int .i64 p.bed.rings) ∧ Wz.cell? ⟨g, 1, none⟩ = some (.int .i64 p.bed.sectors) ∧ (W55).heap.size ≤ Wz.heap.size)) (by kernel_rfl) Hini185.out (fun hHeld => ?_)
    obtain ⟨W195, hW196⟩ : ∃ Wzz, (W55).drew = Wzz := ⟨_, rfl⟩
    rw [hW196] at hHeld hdr183 ⊢
    clear hW196
    have X197 := Lib.hid (X58.out.later hdr183)
    have X198 := Lib.hid (X59.out.later hdr183)
    have X199 := Lib.hid (X60.out.later hdr183)
    have C200 := Lib.hid (C61.out.later hdr183)
    have B201 := Lib.hid (B62.out.trans (hdr183.mono B62.out.size))
    clear hdr183
    refine wpAnyH_take (i := 0) (oi := { dst := some 19, op := Op.fieldAddr 46 (Operand.tmp 4) 0, type := 0, pos := "chart.go:125", after := #[], guard := none }) (v := ?vh202) rfl ?hsh202 ?hfh202 ?hrh202 ?hQh202 ?hyh202 (by assumption) ?resth202
    case hsh202 => kernel_rfl
    case hfh202 => kernel_rfl
    case hrh202 => kernel_rfl
    case hQh202 => exact fun _ _ _ h => h
    case hyh202 => (refine Or.inl ⟨by rfl, ?_⟩; intro w hSw; (try dsimp only at hSw); go_simp; try with_reducible rfl)
    try simp only [Act.put, List.setIfInBounds_toArray, List.set_cons_zero, List.set_cons_succ]
    refine wpAnyH_take (i := 1) (oi := { dst := some 20, op := Op.load 3 (Operand.tmp 19), type := 3, pos := "chart.go:125", after := #[{ on := 0, ground := Ground.data }], guard := none }) (v := ?vh203) rfl ?hsh203 ?hfh203 ?hrh203 ?hQh203 ?hyh203 (by assumption) ?resth203
    case hsh203 => kernel_rfl
    case hfh203 => kernel_rfl
    case hrh203 => kernel_rfl
    case hQh203 => exact fun _ _ _ h => h
    case hyh203 => (refine Or.inl ⟨by rfl, ?_⟩; intro w hSw; (try dsimp only at hSw); go_simp; try with_reducible rfl)
    try simp only [Act.put, List.setIfInBounds_toArray, List.set_cons_zero, List.set_cons_succ]
    refine wpAnyH_take (i := 2) (oi := { dst := some 21, op := Op.fieldAddr 50 (Operand.tmp 5) 0, type := 0, pos := "chart.go:125", after := #[], guard := none }) (v := ?vh204) rfl ?hsh204 ?hfh204 ?hrh204 ?hQh204 ?hyh204 (by assumption) ?resth204
    case hsh204 => kernel_rfl
    case hfh204 => kernel_rfl
    case hrh204 => kernel_rfl
    case hQh204 => exact fun _ _ _ h => h
    case hyh204 => (refine Or.inl ⟨by rfl, ?_⟩; intro w hSw; (try dsimp only at hSw); go_simp; try with_reducible rfl)
    try simp only [Act.put, List.setIfInBounds_toArray, List.set_cons_zero, List.set_cons_succ]
    refine wpAnyH_take (i := 3) (oi := { dst := some 22, op := Op.load 3 (Operand.tmp 21), type := 3, pos := "chart.go:125", after := #[{ on := 2, ground := Ground.data }], guard := none }) (v := ?vh205) rfl ?hsh205 ?hfh205 ?hrh205 ?hQh205 ?hyh205 (by assumption) ?resth205
    case hsh205 => kernel_rfl
    case hfh205 => kernel_rfl
    case hrh205 => kernel_rfl
    case hQh205 => exact fun _ _ _ h => h
    case hyh205 => (refine Or.inl ⟨by rfl, ?_⟩; intro w hSw; (try dsimp only at hSw); go_simp; try with_reducible rfl)
    try simp only [Act.put, List.setIfInBounds_toArray, List.set_cons_zero, List.set_cons_succ]
    refine wpAnyH_take (i := 4) (oi := { dst := some 23, op := Op.binOp BinOp.add 3 (Operand.tmp 20) (Operand.tmp 22) 3, type := 3, pos := "chart.go:125", after := #[{ on := 1, ground := Ground.data }, { on := 3, ground := Ground.data }], guard := none }) (v := ?vh206) rfl ?hsh206 ?hfh206 ?hrh206 ?hQh206 ?hyh206 (by assumption) ?resth206
    case hsh206 => kernel_rfl
    case hfh206 => kernel_rfl
    case hrh206 => kernel_rfl
    case hQh206 => exact fun _ _ _ h => h
    case hyh206 => (refine Or.inl ⟨by rfl, ?_⟩; intro w hSw; (try dsimp only at hSw); go_simp; try with_reducible rfl)
    try simp only [Act.put, List.setIfInBounds_toArray, List.set_cons_zero, List.set_cons_succ]
    refine wpAnyH_take (i := 5) (oi := { dst := some 24, op := Op.call { callee := Callee.builtin Builtin.max, args := #[Operand.const (Value.int IntKind.i64 0), Operand.tmp 23], argTypes := #[3, 3] }, type := 3, pos := "chart.go:125", after := #[{ on := 4, ground := Ground.data }], guard := none }) (v := ?vh207) rfl ?hsh207 ?hfh207 ?hrh207 ?hQh207 ?hyh207 (by assumption) ?resth207
    case hsh207 => kernel_rfl
    case hfh207 => kernel_rfl
    case hrh207 => kernel_rfl
    case hQh207 => exact fun _ _ _ h => h
    case hyh207 => (refine Or.inl ⟨by rfl, ?_⟩; intro w hSw; (try dsimp only at hSw); go_simp; try with_reducible rfl)
    try simp only [Act.put, List.setIfInBounds_toArray, List.set_cons_zero, List.set_cons_succ]
    refine wpAnyH_take (i := 6) (oi := { dst := some 25, op := Op.move (Operand.tmp 0), type := 118, pos := "chart.go:125", after := #[], guard := none }) (v := ?vh208) rfl ?hsh208 ?hfh208 ?hrh208 ?hQh208 ?hyh208 (by assumption) ?resth208
    case hsh208 => kernel_rfl
    case hfh208 => kernel_rfl
    case hrh208 => kernel_rfl
    case hQh208 => exact fun _ _ _ h => h
    case hyh208 => (refine Or.inl ⟨by rfl, ?_⟩; intro w hSw; (try dsimp only at hSw); go_simp; try with_reducible rfl)
    try simp only [Act.put, List.setIfInBounds_toArray, List.set_cons_zero, List.set_cons_succ]
    refine wpAnyH_take (i := 7) (oi := { dst := some 26, op := Op.fieldAddr 46 (Operand.tmp 4) 1, type := 0, pos := "chart.go:125", after := #[], guard := none }) (v := ?vh209) rfl ?hsh209 ?hfh209 ?hrh209 ?hQh209 ?hyh209 (by assumption) ?resth209
    case hsh209 => kernel_rfl
    case hfh209 => kernel_rfl
    case hrh209 => kernel_rfl
    case hQh209 => exact fun _ _ _ h => h
    case hyh209 => (refine Or.inl ⟨by rfl, ?_⟩; intro w hSw; (try dsimp only at hSw); go_simp; try with_reducible rfl)
    try simp only [Act.put, List.setIfInBounds_toArray, List.set_cons_zero, List.set_cons_succ]
    refine wpAnyH_take (i := 8) (oi := { dst := some 27, op := Op.load 3 (Operand.tmp 26), type := 3, pos := "chart.go:125", after := #[{ on := 7, ground := Ground.data }], guard := none }) (v := ?vh210) rfl ?hsh210 ?hfh210 ?hrh210 ?hQh210 ?hyh210 (by assumption) ?resth210
    case hsh210 => kernel_rfl
    case hfh210 => kernel_rfl
    case hrh210 => kernel_rfl
    case hQh210 => exact fun _ _ _ h => h
    case hyh210 => (refine Or.inl ⟨by rfl, ?_⟩; intro w hSw; (try dsimp only at hSw); go_simp; try with_reducible rfl)
    try simp only [Act.put, List.setIfInBounds_toArray, List.set_cons_zero, List.set_cons_succ]
    refine wpAnyH_take (i := 9) (oi := { dst := some 28, op := Op.fieldAddr 50 (Operand.tmp 5) 1, type := 0, pos := "chart.go:125", after := #[], guard := none }) (v := ?vh211) rfl ?hsh211 ?hfh211 ?hrh211 ?hQh211 ?hyh211 (by assumption) ?resth211
    case hsh211 => kernel_rfl
    case hfh211 => kernel_rfl
    case hrh211 => kernel_rfl
    case hQh211 => exact fun _ _ _ h => h
    case hyh211 => (refine Or.inl ⟨by rfl, ?_⟩; intro w hSw; (try dsimp only at hSw); go_simp; try with_reducible rfl)
    try simp only [Act.put, List.setIfInBounds_toArray, List.set_cons_zero, List.set_cons_succ]
    refine wpAnyH_take (i := 10) (oi := { dst := some 29, op := Op.load 3 (Operand.tmp 28), type := 3, pos := "chart.go:125", after := #[{ on := 9, ground := Ground.data }], guard := none }) (v := ?vh212) rfl ?hsh212 ?hfh212 ?hrh212 ?hQh212 ?hyh212 (by assumption) ?resth212
    case hsh212 => kernel_rfl
    case hfh212 => kernel_rfl
    case hrh212 => kernel_rfl
    case hQh212 => exact fun _ _ _ h => h
    case hyh212 => (refine Or.inl ⟨by rfl, ?_⟩; intro w hSw; (try dsimp only at hSw); go_simp; try with_reducible rfl)
    try simp only [Act.put, List.setIfInBounds_toArray, List.set_cons_zero, List.set_cons_succ]
    refine wpAnyH_take (i := 11) (oi := { dst := some 30, op := Op.binOp BinOp.add 3 (Operand.tmp 27) (Operand.tmp 29) 3, type := 3, pos := "chart.go:125", after := #[{ on := 8, ground := Ground.data }, { on := 10, ground := Ground.data }], guard := none }) (v := ?vh213) rfl ?hsh213 ?hfh213 ?hrh213 ?hQh213 ?hyh213 (by assumption) ?resth213
    case hsh213 => kernel_rfl
    case hfh213 => kernel_rfl
    case hrh213 => kernel_rfl
    case hQh213 => exact fun _ _ _ h => h
    case hyh213 => (refine Or.inl ⟨by rfl, ?_⟩; intro w hSw; (try dsimp only at hSw); go_simp; try with_reducible rfl)
    try simp only [Act.put, List.setIfInBounds_toArray, List.set_cons_zero, List.set_cons_succ]
    refine wpAnyH_take (i := 13) (oi := { dst := some 32, op := Op.move (Operand.tmp 0), type := 118, pos := "chart.go:125", after := #[], guard := none }) (v := ?vh214) rfl ?hsh214 ?hfh214 ?hrh214 ?hQh214 ?hyh214 (by assumption) ?resth214
    case hsh214 => kernel_rfl
    case hfh214 => kernel_rfl
    case hrh214 => kernel_rfl
    case hQh214 => exact fun _ _ _ h => h
    case hyh214 => (refine Or.inl ⟨by rfl, ?_⟩; intro w hSw; (try dsimp only at hSw); go_simp; try with_reducible rfl)
    try simp only [Act.put, List.setIfInBounds_toArray, List.set_cons_zero, List.set_cons_succ]
    refine wpAnyH_take (i := 14) (oi := { dst := some 33, op := Op.fieldAddr 46 (Operand.tmp 4) 2, type := 0, pos := "chart.go:125", after := #[], guard := none }) (v := ?vh215) rfl ?hsh215 ?hfh215 ?hrh215 ?hQh215 ?hyh215 (by assumption) ?resth215
    case hsh215 => kernel_rfl
    case hfh215 => kernel_rfl
    case hrh215 => kernel_rfl
    case hQh215 => exact fun _ _ _ h => h
    case hyh215 => (refine Or.inl ⟨by rfl, ?_⟩; intro w hSw; (try dsimp only at hSw); go_simp; try with_reducible rfl)
    try simp only [Act.put, List.setIfInBounds_toArray, List.set_cons_zero, List.set_cons_succ]
    refine wpAnyH_take (i := 15) (oi := { dst := some 34, op := Op.load 3 (Operand.tmp 33), type := 3, pos := "chart.go:125", after := #[{ on := 14, ground := Ground.data }], guard := none }) (v := ?vh216) rfl ?hsh216 ?hfh216 ?hrh216 ?hQh216 ?hyh216 (by assumption) ?resth216
    case hsh216 => kernel_rfl
    case hfh216 => kernel_rfl
    case hrh216 => kernel_rfl
    case hQh216 => exact fun _ _ _ h => h
    case hyh216 => (refine Or.inl ⟨by rfl, ?_⟩; intro w hSw; (try dsimp only at hSw); go_simp; try with_reducible rfl)
    try simp only [Act.put, List.setIfInBounds_toArray, List.set_cons_zero, List.set_cons_succ]
    refine wpAnyH_take (i := 16) (oi := { dst := some 35, op := Op.binOp BinOp.add 3 (Operand.tmp 34) (Operand.const (Value.int IntKind.i64 1)) 3, type := 3, pos := "chart.go:125", after := #[{ on := 15, ground := Ground.data }], guard := none }) (v := ?vh217) rfl ?hsh217 ?hfh217 ?hrh217 ?hQh217 ?hyh217 (by assumption) ?resth217
    case hsh217 => kernel_rfl
    case hfh217 => kernel_rfl
    case hrh217 => kernel_rfl
    case hQh217 => exact fun _ _ _ h => h
    case hyh217 => (refine Or.inl ⟨by rfl, ?_⟩; intro w hSw; (try dsimp only at hSw); go_simp; try with_reducible rfl)
    try simp only [Act.put, List.setIfInBounds_toArray, List.set_cons_zero, List.set_cons_succ]
    refine wpAnyH_ready (rs := [12]) (by kernel_rfl) (by simp) ?_
    refine AllReadyH.cons (o := _) (by rfl) (fun K hK => ?_) AllReadyH.nil
    go_simp
    go_at_call 126
    refine (round_ch p x2 g _ C200.out HP.out HD.out.1).mono ?_; rintro e v218 ⟨rfl, hb219⟩
    have X220 := Lib.hid (X197.out.later hb219)
    have X221 := Lib.hid (X198.out.later hb219)
    have X222 := Lib.hid (X199.out.later hb219)
    have C223 := Lib.hid (C200.out.later hb219)
    have B224 := Lib.hid (B201.out.trans (hb219.mono B201.out.size))
    clear X197 X198 X199 C200 B201
    rw [HR2.out]
    go_wp2_with fail
    refine hK.out _ _ (Hcall184.out _ _ hHeld (by assumption)) (fun hHeld225 => ?_)
    clear hK K hHeld
    clear hb219
    have hHeld := hHeld225
    clear hHeld225
    try simp only [Act.put, List.setIfInBounds_toArray, List.set_cons_zero, List.set_cons_succ]
    refine wpAnyH_ready (rs := [17]) (by kernel_rfl) (by simp) ?_
    refine AllReadyH.cons (o := _) (by rfl) (fun K hK => ?_) AllReadyH.nil
    go_simp
    go_at_call 126
    refine (round_ch p x3 g _ C223.out HP.out HD.out.2).mono ?_; rintro e v226 ⟨rfl, hb227⟩
    have X228 := Lib.hid (X220.out.later hb227)
    have X229 := Lib.hid (X221.out.later hb227)
    have X230 := Lib.hid (X222.out.later hb227)
    have C231 := Lib.hid (C223.out.later hb227)
    have B232 := Lib.hid (B224.out.trans (hb227.mono B224.out.size))
    clear X220 X221 X222 C223 B224
    rw [HR3.out]
    go_wp2_with fail
    refine hK.out _ _ (Hcall184.out _ _ hHeld (by assumption)) (fun hHeld233 => ?_)
    clear hK K hHeld
    clear hb227
    have hHeld := hHeld233
    clear hHeld233
    try simp only [Act.put, List.setIfInBounds_toArray, List.set_cons_zero, List.set_cons_succ]
    refine wpAnyH_take (i := 18) (oi := { dst := some 37, op := Op.build 46 #[(0, Operand.tmp 24), (1, Operand.tmp 31), (2, Operand.tmp 36)], type := 46, pos := "chart.go:125", after := #[{ on := 5, ground := Ground.data }, { on := 12, ground := Ground.data }, { on := 17, ground := Ground.data }], guard := none }) (v := ?vh234) rfl ?hsh234 ?hfh234 ?hrh234 ?hQh234 ?hyh234 (by assumption) ?resth234
    case hsh234 => kernel_rfl
    case hfh234 => kernel_rfl
    case hrh234 => kernel_rfl
    case hQh234 => exact fun _ _ _ h => h
    case hyh234 => (refine Or.inl ⟨by rfl, ?_⟩; intro w hSw; (try dsimp only at hSw); go_simp; try with_reducible rfl)
    try simp only [Act.put, List.setIfInBounds_toArray, List.set_cons_zero, List.set_cons_succ]
    refine wpAnyH_ready (rs := [19]) (by kernel_rfl) (by simp) ?_
    refine AllReadyH.cons (o := _) (by rfl) (fun K hK => ?_) AllReadyH.nil
    have q235 : v226.cell? ⟨w.heap.size + 1 + 1, 0, none⟩ = some (.int .i64 0) := X230.out.cell 0
    have q236 : v226.cell? ⟨w.heap.size + 1 + 1, 1, none⟩ = some (.int .i64 0) := X230.out.cell 1
    have q237 : v226.cell? ⟨w.heap.size + 1 + 1, 2, none⟩ = some (.int .i64 0) := X230.out.cell 2
    have q238 : ∀ o, v226.frozen? ⟨w.heap.size + 1 + 1, o, none⟩ = false := fun o => X230.out.free o
    go_simp
    clear q235 q236 q237 q238
    have X239 := Lib.hid (show Box (((v226.setCell ⟨w.heap.size + 1 + 1, 0, none⟩ (.int .i64 0)).setCell ⟨w.heap.size + 1 + 1, 1, none⟩ (.int .i64 r2)).setCell ⟨w.heap.size + 1 + 1, 2, none⟩ (.int .i64 r3)) (w.heap.size) 46 #[.int .i64 a, .int .i64 b, .int .i64 t] from ((((((X228.out).far (p := ⟨w.heap.size + 1 + 1, 0, none⟩) (by first | (simp; done) | (simp; omega) | omega) (.int .i64 0))).far (p := ⟨w.heap.size + 1 + 1, 1, none⟩) (by first | (simp; done) | (simp; omega) | omega) (.int .i64 r2))).far (p := ⟨w.heap.size + 1 + 1, 2, none⟩) (by first | (simp; done) | (simp; omega) | omega) (.int .i64 r3)))
    have X240 := Lib.hid (show Box (((v226.setCell ⟨w.heap.size + 1 + 1, 0, none⟩ (.int .i64 0)).setCell ⟨w.heap.size + 1 + 1, 1, none⟩ (.int .i64 r2)).setCell ⟨w.heap.size + 1 + 1, 2, none⟩ (.int .i64 r3)) (w.heap.size + 1) 50 #[.int .i64 mo, .int .i64 ms, .bool mc] from ((((((X229.out).far (p := ⟨w.heap.size + 1 + 1, 0, none⟩) (by first | (simp; done) | (simp; omega) | omega) (.int .i64 0))).far (p := ⟨w.heap.size + 1 + 1, 1, none⟩) (by first | (simp; done) | (simp; omega) | omega) (.int .i64 r2))).far (p := ⟨w.heap.size + 1 + 1, 2, none⟩) (by first | (simp; done) | (simp; omega) | omega) (.int .i64 r3)))
    have X241 := Lib.hid (show Box (((v226.setCell ⟨w.heap.size + 1 + 1, 0, none⟩ (.int .i64 0)).setCell ⟨w.heap.size + 1 + 1, 1, none⟩ (.int .i64 r2)).setCell ⟨w.heap.size + 1 + 1, 2, none⟩ (.int .i64 r3)) (w.heap.size + 1 + 1) 46 #[.int .i64 0, .int .i64 r2, .int .i64 r3] from ((((((X230.out).put 0 (.int .i64 0))).put 1 (.int .i64 r2))).put 2 (.int .i64 r3)))
    have B242 := Lib.hid ((((((B232.out).setCell (p := ⟨w.heap.size + 1 + 1, 0, none⟩) (by first | (simp; done) | (simp; omega) | omega) (.int .i64 0))).setCell (p := ⟨w.heap.size + 1 + 1, 1, none⟩) (by first | (simp; done) | (simp; omega) | omega) (.int .i64 r2))).setCell (p := ⟨w.heap.size + 1 + 1, 2, none⟩) (by first | (simp; done) | (simp; omega) | omega) (.int .i64 r3))
    refine hK.out _ _ (Hput186.out _ 2 (.int .i64 r3) (Hput186.out _ 1 (.int .i64 r2) (Hput186.out _ 0 (.int .i64 0) hHeld))) (fun hHeld243 => ?_)
    clear hK K hHeld
    have hHeld := hHeld243
    clear hHeld243
    try simp only [Act.put, List.setIfInBounds_toArray, List.set_cons_zero, List.set_cons_succ]
    refine wpAnyH_take (i := 20) (oi := { dst := some 7, op := Op.assign (Operand.const (Value.bool false)), type := 4, pos := "chart.go:125", after := #[{ on := 19, ground := Ground.chain }, { on := 0, ground := Ground.phase }, { on := 1, ground := Ground.phase }, { on := 2, ground := Ground.phase }, { on := 3, ground := Ground.phase }, { on := 4, ground := Ground.phase }, { on := 5, ground := Ground.phase }, { on := 6, ground := Ground.phase }, { on := 7, ground := Ground.phase }, { on := 8, ground := Ground.phase }, { on := 9, ground := Ground.phase }, { on := 10, ground := Ground.phase }, { on := 11, ground := Ground.phase }, { on := 12, ground := Ground.phase }, { on := 13, ground := Ground.phase }, { on := 14, ground := Ground.phase }, { on := 15, ground := Ground.phase }, { on := 16, ground := Ground.phase }, { on := 17, ground := Ground.phase }, { on := 18, ground := Ground.phase }, { on := 19, ground := Ground.phase }], guard := none }) (v := ?vh244) rfl ?hsh244 ?hfh244 ?hrh244 ?hQh244 ?hyh244 (by assumption) ?resth244
    case hsh244 => kernel_rfl
    case hfh244 => kernel_rfl
    case hrh244 => kernel_rfl
    case hQh244 => exact fun _ _ _ h => h
    case hyh244 => (refine Or.inl ⟨by rfl, ?_⟩; intro w hSw; (try dsimp only at hSw); go_simp; try with_reducible rfl)
    try simp only [Act.put, List.setIfInBounds_toArray, List.set_cons_zero, List.set_cons_succ]
    refine wpAnyH_done (by kernel_rfl) ?_ _
    refine NoPanic.normal ?_
    clear hHeld Hcall184 Hini185 Hput186
    obtain ⟨W245, hW246⟩ : ∃ Wzz, (((v226.setCell ⟨w.heap.size + 1 + 1, 0, none⟩ (.int .i64 0)).setCell ⟨w.heap.size + 1 + 1, 1, none⟩ (.int .i64 r2)).setCell ⟨w.heap.size + 1 + 1, 2, none⟩ (.int .i64 r3)) = Wzz := ⟨_, rfl⟩
    have x247 := X239.out
    rw [hW246] at x247
    have X247 := Lib.hid x247
    clear x247 X239
    have x248 := X240.out
    rw [hW246] at x248
    have X248 := Lib.hid x248
    clear x248 X240
    have x249 := X241.out
    rw [hW246] at x249
    have X249 := Lib.hid x249
    clear x249 X241
    have b250 := B242.out
    rw [hW246] at b250
    have B250 := Lib.hid b250
    clear b250 B242
    rw [hW246]
    clear hW246
    have q251 : W245.cell? ⟨w.heap.size, 0, none⟩ = some (.int .i64 a) := X247.out.cell 0
    have q252 : W245.cell? ⟨w.heap.size, 1, none⟩ = some (.int .i64 b) := X247.out.cell 1
    have q253 : W245.cell? ⟨w.heap.size, 2, none⟩ = some (.int .i64 t) := X247.out.cell 2
    have q254 : W245.cell? ⟨w.heap.size + 1, 0, none⟩ = some (.int .i64 mo) := X248.out.cell 0
    have q255 : W245.cell? ⟨w.heap.size + 1, 1, none⟩ = some (.int .i64 ms) := X248.out.cell 1
    have q256 : W245.cell? ⟨w.heap.size + 1, 2, none⟩ = some (.bool mc) := X248.out.cell 2
    have q257 : W245.cell? ⟨w.heap.size + 1 + 1, 0, none⟩ = some (.int .i64 0) := X249.out.cell 0
    have q258 : W245.cell? ⟨w.heap.size + 1 + 1, 1, none⟩ = some (.int .i64 r2) := X249.out.cell 1
    have q259 : W245.cell? ⟨w.heap.size + 1 + 1, 2, none⟩ = some (.int .i64 r3) := X249.out.cell 2
    have fz260 : ∀ o, W245.frozen? ⟨w.heap.size + 1 + 1, o, none⟩ = false := fun o => X249.out.free o
    go_wp2_with fail
    (try simp only [Exit.inBlock, Exit.then])
    refine endS2 (t := 6) (u := 7) (x := .bool false) (v := .tuple #[stV (nextS p ⟨a, b, t⟩ ⟨mo, ms, mc⟩), .bool false]) ?_ ?_ ?_ X249.out B250.out ?_
    · rfl
    · rfl
    · rfl
    · rw [HN.out, HX.out]; rfl

end Go.Proofs.YtikfiallhmhicaaGreat

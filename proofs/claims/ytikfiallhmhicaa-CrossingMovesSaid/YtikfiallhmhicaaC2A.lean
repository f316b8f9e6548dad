/- Layer 2: what the package answers: states of numbers, where moves lead. -/
import Derived.Test.YtikfiallhmhicaaC29
set_option linter.all false
namespace Go.Proofs.Ytikfiallhmhicaa
open Go.RowKit

set_option maxRecDepth 100000 in
set_option maxHeartbeats 8000000 in
theorem StateOf_bad (p : Pr) (i : Int) (v : Value) (w : World) (h : IsPair w w.heap.size v p) (h0 : ckE p ≠ 0) : Calls Try.prog 12 #[v, .int .i64 i] w fun e w' => e = .returned (.tuple #[.agg #[.int .i64 0, .int .i64 0, .int .i64 0], .int .i64 (ckE p)]) ∧ Below w.heap.size w w' := by
  obtain ⟨s, r, d, hpv, -, -, -⟩ := id h
  subst hpv
  have HP0 := Lib.hid h
  have HE := Lib.hid h0
  clear h h0
  unfold pairV at *
  have hne : (ckE p != 0) = true := by simpa using HE.out
  have hne2 : decide (ckE p = 0) = false := by simpa using HE.out
  go_enter Try.func12, Try.ntmps12
  go_wp2_with fail
  obtain ⟨W1, hW2⟩ : ∃ Wzz, ((w.alloc (.cells #[.int .i64 p.bed.eye, .int .i64 p.bed.rings, .int .i64 p.bed.sectors, s, .int .i64 p.run.eye, .int .i64 p.run.rings, .int .i64 p.run.sectors, r, d] 27)).alloc (.cells #[.int .i64 0, .int .i64 0, .int .i64 0] 29)) = Wzz := ⟨_, rfl⟩
  have B3 := Lib.hid (show Below w.heap.size w W1 by rw [← hW2]; exact (((Below.refl w.heap.size w).alloc (Nat.le_refl _) _).alloc (by first | (simp; done) | (simp; omega)) _))
  have X4 := Lib.hid (show Box W1 (w.heap.size) 27 #[.int .i64 p.bed.eye, .int .i64 p.bed.rings, .int .i64 p.bed.sectors, s, .int .i64 p.run.eye, .int .i64 p.run.rings, .int .i64 p.run.sectors, r, d] by rw [← hW2]; exact Box.alloc (Box.made w 27 #[.int .i64 p.bed.eye, .int .i64 p.bed.rings, .int .i64 p.bed.sectors, s, .int .i64 p.run.eye, .int .i64 p.run.rings, .int .i64 p.run.sectors, r, d]) (.cells #[.int .i64 0, .int .i64 0, .int .i64 0] 29))
  have X5 := Lib.hid (show Box W1 (w.heap.size + 1) 29 #[.int .i64 0, .int .i64 0, .int .i64 0] by
    have hz := Box.made (w.alloc (.cells #[.int .i64 p.bed.eye, .int .i64 p.bed.rings, .int .i64 p.bed.sectors, s, .int .i64 p.run.eye, .int .i64 p.run.rings, .int .i64 p.run.sectors, r, d] 27)) 29 #[.int .i64 0, .int .i64 0, .int .i64 0]
    rw [World.size_alloc] at hz
    rw [← hW2]; exact hz)
  have C6 := Lib.hid (HP0.out.later B3.out)
  have SZ7 := Lib.hid (show W1.heap.size = w.heap.size + 1 + 1 by rw [← hW2]; simp)
  rw [hW2]
  clear hW2
  have q8 : W1.cell? ⟨w.heap.size, 0, none⟩ = some (.int .i64 p.bed.eye) := X4.out.cell 0
  have q9 : W1.cell? ⟨w.heap.size, 1, none⟩ = some (.int .i64 p.bed.rings) := X4.out.cell 1
  have q10 : W1.cell? ⟨w.heap.size, 2, none⟩ = some (.int .i64 p.bed.sectors) := X4.out.cell 2
  have q11 : W1.cell? ⟨w.heap.size, 3, none⟩ = some (s) := X4.out.cell 3
  have q12 : W1.cell? ⟨w.heap.size, 4, none⟩ = some (.int .i64 p.run.eye) := X4.out.cell 4
  have q13 : W1.cell? ⟨w.heap.size, 5, none⟩ = some (.int .i64 p.run.rings) := X4.out.cell 5
  have q14 : W1.cell? ⟨w.heap.size, 6, none⟩ = some (.int .i64 p.run.sectors) := X4.out.cell 6
  have q15 : W1.cell? ⟨w.heap.size, 7, none⟩ = some (r) := X4.out.cell 7
  have q16 : W1.cell? ⟨w.heap.size, 8, none⟩ = some (d) := X4.out.cell 8
  have q17 : W1.cell? ⟨w.heap.size + 1, 0, none⟩ = some (.int .i64 0) := X5.out.cell 0
  have q18 : W1.cell? ⟨w.heap.size + 1, 1, none⟩ = some (.int .i64 0) := X5.out.cell 1
  have q19 : W1.cell? ⟨w.heap.size + 1, 2, none⟩ = some (.int .i64 0) := X5.out.cell 2
  have fz20 : ∀ o, W1.frozen? ⟨w.heap.size + 1, o, none⟩ = false := fun o => X5.out.free o
  go_wp2_with fail
  refine (chartOf_bad p _ _ C6.out HE.out).mono ?_; rintro e v21 ⟨rfl, hb22⟩
  have X23 := Lib.hid (X4.out.later hb22)
  have X24 := Lib.hid (X5.out.later hb22)
  have C25 := Lib.hid (C6.out.later hb22)
  have B26 := Lib.hid (B3.out.trans (hb22.mono B3.out.size))
  clear hb22
  clear q8 q9 q10 q11 q12 q13 q14 q15 q16 q17 q18 q19 fz20
  have q27 : v21.cell? ⟨w.heap.size, 0, none⟩ = some (.int .i64 p.bed.eye) := X23.out.cell 0
  have q28 : v21.cell? ⟨w.heap.size, 1, none⟩ = some (.int .i64 p.bed.rings) := X23.out.cell 1
  have q29 : v21.cell? ⟨w.heap.size, 2, none⟩ = some (.int .i64 p.bed.sectors) := X23.out.cell 2
  have q30 : v21.cell? ⟨w.heap.size, 3, none⟩ = some (s) := X23.out.cell 3
  have q31 : v21.cell? ⟨w.heap.size, 4, none⟩ = some (.int .i64 p.run.eye) := X23.out.cell 4
  have q32 : v21.cell? ⟨w.heap.size, 5, none⟩ = some (.int .i64 p.run.rings) := X23.out.cell 5
  have q33 : v21.cell? ⟨w.heap.size, 6, none⟩ = some (.int .i64 p.run.sectors) := X23.out.cell 6
  have q34 : v21.cell? ⟨w.heap.size, 7, none⟩ = some (r) := X23.out.cell 7
  have q35 : v21.cell? ⟨w.heap.size, 8, none⟩ = some (d) := X23.out.cell 8
  have q36 : v21.cell? ⟨w.heap.size + 1, 0, none⟩ = some (.int .i64 0) := X24.out.cell 0
  have q37 : v21.cell? ⟨w.heap.size + 1, 1, none⟩ = some (.int .i64 0) := X24.out.cell 1
  have q38 : v21.cell? ⟨w.heap.size + 1, 2, none⟩ = some (.int .i64 0) := X24.out.cell 2
  have fz39 : ∀ o, v21.frozen? ⟨w.heap.size + 1, o, none⟩ = false := fun o => X24.out.free o
  go_wp2_with fail
  (try simp only [Exit.inBlock, Exit.then])
  refine endS2 (t := 4) (u := 5) (x := .int .i64 (ckE p)) (v := .tuple #[.agg #[.int .i64 0, .int .i64 0, .int .i64 0], .int .i64 (ckE p)]) ?_ ?_ ?_ (((X24.out.put 0 (.int .i64 0)).put 1 (.int .i64 0)).put 2 (.int .i64 0)) (((B26.out.setCell (by first | (simp; done) | (simp; omega) | omega) _).setCell (by first | (simp; done) | (simp; omega) | omega) _).setCell (by first | (simp; done) | (simp; omega) | omega) _) ?_
  all_goals first | rfl | skip

set_option maxRecDepth 100000 in
set_option maxHeartbeats 8000000 in
theorem StateOf_none (p : Pr) (i : Int) (v : Value) (w : World) (h : IsPair w w.heap.size v p) (h0 : ckE p = 0) (hi : ¬ (0 ≤ i ∧ i < stN p)) : Calls Try.prog 12 #[v, .int .i64 i] w fun e w' => e = .returned (.tuple #[.agg #[.int .i64 0, .int .i64 0, .int .i64 0], .int .i64 1]) ∧ Below w.heap.size w w' := by
  obtain ⟨s, r, d, hpv, -, -, -⟩ := id h
  subst hpv
  have HP0 := Lib.hid h
  have HE := Lib.hid h0
  clear h h0
  unfold pairV at *
  have HI := Lib.hid hi
  clear hi
  go_enter Try.func12, Try.ntmps12
  go_wp2_with fail
  obtain ⟨W40, hW41⟩ : ∃ Wzz, ((w.alloc (.cells #[.int .i64 p.bed.eye, .int .i64 p.bed.rings, .int .i64 p.bed.sectors, s, .int .i64 p.run.eye, .int .i64 p.run.rings, .int .i64 p.run.sectors, r, d] 27)).alloc (.cells #[.int .i64 0, .int .i64 0, .int .i64 0] 29)) = Wzz := ⟨_, rfl⟩
  have B42 := Lib.hid (show Below w.heap.size w W40 by rw [← hW41]; exact (((Below.refl w.heap.size w).alloc (Nat.le_refl _) _).alloc (by first | (simp; done) | (simp; omega)) _))
  have X43 := Lib.hid (show Box W40 (w.heap.size) 27 #[.int .i64 p.bed.eye, .int .i64 p.bed.rings, .int .i64 p.bed.sectors, s, .int .i64 p.run.eye, .int .i64 p.run.rings, .int .i64 p.run.sectors, r, d] by rw [← hW41]; exact Box.alloc (Box.made w 27 #[.int .i64 p.bed.eye, .int .i64 p.bed.rings, .int .i64 p.bed.sectors, s, .int .i64 p.run.eye, .int .i64 p.run.rings, .int .i64 p.run.sectors, r, d]) (.cells #[.int .i64 0, .int .i64 0, .int .i64 0] 29))
  have X44 := Lib.hid (show Box W40 (w.heap.size + 1) 29 #[.int .i64 0, .int .i64 0, .int .i64 0] by
    have hz := Box.made (w.alloc (.cells #[.int .i64 p.bed.eye, .int .i64 p.bed.rings, .int .i64 p.bed.sectors, s, .int .i64 p.run.eye, .int .i64 p.run.rings, .int .i64 p.run.sectors, r, d] 27)) 29 #[.int .i64 0, .int .i64 0, .int .i64 0]
    rw [World.size_alloc] at hz
    rw [← hW41]; exact hz)
  have C45 := Lib.hid (HP0.out.later B42.out)
  have SZ46 := Lib.hid (show W40.heap.size = w.heap.size + 1 + 1 by rw [← hW41]; simp)
  rw [hW41]
  clear hW41
  have q47 : W40.cell? ⟨w.heap.size, 0, none⟩ = some (.int .i64 p.bed.eye) := X43.out.cell 0
  have q48 : W40.cell? ⟨w.heap.size, 1, none⟩ = some (.int .i64 p.bed.rings) := X43.out.cell 1
  have q49 : W40.cell? ⟨w.heap.size, 2, none⟩ = some (.int .i64 p.bed.sectors) := X43.out.cell 2
  have q50 : W40.cell? ⟨w.heap.size, 3, none⟩ = some (s) := X43.out.cell 3
  have q51 : W40.cell? ⟨w.heap.size, 4, none⟩ = some (.int .i64 p.run.eye) := X43.out.cell 4
  have q52 : W40.cell? ⟨w.heap.size, 5, none⟩ = some (.int .i64 p.run.rings) := X43.out.cell 5
  have q53 : W40.cell? ⟨w.heap.size, 6, none⟩ = some (.int .i64 p.run.sectors) := X43.out.cell 6
  have q54 : W40.cell? ⟨w.heap.size, 7, none⟩ = some (r) := X43.out.cell 7
  have q55 : W40.cell? ⟨w.heap.size, 8, none⟩ = some (d) := X43.out.cell 8
  have q56 : W40.cell? ⟨w.heap.size + 1, 0, none⟩ = some (.int .i64 0) := X44.out.cell 0
  have q57 : W40.cell? ⟨w.heap.size + 1, 1, none⟩ = some (.int .i64 0) := X44.out.cell 1
  have q58 : W40.cell? ⟨w.heap.size + 1, 2, none⟩ = some (.int .i64 0) := X44.out.cell 2
  have fz59 : ∀ o, W40.frozen? ⟨w.heap.size + 1, o, none⟩ = false := fun o => X44.out.free o
  go_wp2_with fail
  refine (chartOf_ok p _ _ C45.out HE.out).mono ?_; rintro e v60 ⟨⟨g, rfl, hg, hch⟩, hb61⟩
  have X62 := Lib.hid (X43.out.later hb61)
  have X63 := Lib.hid (X44.out.later hb61)
  have C64 := Lib.hid (C45.out.later hb61)
  have B65 := Lib.hid (B42.out.trans (hb61.mono B42.out.size))
  clear hb61
  have HCH := Lib.hid hch
  clear hch hg
  clear q47 q48 q49 q50 q51 q52 q53 q54 q55 q56 q57 q58 fz59
  have q66 : v60.cell? ⟨w.heap.size, 0, none⟩ = some (.int .i64 p.bed.eye) := X62.out.cell 0
  have q67 : v60.cell? ⟨w.heap.size, 1, none⟩ = some (.int .i64 p.bed.rings) := X62.out.cell 1
  have q68 : v60.cell? ⟨w.heap.size, 2, none⟩ = some (.int .i64 p.bed.sectors) := X62.out.cell 2
  have q69 : v60.cell? ⟨w.heap.size, 3, none⟩ = some (s) := X62.out.cell 3
  have q70 : v60.cell? ⟨w.heap.size, 4, none⟩ = some (.int .i64 p.run.eye) := X62.out.cell 4
  have q71 : v60.cell? ⟨w.heap.size, 5, none⟩ = some (.int .i64 p.run.rings) := X62.out.cell 5
  have q72 : v60.cell? ⟨w.heap.size, 6, none⟩ = some (.int .i64 p.run.sectors) := X62.out.cell 6
  have q73 : v60.cell? ⟨w.heap.size, 7, none⟩ = some (r) := X62.out.cell 7
  have q74 : v60.cell? ⟨w.heap.size, 8, none⟩ = some (d) := X62.out.cell 8
  have q75 : v60.cell? ⟨w.heap.size + 1, 0, none⟩ = some (.int .i64 0) := X63.out.cell 0
  have q76 : v60.cell? ⟨w.heap.size + 1, 1, none⟩ = some (.int .i64 0) := X63.out.cell 1
  have q77 : v60.cell? ⟨w.heap.size + 1, 2, none⟩ = some (.int .i64 0) := X63.out.cell 2
  have fz78 : ∀ o, v60.frozen? ⟨w.heap.size + 1, o, none⟩ = false := fun o => X63.out.free o
  by_cases h1 : i < 0
  · have e1 : decide (i < 0) = true := decide_eq_true h1
    clear h1
    go_wp2_with fail
    (try simp only [Exit.inBlock, Exit.then])
    refine endS2 (t := 4) (u := 5) (x := .int .i64 1) (v := .tuple #[.agg #[.int .i64 0, .int .i64 0, .int .i64 0], .int .i64 1]) ?_ ?_ ?_ (((X63.out.put 0 (.int .i64 0)).put 1 (.int .i64 0)).put 2 (.int .i64 0)) (((B65.out.setCell (by first | (simp; done) | (simp; omega) | omega) _).setCell (by first | (simp; done) | (simp; omega) | omega) _).setCell (by first | (simp; done) | (simp; omega) | omega) _) ?_
    all_goals first | rfl | skip
  · have e1 : decide (i < 0) = false := decide_eq_false h1
    have e2 : decide (p.bed.rings * p.bed.sectors * p.bed.sectors ≤ i) = true := decide_eq_true (by have := HI.out; unfold stN at this; omega)
    obtain ⟨N, hN⟩ : ∃ N, p.bed.rings * p.bed.sectors * p.bed.sectors = N := ⟨_, rfl⟩
    rw [hN] at e2
    have HN := Lib.hid hN
    clear h1 hN
    go_wp2_with fail
    refine (states_c p.bed.rings p.bed.sectors g _ HCH.out.rings.1 HCH.out.rings.2.1 (ckE_bd HE.out).1 (ckE_bd HE.out).2.1).mono ?_; rintro e v79 ⟨rfl, hb80⟩
    have X81 := Lib.hid (X62.out.later hb80)
    have X82 := Lib.hid (X63.out.later hb80)
    have C83 := Lib.hid (C64.out.later hb80)
    have C84 := Lib.hid (HCH.out.later hb80)
    have B85 := Lib.hid (B65.out.trans (hb80.mono B65.out.size))
    clear hb80
    rw [HN.out]
    clear q66 q67 q68 q69 q70 q71 q72 q73 q74 q75 q76 q77 fz78
    have q86 : v79.cell? ⟨w.heap.size, 0, none⟩ = some (.int .i64 p.bed.eye) := X81.out.cell 0
    have q87 : v79.cell? ⟨w.heap.size, 1, none⟩ = some (.int .i64 p.bed.rings) := X81.out.cell 1
    have q88 : v79.cell? ⟨w.heap.size, 2, none⟩ = some (.int .i64 p.bed.sectors) := X81.out.cell 2
    have q89 : v79.cell? ⟨w.heap.size, 3, none⟩ = some (s) := X81.out.cell 3
    have q90 : v79.cell? ⟨w.heap.size, 4, none⟩ = some (.int .i64 p.run.eye) := X81.out.cell 4
    have q91 : v79.cell? ⟨w.heap.size, 5, none⟩ = some (.int .i64 p.run.rings) := X81.out.cell 5
    have q92 : v79.cell? ⟨w.heap.size, 6, none⟩ = some (.int .i64 p.run.sectors) := X81.out.cell 6
    have q93 : v79.cell? ⟨w.heap.size, 7, none⟩ = some (r) := X81.out.cell 7
    have q94 : v79.cell? ⟨w.heap.size, 8, none⟩ = some (d) := X81.out.cell 8
    have q95 : v79.cell? ⟨w.heap.size + 1, 0, none⟩ = some (.int .i64 0) := X82.out.cell 0
    have q96 : v79.cell? ⟨w.heap.size + 1, 1, none⟩ = some (.int .i64 0) := X82.out.cell 1
    have q97 : v79.cell? ⟨w.heap.size + 1, 2, none⟩ = some (.int .i64 0) := X82.out.cell 2
    have fz98 : ∀ o, v79.frozen? ⟨w.heap.size + 1, o, none⟩ = false := fun o => X82.out.free o
    go_wp2_with fail
    (try simp only [Exit.inBlock, Exit.then])
    refine endS2 (t := 4) (u := 5) (x := .int .i64 1) (v := .tuple #[.agg #[.int .i64 0, .int .i64 0, .int .i64 0], .int .i64 1]) ?_ ?_ ?_ (((X82.out.put 0 (.int .i64 0)).put 1 (.int .i64 0)).put 2 (.int .i64 0)) (((B85.out.setCell (by first | (simp; done) | (simp; omega) | omega) _).setCell (by first | (simp; done) | (simp; omega) | omega) _).setCell (by first | (simp; done) | (simp; omega) | omega) _) ?_
    all_goals first | rfl | skip

set_option maxRecDepth 100000 in
set_option maxHeartbeats 8000000 in
theorem StateOf_ok (p : Pr) (i : Int) (v : Value) (w : World) (h : IsPair w w.heap.size v p) (h0 : ckE p = 0) (hi : 0 ≤ i ∧ i < stN p) : Calls Try.prog 12 #[v, .int .i64 i] w fun e w' => e = .returned (.tuple #[stV (stateI p i), .int .i64 0]) ∧ Below w.heap.size w w' := by
  obtain ⟨s, r, d, hpv, -, -, -⟩ := id h
  subst hpv
  have HP0 := Lib.hid h
  have HE := Lib.hid h0
  clear h h0
  unfold pairV at *
  have HI := Lib.hid hi
  clear hi
  go_enter Try.func12, Try.ntmps12
  go_wp2_with fail
  obtain ⟨W99, hW100⟩ : ∃ Wzz, ((w.alloc (.cells #[.int .i64 p.bed.eye, .int .i64 p.bed.rings, .int .i64 p.bed.sectors, s, .int .i64 p.run.eye, .int .i64 p.run.rings, .int .i64 p.run.sectors, r, d] 27)).alloc (.cells #[.int .i64 0, .int .i64 0, .int .i64 0] 29)) = Wzz := ⟨_, rfl⟩
  have B101 := Lib.hid (show Below w.heap.size w W99 by rw [← hW100]; exact (((Below.refl w.heap.size w).alloc (Nat.le_refl _) _).alloc (by first | (simp; done) | (simp; omega)) _))
  have X102 := Lib.hid (show Box W99 (w.heap.size) 27 #[.int .i64 p.bed.eye, .int .i64 p.bed.rings, .int .i64 p.bed.sectors, s, .int .i64 p.run.eye, .int .i64 p.run.rings, .int .i64 p.run.sectors, r, d] by rw [← hW100]; exact Box.alloc (Box.made w 27 #[.int .i64 p.bed.eye, .int .i64 p.bed.rings, .int .i64 p.bed.sectors, s, .int .i64 p.run.eye, .int .i64 p.run.rings, .int .i64 p.run.sectors, r, d]) (.cells #[.int .i64 0, .int .i64 0, .int .i64 0] 29))
  have X103 := Lib.hid (show Box W99 (w.heap.size + 1) 29 #[.int .i64 0, .int .i64 0, .int .i64 0] by
    have hz := Box.made (w.alloc (.cells #[.int .i64 p.bed.eye, .int .i64 p.bed.rings, .int .i64 p.bed.sectors, s, .int .i64 p.run.eye, .int .i64 p.run.rings, .int .i64 p.run.sectors, r, d] 27)) 29 #[.int .i64 0, .int .i64 0, .int .i64 0]
    rw [World.size_alloc] at hz
    rw [← hW100]; exact hz)
  have C104 := Lib.hid (HP0.out.later B101.out)
  have SZ105 := Lib.hid (show W99.heap.size = w.heap.size + 1 + 1 by rw [← hW100]; simp)
  rw [hW100]
  clear hW100
  have q106 : W99.cell? ⟨w.heap.size, 0, none⟩ = some (.int .i64 p.bed.eye) := X102.out.cell 0
  have q107 : W99.cell? ⟨w.heap.size, 1, none⟩ = some (.int .i64 p.bed.rings) := X102.out.cell 1
  have q108 : W99.cell? ⟨w.heap.size, 2, none⟩ = some (.int .i64 p.bed.sectors) := X102.out.cell 2
  have q109 : W99.cell? ⟨w.heap.size, 3, none⟩ = some (s) := X102.out.cell 3
  have q110 : W99.cell? ⟨w.heap.size, 4, none⟩ = some (.int .i64 p.run.eye) := X102.out.cell 4
  have q111 : W99.cell? ⟨w.heap.size, 5, none⟩ = some (.int .i64 p.run.rings) := X102.out.cell 5
  have q112 : W99.cell? ⟨w.heap.size, 6, none⟩ = some (.int .i64 p.run.sectors) := X102.out.cell 6
  have q113 : W99.cell? ⟨w.heap.size, 7, none⟩ = some (r) := X102.out.cell 7
  have q114 : W99.cell? ⟨w.heap.size, 8, none⟩ = some (d) := X102.out.cell 8
  have q115 : W99.cell? ⟨w.heap.size + 1, 0, none⟩ = some (.int .i64 0) := X103.out.cell 0
  have q116 : W99.cell? ⟨w.heap.size + 1, 1, none⟩ = some (.int .i64 0) := X103.out.cell 1
  have q117 : W99.cell? ⟨w.heap.size + 1, 2, none⟩ = some (.int .i64 0) := X103.out.cell 2
  have fz118 : ∀ o, W99.frozen? ⟨w.heap.size + 1, o, none⟩ = false := fun o => X103.out.free o
  go_wp2_with fail
  refine (chartOf_ok p _ _ C104.out HE.out).mono ?_; rintro e v119 ⟨⟨g, rfl, hg, hch⟩, hb120⟩
  have X121 := Lib.hid (X102.out.later hb120)
  have X122 := Lib.hid (X103.out.later hb120)
  have C123 := Lib.hid (C104.out.later hb120)
  have B124 := Lib.hid (B101.out.trans (hb120.mono B101.out.size))
  clear hb120
  have HCH := Lib.hid hch
  clear hch hg
  clear q106 q107 q108 q109 q110 q111 q112 q113 q114 q115 q116 q117 fz118
  have q125 : v119.cell? ⟨w.heap.size, 0, none⟩ = some (.int .i64 p.bed.eye) := X121.out.cell 0
  have q126 : v119.cell? ⟨w.heap.size, 1, none⟩ = some (.int .i64 p.bed.rings) := X121.out.cell 1
  have q127 : v119.cell? ⟨w.heap.size, 2, none⟩ = some (.int .i64 p.bed.sectors) := X121.out.cell 2
  have q128 : v119.cell? ⟨w.heap.size, 3, none⟩ = some (s) := X121.out.cell 3
  have q129 : v119.cell? ⟨w.heap.size, 4, none⟩ = some (.int .i64 p.run.eye) := X121.out.cell 4
  have q130 : v119.cell? ⟨w.heap.size, 5, none⟩ = some (.int .i64 p.run.rings) := X121.out.cell 5
  have q131 : v119.cell? ⟨w.heap.size, 6, none⟩ = some (.int .i64 p.run.sectors) := X121.out.cell 6
  have q132 : v119.cell? ⟨w.heap.size, 7, none⟩ = some (r) := X121.out.cell 7
  have q133 : v119.cell? ⟨w.heap.size, 8, none⟩ = some (d) := X121.out.cell 8
  have q134 : v119.cell? ⟨w.heap.size + 1, 0, none⟩ = some (.int .i64 0) := X122.out.cell 0
  have q135 : v119.cell? ⟨w.heap.size + 1, 1, none⟩ = some (.int .i64 0) := X122.out.cell 1
  have q136 : v119.cell? ⟨w.heap.size + 1, 2, none⟩ = some (.int .i64 0) := X122.out.cell 2
  have fz137 : ∀ o, v119.frozen? ⟨w.heap.size + 1, o, none⟩ = false := fun o => X122.out.free o
  have e1 : decide (i < 0) = false := decide_eq_false (by have := HI.out; omega)
  have e2 : decide (p.bed.rings * p.bed.sectors * p.bed.sectors ≤ i) = false := decide_eq_false (by have := HI.out; unfold stN at this; omega)
  obtain ⟨N, hN⟩ : ∃ N, p.bed.rings * p.bed.sectors * p.bed.sectors = N := ⟨_, rfl⟩
  rw [hN] at e2
  have HN := Lib.hid hN
  clear hN
  go_wp2_with fail
  refine (states_c p.bed.rings p.bed.sectors g _ HCH.out.rings.1 HCH.out.rings.2.1 (ckE_bd HE.out).1 (ckE_bd HE.out).2.1).mono ?_; rintro e v138 ⟨rfl, hb139⟩
  have X140 := Lib.hid (X121.out.later hb139)
  have X141 := Lib.hid (X122.out.later hb139)
  have C142 := Lib.hid (C123.out.later hb139)
  have C143 := Lib.hid (HCH.out.later hb139)
  have B144 := Lib.hid (B124.out.trans (hb139.mono B124.out.size))
  clear hb139
  rw [HN.out]
  clear q125 q126 q127 q128 q129 q130 q131 q132 q133 q134 q135 q136 fz137
  have q145 : v138.cell? ⟨w.heap.size, 0, none⟩ = some (.int .i64 p.bed.eye) := X140.out.cell 0
  have q146 : v138.cell? ⟨w.heap.size, 1, none⟩ = some (.int .i64 p.bed.rings) := X140.out.cell 1
  have q147 : v138.cell? ⟨w.heap.size, 2, none⟩ = some (.int .i64 p.bed.sectors) := X140.out.cell 2
  have q148 : v138.cell? ⟨w.heap.size, 3, none⟩ = some (s) := X140.out.cell 3
  have q149 : v138.cell? ⟨w.heap.size, 4, none⟩ = some (.int .i64 p.run.eye) := X140.out.cell 4
  have q150 : v138.cell? ⟨w.heap.size, 5, none⟩ = some (.int .i64 p.run.rings) := X140.out.cell 5
  have q151 : v138.cell? ⟨w.heap.size, 6, none⟩ = some (.int .i64 p.run.sectors) := X140.out.cell 6
  have q152 : v138.cell? ⟨w.heap.size, 7, none⟩ = some (r) := X140.out.cell 7
  have q153 : v138.cell? ⟨w.heap.size, 8, none⟩ = some (d) := X140.out.cell 8
  have q154 : v138.cell? ⟨w.heap.size + 1, 0, none⟩ = some (.int .i64 0) := X141.out.cell 0
  have q155 : v138.cell? ⟨w.heap.size + 1, 1, none⟩ = some (.int .i64 0) := X141.out.cell 1
  have q156 : v138.cell? ⟨w.heap.size + 1, 2, none⟩ = some (.int .i64 0) := X141.out.cell 2
  have fz157 : ∀ o, v138.frozen? ⟨w.heap.size + 1, o, none⟩ = false := fun o => X141.out.free o
  go_wp2_with fail
  refine (stateOf_c p i g _ C143.out HE.out HI.out).mono ?_; rintro e v158 ⟨rfl, hb159⟩
  have X160 := Lib.hid (X140.out.later hb159)
  have X161 := Lib.hid (X141.out.later hb159)
  have C162 := Lib.hid (C142.out.later hb159)
  have C163 := Lib.hid (C143.out.later hb159)
  have B164 := Lib.hid (B144.out.trans (hb159.mono B144.out.size))
  clear hb159
  obtain ⟨⟨x, y, z⟩, hs⟩ : ∃ s, stateI p i = s := ⟨_, rfl⟩
  have HS := Lib.hid hs
  rw [hs]
  clear hs
  unfold stV
  dsimp only
  clear q145 q146 q147 q148 q149 q150 q151 q152 q153 q154 q155 q156 fz157
  have q165 : v158.cell? ⟨w.heap.size, 0, none⟩ = some (.int .i64 p.bed.eye) := X160.out.cell 0
  have q166 : v158.cell? ⟨w.heap.size, 1, none⟩ = some (.int .i64 p.bed.rings) := X160.out.cell 1
  have q167 : v158.cell? ⟨w.heap.size, 2, none⟩ = some (.int .i64 p.bed.sectors) := X160.out.cell 2
  have q168 : v158.cell? ⟨w.heap.size, 3, none⟩ = some (s) := X160.out.cell 3
  have q169 : v158.cell? ⟨w.heap.size, 4, none⟩ = some (.int .i64 p.run.eye) := X160.out.cell 4
  have q170 : v158.cell? ⟨w.heap.size, 5, none⟩ = some (.int .i64 p.run.rings) := X160.out.cell 5
  have q171 : v158.cell? ⟨w.heap.size, 6, none⟩ = some (.int .i64 p.run.sectors) := X160.out.cell 6
  have q172 : v158.cell? ⟨w.heap.size, 7, none⟩ = some (r) := X160.out.cell 7
  have q173 : v158.cell? ⟨w.heap.size, 8, none⟩ = some (d) := X160.out.cell 8
  have q174 : v158.cell? ⟨w.heap.size + 1, 0, none⟩ = some (.int .i64 0) := X161.out.cell 0
  have q175 : v158.cell? ⟨w.heap.size + 1, 1, none⟩ = some (.int .i64 0) := X161.out.cell 1
  have q176 : v158.cell? ⟨w.heap.size + 1, 2, none⟩ = some (.int .i64 0) := X161.out.cell 2
  have fz177 : ∀ o, v158.frozen? ⟨w.heap.size + 1, o, none⟩ = false := fun o => X161.out.free o
  go_wp2_with fail
  (try simp only [Exit.inBlock, Exit.then])
  refine endS2 (t := 4) (u := 5) (x := .int .i64 0) (v := .tuple #[stV (stateI p i), .int .i64 0]) ?_ ?_ ?_ (((X161.out.put 0 (.int .i64 x)).put 1 (.int .i64 y)).put 2 (.int .i64 z)) (((B164.out.setCell (by first | (simp; done) | (simp; omega) | omega) _).setCell (by first | (simp; done) | (simp; omega) | omega) _).setCell (by first | (simp; done) | (simp; omega) | omega) _) ?_
  all_goals first | rfl | (rw [HS.out]; rfl)

set_option maxRecDepth 100000 in
set_option maxHeartbeats 8000000 in
theorem Next_bad (p : Pr) (a b t mo ms : Int) (mc : Bool) (v : Value) (w : World) (h : IsPair w w.heap.size v p) (h0 : asE p ⟨a, b, t⟩ ≠ 0) : Calls Try.prog 20 #[v, .agg #[.int .i64 a, .int .i64 b, .int .i64 t], .agg #[.int .i64 mo, .int .i64 ms, .bool mc]] w fun e w' => e = .returned (.tuple #[.agg #[.int .i64 0, .int .i64 0, .int .i64 0], .bool false, .int .i64 (asE p ⟨a, b, t⟩)]) ∧ Below w.heap.size w w' := by
  obtain ⟨s, r, d, hpv, -, -, -⟩ := id h
  subst hpv
  have HP0 := Lib.hid h
  have HE := Lib.hid h0
  clear h h0
  unfold pairV at *
  have hne : (asE p ⟨a, b, t⟩ != 0) = true := by simpa using HE.out
  have hne2 : decide (asE p ⟨a, b, t⟩ = 0) = false := by simpa using HE.out
  go_enter Try.func20, Try.ntmps20
  go_wp2_with fail
  obtain ⟨W178, hW179⟩ : ∃ Wzz, ((((w.alloc (.cells #[.int .i64 p.bed.eye, .int .i64 p.bed.rings, .int .i64 p.bed.sectors, s, .int .i64 p.run.eye, .int .i64 p.run.rings, .int .i64 p.run.sectors, r, d] 27)).alloc (.cells #[.int .i64 a, .int .i64 b, .int .i64 t] 29)).alloc (.cells #[.int .i64 mo, .int .i64 ms, .bool mc] 41)).alloc (.cells #[.int .i64 0, .int .i64 0, .int .i64 0] 29)) = Wzz := ⟨_, rfl⟩
  have B180 := Lib.hid (show Below w.heap.size w W178 by rw [← hW179]; exact (((((Below.refl w.heap.size w).alloc (Nat.le_refl _) _).alloc (by first | (simp; done) | (simp; omega)) _).alloc (by first | (simp; done) | (simp; omega)) _).alloc (by first | (simp; done) | (simp; omega)) _))
  have X181 := Lib.hid (show Box W178 (w.heap.size) 27 #[.int .i64 p.bed.eye, .int .i64 p.bed.rings, .int .i64 p.bed.sectors, s, .int .i64 p.run.eye, .int .i64 p.run.rings, .int .i64 p.run.sectors, r, d] by rw [← hW179]; exact Box.alloc (Box.alloc (Box.alloc (Box.made w 27 #[.int .i64 p.bed.eye, .int .i64 p.bed.rings, .int .i64 p.bed.sectors, s, .int .i64 p.run.eye, .int .i64 p.run.rings, .int .i64 p.run.sectors, r, d]) (.cells #[.int .i64 a, .int .i64 b, .int .i64 t] 29)) (.cells #[.int .i64 mo, .int .i64 ms, .bool mc] 41)) (.cells #[.int .i64 0, .int .i64 0, .int .i64 0] 29))
  have X182 := Lib.hid (show Box W178 (w.heap.size + 1) 29 #[.int .i64 a, .int .i64 b, .int .i64 t] by
    have hz := Box.alloc (Box.alloc (Box.made (w.alloc (.cells #[.int .i64 p.bed.eye, .int .i64 p.bed.rings, .int .i64 p.bed.sectors, s, .int .i64 p.run.eye, .int .i64 p.run.rings, .int .i64 p.run.sectors, r, d] 27)) 29 #[.int .i64 a, .int .i64 b, .int .i64 t]) (.cells #[.int .i64 mo, .int .i64 ms, .bool mc] 41)) (.cells #[.int .i64 0, .int .i64 0, .int .i64 0] 29)
    rw [World.size_alloc] at hz
    rw [← hW179]; exact hz)
  have X183 := Lib.hid (show Box W178 (w.heap.size + 1 + 1) 41 #[.int .i64 mo, .int .i64 ms, .bool mc] by
    have hz := Box.alloc (Box.made ((w.alloc (.cells #[.int .i64 p.bed.eye, .int .i64 p.bed.rings, .int .i64 p.bed.sectors, s, .int .i64 p.run.eye, .int .i64 p.run.rings, .int .i64 p.run.sectors, r, d] 27)).alloc (.cells #[.int .i64 a, .int .i64 b, .int .i64 t] 29)) 41 #[.int .i64 mo, .int .i64 ms, .bool mc]) (.cells #[.int .i64 0, .int .i64 0, .int .i64 0] 29)
    rw [World.size_alloc, World.size_alloc] at hz
    rw [← hW179]; exact hz)
  have X184 := Lib.hid (show Box W178 (w.heap.size + 1 + 1 + 1) 29 #[.int .i64 0, .int .i64 0, .int .i64 0] by
    have hz := Box.made (((w.alloc (.cells #[.int .i64 p.bed.eye, .int .i64 p.bed.rings, .int .i64 p.bed.sectors, s, .int .i64 p.run.eye, .int .i64 p.run.rings, .int .i64 p.run.sectors, r, d] 27)).alloc (.cells #[.int .i64 a, .int .i64 b, .int .i64 t] 29)).alloc (.cells #[.int .i64 mo, .int .i64 ms, .bool mc] 41)) 29 #[.int .i64 0, .int .i64 0, .int .i64 0]
    rw [World.size_alloc, World.size_alloc, World.size_alloc] at hz
    rw [← hW179]; exact hz)
  have C185 := Lib.hid (HP0.out.later B180.out)
  have SZ186 := Lib.hid (show W178.heap.size = w.heap.size + 1 + 1 + 1 + 1 by rw [← hW179]; simp)
  rw [hW179]
  clear hW179
  have q187 : W178.cell? ⟨w.heap.size, 0, none⟩ = some (.int .i64 p.bed.eye) := X181.out.cell 0
  have q188 : W178.cell? ⟨w.heap.size, 1, none⟩ = some (.int .i64 p.bed.rings) := X181.out.cell 1
  have q189 : W178.cell? ⟨w.heap.size, 2, none⟩ = some (.int .i64 p.bed.sectors) := X181.out.cell 2
  have q190 : W178.cell? ⟨w.heap.size, 3, none⟩ = some (s) := X181.out.cell 3
  have q191 : W178.cell? ⟨w.heap.size, 4, none⟩ = some (.int .i64 p.run.eye) := X181.out.cell 4
  have q192 : W178.cell? ⟨w.heap.size, 5, none⟩ = some (.int .i64 p.run.rings) := X181.out.cell 5
  have q193 : W178.cell? ⟨w.heap.size, 6, none⟩ = some (.int .i64 p.run.sectors) := X181.out.cell 6
  have q194 : W178.cell? ⟨w.heap.size, 7, none⟩ = some (r) := X181.out.cell 7
  have q195 : W178.cell? ⟨w.heap.size, 8, none⟩ = some (d) := X181.out.cell 8
  have q196 : W178.cell? ⟨w.heap.size + 1, 0, none⟩ = some (.int .i64 a) := X182.out.cell 0
  have q197 : W178.cell? ⟨w.heap.size + 1, 1, none⟩ = some (.int .i64 b) := X182.out.cell 1
  have q198 : W178.cell? ⟨w.heap.size + 1, 2, none⟩ = some (.int .i64 t) := X182.out.cell 2
  have q199 : W178.cell? ⟨w.heap.size + 1 + 1, 0, none⟩ = some (.int .i64 mo) := X183.out.cell 0
  have q200 : W178.cell? ⟨w.heap.size + 1 + 1, 1, none⟩ = some (.int .i64 ms) := X183.out.cell 1
  have q201 : W178.cell? ⟨w.heap.size + 1 + 1, 2, none⟩ = some (.bool mc) := X183.out.cell 2
  have q202 : W178.cell? ⟨w.heap.size + 1 + 1 + 1, 0, none⟩ = some (.int .i64 0) := X184.out.cell 0
  have q203 : W178.cell? ⟨w.heap.size + 1 + 1 + 1, 1, none⟩ = some (.int .i64 0) := X184.out.cell 1
  have q204 : W178.cell? ⟨w.heap.size + 1 + 1 + 1, 2, none⟩ = some (.int .i64 0) := X184.out.cell 2
  have fz205 : ∀ o, W178.frozen? ⟨w.heap.size + 1 + 1 + 1, o, none⟩ = false := fun o => X184.out.free o
  go_wp2_with fail
  refine (chartAt_bad p a b t _ _ C185.out HE.out).mono ?_; rintro e v206 ⟨rfl, hb207⟩
  have X208 := Lib.hid (X181.out.later hb207)
  have X209 := Lib.hid (X182.out.later hb207)
  have X210 := Lib.hid (X183.out.later hb207)
  have X211 := Lib.hid (X184.out.later hb207)
  have C212 := Lib.hid (C185.out.later hb207)
  have B213 := Lib.hid (B180.out.trans (hb207.mono B180.out.size))
  clear hb207
  clear q187 q188 q189 q190 q191 q192 q193 q194 q195 q196 q197 q198 q199 q200 q201 q202 q203 q204 fz205
  have q214 : v206.cell? ⟨w.heap.size, 0, none⟩ = some (.int .i64 p.bed.eye) := X208.out.cell 0
  have q215 : v206.cell? ⟨w.heap.size, 1, none⟩ = some (.int .i64 p.bed.rings) := X208.out.cell 1
  have q216 : v206.cell? ⟨w.heap.size, 2, none⟩ = some (.int .i64 p.bed.sectors) := X208.out.cell 2
  have q217 : v206.cell? ⟨w.heap.size, 3, none⟩ = some (s) := X208.out.cell 3
  have q218 : v206.cell? ⟨w.heap.size, 4, none⟩ = some (.int .i64 p.run.eye) := X208.out.cell 4
  have q219 : v206.cell? ⟨w.heap.size, 5, none⟩ = some (.int .i64 p.run.rings) := X208.out.cell 5
  have q220 : v206.cell? ⟨w.heap.size, 6, none⟩ = some (.int .i64 p.run.sectors) := X208.out.cell 6
  have q221 : v206.cell? ⟨w.heap.size, 7, none⟩ = some (r) := X208.out.cell 7
  have q222 : v206.cell? ⟨w.heap.size, 8, none⟩ = some (d) := X208.out.cell 8
  have q223 : v206.cell? ⟨w.heap.size + 1, 0, none⟩ = some (.int .i64 a) := X209.out.cell 0
  have q224 : v206.cell? ⟨w.heap.size + 1, 1, none⟩ = some (.int .i64 b) := X209.out.cell 1
  have q225 : v206.cell? ⟨w.heap.size + 1, 2, none⟩ = some (.int .i64 t) := X209.out.cell 2
  have q226 : v206.cell? ⟨w.heap.size + 1 + 1, 0, none⟩ = some (.int .i64 mo) := X210.out.cell 0
  have q227 : v206.cell? ⟨w.heap.size + 1 + 1, 1, none⟩ = some (.int .i64 ms) := X210.out.cell 1
  have q228 : v206.cell? ⟨w.heap.size + 1 + 1, 2, none⟩ = some (.bool mc) := X210.out.cell 2
  have q229 : v206.cell? ⟨w.heap.size + 1 + 1 + 1, 0, none⟩ = some (.int .i64 0) := X211.out.cell 0
  have q230 : v206.cell? ⟨w.heap.size + 1 + 1 + 1, 1, none⟩ = some (.int .i64 0) := X211.out.cell 1
  have q231 : v206.cell? ⟨w.heap.size + 1 + 1 + 1, 2, none⟩ = some (.int .i64 0) := X211.out.cell 2
  have fz232 : ∀ o, v206.frozen? ⟨w.heap.size + 1 + 1 + 1, o, none⟩ = false := fun o => X211.out.free o
  go_wp2_with fail
  (try simp only [Exit.inBlock, Exit.then])
  refine endS3 (t := 6) (u := 7) (q := 8) (x := .bool false) (y := .int .i64 (asE p ⟨a, b, t⟩)) (v := .tuple #[.agg #[.int .i64 0, .int .i64 0, .int .i64 0], .bool false, .int .i64 (asE p ⟨a, b, t⟩)]) ?_ ?_ ?_ ?_ (((X211.out.put 0 (.int .i64 0)).put 1 (.int .i64 0)).put 2 (.int .i64 0)) (((B213.out.setCell (by first | (simp; done) | (simp; omega) | omega) _).setCell (by first | (simp; done) | (simp; omega) | omega) _).setCell (by first | (simp; done) | (simp; omega) | omega) _) ?_
  all_goals first | rfl | skip

set_option maxRecDepth 100000 in
set_option maxHeartbeats 8000000 in
theorem Next_none (p : Pr) (a b t mo ms : Int) (mc : Bool) (v : Value) (w : World) (h : IsPair w w.heap.size v p) (h0 : asE p ⟨a, b, t⟩ = 0) (hh : hasM (movesL p ⟨a, b, t⟩) ⟨mo, ms, mc⟩ = false) : Calls Try.prog 20 #[v, .agg #[.int .i64 a, .int .i64 b, .int .i64 t], .agg #[.int .i64 mo, .int .i64 ms, .bool mc]] w fun e w' => e = .returned (.tuple #[.agg #[.int .i64 0, .int .i64 0, .int .i64 0], .bool false, .int .i64 1]) ∧ Below w.heap.size w w' := by
  obtain ⟨s, r, d, hpv, -, -, -⟩ := id h
  subst hpv
  have HP0 := Lib.hid h
  have HE := Lib.hid h0
  clear h h0
  unfold pairV at *
  have HH := Lib.hid hh
  clear hh
  go_enter Try.func20, Try.ntmps20
  go_wp2_with fail
  obtain ⟨W233, hW234⟩ : ∃ Wzz, ((((w.alloc (.cells #[.int .i64 p.bed.eye, .int .i64 p.bed.rings, .int .i64 p.bed.sectors, s, .int .i64 p.run.eye, .int .i64 p.run.rings, .int .i64 p.run.sectors, r, d] 27)).alloc (.cells #[.int .i64 a, .int .i64 b, .int .i64 t] 29)).alloc (.cells #[.int .i64 mo, .int .i64 ms, .bool mc] 41)).alloc (.cells #[.int .i64 0, .int .i64 0, .int .i64 0] 29)) = Wzz := ⟨_, rfl⟩
  have B235 := Lib.hid (show Below w.heap.size w W233 by rw [← hW234]; exact (((((Below.refl w.heap.size w).alloc (Nat.le_refl _) _).alloc (by first | (simp; done) | (simp; omega)) _).alloc (by first | (simp; done) | (simp; omega)) _).alloc (by first | (simp; done) | (simp; omega)) _))
  have X236 := Lib.hid (show Box W233 (w.heap.size) 27 #[.int .i64 p.bed.eye, .int .i64 p.bed.rings, .int .i64 p.bed.sectors, s, .int .i64 p.run.eye, .int .i64 p.run.rings, .int .i64 p.run.sectors, r, d] by rw [← hW234]; exact Box.alloc (Box.alloc (Box.alloc (Box.made w 27 #[.int .i64 p.bed.eye, .int .i64 p.bed.rings, .int .i64 p.bed.sectors, s, .int .i64 p.run.eye, .int .i64 p.run.rings, .int .i64 p.run.sectors, r, d]) (.cells #[.int .i64 a, .int .i64 b, .int .i64 t] 29)) (.cells #[.int .i64 mo, .int .i64 ms, .bool mc] 41)) (.cells #[.int .i64 0, .int .i64 0, .int .i64 0] 29))
  have X237 := Lib.hid (show Box W233 (w.heap.size + 1) 29 #[.int .i64 a, .int .i64 b, .int .i64 t] by
    have hz := Box.alloc (Box.alloc (Box.made (w.alloc (.cells #[.int .i64 p.bed.eye, .int .i64 p.bed.rings, .int .i64 p.bed.sectors, s, .int .i64 p.run.eye, .int .i64 p.run.rings, .int .i64 p.run.sectors, r, d] 27)) 29 #[.int .i64 a, .int .i64 b, .int .i64 t]) (.cells #[.int .i64 mo, .int .i64 ms, .bool mc] 41)) (.cells #[.int .i64 0, .int .i64 0, .int .i64 0] 29)
    rw [World.size_alloc] at hz
    rw [← hW234]; exact hz)
  have X238 := Lib.hid (show Box W233 (w.heap.size + 1 + 1) 41 #[.int .i64 mo, .int .i64 ms, .bool mc] by
    have hz := Box.alloc (Box.made ((w.alloc (.cells #[.int .i64 p.bed.eye, .int .i64 p.bed.rings, .int .i64 p.bed.sectors, s, .int .i64 p.run.eye, .int .i64 p.run.rings, .int .i64 p.run.sectors, r, d] 27)).alloc (.cells #[.int .i64 a, .int .i64 b, .int .i64 t] 29)) 41 #[.int .i64 mo, .int .i64 ms, .bool mc]) (.cells #[.int .i64 0, .int .i64 0, .int .i64 0] 29)
    rw [World.size_alloc, World.size_alloc] at hz
    rw [← hW234]; exact hz)
  have X239 := Lib.hid (show Box W233 (w.heap.size + 1 + 1 + 1) 29 #[.int .i64 0, .int .i64 0, .int .i64 0] by
    have hz := Box.made (((w.alloc (.cells #[.int .i64 p.bed.eye, .int .i64 p.bed.rings, .int .i64 p.bed.sectors, s, .int .i64 p.run.eye, .int .i64 p.run.rings, .int .i64 p.run.sectors, r, d] 27)).alloc (.cells #[.int .i64 a, .int .i64 b, .int .i64 t] 29)).alloc (.cells #[.int .i64 mo, .int .i64 ms, .bool mc] 41)) 29 #[.int .i64 0, .int .i64 0, .int .i64 0]
    rw [World.size_alloc, World.size_alloc, World.size_alloc] at hz
    rw [← hW234]; exact hz)
  have C240 := Lib.hid (HP0.out.later B235.out)
  have SZ241 := Lib.hid (show W233.heap.size = w.heap.size + 1 + 1 + 1 + 1 by rw [← hW234]; simp)
  rw [hW234]
  clear hW234
  have q242 : W233.cell? ⟨w.heap.size, 0, none⟩ = some (.int .i64 p.bed.eye) := X236.out.cell 0
  have q243 : W233.cell? ⟨w.heap.size, 1, none⟩ = some (.int .i64 p.bed.rings) := X236.out.cell 1
  have q244 : W233.cell? ⟨w.heap.size, 2, none⟩ = some (.int .i64 p.bed.sectors) := X236.out.cell 2
  have q245 : W233.cell? ⟨w.heap.size, 3, none⟩ = some (s) := X236.out.cell 3
  have q246 : W233.cell? ⟨w.heap.size, 4, none⟩ = some (.int .i64 p.run.eye) := X236.out.cell 4
  have q247 : W233.cell? ⟨w.heap.size, 5, none⟩ = some (.int .i64 p.run.rings) := X236.out.cell 5
  have q248 : W233.cell? ⟨w.heap.size, 6, none⟩ = some (.int .i64 p.run.sectors) := X236.out.cell 6
  have q249 : W233.cell? ⟨w.heap.size, 7, none⟩ = some (r) := X236.out.cell 7
  have q250 : W233.cell? ⟨w.heap.size, 8, none⟩ = some (d) := X236.out.cell 8
  have q251 : W233.cell? ⟨w.heap.size + 1, 0, none⟩ = some (.int .i64 a) := X237.out.cell 0
  have q252 : W233.cell? ⟨w.heap.size + 1, 1, none⟩ = some (.int .i64 b) := X237.out.cell 1
  have q253 : W233.cell? ⟨w.heap.size + 1, 2, none⟩ = some (.int .i64 t) := X237.out.cell 2
  have q254 : W233.cell? ⟨w.heap.size + 1 + 1, 0, none⟩ = some (.int .i64 mo) := X238.out.cell 0
  have q255 : W233.cell? ⟨w.heap.size + 1 + 1, 1, none⟩ = some (.int .i64 ms) := X238.out.cell 1
  have q256 : W233.cell? ⟨w.heap.size + 1 + 1, 2, none⟩ = some (.bool mc) := X238.out.cell 2
  have q257 : W233.cell? ⟨w.heap.size + 1 + 1 + 1, 0, none⟩ = some (.int .i64 0) := X239.out.cell 0
  have q258 : W233.cell? ⟨w.heap.size + 1 + 1 + 1, 1, none⟩ = some (.int .i64 0) := X239.out.cell 1
  have q259 : W233.cell? ⟨w.heap.size + 1 + 1 + 1, 2, none⟩ = some (.int .i64 0) := X239.out.cell 2
  have fz260 : ∀ o, W233.frozen? ⟨w.heap.size + 1 + 1 + 1, o, none⟩ = false := fun o => X239.out.free o
  go_wp2_with fail
  refine (chartAt_ok p a b t _ _ C240.out HE.out).mono ?_; rintro e v261 ⟨⟨g, rfl, hg, hch⟩, hb262⟩
  have X263 := Lib.hid (X236.out.later hb262)
  have X264 := Lib.hid (X237.out.later hb262)
  have X265 := Lib.hid (X238.out.later hb262)
  have X266 := Lib.hid (X239.out.later hb262)
  have C267 := Lib.hid (C240.out.later hb262)
  have B268 := Lib.hid (B235.out.trans (hb262.mono B235.out.size))
  clear hb262
  have HCH := Lib.hid hch
  clear hch hg
  clear q242 q243 q244 q245 q246 q247 q248 q249 q250 q251 q252 q253 q254 q255 q256 q257 q258 q259 fz260
  have q269 : v261.cell? ⟨w.heap.size, 0, none⟩ = some (.int .i64 p.bed.eye) := X263.out.cell 0
  have q270 : v261.cell? ⟨w.heap.size, 1, none⟩ = some (.int .i64 p.bed.rings) := X263.out.cell 1
  have q271 : v261.cell? ⟨w.heap.size, 2, none⟩ = some (.int .i64 p.bed.sectors) := X263.out.cell 2
  have q272 : v261.cell? ⟨w.heap.size, 3, none⟩ = some (s) := X263.out.cell 3
  have q273 : v261.cell? ⟨w.heap.size, 4, none⟩ = some (.int .i64 p.run.eye) := X263.out.cell 4
  have q274 : v261.cell? ⟨w.heap.size, 5, none⟩ = some (.int .i64 p.run.rings) := X263.out.cell 5
  have q275 : v261.cell? ⟨w.heap.size, 6, none⟩ = some (.int .i64 p.run.sectors) := X263.out.cell 6
  have q276 : v261.cell? ⟨w.heap.size, 7, none⟩ = some (r) := X263.out.cell 7
  have q277 : v261.cell? ⟨w.heap.size, 8, none⟩ = some (d) := X263.out.cell 8
  have q278 : v261.cell? ⟨w.heap.size + 1, 0, none⟩ = some (.int .i64 a) := X264.out.cell 0
  have q279 : v261.cell? ⟨w.heap.size + 1, 1, none⟩ = some (.int .i64 b) := X264.out.cell 1
  have q280 : v261.cell? ⟨w.heap.size + 1, 2, none⟩ = some (.int .i64 t) := X264.out.cell 2
  have q281 : v261.cell? ⟨w.heap.size + 1 + 1, 0, none⟩ = some (.int .i64 mo) := X265.out.cell 0
  have q282 : v261.cell? ⟨w.heap.size + 1 + 1, 1, none⟩ = some (.int .i64 ms) := X265.out.cell 1
  have q283 : v261.cell? ⟨w.heap.size + 1 + 1, 2, none⟩ = some (.bool mc) := X265.out.cell 2
  have q284 : v261.cell? ⟨w.heap.size + 1 + 1 + 1, 0, none⟩ = some (.int .i64 0) := X266.out.cell 0
  have q285 : v261.cell? ⟨w.heap.size + 1 + 1 + 1, 1, none⟩ = some (.int .i64 0) := X266.out.cell 1
  have q286 : v261.cell? ⟨w.heap.size + 1 + 1 + 1, 2, none⟩ = some (.int .i64 0) := X266.out.cell 2
  have fz287 : ∀ o, v261.frozen? ⟨w.heap.size + 1 + 1 + 1, o, none⟩ = false := fun o => X266.out.free o
  go_wp2_with fail
  have hdr324 : Below (v261).heap.size (v261) (v261).drew := (Below.refl _ _).drew
  have lt306 := X263.out.lt
  have lt307 := X263.out.lt
  have lt308 := X263.out.lt
  have lt309 := X263.out.lt
  have lt310 := X263.out.lt
  have lt311 := X263.out.lt
  have lt312 := X263.out.lt
  have lt313 := X263.out.lt
  have lt314 := X263.out.lt
  have lt315 := X264.out.lt
  have lt316 := X264.out.lt
  have lt317 := X264.out.lt
  have lt318 := X265.out.lt
  have lt319 := X265.out.lt
  have lt320 := X265.out.lt
  have lt321 := X266.out.lt
  have lt322 := X266.out.lt
  have lt323 := X266.out.lt
  have hcall325 : ∀ X Y : World, (fun Wz => Wz.cell? ⟨w.heap.size, 0, none⟩ = some (.int .i64 p.bed.eye) ∧ Wz.cell? ⟨w.heap.size, 1, none⟩ = some (.int .i64 p.bed.rings) ∧ Wz.cell? ⟨w.heap.size, 2, none⟩ = some (.int .i64 p.bed.sectors) ∧ Wz.cell? ⟨w.heap.size, 3, none⟩ = some (s) ∧ Wz.cell? ⟨w.heap.size, 4, none⟩ = some (.int .i64 p.run.eye) ∧ Wz.cell? ⟨w.heap.size, 5, none⟩ = some (.int .i64 p.run.rings) ∧ Wz.cell? ⟨w.heap.size, 6, none⟩ = some (.int .i64 p.run.sectors) ∧ Wz.cell? ⟨w.heap.size, 7, none⟩ = some (r) ∧ Wz.cell? ⟨w.heap.size, 8, none⟩ = some (d) ∧ Wz.cell? ⟨w.heap.size + 1, 0, none⟩ = some (.int .i64 a) ∧ Wz.cell? ⟨w.heap.size + 1, 1, none⟩ = some (.int .i64 b) ∧ Wz.cell? ⟨w.heap.size + 1, 2, none⟩ = some (.int .i64 t) ∧ Wz.cell? ⟨w.heap.size + 1 + 1, 0, none⟩ = some (.int .i64 mo) ∧ Wz.cell? ⟨w.heap.size + 1 + 1, 1, none⟩ = some (.int .i64 ms) ∧ Wz.cell? ⟨w.heap.size + 1 + 1, 2, none⟩ = some (.bool mc) ∧ Wz.cell? ⟨w.heap.size + 1 + 1 + 1, 0, none⟩ = some (.int .i64 0) ∧ Wz.cell? ⟨w.heap.size + 1 + 1 + 1, 1, none⟩ = some (.int .i64 0) ∧ Wz.cell? ⟨w.heap.size + 1 + 1 + 1, 2, none⟩ = some (.int .i64 0) ∧ (v261).heap.size ≤ Wz.heap.size) X → Below X.heap.size X Y → (fun Wz => Wz.cell? ⟨w.heap.size, 0, none⟩ = some (.int .i64 p.bed.eye) ∧ Wz.cell? ⟨w.heap.size, 1, none⟩ = some (.int .i64 p.bed.rings) ∧ Wz.cell? ⟨w.heap.size, 2, none⟩ = some (.int .i64 p.bed.sectors) ∧ Wz.cell? ⟨w.heap.size, 3, none⟩ = some (s) ∧ Wz.cell? ⟨w.heap.size, 4, none⟩ = some (.int .i64 p.run.eye) ∧ Wz.cell? ⟨w.heap.size, 5, none⟩ = some (.int .i64 p.run.rings) ∧ Wz.cell? ⟨w.heap.size, 6, none⟩ = some (.int .i64 p.run.sectors) ∧ Wz.cell? ⟨w.heap.size, 7, none⟩ = some (r) ∧ Wz.cell? ⟨w.heap.size, 8, none⟩ = some (d) ∧ Wz.cell? ⟨w.heap.size + 1, 0, none⟩ = some (.int .i64 a) ∧ Wz.cell? ⟨w.heap.size + 1, 1, none⟩ = some (.int .i64 b) ∧ Wz.cell? ⟨w.heap.size + 1, 2, none⟩ = some (.int .i64 t) ∧ Wz.cell? ⟨w.heap.size + 1 + 1, 0, none⟩ = some (.int .i64 mo) ∧ Wz.cell? ⟨w.heap.size + 1 + 1, 1, none⟩ = some (.int .i64 ms) ∧ Wz.cell? ⟨w.heap.size + 1 + 1, 2, none⟩ = some (.bool mc) ∧ Wz.cell? ⟨w.heap.size + 1 + 1 + 1, 0, none⟩ = some (.int .i64 0) ∧ Wz.cell? ⟨w.heap.size + 1 + 1 + 1, 1, none⟩ = some (.int .i64 0) ∧ Wz.cell? ⟨w.heap.size + 1 + 1 + 1, 2, none⟩ = some (.int .i64 0) ∧ (v261).heap.size ≤ Wz.heap.size) Y := by
    rintro X Y ⟨z288, z289, z290, z291, z292, z293, z294, z295, z296, z297, z298, z299, z300, z301, z302, z303, z304, z305, xs⟩ hb
    have hb2 := Below.mono (B' := (v261).heap.size) hb xs
    exact ⟨keepd z288 hb2 lt306, keepd z289 hb2 lt307, keepd z290 hb2 lt308, keepd z291 hb2 lt309, keepd z292 hb2 lt310, keepd z293 hb2 lt311, keepd z294 hb2 lt312, keepd z295 hb2 lt313, keepd z296 hb2 lt314, keepd z297 hb2 lt315, keepd z298 hb2 lt316, keepd z299 hb2 lt317, keepd z300 hb2 lt318, keepd z301 hb2 lt319, keepd z302 hb2 lt320, keepd z303 hb2 lt321, keepd z304 hb2 lt322, keepd z305 hb2 lt323, Nat.le_trans xs hb.size⟩
  have hini326 : (fun Wz => Wz.cell? ⟨w.heap.size, 0, none⟩ = some (.int .i64 p.bed.eye) ∧ Wz.cell? ⟨w.heap.size, 1, none⟩ = some (.int .i64 p.bed.rings) ∧ Wz.cell? ⟨w.heap.size, 2, none⟩ = some (.int .i64 p.bed.sectors) ∧ Wz.cell? ⟨w.heap.size, 3, none⟩ = some (s) ∧ Wz.cell? ⟨w.heap.size, 4, none⟩ = some (.int .i64 p.run.eye) ∧ Wz.cell? ⟨w.heap.size, 5, none⟩ = some (.int .i64 p.run.rings) ∧ Wz.cell? ⟨w.heap.size, 6, none⟩ = some (.int .i64 p.run.sectors) ∧ Wz.cell? ⟨w.heap.size, 7, none⟩ = some (r) ∧ Wz.cell? ⟨w.heap.size, 8, none⟩ = some (d) ∧ Wz.cell? ⟨w.heap.size + 1, 0, none⟩ = some (.int .i64 a) ∧ Wz.cell? ⟨w.heap.size + 1, 1, none⟩ = some (.int .i64 b) ∧ Wz.cell? ⟨w.heap.size + 1, 2, none⟩ = some (.int .i64 t) ∧ Wz.cell? ⟨w.heap.size + 1 + 1, 0, none⟩ = some (.int .i64 mo) ∧ Wz.cell? ⟨w.heap.size + 1 + 1, 1, none⟩ = some (.int .i64 ms) ∧ Wz.cell? ⟨w.heap.size + 1 + 1, 2, none⟩ = some (.bool mc) ∧ Wz.cell? ⟨w.heap.size + 1 + 1 + 1, 0, none⟩ = some (.int .i64 0) ∧ Wz.cell? ⟨w.heap.size + 1 + 1 + 1, 1, none⟩ = some (.int .i64 0) ∧ Wz.cell? ⟨w.heap.size + 1 + 1 + 1, 2, none⟩ = some (.int .i64 0) ∧ (v261).heap.size ≤ Wz.heap.size) (v261).drew := ⟨keepd (X263.out.cell 0) hdr324 lt306, keepd (X263.out.cell 1) hdr324 lt307, keepd (X263.out.cell 2) hdr324 lt308, keepd (X263.out.cell 3) hdr324 lt309, keepd (X263.out.cell 4) hdr324 lt310, keepd (X263.out.cell 5) hdr324 lt311, keepd (X263.out.cell 6) hdr324 lt312, keepd (X263.out.cell 7) hdr324 lt313, keepd (X263.out.cell 8) hdr324 lt314, keepd (X264.out.cell 0) hdr324 lt315, keepd (X264.out.cell 1) hdr324 lt316, keepd (X264.out.cell 2) hdr324 lt317, keepd (X265.out.cell 0) hdr324 lt318, keepd (X265.out.cell 1) hdr324 lt319, keepd (X265.out.cell 2) hdr324 lt320, keepd (X266.out.cell 0) hdr324 lt321, keepd (X266.out.cell 1) hdr324 lt322, keepd (X266.out.cell 2) hdr324 lt323, Nat.le_refl _⟩
  have Hcall325 := Lib.hid hcall325
  have Hini326 := Lib.hid hini326
  clear hcall325 hini326 lt306 lt307 lt308 lt309 lt310 lt311 lt312 lt313 lt314 lt315 lt316 lt317 lt318 lt319 lt320 lt321 lt322 lt323
  clear q269 q270 q271 q272 q273 q274 q275 q276 q277 q278 q279 q280 q281 q282 q283 q284 q285 q286 fz287
  refine wp_region_noPanic ?_
  refine wp_region_held_drew (S := (fun Wz => Wz.cell? ⟨w.heap.size, 0, none⟩ = some (.int .i64 p.bed.eye) ∧ Wz.cell? ⟨w.heap.size, 1, none⟩ = some (.int .i64 p.bed.rings) ∧ Wz.cell? ⟨w.heap.size, 2, none⟩ = some (.int .i64 p.bed.sectors) ∧ Wz.cell? ⟨w.heap.size, 3, none⟩ = some (s) ∧ Wz.cell? ⟨w.heap.size, 4, none⟩ = some (.int .i64 p.run.eye) ∧ Wz.cell? ⟨w.heap.size, 5, none⟩ = some (.int .i64 p.run.rings) ∧ Wz.cell? ⟨w.heap.size, 6, none⟩ = some (.int .i64 p.run.sectors) ∧ Wz.cell? ⟨w.heap.size, 7, none⟩ = some (r) ∧ Wz.cell? ⟨w.heap.size, 8, none⟩ = some (d) ∧ Wz.cell? ⟨w.heap.size + 1, 0, none⟩ = some (.int .i64 a) ∧ Wz.cell? ⟨w.heap.size + 1, 1, none⟩ = some (.int .i64 b) ∧ Wz.cell? ⟨w.heap.size + 1, 2, none⟩ = some (.int .i64 t) ∧ Wz.cell? ⟨w.heap.size + 1 + 1, 0, none⟩ = some (.int .i64 mo) ∧ Wz.cell? ⟨w.heap.size + 1 + 1, 1, none⟩ = some (.int .i64 ms) ∧ Wz.cell? ⟨w.heap.size + 1 + 1, 2, none⟩ = some (.bool mc) ∧ Wz.cell? ⟨w.heap.size + 1 + 1 + 1, 0, none⟩ = some (.int .i64 0) ∧ Wz.cell? ⟨w.heap.size + 1 + 1 + 1, 1, none⟩ = some (.int .i64 0) ∧ Wz.cell? ⟨w.heap.size + 1 + 1 + 1, 2, none⟩ = some (.int .i64 0) ∧ (v261).heap.size ≤ Wz.heap.size)) (by kernel_rfl) Hini326.out (fun hHeld => ?_)
  obtain ⟨W328, hW329⟩ : ∃ Wzz, (v261).drew = Wzz := ⟨_, rfl⟩
  rw [hW329] at hHeld hdr324 ⊢
  clear hW329
  have X330 := Lib.hid (X263.out.later hdr324)
  have X331 := Lib.hid (X264.out.later hdr324)
  have X332 := Lib.hid (X265.out.later hdr324)
  have X333 := Lib.hid (X266.out.later hdr324)
  have C334 := Lib.hid (C267.out.later hdr324)
  have C335 := Lib.hid (HCH.out.later hdr324)
  have B336 := Lib.hid (B268.out.trans (hdr324.mono B268.out.size))
  clear hdr324
  refine wpAnyH_take (i := 0) (oi := { dst := some 20, op := Op.move (Operand.tmp 9), type := 68, pos := "crossing.go:71", after := #[], guard := none }) (v := ?vh337) rfl ?hsh337 ?hfh337 ?hrh337 ?hQh337 ?hyh337 (by assumption) ?resth337
  case hsh337 => kernel_rfl
  case hfh337 => kernel_rfl
  case hrh337 => kernel_rfl
  case hQh337 => exact fun _ _ _ h => h
  case hyh337 => (refine Or.inl ⟨by rfl, ?_⟩; intro w hSw; (try dsimp only at hSw); go_simp; try with_reducible rfl)
  try simp only [Act.put, List.setIfInBounds_toArray, List.set_cons_zero, List.set_cons_succ]
  refine wpAnyH_take (i := 1) (oi := { dst := some 21, op := Op.load 29 (Operand.tmp 4), type := 29, pos := "crossing.go:71", after := #[], guard := none }) (v := ?vh338) rfl ?hsh338 ?hfh338 ?hrh338 ?hQh338 ?hyh338 (by assumption) ?resth338
  case hsh338 => kernel_rfl
  case hfh338 => kernel_rfl
  case hrh338 => kernel_rfl
  case hQh338 => exact fun _ _ _ h => h
  case hyh338 => (refine Or.inl ⟨by rfl, ?_⟩; intro w hSw; (try dsimp only at hSw); go_simp; try with_reducible rfl)
  try simp only [Act.put, List.setIfInBounds_toArray, List.set_cons_zero, List.set_cons_succ]
  refine wpAnyH_take (i := 3) (oi := { dst := some 23, op := Op.load 41 (Operand.tmp 5), type := 41, pos := "crossing.go:71", after := #[], guard := none }) (v := ?vh339) rfl ?hsh339 ?hfh339 ?hrh339 ?hQh339 ?hyh339 (by assumption) ?resth339
  case hsh339 => kernel_rfl
  case hfh339 => kernel_rfl
  case hrh339 => kernel_rfl
  case hQh339 => exact fun _ _ _ h => h
  case hyh339 => (refine Or.inl ⟨by rfl, ?_⟩; intro w hSw; (try dsimp only at hSw); go_simp; try with_reducible rfl)
  try simp only [Act.put, List.setIfInBounds_toArray, List.set_cons_zero, List.set_cons_succ]
  refine wpAnyH_ready (rs := [2]) (by kernel_rfl) (by simp) ?_
  refine AllReadyH.cons (o := _) (by rfl) (fun K hK => ?_) AllReadyH.nil
  go_simp
  go_at_call 49
  refine (list_c p a b t g _ C335.out (asE_zero HE.out).1 (asE_zero HE.out).2).mono ?_; rintro e v340 ⟨⟨u, rfl, hu⟩, hb341⟩
  have X342 := Lib.hid (X330.out.later hb341)
  have X343 := Lib.hid (X331.out.later hb341)
  have X344 := Lib.hid (X332.out.later hb341)
  have X345 := Lib.hid (X333.out.later hb341)
  have C346 := Lib.hid (C334.out.later hb341)
  have C347 := Lib.hid (C335.out.later hb341)
  have B348 := Lib.hid (B336.out.trans (hb341.mono B336.out.size))
  clear X330 X331 X332 X333 C334 C335 B336
  have HU := Lib.hid hu
  have HUV := Lib.hid (show Moves v340 v340.heap.size u (movesL p ⟨a, b, t⟩) from hu)
  clear hu
  go_wp2_with fail
  refine hK.out _ _ (Hcall325.out _ _ hHeld (by assumption)) (fun hHeld349 => ?_)
  clear hK K hHeld
  clear hb341
  have hHeld := hHeld349
  clear hHeld349
  try simp only [Act.put, List.setIfInBounds_toArray, List.set_cons_zero, List.set_cons_succ]
  refine wpAnyH_ready (rs := [4]) (by kernel_rfl) (by simp) ?_
  refine AllReadyH.cons (o := _) (by rfl) (fun K hK => ?_) AllReadyH.nil
  go_simp
  go_at_call 51
  refine (Contains_c (movesL p ⟨a, b, t⟩) mo ms mc u _ HUV.out (listB_parts (movesL_ok (asE_zero HE.out).1 (asE_zero HE.out).2)).1.2).mono ?_; rintro e v350 ⟨rfl, hb351⟩
  have X352 := Lib.hid (X342.out.later hb351)
  have X353 := Lib.hid (X343.out.later hb351)
  have X354 := Lib.hid (X344.out.later hb351)
  have X355 := Lib.hid (X345.out.later hb351)
  have C356 := Lib.hid (C346.out.later hb351)
  have C357 := Lib.hid (C347.out.later hb351)
  have B358 := Lib.hid (B348.out.trans (hb351.mono B348.out.size))
  clear X342 X343 X344 X345 C346 C347 B348
  rw [HH.out]
  go_wp2_with fail
  refine hK.out _ _ (Hcall325.out _ _ hHeld (by assumption)) (fun hHeld359 => ?_)
  clear hK K hHeld
  clear hb351
  have hHeld := hHeld359
  clear hHeld359
  try simp only [Act.put, List.setIfInBounds_toArray, List.set_cons_zero, List.set_cons_succ]
  refine wpAnyH_take (i := 5) (oi := { dst := some 25, op := Op.unOp UnOp.not 4 (Operand.tmp 24), type := 4, pos := "crossing.go:71", after := #[{ on := 4, ground := Ground.data }], guard := none }) (v := ?vh360) rfl ?hsh360 ?hfh360 ?hrh360 ?hQh360 ?hyh360 (by assumption) ?resth360
  case hsh360 => kernel_rfl
  case hfh360 => kernel_rfl
  case hrh360 => kernel_rfl
  case hQh360 => exact fun _ _ _ h => h
  case hyh360 => (refine Or.inl ⟨by rfl, ?_⟩; intro w hSw; (try dsimp only at hSw); go_simp; try with_reducible rfl)
  try simp only [Act.put, List.setIfInBounds_toArray, List.set_cons_zero, List.set_cons_succ]
  refine wpAnyH_done (by kernel_rfl) ?_ _
  refine NoPanic.normal ?_
  clear hHeld Hcall325 Hini326
  have q361 : v350.cell? ⟨w.heap.size, 0, none⟩ = some (.int .i64 p.bed.eye) := X352.out.cell 0
  have q362 : v350.cell? ⟨w.heap.size, 1, none⟩ = some (.int .i64 p.bed.rings) := X352.out.cell 1
  have q363 : v350.cell? ⟨w.heap.size, 2, none⟩ = some (.int .i64 p.bed.sectors) := X352.out.cell 2
  have q364 : v350.cell? ⟨w.heap.size, 3, none⟩ = some (s) := X352.out.cell 3
  have q365 : v350.cell? ⟨w.heap.size, 4, none⟩ = some (.int .i64 p.run.eye) := X352.out.cell 4
  have q366 : v350.cell? ⟨w.heap.size, 5, none⟩ = some (.int .i64 p.run.rings) := X352.out.cell 5
  have q367 : v350.cell? ⟨w.heap.size, 6, none⟩ = some (.int .i64 p.run.sectors) := X352.out.cell 6
  have q368 : v350.cell? ⟨w.heap.size, 7, none⟩ = some (r) := X352.out.cell 7
  have q369 : v350.cell? ⟨w.heap.size, 8, none⟩ = some (d) := X352.out.cell 8
  have q370 : v350.cell? ⟨w.heap.size + 1, 0, none⟩ = some (.int .i64 a) := X353.out.cell 0
  have q371 : v350.cell? ⟨w.heap.size + 1, 1, none⟩ = some (.int .i64 b) := X353.out.cell 1
  have q372 : v350.cell? ⟨w.heap.size + 1, 2, none⟩ = some (.int .i64 t) := X353.out.cell 2
  have q373 : v350.cell? ⟨w.heap.size + 1 + 1, 0, none⟩ = some (.int .i64 mo) := X354.out.cell 0
  have q374 : v350.cell? ⟨w.heap.size + 1 + 1, 1, none⟩ = some (.int .i64 ms) := X354.out.cell 1
  have q375 : v350.cell? ⟨w.heap.size + 1 + 1, 2, none⟩ = some (.bool mc) := X354.out.cell 2
  have q376 : v350.cell? ⟨w.heap.size + 1 + 1 + 1, 0, none⟩ = some (.int .i64 0) := X355.out.cell 0
  have q377 : v350.cell? ⟨w.heap.size + 1 + 1 + 1, 1, none⟩ = some (.int .i64 0) := X355.out.cell 1
  have q378 : v350.cell? ⟨w.heap.size + 1 + 1 + 1, 2, none⟩ = some (.int .i64 0) := X355.out.cell 2
  have fz379 : ∀ o, v350.frozen? ⟨w.heap.size + 1 + 1 + 1, o, none⟩ = false := fun o => X355.out.free o
  go_wp2_with fail
  (try simp only [Exit.inBlock, Exit.then])
  refine endS3 (t := 6) (u := 7) (q := 8) (x := .bool false) (y := .int .i64 1) (v := .tuple #[.agg #[.int .i64 0, .int .i64 0, .int .i64 0], .bool false, .int .i64 1]) ?_ ?_ ?_ ?_ (((X355.out.put 0 (.int .i64 0)).put 1 (.int .i64 0)).put 2 (.int .i64 0)) (((B358.out.setCell (by first | (simp; done) | (simp; omega) | omega) _).setCell (by first | (simp; done) | (simp; omega) | omega) _).setCell (by first | (simp; done) | (simp; omega) | omega) _) ?_
  all_goals first | rfl | skip


theorem hasM_nth {l : List Mv} {m : Mv} (h : hasM l m = true) : ∃ k, k < l.length ∧ nthM l k = m := by
  unfold hasM at h
  rw [List.any_eq_true] at h
  obtain ⟨x, hx, he⟩ := h
  obtain ⟨k, hk, rfl⟩ := List.getElem_of_mem hx
  exact ⟨k, hk, by unfold nthM; rw [eqM_iff.1 he]; simp [hk]⟩
theorem mvB_of_has {l : List Mv} {m : Mv} (hl : listB l = true) (h : hasM l m = true) : mvB m = true := by
  obtain ⟨k, hk, rfl⟩ := hasM_nth h
  have := (listB_parts hl).2 k hk
  unfold okAt at this
  rw [Bool.and_eq_true] at this
  exact this.1
set_option maxRecDepth 100000 in
set_option maxHeartbeats 8000000 in
theorem Next_out (p : Pr) (a b t mo ms : Int) (mc : Bool) (v : Value) (w : World) (h : IsPair w w.heap.size v p) (h0 : asE p ⟨a, b, t⟩ = 0) (hh : hasM (movesL p ⟨a, b, t⟩) ⟨mo, ms, mc⟩ = true) (ho : a + mo = p.bed.rings) : Calls Try.prog 20 #[v, .agg #[.int .i64 a, .int .i64 b, .int .i64 t], .agg #[.int .i64 mo, .int .i64 ms, .bool mc]] w fun e w' => e = .returned (.tuple #[.agg #[.int .i64 0, .int .i64 0, .int .i64 0], .bool true, .int .i64 0]) ∧ Below w.heap.size w w' := by
  obtain ⟨s, r, d, hpv, -, -, -⟩ := id h
  subst hpv
  have HP0 := Lib.hid h
  have HE := Lib.hid h0
  clear h h0
  unfold pairV at *
  have HH := Lib.hid hh
  have HO := Lib.hid ho
  have HM := Lib.hid (mvB_of_has (movesL_ok (asE_zero HE.out).1 (asE_zero HE.out).2) hh)
  clear hh ho
  go_enter Try.func20, Try.ntmps20
  go_wp2_with fail
  obtain ⟨W380, hW381⟩ : ∃ Wzz, ((((w.alloc (.cells #[.int .i64 p.bed.eye, .int .i64 p.bed.rings, .int .i64 p.bed.sectors, s, .int .i64 p.run.eye, .int .i64 p.run.rings, .int .i64 p.run.sectors, r, d] 27)).alloc (.cells #[.int .i64 a, .int .i64 b, .int .i64 t] 29)).alloc (.cells #[.int .i64 mo, .int .i64 ms, .bool mc] 41)).alloc (.cells #[.int .i64 0, .int .i64 0, .int .i64 0] 29)) = Wzz := ⟨_, rfl⟩
  have B382 := Lib.hid (show Below w.heap.size w W380 by rw [← hW381]; exact (((((Below.refl w.heap.size w).alloc (Nat.le_refl _) _).alloc (by first | (simp; done) | (simp; omega)) _).alloc (by first | (simp; done) | (simp; omega)) _).alloc (by first | (simp; done) | (simp; omega)) _))
  have X383 := Lib.hid (show Box W380 (w.heap.size) 27 #[.int .i64 p.bed.eye, .int .i64 p.bed.rings, .int .i64 p.bed.sectors, s, .int .i64 p.run.eye, .int .i64 p.run.rings, .int .i64 p.run.sectors, r, d] by rw [← hW381]; exact Box.alloc (Box.alloc (Box.alloc (Box.made w 27 #[.int .i64 p.bed.eye, .int .i64 p.bed.rings, .int .i64 p.bed.sectors, s, .int .i64 p.run.eye, .int .i64 p.run.rings, .int .i64 p.run.sectors, r, d]) (.cells #[.int .i64 a, .int .i64 b, .int .i64 t] 29)) (.cells #[.int .i64 mo, .int .i64 ms, .bool mc] 41)) (.cells #[.int .i64 0, .int .i64 0, .int .i64 0] 29))
  have X384 := Lib.hid (show Box W380 (w.heap.size + 1) 29 #[.int .i64 a, .int .i64 b, .int .i64 t] by
    have hz := Box.alloc (Box.alloc (Box.made (w.alloc (.cells #[.int .i64 p.bed.eye, .int .i64 p.bed.rings, .int .i64 p.bed.sectors, s, .int .i64 p.run.eye, .int .i64 p.run.rings, .int .i64 p.run.sectors, r, d] 27)) 29 #[.int .i64 a, .int .i64 b, .int .i64 t]) (.cells #[.int .i64 mo, .int .i64 ms, .bool mc] 41)) (.cells #[.int .i64 0, .int .i64 0, .int .i64 0] 29)
    rw [World.size_alloc] at hz
    rw [← hW381]; exact hz)
  have X385 := Lib.hid (show Box W380 (w.heap.size + 1 + 1) 41 #[.int .i64 mo, .int .i64 ms, .bool mc] by
    have hz := Box.alloc (Box.made ((w.alloc (.cells #[.int .i64 p.bed.eye, .int .i64 p.bed.rings, .int .i64 p.bed.sectors, s, .int .i64 p.run.eye, .int .i64 p.run.rings, .int .i64 p.run.sectors, r, d] 27)).alloc (.cells #[.int .i64 a, .int .i64 b, .int .i64 t] 29)) 41 #[.int .i64 mo, .int .i64 ms, .bool mc]) (.cells #[.int .i64 0, .int .i64 0, .int .i64 0] 29)
    rw [World.size_alloc, World.size_alloc] at hz
    rw [← hW381]; exact hz)
  have X386 := Lib.hid (show Box W380 (w.heap.size + 1 + 1 + 1) 29 #[.int .i64 0, .int .i64 0, .int .i64 0] by
    have hz := Box.made (((w.alloc (.cells #[.int .i64 p.bed.eye, .int .i64 p.bed.rings, .int .i64 p.bed.sectors, s, .int .i64 p.run.eye, .int .i64 p.run.rings, .int .i64 p.run.sectors, r, d] 27)).alloc (.cells #[.int .i64 a, .int .i64 b, .int .i64 t] 29)).alloc (.cells #[.int .i64 mo, .int .i64 ms, .bool mc] 41)) 29 #[.int .i64 0, .int .i64 0, .int .i64 0]
    rw [World.size_alloc, World.size_alloc, World.size_alloc] at hz
    rw [← hW381]; exact hz)
  have C387 := Lib.hid (HP0.out.later B382.out)
  have SZ388 := Lib.hid (show W380.heap.size = w.heap.size + 1 + 1 + 1 + 1 by rw [← hW381]; simp)
  rw [hW381]
  clear hW381
  have q389 : W380.cell? ⟨w.heap.size, 0, none⟩ = some (.int .i64 p.bed.eye) := X383.out.cell 0
  have q390 : W380.cell? ⟨w.heap.size, 1, none⟩ = some (.int .i64 p.bed.rings) := X383.out.cell 1
  have q391 : W380.cell? ⟨w.heap.size, 2, none⟩ = some (.int .i64 p.bed.sectors) := X383.out.cell 2
  have q392 : W380.cell? ⟨w.heap.size, 3, none⟩ = some (s) := X383.out.cell 3
  have q393 : W380.cell? ⟨w.heap.size, 4, none⟩ = some (.int .i64 p.run.eye) := X383.out.cell 4
  have q394 : W380.cell? ⟨w.heap.size, 5, none⟩ = some (.int .i64 p.run.rings) := X383.out.cell 5
  have q395 : W380.cell? ⟨w.heap.size, 6, none⟩ = some (.int .i64 p.run.sectors) := X383.out.cell 6
  have q396 : W380.cell? ⟨w.heap.size, 7, none⟩ = some (r) := X383.out.cell 7
  have q397 : W380.cell? ⟨w.heap.size, 8, none⟩ = some (d) := X383.out.cell 8
  have q398 : W380.cell? ⟨w.heap.size + 1, 0, none⟩ = some (.int .i64 a) := X384.out.cell 0
  have q399 : W380.cell? ⟨w.heap.size + 1, 1, none⟩ = some (.int .i64 b) := X384.out.cell 1
  have q400 : W380.cell? ⟨w.heap.size + 1, 2, none⟩ = some (.int .i64 t) := X384.out.cell 2
  have q401 : W380.cell? ⟨w.heap.size + 1 + 1, 0, none⟩ = some (.int .i64 mo) := X385.out.cell 0
  have q402 : W380.cell? ⟨w.heap.size + 1 + 1, 1, none⟩ = some (.int .i64 ms) := X385.out.cell 1
  have q403 : W380.cell? ⟨w.heap.size + 1 + 1, 2, none⟩ = some (.bool mc) := X385.out.cell 2
  have q404 : W380.cell? ⟨w.heap.size + 1 + 1 + 1, 0, none⟩ = some (.int .i64 0) := X386.out.cell 0
  have q405 : W380.cell? ⟨w.heap.size + 1 + 1 + 1, 1, none⟩ = some (.int .i64 0) := X386.out.cell 1
  have q406 : W380.cell? ⟨w.heap.size + 1 + 1 + 1, 2, none⟩ = some (.int .i64 0) := X386.out.cell 2
  have fz407 : ∀ o, W380.frozen? ⟨w.heap.size + 1 + 1 + 1, o, none⟩ = false := fun o => X386.out.free o
  go_wp2_with fail
  refine (chartAt_ok p a b t _ _ C387.out HE.out).mono ?_; rintro e v408 ⟨⟨g, rfl, hg, hch⟩, hb409⟩
  have X410 := Lib.hid (X383.out.later hb409)
  have X411 := Lib.hid (X384.out.later hb409)
  have X412 := Lib.hid (X385.out.later hb409)
  have X413 := Lib.hid (X386.out.later hb409)
  have C414 := Lib.hid (C387.out.later hb409)
  have B415 := Lib.hid (B382.out.trans (hb409.mono B382.out.size))
  clear hb409
  have HCH := Lib.hid hch
  clear hch hg
  clear q389 q390 q391 q392 q393 q394 q395 q396 q397 q398 q399 q400 q401 q402 q403 q404 q405 q406 fz407
  have q416 : v408.cell? ⟨w.heap.size, 0, none⟩ = some (.int .i64 p.bed.eye) := X410.out.cell 0
  have q417 : v408.cell? ⟨w.heap.size, 1, none⟩ = some (.int .i64 p.bed.rings) := X410.out.cell 1
  have q418 : v408.cell? ⟨w.heap.size, 2, none⟩ = some (.int .i64 p.bed.sectors) := X410.out.cell 2
  have q419 : v408.cell? ⟨w.heap.size, 3, none⟩ = some (s) := X410.out.cell 3
  have q420 : v408.cell? ⟨w.heap.size, 4, none⟩ = some (.int .i64 p.run.eye) := X410.out.cell 4
  have q421 : v408.cell? ⟨w.heap.size, 5, none⟩ = some (.int .i64 p.run.rings) := X410.out.cell 5
  have q422 : v408.cell? ⟨w.heap.size, 6, none⟩ = some (.int .i64 p.run.sectors) := X410.out.cell 6
  have q423 : v408.cell? ⟨w.heap.size, 7, none⟩ = some (r) := X410.out.cell 7
  have q424 : v408.cell? ⟨w.heap.size, 8, none⟩ = some (d) := X410.out.cell 8
  have q425 : v408.cell? ⟨w.heap.size + 1, 0, none⟩ = some (.int .i64 a) := X411.out.cell 0
  have q426 : v408.cell? ⟨w.heap.size + 1, 1, none⟩ = some (.int .i64 b) := X411.out.cell 1
  have q427 : v408.cell? ⟨w.heap.size + 1, 2, none⟩ = some (.int .i64 t) := X411.out.cell 2
  have q428 : v408.cell? ⟨w.heap.size + 1 + 1, 0, none⟩ = some (.int .i64 mo) := X412.out.cell 0
  have q429 : v408.cell? ⟨w.heap.size + 1 + 1, 1, none⟩ = some (.int .i64 ms) := X412.out.cell 1
  have q430 : v408.cell? ⟨w.heap.size + 1 + 1, 2, none⟩ = some (.bool mc) := X412.out.cell 2
  have q431 : v408.cell? ⟨w.heap.size + 1 + 1 + 1, 0, none⟩ = some (.int .i64 0) := X413.out.cell 0
  have q432 : v408.cell? ⟨w.heap.size + 1 + 1 + 1, 1, none⟩ = some (.int .i64 0) := X413.out.cell 1
  have q433 : v408.cell? ⟨w.heap.size + 1 + 1 + 1, 2, none⟩ = some (.int .i64 0) := X413.out.cell 2
  have fz434 : ∀ o, v408.frozen? ⟨w.heap.size + 1 + 1 + 1, o, none⟩ = false := fun o => X413.out.free o
  go_wp2_with fail
  have hdr471 : Below (v408).heap.size (v408) (v408).drew := (Below.refl _ _).drew
  have lt453 := X410.out.lt
  have lt454 := X410.out.lt
  have lt455 := X410.out.lt
  have lt456 := X410.out.lt
  have lt457 := X410.out.lt
  have lt458 := X410.out.lt
  have lt459 := X410.out.lt
  have lt460 := X410.out.lt
  have lt461 := X410.out.lt
  have lt462 := X411.out.lt
  have lt463 := X411.out.lt
  have lt464 := X411.out.lt
  have lt465 := X412.out.lt
  have lt466 := X412.out.lt
  have lt467 := X412.out.lt
  have lt468 := X413.out.lt
  have lt469 := X413.out.lt
  have lt470 := X413.out.lt
  have hcall472 : ∀ X Y : World, (fun Wz => Wz.cell? ⟨w.heap.size, 0, none⟩ = some (.int .i64 p.bed.eye) ∧ Wz.cell? ⟨w.heap.size, 1, none⟩ = some (.int .i64 p.bed.rings) ∧ Wz.cell? ⟨w.heap.size, 2, none⟩ = some (.int .i64 p.bed.sectors) ∧ Wz.cell? ⟨w.heap.size, 3, none⟩ = some (s) ∧ Wz.cell? ⟨w.heap.size, 4, none⟩ = some (.int .i64 p.run.eye) ∧ Wz.cell? ⟨w.heap.size, 5, none⟩ = some (.int .i64 p.run.rings) ∧ Wz.cell? ⟨w.heap.size, 6, none⟩ = some (.int .i64 p.run.sectors) ∧ Wz.cell? ⟨w.heap.size, 7, none⟩ = some (r) ∧ Wz.cell? ⟨w.heap.size, 8, none⟩ = some (d) ∧ Wz.cell? ⟨w.heap.size + 1, 0, none⟩ = some (.int .i64 a) ∧ Wz.cell? ⟨w.heap.size + 1, 1, none⟩ = some (.int .i64 b) ∧ Wz.cell? ⟨w.heap.size + 1, 2, none⟩ = some (.int .i64 t) ∧ Wz.cell? ⟨w.heap.size + 1 + 1, 0, none⟩ = some (.int .i64 mo) ∧ Wz.cell? ⟨w.heap.size + 1 + 1, 1, none⟩ = some (.int .i64 ms) ∧ Wz.cell? ⟨w.heap.size + 1 + 1, 2, none⟩ = some (.bool mc) ∧ Wz.cell? ⟨w.heap.size + 1 + 1 + 1, 0, none⟩ = some (.int .i64 0) ∧ Wz.cell? ⟨w.heap.size + 1 + 1 + 1, 1, none⟩ = some (.int .i64 0) ∧ Wz.cell? ⟨w.heap.size + 1 + 1 + 1, 2, none⟩ = some (.int .i64 0) ∧ (v408).heap.size ≤ Wz.heap.size) X → Below X.heap.size X Y → (fun Wz => Wz.cell? ⟨w.heap.size, 0, none⟩ = some (.int .i64 p.bed.eye) ∧ Wz.cell? ⟨w.heap.size, 1, none⟩ = some (.int .i64 p.bed.rings) ∧ Wz.cell? ⟨w.heap.size, 2, none⟩ = some (.int .i64 p.bed.sectors) ∧ Wz.cell? ⟨w.heap.size, 3, none⟩ = some (s) ∧ Wz.cell? ⟨w.heap.size, 4, none⟩ = some (.int .i64 p.run.eye) ∧ Wz.cell? ⟨w.heap.size, 5, none⟩ = some (.int .i64 p.run.rings) ∧ Wz.cell? ⟨w.heap.size, 6, none⟩ = some (.int .i64 p.run.sectors) ∧ Wz.cell? ⟨w.heap.size, 7, none⟩ = some (r) ∧ Wz.cell? ⟨w.heap.size, 8, none⟩ = some (d) ∧ Wz.cell? ⟨w.heap.size + 1, 0, none⟩ = some (.int .i64 a) ∧ Wz.cell? ⟨w.heap.size + 1, 1, none⟩ = some (.int .i64 b) ∧ Wz.cell? ⟨w.heap.size + 1, 2, none⟩ = some (.int .i64 t) ∧ Wz.cell? ⟨w.heap.size + 1 + 1, 0, none⟩ = some (.int .i64 mo) ∧ Wz.cell? ⟨w.heap.size + 1 + 1, 1, none⟩ = some (.int .i64 ms) ∧ Wz.cell? ⟨w.heap.size + 1 + 1, 2, none⟩ = some (.bool mc) ∧ Wz.cell? ⟨w.heap.size + 1 + 1 + 1, 0, none⟩ = some (.int .i64 0) ∧ Wz.cell? ⟨w.heap.size + 1 + 1 + 1, 1, none⟩ = some (.int .i64 0) ∧ Wz.cell? ⟨w.heap.size + 1 + 1 + 1, 2, none⟩ = some (.int .i64 0) ∧ (v408).heap.size ≤ Wz.heap.size) Y := by
    rintro X Y ⟨z435, z436, z437, z438, z439, z440, z441, z442, z443, z444, z445, z446, z447, z448, z449, z450, z451, z452, xs⟩ hb
    have hb2 := Below.mono (B' := (v408).heap.size) hb xs
    exact ⟨keepd z435 hb2 lt453, keepd z436 hb2 lt454, keepd z437 hb2 lt455, keepd z438 hb2 lt456, keepd z439 hb2 lt457, keepd z440 hb2 lt458, keepd z441 hb2 lt459, keepd z442 hb2 lt460, keepd z443 hb2 lt461, keepd z444 hb2 lt462, keepd z445 hb2 lt463, keepd z446 hb2 lt464, keepd z447 hb2 lt465, keepd z448 hb2 lt466, keepd z449 hb2 lt467, keepd z450 hb2 lt468, keepd z451 hb2 lt469, keepd z452 hb2 lt470, Nat.le_trans xs hb.size⟩
  have hini473 : (fun Wz => Wz.cell? ⟨w.heap.size, 0, none⟩ = some (.int .i64 p.bed.eye) ∧ Wz.cell? ⟨w.heap.size, 1, none⟩ = some (.int .i64 p.bed.rings) ∧ Wz.cell? ⟨w.heap.size, 2, none⟩ = some (.int .i64 p.bed.sectors) ∧ Wz.cell? ⟨w.heap.size, 3, none⟩ = some (s) ∧ Wz.cell? ⟨w.heap.size, 4, none⟩ = some (.int .i64 p.run.eye) ∧ Wz.cell? ⟨w.heap.size, 5, none⟩ = some (.int .i64 p.run.rings) ∧ Wz.cell? ⟨w.heap.size, 6, none⟩ = some (.int .i64 p.run.sectors) ∧ Wz.cell? ⟨w.heap.size, 7, none⟩ = some (r) ∧ Wz.cell? ⟨w.heap.size, 8, none⟩ = some (d) ∧ Wz.cell? ⟨w.heap.size + 1, 0, none⟩ = some (.int .i64 a) ∧ Wz.cell? ⟨w.heap.size + 1, 1, none⟩ = some (.int .i64 b) ∧ Wz.cell? ⟨w.heap.size + 1, 2, none⟩ = some (.int .i64 t) ∧ Wz.cell? ⟨w.heap.size + 1 + 1, 0, none⟩ = some (.int .i64 mo) ∧ Wz.cell? ⟨w.heap.size + 1 + 1, 1, none⟩ = some (.int .i64 ms) ∧ Wz.cell? ⟨w.heap.size + 1 + 1, 2, none⟩ = some (.bool mc) ∧ Wz.cell? ⟨w.heap.size + 1 + 1 + 1, 0, none⟩ = some (.int .i64 0) ∧ Wz.cell? ⟨w.heap.size + 1 + 1 + 1, 1, none⟩ = some (.int .i64 0) ∧ Wz.cell? ⟨w.heap.size + 1 + 1 + 1, 2, none⟩ = some (.int .i64 0) ∧ (v408).heap.size ≤ Wz.heap.size) (v408).drew := ⟨keepd (X410.out.cell 0) hdr471 lt453, keepd (X410.out.cell 1) hdr471 lt454, keepd (X410.out.cell 2) hdr471 lt455, keepd (X410.out.cell 3) hdr471 lt456, keepd (X410.out.cell 4) hdr471 lt457, keepd (X410.out.cell 5) hdr471 lt458, keepd (X410.out.cell 6) hdr471 lt459, keepd (X410.out.cell 7) hdr471 lt460, keepd (X410.out.cell 8) hdr471 lt461, keepd (X411.out.cell 0) hdr471 lt462, keepd (X411.out.cell 1) hdr471 lt463, keepd (X411.out.cell 2) hdr471 lt464, keepd (X412.out.cell 0) hdr471 lt465, keepd (X412.out.cell 1) hdr471 lt466, keepd (X412.out.cell 2) hdr471 lt467, keepd (X413.out.cell 0) hdr471 lt468, keepd (X413.out.cell 1) hdr471 lt469, keepd (X413.out.cell 2) hdr471 lt470, Nat.le_refl _⟩
  have Hcall472 := Lib.hid hcall472
  have Hini473 := Lib.hid hini473
  clear hcall472 hini473 lt453 lt454 lt455 lt456 lt457 lt458 lt459 lt460 lt461 lt462 lt463 lt464 lt465 lt466 lt467 lt468 lt469 lt470
  clear q416 q417 q418 q419 q420 q421 q422 q423 q424 q425 q426 q427 q428 q429 q430 q431 q432 q433 fz434
  refine wp_region_noPanic ?_
  refine wp_region_held_drew (S := (fun Wz => Wz.cell? ⟨w.heap.size, 0, none⟩ = some (.int .i64 p.bed.eye) ∧ Wz.cell? ⟨w.heap.size, 1, none⟩ = some (.int .i64 p.bed.rings) ∧ Wz.cell? ⟨w.heap.size, 2, none⟩ = some (.int .i64 p.bed.sectors) ∧ Wz.cell? ⟨w.heap.size, 3, none⟩ = some (s) ∧ Wz.cell? ⟨w.heap.size, 4, none⟩ = some (.int .i64 p.run.eye) ∧ Wz.cell? ⟨w.heap.size, 5, none⟩ = some (.int .i64 p.run.rings) ∧ Wz.cell? ⟨w.heap.size, 6, none⟩ = some (.int .i64 p.run.sectors) ∧ Wz.cell? ⟨w.heap.size, 7, none⟩ = some (r) ∧ Wz.cell? ⟨w.heap.size, 8, none⟩ = some (d) ∧ Wz.cell? ⟨w.heap.size + 1, 0, none⟩ = some (.int .i64 a) ∧ Wz.cell? ⟨w.heap.size + 1, 1, none⟩ = some (.int .i64 b) ∧ Wz.cell? ⟨w.heap.size + 1, 2, none⟩ = some (.int .i64 t) ∧ Wz.cell? ⟨w.heap.size + 1 + 1, 0, none⟩ = some (.int .i64 mo) ∧ Wz.cell? ⟨w.heap.size + 1 + 1, 1, none⟩ = some (.int .i64 ms) ∧ Wz.cell? ⟨w.heap.size + 1 + 1, 2, none⟩ = some (.bool mc) ∧ Wz.cell? ⟨w.heap.size + 1 + 1 + 1, 0, none⟩ = some (.int .i64 0) ∧ Wz.cell? ⟨w.heap.size + 1 + 1 + 1, 1, none⟩ = some (.int .i64 0) ∧ Wz.cell? ⟨w.heap.size + 1 + 1 + 1, 2, none⟩ = some (.int .i64 0) ∧ (v408).heap.size ≤ Wz.heap.size)) (by kernel_rfl) Hini473.out (fun hHeld => ?_)
  obtain ⟨W475, hW476⟩ : ∃ Wzz, (v408).drew = Wzz := ⟨_, rfl⟩
  rw [hW476] at hHeld hdr471 ⊢
  clear hW476
  have X477 := Lib.hid (X410.out.later hdr471)
  have X478 := Lib.hid (X411.out.later hdr471)
  have X479 := Lib.hid (X412.out.later hdr471)
  have X480 := Lib.hid (X413.out.later hdr471)
  have C481 := Lib.hid (C414.out.later hdr471)
  have C482 := Lib.hid (HCH.out.later hdr471)
  have B483 := Lib.hid (B415.out.trans (hdr471.mono B415.out.size))
  clear hdr471
  refine wpAnyH_take (i := 0) (oi := { dst := some 20, op := Op.move (Operand.tmp 9), type := 68, pos := "crossing.go:71", after := #[], guard := none }) (v := ?vh484) rfl ?hsh484 ?hfh484 ?hrh484 ?hQh484 ?hyh484 (by assumption) ?resth484
  case hsh484 => kernel_rfl
  case hfh484 => kernel_rfl
  case hrh484 => kernel_rfl
  case hQh484 => exact fun _ _ _ h => h
  case hyh484 => (refine Or.inl ⟨by rfl, ?_⟩; intro w hSw; (try dsimp only at hSw); go_simp; try with_reducible rfl)
  try simp only [Act.put, List.setIfInBounds_toArray, List.set_cons_zero, List.set_cons_succ]
  refine wpAnyH_take (i := 1) (oi := { dst := some 21, op := Op.load 29 (Operand.tmp 4), type := 29, pos := "crossing.go:71", after := #[], guard := none }) (v := ?vh485) rfl ?hsh485 ?hfh485 ?hrh485 ?hQh485 ?hyh485 (by assumption) ?resth485
  case hsh485 => kernel_rfl
  case hfh485 => kernel_rfl
  case hrh485 => kernel_rfl
  case hQh485 => exact fun _ _ _ h => h
  case hyh485 => (refine Or.inl ⟨by rfl, ?_⟩; intro w hSw; (try dsimp only at hSw); go_simp; try with_reducible rfl)
  try simp only [Act.put, List.setIfInBounds_toArray, List.set_cons_zero, List.set_cons_succ]
  refine wpAnyH_take (i := 3) (oi := { dst := some 23, op := Op.load 41 (Operand.tmp 5), type := 41, pos := "crossing.go:71", after := #[], guard := none }) (v := ?vh486) rfl ?hsh486 ?hfh486 ?hrh486 ?hQh486 ?hyh486 (by assumption) ?resth486
  case hsh486 => kernel_rfl
  case hfh486 => kernel_rfl
  case hrh486 => kernel_rfl
  case hQh486 => exact fun _ _ _ h => h
  case hyh486 => (refine Or.inl ⟨by rfl, ?_⟩; intro w hSw; (try dsimp only at hSw); go_simp; try with_reducible rfl)
  try simp only [Act.put, List.setIfInBounds_toArray, List.set_cons_zero, List.set_cons_succ]
  refine wpAnyH_ready (rs := [2]) (by kernel_rfl) (by simp) ?_
  refine AllReadyH.cons (o := _) (by rfl) (fun K hK => ?_) AllReadyH.nil
  go_simp
  go_at_call 49
  refine (list_c p a b t g _ C482.out (asE_zero HE.out).1 (asE_zero HE.out).2).mono ?_; rintro e v487 ⟨⟨u, rfl, hu⟩, hb488⟩
  have X489 := Lib.hid (X477.out.later hb488)
  have X490 := Lib.hid (X478.out.later hb488)
  have X491 := Lib.hid (X479.out.later hb488)
  have X492 := Lib.hid (X480.out.later hb488)
  have C493 := Lib.hid (C481.out.later hb488)
  have C494 := Lib.hid (C482.out.later hb488)
  have B495 := Lib.hid (B483.out.trans (hb488.mono B483.out.size))
  clear X477 X478 X479 X480 C481 C482 B483
  have HU := Lib.hid hu
  have HUV := Lib.hid (show Moves v487 v487.heap.size u (movesL p ⟨a, b, t⟩) from hu)
  clear hu
  go_wp2_with fail
  refine hK.out _ _ (Hcall472.out _ _ hHeld (by assumption)) (fun hHeld496 => ?_)
  clear hK K hHeld
  clear hb488
  have hHeld := hHeld496
  clear hHeld496
  try simp only [Act.put, List.setIfInBounds_toArray, List.set_cons_zero, List.set_cons_succ]
  refine wpAnyH_ready (rs := [4]) (by kernel_rfl) (by simp) ?_
  refine AllReadyH.cons (o := _) (by rfl) (fun K hK => ?_) AllReadyH.nil
  go_simp
  go_at_call 51
  refine (Contains_c (movesL p ⟨a, b, t⟩) mo ms mc u _ HUV.out (listB_parts (movesL_ok (asE_zero HE.out).1 (asE_zero HE.out).2)).1.2).mono ?_; rintro e v497 ⟨rfl, hb498⟩
  have X499 := Lib.hid (X489.out.later hb498)
  have X500 := Lib.hid (X490.out.later hb498)
  have X501 := Lib.hid (X491.out.later hb498)
  have X502 := Lib.hid (X492.out.later hb498)
  have C503 := Lib.hid (C493.out.later hb498)
  have C504 := Lib.hid (C494.out.later hb498)
  have B505 := Lib.hid (B495.out.trans (hb498.mono B495.out.size))
  clear X489 X490 X491 X492 C493 C494 B495
  rw [HH.out]
  go_wp2_with fail
  refine hK.out _ _ (Hcall472.out _ _ hHeld (by assumption)) (fun hHeld506 => ?_)
  clear hK K hHeld
  clear hb498
  have hHeld := hHeld506
  clear hHeld506
  try simp only [Act.put, List.setIfInBounds_toArray, List.set_cons_zero, List.set_cons_succ]
  refine wpAnyH_take (i := 5) (oi := { dst := some 25, op := Op.unOp UnOp.not 4 (Operand.tmp 24), type := 4, pos := "crossing.go:71", after := #[{ on := 4, ground := Ground.data }], guard := none }) (v := ?vh507) rfl ?hsh507 ?hfh507 ?hrh507 ?hQh507 ?hyh507 (by assumption) ?resth507
  case hsh507 => kernel_rfl
  case hfh507 => kernel_rfl
  case hrh507 => kernel_rfl
  case hQh507 => exact fun _ _ _ h => h
  case hyh507 => (refine Or.inl ⟨by rfl, ?_⟩; intro w hSw; (try dsimp only at hSw); go_simp; try with_reducible rfl)
  try simp only [Act.put, List.setIfInBounds_toArray, List.set_cons_zero, List.set_cons_succ]
  refine wpAnyH_done (by kernel_rfl) ?_ _
  refine NoPanic.normal ?_
  clear hHeld Hcall472 Hini473
  have q508 : v497.cell? ⟨w.heap.size, 0, none⟩ = some (.int .i64 p.bed.eye) := X499.out.cell 0
  have q509 : v497.cell? ⟨w.heap.size, 1, none⟩ = some (.int .i64 p.bed.rings) := X499.out.cell 1
  have q510 : v497.cell? ⟨w.heap.size, 2, none⟩ = some (.int .i64 p.bed.sectors) := X499.out.cell 2
  have q511 : v497.cell? ⟨w.heap.size, 3, none⟩ = some (s) := X499.out.cell 3
  have q512 : v497.cell? ⟨w.heap.size, 4, none⟩ = some (.int .i64 p.run.eye) := X499.out.cell 4
  have q513 : v497.cell? ⟨w.heap.size, 5, none⟩ = some (.int .i64 p.run.rings) := X499.out.cell 5
  have q514 : v497.cell? ⟨w.heap.size, 6, none⟩ = some (.int .i64 p.run.sectors) := X499.out.cell 6
  have q515 : v497.cell? ⟨w.heap.size, 7, none⟩ = some (r) := X499.out.cell 7
  have q516 : v497.cell? ⟨w.heap.size, 8, none⟩ = some (d) := X499.out.cell 8
  have q517 : v497.cell? ⟨w.heap.size + 1, 0, none⟩ = some (.int .i64 a) := X500.out.cell 0
  have q518 : v497.cell? ⟨w.heap.size + 1, 1, none⟩ = some (.int .i64 b) := X500.out.cell 1
  have q519 : v497.cell? ⟨w.heap.size + 1, 2, none⟩ = some (.int .i64 t) := X500.out.cell 2
  have q520 : v497.cell? ⟨w.heap.size + 1 + 1, 0, none⟩ = some (.int .i64 mo) := X501.out.cell 0
  have q521 : v497.cell? ⟨w.heap.size + 1 + 1, 1, none⟩ = some (.int .i64 ms) := X501.out.cell 1
  have q522 : v497.cell? ⟨w.heap.size + 1 + 1, 2, none⟩ = some (.bool mc) := X501.out.cell 2
  have q523 : v497.cell? ⟨w.heap.size + 1 + 1 + 1, 0, none⟩ = some (.int .i64 0) := X502.out.cell 0
  have q524 : v497.cell? ⟨w.heap.size + 1 + 1 + 1, 1, none⟩ = some (.int .i64 0) := X502.out.cell 1
  have q525 : v497.cell? ⟨w.heap.size + 1 + 1 + 1, 2, none⟩ = some (.int .i64 0) := X502.out.cell 2
  have fz526 : ∀ o, v497.frozen? ⟨w.heap.size + 1 + 1 + 1, o, none⟩ = false := fun o => X502.out.free o
  go_wp2_with fail
  refine (next_out p a b t mo ms mc g _ C504.out (asE_zero HE.out).1 (asE_zero HE.out).2 HM.out HO.out).mono ?_; rintro e v527 ⟨rfl, hb528⟩
  have X529 := Lib.hid (X499.out.later hb528)
  have X530 := Lib.hid (X500.out.later hb528)
  have X531 := Lib.hid (X501.out.later hb528)
  have X532 := Lib.hid (X502.out.later hb528)
  have C533 := Lib.hid (C503.out.later hb528)
  have C534 := Lib.hid (C504.out.later hb528)
  have B535 := Lib.hid (B505.out.trans (hb528.mono B505.out.size))
  clear hb528
  unfold st0 stV
  dsimp only
  clear q508 q509 q510 q511 q512 q513 q514 q515 q516 q517 q518 q519 q520 q521 q522 q523 q524 q525 fz526
  have q536 : v527.cell? ⟨w.heap.size, 0, none⟩ = some (.int .i64 p.bed.eye) := X529.out.cell 0
  have q537 : v527.cell? ⟨w.heap.size, 1, none⟩ = some (.int .i64 p.bed.rings) := X529.out.cell 1
  have q538 : v527.cell? ⟨w.heap.size, 2, none⟩ = some (.int .i64 p.bed.sectors) := X529.out.cell 2
  have q539 : v527.cell? ⟨w.heap.size, 3, none⟩ = some (s) := X529.out.cell 3
  have q540 : v527.cell? ⟨w.heap.size, 4, none⟩ = some (.int .i64 p.run.eye) := X529.out.cell 4
  have q541 : v527.cell? ⟨w.heap.size, 5, none⟩ = some (.int .i64 p.run.rings) := X529.out.cell 5
  have q542 : v527.cell? ⟨w.heap.size, 6, none⟩ = some (.int .i64 p.run.sectors) := X529.out.cell 6
  have q543 : v527.cell? ⟨w.heap.size, 7, none⟩ = some (r) := X529.out.cell 7
  have q544 : v527.cell? ⟨w.heap.size, 8, none⟩ = some (d) := X529.out.cell 8
  have q545 : v527.cell? ⟨w.heap.size + 1, 0, none⟩ = some (.int .i64 a) := X530.out.cell 0
  have q546 : v527.cell? ⟨w.heap.size + 1, 1, none⟩ = some (.int .i64 b) := X530.out.cell 1
  have q547 : v527.cell? ⟨w.heap.size + 1, 2, none⟩ = some (.int .i64 t) := X530.out.cell 2
  have q548 : v527.cell? ⟨w.heap.size + 1 + 1, 0, none⟩ = some (.int .i64 mo) := X531.out.cell 0
  have q549 : v527.cell? ⟨w.heap.size + 1 + 1, 1, none⟩ = some (.int .i64 ms) := X531.out.cell 1
  have q550 : v527.cell? ⟨w.heap.size + 1 + 1, 2, none⟩ = some (.bool mc) := X531.out.cell 2
  have q551 : v527.cell? ⟨w.heap.size + 1 + 1 + 1, 0, none⟩ = some (.int .i64 0) := X532.out.cell 0
  have q552 : v527.cell? ⟨w.heap.size + 1 + 1 + 1, 1, none⟩ = some (.int .i64 0) := X532.out.cell 1
  have q553 : v527.cell? ⟨w.heap.size + 1 + 1 + 1, 2, none⟩ = some (.int .i64 0) := X532.out.cell 2
  have fz554 : ∀ o, v527.frozen? ⟨w.heap.size + 1 + 1 + 1, o, none⟩ = false := fun o => X532.out.free o
  go_wp2_with fail
  (try simp only [Exit.inBlock, Exit.then])
  refine endS3 (t := 6) (u := 7) (q := 8) (x := .bool true) (y := .int .i64 0) (v := .tuple #[.agg #[.int .i64 0, .int .i64 0, .int .i64 0], .bool true, .int .i64 0]) ?_ ?_ ?_ ?_ ((((((X532.out.put 0 (.int .i64 0)).put 1 (.int .i64 0)).put 2 (.int .i64 0)).put 0 (.int .i64 0)).put 1 (.int .i64 0)).put 2 (.int .i64 0)) ((((((B535.out.setCell (by first | (simp; done) | (simp; omega) | omega) _).setCell (by first | (simp; done) | (simp; omega) | omega) _).setCell (by first | (simp; done) | (simp; omega) | omega) _).setCell (by first | (simp; done) | (simp; omega) | omega) _).setCell (by first | (simp; done) | (simp; omega) | omega) _).setCell (by first | (simp; done) | (simp; omega) | omega) _) ?_
  all_goals first | rfl | (rw [HS.out]; rfl)

set_option maxRecDepth 100000 in
set_option maxHeartbeats 8000000 in
theorem Next_in (p : Pr) (a b t mo ms : Int) (mc : Bool) (v : Value) (w : World) (h : IsPair w w.heap.size v p) (h0 : asE p ⟨a, b, t⟩ = 0) (hh : hasM (movesL p ⟨a, b, t⟩) ⟨mo, ms, mc⟩ = true) (ho : a + mo ≠ p.bed.rings) : Calls Try.prog 20 #[v, .agg #[.int .i64 a, .int .i64 b, .int .i64 t], .agg #[.int .i64 mo, .int .i64 ms, .bool mc]] w fun e w' => e = .returned (.tuple #[stV (nextS p ⟨a, b, t⟩ ⟨mo, ms, mc⟩), .bool false, .int .i64 0]) ∧ Below w.heap.size w w' := by
  obtain ⟨s, r, d, hpv, -, -, -⟩ := id h
  subst hpv
  have HP0 := Lib.hid h
  have HE := Lib.hid h0
  clear h h0
  unfold pairV at *
  have HH := Lib.hid hh
  have HO := Lib.hid ho
  have HM := Lib.hid (mvB_of_has (movesL_ok (asE_zero HE.out).1 (asE_zero HE.out).2) hh)
  clear hh ho
  go_enter Try.func20, Try.ntmps20
  go_wp2_with fail
  obtain ⟨W555, hW556⟩ : ∃ Wzz, ((((w.alloc (.cells #[.int .i64 p.bed.eye, .int .i64 p.bed.rings, .int .i64 p.bed.sectors, s, .int .i64 p.run.eye, .int .i64 p.run.rings, .int .i64 p.run.sectors, r, d] 27)).alloc (.cells #[.int .i64 a, .int .i64 b, .int .i64 t] 29)).alloc (.cells #[.int .i64 mo, .int .i64 ms, .bool mc] 41)).alloc (.cells #[.int .i64 0, .int .i64 0, .int .i64 0] 29)) = Wzz := ⟨_, rfl⟩
  have B557 := Lib.hid (show Below w.heap.size w W555 by rw [← hW556]; exact (((((Below.refl w.heap.size w).alloc (Nat.le_refl _) _).alloc (by first | (simp; done) | (simp; omega)) _).alloc (by first | (simp; done) | (simp; omega)) _).alloc (by first | (simp; done) | (simp; omega)) _))
  have X558 := Lib.hid (show Box W555 (w.heap.size) 27 #[.int .i64 p.bed.eye, .int .i64 p.bed.rings, .int .i64 p.bed.sectors, s, .int .i64 p.run.eye, .int .i64 p.run.rings, .int .i64 p.run.sectors, r, d] by rw [← hW556]; exact Box.alloc (Box.alloc (Box.alloc (Box.made w 27 #[.int .i64 p.bed.eye, .int .i64 p.bed.rings, .int .i64 p.bed.sectors, s, .int .i64 p.run.eye, .int .i64 p.run.rings, .int .i64 p.run.sectors, r, d]) (.cells #[.int .i64 a, .int .i64 b, .int .i64 t] 29)) (.cells #[.int .i64 mo, .int .i64 ms, .bool mc] 41)) (.cells #[.int .i64 0, .int .i64 0, .int .i64 0] 29))
  have X559 := Lib.hid (show Box W555 (w.heap.size + 1) 29 #[.int .i64 a, .int .i64 b, .int .i64 t] by
    have hz := Box.alloc (Box.alloc (Box.made (w.alloc (.cells #[.int .i64 p.bed.eye, .int .i64 p.bed.rings, .int .i64 p.bed.sectors, s, .int .i64 p.run.eye, .int .i64 p.run.rings, .int .i64 p.run.sectors, r, d] 27)) 29 #[.int .i64 a, .int .i64 b, .int .i64 t]) (.cells #[.int .i64 mo, .int .i64 ms, .bool mc] 41)) (.cells #[.int .i64 0, .int .i64 0, .int .i64 0] 29)
    rw [World.size_alloc] at hz
    rw [← hW556]; exact hz)
  have X560 := Lib.hid (show Box W555 (w.heap.size + 1 + 1) 41 #[.int .i64 mo, .int .i64 ms, .bool mc] by
    have hz := Box.alloc (Box.made ((w.alloc (.cells #[.int .i64 p.bed.eye, .int .i64 p.bed.rings, .int .i64 p.bed.sectors, s, .int .i64 p.run.eye, .int .i64 p.run.rings, .int .i64 p.run.sectors, r, d] 27)).alloc (.cells #[.int .i64 a, .int .i64 b, .int .i64 t] 29)) 41 #[.int .i64 mo, .int .i64 ms, .bool mc]) (.cells #[.int .i64 0, .int .i64 0, .int .i64 0] 29)
    rw [World.size_alloc, World.size_alloc] at hz
    rw [← hW556]; exact hz)
  have X561 := Lib.hid (show Box W555 (w.heap.size + 1 + 1 + 1) 29 #[.int .i64 0, .int .i64 0, .int .i64 0] by
    have hz := Box.made (((w.alloc (.cells #[.int .i64 p.bed.eye, .int .i64 p.bed.rings, .int .i64 p.bed.sectors, s, .int .i64 p.run.eye, .int .i64 p.run.rings, .int .i64 p.run.sectors, r, d] 27)).alloc (.cells #[.int .i64 a, .int .i64 b, .int .i64 t] 29)).alloc (.cells #[.int .i64 mo, .int .i64 ms, .bool mc] 41)) 29 #[.int .i64 0, .int .i64 0, .int .i64 0]
    rw [World.size_alloc, World.size_alloc, World.size_alloc] at hz
    rw [← hW556]; exact hz)
  have C562 := Lib.hid (HP0.out.later B557.out)
  have SZ563 := Lib.hid (show W555.heap.size = w.heap.size + 1 + 1 + 1 + 1 by rw [← hW556]; simp)
  rw [hW556]
  clear hW556
  have q564 : W555.cell? ⟨w.heap.size, 0, none⟩ = some (.int .i64 p.bed.eye) := X558.out.cell 0
  have q565 : W555.cell? ⟨w.heap.size, 1, none⟩ = some (.int .i64 p.bed.rings) := X558.out.cell 1
  have q566 : W555.cell? ⟨w.heap.size, 2, none⟩ = some (.int .i64 p.bed.sectors) := X558.out.cell 2
  have q567 : W555.cell? ⟨w.heap.size, 3, none⟩ = some (s) := X558.out.cell 3
  have q568 : W555.cell? ⟨w.heap.size, 4, none⟩ = some (.int .i64 p.run.eye) := X558.out.cell 4
  have q569 : W555.cell? ⟨w.heap.size, 5, none⟩ = some (.int .i64 p.run.rings) := X558.out.cell 5
  have q570 : W555.cell? ⟨w.heap.size, 6, none⟩ = some (.int .i64 p.run.sectors) := X558.out.cell 6
  have q571 : W555.cell? ⟨w.heap.size, 7, none⟩ = some (r) := X558.out.cell 7
  have q572 : W555.cell? ⟨w.heap.size, 8, none⟩ = some (d) := X558.out.cell 8
  have q573 : W555.cell? ⟨w.heap.size + 1, 0, none⟩ = some (.int .i64 a) := X559.out.cell 0
  have q574 : W555.cell? ⟨w.heap.size + 1, 1, none⟩ = some (.int .i64 b) := X559.out.cell 1
  have q575 : W555.cell? ⟨w.heap.size + 1, 2, none⟩ = some (.int .i64 t) := X559.out.cell 2
  have q576 : W555.cell? ⟨w.heap.size + 1 + 1, 0, none⟩ = some (.int .i64 mo) := X560.out.cell 0
  have q577 : W555.cell? ⟨w.heap.size + 1 + 1, 1, none⟩ = some (.int .i64 ms) := X560.out.cell 1
  have q578 : W555.cell? ⟨w.heap.size + 1 + 1, 2, none⟩ = some (.bool mc) := X560.out.cell 2
  have q579 : W555.cell? ⟨w.heap.size + 1 + 1 + 1, 0, none⟩ = some (.int .i64 0) := X561.out.cell 0
  have q580 : W555.cell? ⟨w.heap.size + 1 + 1 + 1, 1, none⟩ = some (.int .i64 0) := X561.out.cell 1
  have q581 : W555.cell? ⟨w.heap.size + 1 + 1 + 1, 2, none⟩ = some (.int .i64 0) := X561.out.cell 2
  have fz582 : ∀ o, W555.frozen? ⟨w.heap.size + 1 + 1 + 1, o, none⟩ = false := fun o => X561.out.free o
  go_wp2_with fail
  refine (chartAt_ok p a b t _ _ C562.out HE.out).mono ?_; rintro e v583 ⟨⟨g, rfl, hg, hch⟩, hb584⟩
  have X585 := Lib.hid (X558.out.later hb584)
  have X586 := Lib.hid (X559.out.later hb584)
  have X587 := Lib.hid (X560.out.later hb584)
  have X588 := Lib.hid (X561.out.later hb584)
  have C589 := Lib.hid (C562.out.later hb584)
  have B590 := Lib.hid (B557.out.trans (hb584.mono B557.out.size))
  clear hb584
  have HCH := Lib.hid hch
  clear hch hg
  clear q564 q565 q566 q567 q568 q569 q570 q571 q572 q573 q574 q575 q576 q577 q578 q579 q580 q581 fz582
  have q591 : v583.cell? ⟨w.heap.size, 0, none⟩ = some (.int .i64 p.bed.eye) := X585.out.cell 0
  have q592 : v583.cell? ⟨w.heap.size, 1, none⟩ = some (.int .i64 p.bed.rings) := X585.out.cell 1
  have q593 : v583.cell? ⟨w.heap.size, 2, none⟩ = some (.int .i64 p.bed.sectors) := X585.out.cell 2
  have q594 : v583.cell? ⟨w.heap.size, 3, none⟩ = some (s) := X585.out.cell 3
  have q595 : v583.cell? ⟨w.heap.size, 4, none⟩ = some (.int .i64 p.run.eye) := X585.out.cell 4
  have q596 : v583.cell? ⟨w.heap.size, 5, none⟩ = some (.int .i64 p.run.rings) := X585.out.cell 5
  have q597 : v583.cell? ⟨w.heap.size, 6, none⟩ = some (.int .i64 p.run.sectors) := X585.out.cell 6
  have q598 : v583.cell? ⟨w.heap.size, 7, none⟩ = some (r) := X585.out.cell 7
  have q599 : v583.cell? ⟨w.heap.size, 8, none⟩ = some (d) := X585.out.cell 8
  have q600 : v583.cell? ⟨w.heap.size + 1, 0, none⟩ = some (.int .i64 a) := X586.out.cell 0
  have q601 : v583.cell? ⟨w.heap.size + 1, 1, none⟩ = some (.int .i64 b) := X586.out.cell 1
  have q602 : v583.cell? ⟨w.heap.size + 1, 2, none⟩ = some (.int .i64 t) := X586.out.cell 2
  have q603 : v583.cell? ⟨w.heap.size + 1 + 1, 0, none⟩ = some (.int .i64 mo) := X587.out.cell 0
  have q604 : v583.cell? ⟨w.heap.size + 1 + 1, 1, none⟩ = some (.int .i64 ms) := X587.out.cell 1
  have q605 : v583.cell? ⟨w.heap.size + 1 + 1, 2, none⟩ = some (.bool mc) := X587.out.cell 2
  have q606 : v583.cell? ⟨w.heap.size + 1 + 1 + 1, 0, none⟩ = some (.int .i64 0) := X588.out.cell 0
  have q607 : v583.cell? ⟨w.heap.size + 1 + 1 + 1, 1, none⟩ = some (.int .i64 0) := X588.out.cell 1
  have q608 : v583.cell? ⟨w.heap.size + 1 + 1 + 1, 2, none⟩ = some (.int .i64 0) := X588.out.cell 2
  have fz609 : ∀ o, v583.frozen? ⟨w.heap.size + 1 + 1 + 1, o, none⟩ = false := fun o => X588.out.free o
  go_wp2_with fail
  have hdr646 : Below (v583).heap.size (v583) (v583).drew := (Below.refl _ _).drew
  have lt628 := X585.out.lt
  have lt629 := X585.out.lt
  have lt630 := X585.out.lt
  have lt631 := X585.out.lt
  have lt632 := X585.out.lt
  have lt633 := X585.out.lt
  have lt634 := X585.out.lt
  have lt635 := X585.out.lt
  have lt636 := X585.out.lt
  have lt637 := X586.out.lt
  have lt638 := X586.out.lt
  have lt639 := X586.out.lt
  have lt640 := X587.out.lt
  have lt641 := X587.out.lt
  have lt642 := X587.out.lt
  have lt643 := X588.out.lt
  have lt644 := X588.out.lt
  have lt645 := X588.out.lt
  have hcall647 : ∀ X Y : World, (fun Wz => Wz.cell? ⟨w.heap.size, 0, none⟩ = some (.int .i64 p.bed.eye) ∧ Wz.cell? ⟨w.heap.size, 1, none⟩ = some (.int .i64 p.bed.rings) ∧ Wz.cell? ⟨w.heap.size, 2, none⟩ = some (.int .i64 p.bed.sectors) ∧ Wz.cell? ⟨w.heap.size, 3, none⟩ = some (s) ∧ Wz.cell? ⟨w.heap.size, 4, none⟩ = some (.int .i64 p.run.eye) ∧ Wz.cell? ⟨w.heap.size, 5, none⟩ = some (.int .i64 p.run.rings) ∧ Wz.cell? ⟨w.heap.size, 6, none⟩ = some (.int .i64 p.run.sectors) ∧ Wz.cell? ⟨w.heap.size, 7, none⟩ = some (r) ∧ Wz.cell? ⟨w.heap.size, 8, none⟩ = some (d) ∧ Wz.cell? ⟨w.heap.size + 1, 0, none⟩ = some (.int .i64 a) ∧ Wz.cell? ⟨w.heap.size + 1, 1, none⟩ = some (.int .i64 b) ∧ Wz.cell? ⟨w.heap.size + 1, 2, none⟩ = some (.int .i64 t) ∧ Wz.cell? ⟨w.heap.size + 1 + 1, 0, none⟩ = some (.int .i64 mo) ∧ Wz.cell? ⟨w.heap.size + 1 + 1, 1, none⟩ = some (.int .i64 ms) ∧ Wz.cell? ⟨w.heap.size + 1 + 1, 2, none⟩ = some (.bool mc) ∧ Wz.cell? ⟨w.heap.size + 1 + 1 + 1, 0, none⟩ = some (.int .i64 0) ∧ Wz.cell? ⟨w.heap.size + 1 + 1 + 1, 1, none⟩ = some (.int .i64 0) ∧ Wz.cell? ⟨w.heap.size + 1 + 1 + 1, 2, none⟩ = some (.int .i64 0) ∧ (v583).heap.size ≤ Wz.heap.size) X → Below X.heap.size X Y → (fun Wz => Wz.cell? ⟨w.heap.size, 0, none⟩ = some (.int .i64 p.bed.eye) ∧ Wz.cell? ⟨w.heap.size, 1, none⟩ = some (.int .i64 p.bed.rings) ∧ Wz.cell? ⟨w.heap.size, 2, none⟩ = some (.int .i64 p.bed.sectors) ∧ Wz.cell? ⟨w.heap.size, 3, none⟩ = some (s) ∧ Wz.cell? ⟨w.heap.size, 4, none⟩ = some (.int .i64 p.run.eye) ∧ Wz.cell? ⟨w.heap.size, 5, none⟩ = some (.int .i64 p.run.rings) ∧ Wz.cell? ⟨w.heap.size, 6, none⟩ = some (.int .i64 p.run.sectors) ∧ Wz.cell? ⟨w.heap.size, 7, none⟩ = some (r) ∧ Wz.cell? ⟨w.heap.size, 8, none⟩ = some (d) ∧ Wz.cell? ⟨w.heap.size + 1, 0, none⟩ = some (.int .i64 a) ∧ Wz.cell? ⟨w.heap.size + 1, 1, none⟩ = some (.int .i64 b) ∧ Wz.cell? ⟨w.heap.size + 1, 2, none⟩ = some (.int .i64 t) ∧ Wz.cell? ⟨w.heap.size + 1 + 1, 0, none⟩ = some (.int .i64 mo) ∧ Wz.cell? ⟨w.heap.size + 1 + 1, 1, none⟩ = some (.int .i64 ms) ∧ Wz.cell? ⟨w.heap.size + 1 + 1, 2, none⟩ = some (.bool mc) ∧ Wz.cell? ⟨w.heap.size + 1 + 1 + 1, 0, none⟩ = some (.int .i64 0) ∧ Wz.cell? ⟨w.heap.size + 1 + 1 + 1, 1, none⟩ = some (.int .i64 0) ∧ Wz.cell? ⟨w.heap.size + 1 + 1 + 1, 2, none⟩ = some (.int .i64 0) ∧ (v583).heap.size ≤ Wz.heap.size) Y := by
    rintro X Y ⟨z610, z611, z612, z613, z614, z615, z616, z617, z618, z619, z620, z621, z622, z623, z624, z625, z626, z627, xs⟩ hb
    have hb2 := Below.mono (B' := (v583).heap.size) hb xs
    exact ⟨keepd z610 hb2 lt628, keepd z611 hb2 lt629, keepd z612 hb2 lt630, keepd z613 hb2 lt631, keepd z614 hb2 lt632, keepd z615 hb2 lt633, keepd z616 hb2 lt634, keepd z617 hb2 lt635, keepd z618 hb2 lt636, keepd z619 hb2 lt637, keepd z620 hb2 lt638, keepd z621 hb2 lt639, keepd z622 hb2 lt640, keepd z623 hb2 lt641, keepd z624 hb2 lt642, keepd z625 hb2 lt643, keepd z626 hb2 lt644, keepd z627 hb2 lt645, Nat.le_trans xs hb.size⟩
  have hini648 : (fun Wz => Wz.cell? ⟨w.heap.size, 0, none⟩ = some (.int .i64 p.bed.eye) ∧ Wz.cell? ⟨w.heap.size, 1, none⟩ = some (.int .i64 p.bed.rings) ∧ Wz.cell? ⟨w.heap.size, 2, none⟩ = some (.int .i64 p.bed.sectors) ∧ Wz.cell? ⟨w.heap.size, 3, none⟩ = some (s) ∧ Wz.cell? ⟨w.heap.size, 4, none⟩ = some (.int .i64 p.run.eye) ∧ Wz.cell? ⟨w.heap.size, 5, none⟩ = some (.int .i64 p.run.rings) ∧ Wz.cell? ⟨w.heap.size, 6, none⟩ = some (.int .i64 p.run.sectors) ∧ Wz.cell? ⟨w.heap.size, 7, none⟩ = some (r) ∧ Wz.cell? ⟨w.heap.size, 8, none⟩ = some (d) ∧ Wz.cell? ⟨w.heap.size + 1, 0, none⟩ = some (.int .i64 a) ∧ Wz.cell? ⟨w.heap.size + 1, 1, none⟩ = some (.int .i64 b) ∧ Wz.cell? ⟨w.heap.size + 1, 2, none⟩ = some (.int .i64 t) ∧ Wz.cell? ⟨w.heap.size + 1 + 1, 0, none⟩ = some (.int .i64 mo) ∧ Wz.cell? ⟨w.heap.size + 1 + 1, 1, none⟩ = some (.int .i64 ms) ∧ Wz.cell? ⟨w.heap.size + 1 + 1, 2, none⟩ = some (.bool mc) ∧ Wz.cell? ⟨w.heap.size + 1 + 1 + 1, 0, none⟩ = some (.int .i64 0) ∧ Wz.cell? ⟨w.heap.size + 1 + 1 + 1, 1, none⟩ = some (.int .i64 0) ∧ Wz.cell? ⟨w.heap.size + 1 + 1 + 1, 2, none⟩ = some (.int .i64 0) ∧ (v583).heap.size ≤ Wz.heap.size) (v583).drew := ⟨keepd (X585.out.cell 0) hdr646 lt628, keepd (X585.out.cell 1) hdr646 lt629, keepd (X585.out.cell 2) hdr646 lt630, keepd (X585.out.cell 3) hdr646 lt631, keepd (X585.out.cell 4) hdr646 lt632, keepd (X585.out.cell 5) hdr646 lt633, keepd (X585.out.cell 6) hdr646 lt634, keepd (X585.out.cell 7) hdr646 lt635, keepd (X585.out.cell 8) hdr646 lt636, keepd (X586.out.cell 0) hdr646 lt637, keepd (X586.out.cell 1) hdr646 lt638, keepd (X586.out.cell 2) hdr646 lt639, keepd (X587.out.cell 0) hdr646 lt640, keepd (X587.out.cell 1) hdr646 lt641, keepd (X587.out.cell 2) hdr646 lt642, keepd (X588.out.cell 0) hdr646 lt643, keepd (X588.out.cell 1) hdr646 lt644, keepd (X588.out.cell 2) hdr646 lt645, Nat.le_refl _⟩
  have Hcall647 := Lib.hid hcall647
  have Hini648 := Lib.hid hini648
  clear hcall647 hini648 lt628 lt629 lt630 lt631 lt632 lt633 lt634 lt635 lt636 lt637 lt638 lt639 lt640 lt641 lt642 lt643 lt644 lt645
  clear q591 q592 q593 q594 q595 q596 q597 q598 q599 q600 q601 q602 q603 q604 q605 q606 q607 q608 fz609
  refine wp_region_noPanic ?_
  refine wp_region_held_drew (S := (fun Wz => Wz.cell? ⟨w.heap.size, 0, none⟩ = some (.int .i64 p.bed.eye) ∧ Wz.cell? ⟨w.heap.size, 1, none⟩ = some (.int .i64 p.bed.rings) ∧ Wz.cell? ⟨w.heap.size, 2, none⟩ = some (.int .i64 p.bed.sectors) ∧ Wz.cell? ⟨w.heap.size, 3, none⟩ = some (s) ∧ Wz.cell? ⟨w.heap.size, 4, none⟩ = some (.int .i64 p.run.eye) ∧ Wz.cell? ⟨w.heap.size, 5, none⟩ = some (.int .i64 p.run.rings) ∧ Wz.cell? ⟨w.heap.size, 6, none⟩ = some (.int .i64 p.run.sectors) ∧ Wz.cell? ⟨w.heap.size, 7, none⟩ = some (r) ∧ Wz.cell? ⟨w.heap.size, 8, none⟩ = some (d) ∧ Wz.cell? ⟨w.heap.size + 1, 0, none⟩ = some (.int .i64 a) ∧ Wz.cell? ⟨w.heap.size + 1, 1, none⟩ = some (.int .i64 b) ∧ Wz.cell? ⟨w.heap.size + 1, 2, none⟩ = some (.int .i64 t) ∧ Wz.cell? ⟨w.heap.size + 1 + 1, 0, none⟩ = some (.int .i64 mo) ∧ Wz.cell? ⟨w.heap.size + 1 + 1, 1, none⟩ = some (.int .i64 ms) ∧ Wz.cell? ⟨w.heap.size + 1 + 1, 2, none⟩ = some (.bool mc) ∧ Wz.cell? ⟨w.heap.size + 1 + 1 + 1, 0, none⟩ = some (.int .i64 0) ∧ Wz.cell? ⟨w.heap.size + 1 + 1 + 1, 1, none⟩ = some (.int .i64 0) ∧ Wz.cell? ⟨w.heap.size + 1 + 1 + 1, 2, none⟩ = some (.int .i64 0) ∧ (v583).heap.size ≤ Wz.heap.size)) (by kernel_rfl) Hini648.out (fun hHeld => ?_)
  obtain ⟨W650, hW651⟩ : ∃ Wzz, (v583).drew = Wzz := ⟨_, rfl⟩
  rw [hW651] at hHeld hdr646 ⊢
  clear hW651
  have X652 := Lib.hid (X585.out.later hdr646)
  have X653 := Lib.hid (X586.out.later hdr646)
  have X654 := Lib.hid (X587.out.later hdr646)
  have X655 := Lib.hid (X588.out.later hdr646)
  have C656 := Lib.hid (C589.out.later hdr646)
  have C657 := Lib.hid (HCH.out.later hdr646)
  have B658 := Lib.hid (B590.out.trans (hdr646.mono B590.out.size))
  clear hdr646
  refine wpAnyH_take (i := 0) (oi := { dst := some 20, op := Op.move (Operand.tmp 9), type := 68, pos := "crossing.go:71", after := #[], guard := none }) (v := ?vh659) rfl ?hsh659 ?hfh659 ?hrh659 ?hQh659 ?hyh659 (by assumption) ?resth659
  case hsh659 => kernel_rfl
  case hfh659 => kernel_rfl
  case hrh659 => kernel_rfl
  case hQh659 => exact fun _ _ _ h => h
  case hyh659 => (refine Or.inl ⟨by rfl, ?_⟩; intro w hSw; (try dsimp only at hSw); go_simp; try with_reducible rfl)
  try simp only [Act.put, List.setIfInBounds_toArray, List.set_cons_zero, List.set_cons_succ]
  refine wpAnyH_take (i := 1) (oi := { dst := some 21, op := Op.load 29 (Operand.tmp 4), type := 29, pos := "crossing.go:71", after := #[], guard := none }) (v := ?vh660) rfl ?hsh660 ?hfh660 ?hrh660 ?hQh660 ?hyh660 (by assumption) ?resth660
  case hsh660 => kernel_rfl
  case hfh660 => kernel_rfl
  case hrh660 => kernel_rfl
  case hQh660 => exact fun _ _ _ h => h
  case hyh660 => (refine Or.inl ⟨by rfl, ?_⟩; intro w hSw; (try dsimp only at hSw); go_simp; try with_reducible rfl)
  try simp only [Act.put, List.setIfInBounds_toArray, List.set_cons_zero, List.set_cons_succ]
  refine wpAnyH_take (i := 3) (oi := { dst := some 23, op := Op.load 41 (Operand.tmp 5), type := 41, pos := "crossing.go:71", after := #[], guard := none }) (v := ?vh661) rfl ?hsh661 ?hfh661 ?hrh661 ?hQh661 ?hyh661 (by assumption) ?resth661
  case hsh661 => kernel_rfl
  case hfh661 => kernel_rfl
  case hrh661 => kernel_rfl
  case hQh661 => exact fun _ _ _ h => h
  case hyh661 => (refine Or.inl ⟨by rfl, ?_⟩; intro w hSw; (try dsimp only at hSw); go_simp; try with_reducible rfl)
  try simp only [Act.put, List.setIfInBounds_toArray, List.set_cons_zero, List.set_cons_succ]
  refine wpAnyH_ready (rs := [2]) (by kernel_rfl) (by simp) ?_
  refine AllReadyH.cons (o := _) (by rfl) (fun K hK => ?_) AllReadyH.nil
  go_simp
  go_at_call 49
  refine (list_c p a b t g _ C657.out (asE_zero HE.out).1 (asE_zero HE.out).2).mono ?_; rintro e v662 ⟨⟨u, rfl, hu⟩, hb663⟩
  have X664 := Lib.hid (X652.out.later hb663)
  have X665 := Lib.hid (X653.out.later hb663)
  have X666 := Lib.hid (X654.out.later hb663)
  have X667 := Lib.hid (X655.out.later hb663)
  have C668 := Lib.hid (C656.out.later hb663)
  have C669 := Lib.hid (C657.out.later hb663)
  have B670 := Lib.hid (B658.out.trans (hb663.mono B658.out.size))
  clear X652 X653 X654 X655 C656 C657 B658
  have HU := Lib.hid hu
  have HUV := Lib.hid (show Moves v662 v662.heap.size u (movesL p ⟨a, b, t⟩) from hu)
  clear hu
  go_wp2_with fail
  refine hK.out _ _ (Hcall647.out _ _ hHeld (by assumption)) (fun hHeld671 => ?_)
  clear hK K hHeld
  clear hb663
  have hHeld := hHeld671
  clear hHeld671
  try simp only [Act.put, List.setIfInBounds_toArray, List.set_cons_zero, List.set_cons_succ]
  refine wpAnyH_ready (rs := [4]) (by kernel_rfl) (by simp) ?_
  refine AllReadyH.cons (o := _) (by rfl) (fun K hK => ?_) AllReadyH.nil
  go_simp
  go_at_call 51
  refine (Contains_c (movesL p ⟨a, b, t⟩) mo ms mc u _ HUV.out (listB_parts (movesL_ok (asE_zero HE.out).1 (asE_zero HE.out).2)).1.2).mono ?_; rintro e v672 ⟨rfl, hb673⟩
  have X674 := Lib.hid (X664.out.later hb673)
  have X675 := Lib.hid (X665.out.later hb673)
  have X676 := Lib.hid (X666.out.later hb673)
  have X677 := Lib.hid (X667.out.later hb673)
  have C678 := Lib.hid (C668.out.later hb673)
  have C679 := Lib.hid (C669.out.later hb673)
  have B680 := Lib.hid (B670.out.trans (hb673.mono B670.out.size))
  clear X664 X665 X666 X667 C668 C669 B670
  rw [HH.out]
  go_wp2_with fail
  refine hK.out _ _ (Hcall647.out _ _ hHeld (by assumption)) (fun hHeld681 => ?_)
  clear hK K hHeld
  clear hb673
  have hHeld := hHeld681
  clear hHeld681
  try simp only [Act.put, List.setIfInBounds_toArray, List.set_cons_zero, List.set_cons_succ]
  refine wpAnyH_take (i := 5) (oi := { dst := some 25, op := Op.unOp UnOp.not 4 (Operand.tmp 24), type := 4, pos := "crossing.go:71", after := #[{ on := 4, ground := Ground.data }], guard := none }) (v := ?vh682) rfl ?hsh682 ?hfh682 ?hrh682 ?hQh682 ?hyh682 (by assumption) ?resth682
  case hsh682 => kernel_rfl
  case hfh682 => kernel_rfl
  case hrh682 => kernel_rfl
  case hQh682 => exact fun _ _ _ h => h
  case hyh682 => (refine Or.inl ⟨by rfl, ?_⟩; intro w hSw; (try dsimp only at hSw); go_simp; try with_reducible rfl)
  try simp only [Act.put, List.setIfInBounds_toArray, List.set_cons_zero, List.set_cons_succ]
  refine wpAnyH_done (by kernel_rfl) ?_ _
  refine NoPanic.normal ?_
  clear hHeld Hcall647 Hini648
  have q683 : v672.cell? ⟨w.heap.size, 0, none⟩ = some (.int .i64 p.bed.eye) := X674.out.cell 0
  have q684 : v672.cell? ⟨w.heap.size, 1, none⟩ = some (.int .i64 p.bed.rings) := X674.out.cell 1
  have q685 : v672.cell? ⟨w.heap.size, 2, none⟩ = some (.int .i64 p.bed.sectors) := X674.out.cell 2
  have q686 : v672.cell? ⟨w.heap.size, 3, none⟩ = some (s) := X674.out.cell 3
  have q687 : v672.cell? ⟨w.heap.size, 4, none⟩ = some (.int .i64 p.run.eye) := X674.out.cell 4
  have q688 : v672.cell? ⟨w.heap.size, 5, none⟩ = some (.int .i64 p.run.rings) := X674.out.cell 5
  have q689 : v672.cell? ⟨w.heap.size, 6, none⟩ = some (.int .i64 p.run.sectors) := X674.out.cell 6
  have q690 : v672.cell? ⟨w.heap.size, 7, none⟩ = some (r) := X674.out.cell 7
  have q691 : v672.cell? ⟨w.heap.size, 8, none⟩ = some (d) := X674.out.cell 8
  have q692 : v672.cell? ⟨w.heap.size + 1, 0, none⟩ = some (.int .i64 a) := X675.out.cell 0
  have q693 : v672.cell? ⟨w.heap.size + 1, 1, none⟩ = some (.int .i64 b) := X675.out.cell 1
  have q694 : v672.cell? ⟨w.heap.size + 1, 2, none⟩ = some (.int .i64 t) := X675.out.cell 2
  have q695 : v672.cell? ⟨w.heap.size + 1 + 1, 0, none⟩ = some (.int .i64 mo) := X676.out.cell 0
  have q696 : v672.cell? ⟨w.heap.size + 1 + 1, 1, none⟩ = some (.int .i64 ms) := X676.out.cell 1
  have q697 : v672.cell? ⟨w.heap.size + 1 + 1, 2, none⟩ = some (.bool mc) := X676.out.cell 2
  have q698 : v672.cell? ⟨w.heap.size + 1 + 1 + 1, 0, none⟩ = some (.int .i64 0) := X677.out.cell 0
  have q699 : v672.cell? ⟨w.heap.size + 1 + 1 + 1, 1, none⟩ = some (.int .i64 0) := X677.out.cell 1
  have q700 : v672.cell? ⟨w.heap.size + 1 + 1 + 1, 2, none⟩ = some (.int .i64 0) := X677.out.cell 2
  have fz701 : ∀ o, v672.frozen? ⟨w.heap.size + 1 + 1 + 1, o, none⟩ = false := fun o => X677.out.free o
  go_wp2_with fail
  refine (next_in p a b t mo ms mc g _ C679.out (asE_zero HE.out).1 (asE_zero HE.out).2 HM.out HO.out).mono ?_; rintro e v702 ⟨rfl, hb703⟩
  have X704 := Lib.hid (X674.out.later hb703)
  have X705 := Lib.hid (X675.out.later hb703)
  have X706 := Lib.hid (X676.out.later hb703)
  have X707 := Lib.hid (X677.out.later hb703)
  have C708 := Lib.hid (C678.out.later hb703)
  have C709 := Lib.hid (C679.out.later hb703)
  have B710 := Lib.hid (B680.out.trans (hb703.mono B680.out.size))
  clear hb703
  obtain ⟨⟨x, y, z⟩, hs⟩ : ∃ s, nextS p ⟨a, b, t⟩ ⟨mo, ms, mc⟩ = s := ⟨_, rfl⟩
  have HS := Lib.hid hs
  rw [hs]
  clear hs
  unfold stV
  dsimp only
  clear q683 q684 q685 q686 q687 q688 q689 q690 q691 q692 q693 q694 q695 q696 q697 q698 q699 q700 fz701
  have q711 : v702.cell? ⟨w.heap.size, 0, none⟩ = some (.int .i64 p.bed.eye) := X704.out.cell 0
  have q712 : v702.cell? ⟨w.heap.size, 1, none⟩ = some (.int .i64 p.bed.rings) := X704.out.cell 1
  have q713 : v702.cell? ⟨w.heap.size, 2, none⟩ = some (.int .i64 p.bed.sectors) := X704.out.cell 2
  have q714 : v702.cell? ⟨w.heap.size, 3, none⟩ = some (s) := X704.out.cell 3
  have q715 : v702.cell? ⟨w.heap.size, 4, none⟩ = some (.int .i64 p.run.eye) := X704.out.cell 4
  have q716 : v702.cell? ⟨w.heap.size, 5, none⟩ = some (.int .i64 p.run.rings) := X704.out.cell 5
  have q717 : v702.cell? ⟨w.heap.size, 6, none⟩ = some (.int .i64 p.run.sectors) := X704.out.cell 6
  have q718 : v702.cell? ⟨w.heap.size, 7, none⟩ = some (r) := X704.out.cell 7
  have q719 : v702.cell? ⟨w.heap.size, 8, none⟩ = some (d) := X704.out.cell 8
  have q720 : v702.cell? ⟨w.heap.size + 1, 0, none⟩ = some (.int .i64 a) := X705.out.cell 0
  have q721 : v702.cell? ⟨w.heap.size + 1, 1, none⟩ = some (.int .i64 b) := X705.out.cell 1
  have q722 : v702.cell? ⟨w.heap.size + 1, 2, none⟩ = some (.int .i64 t) := X705.out.cell 2
  have q723 : v702.cell? ⟨w.heap.size + 1 + 1, 0, none⟩ = some (.int .i64 mo) := X706.out.cell 0
  have q724 : v702.cell? ⟨w.heap.size + 1 + 1, 1, none⟩ = some (.int .i64 ms) := X706.out.cell 1
  have q725 : v702.cell? ⟨w.heap.size + 1 + 1, 2, none⟩ = some (.bool mc) := X706.out.cell 2
  have q726 : v702.cell? ⟨w.heap.size + 1 + 1 + 1, 0, none⟩ = some (.int .i64 0) := X707.out.cell 0
  have q727 : v702.cell? ⟨w.heap.size + 1 + 1 + 1, 1, none⟩ = some (.int .i64 0) := X707.out.cell 1
  have q728 : v702.cell? ⟨w.heap.size + 1 + 1 + 1, 2, none⟩ = some (.int .i64 0) := X707.out.cell 2
  have fz729 : ∀ o, v702.frozen? ⟨w.heap.size + 1 + 1 + 1, o, none⟩ = false := fun o => X707.out.free o
  go_wp2_with fail
  (try simp only [Exit.inBlock, Exit.then])
  refine endS3 (t := 6) (u := 7) (q := 8) (x := .bool false) (y := .int .i64 0) (v := .tuple #[stV (nextS p ⟨a, b, t⟩ ⟨mo, ms, mc⟩), .bool false, .int .i64 0]) ?_ ?_ ?_ ?_ ((((((X707.out.put 0 (.int .i64 x)).put 1 (.int .i64 y)).put 2 (.int .i64 z)).put 0 (.int .i64 x)).put 1 (.int .i64 y)).put 2 (.int .i64 z)) ((((((B710.out.setCell (by first | (simp; done) | (simp; omega) | omega) _).setCell (by first | (simp; done) | (simp; omega) | omega) _).setCell (by first | (simp; done) | (simp; omega) | omega) _).setCell (by first | (simp; done) | (simp; omega) | omega) _).setCell (by first | (simp; done) | (simp; omega) | omega) _).setCell (by first | (simp; done) | (simp; omega) | omega) _) ?_
  all_goals first | rfl | (rw [HS.out]; rfl)

end Go.Proofs.Ytikfiallhmhicaa

/- Layer 2: the specification: where a move leads, with all errors; lists that are the same. -/
import Derived.Test.YtikfiallhmhicaaC37
set_option linter.all false
namespace Go.Proofs.Ytikfiallhmhicaa
open Go.RowKit

set_option maxRecDepth 100000 in
set_option maxHeartbeats 8000000 in
theorem kNext_bad (p : Pr) (a b t mo ms : Int) (mc : Bool) (v : Value) (w : World) (h : IsPair w w.heap.size v p) (h0 : asE p ⟨a, b, t⟩ ≠ 0) : Calls Try.prog 21 #[v, .agg #[.int .i64 a, .int .i64 b, .int .i64 t], .agg #[.int .i64 mo, .int .i64 ms, .bool mc]] w fun e w' => e = .returned (.tuple #[.agg #[.int .i64 0, .int .i64 0, .int .i64 0], .bool false, .int .i64 (asE p ⟨a, b, t⟩)]) ∧ Below w.heap.size w w' := by
  obtain ⟨s, r, d, hpv, -, -, -⟩ := id h
  subst hpv
  have HP0 := Lib.hid h
  have HE := Lib.hid h0
  clear h h0
  unfold pairV at *
  have hne : (asE p ⟨a, b, t⟩ != 0) = true := by simpa using HE.out
  have hne2 : decide (asE p ⟨a, b, t⟩ = 0) = false := by simpa using HE.out
  go_enter Try.func21, Try.ntmps21
  go_wp2_with fail
  obtain ⟨W1, hW2⟩ : ∃ Wzz, ((((w.alloc (.cells #[.int .i64 p.bed.eye, .int .i64 p.bed.rings, .int .i64 p.bed.sectors, s, .int .i64 p.run.eye, .int .i64 p.run.rings, .int .i64 p.run.sectors, r, d] 27)).alloc (.cells #[.int .i64 a, .int .i64 b, .int .i64 t] 29)).alloc (.cells #[.int .i64 mo, .int .i64 ms, .bool mc] 41)).alloc (.cells #[.int .i64 0, .int .i64 0, .int .i64 0] 29)) = Wzz := ⟨_, rfl⟩
  have B3 := Lib.hid (show Below w.heap.size w W1 by rw [← hW2]; exact (((((Below.refl w.heap.size w).alloc (Nat.le_refl _) _).alloc (by first | (simp; done) | (simp; omega)) _).alloc (by first | (simp; done) | (simp; omega)) _).alloc (by first | (simp; done) | (simp; omega)) _))
  have X4 := Lib.hid (show Box W1 (w.heap.size) 27 #[.int .i64 p.bed.eye, .int .i64 p.bed.rings, .int .i64 p.bed.sectors, s, .int .i64 p.run.eye, .int .i64 p.run.rings, .int .i64 p.run.sectors, r, d] by rw [← hW2]; exact Box.alloc (Box.alloc (Box.alloc (Box.made w 27 #[.int .i64 p.bed.eye, .int .i64 p.bed.rings, .int .i64 p.bed.sectors, s, .int .i64 p.run.eye, .int .i64 p.run.rings, .int .i64 p.run.sectors, r, d]) (.cells #[.int .i64 a, .int .i64 b, .int .i64 t] 29)) (.cells #[.int .i64 mo, .int .i64 ms, .bool mc] 41)) (.cells #[.int .i64 0, .int .i64 0, .int .i64 0] 29))
  have X5 := Lib.hid (show Box W1 (w.heap.size + 1) 29 #[.int .i64 a, .int .i64 b, .int .i64 t] by
    have hz := Box.alloc (Box.alloc (Box.made (w.alloc (.cells #[.int .i64 p.bed.eye, .int .i64 p.bed.rings, .int .i64 p.bed.sectors, s, .int .i64 p.run.eye, .int .i64 p.run.rings, .int .i64 p.run.sectors, r, d] 27)) 29 #[.int .i64 a, .int .i64 b, .int .i64 t]) (.cells #[.int .i64 mo, .int .i64 ms, .bool mc] 41)) (.cells #[.int .i64 0, .int .i64 0, .int .i64 0] 29)
    rw [World.size_alloc] at hz
    rw [← hW2]; exact hz)
  have X6 := Lib.hid (show Box W1 (w.heap.size + 1 + 1) 41 #[.int .i64 mo, .int .i64 ms, .bool mc] by
    have hz := Box.alloc (Box.made ((w.alloc (.cells #[.int .i64 p.bed.eye, .int .i64 p.bed.rings, .int .i64 p.bed.sectors, s, .int .i64 p.run.eye, .int .i64 p.run.rings, .int .i64 p.run.sectors, r, d] 27)).alloc (.cells #[.int .i64 a, .int .i64 b, .int .i64 t] 29)) 41 #[.int .i64 mo, .int .i64 ms, .bool mc]) (.cells #[.int .i64 0, .int .i64 0, .int .i64 0] 29)
    rw [World.size_alloc, World.size_alloc] at hz
    rw [← hW2]; exact hz)
  have X7 := Lib.hid (show Box W1 (w.heap.size + 1 + 1 + 1) 29 #[.int .i64 0, .int .i64 0, .int .i64 0] by
    have hz := Box.made (((w.alloc (.cells #[.int .i64 p.bed.eye, .int .i64 p.bed.rings, .int .i64 p.bed.sectors, s, .int .i64 p.run.eye, .int .i64 p.run.rings, .int .i64 p.run.sectors, r, d] 27)).alloc (.cells #[.int .i64 a, .int .i64 b, .int .i64 t] 29)).alloc (.cells #[.int .i64 mo, .int .i64 ms, .bool mc] 41)) 29 #[.int .i64 0, .int .i64 0, .int .i64 0]
    rw [World.size_alloc, World.size_alloc, World.size_alloc] at hz
    rw [← hW2]; exact hz)
  have C8 := Lib.hid (HP0.out.later B3.out)
  have SZ9 := Lib.hid (show W1.heap.size = w.heap.size + 1 + 1 + 1 + 1 by rw [← hW2]; simp)
  rw [hW2]
  clear hW2
  have q10 : W1.cell? ⟨w.heap.size, 0, none⟩ = some (.int .i64 p.bed.eye) := X4.out.cell 0
  have q11 : W1.cell? ⟨w.heap.size, 1, none⟩ = some (.int .i64 p.bed.rings) := X4.out.cell 1
  have q12 : W1.cell? ⟨w.heap.size, 2, none⟩ = some (.int .i64 p.bed.sectors) := X4.out.cell 2
  have q13 : W1.cell? ⟨w.heap.size, 3, none⟩ = some (s) := X4.out.cell 3
  have q14 : W1.cell? ⟨w.heap.size, 4, none⟩ = some (.int .i64 p.run.eye) := X4.out.cell 4
  have q15 : W1.cell? ⟨w.heap.size, 5, none⟩ = some (.int .i64 p.run.rings) := X4.out.cell 5
  have q16 : W1.cell? ⟨w.heap.size, 6, none⟩ = some (.int .i64 p.run.sectors) := X4.out.cell 6
  have q17 : W1.cell? ⟨w.heap.size, 7, none⟩ = some (r) := X4.out.cell 7
  have q18 : W1.cell? ⟨w.heap.size, 8, none⟩ = some (d) := X4.out.cell 8
  have q19 : W1.cell? ⟨w.heap.size + 1, 0, none⟩ = some (.int .i64 a) := X5.out.cell 0
  have q20 : W1.cell? ⟨w.heap.size + 1, 1, none⟩ = some (.int .i64 b) := X5.out.cell 1
  have q21 : W1.cell? ⟨w.heap.size + 1, 2, none⟩ = some (.int .i64 t) := X5.out.cell 2
  have q22 : W1.cell? ⟨w.heap.size + 1 + 1, 0, none⟩ = some (.int .i64 mo) := X6.out.cell 0
  have q23 : W1.cell? ⟨w.heap.size + 1 + 1, 1, none⟩ = some (.int .i64 ms) := X6.out.cell 1
  have q24 : W1.cell? ⟨w.heap.size + 1 + 1, 2, none⟩ = some (.bool mc) := X6.out.cell 2
  have q25 : W1.cell? ⟨w.heap.size + 1 + 1 + 1, 0, none⟩ = some (.int .i64 0) := X7.out.cell 0
  have q26 : W1.cell? ⟨w.heap.size + 1 + 1 + 1, 1, none⟩ = some (.int .i64 0) := X7.out.cell 1
  have q27 : W1.cell? ⟨w.heap.size + 1 + 1 + 1, 2, none⟩ = some (.int .i64 0) := X7.out.cell 2
  have fz28 : ∀ o, W1.frozen? ⟨w.heap.size + 1 + 1 + 1, o, none⟩ = false := fun o => X7.out.free o
  go_wp2_with fail
  refine (kasked_c p a b t _ _ C8.out trivial).mono ?_; rintro e v29 ⟨rfl, hb30⟩
  have X31 := Lib.hid (X4.out.later hb30)
  have X32 := Lib.hid (X5.out.later hb30)
  have X33 := Lib.hid (X6.out.later hb30)
  have X34 := Lib.hid (X7.out.later hb30)
  have C35 := Lib.hid (C8.out.later hb30)
  have B36 := Lib.hid (B3.out.trans (hb30.mono B3.out.size))
  clear hb30
  clear q10 q11 q12 q13 q14 q15 q16 q17 q18 q19 q20 q21 q22 q23 q24 q25 q26 q27 fz28
  have q37 : v29.cell? ⟨w.heap.size, 0, none⟩ = some (.int .i64 p.bed.eye) := X31.out.cell 0
  have q38 : v29.cell? ⟨w.heap.size, 1, none⟩ = some (.int .i64 p.bed.rings) := X31.out.cell 1
  have q39 : v29.cell? ⟨w.heap.size, 2, none⟩ = some (.int .i64 p.bed.sectors) := X31.out.cell 2
  have q40 : v29.cell? ⟨w.heap.size, 3, none⟩ = some (s) := X31.out.cell 3
  have q41 : v29.cell? ⟨w.heap.size, 4, none⟩ = some (.int .i64 p.run.eye) := X31.out.cell 4
  have q42 : v29.cell? ⟨w.heap.size, 5, none⟩ = some (.int .i64 p.run.rings) := X31.out.cell 5
  have q43 : v29.cell? ⟨w.heap.size, 6, none⟩ = some (.int .i64 p.run.sectors) := X31.out.cell 6
  have q44 : v29.cell? ⟨w.heap.size, 7, none⟩ = some (r) := X31.out.cell 7
  have q45 : v29.cell? ⟨w.heap.size, 8, none⟩ = some (d) := X31.out.cell 8
  have q46 : v29.cell? ⟨w.heap.size + 1, 0, none⟩ = some (.int .i64 a) := X32.out.cell 0
  have q47 : v29.cell? ⟨w.heap.size + 1, 1, none⟩ = some (.int .i64 b) := X32.out.cell 1
  have q48 : v29.cell? ⟨w.heap.size + 1, 2, none⟩ = some (.int .i64 t) := X32.out.cell 2
  have q49 : v29.cell? ⟨w.heap.size + 1 + 1, 0, none⟩ = some (.int .i64 mo) := X33.out.cell 0
  have q50 : v29.cell? ⟨w.heap.size + 1 + 1, 1, none⟩ = some (.int .i64 ms) := X33.out.cell 1
  have q51 : v29.cell? ⟨w.heap.size + 1 + 1, 2, none⟩ = some (.bool mc) := X33.out.cell 2
  have q52 : v29.cell? ⟨w.heap.size + 1 + 1 + 1, 0, none⟩ = some (.int .i64 0) := X34.out.cell 0
  have q53 : v29.cell? ⟨w.heap.size + 1 + 1 + 1, 1, none⟩ = some (.int .i64 0) := X34.out.cell 1
  have q54 : v29.cell? ⟨w.heap.size + 1 + 1 + 1, 2, none⟩ = some (.int .i64 0) := X34.out.cell 2
  have fz55 : ∀ o, v29.frozen? ⟨w.heap.size + 1 + 1 + 1, o, none⟩ = false := fun o => X34.out.free o
  go_wp2_with fail
  (try simp only [Exit.inBlock, Exit.then])
  refine endS3 (t := 6) (u := 7) (q := 8) (x := .bool false) (y := .int .i64 (asE p ⟨a, b, t⟩)) (v := .tuple #[.agg #[.int .i64 0, .int .i64 0, .int .i64 0], .bool false, .int .i64 (asE p ⟨a, b, t⟩)]) ?_ ?_ ?_ ?_ (((X34.out.put 0 (.int .i64 0)).put 1 (.int .i64 0)).put 2 (.int .i64 0)) (((B36.out.setCell (by first | (simp; done) | (simp; omega) | omega) _).setCell (by first | (simp; done) | (simp; omega) | omega) _).setCell (by first | (simp; done) | (simp; omega) | omega) _) ?_
  all_goals first | rfl | skip

set_option maxRecDepth 100000 in
set_option maxHeartbeats 8000000 in
theorem kNext_none (p : Pr) (a b t mo ms : Int) (mc : Bool) (v : Value) (w : World) (h : IsPair w w.heap.size v p) (h0 : asE p ⟨a, b, t⟩ = 0) (hh : hasM (movesL p ⟨a, b, t⟩) ⟨mo, ms, mc⟩ = false) : Calls Try.prog 21 #[v, .agg #[.int .i64 a, .int .i64 b, .int .i64 t], .agg #[.int .i64 mo, .int .i64 ms, .bool mc]] w fun e w' => e = .returned (.tuple #[.agg #[.int .i64 0, .int .i64 0, .int .i64 0], .bool false, .int .i64 1]) ∧ Below w.heap.size w w' := by
  obtain ⟨s, r, d, hpv, -, -, -⟩ := id h
  subst hpv
  have HP0 := Lib.hid h
  have HE := Lib.hid h0
  clear h h0
  unfold pairV at *
  have HH := Lib.hid hh
  clear hh
  go_enter Try.func21, Try.ntmps21
  go_wp2_with fail
  obtain ⟨W56, hW57⟩ : ∃ Wzz, ((((w.alloc (.cells #[.int .i64 p.bed.eye, .int .i64 p.bed.rings, .int .i64 p.bed.sectors, s, .int .i64 p.run.eye, .int .i64 p.run.rings, .int .i64 p.run.sectors, r, d] 27)).alloc (.cells #[.int .i64 a, .int .i64 b, .int .i64 t] 29)).alloc (.cells #[.int .i64 mo, .int .i64 ms, .bool mc] 41)).alloc (.cells #[.int .i64 0, .int .i64 0, .int .i64 0] 29)) = Wzz := ⟨_, rfl⟩
  have B58 := Lib.hid (show Below w.heap.size w W56 by rw [← hW57]; exact (((((Below.refl w.heap.size w).alloc (Nat.le_refl _) _).alloc (by first | (simp; done) | (simp; omega)) _).alloc (by first | (simp; done) | (simp; omega)) _).alloc (by first | (simp; done) | (simp; omega)) _))
  have X59 := Lib.hid (show Box W56 (w.heap.size) 27 #[.int .i64 p.bed.eye, .int .i64 p.bed.rings, .int .i64 p.bed.sectors, s, .int .i64 p.run.eye, .int .i64 p.run.rings, .int .i64 p.run.sectors, r, d] by rw [← hW57]; exact Box.alloc (Box.alloc (Box.alloc (Box.made w 27 #[.int .i64 p.bed.eye, .int .i64 p.bed.rings, .int .i64 p.bed.sectors, s, .int .i64 p.run.eye, .int .i64 p.run.rings, .int .i64 p.run.sectors, r, d]) (.cells #[.int .i64 a, .int .i64 b, .int .i64 t] 29)) (.cells #[.int .i64 mo, .int .i64 ms, .bool mc] 41)) (.cells #[.int .i64 0, .int .i64 0, .int .i64 0] 29))
  have X60 := Lib.hid (show Box W56 (w.heap.size + 1) 29 #[.int .i64 a, .int .i64 b, .int .i64 t] by
    have hz := Box.alloc (Box.alloc (Box.made (w.alloc (.cells #[.int .i64 p.bed.eye, .int .i64 p.bed.rings, .int .i64 p.bed.sectors, s, .int .i64 p.run.eye, .int .i64 p.run.rings, .int .i64 p.run.sectors, r, d] 27)) 29 #[.int .i64 a, .int .i64 b, .int .i64 t]) (.cells #[.int .i64 mo, .int .i64 ms, .bool mc] 41)) (.cells #[.int .i64 0, .int .i64 0, .int .i64 0] 29)
    rw [World.size_alloc] at hz
    rw [← hW57]; exact hz)
  have X61 := Lib.hid (show Box W56 (w.heap.size + 1 + 1) 41 #[.int .i64 mo, .int .i64 ms, .bool mc] by
    have hz := Box.alloc (Box.made ((w.alloc (.cells #[.int .i64 p.bed.eye, .int .i64 p.bed.rings, .int .i64 p.bed.sectors, s, .int .i64 p.run.eye, .int .i64 p.run.rings, .int .i64 p.run.sectors, r, d] 27)).alloc (.cells #[.int .i64 a, .int .i64 b, .int .i64 t] 29)) 41 #[.int .i64 mo, .int .i64 ms, .bool mc]) (.cells #[.int .i64 0, .int .i64 0, .int .i64 0] 29)
    rw [World.size_alloc, World.size_alloc] at hz
    rw [← hW57]; exact hz)
  have X62 := Lib.hid (show Box W56 (w.heap.size + 1 + 1 + 1) 29 #[.int .i64 0, .int .i64 0, .int .i64 0] by
    have hz := Box.made (((w.alloc (.cells #[.int .i64 p.bed.eye, .int .i64 p.bed.rings, .int .i64 p.bed.sectors, s, .int .i64 p.run.eye, .int .i64 p.run.rings, .int .i64 p.run.sectors, r, d] 27)).alloc (.cells #[.int .i64 a, .int .i64 b, .int .i64 t] 29)).alloc (.cells #[.int .i64 mo, .int .i64 ms, .bool mc] 41)) 29 #[.int .i64 0, .int .i64 0, .int .i64 0]
    rw [World.size_alloc, World.size_alloc, World.size_alloc] at hz
    rw [← hW57]; exact hz)
  have C63 := Lib.hid (HP0.out.later B58.out)
  have SZ64 := Lib.hid (show W56.heap.size = w.heap.size + 1 + 1 + 1 + 1 by rw [← hW57]; simp)
  rw [hW57]
  clear hW57
  have q65 : W56.cell? ⟨w.heap.size, 0, none⟩ = some (.int .i64 p.bed.eye) := X59.out.cell 0
  have q66 : W56.cell? ⟨w.heap.size, 1, none⟩ = some (.int .i64 p.bed.rings) := X59.out.cell 1
  have q67 : W56.cell? ⟨w.heap.size, 2, none⟩ = some (.int .i64 p.bed.sectors) := X59.out.cell 2
  have q68 : W56.cell? ⟨w.heap.size, 3, none⟩ = some (s) := X59.out.cell 3
  have q69 : W56.cell? ⟨w.heap.size, 4, none⟩ = some (.int .i64 p.run.eye) := X59.out.cell 4
  have q70 : W56.cell? ⟨w.heap.size, 5, none⟩ = some (.int .i64 p.run.rings) := X59.out.cell 5
  have q71 : W56.cell? ⟨w.heap.size, 6, none⟩ = some (.int .i64 p.run.sectors) := X59.out.cell 6
  have q72 : W56.cell? ⟨w.heap.size, 7, none⟩ = some (r) := X59.out.cell 7
  have q73 : W56.cell? ⟨w.heap.size, 8, none⟩ = some (d) := X59.out.cell 8
  have q74 : W56.cell? ⟨w.heap.size + 1, 0, none⟩ = some (.int .i64 a) := X60.out.cell 0
  have q75 : W56.cell? ⟨w.heap.size + 1, 1, none⟩ = some (.int .i64 b) := X60.out.cell 1
  have q76 : W56.cell? ⟨w.heap.size + 1, 2, none⟩ = some (.int .i64 t) := X60.out.cell 2
  have q77 : W56.cell? ⟨w.heap.size + 1 + 1, 0, none⟩ = some (.int .i64 mo) := X61.out.cell 0
  have q78 : W56.cell? ⟨w.heap.size + 1 + 1, 1, none⟩ = some (.int .i64 ms) := X61.out.cell 1
  have q79 : W56.cell? ⟨w.heap.size + 1 + 1, 2, none⟩ = some (.bool mc) := X61.out.cell 2
  have q80 : W56.cell? ⟨w.heap.size + 1 + 1 + 1, 0, none⟩ = some (.int .i64 0) := X62.out.cell 0
  have q81 : W56.cell? ⟨w.heap.size + 1 + 1 + 1, 1, none⟩ = some (.int .i64 0) := X62.out.cell 1
  have q82 : W56.cell? ⟨w.heap.size + 1 + 1 + 1, 2, none⟩ = some (.int .i64 0) := X62.out.cell 2
  have fz83 : ∀ o, W56.frozen? ⟨w.heap.size + 1 + 1 + 1, o, none⟩ = false := fun o => X62.out.free o
  go_wp2_with fail
  refine (kasked_c p a b t _ _ C63.out trivial).mono ?_; rintro e v84 ⟨rfl, hb85⟩
  have X86 := Lib.hid (X59.out.later hb85)
  have X87 := Lib.hid (X60.out.later hb85)
  have X88 := Lib.hid (X61.out.later hb85)
  have X89 := Lib.hid (X62.out.later hb85)
  have C90 := Lib.hid (C63.out.later hb85)
  have B91 := Lib.hid (B58.out.trans (hb85.mono B58.out.size))
  clear hb85
  rw [HE.out]
  clear q65 q66 q67 q68 q69 q70 q71 q72 q73 q74 q75 q76 q77 q78 q79 q80 q81 q82 fz83
  have q92 : v84.cell? ⟨w.heap.size, 0, none⟩ = some (.int .i64 p.bed.eye) := X86.out.cell 0
  have q93 : v84.cell? ⟨w.heap.size, 1, none⟩ = some (.int .i64 p.bed.rings) := X86.out.cell 1
  have q94 : v84.cell? ⟨w.heap.size, 2, none⟩ = some (.int .i64 p.bed.sectors) := X86.out.cell 2
  have q95 : v84.cell? ⟨w.heap.size, 3, none⟩ = some (s) := X86.out.cell 3
  have q96 : v84.cell? ⟨w.heap.size, 4, none⟩ = some (.int .i64 p.run.eye) := X86.out.cell 4
  have q97 : v84.cell? ⟨w.heap.size, 5, none⟩ = some (.int .i64 p.run.rings) := X86.out.cell 5
  have q98 : v84.cell? ⟨w.heap.size, 6, none⟩ = some (.int .i64 p.run.sectors) := X86.out.cell 6
  have q99 : v84.cell? ⟨w.heap.size, 7, none⟩ = some (r) := X86.out.cell 7
  have q100 : v84.cell? ⟨w.heap.size, 8, none⟩ = some (d) := X86.out.cell 8
  have q101 : v84.cell? ⟨w.heap.size + 1, 0, none⟩ = some (.int .i64 a) := X87.out.cell 0
  have q102 : v84.cell? ⟨w.heap.size + 1, 1, none⟩ = some (.int .i64 b) := X87.out.cell 1
  have q103 : v84.cell? ⟨w.heap.size + 1, 2, none⟩ = some (.int .i64 t) := X87.out.cell 2
  have q104 : v84.cell? ⟨w.heap.size + 1 + 1, 0, none⟩ = some (.int .i64 mo) := X88.out.cell 0
  have q105 : v84.cell? ⟨w.heap.size + 1 + 1, 1, none⟩ = some (.int .i64 ms) := X88.out.cell 1
  have q106 : v84.cell? ⟨w.heap.size + 1 + 1, 2, none⟩ = some (.bool mc) := X88.out.cell 2
  have q107 : v84.cell? ⟨w.heap.size + 1 + 1 + 1, 0, none⟩ = some (.int .i64 0) := X89.out.cell 0
  have q108 : v84.cell? ⟨w.heap.size + 1 + 1 + 1, 1, none⟩ = some (.int .i64 0) := X89.out.cell 1
  have q109 : v84.cell? ⟨w.heap.size + 1 + 1 + 1, 2, none⟩ = some (.int .i64 0) := X89.out.cell 2
  have fz110 : ∀ o, v84.frozen? ⟨w.heap.size + 1 + 1 + 1, o, none⟩ = false := fun o => X89.out.free o
  go_wp2_with fail
  have hdr147 : Below (v84).heap.size (v84) (v84).drew := (Below.refl _ _).drew
  have lt129 := X86.out.lt
  have lt130 := X86.out.lt
  have lt131 := X86.out.lt
  have lt132 := X86.out.lt
  have lt133 := X86.out.lt
  have lt134 := X86.out.lt
  have lt135 := X86.out.lt
  have lt136 := X86.out.lt
  have lt137 := X86.out.lt
  have lt138 := X87.out.lt
  have lt139 := X87.out.lt
  have lt140 := X87.out.lt
  have lt141 := X88.out.lt
  have lt142 := X88.out.lt
  have lt143 := X88.out.lt
  have lt144 := X89.out.lt
  have lt145 := X89.out.lt
  have lt146 := X89.out.lt
  have hcall148 : ∀ X Y : World, (fun Wz => Wz.cell? ⟨w.heap.size, 0, none⟩ = some (.int .i64 p.bed.eye) ∧ Wz.cell? ⟨w.heap.size, 1, none⟩ = some (.int .i64 p.bed.rings) ∧ Wz.cell? ⟨w.heap.size, 2, none⟩ = some (.int .i64 p.bed.sectors) ∧ Wz.cell? ⟨w.heap.size, 3, none⟩ = some (s) ∧ Wz.cell? ⟨w.heap.size, 4, none⟩ = some (.int .i64 p.run.eye) ∧ Wz.cell? ⟨w.heap.size, 5, none⟩ = some (.int .i64 p.run.rings) ∧ Wz.cell? ⟨w.heap.size, 6, none⟩ = some (.int .i64 p.run.sectors) ∧ Wz.cell? ⟨w.heap.size, 7, none⟩ = some (r) ∧ Wz.cell? ⟨w.heap.size, 8, none⟩ = some (d) ∧ Wz.cell? ⟨w.heap.size + 1, 0, none⟩ = some (.int .i64 a) ∧ Wz.cell? ⟨w.heap.size + 1, 1, none⟩ = some (.int .i64 b) ∧ Wz.cell? ⟨w.heap.size + 1, 2, none⟩ = some (.int .i64 t) ∧ Wz.cell? ⟨w.heap.size + 1 + 1, 0, none⟩ = some (.int .i64 mo) ∧ Wz.cell? ⟨w.heap.size + 1 + 1, 1, none⟩ = some (.int .i64 ms) ∧ Wz.cell? ⟨w.heap.size + 1 + 1, 2, none⟩ = some (.bool mc) ∧ Wz.cell? ⟨w.heap.size + 1 + 1 + 1, 0, none⟩ = some (.int .i64 0) ∧ Wz.cell? ⟨w.heap.size + 1 + 1 + 1, 1, none⟩ = some (.int .i64 0) ∧ Wz.cell? ⟨w.heap.size + 1 + 1 + 1, 2, none⟩ = some (.int .i64 0) ∧ (v84).heap.size ≤ Wz.heap.size) X → Below X.heap.size X Y → (fun Wz => Wz.cell? ⟨w.heap.size, 0, none⟩ = some (.int .i64 p.bed.eye) ∧ Wz.cell? ⟨w.heap.size, 1, none⟩ = some (.int .i64 p.bed.rings) ∧ Wz.cell? ⟨w.heap.size, 2, none⟩ = some (.int .i64 p.bed.sectors) ∧ Wz.cell? ⟨w.heap.size, 3, none⟩ = some (s) ∧ Wz.cell? ⟨w.heap.size, 4, none⟩ = some (.int .i64 p.run.eye) ∧ Wz.cell? ⟨w.heap.size, 5, none⟩ = some (.int .i64 p.run.rings) ∧ Wz.cell? ⟨w.heap.size, 6, none⟩ = some (.int .i64 p.run.sectors) ∧ Wz.cell? ⟨w.heap.size, 7, none⟩ = some (r) ∧ Wz.cell? ⟨w.heap.size, 8, none⟩ = some (d) ∧ Wz.cell? ⟨w.heap.size + 1, 0, none⟩ = some (.int .i64 a) ∧ Wz.cell? ⟨w.heap.size + 1, 1, none⟩ = some (.int .i64 b) ∧ Wz.cell? ⟨w.heap.size + 1, 2, none⟩ = some (.int .i64 t) ∧ Wz.cell? ⟨w.heap.size + 1 + 1, 0, none⟩ = some (.int .i64 mo) ∧ Wz.cell? ⟨w.heap.size + 1 + 1, 1, none⟩ = some (.int .i64 ms) ∧ Wz.cell? ⟨w.heap.size + 1 + 1, 2, none⟩ = some (.bool mc) ∧ Wz.cell? ⟨w.heap.size + 1 + 1 + 1, 0, none⟩ = some (.int .i64 0) ∧ Wz.cell? ⟨w.heap.size + 1 + 1 + 1, 1, none⟩ = some (.int .i64 0) ∧ Wz.cell? ⟨w.heap.size + 1 + 1 + 1, 2, none⟩ = some (.int .i64 0) ∧ (v84).heap.size ≤ Wz.heap.size) Y := by
    rintro X Y ⟨z111, z112, z113, z114, z115, z116, z117, z118, z119, z120, z121, z122, z123, z124, z125, z126, z127, z128, xs⟩ hb
    have hb2 := Below.mono (B' := (v84).heap.size) hb xs
    exact ⟨keepd z111 hb2 lt129, keepd z112 hb2 lt130, keepd z113 hb2 lt131, keepd z114 hb2 lt132, keepd z115 hb2 lt133, keepd z116 hb2 lt134, keepd z117 hb2 lt135, keepd z118 hb2 lt136, keepd z119 hb2 lt137, keepd z120 hb2 lt138, keepd z121 hb2 lt139, keepd z122 hb2 lt140, keepd z123 hb2 lt141, keepd z124 hb2 lt142, keepd z125 hb2 lt143, keepd z126 hb2 lt144, keepd z127 hb2 lt145, keepd z128 hb2 lt146, Nat.le_trans xs hb.size⟩
  have hini149 : (fun Wz => Wz.cell? ⟨w.heap.size, 0, none⟩ = some (.int .i64 p.bed.eye) ∧ Wz.cell? ⟨w.heap.size, 1, none⟩ = some (.int .i64 p.bed.rings) ∧ Wz.cell? ⟨w.heap.size, 2, none⟩ = some (.int .i64 p.bed.sectors) ∧ Wz.cell? ⟨w.heap.size, 3, none⟩ = some (s) ∧ Wz.cell? ⟨w.heap.size, 4, none⟩ = some (.int .i64 p.run.eye) ∧ Wz.cell? ⟨w.heap.size, 5, none⟩ = some (.int .i64 p.run.rings) ∧ Wz.cell? ⟨w.heap.size, 6, none⟩ = some (.int .i64 p.run.sectors) ∧ Wz.cell? ⟨w.heap.size, 7, none⟩ = some (r) ∧ Wz.cell? ⟨w.heap.size, 8, none⟩ = some (d) ∧ Wz.cell? ⟨w.heap.size + 1, 0, none⟩ = some (.int .i64 a) ∧ Wz.cell? ⟨w.heap.size + 1, 1, none⟩ = some (.int .i64 b) ∧ Wz.cell? ⟨w.heap.size + 1, 2, none⟩ = some (.int .i64 t) ∧ Wz.cell? ⟨w.heap.size + 1 + 1, 0, none⟩ = some (.int .i64 mo) ∧ Wz.cell? ⟨w.heap.size + 1 + 1, 1, none⟩ = some (.int .i64 ms) ∧ Wz.cell? ⟨w.heap.size + 1 + 1, 2, none⟩ = some (.bool mc) ∧ Wz.cell? ⟨w.heap.size + 1 + 1 + 1, 0, none⟩ = some (.int .i64 0) ∧ Wz.cell? ⟨w.heap.size + 1 + 1 + 1, 1, none⟩ = some (.int .i64 0) ∧ Wz.cell? ⟨w.heap.size + 1 + 1 + 1, 2, none⟩ = some (.int .i64 0) ∧ (v84).heap.size ≤ Wz.heap.size) (v84).drew := ⟨keepd (X86.out.cell 0) hdr147 lt129, keepd (X86.out.cell 1) hdr147 lt130, keepd (X86.out.cell 2) hdr147 lt131, keepd (X86.out.cell 3) hdr147 lt132, keepd (X86.out.cell 4) hdr147 lt133, keepd (X86.out.cell 5) hdr147 lt134, keepd (X86.out.cell 6) hdr147 lt135, keepd (X86.out.cell 7) hdr147 lt136, keepd (X86.out.cell 8) hdr147 lt137, keepd (X87.out.cell 0) hdr147 lt138, keepd (X87.out.cell 1) hdr147 lt139, keepd (X87.out.cell 2) hdr147 lt140, keepd (X88.out.cell 0) hdr147 lt141, keepd (X88.out.cell 1) hdr147 lt142, keepd (X88.out.cell 2) hdr147 lt143, keepd (X89.out.cell 0) hdr147 lt144, keepd (X89.out.cell 1) hdr147 lt145, keepd (X89.out.cell 2) hdr147 lt146, Nat.le_refl _⟩
  have Hcall148 := Lib.hid hcall148
  have Hini149 := Lib.hid hini149
  clear hcall148 hini149 lt129 lt130 lt131 lt132 lt133 lt134 lt135 lt136 lt137 lt138 lt139 lt140 lt141 lt142 lt143 lt144 lt145 lt146
  clear q92 q93 q94 q95 q96 q97 q98 q99 q100 q101 q102 q103 q104 q105 q106 q107 q108 q109 fz110
  refine wp_region_noPanic ?_
  refine wp_region_held_drew (S := (fun Wz => Wz.cell? ⟨w.heap.size, 0, none⟩ = some (.int .i64 p.bed.eye) ∧ Wz.cell? ⟨w.heap.size, 1, none⟩ = some (.int .i64 p.bed.rings) ∧ Wz.cell? ⟨w.heap.size, 2, none⟩ = some (.int .i64 p.bed.sectors) ∧ Wz.cell? ⟨w.heap.size, 3, none⟩ = some (s) ∧ Wz.cell? ⟨w.heap.size, 4, none⟩ = some (.int .i64 p.run.eye) ∧ Wz.cell? ⟨w.heap.size, 5, none⟩ = some (.int .i64 p.run.rings) ∧ Wz.cell? ⟨w.heap.size, 6, none⟩ = some (.int .i64 p.run.sectors) ∧ Wz.cell? ⟨w.heap.size, 7, none⟩ = some (r) ∧ Wz.cell? ⟨w.heap.size, 8, none⟩ = some (d) ∧ Wz.cell? ⟨w.heap.size + 1, 0, none⟩ = some (.int .i64 a) ∧ Wz.cell? ⟨w.heap.size + 1, 1, none⟩ = some (.int .i64 b) ∧ Wz.cell? ⟨w.heap.size + 1, 2, none⟩ = some (.int .i64 t) ∧ Wz.cell? ⟨w.heap.size + 1 + 1, 0, none⟩ = some (.int .i64 mo) ∧ Wz.cell? ⟨w.heap.size + 1 + 1, 1, none⟩ = some (.int .i64 ms) ∧ Wz.cell? ⟨w.heap.size + 1 + 1, 2, none⟩ = some (.bool mc) ∧ Wz.cell? ⟨w.heap.size + 1 + 1 + 1, 0, none⟩ = some (.int .i64 0) ∧ Wz.cell? ⟨w.heap.size + 1 + 1 + 1, 1, none⟩ = some (.int .i64 0) ∧ Wz.cell? ⟨w.heap.size + 1 + 1 + 1, 2, none⟩ = some (.int .i64 0) ∧ (v84).heap.size ≤ Wz.heap.size)) (by kernel_rfl) Hini149.out (fun hHeld => ?_)
  obtain ⟨W151, hW152⟩ : ∃ Wzz, (v84).drew = Wzz := ⟨_, rfl⟩
  rw [hW152] at hHeld hdr147 ⊢
  clear hW152
  have X153 := Lib.hid (X86.out.later hdr147)
  have X154 := Lib.hid (X87.out.later hdr147)
  have X155 := Lib.hid (X88.out.later hdr147)
  have X156 := Lib.hid (X89.out.later hdr147)
  have C157 := Lib.hid (C90.out.later hdr147)
  have B158 := Lib.hid (B91.out.trans (hdr147.mono B91.out.size))
  clear hdr147
  refine wpAnyH_take (i := 0) (oi := { dst := some 19, op := Op.load 41 (Operand.tmp 5), type := 41, pos := "ref.go:166", after := #[], guard := none }) (v := ?vh159) rfl ?hsh159 ?hfh159 ?hrh159 ?hQh159 ?hyh159 (by assumption) ?resth159
  case hsh159 => kernel_rfl
  case hfh159 => kernel_rfl
  case hrh159 => kernel_rfl
  case hQh159 => exact fun _ _ _ h => h
  case hyh159 => (refine Or.inl ⟨by rfl, ?_⟩; intro w hSw; (try dsimp only at hSw); go_simp; try with_reducible rfl)
  try simp only [Act.put, List.setIfInBounds_toArray, List.set_cons_zero, List.set_cons_succ]
  refine wpAnyH_take (i := 1) (oi := { dst := some 20, op := Op.load 27 (Operand.tmp 3), type := 27, pos := "ref.go:166", after := #[], guard := none }) (v := ?vh160) rfl ?hsh160 ?hfh160 ?hrh160 ?hQh160 ?hyh160 (by assumption) ?resth160
  case hsh160 => kernel_rfl
  case hfh160 => kernel_rfl
  case hrh160 => kernel_rfl
  case hQh160 => exact fun _ _ _ h => h
  case hyh160 => (refine Or.inl ⟨by rfl, ?_⟩; intro w hSw; (try dsimp only at hSw); go_simp; try with_reducible rfl)
  try simp only [Act.put, List.setIfInBounds_toArray, List.set_cons_zero, List.set_cons_succ]
  refine wpAnyH_take (i := 2) (oi := { dst := some 21, op := Op.load 29 (Operand.tmp 4), type := 29, pos := "ref.go:166", after := #[], guard := none }) (v := ?vh161) rfl ?hsh161 ?hfh161 ?hrh161 ?hQh161 ?hyh161 (by assumption) ?resth161
  case hsh161 => kernel_rfl
  case hfh161 => kernel_rfl
  case hrh161 => kernel_rfl
  case hQh161 => exact fun _ _ _ h => h
  case hyh161 => (refine Or.inl ⟨by rfl, ?_⟩; intro w hSw; (try dsimp only at hSw); go_simp; try with_reducible rfl)
  try simp only [Act.put, List.setIfInBounds_toArray, List.set_cons_zero, List.set_cons_succ]
  refine wpAnyH_ready (rs := [3]) (by kernel_rfl) (by simp) ?_
  refine AllReadyH.cons (o := _) (by rfl) (fun K hK => ?_) AllReadyH.nil
  go_simp
  go_at_call 50
  refine (kMovesOf_c p a b t _ _ C157.out (asE_zero HE.out).1 (asE_zero HE.out).2).mono ?_; rintro e v162 ⟨⟨u, rfl, hu⟩, hb163⟩
  have X164 := Lib.hid (X153.out.later hb163)
  have X165 := Lib.hid (X154.out.later hb163)
  have X166 := Lib.hid (X155.out.later hb163)
  have X167 := Lib.hid (X156.out.later hb163)
  have C168 := Lib.hid (C157.out.later hb163)
  have B169 := Lib.hid (B158.out.trans (hb163.mono B158.out.size))
  clear X153 X154 X155 X156 C157 B158
  have HUV := Lib.hid hu
  clear hu
  go_wp2_with fail
  refine hK.out _ _ (Hcall148.out _ _ hHeld (by assumption)) (fun hHeld170 => ?_)
  clear hK K hHeld
  clear hb163
  have hHeld := hHeld170
  clear hHeld170
  try simp only [Act.put, List.setIfInBounds_toArray, List.set_cons_zero, List.set_cons_succ]
  refine wpAnyH_ready (rs := [4]) (by kernel_rfl) (by simp) ?_
  refine AllReadyH.cons (o := _) (by rfl) (fun K hK => ?_) AllReadyH.nil
  go_simp
  go_at_call 53
  refine (kof_c (movesL p ⟨a, b, t⟩) mo ms mc u _ HUV.out (listB_parts (movesL_ok (asE_zero HE.out).1 (asE_zero HE.out).2)).1.2).mono ?_; rintro e v171 ⟨rfl, hb172⟩
  have X173 := Lib.hid (X164.out.later hb172)
  have X174 := Lib.hid (X165.out.later hb172)
  have X175 := Lib.hid (X166.out.later hb172)
  have X176 := Lib.hid (X167.out.later hb172)
  have C177 := Lib.hid (C168.out.later hb172)
  have B178 := Lib.hid (B169.out.trans (hb172.mono B169.out.size))
  clear X164 X165 X166 X167 C168 B169
  rw [HH.out]
  go_wp2_with fail
  refine hK.out _ _ (Hcall148.out _ _ hHeld (by assumption)) (fun hHeld179 => ?_)
  clear hK K hHeld
  clear hb172
  have hHeld := hHeld179
  clear hHeld179
  try simp only [Act.put, List.setIfInBounds_toArray, List.set_cons_zero, List.set_cons_succ]
  refine wpAnyH_take (i := 5) (oi := { dst := some 24, op := Op.unOp UnOp.not 4 (Operand.tmp 23), type := 4, pos := "ref.go:166", after := #[{ on := 4, ground := Ground.data }], guard := none }) (v := ?vh180) rfl ?hsh180 ?hfh180 ?hrh180 ?hQh180 ?hyh180 (by assumption) ?resth180
  case hsh180 => kernel_rfl
  case hfh180 => kernel_rfl
  case hrh180 => kernel_rfl
  case hQh180 => exact fun _ _ _ h => h
  case hyh180 => (refine Or.inl ⟨by rfl, ?_⟩; intro w hSw; (try dsimp only at hSw); go_simp; try with_reducible rfl)
  try simp only [Act.put, List.setIfInBounds_toArray, List.set_cons_zero, List.set_cons_succ]
  refine wpAnyH_done (by kernel_rfl) ?_ _
  refine NoPanic.normal ?_
  clear hHeld Hcall148 Hini149
  have q181 : v171.cell? ⟨w.heap.size, 0, none⟩ = some (.int .i64 p.bed.eye) := X173.out.cell 0
  have q182 : v171.cell? ⟨w.heap.size, 1, none⟩ = some (.int .i64 p.bed.rings) := X173.out.cell 1
  have q183 : v171.cell? ⟨w.heap.size, 2, none⟩ = some (.int .i64 p.bed.sectors) := X173.out.cell 2
  have q184 : v171.cell? ⟨w.heap.size, 3, none⟩ = some (s) := X173.out.cell 3
  have q185 : v171.cell? ⟨w.heap.size, 4, none⟩ = some (.int .i64 p.run.eye) := X173.out.cell 4
  have q186 : v171.cell? ⟨w.heap.size, 5, none⟩ = some (.int .i64 p.run.rings) := X173.out.cell 5
  have q187 : v171.cell? ⟨w.heap.size, 6, none⟩ = some (.int .i64 p.run.sectors) := X173.out.cell 6
  have q188 : v171.cell? ⟨w.heap.size, 7, none⟩ = some (r) := X173.out.cell 7
  have q189 : v171.cell? ⟨w.heap.size, 8, none⟩ = some (d) := X173.out.cell 8
  have q190 : v171.cell? ⟨w.heap.size + 1, 0, none⟩ = some (.int .i64 a) := X174.out.cell 0
  have q191 : v171.cell? ⟨w.heap.size + 1, 1, none⟩ = some (.int .i64 b) := X174.out.cell 1
  have q192 : v171.cell? ⟨w.heap.size + 1, 2, none⟩ = some (.int .i64 t) := X174.out.cell 2
  have q193 : v171.cell? ⟨w.heap.size + 1 + 1, 0, none⟩ = some (.int .i64 mo) := X175.out.cell 0
  have q194 : v171.cell? ⟨w.heap.size + 1 + 1, 1, none⟩ = some (.int .i64 ms) := X175.out.cell 1
  have q195 : v171.cell? ⟨w.heap.size + 1 + 1, 2, none⟩ = some (.bool mc) := X175.out.cell 2
  have q196 : v171.cell? ⟨w.heap.size + 1 + 1 + 1, 0, none⟩ = some (.int .i64 0) := X176.out.cell 0
  have q197 : v171.cell? ⟨w.heap.size + 1 + 1 + 1, 1, none⟩ = some (.int .i64 0) := X176.out.cell 1
  have q198 : v171.cell? ⟨w.heap.size + 1 + 1 + 1, 2, none⟩ = some (.int .i64 0) := X176.out.cell 2
  have fz199 : ∀ o, v171.frozen? ⟨w.heap.size + 1 + 1 + 1, o, none⟩ = false := fun o => X176.out.free o
  go_wp2_with fail
  (try simp only [Exit.inBlock, Exit.then])
  refine endS3 (t := 6) (u := 7) (q := 8) (x := .bool false) (y := .int .i64 1) (v := .tuple #[.agg #[.int .i64 0, .int .i64 0, .int .i64 0], .bool false, .int .i64 1]) ?_ ?_ ?_ ?_ (((X176.out.put 0 (.int .i64 0)).put 1 (.int .i64 0)).put 2 (.int .i64 0)) (((B178.out.setCell (by first | (simp; done) | (simp; omega) | omega) _).setCell (by first | (simp; done) | (simp; omega) | omega) _).setCell (by first | (simp; done) | (simp; omega) | omega) _) ?_
  all_goals first | rfl | skip

set_option maxRecDepth 100000 in
set_option maxHeartbeats 8000000 in
theorem kNext_out (p : Pr) (a b t mo ms : Int) (mc : Bool) (v : Value) (w : World) (h : IsPair w w.heap.size v p) (h0 : asE p ⟨a, b, t⟩ = 0) (hh : hasM (movesL p ⟨a, b, t⟩) ⟨mo, ms, mc⟩ = true) (ho : a + mo = p.bed.rings) : Calls Try.prog 21 #[v, .agg #[.int .i64 a, .int .i64 b, .int .i64 t], .agg #[.int .i64 mo, .int .i64 ms, .bool mc]] w fun e w' => e = .returned (.tuple #[.agg #[.int .i64 0, .int .i64 0, .int .i64 0], .bool true, .int .i64 0]) ∧ Below w.heap.size w w' := by
  obtain ⟨s, r, d, hpv, -, -, -⟩ := id h
  subst hpv
  have HP0 := Lib.hid h
  have HE := Lib.hid h0
  clear h h0
  unfold pairV at *
  have HH := Lib.hid hh
  have HO := Lib.hid ho
  have HM := Lib.hid (mvB_of_has (movesL_ok (asE_zero HE.out).1 (asE_zero HE.out).2) hh)
  clear hh ho
  go_enter Try.func21, Try.ntmps21
  go_wp2_with fail
  obtain ⟨W200, hW201⟩ : ∃ Wzz, ((((w.alloc (.cells #[.int .i64 p.bed.eye, .int .i64 p.bed.rings, .int .i64 p.bed.sectors, s, .int .i64 p.run.eye, .int .i64 p.run.rings, .int .i64 p.run.sectors, r, d] 27)).alloc (.cells #[.int .i64 a, .int .i64 b, .int .i64 t] 29)).alloc (.cells #[.int .i64 mo, .int .i64 ms, .bool mc] 41)).alloc (.cells #[.int .i64 0, .int .i64 0, .int .i64 0] 29)) = Wzz := ⟨_, rfl⟩
  have B202 := Lib.hid (show Below w.heap.size w W200 by rw [← hW201]; exact (((((Below.refl w.heap.size w).alloc (Nat.le_refl _) _).alloc (by first | (simp; done) | (simp; omega)) _).alloc (by first | (simp; done) | (simp; omega)) _).alloc (by first | (simp; done) | (simp; omega)) _))
  have X203 := Lib.hid (show Box W200 (w.heap.size) 27 #[.int .i64 p.bed.eye, .int .i64 p.bed.rings, .int .i64 p.bed.sectors, s, .int .i64 p.run.eye, .int .i64 p.run.rings, .int .i64 p.run.sectors, r, d] by rw [← hW201]; exact Box.alloc (Box.alloc (Box.alloc (Box.made w 27 #[.int .i64 p.bed.eye, .int .i64 p.bed.rings, .int .i64 p.bed.sectors, s, .int .i64 p.run.eye, .int .i64 p.run.rings, .int .i64 p.run.sectors, r, d]) (.cells #[.int .i64 a, .int .i64 b, .int .i64 t] 29)) (.cells #[.int .i64 mo, .int .i64 ms, .bool mc] 41)) (.cells #[.int .i64 0, .int .i64 0, .int .i64 0] 29))
  have X204 := Lib.hid (show Box W200 (w.heap.size + 1) 29 #[.int .i64 a, .int .i64 b, .int .i64 t] by
    have hz := Box.alloc (Box.alloc (Box.made (w.alloc (.cells #[.int .i64 p.bed.eye, .int .i64 p.bed.rings, .int .i64 p.bed.sectors, s, .int .i64 p.run.eye, .int .i64 p.run.rings, .int .i64 p.run.sectors, r, d] 27)) 29 #[.int .i64 a, .int .i64 b, .int .i64 t]) (.cells #[.int .i64 mo, .int .i64 ms, .bool mc] 41)) (.cells #[.int .i64 0, .int .i64 0, .int .i64 0] 29)
    rw [World.size_alloc] at hz
    rw [← hW201]; exact hz)
  have X205 := Lib.hid (show Box W200 (w.heap.size + 1 + 1) 41 #[.int .i64 mo, .int .i64 ms, .bool mc] by
    have hz := Box.alloc (Box.made ((w.alloc (.cells #[.int .i64 p.bed.eye, .int .i64 p.bed.rings, .int .i64 p.bed.sectors, s, .int .i64 p.run.eye, .int .i64 p.run.rings, .int .i64 p.run.sectors, r, d] 27)).alloc (.cells #[.int .i64 a, .int .i64 b, .int .i64 t] 29)) 41 #[.int .i64 mo, .int .i64 ms, .bool mc]) (.cells #[.int .i64 0, .int .i64 0, .int .i64 0] 29)
    rw [World.size_alloc, World.size_alloc] at hz
    rw [← hW201]; exact hz)
  have X206 := Lib.hid (show Box W200 (w.heap.size + 1 + 1 + 1) 29 #[.int .i64 0, .int .i64 0, .int .i64 0] by
    have hz := Box.made (((w.alloc (.cells #[.int .i64 p.bed.eye, .int .i64 p.bed.rings, .int .i64 p.bed.sectors, s, .int .i64 p.run.eye, .int .i64 p.run.rings, .int .i64 p.run.sectors, r, d] 27)).alloc (.cells #[.int .i64 a, .int .i64 b, .int .i64 t] 29)).alloc (.cells #[.int .i64 mo, .int .i64 ms, .bool mc] 41)) 29 #[.int .i64 0, .int .i64 0, .int .i64 0]
    rw [World.size_alloc, World.size_alloc, World.size_alloc] at hz
    rw [← hW201]; exact hz)
  have C207 := Lib.hid (HP0.out.later B202.out)
  have SZ208 := Lib.hid (show W200.heap.size = w.heap.size + 1 + 1 + 1 + 1 by rw [← hW201]; simp)
  rw [hW201]
  clear hW201
  have q209 : W200.cell? ⟨w.heap.size, 0, none⟩ = some (.int .i64 p.bed.eye) := X203.out.cell 0
  have q210 : W200.cell? ⟨w.heap.size, 1, none⟩ = some (.int .i64 p.bed.rings) := X203.out.cell 1
  have q211 : W200.cell? ⟨w.heap.size, 2, none⟩ = some (.int .i64 p.bed.sectors) := X203.out.cell 2
  have q212 : W200.cell? ⟨w.heap.size, 3, none⟩ = some (s) := X203.out.cell 3
  have q213 : W200.cell? ⟨w.heap.size, 4, none⟩ = some (.int .i64 p.run.eye) := X203.out.cell 4
  have q214 : W200.cell? ⟨w.heap.size, 5, none⟩ = some (.int .i64 p.run.rings) := X203.out.cell 5
  have q215 : W200.cell? ⟨w.heap.size, 6, none⟩ = some (.int .i64 p.run.sectors) := X203.out.cell 6
  have q216 : W200.cell? ⟨w.heap.size, 7, none⟩ = some (r) := X203.out.cell 7
  have q217 : W200.cell? ⟨w.heap.size, 8, none⟩ = some (d) := X203.out.cell 8
  have q218 : W200.cell? ⟨w.heap.size + 1, 0, none⟩ = some (.int .i64 a) := X204.out.cell 0
  have q219 : W200.cell? ⟨w.heap.size + 1, 1, none⟩ = some (.int .i64 b) := X204.out.cell 1
  have q220 : W200.cell? ⟨w.heap.size + 1, 2, none⟩ = some (.int .i64 t) := X204.out.cell 2
  have q221 : W200.cell? ⟨w.heap.size + 1 + 1, 0, none⟩ = some (.int .i64 mo) := X205.out.cell 0
  have q222 : W200.cell? ⟨w.heap.size + 1 + 1, 1, none⟩ = some (.int .i64 ms) := X205.out.cell 1
  have q223 : W200.cell? ⟨w.heap.size + 1 + 1, 2, none⟩ = some (.bool mc) := X205.out.cell 2
  have q224 : W200.cell? ⟨w.heap.size + 1 + 1 + 1, 0, none⟩ = some (.int .i64 0) := X206.out.cell 0
  have q225 : W200.cell? ⟨w.heap.size + 1 + 1 + 1, 1, none⟩ = some (.int .i64 0) := X206.out.cell 1
  have q226 : W200.cell? ⟨w.heap.size + 1 + 1 + 1, 2, none⟩ = some (.int .i64 0) := X206.out.cell 2
  have fz227 : ∀ o, W200.frozen? ⟨w.heap.size + 1 + 1 + 1, o, none⟩ = false := fun o => X206.out.free o
  go_wp2_with fail
  refine (kasked_c p a b t _ _ C207.out trivial).mono ?_; rintro e v228 ⟨rfl, hb229⟩
  have X230 := Lib.hid (X203.out.later hb229)
  have X231 := Lib.hid (X204.out.later hb229)
  have X232 := Lib.hid (X205.out.later hb229)
  have X233 := Lib.hid (X206.out.later hb229)
  have C234 := Lib.hid (C207.out.later hb229)
  have B235 := Lib.hid (B202.out.trans (hb229.mono B202.out.size))
  clear hb229
  rw [HE.out]
  clear q209 q210 q211 q212 q213 q214 q215 q216 q217 q218 q219 q220 q221 q222 q223 q224 q225 q226 fz227
  have q236 : v228.cell? ⟨w.heap.size, 0, none⟩ = some (.int .i64 p.bed.eye) := X230.out.cell 0
  have q237 : v228.cell? ⟨w.heap.size, 1, none⟩ = some (.int .i64 p.bed.rings) := X230.out.cell 1
  have q238 : v228.cell? ⟨w.heap.size, 2, none⟩ = some (.int .i64 p.bed.sectors) := X230.out.cell 2
  have q239 : v228.cell? ⟨w.heap.size, 3, none⟩ = some (s) := X230.out.cell 3
  have q240 : v228.cell? ⟨w.heap.size, 4, none⟩ = some (.int .i64 p.run.eye) := X230.out.cell 4
  have q241 : v228.cell? ⟨w.heap.size, 5, none⟩ = some (.int .i64 p.run.rings) := X230.out.cell 5
  have q242 : v228.cell? ⟨w.heap.size, 6, none⟩ = some (.int .i64 p.run.sectors) := X230.out.cell 6
  have q243 : v228.cell? ⟨w.heap.size, 7, none⟩ = some (r) := X230.out.cell 7
  have q244 : v228.cell? ⟨w.heap.size, 8, none⟩ = some (d) := X230.out.cell 8
  have q245 : v228.cell? ⟨w.heap.size + 1, 0, none⟩ = some (.int .i64 a) := X231.out.cell 0
  have q246 : v228.cell? ⟨w.heap.size + 1, 1, none⟩ = some (.int .i64 b) := X231.out.cell 1
  have q247 : v228.cell? ⟨w.heap.size + 1, 2, none⟩ = some (.int .i64 t) := X231.out.cell 2
  have q248 : v228.cell? ⟨w.heap.size + 1 + 1, 0, none⟩ = some (.int .i64 mo) := X232.out.cell 0
  have q249 : v228.cell? ⟨w.heap.size + 1 + 1, 1, none⟩ = some (.int .i64 ms) := X232.out.cell 1
  have q250 : v228.cell? ⟨w.heap.size + 1 + 1, 2, none⟩ = some (.bool mc) := X232.out.cell 2
  have q251 : v228.cell? ⟨w.heap.size + 1 + 1 + 1, 0, none⟩ = some (.int .i64 0) := X233.out.cell 0
  have q252 : v228.cell? ⟨w.heap.size + 1 + 1 + 1, 1, none⟩ = some (.int .i64 0) := X233.out.cell 1
  have q253 : v228.cell? ⟨w.heap.size + 1 + 1 + 1, 2, none⟩ = some (.int .i64 0) := X233.out.cell 2
  have fz254 : ∀ o, v228.frozen? ⟨w.heap.size + 1 + 1 + 1, o, none⟩ = false := fun o => X233.out.free o
  go_wp2_with fail
  have hdr291 : Below (v228).heap.size (v228) (v228).drew := (Below.refl _ _).drew
  have lt273 := X230.out.lt
  have lt274 := X230.out.lt
  have lt275 := X230.out.lt
  have lt276 := X230.out.lt
  have lt277 := X230.out.lt
  have lt278 := X230.out.lt
  have lt279 := X230.out.lt
  have lt280 := X230.out.lt
  have lt281 := X230.out.lt
  have lt282 := X231.out.lt
  have lt283 := X231.out.lt
  have lt284 := X231.out.lt
  have lt285 := X232.out.lt
  have lt286 := X232.out.lt
  have lt287 := X232.out.lt
  have lt288 := X233.out.lt
  have lt289 := X233.out.lt
  have lt290 := X233.out.lt
  have hcall292 : ∀ X Y : World, (fun Wz => Wz.cell? ⟨w.heap.size, 0, none⟩ = some (.int .i64 p.bed.eye) ∧ Wz.cell? ⟨w.heap.size, 1, none⟩ = some (.int .i64 p.bed.rings) ∧ Wz.cell? ⟨w.heap.size, 2, none⟩ = some (.int .i64 p.bed.sectors) ∧ Wz.cell? ⟨w.heap.size, 3, none⟩ = some (s) ∧ Wz.cell? ⟨w.heap.size, 4, none⟩ = some (.int .i64 p.run.eye) ∧ Wz.cell? ⟨w.heap.size, 5, none⟩ = some (.int .i64 p.run.rings) ∧ Wz.cell? ⟨w.heap.size, 6, none⟩ = some (.int .i64 p.run.sectors) ∧ Wz.cell? ⟨w.heap.size, 7, none⟩ = some (r) ∧ Wz.cell? ⟨w.heap.size, 8, none⟩ = some (d) ∧ Wz.cell? ⟨w.heap.size + 1, 0, none⟩ = some (.int .i64 a) ∧ Wz.cell? ⟨w.heap.size + 1, 1, none⟩ = some (.int .i64 b) ∧ Wz.cell? ⟨w.heap.size + 1, 2, none⟩ = some (.int .i64 t) ∧ Wz.cell? ⟨w.heap.size + 1 + 1, 0, none⟩ = some (.int .i64 mo) ∧ Wz.cell? ⟨w.heap.size + 1 + 1, 1, none⟩ = some (.int .i64 ms) ∧ Wz.cell? ⟨w.heap.size + 1 + 1, 2, none⟩ = some (.bool mc) ∧ Wz.cell? ⟨w.heap.size + 1 + 1 + 1, 0, none⟩ = some (.int .i64 0) ∧ Wz.cell? ⟨w.heap.size + 1 + 1 + 1, 1, none⟩ = some (.int .i64 0) ∧ Wz.cell? ⟨w.heap.size + 1 + 1 + 1, 2, none⟩ = some (.int .i64 0) ∧ (v228).heap.size ≤ Wz.heap.size) X → Below X.heap.size X Y → (fun Wz => Wz.cell? ⟨w.heap.size, 0, none⟩ = some (.int .i64 p.bed.eye) ∧ Wz.cell? ⟨w.heap.size, 1, none⟩ = some (.int .i64 p.bed.rings) ∧ Wz.cell? ⟨w.heap.size, 2, none⟩ = some (.int .i64 p.bed.sectors) ∧ Wz.cell? ⟨w.heap.size, 3, none⟩ = some (s) ∧ Wz.cell? ⟨w.heap.size, 4, none⟩ = some (.int .i64 p.run.eye) ∧ Wz.cell? ⟨w.heap.size, 5, none⟩ = some (.int .i64 p.run.rings) ∧ Wz.cell? ⟨w.heap.size, 6, none⟩ = some (.int .i64 p.run.sectors) ∧ Wz.cell? ⟨w.heap.size, 7, none⟩ = some (r) ∧ Wz.cell? ⟨w.heap.size, 8, none⟩ = some (d) ∧ Wz.cell? ⟨w.heap.size + 1, 0, none⟩ = some (.int .i64 a) ∧ Wz.cell? ⟨w.heap.size + 1, 1, none⟩ = some (.int .i64 b) ∧ Wz.cell? ⟨w.heap.size + 1, 2, none⟩ = some (.int .i64 t) ∧ Wz.cell? ⟨w.heap.size + 1 + 1, 0, none⟩ = some (.int .i64 mo) ∧ Wz.cell? ⟨w.heap.size + 1 + 1, 1, none⟩ = some (.int .i64 ms) ∧ Wz.cell? ⟨w.heap.size + 1 + 1, 2, none⟩ = some (.bool mc) ∧ Wz.cell? ⟨w.heap.size + 1 + 1 + 1, 0, none⟩ = some (.int .i64 0) ∧ Wz.cell? ⟨w.heap.size + 1 + 1 + 1, 1, none⟩ = some (.int .i64 0) ∧ Wz.cell? ⟨w.heap.size + 1 + 1 + 1, 2, none⟩ = some (.int .i64 0) ∧ (v228).heap.size ≤ Wz.heap.size) Y := by
    rintro X Y ⟨z255, z256, z257, z258, z259, z260, z261, z262, z263, z264, z265, z266, z267, z268, z269, z270, z271, z272, xs⟩ hb
    have hb2 := Below.mono (B' := (v228).heap.size) hb xs
    exact ⟨keepd z255 hb2 lt273, keepd z256 hb2 lt274, keepd z257 hb2 lt275, keepd z258 hb2 lt276, keepd z259 hb2 lt277, keepd z260 hb2 lt278, keepd z261 hb2 lt279, keepd z262 hb2 lt280, keepd z263 hb2 lt281, keepd z264 hb2 lt282, keepd z265 hb2 lt283, keepd z266 hb2 lt284, keepd z267 hb2 lt285, keepd z268 hb2 lt286, keepd z269 hb2 lt287, keepd z270 hb2 lt288, keepd z271 hb2 lt289, keepd z272 hb2 lt290, Nat.le_trans xs hb.size⟩
  have hini293 : (fun Wz => Wz.cell? ⟨w.heap.size, 0, none⟩ = some (.int .i64 p.bed.eye) ∧ Wz.cell? ⟨w.heap.size, 1, none⟩ = some (.int .i64 p.bed.rings) ∧ Wz.cell? ⟨w.heap.size, 2, none⟩ = some (.int .i64 p.bed.sectors) ∧ Wz.cell? ⟨w.heap.size, 3, none⟩ = some (s) ∧ Wz.cell? ⟨w.heap.size, 4, none⟩ = some (.int .i64 p.run.eye) ∧ Wz.cell? ⟨w.heap.size, 5, none⟩ = some (.int .i64 p.run.rings) ∧ Wz.cell? ⟨w.heap.size, 6, none⟩ = some (.int .i64 p.run.sectors) ∧ Wz.cell? ⟨w.heap.size, 7, none⟩ = some (r) ∧ Wz.cell? ⟨w.heap.size, 8, none⟩ = some (d) ∧ Wz.cell? ⟨w.heap.size + 1, 0, none⟩ = some (.int .i64 a) ∧ Wz.cell? ⟨w.heap.size + 1, 1, none⟩ = some (.int .i64 b) ∧ Wz.cell? ⟨w.heap.size + 1, 2, none⟩ = some (.int .i64 t) ∧ Wz.cell? ⟨w.heap.size + 1 + 1, 0, none⟩ = some (.int .i64 mo) ∧ Wz.cell? ⟨w.heap.size + 1 + 1, 1, none⟩ = some (.int .i64 ms) ∧ Wz.cell? ⟨w.heap.size + 1 + 1, 2, none⟩ = some (.bool mc) ∧ Wz.cell? ⟨w.heap.size + 1 + 1 + 1, 0, none⟩ = some (.int .i64 0) ∧ Wz.cell? ⟨w.heap.size + 1 + 1 + 1, 1, none⟩ = some (.int .i64 0) ∧ Wz.cell? ⟨w.heap.size + 1 + 1 + 1, 2, none⟩ = some (.int .i64 0) ∧ (v228).heap.size ≤ Wz.heap.size) (v228).drew := ⟨keepd (X230.out.cell 0) hdr291 lt273, keepd (X230.out.cell 1) hdr291 lt274, keepd (X230.out.cell 2) hdr291 lt275, keepd (X230.out.cell 3) hdr291 lt276, keepd (X230.out.cell 4) hdr291 lt277, keepd (X230.out.cell 5) hdr291 lt278, keepd (X230.out.cell 6) hdr291 lt279, keepd (X230.out.cell 7) hdr291 lt280, keepd (X230.out.cell 8) hdr291 lt281, keepd (X231.out.cell 0) hdr291 lt282, keepd (X231.out.cell 1) hdr291 lt283, keepd (X231.out.cell 2) hdr291 lt284, keepd (X232.out.cell 0) hdr291 lt285, keepd (X232.out.cell 1) hdr291 lt286, keepd (X232.out.cell 2) hdr291 lt287, keepd (X233.out.cell 0) hdr291 lt288, keepd (X233.out.cell 1) hdr291 lt289, keepd (X233.out.cell 2) hdr291 lt290, Nat.le_refl _⟩
  have Hcall292 := Lib.hid hcall292
  have Hini293 := Lib.hid hini293
  clear hcall292 hini293 lt273 lt274 lt275 lt276 lt277 lt278 lt279 lt280 lt281 lt282 lt283 lt284 lt285 lt286 lt287 lt288 lt289 lt290
  clear q236 q237 q238 q239 q240 q241 q242 q243 q244 q245 q246 q247 q248 q249 q250 q251 q252 q253 fz254
  refine wp_region_noPanic ?_
  refine wp_region_held_drew (S := (fun Wz => Wz.cell? ⟨w.heap.size, 0, none⟩ = some (.int .i64 p.bed.eye) ∧ Wz.cell? ⟨w.heap.size, 1, none⟩ = some (.int .i64 p.bed.rings) ∧ Wz.cell? ⟨w.heap.size, 2, none⟩ = some (.int .i64 p.bed.sectors) ∧ Wz.cell? ⟨w.heap.size, 3, none⟩ = some (s) ∧ Wz.cell? ⟨w.heap.size, 4, none⟩ = some (.int .i64 p.run.eye) ∧ Wz.cell? ⟨w.heap.size, 5, none⟩ = some (.int .i64 p.run.rings) ∧ Wz.cell? ⟨w.heap.size, 6, none⟩ = some (.int .i64 p.run.sectors) ∧ Wz.cell? ⟨w.heap.size, 7, none⟩ = some (r) ∧ Wz.cell? ⟨w.heap.size, 8, none⟩ = some (d) ∧ Wz.cell? ⟨w.heap.size + 1, 0, none⟩ = some (.int .i64 a) ∧ Wz.cell? ⟨w.heap.size + 1, 1, none⟩ = some (.int .i64 b) ∧ Wz.cell? ⟨w.heap.size + 1, 2, none⟩ = some (.int .i64 t) ∧ Wz.cell? ⟨w.heap.size + 1 + 1, 0, none⟩ = some (.int .i64 mo) ∧ Wz.cell? ⟨w.heap.size + 1 + 1, 1, none⟩ = some (.int .i64 ms) ∧ Wz.cell? ⟨w.heap.size + 1 + 1, 2, none⟩ = some (.bool mc) ∧ Wz.cell? ⟨w.heap.size + 1 + 1 + 1, 0, none⟩ = some (.int .i64 0) ∧ Wz.cell? ⟨w.heap.size + 1 + 1 + 1, 1, none⟩ = some (.int .i64 0) ∧ Wz.cell? ⟨w.heap.size + 1 + 1 + 1, 2, none⟩ = some (.int .i64 0) ∧ (v228).heap.size ≤ Wz.heap.size)) (by kernel_rfl) Hini293.out (fun hHeld => ?_)
  obtain ⟨W295, hW296⟩ : ∃ Wzz, (v228).drew = Wzz := ⟨_, rfl⟩
  rw [hW296] at hHeld hdr291 ⊢
  clear hW296
  have X297 := Lib.hid (X230.out.later hdr291)
  have X298 := Lib.hid (X231.out.later hdr291)
  have X299 := Lib.hid (X232.out.later hdr291)
  have X300 := Lib.hid (X233.out.later hdr291)
  have C301 := Lib.hid (C234.out.later hdr291)
  have B302 := Lib.hid (B235.out.trans (hdr291.mono B235.out.size))
  clear hdr291
  refine wpAnyH_take (i := 0) (oi := { dst := some 19, op := Op.load 41 (Operand.tmp 5), type := 41, pos := "ref.go:166", after := #[], guard := none }) (v := ?vh303) rfl ?hsh303 ?hfh303 ?hrh303 ?hQh303 ?hyh303 (by assumption) ?resth303
  case hsh303 => kernel_rfl
  case hfh303 => kernel_rfl
  case hrh303 => kernel_rfl
  case hQh303 => exact fun _ _ _ h => h
  case hyh303 => (refine Or.inl ⟨by rfl, ?_⟩; intro w hSw; (try dsimp only at hSw); go_simp; try with_reducible rfl)
  try simp only [Act.put, List.setIfInBounds_toArray, List.set_cons_zero, List.set_cons_succ]
  refine wpAnyH_take (i := 1) (oi := { dst := some 20, op := Op.load 27 (Operand.tmp 3), type := 27, pos := "ref.go:166", after := #[], guard := none }) (v := ?vh304) rfl ?hsh304 ?hfh304 ?hrh304 ?hQh304 ?hyh304 (by assumption) ?resth304
  case hsh304 => kernel_rfl
  case hfh304 => kernel_rfl
  case hrh304 => kernel_rfl
  case hQh304 => exact fun _ _ _ h => h
  case hyh304 => (refine Or.inl ⟨by rfl, ?_⟩; intro w hSw; (try dsimp only at hSw); go_simp; try with_reducible rfl)
  try simp only [Act.put, List.setIfInBounds_toArray, List.set_cons_zero, List.set_cons_succ]
  refine wpAnyH_take (i := 2) (oi := { dst := some 21, op := Op.load 29 (Operand.tmp 4), type := 29, pos := "ref.go:166", after := #[], guard := none }) (v := ?vh305) rfl ?hsh305 ?hfh305 ?hrh305 ?hQh305 ?hyh305 (by assumption) ?resth305
  case hsh305 => kernel_rfl
  case hfh305 => kernel_rfl
  case hrh305 => kernel_rfl
  case hQh305 => exact fun _ _ _ h => h
  case hyh305 => (refine Or.inl ⟨by rfl, ?_⟩; intro w hSw; (try dsimp only at hSw); go_simp; try with_reducible rfl)
  try simp only [Act.put, List.setIfInBounds_toArray, List.set_cons_zero, List.set_cons_succ]
  refine wpAnyH_ready (rs := [3]) (by kernel_rfl) (by simp) ?_
  refine AllReadyH.cons (o := _) (by rfl) (fun K hK => ?_) AllReadyH.nil
  go_simp
  go_at_call 50
  refine (kMovesOf_c p a b t _ _ C301.out (asE_zero HE.out).1 (asE_zero HE.out).2).mono ?_; rintro e v306 ⟨⟨u, rfl, hu⟩, hb307⟩
  have X308 := Lib.hid (X297.out.later hb307)
  have X309 := Lib.hid (X298.out.later hb307)
  have X310 := Lib.hid (X299.out.later hb307)
  have X311 := Lib.hid (X300.out.later hb307)
  have C312 := Lib.hid (C301.out.later hb307)
  have B313 := Lib.hid (B302.out.trans (hb307.mono B302.out.size))
  clear X297 X298 X299 X300 C301 B302
  have HUV := Lib.hid hu
  clear hu
  go_wp2_with fail
  refine hK.out _ _ (Hcall292.out _ _ hHeld (by assumption)) (fun hHeld314 => ?_)
  clear hK K hHeld
  clear hb307
  have hHeld := hHeld314
  clear hHeld314
  try simp only [Act.put, List.setIfInBounds_toArray, List.set_cons_zero, List.set_cons_succ]
  refine wpAnyH_ready (rs := [4]) (by kernel_rfl) (by simp) ?_
  refine AllReadyH.cons (o := _) (by rfl) (fun K hK => ?_) AllReadyH.nil
  go_simp
  go_at_call 53
  refine (kof_c (movesL p ⟨a, b, t⟩) mo ms mc u _ HUV.out (listB_parts (movesL_ok (asE_zero HE.out).1 (asE_zero HE.out).2)).1.2).mono ?_; rintro e v315 ⟨rfl, hb316⟩
  have X317 := Lib.hid (X308.out.later hb316)
  have X318 := Lib.hid (X309.out.later hb316)
  have X319 := Lib.hid (X310.out.later hb316)
  have X320 := Lib.hid (X311.out.later hb316)
  have C321 := Lib.hid (C312.out.later hb316)
  have B322 := Lib.hid (B313.out.trans (hb316.mono B313.out.size))
  clear X308 X309 X310 X311 C312 B313
  rw [HH.out]
  go_wp2_with fail
  refine hK.out _ _ (Hcall292.out _ _ hHeld (by assumption)) (fun hHeld323 => ?_)
  clear hK K hHeld
  clear hb316
  have hHeld := hHeld323
  clear hHeld323
  try simp only [Act.put, List.setIfInBounds_toArray, List.set_cons_zero, List.set_cons_succ]
  refine wpAnyH_take (i := 5) (oi := { dst := some 24, op := Op.unOp UnOp.not 4 (Operand.tmp 23), type := 4, pos := "ref.go:166", after := #[{ on := 4, ground := Ground.data }], guard := none }) (v := ?vh324) rfl ?hsh324 ?hfh324 ?hrh324 ?hQh324 ?hyh324 (by assumption) ?resth324
  case hsh324 => kernel_rfl
  case hfh324 => kernel_rfl
  case hrh324 => kernel_rfl
  case hQh324 => exact fun _ _ _ h => h
  case hyh324 => (refine Or.inl ⟨by rfl, ?_⟩; intro w hSw; (try dsimp only at hSw); go_simp; try with_reducible rfl)
  try simp only [Act.put, List.setIfInBounds_toArray, List.set_cons_zero, List.set_cons_succ]
  refine wpAnyH_done (by kernel_rfl) ?_ _
  refine NoPanic.normal ?_
  clear hHeld Hcall292 Hini293
  have q325 : v315.cell? ⟨w.heap.size, 0, none⟩ = some (.int .i64 p.bed.eye) := X317.out.cell 0
  have q326 : v315.cell? ⟨w.heap.size, 1, none⟩ = some (.int .i64 p.bed.rings) := X317.out.cell 1
  have q327 : v315.cell? ⟨w.heap.size, 2, none⟩ = some (.int .i64 p.bed.sectors) := X317.out.cell 2
  have q328 : v315.cell? ⟨w.heap.size, 3, none⟩ = some (s) := X317.out.cell 3
  have q329 : v315.cell? ⟨w.heap.size, 4, none⟩ = some (.int .i64 p.run.eye) := X317.out.cell 4
  have q330 : v315.cell? ⟨w.heap.size, 5, none⟩ = some (.int .i64 p.run.rings) := X317.out.cell 5
  have q331 : v315.cell? ⟨w.heap.size, 6, none⟩ = some (.int .i64 p.run.sectors) := X317.out.cell 6
  have q332 : v315.cell? ⟨w.heap.size, 7, none⟩ = some (r) := X317.out.cell 7
  have q333 : v315.cell? ⟨w.heap.size, 8, none⟩ = some (d) := X317.out.cell 8
  have q334 : v315.cell? ⟨w.heap.size + 1, 0, none⟩ = some (.int .i64 a) := X318.out.cell 0
  have q335 : v315.cell? ⟨w.heap.size + 1, 1, none⟩ = some (.int .i64 b) := X318.out.cell 1
  have q336 : v315.cell? ⟨w.heap.size + 1, 2, none⟩ = some (.int .i64 t) := X318.out.cell 2
  have q337 : v315.cell? ⟨w.heap.size + 1 + 1, 0, none⟩ = some (.int .i64 mo) := X319.out.cell 0
  have q338 : v315.cell? ⟨w.heap.size + 1 + 1, 1, none⟩ = some (.int .i64 ms) := X319.out.cell 1
  have q339 : v315.cell? ⟨w.heap.size + 1 + 1, 2, none⟩ = some (.bool mc) := X319.out.cell 2
  have q340 : v315.cell? ⟨w.heap.size + 1 + 1 + 1, 0, none⟩ = some (.int .i64 0) := X320.out.cell 0
  have q341 : v315.cell? ⟨w.heap.size + 1 + 1 + 1, 1, none⟩ = some (.int .i64 0) := X320.out.cell 1
  have q342 : v315.cell? ⟨w.heap.size + 1 + 1 + 1, 2, none⟩ = some (.int .i64 0) := X320.out.cell 2
  have fz343 : ∀ o, v315.frozen? ⟨w.heap.size + 1 + 1 + 1, o, none⟩ = false := fun o => X320.out.free o
  go_wp2_with fail
  refine (kStep_out p a b t mo ms mc _ _ C321.out (asE_zero HE.out).1 (asE_zero HE.out).2 HM.out HO.out).mono ?_; rintro e v344 ⟨rfl, hb345⟩
  have X346 := Lib.hid (X317.out.later hb345)
  have X347 := Lib.hid (X318.out.later hb345)
  have X348 := Lib.hid (X319.out.later hb345)
  have X349 := Lib.hid (X320.out.later hb345)
  have C350 := Lib.hid (C321.out.later hb345)
  have B351 := Lib.hid (B322.out.trans (hb345.mono B322.out.size))
  clear hb345
  unfold st0 stV
  dsimp only
  clear q325 q326 q327 q328 q329 q330 q331 q332 q333 q334 q335 q336 q337 q338 q339 q340 q341 q342 fz343
  have q352 : v344.cell? ⟨w.heap.size, 0, none⟩ = some (.int .i64 p.bed.eye) := X346.out.cell 0
  have q353 : v344.cell? ⟨w.heap.size, 1, none⟩ = some (.int .i64 p.bed.rings) := X346.out.cell 1
  have q354 : v344.cell? ⟨w.heap.size, 2, none⟩ = some (.int .i64 p.bed.sectors) := X346.out.cell 2
  have q355 : v344.cell? ⟨w.heap.size, 3, none⟩ = some (s) := X346.out.cell 3
  have q356 : v344.cell? ⟨w.heap.size, 4, none⟩ = some (.int .i64 p.run.eye) := X346.out.cell 4
  have q357 : v344.cell? ⟨w.heap.size, 5, none⟩ = some (.int .i64 p.run.rings) := X346.out.cell 5
  have q358 : v344.cell? ⟨w.heap.size, 6, none⟩ = some (.int .i64 p.run.sectors) := X346.out.cell 6
  have q359 : v344.cell? ⟨w.heap.size, 7, none⟩ = some (r) := X346.out.cell 7
  have q360 : v344.cell? ⟨w.heap.size, 8, none⟩ = some (d) := X346.out.cell 8
  have q361 : v344.cell? ⟨w.heap.size + 1, 0, none⟩ = some (.int .i64 a) := X347.out.cell 0
  have q362 : v344.cell? ⟨w.heap.size + 1, 1, none⟩ = some (.int .i64 b) := X347.out.cell 1
  have q363 : v344.cell? ⟨w.heap.size + 1, 2, none⟩ = some (.int .i64 t) := X347.out.cell 2
  have q364 : v344.cell? ⟨w.heap.size + 1 + 1, 0, none⟩ = some (.int .i64 mo) := X348.out.cell 0
  have q365 : v344.cell? ⟨w.heap.size + 1 + 1, 1, none⟩ = some (.int .i64 ms) := X348.out.cell 1
  have q366 : v344.cell? ⟨w.heap.size + 1 + 1, 2, none⟩ = some (.bool mc) := X348.out.cell 2
  have q367 : v344.cell? ⟨w.heap.size + 1 + 1 + 1, 0, none⟩ = some (.int .i64 0) := X349.out.cell 0
  have q368 : v344.cell? ⟨w.heap.size + 1 + 1 + 1, 1, none⟩ = some (.int .i64 0) := X349.out.cell 1
  have q369 : v344.cell? ⟨w.heap.size + 1 + 1 + 1, 2, none⟩ = some (.int .i64 0) := X349.out.cell 2
  have fz370 : ∀ o, v344.frozen? ⟨w.heap.size + 1 + 1 + 1, o, none⟩ = false := fun o => X349.out.free o
  have LT371 := Lib.hid X348.out.lt
  have X372 := Lib.hid (X346.out.alloc (.cells #[.int .i64 0, .int .i64 0, .int .i64 0] 29))
  have X373 := Lib.hid (X347.out.alloc (.cells #[.int .i64 0, .int .i64 0, .int .i64 0] 29))
  have X374 := Lib.hid (X348.out.alloc (.cells #[.int .i64 0, .int .i64 0, .int .i64 0] 29))
  have X375 := Lib.hid (X349.out.alloc (.cells #[.int .i64 0, .int .i64 0, .int .i64 0] 29))
  have C376 := Lib.hid (C350.out.later ((Below.refl v344.heap.size v344).alloc (Nat.le_refl _) (.cells #[.int .i64 0, .int .i64 0, .int .i64 0] 29)))
  have B377 := Lib.hid (B351.out.alloc B351.out.size (.cells #[.int .i64 0, .int .i64 0, .int .i64 0] 29))
  have X378 := Lib.hid (Box.made v344 29 #[.int .i64 0, .int .i64 0, .int .i64 0])
  have q379 : (v344.alloc (.cells #[.int .i64 0, .int .i64 0, .int .i64 0] 29)).cell? ⟨w.heap.size, 0, none⟩ = some (.int .i64 p.bed.eye) := X372.out.cell 0
  have q380 : (v344.alloc (.cells #[.int .i64 0, .int .i64 0, .int .i64 0] 29)).cell? ⟨w.heap.size, 1, none⟩ = some (.int .i64 p.bed.rings) := X372.out.cell 1
  have q381 : (v344.alloc (.cells #[.int .i64 0, .int .i64 0, .int .i64 0] 29)).cell? ⟨w.heap.size, 2, none⟩ = some (.int .i64 p.bed.sectors) := X372.out.cell 2
  have q382 : (v344.alloc (.cells #[.int .i64 0, .int .i64 0, .int .i64 0] 29)).cell? ⟨w.heap.size, 3, none⟩ = some (s) := X372.out.cell 3
  have q383 : (v344.alloc (.cells #[.int .i64 0, .int .i64 0, .int .i64 0] 29)).cell? ⟨w.heap.size, 4, none⟩ = some (.int .i64 p.run.eye) := X372.out.cell 4
  have q384 : (v344.alloc (.cells #[.int .i64 0, .int .i64 0, .int .i64 0] 29)).cell? ⟨w.heap.size, 5, none⟩ = some (.int .i64 p.run.rings) := X372.out.cell 5
  have q385 : (v344.alloc (.cells #[.int .i64 0, .int .i64 0, .int .i64 0] 29)).cell? ⟨w.heap.size, 6, none⟩ = some (.int .i64 p.run.sectors) := X372.out.cell 6
  have q386 : (v344.alloc (.cells #[.int .i64 0, .int .i64 0, .int .i64 0] 29)).cell? ⟨w.heap.size, 7, none⟩ = some (r) := X372.out.cell 7
  have q387 : (v344.alloc (.cells #[.int .i64 0, .int .i64 0, .int .i64 0] 29)).cell? ⟨w.heap.size, 8, none⟩ = some (d) := X372.out.cell 8
  have q388 : (v344.alloc (.cells #[.int .i64 0, .int .i64 0, .int .i64 0] 29)).cell? ⟨w.heap.size + 1, 0, none⟩ = some (.int .i64 a) := X373.out.cell 0
  have q389 : (v344.alloc (.cells #[.int .i64 0, .int .i64 0, .int .i64 0] 29)).cell? ⟨w.heap.size + 1, 1, none⟩ = some (.int .i64 b) := X373.out.cell 1
  have q390 : (v344.alloc (.cells #[.int .i64 0, .int .i64 0, .int .i64 0] 29)).cell? ⟨w.heap.size + 1, 2, none⟩ = some (.int .i64 t) := X373.out.cell 2
  have q391 : (v344.alloc (.cells #[.int .i64 0, .int .i64 0, .int .i64 0] 29)).cell? ⟨w.heap.size + 1 + 1, 0, none⟩ = some (.int .i64 mo) := X374.out.cell 0
  have q392 : (v344.alloc (.cells #[.int .i64 0, .int .i64 0, .int .i64 0] 29)).cell? ⟨w.heap.size + 1 + 1, 1, none⟩ = some (.int .i64 ms) := X374.out.cell 1
  have q393 : (v344.alloc (.cells #[.int .i64 0, .int .i64 0, .int .i64 0] 29)).cell? ⟨w.heap.size + 1 + 1, 2, none⟩ = some (.bool mc) := X374.out.cell 2
  have q394 : (v344.alloc (.cells #[.int .i64 0, .int .i64 0, .int .i64 0] 29)).cell? ⟨w.heap.size + 1 + 1 + 1, 0, none⟩ = some (.int .i64 0) := X375.out.cell 0
  have q395 : (v344.alloc (.cells #[.int .i64 0, .int .i64 0, .int .i64 0] 29)).cell? ⟨w.heap.size + 1 + 1 + 1, 1, none⟩ = some (.int .i64 0) := X375.out.cell 1
  have q396 : (v344.alloc (.cells #[.int .i64 0, .int .i64 0, .int .i64 0] 29)).cell? ⟨w.heap.size + 1 + 1 + 1, 2, none⟩ = some (.int .i64 0) := X375.out.cell 2
  have fz397 : ∀ o, (v344.alloc (.cells #[.int .i64 0, .int .i64 0, .int .i64 0] 29)).frozen? ⟨w.heap.size + 1 + 1 + 1, o, none⟩ = false := fun o => X375.out.free o
  have q398 : (v344.alloc (.cells #[.int .i64 0, .int .i64 0, .int .i64 0] 29)).cell? ⟨v344.heap.size, 0, none⟩ = some (.int .i64 0) := X378.out.cell 0
  have q399 : (v344.alloc (.cells #[.int .i64 0, .int .i64 0, .int .i64 0] 29)).cell? ⟨v344.heap.size, 1, none⟩ = some (.int .i64 0) := X378.out.cell 1
  have q400 : (v344.alloc (.cells #[.int .i64 0, .int .i64 0, .int .i64 0] 29)).cell? ⟨v344.heap.size, 2, none⟩ = some (.int .i64 0) := X378.out.cell 2
  go_wp2_with fail
  (try simp only [Exit.inBlock, Exit.then])
  refine endS3 (t := 6) (u := 7) (q := 8) (x := .bool true) (y := .int .i64 0) (v := .tuple #[.agg #[.int .i64 0, .int .i64 0, .int .i64 0], .bool true, .int .i64 0]) ?_ ?_ ?_ ?_ (((X375.out.put 0 (.int .i64 0)).put 1 (.int .i64 0)).put 2 (.int .i64 0)) (((B377.out.setCell (by first | (simp; done) | (simp; omega) | omega) _).setCell (by first | (simp; done) | (simp; omega) | omega) _).setCell (by first | (simp; done) | (simp; omega) | omega) _) ?_
  all_goals first | rfl | (rw [HS.out]; rfl)

set_option maxRecDepth 100000 in
set_option maxHeartbeats 8000000 in
theorem kNext_in (p : Pr) (a b t mo ms : Int) (mc : Bool) (v : Value) (w : World) (h : IsPair w w.heap.size v p) (h0 : asE p ⟨a, b, t⟩ = 0) (hh : hasM (movesL p ⟨a, b, t⟩) ⟨mo, ms, mc⟩ = true) (ho : a + mo ≠ p.bed.rings) : Calls Try.prog 21 #[v, .agg #[.int .i64 a, .int .i64 b, .int .i64 t], .agg #[.int .i64 mo, .int .i64 ms, .bool mc]] w fun e w' => e = .returned (.tuple #[stV (nextS p ⟨a, b, t⟩ ⟨mo, ms, mc⟩), .bool false, .int .i64 0]) ∧ Below w.heap.size w w' := by
  obtain ⟨s, r, d, hpv, -, -, -⟩ := id h
  subst hpv
  have HP0 := Lib.hid h
  have HE := Lib.hid h0
  clear h h0
  unfold pairV at *
  have HH := Lib.hid hh
  have HO := Lib.hid ho
  have HM := Lib.hid (mvB_of_has (movesL_ok (asE_zero HE.out).1 (asE_zero HE.out).2) hh)
  clear hh ho
  go_enter Try.func21, Try.ntmps21
  go_wp2_with fail
  obtain ⟨W401, hW402⟩ : ∃ Wzz, ((((w.alloc (.cells #[.int .i64 p.bed.eye, .int .i64 p.bed.rings, .int .i64 p.bed.sectors, s, .int .i64 p.run.eye, .int .i64 p.run.rings, .int .i64 p.run.sectors, r, d] 27)).alloc (.cells #[.int .i64 a, .int .i64 b, .int .i64 t] 29)).alloc (.cells #[.int .i64 mo, .int .i64 ms, .bool mc] 41)).alloc (.cells #[.int .i64 0, .int .i64 0, .int .i64 0] 29)) = Wzz := ⟨_, rfl⟩
  have B403 := Lib.hid (show Below w.heap.size w W401 by rw [← hW402]; exact (((((Below.refl w.heap.size w).alloc (Nat.le_refl _) _).alloc (by first | (simp; done) | (simp; omega)) _).alloc (by first | (simp; done) | (simp; omega)) _).alloc (by first | (simp; done) | (simp; omega)) _))
  have X404 := Lib.hid (show Box W401 (w.heap.size) 27 #[.int .i64 p.bed.eye, .int .i64 p.bed.rings, .int .i64 p.bed.sectors, s, .int .i64 p.run.eye, .int .i64 p.run.rings, .int .i64 p.run.sectors, r, d] by rw [← hW402]; exact Box.alloc (Box.alloc (Box.alloc (Box.made w 27 #[.int .i64 p.bed.eye, .int .i64 p.bed.rings, .int .i64 p.bed.sectors, s, .int .i64 p.run.eye, .int .i64 p.run.rings, .int .i64 p.run.sectors, r, d]) (.cells #[.int .i64 a, .int .i64 b, .int .i64 t] 29)) (.cells #[.int .i64 mo, .int .i64 ms, .bool mc] 41)) (.cells #[.int .i64 0, .int .i64 0, .int .i64 0] 29))
  have X405 := Lib.hid (show Box W401 (w.heap.size + 1) 29 #[.int .i64 a, .int .i64 b, .int .i64 t] by
    have hz := Box.alloc (Box.alloc (Box.made (w.alloc (.cells #[.int .i64 p.bed.eye, .int .i64 p.bed.rings, .int .i64 p.bed.sectors, s, .int .i64 p.run.eye, .int .i64 p.run.rings, .int .i64 p.run.sectors, r, d] 27)) 29 #[.int .i64 a, .int .i64 b, .int .i64 t]) (.cells #[.int .i64 mo, .int .i64 ms, .bool mc] 41)) (.cells #[.int .i64 0, .int .i64 0, .int .i64 0] 29)
    rw [World.size_alloc] at hz
    rw [← hW402]; exact hz)
  have X406 := Lib.hid (show Box W401 (w.heap.size + 1 + 1) 41 #[.int .i64 mo, .int .i64 ms, .bool mc] by
    have hz := Box.alloc (Box.made ((w.alloc (.cells #[.int .i64 p.bed.eye, .int .i64 p.bed.rings, .int .i64 p.bed.sectors, s, .int .i64 p.run.eye, .int .i64 p.run.rings, .int .i64 p.run.sectors, r, d] 27)).alloc (.cells #[.int .i64 a, .int .i64 b, .int .i64 t] 29)) 41 #[.int .i64 mo, .int .i64 ms, .bool mc]) (.cells #[.int .i64 0, .int .i64 0, .int .i64 0] 29)
    rw [World.size_alloc, World.size_alloc] at hz
    rw [← hW402]; exact hz)
  have X407 := Lib.hid (show Box W401 (w.heap.size + 1 + 1 + 1) 29 #[.int .i64 0, .int .i64 0, .int .i64 0] by
    have hz := Box.made (((w.alloc (.cells #[.int .i64 p.bed.eye, .int .i64 p.bed.rings, .int .i64 p.bed.sectors, s, .int .i64 p.run.eye, .int .i64 p.run.rings, .int .i64 p.run.sectors, r, d] 27)).alloc (.cells #[.int .i64 a, .int .i64 b, .int .i64 t] 29)).alloc (.cells #[.int .i64 mo, .int .i64 ms, .bool mc] 41)) 29 #[.int .i64 0, .int .i64 0, .int .i64 0]
    rw [World.size_alloc, World.size_alloc, World.size_alloc] at hz
    rw [← hW402]; exact hz)
  have C408 := Lib.hid (HP0.out.later B403.out)
  have SZ409 := Lib.hid (show W401.heap.size = w.heap.size + 1 + 1 + 1 + 1 by rw [← hW402]; simp)
  rw [hW402]
  clear hW402
  have q410 : W401.cell? ⟨w.heap.size, 0, none⟩ = some (.int .i64 p.bed.eye) := X404.out.cell 0
  have q411 : W401.cell? ⟨w.heap.size, 1, none⟩ = some (.int .i64 p.bed.rings) := X404.out.cell 1
  have q412 : W401.cell? ⟨w.heap.size, 2, none⟩ = some (.int .i64 p.bed.sectors) := X404.out.cell 2
  have q413 : W401.cell? ⟨w.heap.size, 3, none⟩ = some (s) := X404.out.cell 3
  have q414 : W401.cell? ⟨w.heap.size, 4, none⟩ = some (.int .i64 p.run.eye) := X404.out.cell 4
  have q415 : W401.cell? ⟨w.heap.size, 5, none⟩ = some (.int .i64 p.run.rings) := X404.out.cell 5
  have q416 : W401.cell? ⟨w.heap.size, 6, none⟩ = some (.int .i64 p.run.sectors) := X404.out.cell 6
  have q417 : W401.cell? ⟨w.heap.size, 7, none⟩ = some (r) := X404.out.cell 7
  have q418 : W401.cell? ⟨w.heap.size, 8, none⟩ = some (d) := X404.out.cell 8
  have q419 : W401.cell? ⟨w.heap.size + 1, 0, none⟩ = some (.int .i64 a) := X405.out.cell 0
  have q420 : W401.cell? ⟨w.heap.size + 1, 1, none⟩ = some (.int .i64 b) := X405.out.cell 1
  have q421 : W401.cell? ⟨w.heap.size + 1, 2, none⟩ = some (.int .i64 t) := X405.out.cell 2
  have q422 : W401.cell? ⟨w.heap.size + 1 + 1, 0, none⟩ = some (.int .i64 mo) := X406.out.cell 0
  have q423 : W401.cell? ⟨w.heap.size + 1 + 1, 1, none⟩ = some (.int .i64 ms) := X406.out.cell 1
  have q424 : W401.cell? ⟨w.heap.size + 1 + 1, 2, none⟩ = some (.bool mc) := X406.out.cell 2
  have q425 : W401.cell? ⟨w.heap.size + 1 + 1 + 1, 0, none⟩ = some (.int .i64 0) := X407.out.cell 0
  have q426 : W401.cell? ⟨w.heap.size + 1 + 1 + 1, 1, none⟩ = some (.int .i64 0) := X407.out.cell 1
  have q427 : W401.cell? ⟨w.heap.size + 1 + 1 + 1, 2, none⟩ = some (.int .i64 0) := X407.out.cell 2
  have fz428 : ∀ o, W401.frozen? ⟨w.heap.size + 1 + 1 + 1, o, none⟩ = false := fun o => X407.out.free o
  go_wp2_with fail
  refine (kasked_c p a b t _ _ C408.out trivial).mono ?_; rintro e v429 ⟨rfl, hb430⟩
  have X431 := Lib.hid (X404.out.later hb430)
  have X432 := Lib.hid (X405.out.later hb430)
  have X433 := Lib.hid (X406.out.later hb430)
  have X434 := Lib.hid (X407.out.later hb430)
  have C435 := Lib.hid (C408.out.later hb430)
  have B436 := Lib.hid (B403.out.trans (hb430.mono B403.out.size))
  clear hb430
  rw [HE.out]
  clear q410 q411 q412 q413 q414 q415 q416 q417 q418 q419 q420 q421 q422 q423 q424 q425 q426 q427 fz428
  have q437 : v429.cell? ⟨w.heap.size, 0, none⟩ = some (.int .i64 p.bed.eye) := X431.out.cell 0
  have q438 : v429.cell? ⟨w.heap.size, 1, none⟩ = some (.int .i64 p.bed.rings) := X431.out.cell 1
  have q439 : v429.cell? ⟨w.heap.size, 2, none⟩ = some (.int .i64 p.bed.sectors) := X431.out.cell 2
  have q440 : v429.cell? ⟨w.heap.size, 3, none⟩ = some (s) := X431.out.cell 3
  have q441 : v429.cell? ⟨w.heap.size, 4, none⟩ = some (.int .i64 p.run.eye) := X431.out.cell 4
  have q442 : v429.cell? ⟨w.heap.size, 5, none⟩ = some (.int .i64 p.run.rings) := X431.out.cell 5
  have q443 : v429.cell? ⟨w.heap.size, 6, none⟩ = some (.int .i64 p.run.sectors) := X431.out.cell 6
  have q444 : v429.cell? ⟨w.heap.size, 7, none⟩ = some (r) := X431.out.cell 7
  have q445 : v429.cell? ⟨w.heap.size, 8, none⟩ = some (d) := X431.out.cell 8
  have q446 : v429.cell? ⟨w.heap.size + 1, 0, none⟩ = some (.int .i64 a) := X432.out.cell 0
  have q447 : v429.cell? ⟨w.heap.size + 1, 1, none⟩ = some (.int .i64 b) := X432.out.cell 1
  have q448 : v429.cell? ⟨w.heap.size + 1, 2, none⟩ = some (.int .i64 t) := X432.out.cell 2
  have q449 : v429.cell? ⟨w.heap.size + 1 + 1, 0, none⟩ = some (.int .i64 mo) := X433.out.cell 0
  have q450 : v429.cell? ⟨w.heap.size + 1 + 1, 1, none⟩ = some (.int .i64 ms) := X433.out.cell 1
  have q451 : v429.cell? ⟨w.heap.size + 1 + 1, 2, none⟩ = some (.bool mc) := X433.out.cell 2
  have q452 : v429.cell? ⟨w.heap.size + 1 + 1 + 1, 0, none⟩ = some (.int .i64 0) := X434.out.cell 0
  have q453 : v429.cell? ⟨w.heap.size + 1 + 1 + 1, 1, none⟩ = some (.int .i64 0) := X434.out.cell 1
  have q454 : v429.cell? ⟨w.heap.size + 1 + 1 + 1, 2, none⟩ = some (.int .i64 0) := X434.out.cell 2
  have fz455 : ∀ o, v429.frozen? ⟨w.heap.size + 1 + 1 + 1, o, none⟩ = false := fun o => X434.out.free o
  go_wp2_with fail
  have hdr492 : Below (v429).heap.size (v429) (v429).drew := (Below.refl _ _).drew
  have lt474 := X431.out.lt
  have lt475 := X431.out.lt
  have lt476 := X431.out.lt
  have lt477 := X431.out.lt
  have lt478 := X431.out.lt
  have lt479 := X431.out.lt
  have lt480 := X431.out.lt
  have lt481 := X431.out.lt
  have lt482 := X431.out.lt
  have lt483 := X432.out.lt
  have lt484 := X432.out.lt
  have lt485 := X432.out.lt
  have lt486 := X433.out.lt
  have lt487 := X433.out.lt
  have lt488 := X433.out.lt
  have lt489 := X434.out.lt
  have lt490 := X434.out.lt
  have lt491 := X434.out.lt
  have hcall493 : ∀ X Y : World, (fun Wz => Wz.cell? ⟨w.heap.size, 0, none⟩ = some (.int .i64 p.bed.eye) ∧ Wz.cell? ⟨w.heap.size, 1, none⟩ = some (.int .i64 p.bed.rings) ∧ Wz.cell? ⟨w.heap.size, 2, none⟩ = some (.int .i64 p.bed.sectors) ∧ Wz.cell? ⟨w.heap.size, 3, none⟩ = some (s) ∧ Wz.cell? ⟨w.heap.size, 4, none⟩ = some (.int .i64 p.run.eye) ∧ Wz.cell? ⟨w.heap.size, 5, none⟩ = some (.int .i64 p.run.rings) ∧ Wz.cell? ⟨w.heap.size, 6, none⟩ = some (.int .i64 p.run.sectors) ∧ Wz.cell? ⟨w.heap.size, 7, none⟩ = some (r) ∧ Wz.cell? ⟨w.heap.size, 8, none⟩ = some (d) ∧ Wz.cell? ⟨w.heap.size + 1, 0, none⟩ = some (.int .i64 a) ∧ Wz.cell? ⟨w.heap.size + 1, 1, none⟩ = some (.int .i64 b) ∧ Wz.cell? ⟨w.heap.size + 1, 2, none⟩ = some (.int .i64 t) ∧ Wz.cell? ⟨w.heap.size + 1 + 1, 0, none⟩ = some (.int .i64 mo) ∧ Wz.cell? ⟨w.heap.size + 1 + 1, 1, none⟩ = some (.int .i64 ms) ∧ Wz.cell? ⟨w.heap.size + 1 + 1, 2, none⟩ = some (.bool mc) ∧ Wz.cell? ⟨w.heap.size + 1 + 1 + 1, 0, none⟩ = some (.int .i64 0) ∧ Wz.cell? ⟨w.heap.size + 1 + 1 + 1, 1, none⟩ = some (.int .i64 0) ∧ Wz.cell? ⟨w.heap.size + 1 + 1 + 1, 2, none⟩ = some (.int .i64 0) ∧ (v429).heap.size ≤ Wz.heap.size) X → Below X.heap.size X Y → (fun Wz => Wz.cell? ⟨w.heap.size, 0, none⟩ = some (.int .i64 p.bed.eye) ∧ Wz.cell? ⟨w.heap.size, 1, none⟩ = some (.int .i64 p.bed.rings) ∧ Wz.cell? ⟨w.heap.size, 2, none⟩ = some (.int .i64 p.bed.sectors) ∧ Wz.cell? ⟨w.heap.size, 3, none⟩ = some (s) ∧ Wz.cell? ⟨w.heap.size, 4, none⟩ = some (.int .i64 p.run.eye) ∧ Wz.cell? ⟨w.heap.size, 5, none⟩ = some (.int .i64 p.run.rings) ∧ Wz.cell? ⟨w.heap.size, 6, none⟩ = some (.int .i64 p.run.sectors) ∧ Wz.cell? ⟨w.heap.size, 7, none⟩ = some (r) ∧ Wz.cell? ⟨w.heap.size, 8, none⟩ = some (d) ∧ Wz.cell? ⟨w.heap.size + 1, 0, none⟩ = some (.int .i64 a) ∧ Wz.cell? ⟨w.heap.size + 1, 1, none⟩ = some (.int .i64 b) ∧ Wz.cell? ⟨w.heap.size + 1, 2, none⟩ = some (.int .i64 t) ∧ Wz.cell? ⟨w.heap.size + 1 + 1, 0, none⟩ = some (.int .i64 mo) ∧ Wz.cell? ⟨w.heap.size + 1 + 1, 1, none⟩ = some (.int .i64 ms) ∧ Wz.cell? ⟨w.heap.size + 1 + 1, 2, none⟩ = some (.bool mc) ∧ Wz.cell? ⟨w.heap.size + 1 + 1 + 1, 0, none⟩ = some (.int .i64 0) ∧ Wz.cell? ⟨w.heap.size + 1 + 1 + 1, 1, none⟩ = some (.int .i64 0) ∧ Wz.cell? ⟨w.heap.size + 1 + 1 + 1, 2, none⟩ = some (.int .i64 0) ∧ (v429).heap.size ≤ Wz.heap.size) Y := by
    rintro X Y ⟨z456, z457, z458, z459, z460, z461, z462, z463, z464, z465, z466, z467, z468, z469, z470, z471, z472, z473, xs⟩ hb
    have hb2 := Below.mono (B' := (v429).heap.size) hb xs
    exact ⟨keepd z456 hb2 lt474, keepd z457 hb2 lt475, keepd z458 hb2 lt476, keepd z459 hb2 lt477, keepd z460 hb2 lt478, keepd z461 hb2 lt479, keepd z462 hb2 lt480, keepd z463 hb2 lt481, keepd z464 hb2 lt482, keepd z465 hb2 lt483, keepd z466 hb2 lt484, keepd z467 hb2 lt485, keepd z468 hb2 lt486, keepd z469 hb2 lt487, keepd z470 hb2 lt488, keepd z471 hb2 lt489, keepd z472 hb2 lt490, keepd z473 hb2 lt491, Nat.le_trans xs hb.size⟩
  have hini494 : (fun Wz => Wz.cell? ⟨w.heap.size, 0, none⟩ = some (.int .i64 p.bed.eye) ∧ Wz.cell? ⟨w.heap.size, 1, none⟩ = some (.int .i64 p.bed.rings) ∧ Wz.cell? ⟨w.heap.size, 2, none⟩ = some (.int .i64 p.bed.sectors) ∧ Wz.cell? ⟨w.heap.size, 3, none⟩ = some (s) ∧ Wz.cell? ⟨w.heap.size, 4, none⟩ = some (.int .i64 p.run.eye) ∧ Wz.cell? ⟨w.heap.size, 5, none⟩ = some (.int .i64 p.run.rings) ∧ Wz.cell? ⟨w.heap.size, 6, none⟩ = some (.int .i64 p.run.sectors) ∧ Wz.cell? ⟨w.heap.size, 7, none⟩ = some (r) ∧ Wz.cell? ⟨w.heap.size, 8, none⟩ = some (d) ∧ Wz.cell? ⟨w.heap.size + 1, 0, none⟩ = some (.int .i64 a) ∧ Wz.cell? ⟨w.heap.size + 1, 1, none⟩ = some (.int .i64 b) ∧ Wz.cell? ⟨w.heap.size + 1, 2, none⟩ = some (.int .i64 t) ∧ Wz.cell? ⟨w.heap.size + 1 + 1, 0, none⟩ = some (.int .i64 mo) ∧ Wz.cell? ⟨w.heap.size + 1 + 1, 1, none⟩ = some (.int .i64 ms) ∧ Wz.cell? ⟨w.heap.size + 1 + 1, 2, none⟩ = some (.bool mc) ∧ Wz.cell? ⟨w.heap.size + 1 + 1 + 1, 0, none⟩ = some (.int .i64 0) ∧ Wz.cell? ⟨w.heap.size + 1 + 1 + 1, 1, none⟩ = some (.int .i64 0) ∧ Wz.cell? ⟨w.heap.size + 1 + 1 + 1, 2, none⟩ = some (.int .i64 0) ∧ (v429).heap.size ≤ Wz.heap.size) (v429).drew := ⟨keepd (X431.out.cell 0) hdr492 lt474, keepd (X431.out.cell 1) hdr492 lt475, keepd (X431.out.cell 2) hdr492 lt476, keepd (X431.out.cell 3) hdr492 lt477, keepd (X431.out.cell 4) hdr492 lt478, keepd (X431.out.cell 5) hdr492 lt479, keepd (X431.out.cell 6) hdr492 lt480, keepd (X431.out.cell 7) hdr492 lt481, keepd (X431.out.cell 8) hdr492 lt482, keepd (X432.out.cell 0) hdr492 lt483, keepd (X432.out.cell 1) hdr492 lt484, keepd (X432.out.cell 2) hdr492 lt485, keepd (X433.out.cell 0) hdr492 lt486, keepd (X433.out.cell 1) hdr492 lt487, keepd (X433.out.cell 2) hdr492 lt488, keepd (X434.out.cell 0) hdr492 lt489, keepd (X434.out.cell 1) hdr492 lt490, keepd (X434.out.cell 2) hdr492 lt491, Nat.le_refl _⟩
  have Hcall493 := Lib.hid hcall493
  have Hini494 := Lib.hid hini494
  clear hcall493 hini494 lt474 lt475 lt476 lt477 lt478 lt479 lt480 lt481 lt482 lt483 lt484 lt485 lt486 lt487 lt488 lt489 lt490 lt491
  clear q437 q438 q439 q440 q441 q442 q443 q444 q445 q446 q447 q448 q449 q450 q451 q452 q453 q454 fz455
  refine wp_region_noPanic ?_
  refine wp_region_held_drew (S := (fun Wz => Wz.cell? ⟨w.heap.size, 0, none⟩ = some (.int .i64 p.bed.eye) ∧ Wz.cell? ⟨w.heap.size, 1, none⟩ = some (.int .i64 p.bed.rings) ∧ Wz.cell? ⟨w.heap.size, 2, none⟩ = some (.int .i64 p.bed.sectors) ∧ Wz.cell? ⟨w.heap.size, 3, none⟩ = some (s) ∧ Wz.cell? ⟨w.heap.size, 4, none⟩ = some (.int .i64 p.run.eye) ∧ Wz.cell? ⟨w.heap.size, 5, none⟩ = some (.int .i64 p.run.rings) ∧ Wz.cell? ⟨w.heap.size, 6, none⟩ = some (.int .i64 p.run.sectors) ∧ Wz.cell? ⟨w.heap.size, 7, none⟩ = some (r) ∧ Wz.cell? ⟨w.heap.size, 8, none⟩ = some (d) ∧ Wz.cell? ⟨w.heap.size + 1, 0, none⟩ = some (.int .i64 a) ∧ Wz.cell? ⟨w.heap.size + 1, 1, none⟩ = some (.int .i64 b) ∧ Wz.cell? ⟨w.heap.size + 1, 2, none⟩ = some (.int .i64 t) ∧ Wz.cell? ⟨w.heap.size + 1 + 1, 0, none⟩ = some (.int .i64 mo) ∧ Wz.cell? ⟨w.heap.size + 1 + 1, 1, none⟩ = some (.int .i64 ms) ∧ Wz.cell? ⟨w.heap.size + 1 + 1, 2, none⟩ = some (.bool mc) ∧ Wz.cell? ⟨w.heap.size + 1 + 1 + 1, 0, none⟩ = some (.int .i64 0) ∧ Wz.cell? ⟨w.heap.size + 1 + 1 + 1, 1, none⟩ = some (.int .i64 0) ∧ Wz.cell? ⟨w.heap.size + 1 + 1 + 1, 2, none⟩ = some (.int .i64 0) ∧ (v429).heap.size ≤ Wz.heap.size)) (by kernel_rfl) Hini494.out (fun hHeld => ?_)
  obtain ⟨W496, hW497⟩ : ∃ Wzz, (v429).drew = Wzz := ⟨_, rfl⟩
  rw [hW497] at hHeld hdr492 ⊢
  clear hW497
  have X498 := Lib.hid (X431.out.later hdr492)
  have X499 := Lib.hid (X432.out.later hdr492)
  have X500 := Lib.hid (X433.out.later hdr492)
  have X501 := Lib.hid (X434.out.later hdr492)
  have C502 := Lib.hid (C435.out.later hdr492)
  have B503 := Lib.hid (B436.out.trans (hdr492.mono B436.out.size))
  clear hdr492
  refine wpAnyH_take (i := 0) (oi := { dst := some 19, op := Op.load 41 (Operand.tmp 5), type := 41, pos := "ref.go:166", after := #[], guard := none }) (v := ?vh504) rfl ?hsh504 ?hfh504 ?hrh504 ?hQh504 ?hyh504 (by assumption) ?resth504
  case hsh504 => kernel_rfl
  case hfh504 => kernel_rfl
  case hrh504 => kernel_rfl
  case hQh504 => exact fun _ _ _ h => h
  case hyh504 => (refine Or.inl ⟨by rfl, ?_⟩; intro w hSw; (try dsimp only at hSw); go_simp; try with_reducible rfl)
  try simp only [Act.put, List.setIfInBounds_toArray, List.set_cons_zero, List.set_cons_succ]
  refine wpAnyH_take (i := 1) (oi := { dst := some 20, op := Op.load 27 (Operand.tmp 3), type := 27, pos := "ref.go:166", after := #[], guard := none }) (v := ?vh505) rfl ?hsh505 ?hfh505 ?hrh505 ?hQh505 ?hyh505 (by assumption) ?resth505
  case hsh505 => kernel_rfl
  case hfh505 => kernel_rfl
  case hrh505 => kernel_rfl
  case hQh505 => exact fun _ _ _ h => h
  case hyh505 => (refine Or.inl ⟨by rfl, ?_⟩; intro w hSw; (try dsimp only at hSw); go_simp; try with_reducible rfl)
  try simp only [Act.put, List.setIfInBounds_toArray, List.set_cons_zero, List.set_cons_succ]
  refine wpAnyH_take (i := 2) (oi := { dst := some 21, op := Op.load 29 (Operand.tmp 4), type := 29, pos := "ref.go:166", after := #[], guard := none }) (v := ?vh506) rfl ?hsh506 ?hfh506 ?hrh506 ?hQh506 ?hyh506 (by assumption) ?resth506
  case hsh506 => kernel_rfl
  case hfh506 => kernel_rfl
  case hrh506 => kernel_rfl
  case hQh506 => exact fun _ _ _ h => h
  case hyh506 => (refine Or.inl ⟨by rfl, ?_⟩; intro w hSw; (try dsimp only at hSw); go_simp; try with_reducible rfl)
  try simp only [Act.put, List.setIfInBounds_toArray, List.set_cons_zero, List.set_cons_succ]
  refine wpAnyH_ready (rs := [3]) (by kernel_rfl) (by simp) ?_
  refine AllReadyH.cons (o := _) (by rfl) (fun K hK => ?_) AllReadyH.nil
  go_simp
  go_at_call 50
  refine (kMovesOf_c p a b t _ _ C502.out (asE_zero HE.out).1 (asE_zero HE.out).2).mono ?_; rintro e v507 ⟨⟨u, rfl, hu⟩, hb508⟩
  have X509 := Lib.hid (X498.out.later hb508)
  have X510 := Lib.hid (X499.out.later hb508)
  have X511 := Lib.hid (X500.out.later hb508)
  have X512 := Lib.hid (X501.out.later hb508)
  have C513 := Lib.hid (C502.out.later hb508)
  have B514 := Lib.hid (B503.out.trans (hb508.mono B503.out.size))
  clear X498 X499 X500 X501 C502 B503
  have HUV := Lib.hid hu
  clear hu
  go_wp2_with fail
  refine hK.out _ _ (Hcall493.out _ _ hHeld (by assumption)) (fun hHeld515 => ?_)
  clear hK K hHeld
  clear hb508
  have hHeld := hHeld515
  clear hHeld515
  try simp only [Act.put, List.setIfInBounds_toArray, List.set_cons_zero, List.set_cons_succ]
  refine wpAnyH_ready (rs := [4]) (by kernel_rfl) (by simp) ?_
  refine AllReadyH.cons (o := _) (by rfl) (fun K hK => ?_) AllReadyH.nil
  go_simp
  go_at_call 53
  refine (kof_c (movesL p ⟨a, b, t⟩) mo ms mc u _ HUV.out (listB_parts (movesL_ok (asE_zero HE.out).1 (asE_zero HE.out).2)).1.2).mono ?_; rintro e v516 ⟨rfl, hb517⟩
  have X518 := Lib.hid (X509.out.later hb517)
  have X519 := Lib.hid (X510.out.later hb517)
  have X520 := Lib.hid (X511.out.later hb517)
  have X521 := Lib.hid (X512.out.later hb517)
  have C522 := Lib.hid (C513.out.later hb517)
  have B523 := Lib.hid (B514.out.trans (hb517.mono B514.out.size))
  clear X509 X510 X511 X512 C513 B514
  rw [HH.out]
  go_wp2_with fail
  refine hK.out _ _ (Hcall493.out _ _ hHeld (by assumption)) (fun hHeld524 => ?_)
  clear hK K hHeld
  clear hb517
  have hHeld := hHeld524
  clear hHeld524
  try simp only [Act.put, List.setIfInBounds_toArray, List.set_cons_zero, List.set_cons_succ]
  refine wpAnyH_take (i := 5) (oi := { dst := some 24, op := Op.unOp UnOp.not 4 (Operand.tmp 23), type := 4, pos := "ref.go:166", after := #[{ on := 4, ground := Ground.data }], guard := none }) (v := ?vh525) rfl ?hsh525 ?hfh525 ?hrh525 ?hQh525 ?hyh525 (by assumption) ?resth525
  case hsh525 => kernel_rfl
  case hfh525 => kernel_rfl
  case hrh525 => kernel_rfl
  case hQh525 => exact fun _ _ _ h => h
  case hyh525 => (refine Or.inl ⟨by rfl, ?_⟩; intro w hSw; (try dsimp only at hSw); go_simp; try with_reducible rfl)
  try simp only [Act.put, List.setIfInBounds_toArray, List.set_cons_zero, List.set_cons_succ]
  refine wpAnyH_done (by kernel_rfl) ?_ _
  refine NoPanic.normal ?_
  clear hHeld Hcall493 Hini494
  have q526 : v516.cell? ⟨w.heap.size, 0, none⟩ = some (.int .i64 p.bed.eye) := X518.out.cell 0
  have q527 : v516.cell? ⟨w.heap.size, 1, none⟩ = some (.int .i64 p.bed.rings) := X518.out.cell 1
  have q528 : v516.cell? ⟨w.heap.size, 2, none⟩ = some (.int .i64 p.bed.sectors) := X518.out.cell 2
  have q529 : v516.cell? ⟨w.heap.size, 3, none⟩ = some (s) := X518.out.cell 3
  have q530 : v516.cell? ⟨w.heap.size, 4, none⟩ = some (.int .i64 p.run.eye) := X518.out.cell 4
  have q531 : v516.cell? ⟨w.heap.size, 5, none⟩ = some (.int .i64 p.run.rings) := X518.out.cell 5
  have q532 : v516.cell? ⟨w.heap.size, 6, none⟩ = some (.int .i64 p.run.sectors) := X518.out.cell 6
  have q533 : v516.cell? ⟨w.heap.size, 7, none⟩ = some (r) := X518.out.cell 7
  have q534 : v516.cell? ⟨w.heap.size, 8, none⟩ = some (d) := X518.out.cell 8
  have q535 : v516.cell? ⟨w.heap.size + 1, 0, none⟩ = some (.int .i64 a) := X519.out.cell 0
  have q536 : v516.cell? ⟨w.heap.size + 1, 1, none⟩ = some (.int .i64 b) := X519.out.cell 1
  have q537 : v516.cell? ⟨w.heap.size + 1, 2, none⟩ = some (.int .i64 t) := X519.out.cell 2
  have q538 : v516.cell? ⟨w.heap.size + 1 + 1, 0, none⟩ = some (.int .i64 mo) := X520.out.cell 0
  have q539 : v516.cell? ⟨w.heap.size + 1 + 1, 1, none⟩ = some (.int .i64 ms) := X520.out.cell 1
  have q540 : v516.cell? ⟨w.heap.size + 1 + 1, 2, none⟩ = some (.bool mc) := X520.out.cell 2
  have q541 : v516.cell? ⟨w.heap.size + 1 + 1 + 1, 0, none⟩ = some (.int .i64 0) := X521.out.cell 0
  have q542 : v516.cell? ⟨w.heap.size + 1 + 1 + 1, 1, none⟩ = some (.int .i64 0) := X521.out.cell 1
  have q543 : v516.cell? ⟨w.heap.size + 1 + 1 + 1, 2, none⟩ = some (.int .i64 0) := X521.out.cell 2
  have fz544 : ∀ o, v516.frozen? ⟨w.heap.size + 1 + 1 + 1, o, none⟩ = false := fun o => X521.out.free o
  go_wp2_with fail
  refine (kStep_in p a b t mo ms mc _ _ C522.out (asE_zero HE.out).1 (asE_zero HE.out).2 HM.out HO.out).mono ?_; rintro e v545 ⟨rfl, hb546⟩
  have X547 := Lib.hid (X518.out.later hb546)
  have X548 := Lib.hid (X519.out.later hb546)
  have X549 := Lib.hid (X520.out.later hb546)
  have X550 := Lib.hid (X521.out.later hb546)
  have C551 := Lib.hid (C522.out.later hb546)
  have B552 := Lib.hid (B523.out.trans (hb546.mono B523.out.size))
  clear hb546
  obtain ⟨⟨x, y, z⟩, hs⟩ : ∃ s, nextS p ⟨a, b, t⟩ ⟨mo, ms, mc⟩ = s := ⟨_, rfl⟩
  have HS := Lib.hid hs
  rw [hs]
  clear hs
  unfold stV
  dsimp only
  clear q526 q527 q528 q529 q530 q531 q532 q533 q534 q535 q536 q537 q538 q539 q540 q541 q542 q543 fz544
  have q553 : v545.cell? ⟨w.heap.size, 0, none⟩ = some (.int .i64 p.bed.eye) := X547.out.cell 0
  have q554 : v545.cell? ⟨w.heap.size, 1, none⟩ = some (.int .i64 p.bed.rings) := X547.out.cell 1
  have q555 : v545.cell? ⟨w.heap.size, 2, none⟩ = some (.int .i64 p.bed.sectors) := X547.out.cell 2
  have q556 : v545.cell? ⟨w.heap.size, 3, none⟩ = some (s) := X547.out.cell 3
  have q557 : v545.cell? ⟨w.heap.size, 4, none⟩ = some (.int .i64 p.run.eye) := X547.out.cell 4
  have q558 : v545.cell? ⟨w.heap.size, 5, none⟩ = some (.int .i64 p.run.rings) := X547.out.cell 5
  have q559 : v545.cell? ⟨w.heap.size, 6, none⟩ = some (.int .i64 p.run.sectors) := X547.out.cell 6
  have q560 : v545.cell? ⟨w.heap.size, 7, none⟩ = some (r) := X547.out.cell 7
  have q561 : v545.cell? ⟨w.heap.size, 8, none⟩ = some (d) := X547.out.cell 8
  have q562 : v545.cell? ⟨w.heap.size + 1, 0, none⟩ = some (.int .i64 a) := X548.out.cell 0
  have q563 : v545.cell? ⟨w.heap.size + 1, 1, none⟩ = some (.int .i64 b) := X548.out.cell 1
  have q564 : v545.cell? ⟨w.heap.size + 1, 2, none⟩ = some (.int .i64 t) := X548.out.cell 2
  have q565 : v545.cell? ⟨w.heap.size + 1 + 1, 0, none⟩ = some (.int .i64 mo) := X549.out.cell 0
  have q566 : v545.cell? ⟨w.heap.size + 1 + 1, 1, none⟩ = some (.int .i64 ms) := X549.out.cell 1
  have q567 : v545.cell? ⟨w.heap.size + 1 + 1, 2, none⟩ = some (.bool mc) := X549.out.cell 2
  have q568 : v545.cell? ⟨w.heap.size + 1 + 1 + 1, 0, none⟩ = some (.int .i64 0) := X550.out.cell 0
  have q569 : v545.cell? ⟨w.heap.size + 1 + 1 + 1, 1, none⟩ = some (.int .i64 0) := X550.out.cell 1
  have q570 : v545.cell? ⟨w.heap.size + 1 + 1 + 1, 2, none⟩ = some (.int .i64 0) := X550.out.cell 2
  have fz571 : ∀ o, v545.frozen? ⟨w.heap.size + 1 + 1 + 1, o, none⟩ = false := fun o => X550.out.free o
  have LT572 := Lib.hid X549.out.lt
  have X573 := Lib.hid (X547.out.alloc (.cells #[.int .i64 x, .int .i64 y, .int .i64 z] 29))
  have X574 := Lib.hid (X548.out.alloc (.cells #[.int .i64 x, .int .i64 y, .int .i64 z] 29))
  have X575 := Lib.hid (X549.out.alloc (.cells #[.int .i64 x, .int .i64 y, .int .i64 z] 29))
  have X576 := Lib.hid (X550.out.alloc (.cells #[.int .i64 x, .int .i64 y, .int .i64 z] 29))
  have C577 := Lib.hid (C551.out.later ((Below.refl v545.heap.size v545).alloc (Nat.le_refl _) (.cells #[.int .i64 x, .int .i64 y, .int .i64 z] 29)))
  have B578 := Lib.hid (B552.out.alloc B552.out.size (.cells #[.int .i64 x, .int .i64 y, .int .i64 z] 29))
  have X579 := Lib.hid (Box.made v545 29 #[.int .i64 x, .int .i64 y, .int .i64 z])
  have q580 : (v545.alloc (.cells #[.int .i64 x, .int .i64 y, .int .i64 z] 29)).cell? ⟨w.heap.size, 0, none⟩ = some (.int .i64 p.bed.eye) := X573.out.cell 0
  have q581 : (v545.alloc (.cells #[.int .i64 x, .int .i64 y, .int .i64 z] 29)).cell? ⟨w.heap.size, 1, none⟩ = some (.int .i64 p.bed.rings) := X573.out.cell 1
  have q582 : (v545.alloc (.cells #[.int .i64 x, .int .i64 y, .int .i64 z] 29)).cell? ⟨w.heap.size, 2, none⟩ = some (.int .i64 p.bed.sectors) := X573.out.cell 2
  have q583 : (v545.alloc (.cells #[.int .i64 x, .int .i64 y, .int .i64 z] 29)).cell? ⟨w.heap.size, 3, none⟩ = some (s) := X573.out.cell 3
  have q584 : (v545.alloc (.cells #[.int .i64 x, .int .i64 y, .int .i64 z] 29)).cell? ⟨w.heap.size, 4, none⟩ = some (.int .i64 p.run.eye) := X573.out.cell 4
  have q585 : (v545.alloc (.cells #[.int .i64 x, .int .i64 y, .int .i64 z] 29)).cell? ⟨w.heap.size, 5, none⟩ = some (.int .i64 p.run.rings) := X573.out.cell 5
  have q586 : (v545.alloc (.cells #[.int .i64 x, .int .i64 y, .int .i64 z] 29)).cell? ⟨w.heap.size, 6, none⟩ = some (.int .i64 p.run.sectors) := X573.out.cell 6
  have q587 : (v545.alloc (.cells #[.int .i64 x, .int .i64 y, .int .i64 z] 29)).cell? ⟨w.heap.size, 7, none⟩ = some (r) := X573.out.cell 7
  have q588 : (v545.alloc (.cells #[.int .i64 x, .int .i64 y, .int .i64 z] 29)).cell? ⟨w.heap.size, 8, none⟩ = some (d) := X573.out.cell 8
  have q589 : (v545.alloc (.cells #[.int .i64 x, .int .i64 y, .int .i64 z] 29)).cell? ⟨w.heap.size + 1, 0, none⟩ = some (.int .i64 a) := X574.out.cell 0
  have q590 : (v545.alloc (.cells #[.int .i64 x, .int .i64 y, .int .i64 z] 29)).cell? ⟨w.heap.size + 1, 1, none⟩ = some (.int .i64 b) := X574.out.cell 1
  have q591 : (v545.alloc (.cells #[.int .i64 x, .int .i64 y, .int .i64 z] 29)).cell? ⟨w.heap.size + 1, 2, none⟩ = some (.int .i64 t) := X574.out.cell 2
  have q592 : (v545.alloc (.cells #[.int .i64 x, .int .i64 y, .int .i64 z] 29)).cell? ⟨w.heap.size + 1 + 1, 0, none⟩ = some (.int .i64 mo) := X575.out.cell 0
  have q593 : (v545.alloc (.cells #[.int .i64 x, .int .i64 y, .int .i64 z] 29)).cell? ⟨w.heap.size + 1 + 1, 1, none⟩ = some (.int .i64 ms) := X575.out.cell 1
  have q594 : (v545.alloc (.cells #[.int .i64 x, .int .i64 y, .int .i64 z] 29)).cell? ⟨w.heap.size + 1 + 1, 2, none⟩ = some (.bool mc) := X575.out.cell 2
  have q595 : (v545.alloc (.cells #[.int .i64 x, .int .i64 y, .int .i64 z] 29)).cell? ⟨w.heap.size + 1 + 1 + 1, 0, none⟩ = some (.int .i64 0) := X576.out.cell 0
  have q596 : (v545.alloc (.cells #[.int .i64 x, .int .i64 y, .int .i64 z] 29)).cell? ⟨w.heap.size + 1 + 1 + 1, 1, none⟩ = some (.int .i64 0) := X576.out.cell 1
  have q597 : (v545.alloc (.cells #[.int .i64 x, .int .i64 y, .int .i64 z] 29)).cell? ⟨w.heap.size + 1 + 1 + 1, 2, none⟩ = some (.int .i64 0) := X576.out.cell 2
  have fz598 : ∀ o, (v545.alloc (.cells #[.int .i64 x, .int .i64 y, .int .i64 z] 29)).frozen? ⟨w.heap.size + 1 + 1 + 1, o, none⟩ = false := fun o => X576.out.free o
  have q599 : (v545.alloc (.cells #[.int .i64 x, .int .i64 y, .int .i64 z] 29)).cell? ⟨v545.heap.size, 0, none⟩ = some (.int .i64 x) := X579.out.cell 0
  have q600 : (v545.alloc (.cells #[.int .i64 x, .int .i64 y, .int .i64 z] 29)).cell? ⟨v545.heap.size, 1, none⟩ = some (.int .i64 y) := X579.out.cell 1
  have q601 : (v545.alloc (.cells #[.int .i64 x, .int .i64 y, .int .i64 z] 29)).cell? ⟨v545.heap.size, 2, none⟩ = some (.int .i64 z) := X579.out.cell 2
  go_wp2_with fail
  (try simp only [Exit.inBlock, Exit.then])
  refine endS3 (t := 6) (u := 7) (q := 8) (x := .bool false) (y := .int .i64 0) (v := .tuple #[stV (nextS p ⟨a, b, t⟩ ⟨mo, ms, mc⟩), .bool false, .int .i64 0]) ?_ ?_ ?_ ?_ (((X576.out.put 0 (.int .i64 x)).put 1 (.int .i64 y)).put 2 (.int .i64 z)) (((B578.out.setCell (by first | (simp; done) | (simp; omega) | omega) _).setCell (by first | (simp; done) | (simp; omega) | omega) _).setCell (by first | (simp; done) | (simp; omega) | omega) _) ?_
  all_goals first | rfl | (rw [HS.out]; rfl)

set_option maxRecDepth 100000 in
set_option maxHeartbeats 8000000 in
theorem SameMoves_c (l : List Mv) (v u : Value) (w : World) (h : Moves w w.heap.size v l) (hu : Moves w w.heap.size u l) (h3 : l.length ≤ 3) : Calls Try.prog 24 #[v, u] w fun e w' => e = .returned (.bool true) ∧ Below w.heap.size w w' := by
  obtain ⟨n, hn⟩ : ∃ n, l.length = n := ⟨_, rfl⟩
  have HN := Lib.hid hn
  have HM := Lib.hid h
  have HU := Lib.hid hu
  obtain ⟨hlen, A, c, rfl, hcap, -⟩ := h
  obtain ⟨hlen2, A2, c2, rfl, hcap2, -⟩ := hu
  rw [hn] at HM HU h3 ⊢
  have e1 : ((n : Int) != (n : Int)) = false := by simp
  clear hcap hcap2 hn hlen hlen2
  go_enter Try.func24, Try.ntmps24
  go_wp2_with fail
  go_loopw [5] (fun i wr => ∃ k : Nat, k ≤ n ∧ i = .int .i64 (k : Int) ∧ Below w.heap.size w wr) (fun i _ => n - (intOf i).toNat)
  case atStart => exact ⟨0, Nat.zero_le _, rfl, Below.refl _ _⟩
  case round =>
    obtain ⟨k, hk, rfl, hbr⟩ := hrel
    have HBR := Lib.hid hbr
    clear hbr
    by_cases hlt : k < n
    · have hdk : decide ((k : Int) < (n : Int)) = true := by simpa using hlt
      have i0 : (0 : Int) ≤ (k : Int) := Int.natCast_nonneg _
      have i1 : (k : Int) < (n : Int) := by omega
      obtain ⟨b, off, c', hv, hbB, x1, x2, x3⟩ := HM.out.at (k := k) (by rw [HN.out]; exact hlt)
      rw [HN.out] at hv
      cases hv
      obtain ⟨b2, off2, c2', hv2, hbB2, z1, z2, z3⟩ := HU.out.at (k := k) (by rw [HN.out]; exact hlt)
      rw [HN.out] at hv2
      cases hv2
      have y1 := keepd x1 HBR.out hbB
      have y2 := keepd x2 HBR.out hbB
      have y3 := keepd x3 HBR.out hbB
      have y4 := keepd z1 HBR.out hbB2
      have y5 := keepd z2 HBR.out hbB2
      have y6 := keepd z3 HBR.out hbB2
      obtain ⟨⟨x, y, z⟩, hm⟩ : ∃ m, nthM l k = m := ⟨_, rfl⟩
      have HLT := Lib.hid hlt
      rw [hm] at y1 y2 y3 y4 y5 y6
      dsimp only at y1 y2 y3 y4 y5 y6
      clear x1 x2 x3 z1 z2 z3 hbB hbB2 hm hlt
      have hE : ∀ w : World, (binOp .neq 41 (.agg #[.int .i64 x, .int .i64 y, .bool z]) (.agg #[.int .i64 x, .int .i64 y, .bool z])).run Try.prog w = .ok (.bool false) w := fun w => by
        have h := eqMove x y z x y z w
        rw [eqM_iff.2 rfl] at h
        rw [run_eql_struct] at h
        rw [run_neq_struct]
        cases hr : (Op.equalIn 10000 41 (.agg #[.int .i64 x, .int .i64 y, .bool z]) (.agg #[.int .i64 x, .int .i64 y, .bool z])).run Try.prog w with
        | ok bb ww => rw [hr] at h; simp only [Result.andThen_ok] at h ⊢; cases h; rfl
        | halt hh ww => rw [hr] at h; cases h
      go_wp2_with fail
      go_quiet (fail)
      go_wp2_with fail
      go_roundw
      case rel => exact ⟨k + 1, by have := HLT.out; omega, by go_num, HBR.out.trans (below_drewN _ _)⟩
      case measure => have := HLT.out; simp [intOf]; omega
    · obtain rfl : k = n := by omega
      have hdk : decide ((k : Int) < (k : Int)) = false := by simp
      clear hlt
      go_wp2_with fail
      go_ret
      exact ⟨rfl, HBR.out⟩

end Go.Proofs.Ytikfiallhmhicaa

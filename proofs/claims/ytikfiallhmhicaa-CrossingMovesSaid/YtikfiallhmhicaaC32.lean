/- Layer 2: the specification: states and their numbers. -/
import Derived.Test.YtikfiallhmhicaaC31
import Derived.Test.YtikfiallhmhicaaC2A
set_option linter.all false
namespace Go.Proofs.Ytikfiallhmhicaa
open Go.RowKit

set_option maxRecDepth 100000 in
set_option maxHeartbeats 8000000 in
theorem khas_c (p : Pr) (a b t : Int) (v : Value) (w : World) (h : IsPair w w.heap.size v p) (h0 : ckE p = 0) : Calls Try.prog 69 #[v, .agg #[.int .i64 a, .int .i64 b, .int .i64 t]] w fun e w' => e = .returned (.bool (hasB p ⟨a, b, t⟩)) ∧ Below w.heap.size w w' := by
  obtain ⟨s, r, d, hpv, i1, i2, i3⟩ := id h
  subst hpv
  obtain ⟨⟨e1, R1, S1, k1⟩, ⟨e2, R2, S2, k2⟩, dr⟩ := p
  obtain ⟨SA, sn, sc, rfl⟩ : ∃ A n c, s = .slice A n c := by obtain ⟨-, A, c, rfl, -⟩ := i1; exact ⟨_, _, _, rfl⟩
  obtain ⟨RA, rn, rc, rfl⟩ : ∃ A n c, r = .slice A n c := by obtain ⟨-, A, c, rfl, -⟩ := i2; exact ⟨_, _, _, rfl⟩
  unfold pairV at *
  dsimp only at *
  obtain ⟨z1, z2, -⟩ := ckE_bd h0
  dsimp only at z1 z2
  have w1 : IntKind.i64.wrap (R1 - 1) = R1 - 1 := wrap_id (by omega) (by omega)
  have w2 : IntKind.i64.wrap (S1 - 1) = S1 - 1 := wrap_id (by omega) (by omega)
  have HB0 := Lib.hid (show hasB ⟨⟨e1, R1, S1, k1⟩, ⟨e2, R2, S2, k2⟩, dr⟩ ⟨a, b, t⟩ = (inB a 0 (R1 - 1) && inB b 0 (S1 - 1) && inB t 0 (S1 - 1)) from rfl)
  clear z1 z2 h h0 i1 i2 i3
  go_enter Try.func69, Try.ntmps69
  go_wp2_with fail
  obtain ⟨W1, hW2⟩ : ∃ Wzz, ((w.alloc (.cells #[.int .i64 e1, .int .i64 R1, .int .i64 S1, .slice SA sn sc, .int .i64 e2, .int .i64 R2, .int .i64 S2, .slice RA rn rc, d] 27)).alloc (.cells #[.int .i64 a, .int .i64 b, .int .i64 t] 29)) = Wzz := ⟨_, rfl⟩
  have B3 := Lib.hid (show Below w.heap.size w W1 by rw [← hW2]; exact (((Below.refl w.heap.size w).alloc (Nat.le_refl _) _).alloc (by first | (simp; done) | (simp; omega)) _))
  have X4 := Lib.hid (show Box W1 (w.heap.size) 27 #[.int .i64 e1, .int .i64 R1, .int .i64 S1, .slice SA sn sc, .int .i64 e2, .int .i64 R2, .int .i64 S2, .slice RA rn rc, d] by rw [← hW2]; exact Box.alloc (Box.made w 27 #[.int .i64 e1, .int .i64 R1, .int .i64 S1, .slice SA sn sc, .int .i64 e2, .int .i64 R2, .int .i64 S2, .slice RA rn rc, d]) (.cells #[.int .i64 a, .int .i64 b, .int .i64 t] 29))
  have X5 := Lib.hid (show Box W1 (w.heap.size + 1) 29 #[.int .i64 a, .int .i64 b, .int .i64 t] by
    have hz := Box.made (w.alloc (.cells #[.int .i64 e1, .int .i64 R1, .int .i64 S1, .slice SA sn sc, .int .i64 e2, .int .i64 R2, .int .i64 S2, .slice RA rn rc, d] 27)) 29 #[.int .i64 a, .int .i64 b, .int .i64 t]
    rw [World.size_alloc] at hz
    rw [← hW2]; exact hz)
  have SZ6 := Lib.hid (show W1.heap.size = w.heap.size + 1 + 1 by rw [← hW2]; simp)
  rw [hW2]
  clear hW2
  have q7 : W1.cell? ⟨w.heap.size, 0, none⟩ = some (.int .i64 e1) := X4.out.cell 0
  have q8 : W1.cell? ⟨w.heap.size, 1, none⟩ = some (.int .i64 R1) := X4.out.cell 1
  have q9 : W1.cell? ⟨w.heap.size, 2, none⟩ = some (.int .i64 S1) := X4.out.cell 2
  have q10 : W1.cell? ⟨w.heap.size, 3, none⟩ = some (.slice SA sn sc) := X4.out.cell 3
  have q11 : W1.cell? ⟨w.heap.size, 4, none⟩ = some (.int .i64 e2) := X4.out.cell 4
  have q12 : W1.cell? ⟨w.heap.size, 5, none⟩ = some (.int .i64 R2) := X4.out.cell 5
  have q13 : W1.cell? ⟨w.heap.size, 6, none⟩ = some (.int .i64 S2) := X4.out.cell 6
  have q14 : W1.cell? ⟨w.heap.size, 7, none⟩ = some (.slice RA rn rc) := X4.out.cell 7
  have q15 : W1.cell? ⟨w.heap.size, 8, none⟩ = some (d) := X4.out.cell 8
  have q16 : W1.cell? ⟨w.heap.size + 1, 0, none⟩ = some (.int .i64 a) := X5.out.cell 0
  have q17 : W1.cell? ⟨w.heap.size + 1, 1, none⟩ = some (.int .i64 b) := X5.out.cell 1
  have q18 : W1.cell? ⟨w.heap.size + 1, 2, none⟩ = some (.int .i64 t) := X5.out.cell 2
  cases c0 : inB a 0 (R1 - 1)
  · have HC0 := Lib.hid c0
    have HR := Lib.hid (show hasB ⟨⟨e1, R1, S1, k1⟩, ⟨e2, R2, S2, k2⟩, dr⟩ ⟨a, b, t⟩ = false by rw [HB0.out, c0]; simp)
    clear c0
    go_wp2_with fail
    refine (kwithin_b a 0 (R1 - 1) false HC0.out _).mono ?_; rintro e v19 ⟨rfl, rfl⟩
    go_wp2_with fail
    go_ret
    exact ⟨ret_bool HR.out.symm, B3.out⟩
  · have HC0 := Lib.hid c0
    clear c0
    go_wp2_with fail
    refine (kwithin_b a 0 (R1 - 1) true HC0.out _).mono ?_; rintro e v20 ⟨rfl, rfl⟩
    cases c1 : inB b 0 (S1 - 1)
    · have HC1 := Lib.hid c1
      have HR := Lib.hid (show hasB ⟨⟨e1, R1, S1, k1⟩, ⟨e2, R2, S2, k2⟩, dr⟩ ⟨a, b, t⟩ = false by rw [HB0.out, c1]; simp)
      clear c1
      go_wp2_with fail
      refine (kwithin_b b 0 (S1 - 1) false HC1.out _).mono ?_; rintro e v21 ⟨rfl, rfl⟩
      go_wp2_with fail
      go_ret
      exact ⟨ret_bool HR.out.symm, B3.out⟩
    · have HC1 := Lib.hid c1
      clear c1
      go_wp2_with fail
      refine (kwithin_b b 0 (S1 - 1) true HC1.out _).mono ?_; rintro e v22 ⟨rfl, rfl⟩
      cases c2 : inB t 0 (S1 - 1)
      · have HC2 := Lib.hid c2
        have HR := Lib.hid (show hasB ⟨⟨e1, R1, S1, k1⟩, ⟨e2, R2, S2, k2⟩, dr⟩ ⟨a, b, t⟩ = false by rw [HB0.out, c2]; simp)
        clear c2
        go_wp2_with fail
        refine (kwithin_b t 0 (S1 - 1) false HC2.out _).mono ?_; rintro e v23 ⟨rfl, rfl⟩
        go_wp2_with fail
        go_ret
        exact ⟨ret_bool HR.out.symm, B3.out⟩
      · have HC2 := Lib.hid c2
        clear c2
        go_wp2_with fail
        refine (kwithin_b t 0 (S1 - 1) true HC2.out _).mono ?_; rintro e v24 ⟨rfl, rfl⟩
        have HR := Lib.hid (show hasB ⟨⟨e1, R1, S1, k1⟩, ⟨e2, R2, S2, k2⟩, dr⟩ ⟨a, b, t⟩ = true by rw [HB0.out, HC0.out, HC1.out, HC2.out]; rfl)
        go_wp2_with fail
        go_ret
        exact ⟨ret_bool HR.out.symm, B3.out⟩

set_option maxRecDepth 100000 in
set_option maxHeartbeats 8000000 in
theorem kasked_c (p : Pr) (a b t : Int) (v : Value) (w : World) (h : IsPair w w.heap.size v p) (h0 : True) : Calls Try.prog 39 #[v, .agg #[.int .i64 a, .int .i64 b, .int .i64 t]] w fun e w' => e = .returned (.int .i64 (asE p ⟨a, b, t⟩)) ∧ Below w.heap.size w w' := by
  obtain ⟨s, r, d, hpv, -, -, -⟩ := id h
  subst hpv
  have HP0 := Lib.hid h
  have HE := Lib.hid h0
  clear h h0
  unfold pairV at *
  go_enter Try.func39, Try.ntmps39
  go_wp2_with fail
  obtain ⟨W25, hW26⟩ : ∃ Wzz, ((w.alloc (.cells #[.int .i64 p.bed.eye, .int .i64 p.bed.rings, .int .i64 p.bed.sectors, s, .int .i64 p.run.eye, .int .i64 p.run.rings, .int .i64 p.run.sectors, r, d] 27)).alloc (.cells #[.int .i64 a, .int .i64 b, .int .i64 t] 29)) = Wzz := ⟨_, rfl⟩
  have B27 := Lib.hid (show Below w.heap.size w W25 by rw [← hW26]; exact (((Below.refl w.heap.size w).alloc (Nat.le_refl _) _).alloc (by first | (simp; done) | (simp; omega)) _))
  have X28 := Lib.hid (show Box W25 (w.heap.size) 27 #[.int .i64 p.bed.eye, .int .i64 p.bed.rings, .int .i64 p.bed.sectors, s, .int .i64 p.run.eye, .int .i64 p.run.rings, .int .i64 p.run.sectors, r, d] by rw [← hW26]; exact Box.alloc (Box.made w 27 #[.int .i64 p.bed.eye, .int .i64 p.bed.rings, .int .i64 p.bed.sectors, s, .int .i64 p.run.eye, .int .i64 p.run.rings, .int .i64 p.run.sectors, r, d]) (.cells #[.int .i64 a, .int .i64 b, .int .i64 t] 29))
  have X29 := Lib.hid (show Box W25 (w.heap.size + 1) 29 #[.int .i64 a, .int .i64 b, .int .i64 t] by
    have hz := Box.made (w.alloc (.cells #[.int .i64 p.bed.eye, .int .i64 p.bed.rings, .int .i64 p.bed.sectors, s, .int .i64 p.run.eye, .int .i64 p.run.rings, .int .i64 p.run.sectors, r, d] 27)) 29 #[.int .i64 a, .int .i64 b, .int .i64 t]
    rw [World.size_alloc] at hz
    rw [← hW26]; exact hz)
  have C30 := Lib.hid (HP0.out.later B27.out)
  have SZ31 := Lib.hid (show W25.heap.size = w.heap.size + 1 + 1 by rw [← hW26]; simp)
  rw [hW26]
  clear hW26
  have q32 : W25.cell? ⟨w.heap.size, 0, none⟩ = some (.int .i64 p.bed.eye) := X28.out.cell 0
  have q33 : W25.cell? ⟨w.heap.size, 1, none⟩ = some (.int .i64 p.bed.rings) := X28.out.cell 1
  have q34 : W25.cell? ⟨w.heap.size, 2, none⟩ = some (.int .i64 p.bed.sectors) := X28.out.cell 2
  have q35 : W25.cell? ⟨w.heap.size, 3, none⟩ = some (s) := X28.out.cell 3
  have q36 : W25.cell? ⟨w.heap.size, 4, none⟩ = some (.int .i64 p.run.eye) := X28.out.cell 4
  have q37 : W25.cell? ⟨w.heap.size, 5, none⟩ = some (.int .i64 p.run.rings) := X28.out.cell 5
  have q38 : W25.cell? ⟨w.heap.size, 6, none⟩ = some (.int .i64 p.run.sectors) := X28.out.cell 6
  have q39 : W25.cell? ⟨w.heap.size, 7, none⟩ = some (r) := X28.out.cell 7
  have q40 : W25.cell? ⟨w.heap.size, 8, none⟩ = some (d) := X28.out.cell 8
  have q41 : W25.cell? ⟨w.heap.size + 1, 0, none⟩ = some (.int .i64 a) := X29.out.cell 0
  have q42 : W25.cell? ⟨w.heap.size + 1, 1, none⟩ = some (.int .i64 b) := X29.out.cell 1
  have q43 : W25.cell? ⟨w.heap.size + 1, 2, none⟩ = some (.int .i64 t) := X29.out.cell 2
  go_wp2_with fail
  refine (kCheck_c p _ _ C30.out).mono ?_; rintro e v44 ⟨rfl, hb45⟩
  have X46 := Lib.hid (X28.out.later hb45)
  have X47 := Lib.hid (X29.out.later hb45)
  have C48 := Lib.hid (C30.out.later hb45)
  have B49 := Lib.hid (B27.out.trans (hb45.mono B27.out.size))
  clear hb45
  clear q32 q33 q34 q35 q36 q37 q38 q39 q40 q41 q42 q43
  have q50 : v44.cell? ⟨w.heap.size, 0, none⟩ = some (.int .i64 p.bed.eye) := X46.out.cell 0
  have q51 : v44.cell? ⟨w.heap.size, 1, none⟩ = some (.int .i64 p.bed.rings) := X46.out.cell 1
  have q52 : v44.cell? ⟨w.heap.size, 2, none⟩ = some (.int .i64 p.bed.sectors) := X46.out.cell 2
  have q53 : v44.cell? ⟨w.heap.size, 3, none⟩ = some (s) := X46.out.cell 3
  have q54 : v44.cell? ⟨w.heap.size, 4, none⟩ = some (.int .i64 p.run.eye) := X46.out.cell 4
  have q55 : v44.cell? ⟨w.heap.size, 5, none⟩ = some (.int .i64 p.run.rings) := X46.out.cell 5
  have q56 : v44.cell? ⟨w.heap.size, 6, none⟩ = some (.int .i64 p.run.sectors) := X46.out.cell 6
  have q57 : v44.cell? ⟨w.heap.size, 7, none⟩ = some (r) := X46.out.cell 7
  have q58 : v44.cell? ⟨w.heap.size, 8, none⟩ = some (d) := X46.out.cell 8
  have q59 : v44.cell? ⟨w.heap.size + 1, 0, none⟩ = some (.int .i64 a) := X47.out.cell 0
  have q60 : v44.cell? ⟨w.heap.size + 1, 1, none⟩ = some (.int .i64 b) := X47.out.cell 1
  have q61 : v44.cell? ⟨w.heap.size + 1, 2, none⟩ = some (.int .i64 t) := X47.out.cell 2
  by_cases h1 : ckE p = 0; rotate_left
  · have HA := Lib.hid (asE_bad (s := ⟨a, b, t⟩) h1)
    have n1 : (ckE p == 0) = false := by simpa using h1
    have n2 : decide (ckE p = 0) = false := by simpa using h1
    clear h1
    go_wp2_with fail
    go_ret
    exact ⟨ret_int HA.out.symm, B49.out⟩
  · have H1 := Lib.hid h1
    rw [h1]
    clear h1
    have n1 : ((0 : Int) == 0) = true := rfl
    go_wp2_with fail
    refine (khas_c p a b t _ _ C48.out H1.out).mono ?_; rintro e v62 ⟨rfl, hb63⟩
    have X64 := Lib.hid (X46.out.later hb63)
    have X65 := Lib.hid (X47.out.later hb63)
    have C66 := Lib.hid (C48.out.later hb63)
    have B67 := Lib.hid (B49.out.trans (hb63.mono B49.out.size))
    clear hb63
    clear q50 q51 q52 q53 q54 q55 q56 q57 q58 q59 q60 q61
    have q68 : v62.cell? ⟨w.heap.size, 0, none⟩ = some (.int .i64 p.bed.eye) := X64.out.cell 0
    have q69 : v62.cell? ⟨w.heap.size, 1, none⟩ = some (.int .i64 p.bed.rings) := X64.out.cell 1
    have q70 : v62.cell? ⟨w.heap.size, 2, none⟩ = some (.int .i64 p.bed.sectors) := X64.out.cell 2
    have q71 : v62.cell? ⟨w.heap.size, 3, none⟩ = some (s) := X64.out.cell 3
    have q72 : v62.cell? ⟨w.heap.size, 4, none⟩ = some (.int .i64 p.run.eye) := X64.out.cell 4
    have q73 : v62.cell? ⟨w.heap.size, 5, none⟩ = some (.int .i64 p.run.rings) := X64.out.cell 5
    have q74 : v62.cell? ⟨w.heap.size, 6, none⟩ = some (.int .i64 p.run.sectors) := X64.out.cell 6
    have q75 : v62.cell? ⟨w.heap.size, 7, none⟩ = some (r) := X64.out.cell 7
    have q76 : v62.cell? ⟨w.heap.size, 8, none⟩ = some (d) := X64.out.cell 8
    have q77 : v62.cell? ⟨w.heap.size + 1, 0, none⟩ = some (.int .i64 a) := X65.out.cell 0
    have q78 : v62.cell? ⟨w.heap.size + 1, 1, none⟩ = some (.int .i64 b) := X65.out.cell 1
    have q79 : v62.cell? ⟨w.heap.size + 1, 2, none⟩ = some (.int .i64 t) := X65.out.cell 2
    cases hb : hasB p ⟨a, b, t⟩
    · have HA := Lib.hid (show asE p ⟨a, b, t⟩ = 21 by rw [asE_ok H1.out, hb]; rfl)
      clear hb
      go_wp2_with fail
      go_ret
      exact ⟨ret_int HA.out.symm, B67.out⟩
    · have HA := Lib.hid (show asE p ⟨a, b, t⟩ = 0 by rw [asE_ok H1.out, hb]; rfl)
      clear hb
      go_wp2_with fail
      go_ret
      exact ⟨ret_int HA.out.symm, B67.out⟩

set_option maxRecDepth 100000 in
set_option maxHeartbeats 8000000 in
theorem kStates_bad (p : Pr)  (v : Value) (w : World) (h : IsPair w w.heap.size v p) (h0 : ckE p ≠ 0) : Calls Try.prog 9 #[v] w fun e w' => e = .returned (.tuple #[.int .i64 0, .int .i64 (ckE p)]) ∧ Below w.heap.size w w' := by
  obtain ⟨s, r, d, hpv, -, -, -⟩ := id h
  subst hpv
  have HP0 := Lib.hid h
  have HE := Lib.hid h0
  clear h h0
  unfold pairV at *
  have hne : (ckE p != 0) = true := by simpa using HE.out
  have hne2 : decide (ckE p = 0) = false := by simpa using HE.out
  go_enter Try.func9, Try.ntmps9
  go_wp2_with fail
  obtain ⟨W80, hW81⟩ : ∃ Wzz, (w.alloc (.cells #[.int .i64 p.bed.eye, .int .i64 p.bed.rings, .int .i64 p.bed.sectors, s, .int .i64 p.run.eye, .int .i64 p.run.rings, .int .i64 p.run.sectors, r, d] 27)) = Wzz := ⟨_, rfl⟩
  have B82 := Lib.hid (show Below w.heap.size w W80 by rw [← hW81]; exact ((Below.refl w.heap.size w).alloc (Nat.le_refl _) _))
  have X83 := Lib.hid (show Box W80 (w.heap.size) 27 #[.int .i64 p.bed.eye, .int .i64 p.bed.rings, .int .i64 p.bed.sectors, s, .int .i64 p.run.eye, .int .i64 p.run.rings, .int .i64 p.run.sectors, r, d] by rw [← hW81]; exact Box.made w 27 #[.int .i64 p.bed.eye, .int .i64 p.bed.rings, .int .i64 p.bed.sectors, s, .int .i64 p.run.eye, .int .i64 p.run.rings, .int .i64 p.run.sectors, r, d])
  have C84 := Lib.hid (HP0.out.later B82.out)
  have SZ85 := Lib.hid (show W80.heap.size = w.heap.size + 1 by rw [← hW81]; simp)
  rw [hW81]
  clear hW81
  have q86 : W80.cell? ⟨w.heap.size, 0, none⟩ = some (.int .i64 p.bed.eye) := X83.out.cell 0
  have q87 : W80.cell? ⟨w.heap.size, 1, none⟩ = some (.int .i64 p.bed.rings) := X83.out.cell 1
  have q88 : W80.cell? ⟨w.heap.size, 2, none⟩ = some (.int .i64 p.bed.sectors) := X83.out.cell 2
  have q89 : W80.cell? ⟨w.heap.size, 3, none⟩ = some (s) := X83.out.cell 3
  have q90 : W80.cell? ⟨w.heap.size, 4, none⟩ = some (.int .i64 p.run.eye) := X83.out.cell 4
  have q91 : W80.cell? ⟨w.heap.size, 5, none⟩ = some (.int .i64 p.run.rings) := X83.out.cell 5
  have q92 : W80.cell? ⟨w.heap.size, 6, none⟩ = some (.int .i64 p.run.sectors) := X83.out.cell 6
  have q93 : W80.cell? ⟨w.heap.size, 7, none⟩ = some (r) := X83.out.cell 7
  have q94 : W80.cell? ⟨w.heap.size, 8, none⟩ = some (d) := X83.out.cell 8
  go_wp2_with fail
  refine (kCheck_c p _ _ C84.out).mono ?_; rintro e v95 ⟨rfl, hb96⟩
  have X97 := Lib.hid (X83.out.later hb96)
  have C98 := Lib.hid (C84.out.later hb96)
  have B99 := Lib.hid (B82.out.trans (hb96.mono B82.out.size))
  clear hb96
  clear q86 q87 q88 q89 q90 q91 q92 q93 q94
  have q100 : v95.cell? ⟨w.heap.size, 0, none⟩ = some (.int .i64 p.bed.eye) := X97.out.cell 0
  have q101 : v95.cell? ⟨w.heap.size, 1, none⟩ = some (.int .i64 p.bed.rings) := X97.out.cell 1
  have q102 : v95.cell? ⟨w.heap.size, 2, none⟩ = some (.int .i64 p.bed.sectors) := X97.out.cell 2
  have q103 : v95.cell? ⟨w.heap.size, 3, none⟩ = some (s) := X97.out.cell 3
  have q104 : v95.cell? ⟨w.heap.size, 4, none⟩ = some (.int .i64 p.run.eye) := X97.out.cell 4
  have q105 : v95.cell? ⟨w.heap.size, 5, none⟩ = some (.int .i64 p.run.rings) := X97.out.cell 5
  have q106 : v95.cell? ⟨w.heap.size, 6, none⟩ = some (.int .i64 p.run.sectors) := X97.out.cell 6
  have q107 : v95.cell? ⟨w.heap.size, 7, none⟩ = some (r) := X97.out.cell 7
  have q108 : v95.cell? ⟨w.heap.size, 8, none⟩ = some (d) := X97.out.cell 8
  go_wp2_with fail
  go_ret2
  exact ⟨rfl, B99.out⟩

set_option maxRecDepth 100000 in
set_option maxHeartbeats 8000000 in
theorem kStates_ok (p : Pr)  (v : Value) (w : World) (h : IsPair w w.heap.size v p) (h0 : ckE p = 0) : Calls Try.prog 9 #[v] w fun e w' => e = .returned (.tuple #[.int .i64 (stN p), .int .i64 0]) ∧ Below w.heap.size w w' := by
  obtain ⟨s, r, d, hpv, -, -, -⟩ := id h
  subst hpv
  have HP0 := Lib.hid h
  have HE := Lib.hid h0
  clear h h0
  unfold pairV at *
  go_enter Try.func9, Try.ntmps9
  go_wp2_with fail
  obtain ⟨W109, hW110⟩ : ∃ Wzz, (w.alloc (.cells #[.int .i64 p.bed.eye, .int .i64 p.bed.rings, .int .i64 p.bed.sectors, s, .int .i64 p.run.eye, .int .i64 p.run.rings, .int .i64 p.run.sectors, r, d] 27)) = Wzz := ⟨_, rfl⟩
  have B111 := Lib.hid (show Below w.heap.size w W109 by rw [← hW110]; exact ((Below.refl w.heap.size w).alloc (Nat.le_refl _) _))
  have X112 := Lib.hid (show Box W109 (w.heap.size) 27 #[.int .i64 p.bed.eye, .int .i64 p.bed.rings, .int .i64 p.bed.sectors, s, .int .i64 p.run.eye, .int .i64 p.run.rings, .int .i64 p.run.sectors, r, d] by rw [← hW110]; exact Box.made w 27 #[.int .i64 p.bed.eye, .int .i64 p.bed.rings, .int .i64 p.bed.sectors, s, .int .i64 p.run.eye, .int .i64 p.run.rings, .int .i64 p.run.sectors, r, d])
  have C113 := Lib.hid (HP0.out.later B111.out)
  have SZ114 := Lib.hid (show W109.heap.size = w.heap.size + 1 by rw [← hW110]; simp)
  rw [hW110]
  clear hW110
  have q115 : W109.cell? ⟨w.heap.size, 0, none⟩ = some (.int .i64 p.bed.eye) := X112.out.cell 0
  have q116 : W109.cell? ⟨w.heap.size, 1, none⟩ = some (.int .i64 p.bed.rings) := X112.out.cell 1
  have q117 : W109.cell? ⟨w.heap.size, 2, none⟩ = some (.int .i64 p.bed.sectors) := X112.out.cell 2
  have q118 : W109.cell? ⟨w.heap.size, 3, none⟩ = some (s) := X112.out.cell 3
  have q119 : W109.cell? ⟨w.heap.size, 4, none⟩ = some (.int .i64 p.run.eye) := X112.out.cell 4
  have q120 : W109.cell? ⟨w.heap.size, 5, none⟩ = some (.int .i64 p.run.rings) := X112.out.cell 5
  have q121 : W109.cell? ⟨w.heap.size, 6, none⟩ = some (.int .i64 p.run.sectors) := X112.out.cell 6
  have q122 : W109.cell? ⟨w.heap.size, 7, none⟩ = some (r) := X112.out.cell 7
  have q123 : W109.cell? ⟨w.heap.size, 8, none⟩ = some (d) := X112.out.cell 8
  go_wp2_with fail
  refine (kCheck_c p _ _ C113.out).mono ?_; rintro e v124 ⟨rfl, hb125⟩
  have X126 := Lib.hid (X112.out.later hb125)
  have C127 := Lib.hid (C113.out.later hb125)
  have B128 := Lib.hid (B111.out.trans (hb125.mono B111.out.size))
  clear hb125
  rw [HE.out]
  clear q115 q116 q117 q118 q119 q120 q121 q122 q123
  have q129 : v124.cell? ⟨w.heap.size, 0, none⟩ = some (.int .i64 p.bed.eye) := X126.out.cell 0
  have q130 : v124.cell? ⟨w.heap.size, 1, none⟩ = some (.int .i64 p.bed.rings) := X126.out.cell 1
  have q131 : v124.cell? ⟨w.heap.size, 2, none⟩ = some (.int .i64 p.bed.sectors) := X126.out.cell 2
  have q132 : v124.cell? ⟨w.heap.size, 3, none⟩ = some (s) := X126.out.cell 3
  have q133 : v124.cell? ⟨w.heap.size, 4, none⟩ = some (.int .i64 p.run.eye) := X126.out.cell 4
  have q134 : v124.cell? ⟨w.heap.size, 5, none⟩ = some (.int .i64 p.run.rings) := X126.out.cell 5
  have q135 : v124.cell? ⟨w.heap.size, 6, none⟩ = some (.int .i64 p.run.sectors) := X126.out.cell 6
  have q136 : v124.cell? ⟨w.heap.size, 7, none⟩ = some (r) := X126.out.cell 7
  have q137 : v124.cell? ⟨w.heap.size, 8, none⟩ = some (d) := X126.out.cell 8
  go_wp2_with fail
  refine (kcount_c p _ _ C127.out (ckE_bd HE.out).1 (ckE_bd HE.out).2.1).mono ?_; rintro e v138 ⟨rfl, hb139⟩
  have X140 := Lib.hid (X126.out.later hb139)
  have C141 := Lib.hid (C127.out.later hb139)
  have B142 := Lib.hid (B128.out.trans (hb139.mono B128.out.size))
  clear hb139
  clear q129 q130 q131 q132 q133 q134 q135 q136 q137
  have q143 : v138.cell? ⟨w.heap.size, 0, none⟩ = some (.int .i64 p.bed.eye) := X140.out.cell 0
  have q144 : v138.cell? ⟨w.heap.size, 1, none⟩ = some (.int .i64 p.bed.rings) := X140.out.cell 1
  have q145 : v138.cell? ⟨w.heap.size, 2, none⟩ = some (.int .i64 p.bed.sectors) := X140.out.cell 2
  have q146 : v138.cell? ⟨w.heap.size, 3, none⟩ = some (s) := X140.out.cell 3
  have q147 : v138.cell? ⟨w.heap.size, 4, none⟩ = some (.int .i64 p.run.eye) := X140.out.cell 4
  have q148 : v138.cell? ⟨w.heap.size, 5, none⟩ = some (.int .i64 p.run.rings) := X140.out.cell 5
  have q149 : v138.cell? ⟨w.heap.size, 6, none⟩ = some (.int .i64 p.run.sectors) := X140.out.cell 6
  have q150 : v138.cell? ⟨w.heap.size, 7, none⟩ = some (r) := X140.out.cell 7
  have q151 : v138.cell? ⟨w.heap.size, 8, none⟩ = some (d) := X140.out.cell 8
  go_wp2_with fail
  go_ret2
  exact ⟨rfl, B142.out⟩

set_option maxRecDepth 100000 in
set_option maxHeartbeats 8000000 in
theorem knumber_c (p : Pr) (a b t : Int) (v : Value) (w : World) (h : IsPair w w.heap.size v p) (h0 : ckE p = 0) (hs : hasB p ⟨a, b, t⟩ = true) : Calls Try.prog 40 #[v, .agg #[.int .i64 a, .int .i64 b, .int .i64 t]] w fun e w' => e = .returned (.int .i64 (numI p ⟨a, b, t⟩)) ∧ Below w.heap.size w w' := by
  obtain ⟨s, r, d, hpv, i1, i2, i3⟩ := id h
  subst hpv
  obtain ⟨⟨e1, R1, S1, k1⟩, ⟨e2, R2, S2, k2⟩, dr⟩ := p
  obtain ⟨SA, sn, sc, rfl⟩ : ∃ A n c, s = .slice A n c := by obtain ⟨-, A, c, rfl, -⟩ := i1; exact ⟨_, _, _, rfl⟩
  obtain ⟨RA, rn, rc, rfl⟩ : ∃ A n c, r = .slice A n c := by obtain ⟨-, A, c, rfl, -⟩ := i2; exact ⟨_, _, _, rfl⟩
  unfold pairV at *
  dsimp only at *
  obtain ⟨hR, hS, -⟩ := ckE_bd h0
  obtain ⟨c1, c2, c3⟩ := hasB_parts.1 hs
  dsimp only at c1 c2 c3 hR hS
  obtain ⟨m1, m2, m3, m4⟩ := num_bd hR hS c1 c2 c3
  have hbig := (stN_bd hR hS).2.2.2
  have w1 : IntKind.i64.wrap (t * R1) = t * R1 := wrap_id (by omega) (by omega)
  have w2 : IntKind.i64.wrap (t * R1 + a) = t * R1 + a := wrap_id (by omega) (by omega)
  have w3 : IntKind.i64.wrap ((t * R1 + a) * S1) = (t * R1 + a) * S1 := wrap_id (by omega) (by omega)
  have w4 : IntKind.i64.wrap ((t * R1 + a) * S1 + b) = (t * R1 + a) * S1 + b := wrap_id (by omega) (by omega)
  have HN0 : numI ⟨⟨e1, R1, S1, k1⟩, ⟨e2, R2, S2, k2⟩, dr⟩ ⟨a, b, t⟩ = (t * R1 + a) * S1 + b := rfl
  clear h h0 hs hR hS c1 c2 c3 m1 m2 m3 m4 hbig i1 i2 i3
  obtain ⟨x1, f1⟩ : ∃ x, t * R1 = x := ⟨_, rfl⟩
  rw [f1] at w1 w2 w3 w4 HN0
  obtain ⟨x2, f2⟩ : ∃ x, x1 + a = x := ⟨_, rfl⟩
  rw [f2] at w2 w3 w4 HN0
  obtain ⟨x3, f3⟩ : ∃ x, x2 * S1 = x := ⟨_, rfl⟩
  rw [f3] at w3 w4 HN0
  obtain ⟨x4, f4⟩ : ∃ x, x3 + b = x := ⟨_, rfl⟩
  rw [f4] at w4 HN0
  have v1 : IntKind.i64.wrap (t * R1) = x1 := by rw [f1, w1]
  have v2 : IntKind.i64.wrap (x1 + a) = x2 := by rw [f2, w2]
  have v3 : IntKind.i64.wrap (x2 * S1) = x3 := by rw [f3, w3]
  have v4 : IntKind.i64.wrap (x3 + b) = x4 := by rw [f4, w4]
  have HN := Lib.hid HN0
  clear w1 w2 w3 w4 f1 f2 f3 f4 HN0
  go_enter Try.func40, Try.ntmps40
  go_wp2_with fail
  obtain ⟨W152, hW153⟩ : ∃ Wzz, ((w.alloc (.cells #[.int .i64 e1, .int .i64 R1, .int .i64 S1, .slice SA sn sc, .int .i64 e2, .int .i64 R2, .int .i64 S2, .slice RA rn rc, d] 27)).alloc (.cells #[.int .i64 a, .int .i64 b, .int .i64 t] 29)) = Wzz := ⟨_, rfl⟩
  have B154 := Lib.hid (show Below w.heap.size w W152 by rw [← hW153]; exact (((Below.refl w.heap.size w).alloc (Nat.le_refl _) _).alloc (by first | (simp; done) | (simp; omega)) _))
  have X155 := Lib.hid (show Box W152 (w.heap.size) 27 #[.int .i64 e1, .int .i64 R1, .int .i64 S1, .slice SA sn sc, .int .i64 e2, .int .i64 R2, .int .i64 S2, .slice RA rn rc, d] by rw [← hW153]; exact Box.alloc (Box.made w 27 #[.int .i64 e1, .int .i64 R1, .int .i64 S1, .slice SA sn sc, .int .i64 e2, .int .i64 R2, .int .i64 S2, .slice RA rn rc, d]) (.cells #[.int .i64 a, .int .i64 b, .int .i64 t] 29))
  have X156 := Lib.hid (show Box W152 (w.heap.size + 1) 29 #[.int .i64 a, .int .i64 b, .int .i64 t] by
    have hz := Box.made (w.alloc (.cells #[.int .i64 e1, .int .i64 R1, .int .i64 S1, .slice SA sn sc, .int .i64 e2, .int .i64 R2, .int .i64 S2, .slice RA rn rc, d] 27)) 29 #[.int .i64 a, .int .i64 b, .int .i64 t]
    rw [World.size_alloc] at hz
    rw [← hW153]; exact hz)
  have SZ157 := Lib.hid (show W152.heap.size = w.heap.size + 1 + 1 by rw [← hW153]; simp)
  rw [hW153]
  clear hW153
  have q158 : W152.cell? ⟨w.heap.size, 0, none⟩ = some (.int .i64 e1) := X155.out.cell 0
  have q159 : W152.cell? ⟨w.heap.size, 1, none⟩ = some (.int .i64 R1) := X155.out.cell 1
  have q160 : W152.cell? ⟨w.heap.size, 2, none⟩ = some (.int .i64 S1) := X155.out.cell 2
  have q161 : W152.cell? ⟨w.heap.size, 3, none⟩ = some (.slice SA sn sc) := X155.out.cell 3
  have q162 : W152.cell? ⟨w.heap.size, 4, none⟩ = some (.int .i64 e2) := X155.out.cell 4
  have q163 : W152.cell? ⟨w.heap.size, 5, none⟩ = some (.int .i64 R2) := X155.out.cell 5
  have q164 : W152.cell? ⟨w.heap.size, 6, none⟩ = some (.int .i64 S2) := X155.out.cell 6
  have q165 : W152.cell? ⟨w.heap.size, 7, none⟩ = some (.slice RA rn rc) := X155.out.cell 7
  have q166 : W152.cell? ⟨w.heap.size, 8, none⟩ = some (d) := X155.out.cell 8
  have q167 : W152.cell? ⟨w.heap.size + 1, 0, none⟩ = some (.int .i64 a) := X156.out.cell 0
  have q168 : W152.cell? ⟨w.heap.size + 1, 1, none⟩ = some (.int .i64 b) := X156.out.cell 1
  have q169 : W152.cell? ⟨w.heap.size + 1, 2, none⟩ = some (.int .i64 t) := X156.out.cell 2
  go_wp2_with fail
  go_ret
  exact ⟨ret_int HN.out.symm, B154.out⟩

set_option maxRecDepth 100000 in
set_option maxHeartbeats 8000000 in
theorem kNumber_bad (p : Pr) (a b t : Int) (v : Value) (w : World) (h : IsPair w w.heap.size v p) (h0 : asE p ⟨a, b, t⟩ ≠ 0) : Calls Try.prog 11 #[v, .agg #[.int .i64 a, .int .i64 b, .int .i64 t]] w fun e w' => e = .returned (.tuple #[.int .i64 0, .int .i64 (asE p ⟨a, b, t⟩)]) ∧ Below w.heap.size w w' := by
  obtain ⟨s, r, d, hpv, -, -, -⟩ := id h
  subst hpv
  have HP0 := Lib.hid h
  have HE := Lib.hid h0
  clear h h0
  unfold pairV at *
  have hne : (asE p ⟨a, b, t⟩ != 0) = true := by simpa using HE.out
  have hne2 : decide (asE p ⟨a, b, t⟩ = 0) = false := by simpa using HE.out
  go_enter Try.func11, Try.ntmps11
  go_wp2_with fail
  obtain ⟨W170, hW171⟩ : ∃ Wzz, ((w.alloc (.cells #[.int .i64 p.bed.eye, .int .i64 p.bed.rings, .int .i64 p.bed.sectors, s, .int .i64 p.run.eye, .int .i64 p.run.rings, .int .i64 p.run.sectors, r, d] 27)).alloc (.cells #[.int .i64 a, .int .i64 b, .int .i64 t] 29)) = Wzz := ⟨_, rfl⟩
  have B172 := Lib.hid (show Below w.heap.size w W170 by rw [← hW171]; exact (((Below.refl w.heap.size w).alloc (Nat.le_refl _) _).alloc (by first | (simp; done) | (simp; omega)) _))
  have X173 := Lib.hid (show Box W170 (w.heap.size) 27 #[.int .i64 p.bed.eye, .int .i64 p.bed.rings, .int .i64 p.bed.sectors, s, .int .i64 p.run.eye, .int .i64 p.run.rings, .int .i64 p.run.sectors, r, d] by rw [← hW171]; exact Box.alloc (Box.made w 27 #[.int .i64 p.bed.eye, .int .i64 p.bed.rings, .int .i64 p.bed.sectors, s, .int .i64 p.run.eye, .int .i64 p.run.rings, .int .i64 p.run.sectors, r, d]) (.cells #[.int .i64 a, .int .i64 b, .int .i64 t] 29))
  have X174 := Lib.hid (show Box W170 (w.heap.size + 1) 29 #[.int .i64 a, .int .i64 b, .int .i64 t] by
    have hz := Box.made (w.alloc (.cells #[.int .i64 p.bed.eye, .int .i64 p.bed.rings, .int .i64 p.bed.sectors, s, .int .i64 p.run.eye, .int .i64 p.run.rings, .int .i64 p.run.sectors, r, d] 27)) 29 #[.int .i64 a, .int .i64 b, .int .i64 t]
    rw [World.size_alloc] at hz
    rw [← hW171]; exact hz)
  have C175 := Lib.hid (HP0.out.later B172.out)
  have SZ176 := Lib.hid (show W170.heap.size = w.heap.size + 1 + 1 by rw [← hW171]; simp)
  rw [hW171]
  clear hW171
  have q177 : W170.cell? ⟨w.heap.size, 0, none⟩ = some (.int .i64 p.bed.eye) := X173.out.cell 0
  have q178 : W170.cell? ⟨w.heap.size, 1, none⟩ = some (.int .i64 p.bed.rings) := X173.out.cell 1
  have q179 : W170.cell? ⟨w.heap.size, 2, none⟩ = some (.int .i64 p.bed.sectors) := X173.out.cell 2
  have q180 : W170.cell? ⟨w.heap.size, 3, none⟩ = some (s) := X173.out.cell 3
  have q181 : W170.cell? ⟨w.heap.size, 4, none⟩ = some (.int .i64 p.run.eye) := X173.out.cell 4
  have q182 : W170.cell? ⟨w.heap.size, 5, none⟩ = some (.int .i64 p.run.rings) := X173.out.cell 5
  have q183 : W170.cell? ⟨w.heap.size, 6, none⟩ = some (.int .i64 p.run.sectors) := X173.out.cell 6
  have q184 : W170.cell? ⟨w.heap.size, 7, none⟩ = some (r) := X173.out.cell 7
  have q185 : W170.cell? ⟨w.heap.size, 8, none⟩ = some (d) := X173.out.cell 8
  have q186 : W170.cell? ⟨w.heap.size + 1, 0, none⟩ = some (.int .i64 a) := X174.out.cell 0
  have q187 : W170.cell? ⟨w.heap.size + 1, 1, none⟩ = some (.int .i64 b) := X174.out.cell 1
  have q188 : W170.cell? ⟨w.heap.size + 1, 2, none⟩ = some (.int .i64 t) := X174.out.cell 2
  go_wp2_with fail
  refine (kasked_c p a b t _ _ C175.out trivial).mono ?_; rintro e v189 ⟨rfl, hb190⟩
  have X191 := Lib.hid (X173.out.later hb190)
  have X192 := Lib.hid (X174.out.later hb190)
  have C193 := Lib.hid (C175.out.later hb190)
  have B194 := Lib.hid (B172.out.trans (hb190.mono B172.out.size))
  clear hb190
  clear q177 q178 q179 q180 q181 q182 q183 q184 q185 q186 q187 q188
  have q195 : v189.cell? ⟨w.heap.size, 0, none⟩ = some (.int .i64 p.bed.eye) := X191.out.cell 0
  have q196 : v189.cell? ⟨w.heap.size, 1, none⟩ = some (.int .i64 p.bed.rings) := X191.out.cell 1
  have q197 : v189.cell? ⟨w.heap.size, 2, none⟩ = some (.int .i64 p.bed.sectors) := X191.out.cell 2
  have q198 : v189.cell? ⟨w.heap.size, 3, none⟩ = some (s) := X191.out.cell 3
  have q199 : v189.cell? ⟨w.heap.size, 4, none⟩ = some (.int .i64 p.run.eye) := X191.out.cell 4
  have q200 : v189.cell? ⟨w.heap.size, 5, none⟩ = some (.int .i64 p.run.rings) := X191.out.cell 5
  have q201 : v189.cell? ⟨w.heap.size, 6, none⟩ = some (.int .i64 p.run.sectors) := X191.out.cell 6
  have q202 : v189.cell? ⟨w.heap.size, 7, none⟩ = some (r) := X191.out.cell 7
  have q203 : v189.cell? ⟨w.heap.size, 8, none⟩ = some (d) := X191.out.cell 8
  have q204 : v189.cell? ⟨w.heap.size + 1, 0, none⟩ = some (.int .i64 a) := X192.out.cell 0
  have q205 : v189.cell? ⟨w.heap.size + 1, 1, none⟩ = some (.int .i64 b) := X192.out.cell 1
  have q206 : v189.cell? ⟨w.heap.size + 1, 2, none⟩ = some (.int .i64 t) := X192.out.cell 2
  go_wp2_with fail
  go_ret2
  exact ⟨rfl, B194.out⟩

set_option maxRecDepth 100000 in
set_option maxHeartbeats 8000000 in
theorem kNumber_ok (p : Pr) (a b t : Int) (v : Value) (w : World) (h : IsPair w w.heap.size v p) (h0 : asE p ⟨a, b, t⟩ = 0) : Calls Try.prog 11 #[v, .agg #[.int .i64 a, .int .i64 b, .int .i64 t]] w fun e w' => e = .returned (.tuple #[.int .i64 (numI p ⟨a, b, t⟩), .int .i64 0]) ∧ Below w.heap.size w w' := by
  obtain ⟨s, r, d, hpv, -, -, -⟩ := id h
  subst hpv
  have HP0 := Lib.hid h
  have HE := Lib.hid h0
  clear h h0
  unfold pairV at *
  go_enter Try.func11, Try.ntmps11
  go_wp2_with fail
  obtain ⟨W207, hW208⟩ : ∃ Wzz, ((w.alloc (.cells #[.int .i64 p.bed.eye, .int .i64 p.bed.rings, .int .i64 p.bed.sectors, s, .int .i64 p.run.eye, .int .i64 p.run.rings, .int .i64 p.run.sectors, r, d] 27)).alloc (.cells #[.int .i64 a, .int .i64 b, .int .i64 t] 29)) = Wzz := ⟨_, rfl⟩
  have B209 := Lib.hid (show Below w.heap.size w W207 by rw [← hW208]; exact (((Below.refl w.heap.size w).alloc (Nat.le_refl _) _).alloc (by first | (simp; done) | (simp; omega)) _))
  have X210 := Lib.hid (show Box W207 (w.heap.size) 27 #[.int .i64 p.bed.eye, .int .i64 p.bed.rings, .int .i64 p.bed.sectors, s, .int .i64 p.run.eye, .int .i64 p.run.rings, .int .i64 p.run.sectors, r, d] by rw [← hW208]; exact Box.alloc (Box.made w 27 #[.int .i64 p.bed.eye, .int .i64 p.bed.rings, .int .i64 p.bed.sectors, s, .int .i64 p.run.eye, .int .i64 p.run.rings, .int .i64 p.run.sectors, r, d]) (.cells #[.int .i64 a, .int .i64 b, .int .i64 t] 29))
  have X211 := Lib.hid (show Box W207 (w.heap.size + 1) 29 #[.int .i64 a, .int .i64 b, .int .i64 t] by
    have hz := Box.made (w.alloc (.cells #[.int .i64 p.bed.eye, .int .i64 p.bed.rings, .int .i64 p.bed.sectors, s, .int .i64 p.run.eye, .int .i64 p.run.rings, .int .i64 p.run.sectors, r, d] 27)) 29 #[.int .i64 a, .int .i64 b, .int .i64 t]
    rw [World.size_alloc] at hz
    rw [← hW208]; exact hz)
  have C212 := Lib.hid (HP0.out.later B209.out)
  have SZ213 := Lib.hid (show W207.heap.size = w.heap.size + 1 + 1 by rw [← hW208]; simp)
  rw [hW208]
  clear hW208
  have q214 : W207.cell? ⟨w.heap.size, 0, none⟩ = some (.int .i64 p.bed.eye) := X210.out.cell 0
  have q215 : W207.cell? ⟨w.heap.size, 1, none⟩ = some (.int .i64 p.bed.rings) := X210.out.cell 1
  have q216 : W207.cell? ⟨w.heap.size, 2, none⟩ = some (.int .i64 p.bed.sectors) := X210.out.cell 2
  have q217 : W207.cell? ⟨w.heap.size, 3, none⟩ = some (s) := X210.out.cell 3
  have q218 : W207.cell? ⟨w.heap.size, 4, none⟩ = some (.int .i64 p.run.eye) := X210.out.cell 4
  have q219 : W207.cell? ⟨w.heap.size, 5, none⟩ = some (.int .i64 p.run.rings) := X210.out.cell 5
  have q220 : W207.cell? ⟨w.heap.size, 6, none⟩ = some (.int .i64 p.run.sectors) := X210.out.cell 6
  have q221 : W207.cell? ⟨w.heap.size, 7, none⟩ = some (r) := X210.out.cell 7
  have q222 : W207.cell? ⟨w.heap.size, 8, none⟩ = some (d) := X210.out.cell 8
  have q223 : W207.cell? ⟨w.heap.size + 1, 0, none⟩ = some (.int .i64 a) := X211.out.cell 0
  have q224 : W207.cell? ⟨w.heap.size + 1, 1, none⟩ = some (.int .i64 b) := X211.out.cell 1
  have q225 : W207.cell? ⟨w.heap.size + 1, 2, none⟩ = some (.int .i64 t) := X211.out.cell 2
  go_wp2_with fail
  refine (kasked_c p a b t _ _ C212.out trivial).mono ?_; rintro e v226 ⟨rfl, hb227⟩
  have X228 := Lib.hid (X210.out.later hb227)
  have X229 := Lib.hid (X211.out.later hb227)
  have C230 := Lib.hid (C212.out.later hb227)
  have B231 := Lib.hid (B209.out.trans (hb227.mono B209.out.size))
  clear hb227
  rw [HE.out]
  clear q214 q215 q216 q217 q218 q219 q220 q221 q222 q223 q224 q225
  have q232 : v226.cell? ⟨w.heap.size, 0, none⟩ = some (.int .i64 p.bed.eye) := X228.out.cell 0
  have q233 : v226.cell? ⟨w.heap.size, 1, none⟩ = some (.int .i64 p.bed.rings) := X228.out.cell 1
  have q234 : v226.cell? ⟨w.heap.size, 2, none⟩ = some (.int .i64 p.bed.sectors) := X228.out.cell 2
  have q235 : v226.cell? ⟨w.heap.size, 3, none⟩ = some (s) := X228.out.cell 3
  have q236 : v226.cell? ⟨w.heap.size, 4, none⟩ = some (.int .i64 p.run.eye) := X228.out.cell 4
  have q237 : v226.cell? ⟨w.heap.size, 5, none⟩ = some (.int .i64 p.run.rings) := X228.out.cell 5
  have q238 : v226.cell? ⟨w.heap.size, 6, none⟩ = some (.int .i64 p.run.sectors) := X228.out.cell 6
  have q239 : v226.cell? ⟨w.heap.size, 7, none⟩ = some (r) := X228.out.cell 7
  have q240 : v226.cell? ⟨w.heap.size, 8, none⟩ = some (d) := X228.out.cell 8
  have q241 : v226.cell? ⟨w.heap.size + 1, 0, none⟩ = some (.int .i64 a) := X229.out.cell 0
  have q242 : v226.cell? ⟨w.heap.size + 1, 1, none⟩ = some (.int .i64 b) := X229.out.cell 1
  have q243 : v226.cell? ⟨w.heap.size + 1, 2, none⟩ = some (.int .i64 t) := X229.out.cell 2
  go_wp2_with fail
  refine (knumber_c p a b t _ _ C230.out (asE_zero HE.out).1 (asE_zero HE.out).2).mono ?_; rintro e v244 ⟨rfl, hb245⟩
  have X246 := Lib.hid (X228.out.later hb245)
  have X247 := Lib.hid (X229.out.later hb245)
  have C248 := Lib.hid (C230.out.later hb245)
  have B249 := Lib.hid (B231.out.trans (hb245.mono B231.out.size))
  clear hb245
  clear q232 q233 q234 q235 q236 q237 q238 q239 q240 q241 q242 q243
  have q250 : v244.cell? ⟨w.heap.size, 0, none⟩ = some (.int .i64 p.bed.eye) := X246.out.cell 0
  have q251 : v244.cell? ⟨w.heap.size, 1, none⟩ = some (.int .i64 p.bed.rings) := X246.out.cell 1
  have q252 : v244.cell? ⟨w.heap.size, 2, none⟩ = some (.int .i64 p.bed.sectors) := X246.out.cell 2
  have q253 : v244.cell? ⟨w.heap.size, 3, none⟩ = some (s) := X246.out.cell 3
  have q254 : v244.cell? ⟨w.heap.size, 4, none⟩ = some (.int .i64 p.run.eye) := X246.out.cell 4
  have q255 : v244.cell? ⟨w.heap.size, 5, none⟩ = some (.int .i64 p.run.rings) := X246.out.cell 5
  have q256 : v244.cell? ⟨w.heap.size, 6, none⟩ = some (.int .i64 p.run.sectors) := X246.out.cell 6
  have q257 : v244.cell? ⟨w.heap.size, 7, none⟩ = some (r) := X246.out.cell 7
  have q258 : v244.cell? ⟨w.heap.size, 8, none⟩ = some (d) := X246.out.cell 8
  have q259 : v244.cell? ⟨w.heap.size + 1, 0, none⟩ = some (.int .i64 a) := X247.out.cell 0
  have q260 : v244.cell? ⟨w.heap.size + 1, 1, none⟩ = some (.int .i64 b) := X247.out.cell 1
  have q261 : v244.cell? ⟨w.heap.size + 1, 2, none⟩ = some (.int .i64 t) := X247.out.cell 2
  go_wp2_with fail
  go_ret2
  exact ⟨rfl, B249.out⟩

set_option maxRecDepth 100000 in
set_option maxHeartbeats 8000000 in
theorem kstate_c (p : Pr) (i : Int) (v : Value) (w : World) (h : IsPair w w.heap.size v p) (h0 : ckE p = 0) (hi : 0 ≤ i ∧ i < stN p) : Calls Try.prog 43 #[v, .int .i64 i] w fun e w' => e = .returned (stV (stateI p i)) ∧ Below w.heap.size w w' := by
  obtain ⟨s, r, d, hpv, i1, i2, i3⟩ := id h
  subst hpv
  obtain ⟨⟨e1, R1, S1, k1⟩, ⟨e2, R2, S2, k2⟩, dr⟩ := p
  obtain ⟨SA, sn, sc, rfl⟩ : ∃ A n c, s = .slice A n c := by obtain ⟨-, A, c, rfl, -⟩ := i1; exact ⟨_, _, _, rfl⟩
  obtain ⟨RA, rn, rc, rfl⟩ : ∃ A n c, r = .slice A n c := by obtain ⟨-, A, c, rfl, -⟩ := i2; exact ⟨_, _, _, rfl⟩
  unfold pairV at *
  dsimp only at *
  obtain ⟨hR, hS, -⟩ := ckE_bd h0
  dsimp only at hR hS
  have hbig := (stN_bd hR hS).2.2.2
  obtain ⟨R, hR2⟩ : ∃ R : Nat, R1 = (R : Int) := ⟨R1.toNat, by omega⟩
  obtain ⟨S, hS2⟩ : ∃ S : Nat, S1 = (S : Int) := ⟨S1.toNat, by omega⟩
  obtain ⟨n, rfl⟩ : ∃ n : Nat, i = (n : Int) := ⟨i.toNat, by omega⟩
  rw [stN_def] at hi
  have HI0 : stateI ⟨⟨e1, R1, S1, k1⟩, ⟨e2, R2, S2, k2⟩, dr⟩ (n : Int) = ⟨(n : Int) / S1 % R1, (n : Int) % S1, (n : Int) / S1 / R1⟩ := rfl
  rw [hR2, hS2] at hi hbig HI0
  rw [hR2] at hR
  rw [hS2] at hS
  have hn : n < R * S * S := by have := hi.2; exact_mod_cast this
  have hn2 : n ≤ 221184 := by have := hi.2; omega
  obtain ⟨l, hl⟩ : ∃ l, n / S = l := ⟨_, rfl⟩
  obtain ⟨x, hx⟩ : ∃ x, l % R = x := ⟨_, rfl⟩
  obtain ⟨y, hy⟩ : ∃ y, n % S = y := ⟨_, rfl⟩
  obtain ⟨z, hz⟩ : ∃ z, l / R = z := ⟨_, rfl⟩
  have b1 : l ≤ n := by rw [← hl]; exact Nat.div_le_self _ _
  have b2 : x ≤ l := by rw [← hx]; exact Nat.mod_le _ _
  have b3 : y ≤ n := by rw [← hy]; exact Nat.mod_le _ _
  have b4 : z ≤ l := by rw [← hz]; exact Nat.div_le_self _ _
  have f1 : (n : Int) / (S : Int) = (l : Int) := by rw [← hl]; simp
  have f2 : (l : Int) % (R : Int) = (x : Int) := by rw [← hx]; simp
  have f3 : (n : Int) % (S : Int) = (y : Int) := by rw [← hy]; simp
  have f4 : (l : Int) / (R : Int) = (z : Int) := by rw [← hz]; simp
  rw [f1, f2, f3, f4] at HI0
  have v1 : IntKind.i64.wrap (l : Int) = (l : Int) := wrap_id (by omega) (by omega)
  have v2 : IntKind.i64.wrap (x : Int) = (x : Int) := wrap_id (by omega) (by omega)
  have v3 : IntKind.i64.wrap (y : Int) = (y : Int) := wrap_id (by omega) (by omega)
  have v4 : IntKind.i64.wrap (z : Int) = (z : Int) := wrap_id (by omega) (by omega)
  have y1 : decide ((S : Int) = 0) = false := decide_eq_false (by omega)
  have y2 : decide (S = 0) = false := decide_eq_false (by omega)
  have y3 : decide ((R : Int) = 0) = false := decide_eq_false (by omega)
  have y4 : decide (R = 0) = false := decide_eq_false (by omega)
  have s0 : (0 : Int) < (S : Int) := by omega
  have s1 : (0 : Int) < (R : Int) := by omega
  have y5 : ¬ R = 0 := by omega
  have y6 : ¬ S = 0 := by omega
  have t2 : (l : Int).tmod (R : Int) = (x : Int) := by rw [Int.tmod_eq_emod_of_nonneg (by omega)]; exact f2
  have t3 : (n : Int).tmod (S : Int) = (y : Int) := by rw [Int.tmod_eq_emod_of_nonneg (by omega)]; exact f3
  have t4 : (l : Int).tdiv (R : Int) = (z : Int) := by rw [Int.tdiv_eq_ediv_of_nonneg (by omega)]; exact f4
  have t1 : (n : Int).tdiv (S : Int) = (l : Int) := by rw [Int.tdiv_eq_ediv_of_nonneg (by omega)]; exact f1
  subst hR2
  subst hS2
  have HI := Lib.hid (show stateI ⟨⟨e1, (R : Int), (S : Int), k1⟩, ⟨e2, R2, S2, k2⟩, dr⟩ (n : Int) = ⟨(x : Int), (y : Int), (z : Int)⟩ from HI0)
  clear h0 hR hS hi hbig HI0 hn hn2 hl hx hy hz b1 b2 b3 b4 h i1 i2 i3
  go_enter Try.func43, Try.ntmps43
  go_wp2_with fail
  obtain ⟨W262, hW263⟩ : ∃ Wzz, ((w.alloc (.cells #[.int .i64 e1, .int .i64 (R : Int), .int .i64 (S : Int), .slice SA sn sc, .int .i64 e2, .int .i64 R2, .int .i64 S2, .slice RA rn rc, d] 27)).alloc (.cells #[.int .i64 0, .int .i64 0, .int .i64 0] 29)) = Wzz := ⟨_, rfl⟩
  have B264 := Lib.hid (show Below w.heap.size w W262 by rw [← hW263]; exact (((Below.refl w.heap.size w).alloc (Nat.le_refl _) _).alloc (by first | (simp; done) | (simp; omega)) _))
  have X265 := Lib.hid (show Box W262 (w.heap.size) 27 #[.int .i64 e1, .int .i64 (R : Int), .int .i64 (S : Int), .slice SA sn sc, .int .i64 e2, .int .i64 R2, .int .i64 S2, .slice RA rn rc, d] by rw [← hW263]; exact Box.alloc (Box.made w 27 #[.int .i64 e1, .int .i64 (R : Int), .int .i64 (S : Int), .slice SA sn sc, .int .i64 e2, .int .i64 R2, .int .i64 S2, .slice RA rn rc, d]) (.cells #[.int .i64 0, .int .i64 0, .int .i64 0] 29))
  have X266 := Lib.hid (show Box W262 (w.heap.size + 1) 29 #[.int .i64 0, .int .i64 0, .int .i64 0] by
    have hz := Box.made (w.alloc (.cells #[.int .i64 e1, .int .i64 (R : Int), .int .i64 (S : Int), .slice SA sn sc, .int .i64 e2, .int .i64 R2, .int .i64 S2, .slice RA rn rc, d] 27)) 29 #[.int .i64 0, .int .i64 0, .int .i64 0]
    rw [World.size_alloc] at hz
    rw [← hW263]; exact hz)
  have SZ267 := Lib.hid (show W262.heap.size = w.heap.size + 1 + 1 by rw [← hW263]; simp)
  rw [hW263]
  clear hW263
  have q268 : W262.cell? ⟨w.heap.size, 0, none⟩ = some (.int .i64 e1) := X265.out.cell 0
  have q269 : W262.cell? ⟨w.heap.size, 1, none⟩ = some (.int .i64 (R : Int)) := X265.out.cell 1
  have q270 : W262.cell? ⟨w.heap.size, 2, none⟩ = some (.int .i64 (S : Int)) := X265.out.cell 2
  have q271 : W262.cell? ⟨w.heap.size, 3, none⟩ = some (.slice SA sn sc) := X265.out.cell 3
  have q272 : W262.cell? ⟨w.heap.size, 4, none⟩ = some (.int .i64 e2) := X265.out.cell 4
  have q273 : W262.cell? ⟨w.heap.size, 5, none⟩ = some (.int .i64 R2) := X265.out.cell 5
  have q274 : W262.cell? ⟨w.heap.size, 6, none⟩ = some (.int .i64 S2) := X265.out.cell 6
  have q275 : W262.cell? ⟨w.heap.size, 7, none⟩ = some (.slice RA rn rc) := X265.out.cell 7
  have q276 : W262.cell? ⟨w.heap.size, 8, none⟩ = some (d) := X265.out.cell 8
  have q277 : W262.cell? ⟨w.heap.size + 1, 0, none⟩ = some (.int .i64 0) := X266.out.cell 0
  have q278 : W262.cell? ⟨w.heap.size + 1, 1, none⟩ = some (.int .i64 0) := X266.out.cell 1
  have q279 : W262.cell? ⟨w.heap.size + 1, 2, none⟩ = some (.int .i64 0) := X266.out.cell 2
  go_wp2_with fail
  have hdr298 : Below (W262).heap.size (W262) (W262).drew := (Below.refl _ _).drew
  have lt289 := X265.out.lt
  have lt290 := X265.out.lt
  have lt291 := X265.out.lt
  have lt292 := X265.out.lt
  have lt293 := X265.out.lt
  have lt294 := X265.out.lt
  have lt295 := X265.out.lt
  have lt296 := X265.out.lt
  have lt297 := X265.out.lt
  have hcall299 : ∀ X Y : World, (fun Wz => Wz.cell? ⟨w.heap.size, 0, none⟩ = some (.int .i64 e1) ∧ Wz.cell? ⟨w.heap.size, 1, none⟩ = some (.int .i64 (R : Int)) ∧ Wz.cell? ⟨w.heap.size, 2, none⟩ = some (.int .i64 (S : Int)) ∧ Wz.cell? ⟨w.heap.size, 3, none⟩ = some (.slice SA sn sc) ∧ Wz.cell? ⟨w.heap.size, 4, none⟩ = some (.int .i64 e2) ∧ Wz.cell? ⟨w.heap.size, 5, none⟩ = some (.int .i64 R2) ∧ Wz.cell? ⟨w.heap.size, 6, none⟩ = some (.int .i64 S2) ∧ Wz.cell? ⟨w.heap.size, 7, none⟩ = some (.slice RA rn rc) ∧ Wz.cell? ⟨w.heap.size, 8, none⟩ = some (d) ∧ (W262).heap.size ≤ Wz.heap.size) X → Below X.heap.size X Y → (fun Wz => Wz.cell? ⟨w.heap.size, 0, none⟩ = some (.int .i64 e1) ∧ Wz.cell? ⟨w.heap.size, 1, none⟩ = some (.int .i64 (R : Int)) ∧ Wz.cell? ⟨w.heap.size, 2, none⟩ = some (.int .i64 (S : Int)) ∧ Wz.cell? ⟨w.heap.size, 3, none⟩ = some (.slice SA sn sc) ∧ Wz.cell? ⟨w.heap.size, 4, none⟩ = some (.int .i64 e2) ∧ Wz.cell? ⟨w.heap.size, 5, none⟩ = some (.int .i64 R2) ∧ Wz.cell? ⟨w.heap.size, 6, none⟩ = some (.int .i64 S2) ∧ Wz.cell? ⟨w.heap.size, 7, none⟩ = some (.slice RA rn rc) ∧ Wz.cell? ⟨w.heap.size, 8, none⟩ = some (d) ∧ (W262).heap.size ≤ Wz.heap.size) Y := by
    rintro X Y ⟨z280, z281, z282, z283, z284, z285, z286, z287, z288, xs⟩ hb
    have hb2 := Below.mono (B' := (W262).heap.size) hb xs
    exact ⟨keepd z280 hb2 lt289, keepd z281 hb2 lt290, keepd z282 hb2 lt291, keepd z283 hb2 lt292, keepd z284 hb2 lt293, keepd z285 hb2 lt294, keepd z286 hb2 lt295, keepd z287 hb2 lt296, keepd z288 hb2 lt297, Nat.le_trans xs hb.size⟩
  have ne302 : w.heap.size ≠ w.heap.size + 1 := by first | (simp; done) | omega
  have hput301 : ∀ (X : World) (o : Nat) (v : Value), (fun Wz => Wz.cell? ⟨w.heap.size, 0, none⟩ = some (.int .i64 e1) ∧ Wz.cell? ⟨w.heap.size, 1, none⟩ = some (.int .i64 (R : Int)) ∧ Wz.cell? ⟨w.heap.size, 2, none⟩ = some (.int .i64 (S : Int)) ∧ Wz.cell? ⟨w.heap.size, 3, none⟩ = some (.slice SA sn sc) ∧ Wz.cell? ⟨w.heap.size, 4, none⟩ = some (.int .i64 e2) ∧ Wz.cell? ⟨w.heap.size, 5, none⟩ = some (.int .i64 R2) ∧ Wz.cell? ⟨w.heap.size, 6, none⟩ = some (.int .i64 S2) ∧ Wz.cell? ⟨w.heap.size, 7, none⟩ = some (.slice RA rn rc) ∧ Wz.cell? ⟨w.heap.size, 8, none⟩ = some (d) ∧ (W262).heap.size ≤ Wz.heap.size) X → (fun Wz => Wz.cell? ⟨w.heap.size, 0, none⟩ = some (.int .i64 e1) ∧ Wz.cell? ⟨w.heap.size, 1, none⟩ = some (.int .i64 (R : Int)) ∧ Wz.cell? ⟨w.heap.size, 2, none⟩ = some (.int .i64 (S : Int)) ∧ Wz.cell? ⟨w.heap.size, 3, none⟩ = some (.slice SA sn sc) ∧ Wz.cell? ⟨w.heap.size, 4, none⟩ = some (.int .i64 e2) ∧ Wz.cell? ⟨w.heap.size, 5, none⟩ = some (.int .i64 R2) ∧ Wz.cell? ⟨w.heap.size, 6, none⟩ = some (.int .i64 S2) ∧ Wz.cell? ⟨w.heap.size, 7, none⟩ = some (.slice RA rn rc) ∧ Wz.cell? ⟨w.heap.size, 8, none⟩ = some (d) ∧ (W262).heap.size ≤ Wz.heap.size) (X.setCell ⟨w.heap.size + 1, o, none⟩ v) := by
    rintro X o v ⟨z280, z281, z282, z283, z284, z285, z286, z287, z288, xs⟩
    exact ⟨(World.cell?_setCell_other X _ _ v (fun e => ne302 (congrArg Addr.block e).symm)).trans z280, (World.cell?_setCell_other X _ _ v (fun e => ne302 (congrArg Addr.block e).symm)).trans z281, (World.cell?_setCell_other X _ _ v (fun e => ne302 (congrArg Addr.block e).symm)).trans z282, (World.cell?_setCell_other X _ _ v (fun e => ne302 (congrArg Addr.block e).symm)).trans z283, (World.cell?_setCell_other X _ _ v (fun e => ne302 (congrArg Addr.block e).symm)).trans z284, (World.cell?_setCell_other X _ _ v (fun e => ne302 (congrArg Addr.block e).symm)).trans z285, (World.cell?_setCell_other X _ _ v (fun e => ne302 (congrArg Addr.block e).symm)).trans z286, (World.cell?_setCell_other X _ _ v (fun e => ne302 (congrArg Addr.block e).symm)).trans z287, (World.cell?_setCell_other X _ _ v (fun e => ne302 (congrArg Addr.block e).symm)).trans z288, by rw [World.size_setCell]; exact xs⟩
  have hini300 : (fun Wz => Wz.cell? ⟨w.heap.size, 0, none⟩ = some (.int .i64 e1) ∧ Wz.cell? ⟨w.heap.size, 1, none⟩ = some (.int .i64 (R : Int)) ∧ Wz.cell? ⟨w.heap.size, 2, none⟩ = some (.int .i64 (S : Int)) ∧ Wz.cell? ⟨w.heap.size, 3, none⟩ = some (.slice SA sn sc) ∧ Wz.cell? ⟨w.heap.size, 4, none⟩ = some (.int .i64 e2) ∧ Wz.cell? ⟨w.heap.size, 5, none⟩ = some (.int .i64 R2) ∧ Wz.cell? ⟨w.heap.size, 6, none⟩ = some (.int .i64 S2) ∧ Wz.cell? ⟨w.heap.size, 7, none⟩ = some (.slice RA rn rc) ∧ Wz.cell? ⟨w.heap.size, 8, none⟩ = some (d) ∧ (W262).heap.size ≤ Wz.heap.size) (W262).drew := ⟨keepd (X265.out.cell 0) hdr298 lt289, keepd (X265.out.cell 1) hdr298 lt290, keepd (X265.out.cell 2) hdr298 lt291, keepd (X265.out.cell 3) hdr298 lt292, keepd (X265.out.cell 4) hdr298 lt293, keepd (X265.out.cell 5) hdr298 lt294, keepd (X265.out.cell 6) hdr298 lt295, keepd (X265.out.cell 7) hdr298 lt296, keepd (X265.out.cell 8) hdr298 lt297, Nat.le_refl _⟩
  have Hcall299 := Lib.hid hcall299
  have Hini300 := Lib.hid hini300
  have Hput301 := Lib.hid hput301
  clear hcall299 ne302 hput301 hini300 lt289 lt290 lt291 lt292 lt293 lt294 lt295 lt296 lt297
  clear q268 q269 q270 q271 q272 q273 q274 q275 q276 q277 q278 q279
  refine wp_region_noPanic ?_
  refine wp_region_held_drew (S := (fun Wz => Wz.cell? ⟨w.heap.size, 0, none⟩ = some (.int .i64 e1) ∧ Wz.cell? ⟨w.heap.size, 1, none⟩ = some (.int .i64 (R : Int)) ∧ Wz.cell? ⟨w.heap.size, 2, none⟩ = some (.int .i64 (S : Int)) ∧ Wz.cell? ⟨w.heap.size, 3, none⟩ = some (.slice SA sn sc) ∧ Wz.cell? ⟨w.heap.size, 4, none⟩ = some (.int .i64 e2) ∧ Wz.cell? ⟨w.heap.size, 5, none⟩ = some (.int .i64 R2) ∧ Wz.cell? ⟨w.heap.size, 6, none⟩ = some (.int .i64 S2) ∧ Wz.cell? ⟨w.heap.size, 7, none⟩ = some (.slice RA rn rc) ∧ Wz.cell? ⟨w.heap.size, 8, none⟩ = some (d) ∧ (W262).heap.size ≤ Wz.heap.size)) (by kernel_rfl) Hini300.out (fun hHeld => ?_)
  obtain ⟨W311, hW312⟩ : ∃ Wzz, (W262).drew = Wzz := ⟨_, rfl⟩
  rw [hW312] at hHeld hdr298 ⊢
  clear hW312
  have X313 := Lib.hid (X265.out.later hdr298)
  have X314 := Lib.hid (X266.out.later hdr298)
  have B315 := Lib.hid (B264.out.trans (hdr298.mono B264.out.size))
  clear hdr298
  refine wpAnyH_take (i := 0) (oi := { dst := some 11, op := Op.move (Operand.tmp 5), type := 3, pos := "ref.go:86", after := #[], guard := none }) (v := ?vh316) rfl ?hsh316 ?hfh316 ?hrh316 ?hQh316 ?hyh316 (by assumption) ?resth316
  case hsh316 => kernel_rfl
  case hfh316 => kernel_rfl
  case hrh316 => kernel_rfl
  case hQh316 => exact fun _ _ _ h => h
  case hyh316 => (refine Or.inl ⟨by rfl, ?_⟩; intro w hSw; (try dsimp only at hSw); go_simp; try with_reducible rfl)
  try simp only [Act.put, List.setIfInBounds_toArray, List.set_cons_zero, List.set_cons_succ]
  refine wpAnyH_take (i := 1) (oi := { dst := some 12, op := Op.fieldAddr 27 (Operand.tmp 2) 0, type := 0, pos := "ref.go:86", after := #[], guard := none }) (v := ?vh317) rfl ?hsh317 ?hfh317 ?hrh317 ?hQh317 ?hyh317 (by assumption) ?resth317
  case hsh317 => kernel_rfl
  case hfh317 => kernel_rfl
  case hrh317 => kernel_rfl
  case hQh317 => exact fun _ _ _ h => h
  case hyh317 => (refine Or.inl ⟨by rfl, ?_⟩; intro w hSw; (try dsimp only at hSw); go_simp; try with_reducible rfl)
  try simp only [Act.put, List.setIfInBounds_toArray, List.set_cons_zero, List.set_cons_succ]
  refine wpAnyH_take (i := 2) (oi := { dst := some 13, op := Op.fieldAddr 24 (Operand.tmp 12) 1, type := 0, pos := "ref.go:86", after := #[{ on := 1, ground := Ground.data }], guard := none }) (v := ?vh318) rfl ?hsh318 ?hfh318 ?hrh318 ?hQh318 ?hyh318 (by assumption) ?resth318
  case hsh318 => kernel_rfl
  case hfh318 => kernel_rfl
  case hrh318 => kernel_rfl
  case hQh318 => exact fun _ _ _ h => h
  case hyh318 => (refine Or.inl ⟨by rfl, ?_⟩; intro w hSw; (try dsimp only at hSw); go_simp; try with_reducible rfl)
  try simp only [Act.put, List.setIfInBounds_toArray, List.set_cons_zero, List.set_cons_succ]
  refine wpAnyH_take (i := 3) (oi := { dst := some 14, op := Op.load 3 (Operand.tmp 13), type := 3, pos := "ref.go:86", after := #[{ on := 2, ground := Ground.data }], guard := none }) (v := ?vh319) rfl ?hsh319 ?hfh319 ?hrh319 ?hQh319 ?hyh319 (by assumption) ?resth319
  case hsh319 => kernel_rfl
  case hfh319 => kernel_rfl
  case hrh319 => kernel_rfl
  case hQh319 => exact fun _ _ _ h => h
  case hyh319 => (refine Or.inl ⟨by rfl, ?_⟩; intro w hSw; (try dsimp only at hSw); go_simp; try with_reducible rfl)
  try simp only [Act.put, List.setIfInBounds_toArray, List.set_cons_zero, List.set_cons_succ]
  refine wpAnyH_take (i := 4) (oi := { dst := some 15, op := Op.binOp BinOp.rem 3 (Operand.tmp 11) (Operand.tmp 14) 3, type := 3, pos := "ref.go:86", after := #[{ on := 0, ground := Ground.data }, { on := 3, ground := Ground.data }], guard := none }) (v := ?vh320) rfl ?hsh320 ?hfh320 ?hrh320 ?hQh320 ?hyh320 (by assumption) ?resth320
  case hsh320 => kernel_rfl
  case hfh320 => kernel_rfl
  case hrh320 => kernel_rfl
  case hQh320 => exact fun _ _ _ h => h
  case hyh320 => (refine Or.inl ⟨by rfl, ?_⟩; intro w hSw; (try dsimp only at hSw); go_simp; try with_reducible rfl)
  try simp only [Act.put, List.setIfInBounds_toArray, List.set_cons_zero, List.set_cons_succ]
  refine wpAnyH_take (i := 5) (oi := { dst := some 16, op := Op.move (Operand.tmp 1), type := 3, pos := "ref.go:86", after := #[], guard := none }) (v := ?vh321) rfl ?hsh321 ?hfh321 ?hrh321 ?hQh321 ?hyh321 (by assumption) ?resth321
  case hsh321 => kernel_rfl
  case hfh321 => kernel_rfl
  case hrh321 => kernel_rfl
  case hQh321 => exact fun _ _ _ h => h
  case hyh321 => (refine Or.inl ⟨by rfl, ?_⟩; intro w hSw; (try dsimp only at hSw); go_simp; try with_reducible rfl)
  try simp only [Act.put, List.setIfInBounds_toArray, List.set_cons_zero, List.set_cons_succ]
  refine wpAnyH_take (i := 6) (oi := { dst := some 17, op := Op.fieldAddr 27 (Operand.tmp 2) 0, type := 0, pos := "ref.go:86", after := #[], guard := none }) (v := ?vh322) rfl ?hsh322 ?hfh322 ?hrh322 ?hQh322 ?hyh322 (by assumption) ?resth322
  case hsh322 => kernel_rfl
  case hfh322 => kernel_rfl
  case hrh322 => kernel_rfl
  case hQh322 => exact fun _ _ _ h => h
  case hyh322 => (refine Or.inl ⟨by rfl, ?_⟩; intro w hSw; (try dsimp only at hSw); go_simp; try with_reducible rfl)
  try simp only [Act.put, List.setIfInBounds_toArray, List.set_cons_zero, List.set_cons_succ]
  refine wpAnyH_take (i := 7) (oi := { dst := some 18, op := Op.fieldAddr 24 (Operand.tmp 17) 2, type := 0, pos := "ref.go:86", after := #[{ on := 6, ground := Ground.data }], guard := none }) (v := ?vh323) rfl ?hsh323 ?hfh323 ?hrh323 ?hQh323 ?hyh323 (by assumption) ?resth323
  case hsh323 => kernel_rfl
  case hfh323 => kernel_rfl
  case hrh323 => kernel_rfl
  case hQh323 => exact fun _ _ _ h => h
  case hyh323 => (refine Or.inl ⟨by rfl, ?_⟩; intro w hSw; (try dsimp only at hSw); go_simp; try with_reducible rfl)
  try simp only [Act.put, List.setIfInBounds_toArray, List.set_cons_zero, List.set_cons_succ]
  refine wpAnyH_take (i := 8) (oi := { dst := some 19, op := Op.load 3 (Operand.tmp 18), type := 3, pos := "ref.go:86", after := #[{ on := 7, ground := Ground.data }], guard := none }) (v := ?vh324) rfl ?hsh324 ?hfh324 ?hrh324 ?hQh324 ?hyh324 (by assumption) ?resth324
  case hsh324 => kernel_rfl
  case hfh324 => kernel_rfl
  case hrh324 => kernel_rfl
  case hQh324 => exact fun _ _ _ h => h
  case hyh324 => (refine Or.inl ⟨by rfl, ?_⟩; intro w hSw; (try dsimp only at hSw); go_simp; try with_reducible rfl)
  try simp only [Act.put, List.setIfInBounds_toArray, List.set_cons_zero, List.set_cons_succ]
  refine wpAnyH_take (i := 9) (oi := { dst := some 20, op := Op.binOp BinOp.rem 3 (Operand.tmp 16) (Operand.tmp 19) 3, type := 3, pos := "ref.go:86", after := #[{ on := 5, ground := Ground.data }, { on := 8, ground := Ground.data }], guard := none }) (v := ?vh325) rfl ?hsh325 ?hfh325 ?hrh325 ?hQh325 ?hyh325 (by assumption) ?resth325
  case hsh325 => kernel_rfl
  case hfh325 => kernel_rfl
  case hrh325 => kernel_rfl
  case hQh325 => exact fun _ _ _ h => h
  case hyh325 => (refine Or.inl ⟨by rfl, ?_⟩; intro w hSw; (try dsimp only at hSw); go_simp; try with_reducible rfl)
  try simp only [Act.put, List.setIfInBounds_toArray, List.set_cons_zero, List.set_cons_succ]
  refine wpAnyH_take (i := 10) (oi := { dst := some 21, op := Op.move (Operand.tmp 5), type := 3, pos := "ref.go:86", after := #[], guard := none }) (v := ?vh326) rfl ?hsh326 ?hfh326 ?hrh326 ?hQh326 ?hyh326 (by assumption) ?resth326
  case hsh326 => kernel_rfl
  case hfh326 => kernel_rfl
  case hrh326 => kernel_rfl
  case hQh326 => exact fun _ _ _ h => h
  case hyh326 => (refine Or.inl ⟨by rfl, ?_⟩; intro w hSw; (try dsimp only at hSw); go_simp; try with_reducible rfl)
  try simp only [Act.put, List.setIfInBounds_toArray, List.set_cons_zero, List.set_cons_succ]
  refine wpAnyH_take (i := 11) (oi := { dst := some 22, op := Op.fieldAddr 27 (Operand.tmp 2) 0, type := 0, pos := "ref.go:86", after := #[], guard := none }) (v := ?vh327) rfl ?hsh327 ?hfh327 ?hrh327 ?hQh327 ?hyh327 (by assumption) ?resth327
  case hsh327 => kernel_rfl
  case hfh327 => kernel_rfl
  case hrh327 => kernel_rfl
  case hQh327 => exact fun _ _ _ h => h
  case hyh327 => (refine Or.inl ⟨by rfl, ?_⟩; intro w hSw; (try dsimp only at hSw); go_simp; try with_reducible rfl)
  try simp only [Act.put, List.setIfInBounds_toArray, List.set_cons_zero, List.set_cons_succ]
  refine wpAnyH_take (i := 12) (oi := { dst := some 23, op := Op.fieldAddr 24 (Operand.tmp 22) 1, type := 0, pos := "ref.go:86", after := #[{ on := 11, ground := Ground.data }], guard := none }) (v := ?vh328) rfl ?hsh328 ?hfh328 ?hrh328 ?hQh328 ?hyh328 (by assumption) ?resth328
  case hsh328 => kernel_rfl
  case hfh328 => kernel_rfl
  case hrh328 => kernel_rfl
  case hQh328 => exact fun _ _ _ h => h
  case hyh328 => (refine Or.inl ⟨by rfl, ?_⟩; intro w hSw; (try dsimp only at hSw); go_simp; try with_reducible rfl)
  try simp only [Act.put, List.setIfInBounds_toArray, List.set_cons_zero, List.set_cons_succ]
  refine wpAnyH_take (i := 13) (oi := { dst := some 24, op := Op.load 3 (Operand.tmp 23), type := 3, pos := "ref.go:86", after := #[{ on := 12, ground := Ground.data }], guard := none }) (v := ?vh329) rfl ?hsh329 ?hfh329 ?hrh329 ?hQh329 ?hyh329 (by assumption) ?resth329
  case hsh329 => kernel_rfl
  case hfh329 => kernel_rfl
  case hrh329 => kernel_rfl
  case hQh329 => exact fun _ _ _ h => h
  case hyh329 => (refine Or.inl ⟨by rfl, ?_⟩; intro w hSw; (try dsimp only at hSw); go_simp; try with_reducible rfl)
  try simp only [Act.put, List.setIfInBounds_toArray, List.set_cons_zero, List.set_cons_succ]
  refine wpAnyH_take (i := 14) (oi := { dst := some 25, op := Op.binOp BinOp.quo 3 (Operand.tmp 21) (Operand.tmp 24) 3, type := 3, pos := "ref.go:86", after := #[{ on := 10, ground := Ground.data }, { on := 13, ground := Ground.data }], guard := none }) (v := ?vh330) rfl ?hsh330 ?hfh330 ?hrh330 ?hQh330 ?hyh330 (by assumption) ?resth330
  case hsh330 => kernel_rfl
  case hfh330 => kernel_rfl
  case hrh330 => kernel_rfl
  case hQh330 => exact fun _ _ _ h => h
  case hyh330 => (refine Or.inl ⟨by rfl, ?_⟩; intro w hSw; (try dsimp only at hSw); go_simp; try with_reducible rfl)
  try simp only [Act.put, List.setIfInBounds_toArray, List.set_cons_zero, List.set_cons_succ]
  refine wpAnyH_take (i := 15) (oi := { dst := some 26, op := Op.build 29 #[(0, Operand.tmp 15), (1, Operand.tmp 20), (2, Operand.tmp 25)], type := 29, pos := "ref.go:86", after := #[{ on := 4, ground := Ground.data }, { on := 9, ground := Ground.data }, { on := 14, ground := Ground.data }], guard := none }) (v := ?vh331) rfl ?hsh331 ?hfh331 ?hrh331 ?hQh331 ?hyh331 (by assumption) ?resth331
  case hsh331 => kernel_rfl
  case hfh331 => kernel_rfl
  case hrh331 => kernel_rfl
  case hQh331 => exact fun _ _ _ h => h
  case hyh331 => (refine Or.inl ⟨by rfl, ?_⟩; intro w hSw; (try dsimp only at hSw); go_simp; try with_reducible rfl)
  try simp only [Act.put, List.setIfInBounds_toArray, List.set_cons_zero, List.set_cons_succ]
  refine wpAnyH_ready (rs := [16]) (by kernel_rfl) (by simp) ?_
  refine AllReadyH.cons (o := _) (by rfl) (fun K hK => ?_) AllReadyH.nil
  have q332 : W311.cell? ⟨w.heap.size + 1, 0, none⟩ = some (.int .i64 0) := X314.out.cell 0
  have q333 : W311.cell? ⟨w.heap.size + 1, 1, none⟩ = some (.int .i64 0) := X314.out.cell 1
  have q334 : W311.cell? ⟨w.heap.size + 1, 2, none⟩ = some (.int .i64 0) := X314.out.cell 2
  have q335 : ∀ o, W311.frozen? ⟨w.heap.size + 1, o, none⟩ = false := fun o => X314.out.free o
  go_simp
  clear q332 q333 q334 q335
  have X336 := Lib.hid (show Box (((W311.setCell ⟨w.heap.size + 1, 0, none⟩ (.int .i64 (x : Int))).setCell ⟨w.heap.size + 1, 1, none⟩ (.int .i64 (y : Int))).setCell ⟨w.heap.size + 1, 2, none⟩ (.int .i64 (z : Int))) (w.heap.size) 27 #[.int .i64 e1, .int .i64 (R : Int), .int .i64 (S : Int), .slice SA sn sc, .int .i64 e2, .int .i64 R2, .int .i64 S2, .slice RA rn rc, d] from ((((((X313.out).far (p := ⟨w.heap.size + 1, 0, none⟩) (by first | (simp; done) | omega) (.int .i64 (x : Int)))).far (p := ⟨w.heap.size + 1, 1, none⟩) (by first | (simp; done) | omega) (.int .i64 (y : Int)))).far (p := ⟨w.heap.size + 1, 2, none⟩) (by first | (simp; done) | omega) (.int .i64 (z : Int))))
  have X337 := Lib.hid (show Box (((W311.setCell ⟨w.heap.size + 1, 0, none⟩ (.int .i64 (x : Int))).setCell ⟨w.heap.size + 1, 1, none⟩ (.int .i64 (y : Int))).setCell ⟨w.heap.size + 1, 2, none⟩ (.int .i64 (z : Int))) (w.heap.size + 1) 29 #[.int .i64 (x : Int), .int .i64 (y : Int), .int .i64 (z : Int)] from ((((((X314.out).put 0 (.int .i64 (x : Int)))).put 1 (.int .i64 (y : Int)))).put 2 (.int .i64 (z : Int))))
  have B338 := Lib.hid ((((((B315.out).setCell (p := ⟨w.heap.size + 1, 0, none⟩) (by first | (simp; done) | (simp; omega) | omega) (.int .i64 (x : Int)))).setCell (p := ⟨w.heap.size + 1, 1, none⟩) (by first | (simp; done) | (simp; omega) | omega) (.int .i64 (y : Int)))).setCell (p := ⟨w.heap.size + 1, 2, none⟩) (by first | (simp; done) | (simp; omega) | omega) (.int .i64 (z : Int)))
  refine hK.out _ _ (Hput301.out _ 2 (.int .i64 (z : Int)) (Hput301.out _ 1 (.int .i64 (y : Int)) (Hput301.out _ 0 (.int .i64 (x : Int)) hHeld))) (fun hHeld339 => ?_)
  clear hK K hHeld
  have hHeld := hHeld339
  clear hHeld339
  try simp only [Act.put, List.setIfInBounds_toArray, List.set_cons_zero, List.set_cons_succ]
  refine wpAnyH_done (by kernel_rfl) ?_ _
  refine NoPanic.normal ?_
  clear hHeld Hcall299 Hini300 Hput301
  obtain ⟨W340, hW341⟩ : ∃ Wzz, (((W311.setCell ⟨w.heap.size + 1, 0, none⟩ (.int .i64 (x : Int))).setCell ⟨w.heap.size + 1, 1, none⟩ (.int .i64 (y : Int))).setCell ⟨w.heap.size + 1, 2, none⟩ (.int .i64 (z : Int))) = Wzz := ⟨_, rfl⟩
  have x342 := X336.out
  rw [hW341] at x342
  have X342 := Lib.hid x342
  clear x342 X336
  have x343 := X337.out
  rw [hW341] at x343
  have X343 := Lib.hid x343
  clear x343 X337
  have b344 := B338.out
  rw [hW341] at b344
  have B344 := Lib.hid b344
  clear b344 B338
  rw [hW341]
  clear hW341
  have q345 : W340.cell? ⟨w.heap.size, 0, none⟩ = some (.int .i64 e1) := X342.out.cell 0
  have q346 : W340.cell? ⟨w.heap.size, 1, none⟩ = some (.int .i64 (R : Int)) := X342.out.cell 1
  have q347 : W340.cell? ⟨w.heap.size, 2, none⟩ = some (.int .i64 (S : Int)) := X342.out.cell 2
  have q348 : W340.cell? ⟨w.heap.size, 3, none⟩ = some (.slice SA sn sc) := X342.out.cell 3
  have q349 : W340.cell? ⟨w.heap.size, 4, none⟩ = some (.int .i64 e2) := X342.out.cell 4
  have q350 : W340.cell? ⟨w.heap.size, 5, none⟩ = some (.int .i64 R2) := X342.out.cell 5
  have q351 : W340.cell? ⟨w.heap.size, 6, none⟩ = some (.int .i64 S2) := X342.out.cell 6
  have q352 : W340.cell? ⟨w.heap.size, 7, none⟩ = some (.slice RA rn rc) := X342.out.cell 7
  have q353 : W340.cell? ⟨w.heap.size, 8, none⟩ = some (d) := X342.out.cell 8
  have q354 : W340.cell? ⟨w.heap.size + 1, 0, none⟩ = some (.int .i64 (x : Int)) := X343.out.cell 0
  have q355 : W340.cell? ⟨w.heap.size + 1, 1, none⟩ = some (.int .i64 (y : Int)) := X343.out.cell 1
  have q356 : W340.cell? ⟨w.heap.size + 1, 2, none⟩ = some (.int .i64 (z : Int)) := X343.out.cell 2
  go_wp2_with fail
  (try simp only [Exit.inBlock, Exit.then])
  refine endS (t := 4) (v := stV (stateI ⟨⟨e1, (R : Int), (S : Int), k1⟩, ⟨e2, R2, S2, k2⟩, dr⟩ (n : Int))) ?_ ?_ X343.out B344.out (by rw [HI.out]; rfl) <;> rfl

set_option maxRecDepth 100000 in
set_option maxHeartbeats 8000000 in
theorem kStateOf_bad (p : Pr) (i : Int) (v : Value) (w : World) (h : IsPair w w.heap.size v p) (h0 : ckE p ≠ 0) : Calls Try.prog 13 #[v, .int .i64 i] w fun e w' => e = .returned (.tuple #[.agg #[.int .i64 0, .int .i64 0, .int .i64 0], .int .i64 (ckE p)]) ∧ Below w.heap.size w w' := by
  obtain ⟨s, r, d, hpv, -, -, -⟩ := id h
  subst hpv
  have HP0 := Lib.hid h
  have HE := Lib.hid h0
  clear h h0
  unfold pairV at *
  have hne : (ckE p != 0) = true := by simpa using HE.out
  have hne2 : decide (ckE p = 0) = false := by simpa using HE.out
  go_enter Try.func13, Try.ntmps13
  go_wp2_with fail
  obtain ⟨W357, hW358⟩ : ∃ Wzz, ((w.alloc (.cells #[.int .i64 p.bed.eye, .int .i64 p.bed.rings, .int .i64 p.bed.sectors, s, .int .i64 p.run.eye, .int .i64 p.run.rings, .int .i64 p.run.sectors, r, d] 27)).alloc (.cells #[.int .i64 0, .int .i64 0, .int .i64 0] 29)) = Wzz := ⟨_, rfl⟩
  have B359 := Lib.hid (show Below w.heap.size w W357 by rw [← hW358]; exact (((Below.refl w.heap.size w).alloc (Nat.le_refl _) _).alloc (by first | (simp; done) | (simp; omega)) _))
  have X360 := Lib.hid (show Box W357 (w.heap.size) 27 #[.int .i64 p.bed.eye, .int .i64 p.bed.rings, .int .i64 p.bed.sectors, s, .int .i64 p.run.eye, .int .i64 p.run.rings, .int .i64 p.run.sectors, r, d] by rw [← hW358]; exact Box.alloc (Box.made w 27 #[.int .i64 p.bed.eye, .int .i64 p.bed.rings, .int .i64 p.bed.sectors, s, .int .i64 p.run.eye, .int .i64 p.run.rings, .int .i64 p.run.sectors, r, d]) (.cells #[.int .i64 0, .int .i64 0, .int .i64 0] 29))
  have X361 := Lib.hid (show Box W357 (w.heap.size + 1) 29 #[.int .i64 0, .int .i64 0, .int .i64 0] by
    have hz := Box.made (w.alloc (.cells #[.int .i64 p.bed.eye, .int .i64 p.bed.rings, .int .i64 p.bed.sectors, s, .int .i64 p.run.eye, .int .i64 p.run.rings, .int .i64 p.run.sectors, r, d] 27)) 29 #[.int .i64 0, .int .i64 0, .int .i64 0]
    rw [World.size_alloc] at hz
    rw [← hW358]; exact hz)
  have C362 := Lib.hid (HP0.out.later B359.out)
  have SZ363 := Lib.hid (show W357.heap.size = w.heap.size + 1 + 1 by rw [← hW358]; simp)
  rw [hW358]
  clear hW358
  have q364 : W357.cell? ⟨w.heap.size, 0, none⟩ = some (.int .i64 p.bed.eye) := X360.out.cell 0
  have q365 : W357.cell? ⟨w.heap.size, 1, none⟩ = some (.int .i64 p.bed.rings) := X360.out.cell 1
  have q366 : W357.cell? ⟨w.heap.size, 2, none⟩ = some (.int .i64 p.bed.sectors) := X360.out.cell 2
  have q367 : W357.cell? ⟨w.heap.size, 3, none⟩ = some (s) := X360.out.cell 3
  have q368 : W357.cell? ⟨w.heap.size, 4, none⟩ = some (.int .i64 p.run.eye) := X360.out.cell 4
  have q369 : W357.cell? ⟨w.heap.size, 5, none⟩ = some (.int .i64 p.run.rings) := X360.out.cell 5
  have q370 : W357.cell? ⟨w.heap.size, 6, none⟩ = some (.int .i64 p.run.sectors) := X360.out.cell 6
  have q371 : W357.cell? ⟨w.heap.size, 7, none⟩ = some (r) := X360.out.cell 7
  have q372 : W357.cell? ⟨w.heap.size, 8, none⟩ = some (d) := X360.out.cell 8
  have q373 : W357.cell? ⟨w.heap.size + 1, 0, none⟩ = some (.int .i64 0) := X361.out.cell 0
  have q374 : W357.cell? ⟨w.heap.size + 1, 1, none⟩ = some (.int .i64 0) := X361.out.cell 1
  have q375 : W357.cell? ⟨w.heap.size + 1, 2, none⟩ = some (.int .i64 0) := X361.out.cell 2
  have fz376 : ∀ o, W357.frozen? ⟨w.heap.size + 1, o, none⟩ = false := fun o => X361.out.free o
  go_wp2_with fail
  refine (kCheck_c p _ _ C362.out).mono ?_; rintro e v377 ⟨rfl, hb378⟩
  have X379 := Lib.hid (X360.out.later hb378)
  have X380 := Lib.hid (X361.out.later hb378)
  have C381 := Lib.hid (C362.out.later hb378)
  have B382 := Lib.hid (B359.out.trans (hb378.mono B359.out.size))
  clear hb378
  clear q364 q365 q366 q367 q368 q369 q370 q371 q372 q373 q374 q375 fz376
  have q383 : v377.cell? ⟨w.heap.size, 0, none⟩ = some (.int .i64 p.bed.eye) := X379.out.cell 0
  have q384 : v377.cell? ⟨w.heap.size, 1, none⟩ = some (.int .i64 p.bed.rings) := X379.out.cell 1
  have q385 : v377.cell? ⟨w.heap.size, 2, none⟩ = some (.int .i64 p.bed.sectors) := X379.out.cell 2
  have q386 : v377.cell? ⟨w.heap.size, 3, none⟩ = some (s) := X379.out.cell 3
  have q387 : v377.cell? ⟨w.heap.size, 4, none⟩ = some (.int .i64 p.run.eye) := X379.out.cell 4
  have q388 : v377.cell? ⟨w.heap.size, 5, none⟩ = some (.int .i64 p.run.rings) := X379.out.cell 5
  have q389 : v377.cell? ⟨w.heap.size, 6, none⟩ = some (.int .i64 p.run.sectors) := X379.out.cell 6
  have q390 : v377.cell? ⟨w.heap.size, 7, none⟩ = some (r) := X379.out.cell 7
  have q391 : v377.cell? ⟨w.heap.size, 8, none⟩ = some (d) := X379.out.cell 8
  have q392 : v377.cell? ⟨w.heap.size + 1, 0, none⟩ = some (.int .i64 0) := X380.out.cell 0
  have q393 : v377.cell? ⟨w.heap.size + 1, 1, none⟩ = some (.int .i64 0) := X380.out.cell 1
  have q394 : v377.cell? ⟨w.heap.size + 1, 2, none⟩ = some (.int .i64 0) := X380.out.cell 2
  have fz395 : ∀ o, v377.frozen? ⟨w.heap.size + 1, o, none⟩ = false := fun o => X380.out.free o
  go_wp2_with fail
  (try simp only [Exit.inBlock, Exit.then])
  refine endS2 (t := 4) (u := 5) (x := .int .i64 (ckE p)) (v := .tuple #[.agg #[.int .i64 0, .int .i64 0, .int .i64 0], .int .i64 (ckE p)]) ?_ ?_ ?_ (((X380.out.put 0 (.int .i64 0)).put 1 (.int .i64 0)).put 2 (.int .i64 0)) (((B382.out.setCell (by first | (simp; done) | (simp; omega) | omega) _).setCell (by first | (simp; done) | (simp; omega) | omega) _).setCell (by first | (simp; done) | (simp; omega) | omega) _) ?_
  all_goals first | rfl | skip

set_option maxRecDepth 100000 in
set_option maxHeartbeats 8000000 in
theorem kStateOf_none (p : Pr) (i : Int) (v : Value) (w : World) (h : IsPair w w.heap.size v p) (h0 : ckE p = 0) (hi : ¬ (0 ≤ i ∧ i < stN p)) : Calls Try.prog 13 #[v, .int .i64 i] w fun e w' => e = .returned (.tuple #[.agg #[.int .i64 0, .int .i64 0, .int .i64 0], .int .i64 1]) ∧ Below w.heap.size w w' := by
  obtain ⟨s, r, d, hpv, -, -, -⟩ := id h
  subst hpv
  have HP0 := Lib.hid h
  have HE := Lib.hid h0
  clear h h0
  unfold pairV at *
  have HI := Lib.hid hi
  clear hi
  obtain ⟨N, hN⟩ : ∃ N, stN p = N := ⟨_, rfl⟩
  have HN := Lib.hid hN
  have w1 : IntKind.i64.wrap (N - 1) = N - 1 := by have h1 := ckE_bd HE.out; have h2 := stN_bd h1.1 h1.2.1; have : stN p = p.bed.rings * p.bed.sectors * p.bed.sectors := rfl; exact wrap_id (by omega) (by omega)
  clear hN
  go_enter Try.func13, Try.ntmps13
  go_wp2_with fail
  obtain ⟨W396, hW397⟩ : ∃ Wzz, ((w.alloc (.cells #[.int .i64 p.bed.eye, .int .i64 p.bed.rings, .int .i64 p.bed.sectors, s, .int .i64 p.run.eye, .int .i64 p.run.rings, .int .i64 p.run.sectors, r, d] 27)).alloc (.cells #[.int .i64 0, .int .i64 0, .int .i64 0] 29)) = Wzz := ⟨_, rfl⟩
  have B398 := Lib.hid (show Below w.heap.size w W396 by rw [← hW397]; exact (((Below.refl w.heap.size w).alloc (Nat.le_refl _) _).alloc (by first | (simp; done) | (simp; omega)) _))
  have X399 := Lib.hid (show Box W396 (w.heap.size) 27 #[.int .i64 p.bed.eye, .int .i64 p.bed.rings, .int .i64 p.bed.sectors, s, .int .i64 p.run.eye, .int .i64 p.run.rings, .int .i64 p.run.sectors, r, d] by rw [← hW397]; exact Box.alloc (Box.made w 27 #[.int .i64 p.bed.eye, .int .i64 p.bed.rings, .int .i64 p.bed.sectors, s, .int .i64 p.run.eye, .int .i64 p.run.rings, .int .i64 p.run.sectors, r, d]) (.cells #[.int .i64 0, .int .i64 0, .int .i64 0] 29))
  have X400 := Lib.hid (show Box W396 (w.heap.size + 1) 29 #[.int .i64 0, .int .i64 0, .int .i64 0] by
    have hz := Box.made (w.alloc (.cells #[.int .i64 p.bed.eye, .int .i64 p.bed.rings, .int .i64 p.bed.sectors, s, .int .i64 p.run.eye, .int .i64 p.run.rings, .int .i64 p.run.sectors, r, d] 27)) 29 #[.int .i64 0, .int .i64 0, .int .i64 0]
    rw [World.size_alloc] at hz
    rw [← hW397]; exact hz)
  have C401 := Lib.hid (HP0.out.later B398.out)
  have SZ402 := Lib.hid (show W396.heap.size = w.heap.size + 1 + 1 by rw [← hW397]; simp)
  rw [hW397]
  clear hW397
  have q403 : W396.cell? ⟨w.heap.size, 0, none⟩ = some (.int .i64 p.bed.eye) := X399.out.cell 0
  have q404 : W396.cell? ⟨w.heap.size, 1, none⟩ = some (.int .i64 p.bed.rings) := X399.out.cell 1
  have q405 : W396.cell? ⟨w.heap.size, 2, none⟩ = some (.int .i64 p.bed.sectors) := X399.out.cell 2
  have q406 : W396.cell? ⟨w.heap.size, 3, none⟩ = some (s) := X399.out.cell 3
  have q407 : W396.cell? ⟨w.heap.size, 4, none⟩ = some (.int .i64 p.run.eye) := X399.out.cell 4
  have q408 : W396.cell? ⟨w.heap.size, 5, none⟩ = some (.int .i64 p.run.rings) := X399.out.cell 5
  have q409 : W396.cell? ⟨w.heap.size, 6, none⟩ = some (.int .i64 p.run.sectors) := X399.out.cell 6
  have q410 : W396.cell? ⟨w.heap.size, 7, none⟩ = some (r) := X399.out.cell 7
  have q411 : W396.cell? ⟨w.heap.size, 8, none⟩ = some (d) := X399.out.cell 8
  have q412 : W396.cell? ⟨w.heap.size + 1, 0, none⟩ = some (.int .i64 0) := X400.out.cell 0
  have q413 : W396.cell? ⟨w.heap.size + 1, 1, none⟩ = some (.int .i64 0) := X400.out.cell 1
  have q414 : W396.cell? ⟨w.heap.size + 1, 2, none⟩ = some (.int .i64 0) := X400.out.cell 2
  have fz415 : ∀ o, W396.frozen? ⟨w.heap.size + 1, o, none⟩ = false := fun o => X400.out.free o
  go_wp2_with fail
  refine (kCheck_c p _ _ C401.out).mono ?_; rintro e v416 ⟨rfl, hb417⟩
  have X418 := Lib.hid (X399.out.later hb417)
  have X419 := Lib.hid (X400.out.later hb417)
  have C420 := Lib.hid (C401.out.later hb417)
  have B421 := Lib.hid (B398.out.trans (hb417.mono B398.out.size))
  clear hb417
  rw [HE.out]
  clear q403 q404 q405 q406 q407 q408 q409 q410 q411 q412 q413 q414 fz415
  have q422 : v416.cell? ⟨w.heap.size, 0, none⟩ = some (.int .i64 p.bed.eye) := X418.out.cell 0
  have q423 : v416.cell? ⟨w.heap.size, 1, none⟩ = some (.int .i64 p.bed.rings) := X418.out.cell 1
  have q424 : v416.cell? ⟨w.heap.size, 2, none⟩ = some (.int .i64 p.bed.sectors) := X418.out.cell 2
  have q425 : v416.cell? ⟨w.heap.size, 3, none⟩ = some (s) := X418.out.cell 3
  have q426 : v416.cell? ⟨w.heap.size, 4, none⟩ = some (.int .i64 p.run.eye) := X418.out.cell 4
  have q427 : v416.cell? ⟨w.heap.size, 5, none⟩ = some (.int .i64 p.run.rings) := X418.out.cell 5
  have q428 : v416.cell? ⟨w.heap.size, 6, none⟩ = some (.int .i64 p.run.sectors) := X418.out.cell 6
  have q429 : v416.cell? ⟨w.heap.size, 7, none⟩ = some (r) := X418.out.cell 7
  have q430 : v416.cell? ⟨w.heap.size, 8, none⟩ = some (d) := X418.out.cell 8
  have q431 : v416.cell? ⟨w.heap.size + 1, 0, none⟩ = some (.int .i64 0) := X419.out.cell 0
  have q432 : v416.cell? ⟨w.heap.size + 1, 1, none⟩ = some (.int .i64 0) := X419.out.cell 1
  have q433 : v416.cell? ⟨w.heap.size + 1, 2, none⟩ = some (.int .i64 0) := X419.out.cell 2
  have fz434 : ∀ o, v416.frozen? ⟨w.heap.size + 1, o, none⟩ = false := fun o => X419.out.free o
  go_wp2_with fail
  refine (kcount_c p _ _ C420.out (ckE_bd HE.out).1 (ckE_bd HE.out).2.1).mono ?_; rintro e v435 ⟨rfl, hb436⟩
  have X437 := Lib.hid (X418.out.later hb436)
  have X438 := Lib.hid (X419.out.later hb436)
  have C439 := Lib.hid (C420.out.later hb436)
  have B440 := Lib.hid (B421.out.trans (hb436.mono B421.out.size))
  clear hb436
  rw [HN.out]
  clear q422 q423 q424 q425 q426 q427 q428 q429 q430 q431 q432 q433 fz434
  have q441 : v435.cell? ⟨w.heap.size, 0, none⟩ = some (.int .i64 p.bed.eye) := X437.out.cell 0
  have q442 : v435.cell? ⟨w.heap.size, 1, none⟩ = some (.int .i64 p.bed.rings) := X437.out.cell 1
  have q443 : v435.cell? ⟨w.heap.size, 2, none⟩ = some (.int .i64 p.bed.sectors) := X437.out.cell 2
  have q444 : v435.cell? ⟨w.heap.size, 3, none⟩ = some (s) := X437.out.cell 3
  have q445 : v435.cell? ⟨w.heap.size, 4, none⟩ = some (.int .i64 p.run.eye) := X437.out.cell 4
  have q446 : v435.cell? ⟨w.heap.size, 5, none⟩ = some (.int .i64 p.run.rings) := X437.out.cell 5
  have q447 : v435.cell? ⟨w.heap.size, 6, none⟩ = some (.int .i64 p.run.sectors) := X437.out.cell 6
  have q448 : v435.cell? ⟨w.heap.size, 7, none⟩ = some (r) := X437.out.cell 7
  have q449 : v435.cell? ⟨w.heap.size, 8, none⟩ = some (d) := X437.out.cell 8
  have q450 : v435.cell? ⟨w.heap.size + 1, 0, none⟩ = some (.int .i64 0) := X438.out.cell 0
  have q451 : v435.cell? ⟨w.heap.size + 1, 1, none⟩ = some (.int .i64 0) := X438.out.cell 1
  have q452 : v435.cell? ⟨w.heap.size + 1, 2, none⟩ = some (.int .i64 0) := X438.out.cell 2
  have fz453 : ∀ o, v435.frozen? ⟨w.heap.size + 1, o, none⟩ = false := fun o => X438.out.free o
  go_wp2_with fail
  refine (kwithin_b i 0 (N - 1) false (by rw [inB_not]; have := HI.out; rw [HN.out] at this; omega) _).mono ?_; rintro e v454 ⟨rfl, rfl⟩
  go_wp2_with fail
  (try simp only [Exit.inBlock, Exit.then])
  refine endS2 (t := 4) (u := 5) (x := .int .i64 1) (v := .tuple #[.agg #[.int .i64 0, .int .i64 0, .int .i64 0], .int .i64 1]) ?_ ?_ ?_ (((X438.out.put 0 (.int .i64 0)).put 1 (.int .i64 0)).put 2 (.int .i64 0)) (((B440.out.setCell (by first | (simp; done) | (simp; omega) | omega) _).setCell (by first | (simp; done) | (simp; omega) | omega) _).setCell (by first | (simp; done) | (simp; omega) | omega) _) ?_
  all_goals first | rfl | skip

set_option maxRecDepth 100000 in
set_option maxHeartbeats 8000000 in
theorem kStateOf_ok (p : Pr) (i : Int) (v : Value) (w : World) (h : IsPair w w.heap.size v p) (h0 : ckE p = 0) (hi : 0 ≤ i ∧ i < stN p) : Calls Try.prog 13 #[v, .int .i64 i] w fun e w' => e = .returned (.tuple #[stV (stateI p i), .int .i64 0]) ∧ Below w.heap.size w w' := by
  obtain ⟨s, r, d, hpv, -, -, -⟩ := id h
  subst hpv
  have HP0 := Lib.hid h
  have HE := Lib.hid h0
  clear h h0
  unfold pairV at *
  have HI := Lib.hid hi
  clear hi
  obtain ⟨N, hN⟩ : ∃ N, stN p = N := ⟨_, rfl⟩
  have HN := Lib.hid hN
  have w1 : IntKind.i64.wrap (N - 1) = N - 1 := by have h1 := ckE_bd HE.out; have h2 := stN_bd h1.1 h1.2.1; have : stN p = p.bed.rings * p.bed.sectors * p.bed.sectors := rfl; exact wrap_id (by omega) (by omega)
  clear hN
  go_enter Try.func13, Try.ntmps13
  go_wp2_with fail
  obtain ⟨W455, hW456⟩ : ∃ Wzz, ((w.alloc (.cells #[.int .i64 p.bed.eye, .int .i64 p.bed.rings, .int .i64 p.bed.sectors, s, .int .i64 p.run.eye, .int .i64 p.run.rings, .int .i64 p.run.sectors, r, d] 27)).alloc (.cells #[.int .i64 0, .int .i64 0, .int .i64 0] 29)) = Wzz := ⟨_, rfl⟩
  have B457 := Lib.hid (show Below w.heap.size w W455 by rw [← hW456]; exact (((Below.refl w.heap.size w).alloc (Nat.le_refl _) _).alloc (by first | (simp; done) | (simp; omega)) _))
  have X458 := Lib.hid (show Box W455 (w.heap.size) 27 #[.int .i64 p.bed.eye, .int .i64 p.bed.rings, .int .i64 p.bed.sectors, s, .int .i64 p.run.eye, .int .i64 p.run.rings, .int .i64 p.run.sectors, r, d] by rw [← hW456]; exact Box.alloc (Box.made w 27 #[.int .i64 p.bed.eye, .int .i64 p.bed.rings, .int .i64 p.bed.sectors, s, .int .i64 p.run.eye, .int .i64 p.run.rings, .int .i64 p.run.sectors, r, d]) (.cells #[.int .i64 0, .int .i64 0, .int .i64 0] 29))
  have X459 := Lib.hid (show Box W455 (w.heap.size + 1) 29 #[.int .i64 0, .int .i64 0, .int .i64 0] by
    have hz := Box.made (w.alloc (.cells #[.int .i64 p.bed.eye, .int .i64 p.bed.rings, .int .i64 p.bed.sectors, s, .int .i64 p.run.eye, .int .i64 p.run.rings, .int .i64 p.run.sectors, r, d] 27)) 29 #[.int .i64 0, .int .i64 0, .int .i64 0]
    rw [World.size_alloc] at hz
    rw [← hW456]; exact hz)
  have C460 := Lib.hid (HP0.out.later B457.out)
  have SZ461 := Lib.hid (show W455.heap.size = w.heap.size + 1 + 1 by rw [← hW456]; simp)
  rw [hW456]
  clear hW456
  have q462 : W455.cell? ⟨w.heap.size, 0, none⟩ = some (.int .i64 p.bed.eye) := X458.out.cell 0
  have q463 : W455.cell? ⟨w.heap.size, 1, none⟩ = some (.int .i64 p.bed.rings) := X458.out.cell 1
  have q464 : W455.cell? ⟨w.heap.size, 2, none⟩ = some (.int .i64 p.bed.sectors) := X458.out.cell 2
  have q465 : W455.cell? ⟨w.heap.size, 3, none⟩ = some (s) := X458.out.cell 3
  have q466 : W455.cell? ⟨w.heap.size, 4, none⟩ = some (.int .i64 p.run.eye) := X458.out.cell 4
  have q467 : W455.cell? ⟨w.heap.size, 5, none⟩ = some (.int .i64 p.run.rings) := X458.out.cell 5
  have q468 : W455.cell? ⟨w.heap.size, 6, none⟩ = some (.int .i64 p.run.sectors) := X458.out.cell 6
  have q469 : W455.cell? ⟨w.heap.size, 7, none⟩ = some (r) := X458.out.cell 7
  have q470 : W455.cell? ⟨w.heap.size, 8, none⟩ = some (d) := X458.out.cell 8
  have q471 : W455.cell? ⟨w.heap.size + 1, 0, none⟩ = some (.int .i64 0) := X459.out.cell 0
  have q472 : W455.cell? ⟨w.heap.size + 1, 1, none⟩ = some (.int .i64 0) := X459.out.cell 1
  have q473 : W455.cell? ⟨w.heap.size + 1, 2, none⟩ = some (.int .i64 0) := X459.out.cell 2
  have fz474 : ∀ o, W455.frozen? ⟨w.heap.size + 1, o, none⟩ = false := fun o => X459.out.free o
  go_wp2_with fail
  refine (kCheck_c p _ _ C460.out).mono ?_; rintro e v475 ⟨rfl, hb476⟩
  have X477 := Lib.hid (X458.out.later hb476)
  have X478 := Lib.hid (X459.out.later hb476)
  have C479 := Lib.hid (C460.out.later hb476)
  have B480 := Lib.hid (B457.out.trans (hb476.mono B457.out.size))
  clear hb476
  rw [HE.out]
  clear q462 q463 q464 q465 q466 q467 q468 q469 q470 q471 q472 q473 fz474
  have q481 : v475.cell? ⟨w.heap.size, 0, none⟩ = some (.int .i64 p.bed.eye) := X477.out.cell 0
  have q482 : v475.cell? ⟨w.heap.size, 1, none⟩ = some (.int .i64 p.bed.rings) := X477.out.cell 1
  have q483 : v475.cell? ⟨w.heap.size, 2, none⟩ = some (.int .i64 p.bed.sectors) := X477.out.cell 2
  have q484 : v475.cell? ⟨w.heap.size, 3, none⟩ = some (s) := X477.out.cell 3
  have q485 : v475.cell? ⟨w.heap.size, 4, none⟩ = some (.int .i64 p.run.eye) := X477.out.cell 4
  have q486 : v475.cell? ⟨w.heap.size, 5, none⟩ = some (.int .i64 p.run.rings) := X477.out.cell 5
  have q487 : v475.cell? ⟨w.heap.size, 6, none⟩ = some (.int .i64 p.run.sectors) := X477.out.cell 6
  have q488 : v475.cell? ⟨w.heap.size, 7, none⟩ = some (r) := X477.out.cell 7
  have q489 : v475.cell? ⟨w.heap.size, 8, none⟩ = some (d) := X477.out.cell 8
  have q490 : v475.cell? ⟨w.heap.size + 1, 0, none⟩ = some (.int .i64 0) := X478.out.cell 0
  have q491 : v475.cell? ⟨w.heap.size + 1, 1, none⟩ = some (.int .i64 0) := X478.out.cell 1
  have q492 : v475.cell? ⟨w.heap.size + 1, 2, none⟩ = some (.int .i64 0) := X478.out.cell 2
  have fz493 : ∀ o, v475.frozen? ⟨w.heap.size + 1, o, none⟩ = false := fun o => X478.out.free o
  go_wp2_with fail
  refine (kcount_c p _ _ C479.out (ckE_bd HE.out).1 (ckE_bd HE.out).2.1).mono ?_; rintro e v494 ⟨rfl, hb495⟩
  have X496 := Lib.hid (X477.out.later hb495)
  have X497 := Lib.hid (X478.out.later hb495)
  have C498 := Lib.hid (C479.out.later hb495)
  have B499 := Lib.hid (B480.out.trans (hb495.mono B480.out.size))
  clear hb495
  rw [HN.out]
  clear q481 q482 q483 q484 q485 q486 q487 q488 q489 q490 q491 q492 fz493
  have q500 : v494.cell? ⟨w.heap.size, 0, none⟩ = some (.int .i64 p.bed.eye) := X496.out.cell 0
  have q501 : v494.cell? ⟨w.heap.size, 1, none⟩ = some (.int .i64 p.bed.rings) := X496.out.cell 1
  have q502 : v494.cell? ⟨w.heap.size, 2, none⟩ = some (.int .i64 p.bed.sectors) := X496.out.cell 2
  have q503 : v494.cell? ⟨w.heap.size, 3, none⟩ = some (s) := X496.out.cell 3
  have q504 : v494.cell? ⟨w.heap.size, 4, none⟩ = some (.int .i64 p.run.eye) := X496.out.cell 4
  have q505 : v494.cell? ⟨w.heap.size, 5, none⟩ = some (.int .i64 p.run.rings) := X496.out.cell 5
  have q506 : v494.cell? ⟨w.heap.size, 6, none⟩ = some (.int .i64 p.run.sectors) := X496.out.cell 6
  have q507 : v494.cell? ⟨w.heap.size, 7, none⟩ = some (r) := X496.out.cell 7
  have q508 : v494.cell? ⟨w.heap.size, 8, none⟩ = some (d) := X496.out.cell 8
  have q509 : v494.cell? ⟨w.heap.size + 1, 0, none⟩ = some (.int .i64 0) := X497.out.cell 0
  have q510 : v494.cell? ⟨w.heap.size + 1, 1, none⟩ = some (.int .i64 0) := X497.out.cell 1
  have q511 : v494.cell? ⟨w.heap.size + 1, 2, none⟩ = some (.int .i64 0) := X497.out.cell 2
  have fz512 : ∀ o, v494.frozen? ⟨w.heap.size + 1, o, none⟩ = false := fun o => X497.out.free o
  go_wp2_with fail
  refine (kwithin_b i 0 (N - 1) true (by rw [inB_iff]; have := HI.out; rw [HN.out] at this; omega) _).mono ?_; rintro e v513 ⟨rfl, rfl⟩
  go_wp2_with fail
  refine (kstate_c p i _ _ C498.out HE.out HI.out).mono ?_; rintro e v514 ⟨rfl, hb515⟩
  have X516 := Lib.hid (X496.out.later hb515)
  have X517 := Lib.hid (X497.out.later hb515)
  have C518 := Lib.hid (C498.out.later hb515)
  have B519 := Lib.hid (B499.out.trans (hb515.mono B499.out.size))
  clear hb515
  obtain ⟨⟨x, y, z⟩, hs⟩ : ∃ s, stateI p i = s := ⟨_, rfl⟩
  have HS := Lib.hid hs
  rw [hs]
  clear hs
  unfold stV
  dsimp only
  clear q500 q501 q502 q503 q504 q505 q506 q507 q508 q509 q510 q511 fz512
  have q520 : v514.cell? ⟨w.heap.size, 0, none⟩ = some (.int .i64 p.bed.eye) := X516.out.cell 0
  have q521 : v514.cell? ⟨w.heap.size, 1, none⟩ = some (.int .i64 p.bed.rings) := X516.out.cell 1
  have q522 : v514.cell? ⟨w.heap.size, 2, none⟩ = some (.int .i64 p.bed.sectors) := X516.out.cell 2
  have q523 : v514.cell? ⟨w.heap.size, 3, none⟩ = some (s) := X516.out.cell 3
  have q524 : v514.cell? ⟨w.heap.size, 4, none⟩ = some (.int .i64 p.run.eye) := X516.out.cell 4
  have q525 : v514.cell? ⟨w.heap.size, 5, none⟩ = some (.int .i64 p.run.rings) := X516.out.cell 5
  have q526 : v514.cell? ⟨w.heap.size, 6, none⟩ = some (.int .i64 p.run.sectors) := X516.out.cell 6
  have q527 : v514.cell? ⟨w.heap.size, 7, none⟩ = some (r) := X516.out.cell 7
  have q528 : v514.cell? ⟨w.heap.size, 8, none⟩ = some (d) := X516.out.cell 8
  have q529 : v514.cell? ⟨w.heap.size + 1, 0, none⟩ = some (.int .i64 0) := X517.out.cell 0
  have q530 : v514.cell? ⟨w.heap.size + 1, 1, none⟩ = some (.int .i64 0) := X517.out.cell 1
  have q531 : v514.cell? ⟨w.heap.size + 1, 2, none⟩ = some (.int .i64 0) := X517.out.cell 2
  have fz532 : ∀ o, v514.frozen? ⟨w.heap.size + 1, o, none⟩ = false := fun o => X517.out.free o
  go_wp2_with fail
  (try simp only [Exit.inBlock, Exit.then])
  refine endS2 (t := 4) (u := 5) (x := .int .i64 0) (v := .tuple #[stV (stateI p i), .int .i64 0]) ?_ ?_ ?_ (((X517.out.put 0 (.int .i64 x)).put 1 (.int .i64 y)).put 2 (.int .i64 z)) (((B519.out.setCell (by first | (simp; done) | (simp; omega) | omega) _).setCell (by first | (simp; done) | (simp; omega) | omega) _).setCell (by first | (simp; done) | (simp; omega) | omega) _) ?_
  all_goals first | rfl | (rw [HS.out]; rfl)

end Go.Proofs.Ytikfiallhmhicaa

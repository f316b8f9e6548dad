/- Layer 3: the specification: what is wrong with a grain, and whether it is bitten. -/
import Derived.Test.YtikfiallhmhicaaGreatE2
import Derived.Test.YtikfiallhmhicaaGreatD4h
set_option linter.all false
namespace Go.Proofs.YtikfiallhmhicaaGreat
open Go.RowKit

set_option maxRecDepth 100000 in
set_option maxHeartbeats 8000000 in
theorem risState_c (p : Pr) (a b t : Int) (v : Value) (w : World) (h : IsPair w w.heap.size v p) (h0 : ckE p = 0) : Calls Tryz.prog 73 #[v, .agg #[.int .i64 a, .int .i64 b, .int .i64 t]] w fun e w' => e = .returned (.bool (hasB p ⟨a, b, t⟩)) ∧ Below w.heap.size w w' := by
  obtain ⟨s, r, d, rfl, -, -, -⟩ := _root_.id h
  obtain ⟨z1, z2, -⟩ := ckE_bd h0
  unfold pairV
  have w1 : IntKind.i64.wrap (p.bed.rings - 1) = p.bed.rings - 1 := wrap_id (by omega) (by omega)
  have w2 : IntKind.i64.wrap (p.bed.sectors - 1) = p.bed.sectors - 1 := wrap_id (by omega) (by omega)
  have HB0 := Lib.hid (show hasB p ⟨a, b, t⟩ = (inB a 0 (p.bed.rings - 1) && inB b 0 (p.bed.sectors - 1) && inB t 0 (p.bed.sectors - 1)) from rfl)
  clear z1 z2 h h0
  go_enter Tryz.func73, Tryz.ntmps73
  go_wp2_with fail
  obtain ⟨W1, hW2⟩ : ∃ Wzz, ((w.alloc (.cells #[.int .i64 p.bed.eye, .int .i64 p.bed.rings, .int .i64 p.bed.sectors, s, .int .i64 p.run.eye, .int .i64 p.run.rings, .int .i64 p.run.sectors, r, d] 31)).alloc (.cells #[.int .i64 a, .int .i64 b, .int .i64 t] 46)) = Wzz := ⟨_, rfl⟩
  have B3 := Lib.hid (show Below w.heap.size w W1 by rw [← hW2]; exact (((Below.refl w.heap.size w).alloc (Nat.le_refl _) _).alloc (by first | (simp; done) | (simp; omega)) _))
  have X4 := Lib.hid (show Box W1 (w.heap.size) 31 #[.int .i64 p.bed.eye, .int .i64 p.bed.rings, .int .i64 p.bed.sectors, s, .int .i64 p.run.eye, .int .i64 p.run.rings, .int .i64 p.run.sectors, r, d] by rw [← hW2]; exact Box.alloc (Box.made w 31 #[.int .i64 p.bed.eye, .int .i64 p.bed.rings, .int .i64 p.bed.sectors, s, .int .i64 p.run.eye, .int .i64 p.run.rings, .int .i64 p.run.sectors, r, d]) (.cells #[.int .i64 a, .int .i64 b, .int .i64 t] 46))
  have X5 := Lib.hid (show Box W1 (w.heap.size + 1) 46 #[.int .i64 a, .int .i64 b, .int .i64 t] by
    have hz := Box.made (w.alloc (.cells #[.int .i64 p.bed.eye, .int .i64 p.bed.rings, .int .i64 p.bed.sectors, s, .int .i64 p.run.eye, .int .i64 p.run.rings, .int .i64 p.run.sectors, r, d] 31)) 46 #[.int .i64 a, .int .i64 b, .int .i64 t]
    rw [World.size_alloc] at hz
    rw [← hW2]; exact hz)
  have SZ6 := Lib.hid (show W1.heap.size = w.heap.size + 1 + 1 by rw [← hW2]; simp)
  rw [hW2]
  clear hW2
  have q7 : W1.cell? ⟨w.heap.size, 0, none⟩ = some (.int .i64 p.bed.eye) := X4.out.cell 0
  have q8 : W1.cell? ⟨w.heap.size, 1, none⟩ = some (.int .i64 p.bed.rings) := X4.out.cell 1
  have q9 : W1.cell? ⟨w.heap.size, 2, none⟩ = some (.int .i64 p.bed.sectors) := X4.out.cell 2
  have q10 : W1.cell? ⟨w.heap.size, 3, none⟩ = some (s) := X4.out.cell 3
  have q11 : W1.cell? ⟨w.heap.size, 4, none⟩ = some (.int .i64 p.run.eye) := X4.out.cell 4
  have q12 : W1.cell? ⟨w.heap.size, 5, none⟩ = some (.int .i64 p.run.rings) := X4.out.cell 5
  have q13 : W1.cell? ⟨w.heap.size, 6, none⟩ = some (.int .i64 p.run.sectors) := X4.out.cell 6
  have q14 : W1.cell? ⟨w.heap.size, 7, none⟩ = some (r) := X4.out.cell 7
  have q15 : W1.cell? ⟨w.heap.size, 8, none⟩ = some (d) := X4.out.cell 8
  have q16 : W1.cell? ⟨w.heap.size + 1, 0, none⟩ = some (.int .i64 a) := X5.out.cell 0
  have q17 : W1.cell? ⟨w.heap.size + 1, 1, none⟩ = some (.int .i64 b) := X5.out.cell 1
  have q18 : W1.cell? ⟨w.heap.size + 1, 2, none⟩ = some (.int .i64 t) := X5.out.cell 2
  cases c0 : inB a 0 (p.bed.rings - 1)
  · have HC0 := Lib.hid c0
    have HR := Lib.hid (show hasB p ⟨a, b, t⟩ = false by rw [HB0.out, c0]; simp)
    clear c0
    go_wp2_with fail
    refine (rwithin_b a 0 (p.bed.rings - 1) false HC0.out _).mono ?_; rintro e v19 ⟨rfl, rfl⟩
    go_wp2_with fail
    go_ret
    exact ⟨ret_bool HR.out.symm, B3.out⟩
  · have HC0 := Lib.hid c0
    clear c0
    cases c1 : inB b 0 (p.bed.sectors - 1)
    · have HC1 := Lib.hid c1
      have HR := Lib.hid (show hasB p ⟨a, b, t⟩ = false by rw [HB0.out, c1]; simp)
      clear c1
      go_wp2_with fail
      refine (rwithin_b a 0 (p.bed.rings - 1) true HC0.out _).mono ?_; rintro e v20 ⟨rfl, rfl⟩
      go_wp2_with fail
      refine (rwithin_b b 0 (p.bed.sectors - 1) false HC1.out _).mono ?_; rintro e v21 ⟨rfl, rfl⟩
      go_wp2_with fail
      go_ret
      exact ⟨ret_bool HR.out.symm, B3.out⟩
    · have HC1 := Lib.hid c1
      clear c1
      cases c2 : inB t 0 (p.bed.sectors - 1)
      · have HC2 := Lib.hid c2
        have HR := Lib.hid (show hasB p ⟨a, b, t⟩ = false by rw [HB0.out, c2]; simp)
        clear c2
        go_wp2_with fail
        refine (rwithin_b a 0 (p.bed.rings - 1) true HC0.out _).mono ?_; rintro e v22 ⟨rfl, rfl⟩
        go_wp2_with fail
        refine (rwithin_b b 0 (p.bed.sectors - 1) true HC1.out _).mono ?_; rintro e v23 ⟨rfl, rfl⟩
        go_wp2_with fail
        refine (rwithin_b t 0 (p.bed.sectors - 1) false HC2.out _).mono ?_; rintro e v24 ⟨rfl, rfl⟩
        go_wp2_with fail
        go_ret
        exact ⟨ret_bool HR.out.symm, B3.out⟩
      · have HC2 := Lib.hid c2
        clear c2
        have HR := Lib.hid (show hasB p ⟨a, b, t⟩ = true by rw [HB0.out, HC0.out, HC1.out, HC2.out]; rfl)
        go_wp2_with fail
        refine (rwithin_b a 0 (p.bed.rings - 1) true HC0.out _).mono ?_; rintro e v25 ⟨rfl, rfl⟩
        go_wp2_with fail
        refine (rwithin_b b 0 (p.bed.sectors - 1) true HC1.out _).mono ?_; rintro e v26 ⟨rfl, rfl⟩
        go_wp2_with fail
        refine (rwithin_b t 0 (p.bed.sectors - 1) true HC2.out _).mono ?_; rintro e v27 ⟨rfl, rfl⟩
        go_wp2_with fail
        go_ret
        exact ⟨ret_bool HR.out.symm, B3.out⟩

set_option maxRecDepth 100000 in
set_option maxHeartbeats 8000000 in
theorem rasked_c (m : Ml) (a b t size : Int) (v : Value) (w : World) (hm : IsMill w w.heap.size v m)  : Calls Tryz.prog 48 #[v, .agg #[.int .i64 a, .int .i64 b, .int .i64 t], .int .i64 size] w fun e w' => e = .returned (.int .i64 (agE m ⟨a, b, t⟩ size)) ∧ Below w.heap.size w w' := by
  obtain ⟨s, r, d, gv, hmv, i1, i2, i3, i4⟩ := _root_.id hm
  subst hmv
  have HM0 := Lib.hid hm
  have HP0 := Lib.hid (show IsPair w w.heap.size (pairV m.pr s r d) m.pr from ⟨s, r, d, rfl, i1, i2, i3⟩)
  clear hm i1 i2 i3 i4
  unfold millV pairV at *
  go_enter Tryz.func48, Tryz.ntmps48
  go_wp2_with fail
  obtain ⟨W28, hW29⟩ : ∃ Wzz, ((w.alloc (.cells #[.int .i64 m.pr.bed.eye, .int .i64 m.pr.bed.rings, .int .i64 m.pr.bed.sectors, s, .int .i64 m.pr.run.eye, .int .i64 m.pr.run.rings, .int .i64 m.pr.run.sectors, r, d, gv] 33)).alloc (.cells #[.int .i64 a, .int .i64 b, .int .i64 t] 46)) = Wzz := ⟨_, rfl⟩
  have B30 := Lib.hid (show Below w.heap.size w W28 by rw [← hW29]; exact (((Below.refl w.heap.size w).alloc (Nat.le_refl _) _).alloc (by first | (simp; done) | (simp; omega)) _))
  have X31 := Lib.hid (show Box W28 (w.heap.size) 33 #[.int .i64 m.pr.bed.eye, .int .i64 m.pr.bed.rings, .int .i64 m.pr.bed.sectors, s, .int .i64 m.pr.run.eye, .int .i64 m.pr.run.rings, .int .i64 m.pr.run.sectors, r, d, gv] by rw [← hW29]; exact Box.alloc (Box.made w 33 #[.int .i64 m.pr.bed.eye, .int .i64 m.pr.bed.rings, .int .i64 m.pr.bed.sectors, s, .int .i64 m.pr.run.eye, .int .i64 m.pr.run.rings, .int .i64 m.pr.run.sectors, r, d, gv]) (.cells #[.int .i64 a, .int .i64 b, .int .i64 t] 46))
  have X32 := Lib.hid (show Box W28 (w.heap.size + 1) 46 #[.int .i64 a, .int .i64 b, .int .i64 t] by
    have hz := Box.made (w.alloc (.cells #[.int .i64 m.pr.bed.eye, .int .i64 m.pr.bed.rings, .int .i64 m.pr.bed.sectors, s, .int .i64 m.pr.run.eye, .int .i64 m.pr.run.rings, .int .i64 m.pr.run.sectors, r, d, gv] 33)) 46 #[.int .i64 a, .int .i64 b, .int .i64 t]
    rw [World.size_alloc] at hz
    rw [← hW29]; exact hz)
  have C33 := Lib.hid (HM0.out.later B30.out)
  have C34 := Lib.hid (HP0.out.later B30.out)
  have SZ35 := Lib.hid (show W28.heap.size = w.heap.size + 1 + 1 by rw [← hW29]; simp)
  rw [hW29]
  clear hW29
  have q36 : W28.cell? ⟨w.heap.size, 0, none⟩ = some (.int .i64 m.pr.bed.eye) := X31.out.cell 0
  have q37 : W28.cell? ⟨w.heap.size, 1, none⟩ = some (.int .i64 m.pr.bed.rings) := X31.out.cell 1
  have q38 : W28.cell? ⟨w.heap.size, 2, none⟩ = some (.int .i64 m.pr.bed.sectors) := X31.out.cell 2
  have q39 : W28.cell? ⟨w.heap.size, 3, none⟩ = some (s) := X31.out.cell 3
  have q40 : W28.cell? ⟨w.heap.size, 4, none⟩ = some (.int .i64 m.pr.run.eye) := X31.out.cell 4
  have q41 : W28.cell? ⟨w.heap.size, 5, none⟩ = some (.int .i64 m.pr.run.rings) := X31.out.cell 5
  have q42 : W28.cell? ⟨w.heap.size, 6, none⟩ = some (.int .i64 m.pr.run.sectors) := X31.out.cell 6
  have q43 : W28.cell? ⟨w.heap.size, 7, none⟩ = some (r) := X31.out.cell 7
  have q44 : W28.cell? ⟨w.heap.size, 8, none⟩ = some (d) := X31.out.cell 8
  have q45 : W28.cell? ⟨w.heap.size, 9, none⟩ = some (gv) := X31.out.cell 9
  have q46 : W28.cell? ⟨w.heap.size + 1, 0, none⟩ = some (.int .i64 a) := X32.out.cell 0
  have q47 : W28.cell? ⟨w.heap.size + 1, 1, none⟩ = some (.int .i64 b) := X32.out.cell 1
  have q48 : W28.cell? ⟨w.heap.size + 1, 2, none⟩ = some (.int .i64 t) := X32.out.cell 2
  go_wp2_with fail
  refine (rCheckMill_c m _ _ C33.out).mono ?_; rintro e v49 ⟨rfl, hb50⟩
  have X51 := Lib.hid (X31.out.later hb50)
  have X52 := Lib.hid (X32.out.later hb50)
  have C53 := Lib.hid (C33.out.later hb50)
  have C54 := Lib.hid (C34.out.later hb50)
  have B55 := Lib.hid (B30.out.trans (hb50.mono B30.out.size))
  clear hb50
  clear q36 q37 q38 q39 q40 q41 q42 q43 q44 q45 q46 q47 q48
  have q56 : v49.cell? ⟨w.heap.size, 0, none⟩ = some (.int .i64 m.pr.bed.eye) := X51.out.cell 0
  have q57 : v49.cell? ⟨w.heap.size, 1, none⟩ = some (.int .i64 m.pr.bed.rings) := X51.out.cell 1
  have q58 : v49.cell? ⟨w.heap.size, 2, none⟩ = some (.int .i64 m.pr.bed.sectors) := X51.out.cell 2
  have q59 : v49.cell? ⟨w.heap.size, 3, none⟩ = some (s) := X51.out.cell 3
  have q60 : v49.cell? ⟨w.heap.size, 4, none⟩ = some (.int .i64 m.pr.run.eye) := X51.out.cell 4
  have q61 : v49.cell? ⟨w.heap.size, 5, none⟩ = some (.int .i64 m.pr.run.rings) := X51.out.cell 5
  have q62 : v49.cell? ⟨w.heap.size, 6, none⟩ = some (.int .i64 m.pr.run.sectors) := X51.out.cell 6
  have q63 : v49.cell? ⟨w.heap.size, 7, none⟩ = some (r) := X51.out.cell 7
  have q64 : v49.cell? ⟨w.heap.size, 8, none⟩ = some (d) := X51.out.cell 8
  have q65 : v49.cell? ⟨w.heap.size, 9, none⟩ = some (gv) := X51.out.cell 9
  have q66 : v49.cell? ⟨w.heap.size + 1, 0, none⟩ = some (.int .i64 a) := X52.out.cell 0
  have q67 : v49.cell? ⟨w.heap.size + 1, 1, none⟩ = some (.int .i64 b) := X52.out.cell 1
  have q68 : v49.cell? ⟨w.heap.size + 1, 2, none⟩ = some (.int .i64 t) := X52.out.cell 2
  by_cases hz : ckM m = 0; rotate_left
  · have HR := Lib.hid (show agE m ⟨a, b, t⟩ size = ckM m by unfold agE; rw [if_neg hz])
    have n1 : (ckM m != 0) = true := by simpa using hz
    have n2 : decide (ckM m = 0) = false := by simpa using hz
    clear hz
    go_wp2_with fail
    go_ret
    exact ⟨ret_int HR.out.symm, B55.out⟩
  · have HZ := Lib.hid hz
    rw [hz]
    clear hz
    go_wp2_with fail
    refine (risState_c m.pr a b t _ _ C54.out (ckM_zero HZ.out).1).mono ?_; rintro e v69 ⟨rfl, hb70⟩
    have X71 := Lib.hid (X51.out.later hb70)
    have X72 := Lib.hid (X52.out.later hb70)
    have C73 := Lib.hid (C53.out.later hb70)
    have C74 := Lib.hid (C54.out.later hb70)
    have B75 := Lib.hid (B55.out.trans (hb70.mono B55.out.size))
    clear hb70
    clear q56 q57 q58 q59 q60 q61 q62 q63 q64 q65 q66 q67 q68
    have q76 : v69.cell? ⟨w.heap.size, 0, none⟩ = some (.int .i64 m.pr.bed.eye) := X71.out.cell 0
    have q77 : v69.cell? ⟨w.heap.size, 1, none⟩ = some (.int .i64 m.pr.bed.rings) := X71.out.cell 1
    have q78 : v69.cell? ⟨w.heap.size, 2, none⟩ = some (.int .i64 m.pr.bed.sectors) := X71.out.cell 2
    have q79 : v69.cell? ⟨w.heap.size, 3, none⟩ = some (s) := X71.out.cell 3
    have q80 : v69.cell? ⟨w.heap.size, 4, none⟩ = some (.int .i64 m.pr.run.eye) := X71.out.cell 4
    have q81 : v69.cell? ⟨w.heap.size, 5, none⟩ = some (.int .i64 m.pr.run.rings) := X71.out.cell 5
    have q82 : v69.cell? ⟨w.heap.size, 6, none⟩ = some (.int .i64 m.pr.run.sectors) := X71.out.cell 6
    have q83 : v69.cell? ⟨w.heap.size, 7, none⟩ = some (r) := X71.out.cell 7
    have q84 : v69.cell? ⟨w.heap.size, 8, none⟩ = some (d) := X71.out.cell 8
    have q85 : v69.cell? ⟨w.heap.size, 9, none⟩ = some (gv) := X71.out.cell 9
    have q86 : v69.cell? ⟨w.heap.size + 1, 0, none⟩ = some (.int .i64 a) := X72.out.cell 0
    have q87 : v69.cell? ⟨w.heap.size + 1, 1, none⟩ = some (.int .i64 b) := X72.out.cell 1
    have q88 : v69.cell? ⟨w.heap.size + 1, 2, none⟩ = some (.int .i64 t) := X72.out.cell 2
    cases hb : hasB m.pr ⟨a, b, t⟩
    · have HR := Lib.hid (show agE m ⟨a, b, t⟩ size = 21 by unfold agE; rw [if_pos HZ.out, hb]; rfl)
      clear hb
      go_wp2_with fail
      go_ret
      exact ⟨ret_int HR.out.symm, B75.out⟩
    · have HR9 := Lib.hid (show agE m ⟨a, b, t⟩ size = if inB size 1 4095 then 0 else 1 by unfold agE; rw [if_pos HZ.out, hb]; rfl)
      clear hb
      cases hq : inB size 1 4095
      · have HR := Lib.hid (show agE m ⟨a, b, t⟩ size = 1 by rw [HR9.out, hq]; rfl)
        have HQ := Lib.hid hq
        clear hq
        go_wp2_with fail
        refine (rwithin_b size 1 4095 false HQ.out _).mono ?_; rintro e v89 ⟨rfl, rfl⟩
        go_wp2_with fail
        go_ret
        exact ⟨ret_int HR.out.symm, B75.out⟩
      · have HR := Lib.hid (show agE m ⟨a, b, t⟩ size = 0 by rw [HR9.out, hq]; rfl)
        have HQ := Lib.hid hq
        clear hq
        go_wp2_with fail
        refine (rwithin_b size 1 4095 true HQ.out _).mono ?_; rintro e v90 ⟨rfl, rfl⟩
        go_wp2_with fail
        go_ret
        exact ⟨ret_int HR.out.symm, B75.out⟩

set_option maxRecDepth 100000 in
set_option maxHeartbeats 8000000 in
theorem rbitten_c (m : Ml) (a b t size : Int) (v : Value) (w : World) (hm : IsMill w w.heap.size v m) (h0 : ckM m = 0) (hs : hasB m.pr ⟨a, b, t⟩ = true) : Calls Tryz.prog 49 #[v, .agg #[.int .i64 a, .int .i64 b, .int .i64 t], .int .i64 size] w fun e w' => e = .returned (.bool (bitesB m ⟨a, b, t⟩ size)) ∧ Below w.heap.size w w' := by
  obtain ⟨n, q1, q2, q3, -, -⟩ := gap_bd h0 hs
  obtain ⟨s, r, d, gv, rfl, -, -, -, -, A, gc, rfl, -, hc⟩ := hm
  obtain ⟨gb, go_, rfl, hlt, hcc⟩ := hc (by omega)
  have y2 := hcc n q2
  obtain ⟨hR, hS, -⟩ := ckE_bd (ckM_zero h0).1
  obtain ⟨c1, c2, c3⟩ := hasB_parts.1 hs
  dsimp only at c1 c2 c3
  obtain ⟨⟨m1, m2⟩, m3, m4⟩ := cells_bd hS hR.2 c1 c2
  obtain ⟨m7, m8⟩ := mul_bd (a := m.pr.bed.rings) (b := m.pr.bed.sectors) (m := 24) (n := 96) (by omega) (by omega) (by omega) (by omega)
  have q1' : a * m.pr.bed.sectors + b = (n : Int) := q1
  obtain ⟨x, hx⟩ : ∃ x, a * m.pr.bed.sectors = x := ⟨_, rfl⟩
  have v1 : IntKind.i64.wrap (a * m.pr.bed.sectors) = x := by rw [hx]; exact wrap_id (by omega) (by omega)
  rw [hx] at q1'
  have v2 : IntKind.i64.wrap (x + b) = (n : Int) := by rw [q1']; exact wrap_id (by omega) (by omega)
  obtain ⟨gn, hgn⟩ : ∃ k, m.gap.length = k := ⟨_, rfl⟩
  obtain ⟨z, hz⟩ : ∃ k, nth m.gap n = k := ⟨_, rfl⟩
  rw [hz] at y2 q3
  unfold millV
  rw [hgn] at q2 ⊢
  have HLT := Lib.hid hlt
  have YE := Lib.hid y2
  have A0 : ∀ o o2, ((w.alloc o).alloc o2).cell? ⟨gb, go_ + n, none⟩ = some (.int .i64 z) := fun o o2 => keepd y2 (((Below.refl _ _).alloc (Nat.le_refl _) _).alloc (by simp) _) hlt
  have HV := Lib.hid (show bitesB m ⟨a, b, t⟩ size = decide (z < size) by unfold bitesB; rw [q3])
  have i0 : (0 : Int) ≤ (n : Int) := Int.natCast_nonneg _
  have i1 : (n : Int) < (gn : Int) := by omega
  clear h0 hs hR hS c1 c2 c3 q1 q2 q3 q1' y2 hc hcc hlt hgn hz hx m1 m2 m3 m4 m7 m8
  go_enter Tryz.func49, Tryz.ntmps49
  go_wp2_with fail
  obtain ⟨W91, hW92⟩ : ∃ Wzz, ((w.alloc (.cells #[.int .i64 m.pr.bed.eye, .int .i64 m.pr.bed.rings, .int .i64 m.pr.bed.sectors, s, .int .i64 m.pr.run.eye, .int .i64 m.pr.run.rings, .int .i64 m.pr.run.sectors, r, d, .slice (some ⟨gb, go_, none⟩) gn gc] 33)).alloc (.cells #[.int .i64 a, .int .i64 b, .int .i64 t] 46)) = Wzz := ⟨_, rfl⟩
  have B93 := Lib.hid (show Below w.heap.size w W91 by rw [← hW92]; exact (((Below.refl w.heap.size w).alloc (Nat.le_refl _) _).alloc (by first | (simp; done) | (simp; omega)) _))
  have X94 := Lib.hid (show Box W91 (w.heap.size) 33 #[.int .i64 m.pr.bed.eye, .int .i64 m.pr.bed.rings, .int .i64 m.pr.bed.sectors, s, .int .i64 m.pr.run.eye, .int .i64 m.pr.run.rings, .int .i64 m.pr.run.sectors, r, d, .slice (some ⟨gb, go_, none⟩) gn gc] by rw [← hW92]; exact Box.alloc (Box.made w 33 #[.int .i64 m.pr.bed.eye, .int .i64 m.pr.bed.rings, .int .i64 m.pr.bed.sectors, s, .int .i64 m.pr.run.eye, .int .i64 m.pr.run.rings, .int .i64 m.pr.run.sectors, r, d, .slice (some ⟨gb, go_, none⟩) gn gc]) (.cells #[.int .i64 a, .int .i64 b, .int .i64 t] 46))
  have X95 := Lib.hid (show Box W91 (w.heap.size + 1) 46 #[.int .i64 a, .int .i64 b, .int .i64 t] by
    have hz := Box.made (w.alloc (.cells #[.int .i64 m.pr.bed.eye, .int .i64 m.pr.bed.rings, .int .i64 m.pr.bed.sectors, s, .int .i64 m.pr.run.eye, .int .i64 m.pr.run.rings, .int .i64 m.pr.run.sectors, r, d, .slice (some ⟨gb, go_, none⟩) gn gc] 33)) 46 #[.int .i64 a, .int .i64 b, .int .i64 t]
    rw [World.size_alloc] at hz
    rw [← hW92]; exact hz)
  have SZ96 := Lib.hid (show W91.heap.size = w.heap.size + 1 + 1 by rw [← hW92]; simp)
  rw [hW92]
  clear hW92
  have q97 : W91.cell? ⟨w.heap.size, 0, none⟩ = some (.int .i64 m.pr.bed.eye) := X94.out.cell 0
  have q98 : W91.cell? ⟨w.heap.size, 1, none⟩ = some (.int .i64 m.pr.bed.rings) := X94.out.cell 1
  have q99 : W91.cell? ⟨w.heap.size, 2, none⟩ = some (.int .i64 m.pr.bed.sectors) := X94.out.cell 2
  have q100 : W91.cell? ⟨w.heap.size, 3, none⟩ = some (s) := X94.out.cell 3
  have q101 : W91.cell? ⟨w.heap.size, 4, none⟩ = some (.int .i64 m.pr.run.eye) := X94.out.cell 4
  have q102 : W91.cell? ⟨w.heap.size, 5, none⟩ = some (.int .i64 m.pr.run.rings) := X94.out.cell 5
  have q103 : W91.cell? ⟨w.heap.size, 6, none⟩ = some (.int .i64 m.pr.run.sectors) := X94.out.cell 6
  have q104 : W91.cell? ⟨w.heap.size, 7, none⟩ = some (r) := X94.out.cell 7
  have q105 : W91.cell? ⟨w.heap.size, 8, none⟩ = some (d) := X94.out.cell 8
  have q106 : W91.cell? ⟨w.heap.size, 9, none⟩ = some (.slice (some ⟨gb, go_, none⟩) gn gc) := X94.out.cell 9
  have q107 : W91.cell? ⟨w.heap.size + 1, 0, none⟩ = some (.int .i64 a) := X95.out.cell 0
  have q108 : W91.cell? ⟨w.heap.size + 1, 1, none⟩ = some (.int .i64 b) := X95.out.cell 1
  have q109 : W91.cell? ⟨w.heap.size + 1, 2, none⟩ = some (.int .i64 t) := X95.out.cell 2
  try go_wp2_with fail
  go_ret
  exact ⟨ret_bool HV.out.symm, B93.out⟩

set_option maxRecDepth 100000 in
set_option maxHeartbeats 8000000 in
theorem rBites_bad (m : Ml) (a b t size cuts : Int) (v : Value) (w : World) (hm : IsMill w w.heap.size v m) (h0 : grE m ⟨a, b, t⟩ size cuts ≠ 0) : Calls Tryz.prog 17 #[v, .agg #[.int .i64 a, .int .i64 b, .int .i64 t, .int .i64 size, .int .i64 cuts]] w fun e w' => e = .returned (.tuple #[.bool false, .int .i64 (grE m ⟨a, b, t⟩ size cuts)]) ∧ Below w.heap.size w w' := by
  obtain ⟨s, r, d, gv, hmv, i1, i2, i3, i4⟩ := _root_.id hm
  subst hmv
  have HM0 := Lib.hid hm
  have HP0 := Lib.hid (show IsPair w w.heap.size (pairV m.pr s r d) m.pr from ⟨s, r, d, rfl, i1, i2, i3⟩)
  clear hm i1 i2 i3 i4
  unfold millV pairV at *
  have HE := Lib.hid h0
  clear h0
  go_enter Tryz.func17, Tryz.ntmps17
  go_wp2_with fail
  obtain ⟨W110, hW111⟩ : ∃ Wzz, ((w.alloc (.cells #[.int .i64 m.pr.bed.eye, .int .i64 m.pr.bed.rings, .int .i64 m.pr.bed.sectors, s, .int .i64 m.pr.run.eye, .int .i64 m.pr.run.rings, .int .i64 m.pr.run.sectors, r, d, gv] 33)).alloc (.cells #[.int .i64 a, .int .i64 b, .int .i64 t, .int .i64 size, .int .i64 cuts] 48)) = Wzz := ⟨_, rfl⟩
  have B112 := Lib.hid (show Below w.heap.size w W110 by rw [← hW111]; exact (((Below.refl w.heap.size w).alloc (Nat.le_refl _) _).alloc (by first | (simp; done) | (simp; omega)) _))
  have X113 := Lib.hid (show Box W110 (w.heap.size) 33 #[.int .i64 m.pr.bed.eye, .int .i64 m.pr.bed.rings, .int .i64 m.pr.bed.sectors, s, .int .i64 m.pr.run.eye, .int .i64 m.pr.run.rings, .int .i64 m.pr.run.sectors, r, d, gv] by rw [← hW111]; exact Box.alloc (Box.made w 33 #[.int .i64 m.pr.bed.eye, .int .i64 m.pr.bed.rings, .int .i64 m.pr.bed.sectors, s, .int .i64 m.pr.run.eye, .int .i64 m.pr.run.rings, .int .i64 m.pr.run.sectors, r, d, gv]) (.cells #[.int .i64 a, .int .i64 b, .int .i64 t, .int .i64 size, .int .i64 cuts] 48))
  have X114 := Lib.hid (show Box W110 (w.heap.size + 1) 48 #[.int .i64 a, .int .i64 b, .int .i64 t, .int .i64 size, .int .i64 cuts] by
    have hz := Box.made (w.alloc (.cells #[.int .i64 m.pr.bed.eye, .int .i64 m.pr.bed.rings, .int .i64 m.pr.bed.sectors, s, .int .i64 m.pr.run.eye, .int .i64 m.pr.run.rings, .int .i64 m.pr.run.sectors, r, d, gv] 33)) 48 #[.int .i64 a, .int .i64 b, .int .i64 t, .int .i64 size, .int .i64 cuts]
    rw [World.size_alloc] at hz
    rw [← hW111]; exact hz)
  have C115 := Lib.hid (HM0.out.later B112.out)
  have C116 := Lib.hid (HP0.out.later B112.out)
  have SZ117 := Lib.hid (show W110.heap.size = w.heap.size + 1 + 1 by rw [← hW111]; simp)
  rw [hW111]
  clear hW111
  have q118 : W110.cell? ⟨w.heap.size, 0, none⟩ = some (.int .i64 m.pr.bed.eye) := X113.out.cell 0
  have q119 : W110.cell? ⟨w.heap.size, 1, none⟩ = some (.int .i64 m.pr.bed.rings) := X113.out.cell 1
  have q120 : W110.cell? ⟨w.heap.size, 2, none⟩ = some (.int .i64 m.pr.bed.sectors) := X113.out.cell 2
  have q121 : W110.cell? ⟨w.heap.size, 3, none⟩ = some (s) := X113.out.cell 3
  have q122 : W110.cell? ⟨w.heap.size, 4, none⟩ = some (.int .i64 m.pr.run.eye) := X113.out.cell 4
  have q123 : W110.cell? ⟨w.heap.size, 5, none⟩ = some (.int .i64 m.pr.run.rings) := X113.out.cell 5
  have q124 : W110.cell? ⟨w.heap.size, 6, none⟩ = some (.int .i64 m.pr.run.sectors) := X113.out.cell 6
  have q125 : W110.cell? ⟨w.heap.size, 7, none⟩ = some (r) := X113.out.cell 7
  have q126 : W110.cell? ⟨w.heap.size, 8, none⟩ = some (d) := X113.out.cell 8
  have q127 : W110.cell? ⟨w.heap.size, 9, none⟩ = some (gv) := X113.out.cell 9
  have q128 : W110.cell? ⟨w.heap.size + 1, 0, none⟩ = some (.int .i64 a) := X114.out.cell 0
  have q129 : W110.cell? ⟨w.heap.size + 1, 1, none⟩ = some (.int .i64 b) := X114.out.cell 1
  have q130 : W110.cell? ⟨w.heap.size + 1, 2, none⟩ = some (.int .i64 t) := X114.out.cell 2
  have q131 : W110.cell? ⟨w.heap.size + 1, 3, none⟩ = some (.int .i64 size) := X114.out.cell 3
  have q132 : W110.cell? ⟨w.heap.size + 1, 4, none⟩ = some (.int .i64 cuts) := X114.out.cell 4
  go_wp2_with fail
  refine (rasked_c m a b t size _ _ C115.out).mono ?_; rintro e v133 ⟨rfl, hb134⟩
  have X135 := Lib.hid (X113.out.later hb134)
  have X136 := Lib.hid (X114.out.later hb134)
  have C137 := Lib.hid (C115.out.later hb134)
  have C138 := Lib.hid (C116.out.later hb134)
  have B139 := Lib.hid (B112.out.trans (hb134.mono B112.out.size))
  clear hb134
  clear q118 q119 q120 q121 q122 q123 q124 q125 q126 q127 q128 q129 q130 q131 q132
  have q140 : v133.cell? ⟨w.heap.size, 0, none⟩ = some (.int .i64 m.pr.bed.eye) := X135.out.cell 0
  have q141 : v133.cell? ⟨w.heap.size, 1, none⟩ = some (.int .i64 m.pr.bed.rings) := X135.out.cell 1
  have q142 : v133.cell? ⟨w.heap.size, 2, none⟩ = some (.int .i64 m.pr.bed.sectors) := X135.out.cell 2
  have q143 : v133.cell? ⟨w.heap.size, 3, none⟩ = some (s) := X135.out.cell 3
  have q144 : v133.cell? ⟨w.heap.size, 4, none⟩ = some (.int .i64 m.pr.run.eye) := X135.out.cell 4
  have q145 : v133.cell? ⟨w.heap.size, 5, none⟩ = some (.int .i64 m.pr.run.rings) := X135.out.cell 5
  have q146 : v133.cell? ⟨w.heap.size, 6, none⟩ = some (.int .i64 m.pr.run.sectors) := X135.out.cell 6
  have q147 : v133.cell? ⟨w.heap.size, 7, none⟩ = some (r) := X135.out.cell 7
  have q148 : v133.cell? ⟨w.heap.size, 8, none⟩ = some (d) := X135.out.cell 8
  have q149 : v133.cell? ⟨w.heap.size, 9, none⟩ = some (gv) := X135.out.cell 9
  have q150 : v133.cell? ⟨w.heap.size + 1, 0, none⟩ = some (.int .i64 a) := X136.out.cell 0
  have q151 : v133.cell? ⟨w.heap.size + 1, 1, none⟩ = some (.int .i64 b) := X136.out.cell 1
  have q152 : v133.cell? ⟨w.heap.size + 1, 2, none⟩ = some (.int .i64 t) := X136.out.cell 2
  have q153 : v133.cell? ⟨w.heap.size + 1, 3, none⟩ = some (.int .i64 size) := X136.out.cell 3
  have q154 : v133.cell? ⟨w.heap.size + 1, 4, none⟩ = some (.int .i64 cuts) := X136.out.cell 4
  by_cases hz : agE m ⟨a, b, t⟩ size = 0; rotate_left
  · have HR := Lib.hid (show grE m ⟨a, b, t⟩ size cuts = agE m ⟨a, b, t⟩ size by unfold grE; rw [if_neg hz])
    have n1 : (agE m ⟨a, b, t⟩ size != 0) = true := by simpa using hz
    have n2 : decide (agE m ⟨a, b, t⟩ size = 0) = false := by simpa using hz
    have n3 : (agE m ⟨a, b, t⟩ size == 0) = false := by simpa using hz
    clear hz
    go_wp2_with fail
    go_ret2
    exact ⟨by rw [HR.out] <;> rfl, B139.out⟩
  · have HZ := Lib.hid hz
    have hq : inB cuts 0 70000 = false := by
      cases hq : inB cuts 0 70000
      · rfl
      · exact absurd (show grE m ⟨a, b, t⟩ size cuts = 0 by unfold grE; rw [if_pos hz, hq]; rfl) HE.out
    have HR := Lib.hid (show grE m ⟨a, b, t⟩ size cuts = 1 by unfold grE; rw [if_pos hz, hq]; rfl)
    have HQ := Lib.hid hq
    rw [hz]
    clear hz hq
    go_wp2_with fail
    refine (rwithin_b cuts 0 70000 false HQ.out _).mono ?_; rintro e v155 ⟨rfl, rfl⟩
    go_wp2_with fail
    go_ret2
    exact ⟨by rw [HR.out] <;> rfl, B139.out⟩

set_option maxRecDepth 100000 in
set_option maxHeartbeats 8000000 in
theorem rBites_ok (m : Ml) (a b t size cuts : Int) (v : Value) (w : World) (hm : IsMill w w.heap.size v m) (h0 : grE m ⟨a, b, t⟩ size cuts = 0) : Calls Tryz.prog 17 #[v, .agg #[.int .i64 a, .int .i64 b, .int .i64 t, .int .i64 size, .int .i64 cuts]] w fun e w' => e = .returned (.tuple #[.bool (bitesB m ⟨a, b, t⟩ size), .int .i64 0]) ∧ Below w.heap.size w w' := by
  obtain ⟨s, r, d, gv, hmv, i1, i2, i3, i4⟩ := _root_.id hm
  subst hmv
  have HM0 := Lib.hid hm
  have HP0 := Lib.hid (show IsPair w w.heap.size (pairV m.pr s r d) m.pr from ⟨s, r, d, rfl, i1, i2, i3⟩)
  clear hm i1 i2 i3 i4
  unfold millV pairV at *
  have HE := Lib.hid h0
  clear h0
  go_enter Tryz.func17, Tryz.ntmps17
  go_wp2_with fail
  obtain ⟨W156, hW157⟩ : ∃ Wzz, ((w.alloc (.cells #[.int .i64 m.pr.bed.eye, .int .i64 m.pr.bed.rings, .int .i64 m.pr.bed.sectors, s, .int .i64 m.pr.run.eye, .int .i64 m.pr.run.rings, .int .i64 m.pr.run.sectors, r, d, gv] 33)).alloc (.cells #[.int .i64 a, .int .i64 b, .int .i64 t, .int .i64 size, .int .i64 cuts] 48)) = Wzz := ⟨_, rfl⟩
  have B158 := Lib.hid (show Below w.heap.size w W156 by rw [← hW157]; exact (((Below.refl w.heap.size w).alloc (Nat.le_refl _) _).alloc (by first | (simp; done) | (simp; omega)) _))
  have X159 := Lib.hid (show Box W156 (w.heap.size) 33 #[.int .i64 m.pr.bed.eye, .int .i64 m.pr.bed.rings, .int .i64 m.pr.bed.sectors, s, .int .i64 m.pr.run.eye, .int .i64 m.pr.run.rings, .int .i64 m.pr.run.sectors, r, d, gv] by rw [← hW157]; exact Box.alloc (Box.made w 33 #[.int .i64 m.pr.bed.eye, .int .i64 m.pr.bed.rings, .int .i64 m.pr.bed.sectors, s, .int .i64 m.pr.run.eye, .int .i64 m.pr.run.rings, .int .i64 m.pr.run.sectors, r, d, gv]) (.cells #[.int .i64 a, .int .i64 b, .int .i64 t, .int .i64 size, .int .i64 cuts] 48))
  have X160 := Lib.hid (show Box W156 (w.heap.size + 1) 48 #[.int .i64 a, .int .i64 b, .int .i64 t, .int .i64 size, .int .i64 cuts] by
    have hz := Box.made (w.alloc (.cells #[.int .i64 m.pr.bed.eye, .int .i64 m.pr.bed.rings, .int .i64 m.pr.bed.sectors, s, .int .i64 m.pr.run.eye, .int .i64 m.pr.run.rings, .int .i64 m.pr.run.sectors, r, d, gv] 33)) 48 #[.int .i64 a, .int .i64 b, .int .i64 t, .int .i64 size, .int .i64 cuts]
    rw [World.size_alloc] at hz
    rw [← hW157]; exact hz)
  have C161 := Lib.hid (HM0.out.later B158.out)
  have C162 := Lib.hid (HP0.out.later B158.out)
  have SZ163 := Lib.hid (show W156.heap.size = w.heap.size + 1 + 1 by rw [← hW157]; simp)
  rw [hW157]
  clear hW157
  have q164 : W156.cell? ⟨w.heap.size, 0, none⟩ = some (.int .i64 m.pr.bed.eye) := X159.out.cell 0
  have q165 : W156.cell? ⟨w.heap.size, 1, none⟩ = some (.int .i64 m.pr.bed.rings) := X159.out.cell 1
  have q166 : W156.cell? ⟨w.heap.size, 2, none⟩ = some (.int .i64 m.pr.bed.sectors) := X159.out.cell 2
  have q167 : W156.cell? ⟨w.heap.size, 3, none⟩ = some (s) := X159.out.cell 3
  have q168 : W156.cell? ⟨w.heap.size, 4, none⟩ = some (.int .i64 m.pr.run.eye) := X159.out.cell 4
  have q169 : W156.cell? ⟨w.heap.size, 5, none⟩ = some (.int .i64 m.pr.run.rings) := X159.out.cell 5
  have q170 : W156.cell? ⟨w.heap.size, 6, none⟩ = some (.int .i64 m.pr.run.sectors) := X159.out.cell 6
  have q171 : W156.cell? ⟨w.heap.size, 7, none⟩ = some (r) := X159.out.cell 7
  have q172 : W156.cell? ⟨w.heap.size, 8, none⟩ = some (d) := X159.out.cell 8
  have q173 : W156.cell? ⟨w.heap.size, 9, none⟩ = some (gv) := X159.out.cell 9
  have q174 : W156.cell? ⟨w.heap.size + 1, 0, none⟩ = some (.int .i64 a) := X160.out.cell 0
  have q175 : W156.cell? ⟨w.heap.size + 1, 1, none⟩ = some (.int .i64 b) := X160.out.cell 1
  have q176 : W156.cell? ⟨w.heap.size + 1, 2, none⟩ = some (.int .i64 t) := X160.out.cell 2
  have q177 : W156.cell? ⟨w.heap.size + 1, 3, none⟩ = some (.int .i64 size) := X160.out.cell 3
  have q178 : W156.cell? ⟨w.heap.size + 1, 4, none⟩ = some (.int .i64 cuts) := X160.out.cell 4
  go_wp2_with fail
  refine (rasked_c m a b t size _ _ C161.out).mono ?_; rintro e v179 ⟨rfl, hb180⟩
  have X181 := Lib.hid (X159.out.later hb180)
  have X182 := Lib.hid (X160.out.later hb180)
  have C183 := Lib.hid (C161.out.later hb180)
  have C184 := Lib.hid (C162.out.later hb180)
  have B185 := Lib.hid (B158.out.trans (hb180.mono B158.out.size))
  clear hb180
  rw [(grE_zero HE.out).1]
  clear q164 q165 q166 q167 q168 q169 q170 q171 q172 q173 q174 q175 q176 q177 q178
  have q186 : v179.cell? ⟨w.heap.size, 0, none⟩ = some (.int .i64 m.pr.bed.eye) := X181.out.cell 0
  have q187 : v179.cell? ⟨w.heap.size, 1, none⟩ = some (.int .i64 m.pr.bed.rings) := X181.out.cell 1
  have q188 : v179.cell? ⟨w.heap.size, 2, none⟩ = some (.int .i64 m.pr.bed.sectors) := X181.out.cell 2
  have q189 : v179.cell? ⟨w.heap.size, 3, none⟩ = some (s) := X181.out.cell 3
  have q190 : v179.cell? ⟨w.heap.size, 4, none⟩ = some (.int .i64 m.pr.run.eye) := X181.out.cell 4
  have q191 : v179.cell? ⟨w.heap.size, 5, none⟩ = some (.int .i64 m.pr.run.rings) := X181.out.cell 5
  have q192 : v179.cell? ⟨w.heap.size, 6, none⟩ = some (.int .i64 m.pr.run.sectors) := X181.out.cell 6
  have q193 : v179.cell? ⟨w.heap.size, 7, none⟩ = some (r) := X181.out.cell 7
  have q194 : v179.cell? ⟨w.heap.size, 8, none⟩ = some (d) := X181.out.cell 8
  have q195 : v179.cell? ⟨w.heap.size, 9, none⟩ = some (gv) := X181.out.cell 9
  have q196 : v179.cell? ⟨w.heap.size + 1, 0, none⟩ = some (.int .i64 a) := X182.out.cell 0
  have q197 : v179.cell? ⟨w.heap.size + 1, 1, none⟩ = some (.int .i64 b) := X182.out.cell 1
  have q198 : v179.cell? ⟨w.heap.size + 1, 2, none⟩ = some (.int .i64 t) := X182.out.cell 2
  have q199 : v179.cell? ⟨w.heap.size + 1, 3, none⟩ = some (.int .i64 size) := X182.out.cell 3
  have q200 : v179.cell? ⟨w.heap.size + 1, 4, none⟩ = some (.int .i64 cuts) := X182.out.cell 4
  go_wp2_with fail
  refine (rwithin_b cuts 0 70000 true (grE_zero HE.out).2 _).mono ?_; rintro e v201 ⟨rfl, rfl⟩
  go_wp2_with fail
  refine (rbitten_c m a b t size _ _ C183.out (agE_zero (grE_zero HE.out).1).1 (agE_zero (grE_zero HE.out).1).2.1).mono ?_; rintro e v202 ⟨rfl, hb203⟩
  have X204 := Lib.hid (X181.out.later hb203)
  have X205 := Lib.hid (X182.out.later hb203)
  have C206 := Lib.hid (C183.out.later hb203)
  have C207 := Lib.hid (C184.out.later hb203)
  have B208 := Lib.hid (B185.out.trans (hb203.mono B185.out.size))
  clear hb203
  clear q186 q187 q188 q189 q190 q191 q192 q193 q194 q195 q196 q197 q198 q199 q200
  have q209 : v202.cell? ⟨w.heap.size, 0, none⟩ = some (.int .i64 m.pr.bed.eye) := X204.out.cell 0
  have q210 : v202.cell? ⟨w.heap.size, 1, none⟩ = some (.int .i64 m.pr.bed.rings) := X204.out.cell 1
  have q211 : v202.cell? ⟨w.heap.size, 2, none⟩ = some (.int .i64 m.pr.bed.sectors) := X204.out.cell 2
  have q212 : v202.cell? ⟨w.heap.size, 3, none⟩ = some (s) := X204.out.cell 3
  have q213 : v202.cell? ⟨w.heap.size, 4, none⟩ = some (.int .i64 m.pr.run.eye) := X204.out.cell 4
  have q214 : v202.cell? ⟨w.heap.size, 5, none⟩ = some (.int .i64 m.pr.run.rings) := X204.out.cell 5
  have q215 : v202.cell? ⟨w.heap.size, 6, none⟩ = some (.int .i64 m.pr.run.sectors) := X204.out.cell 6
  have q216 : v202.cell? ⟨w.heap.size, 7, none⟩ = some (r) := X204.out.cell 7
  have q217 : v202.cell? ⟨w.heap.size, 8, none⟩ = some (d) := X204.out.cell 8
  have q218 : v202.cell? ⟨w.heap.size, 9, none⟩ = some (gv) := X204.out.cell 9
  have q219 : v202.cell? ⟨w.heap.size + 1, 0, none⟩ = some (.int .i64 a) := X205.out.cell 0
  have q220 : v202.cell? ⟨w.heap.size + 1, 1, none⟩ = some (.int .i64 b) := X205.out.cell 1
  have q221 : v202.cell? ⟨w.heap.size + 1, 2, none⟩ = some (.int .i64 t) := X205.out.cell 2
  have q222 : v202.cell? ⟨w.heap.size + 1, 3, none⟩ = some (.int .i64 size) := X205.out.cell 3
  have q223 : v202.cell? ⟨w.heap.size + 1, 4, none⟩ = some (.int .i64 cuts) := X205.out.cell 4
  go_wp2_with fail
  go_ret2
  exact ⟨rfl, B208.out⟩

end Go.Proofs.YtikfiallhmhicaaGreat

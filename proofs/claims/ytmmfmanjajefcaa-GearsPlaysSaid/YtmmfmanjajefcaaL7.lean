/- Layer 7: lowest terms, products, sums and comparisons of ratios, as the specification has them. -/
import Derived.Test.YtmmfmanjajefcaaL6
set_option linter.all false
namespace Go.Proofs.Ytmmfmanjajefcaa
open Go.RowKit

set_option maxRecDepth 100000 in
set_option maxHeartbeats 4000000 in
theorem rReduce_c (n d : Int) (w : World) (hn : n ≤ 9223372036854775807) (hd : d ≤ 9223372036854775807) :
    Calls Try.prog 17 #[.int .i64 n, .int .i64 d] w fun e w' => e = .returned (rrV (reR n d)) ∧ Below w.heap.size w w' := by
  have HB := Lib.hid (And.intro hn hd)
  have HX := Lib.hid (Box.made w 23 #[.int .i64 0, .int .i64 0])
  have HA := Lib.hid (show Below w.heap.size w (w.alloc (.cells #[.int .i64 0, .int .i64 0] 23)) from (Below.refl _ _).alloc (Nat.le_refl _) _)
  clear hn hd
  by_cases h1 : n < 0
  · have e1 : decide (n < 0) = true := by simpa using h1
    have HR := Lib.hid (show reR n d = ⟨0, 0, 1⟩ by unfold reR; rw [if_pos (.inl h1)]; rfl)
    clear h1
    go_enter Try.func17, Try.ntmps17
    go_wp2_with fail
    exact endRb Try.results17 rfl rfl HR.out HX.out HA.out
  have e1 : decide (n < 0) = false := by simpa using h1
  by_cases h2 : d < 1
  · have e2 : decide (d < 1) = true := by simpa using h2
    have HR := Lib.hid (show reR n d = ⟨0, 0, 1⟩ by unfold reR; rw [if_pos (.inr h2)]; rfl)
    clear h1 h2
    go_enter Try.func17, Try.ntmps17
    go_wp2_with fail
    exact endRb Try.results17 rfl rfl HR.out HX.out HA.out
  have e2 : decide (d < 1) = false := by simpa using h2
  obtain ⟨N, rfl⟩ : ∃ N : Nat, n = (N : Int) := ⟨n.toNat, by omega⟩
  obtain ⟨D, rfl⟩ : ∃ D : Nat, d = (D : Int) := ⟨d.toNat, by omega⟩
  have HD := Lib.hid (show 0 < D by omega)
  have HR := Lib.hid (show reR (N : Int) (D : Int) = rOf N D by unfold reR; rw [if_neg (by omega)]; rfl)
  have HG := Lib.hid (Nat.gcd_pos_of_pos_right N HD.out)
  obtain ⟨x, hx⟩ : ∃ x, N / N.gcd D = x := ⟨_, rfl⟩
  obtain ⟨y, hy⟩ : ∃ y, D / N.gcd D = y := ⟨_, rfl⟩
  have HXY := Lib.hid (show (x ≤ 1000000000 ∧ y ≤ 1000000000 → rOf N D = ⟨x, y, 0⟩) ∧ (1000000000 < x ∨ 1000000000 < y → rOf N D = ⟨0, 0, 2⟩) ∧ x ≤ N ∧ y ≤ D by
    have hb : lwB N D = (decide (x ≤ 1000000000) && decide (y ≤ 1000000000)) := by unfold lwB; rw [hx, hy]; rfl
    refine ⟨fun ⟨a, b⟩ => ?_, fun h => ?_, hx ▸ Nat.div_le_self _ _, hy ▸ Nat.div_le_self _ _⟩
    · have hb' : lwB N D = true := by rw [hb, decide_eq_true a, decide_eq_true b]; rfl
      unfold rOf lwN lwD lwE
      rw [hb', if_pos rfl, if_pos rfl, if_pos rfl, hx, hy]
    · have hb' : lwB N D = false := by
        rw [hb, Bool.and_eq_false_iff, decide_eq_false_iff_not, decide_eq_false_iff_not]; omega
      obtain ⟨z1, z2, z3⟩ := lw_no hb'
      unfold rOf; rw [z1, z2, z3]; rfl)
  have GC := Lib.hid (fun v => rgcd_c N D v (by have := HB.out; omega) (by have := HB.out; omega))
  obtain ⟨g, hg⟩ : ∃ g, N.gcd D = g := ⟨_, rfl⟩
  rw [hg] at hx hy HG GC
  clear h1 h2
  have HE := Lib.hid (And.intro hx hy)
  clear hx hy hg
  go_enter Try.func17, Try.ntmps17
  go_wp2_with fail
  refine (GC.out _).mono ?_; rintro e w1 ⟨rfl, hb1⟩
  have HX1 := Lib.hid (HX.out.later hb1)
  have HB1 := Lib.hid (HA.out.trans (hb1.mono (by simp)))
  clear hb1
  have g0 : (0 : Int) < (g : Int) := by have := HG.out; omega
  have z0 : decide ((g : Int) = 0) = false := by simp; omega
  have z1 : decide (g = 0) = false := by simp; omega
  have qx : (N : Int) / (g : Int) = (x : Int) := by rw [← HE.out.1]; simp
  have qy : (D : Int) / (g : Int) = (y : Int) := by rw [← HE.out.2]; simp
  have HBX := Lib.hid (show x ≤ 9223372036854775807 ∧ y ≤ 9223372036854775807 by have := HXY.out.2.2; have := HB.out; omega)
  have w1' : IntKind.i64.wrap (x : Int) = (x : Int) := wrap_id (by omega) (by have := HBX.out; omega)
  have w2' : IntKind.i64.wrap (y : Int) = (y : Int) := wrap_id (by omega) (by have := HBX.out; omega)
  go_wp2_with fail
  go_region
  have hsz : w.heap.size < w1.heap.size := HX1.out.lt
  obtain ⟨W, hW⟩ : ∃ W, (w1.alloc (.cells #[.int .i64 (x : Int), .int .i64 (y : Int)] 23)).drew = W := ⟨_, rfl⟩
  have HX2 := Lib.hid (show Box W w.heap.size 23 #[.int .i64 0, .int .i64 0] by rw [← hW]; exact HX1.out.alloc _)
  have HR2 := Lib.hid (show Box W w1.heap.size 23 #[.int .i64 (x : Int), .int .i64 (y : Int)] by rw [← hW]; exact Box.made w1 _ _)
  have HB2 := Lib.hid (show Below w.heap.size w W by rw [← hW]; exact (HB1.out.alloc HB1.out.size _).drew)
  rw [hW]
  clear hW qx qy w1' w2' g0 z0 z1
  have r0 : W.cell? ⟨w1.heap.size, 0, none⟩ = some (.int .i64 (x : Int)) := HR2.out.cell 0
  have r1 : W.cell? ⟨w1.heap.size, 1, none⟩ = some (.int .i64 (y : Int)) := HR2.out.cell 1
  have z0 : W.cell? ⟨w.heap.size, 0, none⟩ = some (.int .i64 0) := HX2.out.cell 0
  have z1 : W.cell? ⟨w.heap.size, 1, none⟩ = some (.int .i64 0) := HX2.out.cell 1
  have fz : ∀ o, W.frozen? ⟨w.heap.size, o, none⟩ = false := fun o => HX2.out.free o
  by_cases hx : 1000000000 < x
  · have d1 : decide ((1000000000 : Int) < (x : Int)) = true := decide_eq_true (by omega)
    have d1' : decide (1000000000 < x) = true := by simpa using hx
    have HZ := Lib.hid (HXY.out.2.1 (.inl hx))
    clear hx
    go_wp2_with fail
    exact endRr Try.results17 rfl rfl (by rw [HR.out, HZ.out]) HX2.out (Nat.le_refl _) HB2.out
  · have d1 : decide ((1000000000 : Int) < (x : Int)) = false := decide_eq_false (by omega)
    have d1' : decide (1000000000 < x) = false := by simpa using hx
    by_cases hy : 1000000000 < y
    · have d2 : decide ((1000000000 : Int) < (y : Int)) = true := decide_eq_true (by omega)
      have d2' : decide (1000000000 < y) = true := by simpa using hy
      have HZ := Lib.hid (HXY.out.2.1 (.inr hy))
      clear hx hy
      go_wp2_with fail
      exact endRr Try.results17 rfl rfl (by rw [HR.out, HZ.out]) HX2.out (Nat.le_refl _) HB2.out
    · have d2 : decide ((1000000000 : Int) < (y : Int)) = false := decide_eq_false (by omega)
      have d2' : decide (1000000000 < y) = false := by simpa using hy
      have HZ := Lib.hid (HXY.out.1 ⟨by omega, by omega⟩)
      clear hx hy
      go_wp2_with fail
      exact endRr Try.results17 rfl rfl (by rw [HR.out, HZ.out]) HX2.out (Nat.le_refl _) HB2.out

set_option maxRecDepth 100000 in
set_option maxHeartbeats 4000000 in
theorem rTimes_c (an ad bn bd : Int) (w : World) :
    Calls Try.prog 19 #[.agg #[.int .i64 an, .int .i64 ad], .agg #[.int .i64 bn, .int .i64 bd]] w fun e w' => e = .returned (rrV (tmR an ad bn bd)) ∧ Below w.heap.size w w' := by
  have T0 := Lib.hid (TA3.start w an ad bn bd)
  cases va : rtB an ad
  · have HR := Lib.hid (show tmR an ad bn bd = ⟨0, 0, 71⟩ by unfold tmR; rw [va]; rfl)
    go_enter Try.func19, Try.ntmps19
    go_wp2_with fail
    refine (rValidRatio_c an ad _).mono ?_; rintro e w1 ⟨rfl, hb1⟩
    rw [va]
    have T1 := Lib.hid (T0.out.later hb1)
    clear hb1 va
    have c0 : w1.cell? ⟨w.heap.size, 0, none⟩ = some (.int .i64 an) := T1.out.a.cell 0
    have c1 : w1.cell? ⟨w.heap.size, 1, none⟩ = some (.int .i64 ad) := T1.out.a.cell 1
    have c2 : w1.cell? ⟨w.heap.size + 1, 0, none⟩ = some (.int .i64 bn) := T1.out.b.cell 0
    have c3 : w1.cell? ⟨w.heap.size + 1, 1, none⟩ = some (.int .i64 bd) := T1.out.b.cell 1
    have z0 : w1.cell? ⟨w.heap.size + 1 + 1, 0, none⟩ = some (.int .i64 0) := T1.out.r.cell 0
    have z1 : w1.cell? ⟨w.heap.size + 1 + 1, 1, none⟩ = some (.int .i64 0) := T1.out.r.cell 1
    have fz : ∀ o, w1.frozen? ⟨w.heap.size + 1 + 1, o, none⟩ = false := fun o => T1.out.r.free o
    go_wp2_with fail
    exact endRr Try.results19 rfl rfl HR.out T1.out.r (by omega) T1.out.bel
  have VA := Lib.hid va
  clear va
  cases vb : rtB bn bd
  · have HR := Lib.hid (show tmR an ad bn bd = ⟨0, 0, 71⟩ by unfold tmR; rw [VA.out, vb]; rfl)
    go_enter Try.func19, Try.ntmps19
    go_wp2_with fail
    refine (rValidRatio_c an ad _).mono ?_; rintro e w1 ⟨rfl, hb1⟩
    rw [VA.out]
    have T1 := Lib.hid (T0.out.later hb1)
    clear hb1
    have k0 : w1.cell? ⟨w.heap.size + 1, 0, none⟩ = some (.int .i64 bn) := T1.out.b.cell 0
    have k1 : w1.cell? ⟨w.heap.size + 1, 1, none⟩ = some (.int .i64 bd) := T1.out.b.cell 1
    go_wp2_with fail
    refine (rValidRatio_c bn bd _).mono ?_; rintro e w2 ⟨rfl, hb2⟩
    rw [vb]
    have T1 := Lib.hid (T1.out.later hb2)
    clear hb2 vb k0 k1
    have c0 : w2.cell? ⟨w.heap.size, 0, none⟩ = some (.int .i64 an) := T1.out.a.cell 0
    have c1 : w2.cell? ⟨w.heap.size, 1, none⟩ = some (.int .i64 ad) := T1.out.a.cell 1
    have c2 : w2.cell? ⟨w.heap.size + 1, 0, none⟩ = some (.int .i64 bn) := T1.out.b.cell 0
    have c3 : w2.cell? ⟨w.heap.size + 1, 1, none⟩ = some (.int .i64 bd) := T1.out.b.cell 1
    have z0 : w2.cell? ⟨w.heap.size + 1 + 1, 0, none⟩ = some (.int .i64 0) := T1.out.r.cell 0
    have z1 : w2.cell? ⟨w.heap.size + 1 + 1, 1, none⟩ = some (.int .i64 0) := T1.out.r.cell 1
    have fz : ∀ o, w2.frozen? ⟨w.heap.size + 1 + 1, o, none⟩ = false := fun o => T1.out.r.free o
    go_wp2_with fail
    exact endRr Try.results19 rfl rfl HR.out T1.out.r (by omega) T1.out.bel
  have VB := Lib.hid vb
  clear vb
  obtain ⟨⟨a0, a1⟩, ⟨a2, a3⟩, -⟩ := rtB_iff.1 VA.out
  obtain ⟨⟨b0, b1⟩, ⟨b2, b3⟩, -⟩ := rtB_iff.1 VB.out
  obtain ⟨A, rfl⟩ : ∃ A : Nat, an = (A : Int) := ⟨an.toNat, by omega⟩
  obtain ⟨C, rfl⟩ : ∃ C : Nat, ad = (C : Int) := ⟨ad.toNat, by omega⟩
  obtain ⟨B, rfl⟩ : ∃ B : Nat, bn = (B : Int) := ⟨bn.toNat, by omega⟩
  obtain ⟨D, rfl⟩ : ∃ D : Nat, bd = (D : Int) := ⟨bd.toNat, by omega⟩
  have HBD := Lib.hid (show A ≤ 1000000000 ∧ 0 < C ∧ C ≤ 1000000000 ∧ B ≤ 1000000000 ∧ 0 < D ∧ D ≤ 1000000000 by omega)
  clear a0 a1 a2 a3 b0 b1 b2 b3
  go_enter Try.func19, Try.ntmps19
  go_wp2_with fail
  refine (rValidRatio_c (A : Int) (C : Int) _).mono ?_; rintro e w1 ⟨rfl, hb1⟩
  rw [VA.out]
  have T1 := Lib.hid (T0.out.later hb1)
  clear hb1
  have k0 : w1.cell? ⟨w.heap.size + 1, 0, none⟩ = some (.int .i64 (B : Int)) := T1.out.b.cell 0
  have k1 : w1.cell? ⟨w.heap.size + 1, 1, none⟩ = some (.int .i64 (D : Int)) := T1.out.b.cell 1
  go_wp2_with fail
  refine (rValidRatio_c (B : Int) (D : Int) _).mono ?_; rintro e w2 ⟨rfl, hb2⟩
  rw [VB.out]
  have T1 := Lib.hid (T1.out.later hb2)
  clear hb2 k0 k1
  have c0 : w2.cell? ⟨w.heap.size, 0, none⟩ = some (.int .i64 (A : Int)) := T1.out.a.cell 0
  have c1 : w2.cell? ⟨w.heap.size, 1, none⟩ = some (.int .i64 (C : Int)) := T1.out.a.cell 1
  have c2 : w2.cell? ⟨w.heap.size + 1, 0, none⟩ = some (.int .i64 (B : Int)) := T1.out.b.cell 0
  have c3 : w2.cell? ⟨w.heap.size + 1, 1, none⟩ = some (.int .i64 (D : Int)) := T1.out.b.cell 1
  have z0 : w2.cell? ⟨w.heap.size + 1 + 1, 0, none⟩ = some (.int .i64 0) := T1.out.r.cell 0
  have z1 : w2.cell? ⟨w.heap.size + 1 + 1, 1, none⟩ = some (.int .i64 0) := T1.out.r.cell 1
  have fz : ∀ o, w2.frozen? ⟨w.heap.size + 1 + 1, o, none⟩ = false := fun o => T1.out.r.free o
  have HM1 := Lib.hid (mul_w (a := A) (b := B) (by have := HBD.out; omega) (by have := HBD.out; omega))
  have HM3 := Lib.hid (mul_w (a := C) (b := D) (by have := HBD.out; omega) (by have := HBD.out; omega))
  have m1 := HM1.out.1
  have m3 := HM3.out.1
  have HP := Lib.hid (Nat.mul_pos HBD.out.2.1 HBD.out.2.2.2.2.1)
  have HR := Lib.hid (show tmR (A : Int) (C : Int) (B : Int) (D : Int) = reR ((A * B : Nat) : Int) ((C * D : Nat) : Int) by
    rw [tm_val VA.out VB.out]; unfold reR; rw [if_neg (by have := HP.out; omega)]; simp only [Int.toNat_natCast])
  obtain ⟨s, hx⟩ : ∃ x, A * B = x := ⟨_, rfl⟩
  obtain ⟨z, hz⟩ : ∃ z, C * D = z := ⟨_, rfl⟩
  have HXB := Lib.hid (show s ≤ 1000000000000000000 ∧ z ≤ 1000000000000000000 from ⟨hx ▸ HM1.out.2, hz ▸ HM3.out.2⟩)
  rw [hx] at m1 HR
  rw [hz] at m3 HR
  clear hx hz
  go_wp2_with fail
  refine (rReduce_c (s : Int) (z : Int) _ (by have := HXB.out; omega) (by have := HXB.out; omega)).mono ?_; rintro e w3 ⟨rfl, hb3⟩
  have T3 := Lib.hid (T1.out.later hb3)
  have z0 : w3.cell? ⟨w.heap.size + 1 + 1, 0, none⟩ = some (.int .i64 0) := T3.out.r.cell 0
  have z1 : w3.cell? ⟨w.heap.size + 1 + 1, 1, none⟩ = some (.int .i64 0) := T3.out.r.cell 1
  have fz : ∀ o, w3.frozen? ⟨w.heap.size + 1 + 1, o, none⟩ = false := fun o => T3.out.r.free o
  clear hb3
  go_wp2_with fail
  exact endRr Try.results19 rfl rfl (by rw [HR.out]) T3.out.r (by omega) T3.out.bel

set_option maxRecDepth 100000 in
set_option maxHeartbeats 4000000 in
theorem rPlus_c (an ad bn bd : Int) (w : World) :
    Calls Try.prog 21 #[.agg #[.int .i64 an, .int .i64 ad], .agg #[.int .i64 bn, .int .i64 bd]] w fun e w' => e = .returned (rrV (plR an ad bn bd)) ∧ Below w.heap.size w w' := by
  have T0 := Lib.hid (TA3.start w an ad bn bd)
  cases va : rtB an ad
  · have HR := Lib.hid (show plR an ad bn bd = ⟨0, 0, 71⟩ by unfold plR; rw [va]; rfl)
    go_enter Try.func21, Try.ntmps21
    go_wp2_with fail
    refine (rValidRatio_c an ad _).mono ?_; rintro e w1 ⟨rfl, hb1⟩
    rw [va]
    have T1 := Lib.hid (T0.out.later hb1)
    clear hb1 va
    have c0 : w1.cell? ⟨w.heap.size, 0, none⟩ = some (.int .i64 an) := T1.out.a.cell 0
    have c1 : w1.cell? ⟨w.heap.size, 1, none⟩ = some (.int .i64 ad) := T1.out.a.cell 1
    have c2 : w1.cell? ⟨w.heap.size + 1, 0, none⟩ = some (.int .i64 bn) := T1.out.b.cell 0
    have c3 : w1.cell? ⟨w.heap.size + 1, 1, none⟩ = some (.int .i64 bd) := T1.out.b.cell 1
    have z0 : w1.cell? ⟨w.heap.size + 1 + 1, 0, none⟩ = some (.int .i64 0) := T1.out.r.cell 0
    have z1 : w1.cell? ⟨w.heap.size + 1 + 1, 1, none⟩ = some (.int .i64 0) := T1.out.r.cell 1
    have fz : ∀ o, w1.frozen? ⟨w.heap.size + 1 + 1, o, none⟩ = false := fun o => T1.out.r.free o
    go_wp2_with fail
    exact endRr Try.results21 rfl rfl HR.out T1.out.r (by omega) T1.out.bel
  have VA := Lib.hid va
  clear va
  cases vb : rtB bn bd
  · have HR := Lib.hid (show plR an ad bn bd = ⟨0, 0, 71⟩ by unfold plR; rw [VA.out, vb]; rfl)
    go_enter Try.func21, Try.ntmps21
    go_wp2_with fail
    refine (rValidRatio_c an ad _).mono ?_; rintro e w1 ⟨rfl, hb1⟩
    rw [VA.out]
    have T1 := Lib.hid (T0.out.later hb1)
    clear hb1
    have k0 : w1.cell? ⟨w.heap.size + 1, 0, none⟩ = some (.int .i64 bn) := T1.out.b.cell 0
    have k1 : w1.cell? ⟨w.heap.size + 1, 1, none⟩ = some (.int .i64 bd) := T1.out.b.cell 1
    go_wp2_with fail
    refine (rValidRatio_c bn bd _).mono ?_; rintro e w2 ⟨rfl, hb2⟩
    rw [vb]
    have T1 := Lib.hid (T1.out.later hb2)
    clear hb2 vb k0 k1
    have c0 : w2.cell? ⟨w.heap.size, 0, none⟩ = some (.int .i64 an) := T1.out.a.cell 0
    have c1 : w2.cell? ⟨w.heap.size, 1, none⟩ = some (.int .i64 ad) := T1.out.a.cell 1
    have c2 : w2.cell? ⟨w.heap.size + 1, 0, none⟩ = some (.int .i64 bn) := T1.out.b.cell 0
    have c3 : w2.cell? ⟨w.heap.size + 1, 1, none⟩ = some (.int .i64 bd) := T1.out.b.cell 1
    have z0 : w2.cell? ⟨w.heap.size + 1 + 1, 0, none⟩ = some (.int .i64 0) := T1.out.r.cell 0
    have z1 : w2.cell? ⟨w.heap.size + 1 + 1, 1, none⟩ = some (.int .i64 0) := T1.out.r.cell 1
    have fz : ∀ o, w2.frozen? ⟨w.heap.size + 1 + 1, o, none⟩ = false := fun o => T1.out.r.free o
    go_wp2_with fail
    exact endRr Try.results21 rfl rfl HR.out T1.out.r (by omega) T1.out.bel
  have VB := Lib.hid vb
  clear vb
  obtain ⟨⟨a0, a1⟩, ⟨a2, a3⟩, -⟩ := rtB_iff.1 VA.out
  obtain ⟨⟨b0, b1⟩, ⟨b2, b3⟩, -⟩ := rtB_iff.1 VB.out
  obtain ⟨A, rfl⟩ : ∃ A : Nat, an = (A : Int) := ⟨an.toNat, by omega⟩
  obtain ⟨C, rfl⟩ : ∃ C : Nat, ad = (C : Int) := ⟨ad.toNat, by omega⟩
  obtain ⟨B, rfl⟩ : ∃ B : Nat, bn = (B : Int) := ⟨bn.toNat, by omega⟩
  obtain ⟨D, rfl⟩ : ∃ D : Nat, bd = (D : Int) := ⟨bd.toNat, by omega⟩
  have HBD := Lib.hid (show A ≤ 1000000000 ∧ 0 < C ∧ C ≤ 1000000000 ∧ B ≤ 1000000000 ∧ 0 < D ∧ D ≤ 1000000000 by omega)
  clear a0 a1 a2 a3 b0 b1 b2 b3
  go_enter Try.func21, Try.ntmps21
  go_wp2_with fail
  refine (rValidRatio_c (A : Int) (C : Int) _).mono ?_; rintro e w1 ⟨rfl, hb1⟩
  rw [VA.out]
  have T1 := Lib.hid (T0.out.later hb1)
  clear hb1
  have k0 : w1.cell? ⟨w.heap.size + 1, 0, none⟩ = some (.int .i64 (B : Int)) := T1.out.b.cell 0
  have k1 : w1.cell? ⟨w.heap.size + 1, 1, none⟩ = some (.int .i64 (D : Int)) := T1.out.b.cell 1
  go_wp2_with fail
  refine (rValidRatio_c (B : Int) (D : Int) _).mono ?_; rintro e w2 ⟨rfl, hb2⟩
  rw [VB.out]
  have T1 := Lib.hid (T1.out.later hb2)
  clear hb2 k0 k1
  have c0 : w2.cell? ⟨w.heap.size, 0, none⟩ = some (.int .i64 (A : Int)) := T1.out.a.cell 0
  have c1 : w2.cell? ⟨w.heap.size, 1, none⟩ = some (.int .i64 (C : Int)) := T1.out.a.cell 1
  have c2 : w2.cell? ⟨w.heap.size + 1, 0, none⟩ = some (.int .i64 (B : Int)) := T1.out.b.cell 0
  have c3 : w2.cell? ⟨w.heap.size + 1, 1, none⟩ = some (.int .i64 (D : Int)) := T1.out.b.cell 1
  have z0 : w2.cell? ⟨w.heap.size + 1 + 1, 0, none⟩ = some (.int .i64 0) := T1.out.r.cell 0
  have z1 : w2.cell? ⟨w.heap.size + 1 + 1, 1, none⟩ = some (.int .i64 0) := T1.out.r.cell 1
  have fz : ∀ o, w2.frozen? ⟨w.heap.size + 1 + 1, o, none⟩ = false := fun o => T1.out.r.free o
  have HM1 := Lib.hid (mul_w (a := A) (b := D) (by have := HBD.out; omega) (by have := HBD.out; omega))
  have HM2 := Lib.hid (mul_w (a := B) (b := C) (by have := HBD.out; omega) (by have := HBD.out; omega))
  have HM3 := Lib.hid (mul_w (a := C) (b := D) (by have := HBD.out; omega) (by have := HBD.out; omega))
  have m1 := HM1.out.1
  have m2 := HM2.out.1
  have m3 := HM3.out.1
  have HP := Lib.hid (Nat.mul_pos HBD.out.2.1 HBD.out.2.2.2.2.1)
  have HR := Lib.hid (show plR (A : Int) (C : Int) (B : Int) (D : Int) = reR ((A * D + B * C : Nat) : Int) ((C * D : Nat) : Int) by
    rw [pl_val VA.out VB.out]; unfold reR; rw [if_neg (by have := HP.out; omega)]; simp only [Int.toNat_natCast])
  obtain ⟨x, hx⟩ : ∃ x, A * D = x := ⟨_, rfl⟩
  obtain ⟨y, hy⟩ : ∃ y, B * C = y := ⟨_, rfl⟩
  obtain ⟨z, hz⟩ : ∃ z, C * D = z := ⟨_, rfl⟩
  have HXB := Lib.hid (show x ≤ 1000000000000000000 ∧ y ≤ 1000000000000000000 ∧ z ≤ 1000000000000000000 from ⟨hx ▸ HM1.out.2, hy ▸ HM2.out.2, hz ▸ HM3.out.2⟩)
  rw [hx] at m1 HR
  rw [hy] at m2 HR
  rw [hz] at m3 HR
  have ms : IntKind.i64.wrap ((x : Int) + (y : Int)) = ((x + y : Nat) : Int) := by
    rw [show (x : Int) + (y : Int) = ((x + y : Nat) : Int) by simp]; have := HXB.out; exact wrap_id (by omega) (by omega)
  obtain ⟨s, hs⟩ : ∃ s, x + y = s := ⟨_, rfl⟩
  rw [hs] at ms HR
  have HSB := Lib.hid (show s ≤ 2000000000000000000 by have := HXB.out; omega)
  clear hx hy hz hs
  go_wp2_with fail
  refine (rReduce_c (s : Int) (z : Int) _ (by have := HSB.out; omega) (by have := HXB.out; omega)).mono ?_; rintro e w3 ⟨rfl, hb3⟩
  have T3 := Lib.hid (T1.out.later hb3)
  have z0 : w3.cell? ⟨w.heap.size + 1 + 1, 0, none⟩ = some (.int .i64 0) := T3.out.r.cell 0
  have z1 : w3.cell? ⟨w.heap.size + 1 + 1, 1, none⟩ = some (.int .i64 0) := T3.out.r.cell 1
  have fz : ∀ o, w3.frozen? ⟨w.heap.size + 1 + 1, o, none⟩ = false := fun o => T3.out.r.free o
  clear hb3
  go_wp2_with fail
  exact endRr Try.results21 rfl rfl (by rw [HR.out]) T3.out.r (by omega) T3.out.bel

set_option maxRecDepth 100000 in
set_option maxHeartbeats 4000000 in
theorem rCompare_c (an ad bn bd : Int) (w : World) :
    Calls Try.prog 23 #[.agg #[.int .i64 an, .int .i64 ad], .agg #[.int .i64 bn, .int .i64 bd]] w fun e w' => e = .returned (.tuple #[.int .i64 (cpN an ad bn bd), .int .i64 (cpE an ad bn bd)]) ∧ Below w.heap.size w w' := by
  have T0 := Lib.hid (TA2.start w an ad bn bd)
  cases va : rtB an ad
  · have HR := Lib.hid (show cpN an ad bn bd = 0 ∧ cpE an ad bn bd = 71 by unfold cpN cpE; rw [va]; exact ⟨rfl, rfl⟩)
    go_enter Try.func23, Try.ntmps23
    go_wp2_with fail
    refine (rValidRatio_c an ad _).mono ?_; rintro e w1 ⟨rfl, hb1⟩
    rw [va]
    have T1 := Lib.hid (T0.out.later hb1)
    clear hb1 va
    have c0 : w1.cell? ⟨w.heap.size, 0, none⟩ = some (.int .i64 an) := T1.out.a.cell 0
    have c1 : w1.cell? ⟨w.heap.size, 1, none⟩ = some (.int .i64 ad) := T1.out.a.cell 1
    have c2 : w1.cell? ⟨w.heap.size + 1, 0, none⟩ = some (.int .i64 bn) := T1.out.b.cell 0
    have c3 : w1.cell? ⟨w.heap.size + 1, 1, none⟩ = some (.int .i64 bd) := T1.out.b.cell 1
    go_wp2_with fail
    go_ret2
    exact ⟨by rw [HR.out.1, HR.out.2]; rfl, T1.out.bel⟩
  have VA := Lib.hid va
  clear va
  cases vb : rtB bn bd
  · have HR := Lib.hid (show cpN an ad bn bd = 0 ∧ cpE an ad bn bd = 71 by unfold cpN cpE; rw [VA.out, vb]; exact ⟨rfl, rfl⟩)
    go_enter Try.func23, Try.ntmps23
    go_wp2_with fail
    refine (rValidRatio_c an ad _).mono ?_; rintro e w1 ⟨rfl, hb1⟩
    rw [VA.out]
    have T1 := Lib.hid (T0.out.later hb1)
    clear hb1
    have k0 : w1.cell? ⟨w.heap.size + 1, 0, none⟩ = some (.int .i64 bn) := T1.out.b.cell 0
    have k1 : w1.cell? ⟨w.heap.size + 1, 1, none⟩ = some (.int .i64 bd) := T1.out.b.cell 1
    go_wp2_with fail
    refine (rValidRatio_c bn bd _).mono ?_; rintro e w2 ⟨rfl, hb2⟩
    rw [vb]
    have T1 := Lib.hid (T1.out.later hb2)
    clear hb2 vb k0 k1
    have c0 : w2.cell? ⟨w.heap.size, 0, none⟩ = some (.int .i64 an) := T1.out.a.cell 0
    have c1 : w2.cell? ⟨w.heap.size, 1, none⟩ = some (.int .i64 ad) := T1.out.a.cell 1
    have c2 : w2.cell? ⟨w.heap.size + 1, 0, none⟩ = some (.int .i64 bn) := T1.out.b.cell 0
    have c3 : w2.cell? ⟨w.heap.size + 1, 1, none⟩ = some (.int .i64 bd) := T1.out.b.cell 1
    go_wp2_with fail
    go_ret2
    exact ⟨by rw [HR.out.1, HR.out.2]; rfl, T1.out.bel⟩
  have VB := Lib.hid vb
  clear vb
  obtain ⟨⟨a0, a1⟩, ⟨a2, a3⟩, -⟩ := rtB_iff.1 VA.out
  obtain ⟨⟨b0, b1⟩, ⟨b2, b3⟩, -⟩ := rtB_iff.1 VB.out
  obtain ⟨A, rfl⟩ : ∃ A : Nat, an = (A : Int) := ⟨an.toNat, by omega⟩
  obtain ⟨C, rfl⟩ : ∃ C : Nat, ad = (C : Int) := ⟨ad.toNat, by omega⟩
  obtain ⟨B, rfl⟩ : ∃ B : Nat, bn = (B : Int) := ⟨bn.toNat, by omega⟩
  obtain ⟨D, rfl⟩ : ∃ D : Nat, bd = (D : Int) := ⟨bd.toNat, by omega⟩
  have HBD := Lib.hid (show A ≤ 1000000000 ∧ 0 < C ∧ C ≤ 1000000000 ∧ B ≤ 1000000000 ∧ 0 < D ∧ D ≤ 1000000000 by omega)
  clear a0 a1 a2 a3 b0 b1 b2 b3
  go_enter Try.func23, Try.ntmps23
  go_wp2_with fail
  refine (rValidRatio_c (A : Int) (C : Int) _).mono ?_; rintro e w1 ⟨rfl, hb1⟩
  rw [VA.out]
  have T1 := Lib.hid (T0.out.later hb1)
  clear hb1
  have k0 : w1.cell? ⟨w.heap.size + 1, 0, none⟩ = some (.int .i64 (B : Int)) := T1.out.b.cell 0
  have k1 : w1.cell? ⟨w.heap.size + 1, 1, none⟩ = some (.int .i64 (D : Int)) := T1.out.b.cell 1
  go_wp2_with fail
  refine (rValidRatio_c (B : Int) (D : Int) _).mono ?_; rintro e w2 ⟨rfl, hb2⟩
  rw [VB.out]
  have T1 := Lib.hid (T1.out.later hb2)
  clear hb2 k0 k1
  have c0 : w2.cell? ⟨w.heap.size, 0, none⟩ = some (.int .i64 (A : Int)) := T1.out.a.cell 0
  have c1 : w2.cell? ⟨w.heap.size, 1, none⟩ = some (.int .i64 (C : Int)) := T1.out.a.cell 1
  have c2 : w2.cell? ⟨w.heap.size + 1, 0, none⟩ = some (.int .i64 (B : Int)) := T1.out.b.cell 0
  have c3 : w2.cell? ⟨w.heap.size + 1, 1, none⟩ = some (.int .i64 (D : Int)) := T1.out.b.cell 1
  have HM1 := Lib.hid (mul_w (a := A) (b := D) (by have := HBD.out; omega) (by have := HBD.out; omega))
  have HM2 := Lib.hid (mul_w (a := B) (b := C) (by have := HBD.out; omega) (by have := HBD.out; omega))
  have m1 := HM1.out.1
  have m2 := HM2.out.1
  have HR := Lib.hid (show cpN (A : Int) (C : Int) (B : Int) (D : Int) = sgn (A * D) (B * C) ∧ cpE (A : Int) (C : Int) (B : Int) (D : Int) = 0 by
    have := cp_val VA.out VB.out
    simpa using this)
  obtain ⟨x, hx⟩ : ∃ x, A * D = x := ⟨_, rfl⟩
  obtain ⟨y, hy⟩ : ∃ y, B * C = y := ⟨_, rfl⟩
  rw [hx] at m1 HR
  rw [hy] at m2 HR
  clear hx hy
  rcases Nat.lt_trichotomy x y with hc | hc | hc
  · have HV := Lib.hid (show sgn x y = -1 by unfold sgn; rw [if_pos hc])
    have dxy : decide ((x : Int) < (y : Int)) = true := by simpa using (show x < y from by omega)
    have exy : decide (x < y) = true := by simpa using (show x < y from by omega)
    clear hc
    go_wp2_with fail
    go_ret2
    exact ⟨by rw [HR.out.1, HR.out.2, HV.out]; rfl, T1.out.bel⟩
  · have HV := Lib.hid (show sgn x y = 0 by unfold sgn; rw [if_neg (by omega), if_neg (by omega)])
    have dxy : decide ((x : Int) < (y : Int)) = false := by simpa using (show ¬ x < y from by omega)
    have exy : decide (x < y) = false := by simpa using (show ¬ x < y from by omega)
    have dyx : decide ((y : Int) < (x : Int)) = false := by simpa using (show ¬ y < x from by omega)
    have eyx : decide (y < x) = false := by simpa using (show ¬ y < x from by omega)
    clear hc
    go_wp2_with fail
    go_ret2
    exact ⟨by rw [HR.out.1, HR.out.2, HV.out]; rfl, T1.out.bel⟩
  · have HV := Lib.hid (show sgn x y = 1 by unfold sgn; rw [if_neg (by omega), if_pos hc])
    have dxy : decide ((x : Int) < (y : Int)) = false := by simpa using (show ¬ x < y from by omega)
    have exy : decide (x < y) = false := by simpa using (show ¬ x < y from by omega)
    have dyx : decide ((y : Int) < (x : Int)) = true := by simpa using (show y < x from by omega)
    have eyx : decide (y < x) = true := by simpa using (show y < x from by omega)
    clear hc
    go_wp2_with fail
    go_ret2
    exact ⟨by rw [HR.out.1, HR.out.2, HV.out]; rfl, T1.out.bel⟩
end Go.Proofs.Ytmmfmanjajefcaa

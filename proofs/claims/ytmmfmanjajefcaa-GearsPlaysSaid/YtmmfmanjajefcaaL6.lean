/- Layer 7: products, sums and comparisons of ratios, as the program has them. -/
import Derived.Test.YtmmfmanjajefcaaL5
set_option linter.all false
namespace Go.Proofs.Ytmmfmanjajefcaa
open Go.RowKit

/-- two ratios in boxes of the call's own -/
structure TA2 (w wr : World) (an ad bn bd : Int) : Prop where
  a : Box wr w.heap.size 23 #[.int .i64 an, .int .i64 ad]
  b : Box wr (w.heap.size + 1) 23 #[.int .i64 bn, .int .i64 bd]
  bel : Below w.heap.size w wr
/-- .. and a box for what is handed back -/
structure TA3 (w wr : World) (an ad bn bd : Int) : Prop where
  a : Box wr w.heap.size 23 #[.int .i64 an, .int .i64 ad]
  b : Box wr (w.heap.size + 1) 23 #[.int .i64 bn, .int .i64 bd]
  r : Box wr (w.heap.size + 1 + 1) 23 #[.int .i64 0, .int .i64 0]
  bel : Below w.heap.size w wr
theorem TA2.start (w : World) (an ad bn bd : Int) : TA2 w ((w.alloc (.cells #[.int .i64 an, .int .i64 ad] 23)).alloc (.cells #[.int .i64 bn, .int .i64 bd] 23)) an ad bn bd := by
  have b2 := Box.made (w.alloc (.cells #[.int .i64 an, .int .i64 ad] 23)) 23 #[.int .i64 bn, .int .i64 bd]
  rw [World.size_alloc] at b2
  exact ⟨(Box.made w _ _).alloc _, b2, ((Below.refl _ _).alloc (Nat.le_refl _) _).alloc (by simp) _⟩
theorem TA3.start (w : World) (an ad bn bd : Int) : TA3 w (((w.alloc (.cells #[.int .i64 an, .int .i64 ad] 23)).alloc (.cells #[.int .i64 bn, .int .i64 bd] 23)).alloc (.cells #[.int .i64 0, .int .i64 0] 23)) an ad bn bd := by
  have b2 := Box.made (w.alloc (.cells #[.int .i64 an, .int .i64 ad] 23)) 23 #[.int .i64 bn, .int .i64 bd]
  have b3 := Box.made ((w.alloc (.cells #[.int .i64 an, .int .i64 ad] 23)).alloc (.cells #[.int .i64 bn, .int .i64 bd] 23)) 23 #[.int .i64 0, .int .i64 0]
  rw [World.size_alloc] at b2
  rw [World.size_alloc, World.size_alloc] at b3
  exact ⟨((Box.made w _ _).alloc _).alloc _, b2.alloc _, b3, (((Below.refl _ _).alloc (Nat.le_refl _) _).alloc (by simp) _).alloc (by simp; omega) _⟩
theorem TA2.later {w wr w1 : World} {an ad bn bd : Int} (h : TA2 w wr an ad bn bd) (hb : Below wr.heap.size wr w1) : TA2 w w1 an ad bn bd :=
  ⟨h.a.later hb, h.b.later hb, h.bel.trans (hb.mono h.bel.size)⟩
theorem TA3.later {w wr w1 : World} {an ad bn bd : Int} (h : TA3 w wr an ad bn bd) (hb : Below wr.heap.size wr w1) : TA3 w w1 an ad bn bd :=
  ⟨h.a.later hb, h.b.later hb, h.r.later hb, h.bel.trans (hb.mono h.bel.size)⟩

theorem mul_w {a b : Nat} (h1 : a ≤ 1000000000) (h2 : b ≤ 1000000000) : IntKind.i64.wrap ((a : Int) * (b : Int)) = ((a * b : Nat) : Int) ∧ a * b ≤ 1000000000000000000 := by
  have h : a * b ≤ 1000000000 * 1000000000 := Nat.mul_le_mul h1 h2
  rw [show (a : Int) * (b : Int) = ((a * b : Nat) : Int) by simp]
  exact ⟨wrap_id (by omega) (by omega), h⟩

set_option maxHeartbeats 1000000 in
theorem nan_c (x : Int) (w : World) : Calls Try.prog 93 #[.int .i64 x] w fun e w' => e = .returned (.bool false) ∧ w = w' := by
  have e1 : (x != x) = false := by simp
  have e2 : decide (x = x) = true := by simp
  go_enter Try.func93, Try.ntmps93
  go_wp2
  go_ret
  exact ⟨by first | rfl | simp, rfl⟩
set_option maxHeartbeats 2000000 in
theorem cmp_c (x y : Nat) (w : World) : Calls Try.prog 61 #[.int .i64 (x : Int), .int .i64 (y : Int)] w fun e w' => e = .returned (.int .i64 (sgn x y)) ∧ w = w' := by
  rcases Nat.lt_trichotomy x y with h | h | h
  · have H := Lib.hid (show sgn x y = -1 by unfold sgn; rw [if_pos h])
    have e1 : decide ((x : Int) < (y : Int)) = true := by simpa using h
    have e2 : decide (x < y) = true := by simpa using h
    clear h
    go_enter Try.func61, Try.ntmps61
    go_wp2_with fail
    refine (nan_c _ w).mono ?_; rintro e w1 ⟨rfl, rfl⟩
    go_wp2_with fail
    refine (nan_c _ w).mono ?_; rintro e w1 ⟨rfl, rfl⟩
    go_wp2_with fail
    go_ret
    exact ⟨ret_int H.out.symm, rfl⟩
  · subst h
    have H := Lib.hid (show sgn x x = 0 by unfold sgn; simp)
    have e1 : decide ((x : Int) < (x : Int)) = false := by simp
    have e2 : decide (x < x) = false := by simp
    go_enter Try.func61, Try.ntmps61
    go_wp2_with fail
    refine (nan_c _ w).mono ?_; rintro e w1 ⟨rfl, rfl⟩
    go_wp2_with fail
    refine (nan_c _ w).mono ?_; rintro e w1 ⟨rfl, rfl⟩
    go_wp2_with fail
    go_ret
    exact ⟨ret_int H.out.symm, rfl⟩
  · have H := Lib.hid (show sgn x y = 1 by unfold sgn; rw [if_neg (by omega), if_pos h])
    have e1 : decide ((x : Int) < (y : Int)) = false := by simp; omega
    have e2 : decide (x < y) = false := by simp; omega
    have e3 : decide ((y : Int) < (x : Int)) = true := by simpa using h
    have e4 : decide (y < x) = true := by simpa using h
    clear h
    go_enter Try.func61, Try.ntmps61
    go_wp2_with fail
    refine (nan_c _ w).mono ?_; rintro e w1 ⟨rfl, rfl⟩
    go_wp2_with fail
    refine (nan_c _ w).mono ?_; rintro e w1 ⟨rfl, rfl⟩
    go_wp2_with fail
    go_ret
    exact ⟨ret_int H.out.symm, rfl⟩

set_option maxRecDepth 100000 in
set_option maxHeartbeats 4000000 in
theorem Times_c (an ad bn bd : Int) (w : World) :
    Calls Try.prog 18 #[.agg #[.int .i64 an, .int .i64 ad], .agg #[.int .i64 bn, .int .i64 bd]] w fun e w' => e = .returned (rrV (tmR an ad bn bd)) ∧ Below w.heap.size w w' := by
  have T0 := Lib.hid (TA3.start w an ad bn bd)
  cases va : rtB an ad
  · have HR := Lib.hid (show tmR an ad bn bd = ⟨0, 0, 71⟩ by unfold tmR; rw [va]; rfl)
    go_enter Try.func18, Try.ntmps18
    go_wp2_with fail
    refine (ValidRatio_c an ad _).mono ?_; rintro e w1 ⟨rfl, hb1⟩
    rw [va]
    have T1 := Lib.hid (T0.out.later hb1)
    clear hb1 va
    have c0 : w1.cell? ⟨w.heap.size, 0, none⟩ = some (.int .i64 an) := T1.out.a.cell 0
    have c1 : w1.cell? ⟨w.heap.size, 1, none⟩ = some (.int .i64 ad) := T1.out.a.cell 1
    have c2 : w1.cell? ⟨w.heap.size + 1, 0, none⟩ = some (.int .i64 bn) := T1.out.b.cell 0
    have c3 : w1.cell? ⟨w.heap.size + 1, 1, none⟩ = some (.int .i64 bd) := T1.out.b.cell 1
    have z0 : w1.cell? ⟨w.heap.size + 1 + 1, 0, none⟩ = some (.int .i64 0) := T1.out.r.cell 0
    have z1 : w1.cell? ⟨w.heap.size + 1 + 1, 1, none⟩ = some (.int .i64 0) := T1.out.r.cell 1
    have fz : ∀ o, w1.frozen? ⟨w.heap.size + 1 + 1, o, none⟩ = false := fun o => T1.out.r.free o
    go_wp2_with fail
    exact endRr Try.results18 rfl rfl HR.out T1.out.r (by omega) T1.out.bel
  have VA := Lib.hid va
  clear va
  cases vb : rtB bn bd
  · have HR := Lib.hid (show tmR an ad bn bd = ⟨0, 0, 71⟩ by unfold tmR; rw [VA.out, vb]; rfl)
    go_enter Try.func18, Try.ntmps18
    go_wp2_with fail
    refine (ValidRatio_c an ad _).mono ?_; rintro e w1 ⟨rfl, hb1⟩
    rw [VA.out]
    have T1 := Lib.hid (T0.out.later hb1)
    clear hb1
    have k0 : w1.cell? ⟨w.heap.size + 1, 0, none⟩ = some (.int .i64 bn) := T1.out.b.cell 0
    have k1 : w1.cell? ⟨w.heap.size + 1, 1, none⟩ = some (.int .i64 bd) := T1.out.b.cell 1
    go_wp2_with fail
    refine (ValidRatio_c bn bd _).mono ?_; rintro e w2 ⟨rfl, hb2⟩
    rw [vb]
    have T1 := Lib.hid (T1.out.later hb2)
    clear hb2 vb k0 k1
    have c0 : w2.cell? ⟨w.heap.size, 0, none⟩ = some (.int .i64 an) := T1.out.a.cell 0
    have c1 : w2.cell? ⟨w.heap.size, 1, none⟩ = some (.int .i64 ad) := T1.out.a.cell 1
    have c2 : w2.cell? ⟨w.heap.size + 1, 0, none⟩ = some (.int .i64 bn) := T1.out.b.cell 0
    have c3 : w2.cell? ⟨w.heap.size + 1, 1, none⟩ = some (.int .i64 bd) := T1.out.b.cell 1
    have z0 : w2.cell? ⟨w.heap.size + 1 + 1, 0, none⟩ = some (.int .i64 0) := T1.out.r.cell 0
    have z1 : w2.cell? ⟨w.heap.size + 1 + 1, 1, none⟩ = some (.int .i64 0) := T1.out.r.cell 1
    have fz : ∀ o, w2.frozen? ⟨w.heap.size + 1 + 1, o, none⟩ = false := fun o => T1.out.r.free o
    go_wp2_with fail
    exact endRr Try.results18 rfl rfl HR.out T1.out.r (by omega) T1.out.bel
  have VB := Lib.hid vb
  clear vb
  obtain ⟨⟨a0, a1⟩, ⟨a2, a3⟩, -⟩ := rtB_iff.1 VA.out
  obtain ⟨⟨b0, b1⟩, ⟨b2, b3⟩, -⟩ := rtB_iff.1 VB.out
  obtain ⟨A, rfl⟩ : ∃ A : Nat, an = (A : Int) := ⟨an.toNat, by omega⟩
  obtain ⟨C, rfl⟩ : ∃ C : Nat, ad = (C : Int) := ⟨ad.toNat, by omega⟩
  obtain ⟨B, rfl⟩ : ∃ B : Nat, bn = (B : Int) := ⟨bn.toNat, by omega⟩
  obtain ⟨D, rfl⟩ : ∃ D : Nat, bd = (D : Int) := ⟨bd.toNat, by omega⟩
  have HBD := Lib.hid (show A ≤ 1000000000 ∧ 0 < C ∧ C ≤ 1000000000 ∧ B ≤ 1000000000 ∧ 0 < D ∧ D ≤ 1000000000 by omega)
  clear a0 a1 a2 a3 b0 b1 b2 b3
  go_enter Try.func18, Try.ntmps18
  go_wp2_with fail
  refine (ValidRatio_c (A : Int) (C : Int) _).mono ?_; rintro e w1 ⟨rfl, hb1⟩
  rw [VA.out]
  have T1 := Lib.hid (T0.out.later hb1)
  clear hb1
  have k0 : w1.cell? ⟨w.heap.size + 1, 0, none⟩ = some (.int .i64 (B : Int)) := T1.out.b.cell 0
  have k1 : w1.cell? ⟨w.heap.size + 1, 1, none⟩ = some (.int .i64 (D : Int)) := T1.out.b.cell 1
  go_wp2_with fail
  refine (ValidRatio_c (B : Int) (D : Int) _).mono ?_; rintro e w2 ⟨rfl, hb2⟩
  rw [VB.out]
  have T1 := Lib.hid (T1.out.later hb2)
  clear hb2 k0 k1
  have c0 : w2.cell? ⟨w.heap.size, 0, none⟩ = some (.int .i64 (A : Int)) := T1.out.a.cell 0
  have c1 : w2.cell? ⟨w.heap.size, 1, none⟩ = some (.int .i64 (C : Int)) := T1.out.a.cell 1
  have c2 : w2.cell? ⟨w.heap.size + 1, 0, none⟩ = some (.int .i64 (B : Int)) := T1.out.b.cell 0
  have c3 : w2.cell? ⟨w.heap.size + 1, 1, none⟩ = some (.int .i64 (D : Int)) := T1.out.b.cell 1
  have z0 : w2.cell? ⟨w.heap.size + 1 + 1, 0, none⟩ = some (.int .i64 0) := T1.out.r.cell 0
  have z1 : w2.cell? ⟨w.heap.size + 1 + 1, 1, none⟩ = some (.int .i64 0) := T1.out.r.cell 1
  have fz : ∀ o, w2.frozen? ⟨w.heap.size + 1 + 1, o, none⟩ = false := fun o => T1.out.r.free o
  have HR := Lib.hid (show tmR (A : Int) (C : Int) (B : Int) (D : Int) = rOf (A * B) (C * D) by rw [tm_val VA.out VB.out]; simp)
  have HF := Lib.hid (fr2 A C B D)
  have HO := Lib.hid (frOk2 (a := A) (b := C) (c := B) (d := D) (by have := HBD.out; omega) HBD.out.2.1 (by have := HBD.out; omega) (by have := HBD.out; omega) HBD.out.2.2.2.2.1 (by have := HBD.out; omega))
  obtain ⟨g, hg⟩ : ∃ g, w2.heap.size = g := ⟨_, rfl⟩
  go_wp2_with fail
  refine (product_c [(A, C), (B, D)] _ _ (frs2 w2 _ A C B D _ (by first | rfl | exact hg)) HO.out).mono ?_; rintro e w3 ⟨rfl, hb3⟩
  rw [HF.out.1, HF.out.2]
  have T3 := Lib.hid ((T1.out.later ((Below.refl _ _).alloc (Nat.le_refl _) _)).later hb3)
  have z0 : w3.cell? ⟨w.heap.size + 1 + 1, 0, none⟩ = some (.int .i64 0) := T3.out.r.cell 0
  have z1 : w3.cell? ⟨w.heap.size + 1 + 1, 1, none⟩ = some (.int .i64 0) := T3.out.r.cell 1
  have fz : ∀ o, w3.frozen? ⟨w.heap.size + 1 + 1, o, none⟩ = false := fun o => T3.out.r.free o
  clear hb3
  go_wp2_with fail
  exact endRr Try.results18 rfl rfl HR.out T3.out.r (by omega) T3.out.bel

set_option maxRecDepth 100000 in
set_option maxHeartbeats 4000000 in
theorem Plus_c (an ad bn bd : Int) (w : World) :
    Calls Try.prog 20 #[.agg #[.int .i64 an, .int .i64 ad], .agg #[.int .i64 bn, .int .i64 bd]] w fun e w' => e = .returned (rrV (plR an ad bn bd)) ∧ Below w.heap.size w w' := by
  have T0 := Lib.hid (TA3.start w an ad bn bd)
  cases va : rtB an ad
  · have HR := Lib.hid (show plR an ad bn bd = ⟨0, 0, 71⟩ by unfold plR; rw [va]; rfl)
    go_enter Try.func20, Try.ntmps20
    go_wp2_with fail
    refine (ValidRatio_c an ad _).mono ?_; rintro e w1 ⟨rfl, hb1⟩
    rw [va]
    have T1 := Lib.hid (T0.out.later hb1)
    clear hb1 va
    have c0 : w1.cell? ⟨w.heap.size, 0, none⟩ = some (.int .i64 an) := T1.out.a.cell 0
    have c1 : w1.cell? ⟨w.heap.size, 1, none⟩ = some (.int .i64 ad) := T1.out.a.cell 1
    have c2 : w1.cell? ⟨w.heap.size + 1, 0, none⟩ = some (.int .i64 bn) := T1.out.b.cell 0
    have c3 : w1.cell? ⟨w.heap.size + 1, 1, none⟩ = some (.int .i64 bd) := T1.out.b.cell 1
    have z0 : w1.cell? ⟨w.heap.size + 1 + 1, 0, none⟩ = some (.int .i64 0) := T1.out.r.cell 0
    have z1 : w1.cell? ⟨w.heap.size + 1 + 1, 1, none⟩ = some (.int .i64 0) := T1.out.r.cell 1
    have fz : ∀ o, w1.frozen? ⟨w.heap.size + 1 + 1, o, none⟩ = false := fun o => T1.out.r.free o
    go_wp2_with fail
    exact endRr Try.results20 rfl rfl HR.out T1.out.r (by omega) T1.out.bel
  have VA := Lib.hid va
  clear va
  cases vb : rtB bn bd
  · have HR := Lib.hid (show plR an ad bn bd = ⟨0, 0, 71⟩ by unfold plR; rw [VA.out, vb]; rfl)
    go_enter Try.func20, Try.ntmps20
    go_wp2_with fail
    refine (ValidRatio_c an ad _).mono ?_; rintro e w1 ⟨rfl, hb1⟩
    rw [VA.out]
    have T1 := Lib.hid (T0.out.later hb1)
    clear hb1
    have k0 : w1.cell? ⟨w.heap.size + 1, 0, none⟩ = some (.int .i64 bn) := T1.out.b.cell 0
    have k1 : w1.cell? ⟨w.heap.size + 1, 1, none⟩ = some (.int .i64 bd) := T1.out.b.cell 1
    go_wp2_with fail
    refine (ValidRatio_c bn bd _).mono ?_; rintro e w2 ⟨rfl, hb2⟩
    rw [vb]
    have T1 := Lib.hid (T1.out.later hb2)
    clear hb2 vb k0 k1
    have c0 : w2.cell? ⟨w.heap.size, 0, none⟩ = some (.int .i64 an) := T1.out.a.cell 0
    have c1 : w2.cell? ⟨w.heap.size, 1, none⟩ = some (.int .i64 ad) := T1.out.a.cell 1
    have c2 : w2.cell? ⟨w.heap.size + 1, 0, none⟩ = some (.int .i64 bn) := T1.out.b.cell 0
    have c3 : w2.cell? ⟨w.heap.size + 1, 1, none⟩ = some (.int .i64 bd) := T1.out.b.cell 1
    have z0 : w2.cell? ⟨w.heap.size + 1 + 1, 0, none⟩ = some (.int .i64 0) := T1.out.r.cell 0
    have z1 : w2.cell? ⟨w.heap.size + 1 + 1, 1, none⟩ = some (.int .i64 0) := T1.out.r.cell 1
    have fz : ∀ o, w2.frozen? ⟨w.heap.size + 1 + 1, o, none⟩ = false := fun o => T1.out.r.free o
    go_wp2_with fail
    exact endRr Try.results20 rfl rfl HR.out T1.out.r (by omega) T1.out.bel
  have VB := Lib.hid vb
  clear vb
  obtain ⟨⟨a0, a1⟩, ⟨a2, a3⟩, -⟩ := rtB_iff.1 VA.out
  obtain ⟨⟨b0, b1⟩, ⟨b2, b3⟩, -⟩ := rtB_iff.1 VB.out
  obtain ⟨A, rfl⟩ : ∃ A : Nat, an = (A : Int) := ⟨an.toNat, by omega⟩
  obtain ⟨C, rfl⟩ : ∃ C : Nat, ad = (C : Int) := ⟨ad.toNat, by omega⟩
  obtain ⟨B, rfl⟩ : ∃ B : Nat, bn = (B : Int) := ⟨bn.toNat, by omega⟩
  obtain ⟨D, rfl⟩ : ∃ D : Nat, bd = (D : Int) := ⟨bd.toNat, by omega⟩
  have HBD := Lib.hid (show A ≤ 1000000000 ∧ 0 < C ∧ C ≤ 1000000000 ∧ B ≤ 1000000000 ∧ 0 < D ∧ D ≤ 1000000000 by omega)
  clear a0 a1 a2 a3 b0 b1 b2 b3
  go_enter Try.func20, Try.ntmps20
  go_wp2_with fail
  refine (ValidRatio_c (A : Int) (C : Int) _).mono ?_; rintro e w1 ⟨rfl, hb1⟩
  rw [VA.out]
  have T1 := Lib.hid (T0.out.later hb1)
  clear hb1
  have k0 : w1.cell? ⟨w.heap.size + 1, 0, none⟩ = some (.int .i64 (B : Int)) := T1.out.b.cell 0
  have k1 : w1.cell? ⟨w.heap.size + 1, 1, none⟩ = some (.int .i64 (D : Int)) := T1.out.b.cell 1
  go_wp2_with fail
  refine (ValidRatio_c (B : Int) (D : Int) _).mono ?_; rintro e w2 ⟨rfl, hb2⟩
  rw [VB.out]
  have T1 := Lib.hid (T1.out.later hb2)
  clear hb2 k0 k1
  have c0 : w2.cell? ⟨w.heap.size, 0, none⟩ = some (.int .i64 (A : Int)) := T1.out.a.cell 0
  have c1 : w2.cell? ⟨w.heap.size, 1, none⟩ = some (.int .i64 (C : Int)) := T1.out.a.cell 1
  have c2 : w2.cell? ⟨w.heap.size + 1, 0, none⟩ = some (.int .i64 (B : Int)) := T1.out.b.cell 0
  have c3 : w2.cell? ⟨w.heap.size + 1, 1, none⟩ = some (.int .i64 (D : Int)) := T1.out.b.cell 1
  have z0 : w2.cell? ⟨w.heap.size + 1 + 1, 0, none⟩ = some (.int .i64 0) := T1.out.r.cell 0
  have z1 : w2.cell? ⟨w.heap.size + 1 + 1, 1, none⟩ = some (.int .i64 0) := T1.out.r.cell 1
  have fz : ∀ o, w2.frozen? ⟨w.heap.size + 1 + 1, o, none⟩ = false := fun o => T1.out.r.free o
  have HM1 := Lib.hid (mul_w (a := A) (b := D) (by have := HBD.out; omega) (by have := HBD.out; omega))
  have HM2 := Lib.hid (mul_w (a := B) (b := C) (by have := HBD.out; omega) (by have := HBD.out; omega))
  have HM3 := Lib.hid (mul_w (a := C) (b := D) (by have := HBD.out; omega) (by have := HBD.out; omega))
  have m1 := HM1.out.1
  have m2 := HM2.out.1
  have m3 := HM3.out.1
  have HP := Lib.hid (Nat.mul_pos HBD.out.2.1 HBD.out.2.2.2.2.1)
  have HR := Lib.hid (show plR (A : Int) (C : Int) (B : Int) (D : Int) = reR ((A * D + B * C : Nat) : Int) ((C * D : Nat) : Int) by
    rw [pl_val VA.out VB.out]; unfold reR; rw [if_neg (by have := HP.out; omega)]; simp only [Int.toNat_natCast])
  obtain ⟨x, hx⟩ : ∃ x, A * D = x := ⟨_, rfl⟩
  obtain ⟨y, hy⟩ : ∃ y, B * C = y := ⟨_, rfl⟩
  obtain ⟨z, hz⟩ : ∃ z, C * D = z := ⟨_, rfl⟩
  have HXB := Lib.hid (show x ≤ 1000000000000000000 ∧ y ≤ 1000000000000000000 ∧ z ≤ 1000000000000000000 from ⟨hx ▸ HM1.out.2, hy ▸ HM2.out.2, hz ▸ HM3.out.2⟩)
  rw [hx] at m1 HR
  rw [hy] at m2 HR
  rw [hz] at m3 HR
  have ms : IntKind.i64.wrap ((x : Int) + (y : Int)) = ((x + y : Nat) : Int) := by
    rw [show (x : Int) + (y : Int) = ((x + y : Nat) : Int) by simp]; have := HXB.out; exact wrap_id (by omega) (by omega)
  obtain ⟨s, hs⟩ : ∃ s, x + y = s := ⟨_, rfl⟩
  rw [hs] at ms HR
  have HSB := Lib.hid (show s ≤ 2000000000000000000 by have := HXB.out; omega)
  clear hx hy hz hs
  go_wp2_with fail
  refine (Reduce_c (s : Int) (z : Int) _ (by have := HSB.out; omega) (by have := HXB.out; omega)).mono ?_; rintro e w3 ⟨rfl, hb3⟩
  have T3 := Lib.hid (T1.out.later hb3)
  have z0 : w3.cell? ⟨w.heap.size + 1 + 1, 0, none⟩ = some (.int .i64 0) := T3.out.r.cell 0
  have z1 : w3.cell? ⟨w.heap.size + 1 + 1, 1, none⟩ = some (.int .i64 0) := T3.out.r.cell 1
  have fz : ∀ o, w3.frozen? ⟨w.heap.size + 1 + 1, o, none⟩ = false := fun o => T3.out.r.free o
  clear hb3
  go_wp2_with fail
  exact endRr Try.results20 rfl rfl (by rw [HR.out]) T3.out.r (by omega) T3.out.bel

set_option maxRecDepth 100000 in
set_option maxHeartbeats 4000000 in
theorem Compare_c (an ad bn bd : Int) (w : World) :
    Calls Try.prog 22 #[.agg #[.int .i64 an, .int .i64 ad], .agg #[.int .i64 bn, .int .i64 bd]] w fun e w' => e = .returned (.tuple #[.int .i64 (cpN an ad bn bd), .int .i64 (cpE an ad bn bd)]) ∧ Below w.heap.size w w' := by
  have T0 := Lib.hid (TA2.start w an ad bn bd)
  cases va : rtB an ad
  · have HR := Lib.hid (show cpN an ad bn bd = 0 ∧ cpE an ad bn bd = 71 by unfold cpN cpE; rw [va]; exact ⟨rfl, rfl⟩)
    go_enter Try.func22, Try.ntmps22
    go_wp2_with fail
    refine (ValidRatio_c an ad _).mono ?_; rintro e w1 ⟨rfl, hb1⟩
    rw [va]
    have T1 := Lib.hid (T0.out.later hb1)
    clear hb1 va
    have c0 : w1.cell? ⟨w.heap.size, 0, none⟩ = some (.int .i64 an) := T1.out.a.cell 0
    have c1 : w1.cell? ⟨w.heap.size, 1, none⟩ = some (.int .i64 ad) := T1.out.a.cell 1
    have c2 : w1.cell? ⟨w.heap.size + 1, 0, none⟩ = some (.int .i64 bn) := T1.out.b.cell 0
    have c3 : w1.cell? ⟨w.heap.size + 1, 1, none⟩ = some (.int .i64 bd) := T1.out.b.cell 1
    go_wp2_with fail
    go_ret2
    exact ⟨by rw [HR.out.1, HR.out.2]; rfl, T1.out.bel⟩
  have VA := Lib.hid va
  clear va
  cases vb : rtB bn bd
  · have HR := Lib.hid (show cpN an ad bn bd = 0 ∧ cpE an ad bn bd = 71 by unfold cpN cpE; rw [VA.out, vb]; exact ⟨rfl, rfl⟩)
    go_enter Try.func22, Try.ntmps22
    go_wp2_with fail
    refine (ValidRatio_c an ad _).mono ?_; rintro e w1 ⟨rfl, hb1⟩
    rw [VA.out]
    have T1 := Lib.hid (T0.out.later hb1)
    clear hb1
    have k0 : w1.cell? ⟨w.heap.size + 1, 0, none⟩ = some (.int .i64 bn) := T1.out.b.cell 0
    have k1 : w1.cell? ⟨w.heap.size + 1, 1, none⟩ = some (.int .i64 bd) := T1.out.b.cell 1
    go_wp2_with fail
    refine (ValidRatio_c bn bd _).mono ?_; rintro e w2 ⟨rfl, hb2⟩
    rw [vb]
    have T1 := Lib.hid (T1.out.later hb2)
    clear hb2 vb k0 k1
    have c0 : w2.cell? ⟨w.heap.size, 0, none⟩ = some (.int .i64 an) := T1.out.a.cell 0
    have c1 : w2.cell? ⟨w.heap.size, 1, none⟩ = some (.int .i64 ad) := T1.out.a.cell 1
    have c2 : w2.cell? ⟨w.heap.size + 1, 0, none⟩ = some (.int .i64 bn) := T1.out.b.cell 0
    have c3 : w2.cell? ⟨w.heap.size + 1, 1, none⟩ = some (.int .i64 bd) := T1.out.b.cell 1
    go_wp2_with fail
    go_ret2
    exact ⟨by rw [HR.out.1, HR.out.2]; rfl, T1.out.bel⟩
  have VB := Lib.hid vb
  clear vb
  obtain ⟨⟨a0, a1⟩, ⟨a2, a3⟩, -⟩ := rtB_iff.1 VA.out
  obtain ⟨⟨b0, b1⟩, ⟨b2, b3⟩, -⟩ := rtB_iff.1 VB.out
  obtain ⟨A, rfl⟩ : ∃ A : Nat, an = (A : Int) := ⟨an.toNat, by omega⟩
  obtain ⟨C, rfl⟩ : ∃ C : Nat, ad = (C : Int) := ⟨ad.toNat, by omega⟩
  obtain ⟨B, rfl⟩ : ∃ B : Nat, bn = (B : Int) := ⟨bn.toNat, by omega⟩
  obtain ⟨D, rfl⟩ : ∃ D : Nat, bd = (D : Int) := ⟨bd.toNat, by omega⟩
  have HBD := Lib.hid (show A ≤ 1000000000 ∧ 0 < C ∧ C ≤ 1000000000 ∧ B ≤ 1000000000 ∧ 0 < D ∧ D ≤ 1000000000 by omega)
  clear a0 a1 a2 a3 b0 b1 b2 b3
  go_enter Try.func22, Try.ntmps22
  go_wp2_with fail
  refine (ValidRatio_c (A : Int) (C : Int) _).mono ?_; rintro e w1 ⟨rfl, hb1⟩
  rw [VA.out]
  have T1 := Lib.hid (T0.out.later hb1)
  clear hb1
  have k0 : w1.cell? ⟨w.heap.size + 1, 0, none⟩ = some (.int .i64 (B : Int)) := T1.out.b.cell 0
  have k1 : w1.cell? ⟨w.heap.size + 1, 1, none⟩ = some (.int .i64 (D : Int)) := T1.out.b.cell 1
  go_wp2_with fail
  refine (ValidRatio_c (B : Int) (D : Int) _).mono ?_; rintro e w2 ⟨rfl, hb2⟩
  rw [VB.out]
  have T1 := Lib.hid (T1.out.later hb2)
  clear hb2 k0 k1
  have c0 : w2.cell? ⟨w.heap.size, 0, none⟩ = some (.int .i64 (A : Int)) := T1.out.a.cell 0
  have c1 : w2.cell? ⟨w.heap.size, 1, none⟩ = some (.int .i64 (C : Int)) := T1.out.a.cell 1
  have c2 : w2.cell? ⟨w.heap.size + 1, 0, none⟩ = some (.int .i64 (B : Int)) := T1.out.b.cell 0
  have c3 : w2.cell? ⟨w.heap.size + 1, 1, none⟩ = some (.int .i64 (D : Int)) := T1.out.b.cell 1
  have HM1 := Lib.hid (mul_w (a := A) (b := D) (by have := HBD.out; omega) (by have := HBD.out; omega))
  have HM2 := Lib.hid (mul_w (a := B) (b := C) (by have := HBD.out; omega) (by have := HBD.out; omega))
  have m1 := HM1.out.1
  have m2 := HM2.out.1
  have HR := Lib.hid (show cpN (A : Int) (C : Int) (B : Int) (D : Int) = sgn (A * D) (B * C) ∧ cpE (A : Int) (C : Int) (B : Int) (D : Int) = 0 by
    have := cp_val VA.out VB.out
    simpa using this)
  obtain ⟨x, hx⟩ : ∃ x, A * D = x := ⟨_, rfl⟩
  obtain ⟨y, hy⟩ : ∃ y, B * C = y := ⟨_, rfl⟩
  rw [hx] at m1 HR
  rw [hy] at m2 HR
  clear hx hy
  go_wp2_with fail
  refine (cmp_c x y _).mono ?_; rintro e w3 ⟨rfl, rfl⟩
  go_wp2_with fail
  go_ret2
  exact ⟨by rw [HR.out.1, HR.out.2]; rfl, T1.out.bel⟩
end Go.Proofs.Ytmmfmanjajefcaa

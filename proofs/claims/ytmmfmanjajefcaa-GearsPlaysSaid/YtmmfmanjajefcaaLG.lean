/- Layer 7: teeth, on both sides. -/
import Derived.Test.YtmmfmanjajefcaaLF
set_option linter.all false
namespace Go.Proofs.Ytmmfmanjajefcaa
open Go.RowKit

/-- what is told of a mesh -/
def huB (a b p : Int) : Bool := meshB a b p && decide (a.toNat.gcd b.toNat = 1)
def huE (a b p : Int) : Int := if meshB a b p then 0 else 70
def grV (a b p : Int) : Int := if meshB a b p then (grip a.toNat b.toNat : Nat) else 0
theorem mesh_nat {a b p : Int} (h : meshB a b p = true) : ∃ X Y : Nat, a = (X : Int) ∧ b = (Y : Int) ∧ 0 < X ∧ X ≤ 4096 ∧ 0 < Y ∧ Y ≤ 4096 := by
  unfold meshB at h
  rw [Bool.and_eq_true, Bool.and_eq_true] at h
  have i1 := inB_iff.1 h.1.1
  have i2 := inB_iff.1 h.1.2
  exact ⟨a.toNat, b.toNat, by omega, by omega, by omega, by omega, by omega, by omega⟩

set_option maxRecDepth 100000 in
set_option maxHeartbeats 4000000 in
theorem Hunting_c (a b p : Int) (w : World) : Calls Try.prog 30 #[.agg #[.int .i64 a, .int .i64 b, .int .i64 p]] w fun e w' => e = .returned (.tuple #[.bool (huB a b p), .int .i64 (huE a b p)]) ∧ Below w.heap.size w w' := by
  have HB := Lib.hid (show Below w.heap.size w (w.alloc (.cells #[.int .i64 a, .int .i64 b, .int .i64 p] 37)) from (Below.refl _ _).alloc (Nat.le_refl _) _)
  have HX := Lib.hid (Box.made w 37 #[.int .i64 a, .int .i64 b, .int .i64 p])
  cases hv : meshB a b p
  · have HR := Lib.hid (show huB a b p = false ∧ huE a b p = 70 by unfold huB huE; rw [hv]; exact ⟨rfl, rfl⟩)
    go_enter Try.func30, Try.ntmps30
    go_wp2_with fail
    refine (isMesh_c a b p _).mono ?_; rintro e w1 ⟨rfl, hb1⟩
    rw [hv]
    have B1 := Lib.hid (HB.out.trans (hb1.mono (by simp)))
    clear hb1 hv
    go_wp2_with fail
    go_ret2
    exact ⟨by rw [HR.out.1, HR.out.2]; rfl, B1.out⟩
  obtain ⟨X, Y, rfl, rfl, x0, x1, y0, y1⟩ := mesh_nat hv
  have HV := Lib.hid hv
  have HXY := Lib.hid (show 0 < X ∧ X ≤ 4096 ∧ 0 < Y ∧ Y ≤ 4096 by omega)
  clear hv x0 x1 y0 y1
  go_enter Try.func30, Try.ntmps30
  go_wp2_with fail
  refine (isMesh_c (X : Int) (Y : Int) p _).mono ?_; rintro e w1 ⟨rfl, hb1⟩
  rw [HV.out]
  have B1 := Lib.hid (HB.out.trans (hb1.mono (by simp)))
  have X1 := Lib.hid (HX.out.later hb1)
  have c0 : w1.cell? ⟨w.heap.size, 0, none⟩ = some (.int .i64 (X : Int)) := X1.out.cell 0
  have c1 : w1.cell? ⟨w.heap.size, 1, none⟩ = some (.int .i64 (Y : Int)) := X1.out.cell 1
  clear hb1
  obtain ⟨g, hg⟩ : ∃ g, X.gcd Y = g := ⟨_, rfl⟩
  have HR := Lib.hid (show huB (X : Int) (Y : Int) p = decide (g = 1) ∧ huE (X : Int) (Y : Int) p = 0 by unfold huB huE; rw [HV.out, ← hg]; exact ⟨rfl, rfl⟩)
  have G := Lib.hid (fun v => gcd_c X Y v (by have := HXY.out; omega) (by have := HXY.out; omega))
  rw [hg] at G
  clear hg
  go_wp2_with fail
  refine (G.out _).mono ?_; rintro e w2 ⟨rfl, hb2⟩
  have B2 := Lib.hid (B1.out.trans (hb2.mono B1.out.size))
  have HE := Lib.hid (show ((g : Int) == 1) = decide (g = 1) by rw [Bool.eq_iff_iff, beq_iff_eq, decide_eq_true_iff]; omega)
  clear hb2
  go_wp2_with fail
  go_ret2
  exact ⟨by rw [HR.out.1, HR.out.2, ← HE.out]; rfl, B2.out⟩
set_option maxRecDepth 100000 in
set_option maxHeartbeats 4000000 in
theorem rHunting_c (a b p : Int) (w : World) : Calls Try.prog 31 #[.agg #[.int .i64 a, .int .i64 b, .int .i64 p]] w fun e w' => e = .returned (.tuple #[.bool (huB a b p), .int .i64 (huE a b p)]) ∧ Below w.heap.size w w' := by
  have HB := Lib.hid (show Below w.heap.size w (w.alloc (.cells #[.int .i64 a, .int .i64 b, .int .i64 p] 37)) from (Below.refl _ _).alloc (Nat.le_refl _) _)
  have HX := Lib.hid (Box.made w 37 #[.int .i64 a, .int .i64 b, .int .i64 p])
  cases hv : meshB a b p
  · have HR := Lib.hid (show huB a b p = false ∧ huE a b p = 70 by unfold huB huE; rw [hv]; exact ⟨rfl, rfl⟩)
    go_enter Try.func31, Try.ntmps31
    go_wp2_with fail
    refine (rValidMesh_c a b p _).mono ?_; rintro e w1 ⟨rfl, hb1⟩
    rw [hv]
    have B1 := Lib.hid (HB.out.trans (hb1.mono (by simp)))
    clear hb1 hv
    go_wp2_with fail
    go_ret2
    exact ⟨by rw [HR.out.1, HR.out.2]; rfl, B1.out⟩
  obtain ⟨X, Y, rfl, rfl, x0, x1, y0, y1⟩ := mesh_nat hv
  have HV := Lib.hid hv
  have HXY := Lib.hid (show 0 < X ∧ X ≤ 4096 ∧ 0 < Y ∧ Y ≤ 4096 by omega)
  clear hv x0 x1 y0 y1
  go_enter Try.func31, Try.ntmps31
  go_wp2_with fail
  refine (rValidMesh_c (X : Int) (Y : Int) p _).mono ?_; rintro e w1 ⟨rfl, hb1⟩
  rw [HV.out]
  have B1 := Lib.hid (HB.out.trans (hb1.mono (by simp)))
  have X1 := Lib.hid (HX.out.later hb1)
  have c0 : w1.cell? ⟨w.heap.size, 0, none⟩ = some (.int .i64 (X : Int)) := X1.out.cell 0
  have c1 : w1.cell? ⟨w.heap.size, 1, none⟩ = some (.int .i64 (Y : Int)) := X1.out.cell 1
  clear hb1
  obtain ⟨g, hg⟩ : ∃ g, X.gcd Y = g := ⟨_, rfl⟩
  have HR := Lib.hid (show huB (X : Int) (Y : Int) p = decide (g = 1) ∧ huE (X : Int) (Y : Int) p = 0 by unfold huB huE; rw [HV.out, ← hg]; exact ⟨rfl, rfl⟩)
  have G := Lib.hid (fun v => rgcd_c X Y v (by have := HXY.out; omega) (by have := HXY.out; omega))
  rw [hg] at G
  clear hg
  go_wp2_with fail
  refine (G.out _).mono ?_; rintro e w2 ⟨rfl, hb2⟩
  have B2 := Lib.hid (B1.out.trans (hb2.mono B1.out.size))
  have HE := Lib.hid (show ((g : Int) == 1) = decide (g = 1) by rw [Bool.eq_iff_iff, beq_iff_eq, decide_eq_true_iff]; omega)
  clear hb2
  go_wp2_with fail
  go_ret2
  exact ⟨by rw [HR.out.1, HR.out.2, ← HE.out]; rfl, B2.out⟩
set_option maxRecDepth 100000 in
set_option maxHeartbeats 4000000 in
theorem Grips_c (a b p : Int) (w : World) : Calls Try.prog 32 #[.agg #[.int .i64 a, .int .i64 b, .int .i64 p]] w fun e w' => e = .returned (.tuple #[.int .i64 (grV a b p), .int .i64 (huE a b p)]) ∧ Below w.heap.size w w' := by
  have HB := Lib.hid (show Below w.heap.size w (w.alloc (.cells #[.int .i64 a, .int .i64 b, .int .i64 p] 37)) from (Below.refl _ _).alloc (Nat.le_refl _) _)
  have HX := Lib.hid (Box.made w 37 #[.int .i64 a, .int .i64 b, .int .i64 p])
  cases hv : meshB a b p
  · have HR := Lib.hid (show grV a b p = 0 ∧ huE a b p = 70 by unfold grV huE; rw [hv]; exact ⟨rfl, rfl⟩)
    go_enter Try.func32, Try.ntmps32
    go_wp2_with fail
    refine (isMesh_c a b p _).mono ?_; rintro e w1 ⟨rfl, hb1⟩
    rw [hv]
    have B1 := Lib.hid (HB.out.trans (hb1.mono (by simp)))
    clear hb1 hv
    go_wp2_with fail
    go_ret2
    exact ⟨by rw [HR.out.1, HR.out.2]; rfl, B1.out⟩
  obtain ⟨X, Y, rfl, rfl, x0, x1, y0, y1⟩ := mesh_nat hv
  have HV := Lib.hid hv
  have HXY := Lib.hid (show 0 < X ∧ X ≤ 4096 ∧ 0 < Y ∧ Y ≤ 4096 by omega)
  clear hv x0 x1 y0 y1
  go_enter Try.func32, Try.ntmps32
  go_wp2_with fail
  refine (isMesh_c (X : Int) (Y : Int) p _).mono ?_; rintro e w1 ⟨rfl, hb1⟩
  rw [HV.out]
  have B1 := Lib.hid (HB.out.trans (hb1.mono (by simp)))
  have X1 := Lib.hid (HX.out.later hb1)
  have c0 : w1.cell? ⟨w.heap.size, 0, none⟩ = some (.int .i64 (X : Int)) := X1.out.cell 0
  have c1 : w1.cell? ⟨w.heap.size, 1, none⟩ = some (.int .i64 (Y : Int)) := X1.out.cell 1
  clear hb1
  obtain ⟨g, hg⟩ : ∃ g, X.gcd Y = g := ⟨_, rfl⟩
  have g0 : 0 < g := by rw [← hg]; exact Nat.gcd_pos_of_pos_right _ HXY.out.2.2.1
  have gx : g ≤ 4096 := by rw [← hg]; exact Nat.le_trans (Nat.le_of_dvd HXY.out.1 (Nat.gcd_dvd_left _ _)) HXY.out.2.1
  have G := Lib.hid (fun v => gcd_q X Y v (by have := HXY.out; omega) (by have := HXY.out; omega))
  rw [hg] at G
  obtain ⟨r, hr⟩ : ∃ r, grip X Y = r := ⟨_, rfl⟩
  have HR := Lib.hid (show grV (X : Int) (Y : Int) p = (r : Int) ∧ huE (X : Int) (Y : Int) p = 0 by unfold grV huE; rw [HV.out, ← hr]; exact ⟨rfl, rfl⟩)
  obtain ⟨x1, hx1⟩ : ∃ z, X / g = z := ⟨_, rfl⟩
  have qx : (X : Int) / (g : Int) = (x1 : Int) := by rw [← hx1]; simp
  have HX4 := Lib.hid (show x1 ≤ 4096 by rw [← hx1]; exact Nat.le_trans (Nat.div_le_self _ _) HXY.out.2.1)
  have w1' : IntKind.i64.wrap (x1 : Int) = (x1 : Int) := wrap_id (by omega) (by have := HX4.out; omega)
  have er : x1 * Y = r := by rw [← hx1, ← hr, ← hg]; rfl
  have m1 : IntKind.i64.wrap ((x1 : Int) * (Y : Int)) = (r : Int) := by
    have h : x1 * Y ≤ 4096 * 4096 := Nat.mul_le_mul HX4.out HXY.out.2.2.2
    rw [show (x1 : Int) * (Y : Int) = ((x1 * Y : Nat) : Int) by simp, er]; rw [er] at h; exact wrap_id (by omega) (by omega)
  clear hx1 er
  have z0 : decide ((g : Int) = 0) = false := by simp; omega
  have z1 : decide (g = 0) = false := by simp; omega
  have g0' : (0 : Int) < (g : Int) := by omega
  have HW := Lib.hid B1.out
  clear hg hr g0 gx
  go_wp2_with fail
  go_quiet ((go_at_call 64; exact Calls.quiet_of (G.out _)))
  have B2 := Lib.hid (HW.out.trans (below_drewN w1 nq))
  clear m1 qx z0 z1 g0'
  go_wp2_with fail
  go_ret2
  exact ⟨by rw [HR.out.1, HR.out.2]; rfl, B2.out⟩
set_option maxRecDepth 100000 in
set_option maxHeartbeats 4000000 in
theorem rGrips_c (a b p : Int) (w : World) : Calls Try.prog 33 #[.agg #[.int .i64 a, .int .i64 b, .int .i64 p]] w fun e w' => e = .returned (.tuple #[.int .i64 (grV a b p), .int .i64 (huE a b p)]) ∧ Below w.heap.size w w' := by
  have HB := Lib.hid (show Below w.heap.size w (w.alloc (.cells #[.int .i64 a, .int .i64 b, .int .i64 p] 37)) from (Below.refl _ _).alloc (Nat.le_refl _) _)
  have HX := Lib.hid (Box.made w 37 #[.int .i64 a, .int .i64 b, .int .i64 p])
  cases hv : meshB a b p
  · have HR := Lib.hid (show grV a b p = 0 ∧ huE a b p = 70 by unfold grV huE; rw [hv]; exact ⟨rfl, rfl⟩)
    go_enter Try.func33, Try.ntmps33
    go_wp2_with fail
    refine (rValidMesh_c a b p _).mono ?_; rintro e w1 ⟨rfl, hb1⟩
    rw [hv]
    have B1 := Lib.hid (HB.out.trans (hb1.mono (by simp)))
    clear hb1 hv
    go_wp2_with fail
    go_ret2
    exact ⟨by rw [HR.out.1, HR.out.2]; rfl, B1.out⟩
  obtain ⟨X, Y, rfl, rfl, x0, x1, y0, y1⟩ := mesh_nat hv
  have HV := Lib.hid hv
  have HXY := Lib.hid (show 0 < X ∧ X ≤ 4096 ∧ 0 < Y ∧ Y ≤ 4096 by omega)
  clear hv x0 x1 y0 y1
  go_enter Try.func33, Try.ntmps33
  go_wp2_with fail
  refine (rValidMesh_c (X : Int) (Y : Int) p _).mono ?_; rintro e w1 ⟨rfl, hb1⟩
  rw [HV.out]
  have B1 := Lib.hid (HB.out.trans (hb1.mono (by simp)))
  have X1 := Lib.hid (HX.out.later hb1)
  have c0 : w1.cell? ⟨w.heap.size, 0, none⟩ = some (.int .i64 (X : Int)) := X1.out.cell 0
  have c1 : w1.cell? ⟨w.heap.size, 1, none⟩ = some (.int .i64 (Y : Int)) := X1.out.cell 1
  clear hb1
  obtain ⟨g, hg⟩ : ∃ g, X.gcd Y = g := ⟨_, rfl⟩
  have g0 : 0 < g := by rw [← hg]; exact Nat.gcd_pos_of_pos_right _ HXY.out.2.2.1
  have gx : g ≤ 4096 := by rw [← hg]; exact Nat.le_trans (Nat.le_of_dvd HXY.out.1 (Nat.gcd_dvd_left _ _)) HXY.out.2.1
  have G := Lib.hid (fun v => rgcd_q X Y v (by have := HXY.out; omega) (by have := HXY.out; omega))
  rw [hg] at G
  obtain ⟨r, hr⟩ : ∃ r, grip X Y = r := ⟨_, rfl⟩
  have HR := Lib.hid (show grV (X : Int) (Y : Int) p = (r : Int) ∧ huE (X : Int) (Y : Int) p = 0 by unfold grV huE; rw [HV.out, ← hr]; exact ⟨rfl, rfl⟩)
  obtain ⟨x1, hx1⟩ : ∃ z, X * Y = z := ⟨_, rfl⟩
  have HX4 := Lib.hid (show x1 ≤ 16777216 by rw [← hx1]; exact Nat.mul_le_mul HXY.out.2.1 HXY.out.2.2.2)
  have m1 : IntKind.i64.wrap ((X : Int) * (Y : Int)) = (x1 : Int) := by
    rw [show (X : Int) * (Y : Int) = ((X * Y : Nat) : Int) by simp, hx1]; have := HX4.out; exact wrap_id (by omega) (by omega)
  have er : x1 / g = r := by rw [← hx1, ← hr, ← hg]; exact grip_eq X Y
  have qx : (x1 : Int) / (g : Int) = (r : Int) := by rw [← er]; simp
  have w1' : IntKind.i64.wrap (r : Int) = (r : Int) := wrap_id (by omega) (by have := HX4.out; have : r ≤ x1 := (by rw [← er]; exact Nat.div_le_self _ _); omega)
  have x10 : (0 : Int) ≤ (x1 : Int) := by omega
  clear hx1 er
  have z0 : decide ((g : Int) = 0) = false := by simp; omega
  have z1 : decide (g = 0) = false := by simp; omega
  have g0' : (0 : Int) < (g : Int) := by omega
  have HW := Lib.hid B1.out
  clear hg hr g0 gx
  go_wp2_with fail
  go_quiet ((go_at_call 60; exact Calls.quiet_of_same (G.out _)))
  have B2 := Lib.hid (HW.out.trans (below_drewN w1 nq))
  clear m1 qx z0 z1 g0'
  go_wp2_with fail
  go_ret2
  exact ⟨by rw [HR.out.1, HR.out.2]; rfl, B2.out⟩
set_option maxRecDepth 100000 in
set_option maxHeartbeats 4000000 in
theorem stand_c (z n d T : Nat) (w : World) (hz : 0 < z) (hz2 : z ≤ 4096) (hn : n ≤ 1000000000) (hd : 0 < d) (hd2 : d ≤ 1000000000) (hT : T ≤ 1000000) : Calls Try.prog 73 #[.int .i64 (z : Int), .agg #[.int .i64 (n : Int), .int .i64 (d : Int)], .int .i64 (T : Int)] w fun e w' => e = .returned (.int .i64 ((T * n * z / d % z : Nat) : Int)) ∧ Below w.heap.size w w' := by
  have HB := Lib.hid (show Below w.heap.size w (w.alloc (.cells #[.int .i64 (n : Int), .int .i64 (d : Int)] 23)) from (Below.refl _ _).alloc (Nat.le_refl _) _)
  obtain ⟨x, hx⟩ : ∃ x, T * n = x := ⟨_, rfl⟩
  have bx : x ≤ 1000000000000000 := by rw [← hx]; exact Nat.mul_le_mul hT hn
  obtain ⟨y, hy⟩ : ∃ y, x * z = y := ⟨_, rfl⟩
  have by1 : y ≤ 4096000000000000000 := by rw [← hy]; exact Nat.mul_le_mul bx hz2
  obtain ⟨q, hq⟩ : ∃ q, y / d = q := ⟨_, rfl⟩
  have bq : q ≤ y := by rw [← hq]; exact Nat.div_le_self _ _
  obtain ⟨r, hr⟩ : ∃ r, q % z = r := ⟨_, rfl⟩
  have br : r < z := by rw [← hr]; exact Nat.mod_lt _ hz
  have m1 : IntKind.i64.wrap ((T : Int) * (n : Int)) = (x : Int) := by rw [show (T : Int) * (n : Int) = ((T * n : Nat) : Int) by simp, hx]; exact wrap_id (by omega) (by omega)
  have m2 : IntKind.i64.wrap ((x : Int) * (z : Int)) = (y : Int) := by rw [show (x : Int) * (z : Int) = ((x * z : Nat) : Int) by simp, hy]; exact wrap_id (by omega) (by omega)
  have q1 : (y : Int) / (d : Int) = (q : Int) := by rw [← hq]; simp
  have w1 : IntKind.i64.wrap (q : Int) = (q : Int) := wrap_id (by omega) (by omega)
  have q2 : (q : Int) % (z : Int) = (r : Int) := by rw [← hr]; simp
  have w2 : IntKind.i64.wrap (r : Int) = (r : Int) := wrap_id (by omega) (by omega)
  have z1 : decide ((d : Int) = 0) = false := by simp; omega
  have z2 : decide (d = 0) = false := by simp; omega
  have z3 : decide ((z : Int) = 0) = false := by simp; omega
  have z4 : decide (z = 0) = false := by simp; omega
  have d0 : (0 : Int) < (d : Int) := by omega
  have zz0 : (0 : Int) < (z : Int) := by omega
  have HR := Lib.hid (show T * n * z / d % z = r by rw [hx, hy, hq, hr])
  clear hz hz2 hn hd hd2 hT hx hy hq hr bx by1 bq br
  go_enter Try.func73, Try.ntmps73
  go_wp2_with fail
  go_ret
  exact ⟨ret_int (by rw [HR.out]; first | rfl | exact q2), HB.out⟩
set_option maxRecDepth 100000 in
set_option maxHeartbeats 4000000 in
theorem rstand_c (z n d T : Nat) (w : World) (hz : 0 < z) (hz2 : z ≤ 4096) (hn : n ≤ 1000000000) (hd : 0 < d) (hd2 : d ≤ 1000000000) (hT : T ≤ 1000000) : Calls Try.prog 76 #[.agg #[.int .i64 (n : Int), .int .i64 (d : Int)], .int .i64 (T : Int), .int .i64 (z : Int)] w fun e w' => e = .returned (.int .i64 ((T * n * z / d % z : Nat) : Int)) ∧ Below w.heap.size w w' := by
  have HB := Lib.hid (show Below w.heap.size w (w.alloc (.cells #[.int .i64 (n : Int), .int .i64 (d : Int)] 23)) from (Below.refl _ _).alloc (Nat.le_refl _) _)
  obtain ⟨x, hx⟩ : ∃ x, T * n = x := ⟨_, rfl⟩
  have bx : x ≤ 1000000000000000 := by rw [← hx]; exact Nat.mul_le_mul hT hn
  obtain ⟨y, hy⟩ : ∃ y, x * z = y := ⟨_, rfl⟩
  have by1 : y ≤ 4096000000000000000 := by rw [← hy]; exact Nat.mul_le_mul bx hz2
  obtain ⟨q, hq⟩ : ∃ q, y / d = q := ⟨_, rfl⟩
  have bq : q ≤ y := by rw [← hq]; exact Nat.div_le_self _ _
  obtain ⟨r, hr⟩ : ∃ r, q % z = r := ⟨_, rfl⟩
  have br : r < z := by rw [← hr]; exact Nat.mod_lt _ hz
  have m1 : IntKind.i64.wrap ((T : Int) * (n : Int)) = (x : Int) := by rw [show (T : Int) * (n : Int) = ((T * n : Nat) : Int) by simp, hx]; exact wrap_id (by omega) (by omega)
  have m2 : IntKind.i64.wrap ((x : Int) * (z : Int)) = (y : Int) := by rw [show (x : Int) * (z : Int) = ((x * z : Nat) : Int) by simp, hy]; exact wrap_id (by omega) (by omega)
  have q1 : (y : Int) / (d : Int) = (q : Int) := by rw [← hq]; simp
  have w1 : IntKind.i64.wrap (q : Int) = (q : Int) := wrap_id (by omega) (by omega)
  have q2 : (q : Int) % (z : Int) = (r : Int) := by rw [← hr]; simp
  have w2 : IntKind.i64.wrap (r : Int) = (r : Int) := wrap_id (by omega) (by omega)
  have z1 : decide ((d : Int) = 0) = false := by simp; omega
  have z2 : decide (d = 0) = false := by simp; omega
  have z3 : decide ((z : Int) = 0) = false := by simp; omega
  have z4 : decide (z = 0) = false := by simp; omega
  have d0 : (0 : Int) < (d : Int) := by omega
  have zz0 : (0 : Int) < (z : Int) := by omega
  have HR := Lib.hid (show T * n * z / d % z = r by rw [hx, hy, hq, hr])
  clear hz hz2 hn hd hd2 hT hx hy hq hr bx by1 bq br
  go_enter Try.func76, Try.ntmps76
  go_wp2_with fail
  go_ret
  exact ⟨ret_int (by rw [HR.out]; first | rfl | exact q2), HB.out⟩
end Go.Proofs.Ytmmfmanjajefcaa

/- Layer 3: what falls in some turns; and the specification's side. -/
import Derived.Test.YtobhnkkjhglgcaaI3
set_option linter.unusedSimpArgs false
namespace Go.Proofs.Ytobhnkkjhglgcaa
open Go.RowKit

set_option maxHeartbeats 4000000 in
theorem Fed_c (x d k n : Int) (w : World) : Calls Try.prog 9 #[feedV x d k, .int .i64 n] w fun e w' => e = .returned (.tuple #[.int .i64 (fdV x d k n), .int .i64 (drE x d k n)]) ∧ Below w.heap.size w w' := by
  have HBX := Lib.hid (feedBx_made w x d k)
  cases hf : feedB x d k
  · have HF := Lib.hid hf
    have HV := Lib.hid (show fdV x d k n = 0 ∧ drE x d k n = 33 by unfold fdV drE; rw [hf]; exact ⟨rfl, rfl⟩)
    rw [HV.out.1, HV.out.2]
    clear hf
    go_enter Try.func9, Try.ntmps9
    go_wp2_with fail
    refine (ValidFeed_c x d k _).mono ?_; rintro e w1 ⟨rfl, hb1⟩
    rw [HF.out]
    go_wp2_with fail
    go_ret2
    exact ⟨rfl, boxed hb1⟩
  have HF := Lib.hid hf
  cases hn : inB n 0 1000000
  · have HV := Lib.hid (show fdV x d k n = 0 ∧ drE x d k n = 1 by unfold fdV drE; rw [hf, hn]; exact ⟨rfl, rfl⟩)
    rw [HV.out.1, HV.out.2]
    by_cases g : n < 0
    · have d0 : decide (n < 0) = true := by simpa using g
      clear hf hn g
      go_enter Try.func9, Try.ntmps9
      go_wp2_with fail
      refine (ValidFeed_c x d k _).mono ?_; rintro e w1 ⟨rfl, hb1⟩
      rw [HF.out]
      go_wp2_with fail
      go_ret2
      exact ⟨rfl, boxed hb1⟩
    · have d0 : decide (n < 0) = false := by simpa using g
      have d1 : decide (1000000 < n) = true := decide_eq_true (by have := inB_not.1 hn; omega)
      clear hf hn g
      go_enter Try.func9, Try.ntmps9
      go_wp2_with fail
      refine (ValidFeed_c x d k _).mono ?_; rintro e w1 ⟨rfl, hb1⟩
      rw [HF.out]
      go_wp2_with fail
      go_ret2
      exact ⟨rfl, boxed hb1⟩
  obtain ⟨⟨h0, h1⟩, ⟨d0, d1⟩, k0, k1⟩ := feedB_iff.1 hf
  obtain ⟨n0, n1⟩ := inB_iff.1 hn
  obtain ⟨m, hm⟩ : ∃ m, n * k = m := ⟨_, rfl⟩
  obtain ⟨m0, m1⟩ := mul_in n0 n1 (show 0 ≤ k by omega) k1
  rw [hm] at m0 m1
  obtain ⟨p, hp⟩ : ∃ p, d * m = p := ⟨_, rfl⟩
  obtain ⟨p0, p1⟩ := mul_in (show 0 ≤ d by omega) d1 m0 m1
  rw [hp] at p0 p1
  obtain ⟨r, hr⟩ : ∃ r, min x p = r := ⟨_, rfl⟩
  have HV := Lib.hid (show fdV x d k n = r ∧ drE x d k n = 0 by unfold fdV drE; rw [hf, hn, hm, hp, hr]; exact ⟨rfl, rfl⟩)
  rw [HV.out.1, HV.out.2]
  have HP := Lib.hid hp
  have HR := Lib.hid hr
  have HN := Lib.hid (show 0 ≤ p ∧ p ≤ 5000000000000000 by omega)
  have wm : IntKind.i64.wrap m = m := wrap_id (by omega) (by omega)
  have e0 : decide (n < 0) = false := decide_eq_false (by omega)
  have e1 : decide (1000000 < n) = false := decide_eq_false (by omega)
  clear hf hn hp hr p0 p1 h0 h1 d0 d1 k0 k1 n0 n1 m0 m1
  go_enter Try.func9, Try.ntmps9
  go_wp2_with fail
  refine (ValidFeed_c x d k _).mono ?_; rintro e w1 ⟨rfl, hb1⟩
  rw [HF.out]
  have b1 := HBX.out.later hb1
  have q0 : w1.cell? ⟨w.heap.size, 0, none⟩ = some (.int .i64 x) := b1.cell 0
  have q1 : w1.cell? ⟨w.heap.size, 1, none⟩ = some (.int .i64 d) := b1.cell 1
  have q2 : w1.cell? ⟨w.heap.size, 2, none⟩ = some (.int .i64 k) := b1.cell 2
  have HB1 := Lib.hid (boxed hb1)
  clear hb1 b1
  go_wp2_with fail
  refine (fallen_c x d k m p r _ HP.out HN.out.1 HN.out.2 HR.out).mono ?_; rintro e w2 ⟨rfl, hb2⟩
  go_wp2_with fail
  go_ret2
  exact ⟨rfl, chain HB1.out hb2⟩

/-- a product that stops at the greatest number of grains -/
def rt (a b : Int) : Int := if 1000000 / b < a then 1000000 else a * b
theorem rt_in {a b : Int} (ha : 0 ≤ a) (hb : 1 ≤ b) : 0 ≤ rt a b ∧ rt a b ≤ 1000000 ∧ (rt a b = a * b ∨ rt a b = 1000000 ∧ 1000000 ≤ a * b) := by
  unfold rt
  have h1 := Int.emod_nonneg 1000000 (show b ≠ 0 by omega)
  have h2 := Int.emod_lt_of_pos 1000000 (show 0 < b by omega)
  have h3 := Int.mul_ediv_add_emod 1000000 b
  generalize 1000000 / b = q at *
  generalize (1000000 : Int) % b = y at *
  have h0 := Int.mul_nonneg ha (show 0 ≤ b by omega)
  by_cases g : q < a
  · rw [if_pos g]
    have : (q + 1) * b ≤ a * b := Int.mul_le_mul_of_nonneg_right (by omega) (by omega)
    rw [Int.add_mul, Int.one_mul, Int.mul_comm q b] at this
    omega
  · rw [if_neg g]
    have : a * b ≤ q * b := Int.mul_le_mul_of_nonneg_right (by omega) (by omega)
    rw [Int.mul_comm q b] at this
    omega
theorem rt_min {a b x : Int} (ha : 0 ≤ a) (hb : 1 ≤ b) (hx : x ≤ 1000000) : min x (rt a b) = min x (a * b) := by
  have := rt_in ha hb
  omega
theorem rt_min2 {a b c x : Int} (ha : 0 ≤ a) (hb : 1 ≤ b) (hc : 1 ≤ c) (hx : x ≤ 1000000) : min x (rt (rt a b) c) = min x (c * (a * b)) := by
  obtain ⟨h1, h2, h3⟩ := rt_in ha hb
  rw [rt_min h1 hc hx]
  rcases h3 with h | ⟨h, h4⟩
  · rw [h, Int.mul_comm (a * b) c]
  · rw [h]
    have h5 := Int.mul_le_mul_of_nonneg_left hc (show (0 : Int) ≤ 1000000 by omega)
    have h6 := Int.mul_le_mul hc h4 (by omega) (by omega)
    omega

set_option maxHeartbeats 2000000 in
theorem rtimes_c (a b : Int) (w : World) (ha : 0 ≤ a) (ha1 : a ≤ 1000000) (hb : 1 ≤ b) (hb1 : b ≤ 1000000) : Calls Try.prog 23 #[.int .i64 a, .int .i64 b] w fun e w' => e = .returned (.int .i64 (rt a b)) ∧ w = w' := by
  have hb0 : 0 < b := by omega
  have d0 : decide (0 < b) = true := by simpa using hb0
  obtain ⟨p, hp⟩ : ∃ p, a * b = p := ⟨_, rfl⟩
  have hpb := mul_in ha ha1 (show 0 ≤ b by omega) hb1
  rw [hp] at hpb
  obtain ⟨p0, p1⟩ := hpb
  obtain ⟨q, hq⟩ : ∃ q, 1000000 / b = q := ⟨_, rfl⟩
  by_cases g : q < a
  · have HR := Lib.hid (show rt a b = 1000000 by unfold rt; rw [hq, if_pos g])
    have d1 : decide (q < a) = true := by simpa using g
    clear g p0 p1 hp
    go_enter Try.func23, Try.ntmps23
    go_wp2_with fail
    go_ret
    exact ⟨ret_int HR.out.symm, rfl⟩
  · have HR := Lib.hid (show rt a b = p by unfold rt; rw [hq, if_neg g, hp])
    have d1 : decide (q < a) = false := by simpa using g
    have wp : IntKind.i64.wrap p = p := wrap_id (by omega) (by omega)
    clear g
    go_enter Try.func23, Try.ntmps23
    go_wp2_with fail
    go_ret
    exact ⟨ret_int HR.out.symm, rfl⟩
theorem rtimes_b (a b r : Int) (w : World) (hr : rt a b = r) (h : 0 ≤ a ∧ a ≤ 1000000 ∧ 1 ≤ b ∧ b ≤ 1000000) : Calls Try.prog 23 #[.int .i64 a, .int .i64 b] w fun e w' => e = .returned (.int .i64 r) ∧ w = w' := by
  subst hr
  exact rtimes_c a b w h.1 h.2.1 h.2.2.1 h.2.2.2

set_option maxHeartbeats 2000000 in
theorem rEmpty_c (x d k : Int) (w : World) : Calls Try.prog 12 #[feedV x d k] w fun e w' => e = .returned (.tuple #[.int .i64 (emV x d k), .int .i64 (emE x d k)]) ∧ Below w.heap.size w w' := by
  have HBX := Lib.hid (feedBx_made w x d k)
  cases hf : feedB x d k
  · have HF := Lib.hid hf
    have HV := Lib.hid (show emV x d k = 0 ∧ emE x d k = 33 by unfold emV emE; rw [hf]; exact ⟨rfl, rfl⟩)
    rw [HV.out.1, HV.out.2]
    clear hf
    go_enter Try.func12, Try.ntmps12
    go_wp2_with fail
    refine (rValidFeed_c x d k _).mono ?_; rintro e w1 ⟨rfl, hb1⟩
    rw [HF.out]
    go_wp2_with fail
    go_ret2
    exact ⟨rfl, boxed hb1⟩
  have HF := Lib.hid hf
  have HV := Lib.hid (show emV x d k = (x + d - 1) / d ∧ emE x d k = 0 by unfold emV emE; rw [hf]; exact ⟨rfl, rfl⟩)
  rw [HV.out.1, HV.out.2]
  obtain ⟨⟨h0, h1⟩, ⟨d0, d1⟩, k0, k1⟩ := feedB_iff.1 hf
  have w1 : IntKind.i64.wrap (x + d) = x + d := wrap_id (by omega) (by omega)
  have w2 : IntKind.i64.wrap (x + d - 1) = x + d - 1 := wrap_id (by omega) (by omega)
  have hd : 0 < d := by omega
  clear hf
  go_enter Try.func12, Try.ntmps12
  go_wp2_with fail
  refine (rValidFeed_c x d k _).mono ?_; rintro e w1 ⟨rfl, hb1⟩
  rw [HF.out]
  have q0 : w1.cell? ⟨w.heap.size, 0, none⟩ = some (.int .i64 x) := (HBX.out.later hb1).cell 0
  have q1 : w1.cell? ⟨w.heap.size, 1, none⟩ = some (.int .i64 d) := (HBX.out.later hb1).cell 1
  go_wp2_with fail
  go_ret2
  exact ⟨rfl, boxed hb1⟩

end Go.Proofs.Ytobhnkkjhglgcaa

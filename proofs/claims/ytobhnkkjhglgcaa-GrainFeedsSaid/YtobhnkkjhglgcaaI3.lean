/- Layer 3: what has fallen, and when the hopper is empty: the program's side. -/
import Derived.Test.YtobhnkkjhglgcaaI2
set_option linter.unusedSimpArgs false
namespace Go.Proofs.Ytobhnkkjhglgcaa
open Go.RowKit

/-- errors and answers of a feed -/
def drE (x d k n : Int) : Int := if feedB x d k = true then (if inB n 0 1000000 = true then 0 else 1) else 33
def drF (x d k n : Int) : Int := if (feedB x d k && inB n 0 1000000) = true then min x (d * n) else 0
def drL (x d k n : Int) : Int := if (feedB x d k && inB n 0 1000000) = true then x - min x (d * n) else 0
def fdV (x d k t : Int) : Int := if (feedB x d k && inB t 0 1000000) = true then min x (d * (t * k)) else 0
def emE (x d k : Int) : Int := if feedB x d k = true then 0 else 33
def emV (x d k : Int) : Int := if feedB x d k = true then (x + d - 1) / d else 0
theorem mul_in {a b A B : Int} (ha : 0 ≤ a) (ha' : a ≤ A) (hb : 0 ≤ b) (hb' : b ≤ B) : 0 ≤ a * b ∧ a * b ≤ A * B :=
  ⟨Int.mul_nonneg ha hb, Int.mul_le_mul ha' hb' hb (by omega)⟩

set_option maxHeartbeats 2000000 in
theorem fallen_c (x d k m p r : Int) (w : World) (hp : d * m = p) (h0 : 0 ≤ p) (h1 : p ≤ 5000000000000000) (hr : min x p = r) : Calls Try.prog 20 #[feedV x d k, .int .i64 m] w fun e w' => e = .returned (.int .i64 r) ∧ Below w.heap.size w w' := by
  have wp : IntKind.i64.wrap p = p := wrap_id (by omega) (by omega)
  have HR := Lib.hid hr
  clear hr
  go_enter Try.func20, Try.ntmps20
  go_wp2_with fail
  all_goals
    go_ret
    exact ⟨ret_int (by have := HR.out; omega), (Below.refl _ _).alloc (Nat.le_refl _) _⟩

abbrev feedBx (w : World) (x d k : Int) : World := w.alloc (.cells #[.int .i64 x, .int .i64 d, .int .i64 k] 23)
theorem feedBx_made (w : World) (x d k : Int) : Box (feedBx w x d k) w.heap.size 23 #[.int .i64 x, .int .i64 d, .int .i64 k] := Box.made w 23 #[.int .i64 x, .int .i64 d, .int .i64 k]

set_option maxHeartbeats 2000000 in
theorem Empty_c (x d k : Int) (w : World) : Calls Try.prog 11 #[feedV x d k] w fun e w' => e = .returned (.tuple #[.int .i64 (emV x d k), .int .i64 (emE x d k)]) ∧ Below w.heap.size w w' := by
  have HBX := Lib.hid (feedBx_made w x d k)
  cases hf : feedB x d k
  · have HF := Lib.hid hf
    have HV := Lib.hid (show emV x d k = 0 ∧ emE x d k = 33 by unfold emV emE; rw [hf]; exact ⟨rfl, rfl⟩)
    rw [HV.out.1, HV.out.2]
    clear hf
    go_enter Try.func11, Try.ntmps11
    go_wp2_with fail
    refine (ValidFeed_c x d k _).mono ?_; rintro e w1 ⟨rfl, hb1⟩
    rw [HF.out]
    go_wp2_with fail
    go_ret2
    exact ⟨rfl, boxed hb1⟩
  have HF := Lib.hid hf
  have HV := Lib.hid (show emV x d k = (x + d - 1) / d ∧ emE x d k = 0 by unfold emV emE; rw [hf]; exact ⟨rfl, rfl⟩)
  rw [HV.out.1, HV.out.2]
  obtain ⟨⟨h0, h1⟩, ⟨d0, d1⟩, k0, k1⟩ := feedB_iff.1 hf
  have w1 : IntKind.i64.wrap (x + d) = x + d := wrap_id (by omega) (by omega)
  have w2 : IntKind.i64.wrap (x + d - 1) = x + d - 1 := wrap_id (by omega) (by omega)
  have hd : 0 < d := by omega
  clear hf
  go_enter Try.func11, Try.ntmps11
  go_wp2_with fail
  refine (ValidFeed_c x d k _).mono ?_; rintro e w1 ⟨rfl, hb1⟩
  rw [HF.out]
  have q0 : w1.cell? ⟨w.heap.size, 0, none⟩ = some (.int .i64 x) := (HBX.out.later hb1).cell 0
  have q1 : w1.cell? ⟨w.heap.size, 1, none⟩ = some (.int .i64 d) := (HBX.out.later hb1).cell 1
  go_wp2_with fail
  go_ret2
  exact ⟨rfl, boxed hb1⟩

set_option maxHeartbeats 4000000 in
theorem Drawn_c (x d k n : Int) (w : World) : Calls Try.prog 7 #[feedV x d k, .int .i64 n] w fun e w' => e = .returned (.tuple #[.int .i64 (drF x d k n), .int .i64 (drL x d k n), .int .i64 (drE x d k n)]) ∧ Below w.heap.size w w' := by
  have HBX := Lib.hid (feedBx_made w x d k)
  cases hf : feedB x d k
  · have HF := Lib.hid hf
    have HV := Lib.hid (show drF x d k n = 0 ∧ drL x d k n = 0 ∧ drE x d k n = 33 by unfold drF drL drE; rw [hf]; exact ⟨rfl, rfl, rfl⟩)
    rw [HV.out.1, HV.out.2.1, HV.out.2.2]
    clear hf
    go_enter Try.func7, Try.ntmps7
    go_wp2_with fail
    refine (ValidFeed_c x d k _).mono ?_; rintro e w1 ⟨rfl, hb1⟩
    rw [HF.out]
    go_wp2_with fail
    go_ret3
    exact ⟨rfl, boxed hb1⟩
  have HF := Lib.hid hf
  cases hn : inB n 0 1000000
  · have HV := Lib.hid (show drF x d k n = 0 ∧ drL x d k n = 0 ∧ drE x d k n = 1 by unfold drF drL drE; rw [hf, hn]; exact ⟨rfl, rfl, rfl⟩)
    rw [HV.out.1, HV.out.2.1, HV.out.2.2]
    by_cases g : n < 0
    · have d0 : decide (n < 0) = true := by simpa using g
      clear hf hn g
      go_enter Try.func7, Try.ntmps7
      go_wp2_with fail
      refine (ValidFeed_c x d k _).mono ?_; rintro e w1 ⟨rfl, hb1⟩
      rw [HF.out]
      go_wp2_with fail
      go_ret3
      exact ⟨rfl, boxed hb1⟩
    · have d0 : decide (n < 0) = false := by simpa using g
      have d1 : decide (1000000 < n) = true := decide_eq_true (by have := inB_not.1 hn; omega)
      clear hf hn g
      go_enter Try.func7, Try.ntmps7
      go_wp2_with fail
      refine (ValidFeed_c x d k _).mono ?_; rintro e w1 ⟨rfl, hb1⟩
      rw [HF.out]
      go_wp2_with fail
      go_ret3
      exact ⟨rfl, boxed hb1⟩
  obtain ⟨⟨h0, h1⟩, ⟨d0, d1⟩, k0, k1⟩ := feedB_iff.1 hf
  obtain ⟨n0, n1⟩ := inB_iff.1 hn
  obtain ⟨p, hp⟩ : ∃ p, d * n = p := ⟨_, rfl⟩
  obtain ⟨p0, p1⟩ := mul_in (show 0 ≤ d by omega) d1 n0 n1
  rw [hp] at p0 p1
  obtain ⟨r, hr⟩ : ∃ r, min x p = r := ⟨_, rfl⟩
  have HV := Lib.hid (show drF x d k n = r ∧ drL x d k n = x - r ∧ drE x d k n = 0 by unfold drF drL drE; rw [hf, hn, hp, hr]; exact ⟨rfl, rfl, rfl⟩)
  rw [HV.out.1, HV.out.2.1, HV.out.2.2]
  have HP := Lib.hid hp
  have HR := Lib.hid hr
  have HN := Lib.hid (show 0 ≤ p ∧ p ≤ 5000000000000000 ∧ 0 ≤ x ∧ x ≤ 1000000 by omega)
  have wx : IntKind.i64.wrap (x - r) = x - r := wrap_id (by omega) (by omega)
  have e0 : decide (n < 0) = false := decide_eq_false (by omega)
  have e1 : decide (1000000 < n) = false := decide_eq_false (by omega)
  clear hf hn hp hr p0 p1 h0 h1 d0 d1 k0 k1 n0 n1
  go_enter Try.func7, Try.ntmps7
  go_wp2_with fail
  refine (ValidFeed_c x d k _).mono ?_; rintro e w1 ⟨rfl, hb1⟩
  rw [HF.out]
  have b1 := HBX.out.later hb1
  have q0 : w1.cell? ⟨w.heap.size, 0, none⟩ = some (.int .i64 x) := b1.cell 0
  have q1 : w1.cell? ⟨w.heap.size, 1, none⟩ = some (.int .i64 d) := b1.cell 1
  have q2 : w1.cell? ⟨w.heap.size, 2, none⟩ = some (.int .i64 k) := b1.cell 2
  have HB1 := Lib.hid (boxed hb1)
  have HS := Lib.hid b1
  clear hb1 b1
  go_wp2_with fail
  refine (fallen_c x d k n p r _ HP.out HN.out.1 HN.out.2.1 HR.out).mono ?_; rintro e w2 ⟨rfl, hb2⟩
  have b2 := HS.out.below hb2 HS.out.lt
  have q0' : w2.cell? ⟨w.heap.size, 0, none⟩ = some (.int .i64 x) := b2.cell 0
  have HB2 := Lib.hid (chain HB1.out hb2)
  have HQ := Lib.hid (show ∀ nq, Below w.heap.size w (w2.drewN nq) from fun nq => ⟨HB2.out.os, HB2.out.tape, HB2.out.output, HB2.out.size, HB2.out.block⟩)
  clear q0 q1 q2 hb2 b2
  go_wp2_with fail
  go_quiet (fail)
  go_wp2_with fail
  go_ret3
  exact ⟨rfl, HQ.out _⟩
end Go.Proofs.Ytobhnkkjhglgcaa

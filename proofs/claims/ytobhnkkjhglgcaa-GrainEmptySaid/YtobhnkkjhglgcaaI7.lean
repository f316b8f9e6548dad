/- Layer 3: the law on the feed, walked. -/
import Derived.Test.YtobhnkkjhglgcaaI6
set_option linter.unusedSimpArgs false
set_option linter.unusedVariables false
namespace Go.Proofs.Ytobhnkkjhglgcaa
open Go.RowKit

theorem emp_in {x d N : Int} (hx : 0 ≤ x) (hd : 1 ≤ d) (hN : (x + d - 1) / d = N) : 0 ≤ N ∧ N ≤ x ∧ x ≤ d * N ∧ d * (N - 1) < x := by
  have h1 := Int.emod_nonneg (x + d - 1) (show d ≠ 0 by omega)
  have h2 := Int.emod_lt_of_pos (x + d - 1) (show 0 < d by omega)
  have h3 := Int.mul_ediv_add_emod (x + d - 1) d
  have h4 : 0 ≤ (x + d - 1) / d := Int.ediv_nonneg (by omega) (by omega)
  rw [hN] at h3 h4
  generalize (x + d - 1) % d = y at *
  have h5 : d * (N - 1) = d * N - d := by rw [Int.mul_sub, Int.mul_one]
  refine ⟨h4, ?_, by omega, by omega⟩
  rcases Int.lt_or_le x N with h | h
  · have h6 : d * (x + 1) ≤ d * N := Int.mul_le_mul_of_nonneg_left (by omega) (by omega)
    have h7 : 1 * x ≤ d * x := Int.mul_le_mul_of_nonneg_right hd hx
    rw [Int.mul_add, Int.mul_one] at h6
    omega
  · exact h
theorem DrawnAt_ok {x d k n : Int} (hf : feedB x d k = true) (h0 : 0 ≤ n) (h1 : n ≤ 1000000) (a b : Int) (ha : min x (d * n) = a) (hb : x - a = b) : DrawnAt 7 x d k n a b 0 := by
  have hn := inB_iff.2 ⟨h0, h1⟩
  have h := Drawn_c x d k n
  unfold drF drL drE at h
  rw [hf, hn] at h
  subst hb ha
  exact h
theorem FedAt_ok {x d k n : Int} (hf : feedB x d k = true) (h0 : 0 ≤ n) (h1 : n ≤ 1000000) (a : Int) (ha : min x (d * (n * k)) = a) : FedAt 9 x d k n a 0 := by
  have hn := inB_iff.2 ⟨h0, h1⟩
  have h := Fed_c x d k n
  unfold fdV drE at h
  rw [hf, hn] at h
  subst ha
  exact h
theorem EmptyAt_ok {x d k : Int} (hf : feedB x d k = true) (N : Int) (hN : (x + d - 1) / d = N) : EmptyAt 11 x d k N 0 := by
  have h := Empty_c x d k
  unfold emV emE at h
  rw [hf] at h
  subst hN
  exact h

set_option maxRecDepth 100000 in
set_option maxHeartbeats 16000000 in
theorem GrainEmpty_c (x d k n t : Int) (w : World) : Calls Try.prog 5 #[feedV x d k, .int .i64 n, .int .i64 t] w fun e w' => e = .returned (.bool true) ∧ Below w.heap.size w w' := by
  have HBX := Lib.hid (feedBx_made w x d k)
  cases hf : feedB x d k
  · have HF := Lib.hid hf
    have HC := Lib.hid (show EmptyAt 11 x d k 0 33 from by
      have h := Empty_c x d k
      unfold emV emE at h
      rw [hf] at h
      exact h)
    clear hf
    go_enter Try.func5, Try.ntmps5
    go_wp2_with fail
    refine (awake_c _).mono ?_; rintro e w0 ⟨rfl, hb0⟩
    have X0 := Lib.hid (HBX.out.later hb0)
    have B0 := Lib.hid (boxed hb0)
    clear hb0
    have q0 : w0.cell? ⟨w.heap.size, 0, none⟩ = some (.int .i64 x) := X0.out.cell 0
    have q1 : w0.cell? ⟨w.heap.size, 1, none⟩ = some (.int .i64 d) := X0.out.cell 1
    have q2 : w0.cell? ⟨w.heap.size, 2, none⟩ = some (.int .i64 k) := X0.out.cell 2
    go_wp2_with fail
    refine (HC.out w0).mono ?_; rintro e w1 ⟨rfl, hb1⟩
    have X1 := Lib.hid (X0.out.below hb1 X0.out.lt)
    have B1 := Lib.hid (chain B0.out hb1)
    clear q0 q1 q2 hb1
    have q0 : w1.cell? ⟨w.heap.size, 0, none⟩ = some (.int .i64 x) := X1.out.cell 0
    have q1 : w1.cell? ⟨w.heap.size, 1, none⟩ = some (.int .i64 d) := X1.out.cell 1
    have q2 : w1.cell? ⟨w.heap.size, 2, none⟩ = some (.int .i64 k) := X1.out.cell 2
    go_wp2_with fail
    refine (ValidFeed_c x d k w1).mono ?_; rintro e w2 ⟨rfl, hb2⟩
    rw [HF.out]
    go_wp2_with fail
    go_ret
    exact ⟨rfl, chain B1.out hb2⟩
  obtain ⟨⟨x0, x1⟩, ⟨d0, d1⟩, k0, k1⟩ := feedB_iff.1 hf
  obtain ⟨N, hN⟩ : ∃ N, (x + d - 1) / d = N := ⟨_, rfl⟩
  obtain ⟨N0, N1, N2, N3⟩ := emp_in x0 d0 hN
  have DE := Lib.hid (EmptyAt_ok hf N hN)
  have DN := Lib.hid (DrawnAt_ok hf N0 (by omega) x 0 (by omega) (by omega))
  have HV := Lib.hid hf
  have HR := Lib.hid (show (0 ≤ x ∧ x ≤ 1000000) ∧ (1 ≤ d ∧ d ≤ 1000000) ∧ (1 ≤ k ∧ k ≤ 4096) ∧ 0 ≤ N ∧ N ≤ x ∧ x ≤ d * N ∧ d * (N - 1) < x by omega)
  have ex : decide (x = x) = true := by simp
  have wN : IntKind.i64.wrap (N - 1) = N - 1 := wrap_id (by omega) (by omega)
  clear hf x0 x1 d0 d1 k0 k1 hN N0 N1 N2 N3
  go_enter Try.func5, Try.ntmps5
  go_wp2_with fail
  refine (awake_c _).mono ?_; rintro e w0 ⟨rfl, hb0⟩
  have X := Lib.hid (HBX.out.later hb0)
  have B := Lib.hid (boxed hb0)
  clear hb0
  have q0 : w0.cell? ⟨w.heap.size, 0, none⟩ = some (.int .i64 x) := X.out.cell 0
  have q1 : w0.cell? ⟨w.heap.size, 1, none⟩ = some (.int .i64 d) := X.out.cell 1
  have q2 : w0.cell? ⟨w.heap.size, 2, none⟩ = some (.int .i64 k) := X.out.cell 2
  go_wp2_with fail
  refine (DE.out w0).mono ?_; rintro e w1 ⟨rfl, hb⟩
  have X := Lib.hid (X.out.below hb X.out.lt)
  have B := Lib.hid (chain B.out hb)
  clear q0 q1 q2 hb
  have q0 : w1.cell? ⟨w.heap.size, 0, none⟩ = some (.int .i64 x) := X.out.cell 0
  have q1 : w1.cell? ⟨w.heap.size, 1, none⟩ = some (.int .i64 d) := X.out.cell 1
  have q2 : w1.cell? ⟨w.heap.size, 2, none⟩ = some (.int .i64 k) := X.out.cell 2
  go_wp2_with fail
  refine (DN.out w1).mono ?_; rintro e w2 ⟨rfl, hb⟩
  have X := Lib.hid (X.out.below hb X.out.lt)
  have B := Lib.hid (chain B.out hb)
  clear q0 q1 q2 hb
  have q0 : w2.cell? ⟨w.heap.size, 0, none⟩ = some (.int .i64 x) := X.out.cell 0
  have q1 : w2.cell? ⟨w.heap.size, 1, none⟩ = some (.int .i64 d) := X.out.cell 1
  have q2 : w2.cell? ⟨w.heap.size, 2, none⟩ = some (.int .i64 k) := X.out.cell 2
  by_cases gN : 0 < N
  · have dN : decide (0 < N) = true := by simpa using gN
    obtain ⟨b1, hb1⟩ : ∃ b1, x - min x (d * (N - 1)) = b1 := ⟨_, rfl⟩
    have D3 := Lib.hid (DrawnAt_ok HV.out (show 0 ≤ N - 1 by omega) (by have := HR.out; omega) (min x (d * (N - 1))) b1 rfl hb1)
    have db1 : decide (b1 ≤ 0) = false := decide_eq_false (by have := HR.out; omega)
    generalize min x (d * (N - 1)) = a1 at *
    clear gN hb1
    go_wp2_with fail
    refine (D3.out w2).mono ?_; rintro e w3 ⟨rfl, hb⟩
    have X := Lib.hid (X.out.below hb X.out.lt)
    have B := Lib.hid (chain B.out hb)
    clear q0 q1 q2 hb
    have q0 : w3.cell? ⟨w.heap.size, 0, none⟩ = some (.int .i64 x) := X.out.cell 0
    have q1 : w3.cell? ⟨w.heap.size, 1, none⟩ = some (.int .i64 d) := X.out.cell 1
    have q2 : w3.cell? ⟨w.heap.size, 2, none⟩ = some (.int .i64 k) := X.out.cell 2
    by_cases gn : 0 ≤ n
    · have dn : decide (0 ≤ n) = true := by simpa using gn
      by_cases gn2 : n ≤ 1000000
      · have dn2 : decide (n ≤ 1000000) = true := by simpa using gn2
        obtain ⟨a, ha⟩ : ∃ a, min x (d * n) = a := ⟨_, rfl⟩
        obtain ⟨b, hb⟩ : ∃ b, x - a = b := ⟨_, rfl⟩
        have D4 := Lib.hid (DrawnAt_ok HV.out gn gn2 a b ha hb)
        have hdn := Int.mul_nonneg (show 0 ≤ d by have := HR.out; omega) gn
        have da : decide (a < 0) = false := decide_eq_false (by have := HR.out; omega)
        have db : decide (b < 0) = false := decide_eq_false (by have := HR.out; omega)
        have wab : IntKind.i64.wrap (a + b) = x := by rw [show a + b = x by omega]; exact wrap_id (by have := HR.out; omega) (by have := HR.out; omega)
        have hz : decide (b = 0) = decide (N ≤ n) := by
          have hr := HR.out
          rcases Int.lt_or_le n N with h | h
          · have h3 := Int.mul_le_mul_of_nonneg_left (show n ≤ N - 1 by omega) (show 0 ≤ d by omega)
            rw [decide_eq_false (by omega : ¬ b = 0), decide_eq_false (by omega : ¬ N ≤ n)]
          · have h3 := Int.mul_le_mul_of_nonneg_left h (show 0 ≤ d by omega)
            rw [decide_eq_true (by omega : b = 0), decide_eq_true (by omega : N ≤ n)]
        clear gn gn2 ha hb hdn
        go_wp2_with fail
        refine (D4.out w3).mono ?_; rintro e w4 ⟨rfl, hb⟩
        have X := Lib.hid (X.out.below hb X.out.lt)
        have B := Lib.hid (chain B.out hb)
        clear q0 q1 q2 hb
        have q0 : w4.cell? ⟨w.heap.size, 0, none⟩ = some (.int .i64 x) := X.out.cell 0
        have q1 : w4.cell? ⟨w.heap.size, 1, none⟩ = some (.int .i64 d) := X.out.cell 1
        have q2 : w4.cell? ⟨w.heap.size, 2, none⟩ = some (.int .i64 k) := X.out.cell 2
        have hz2 : (b == 0) = decide (N ≤ n) := hz
        cases hq : decide (N ≤ n)
        all_goals
          rw [hq] at hz hz2
          by_cases gt : t < 0
          · have dt : decide (t < 0) = true := by simpa using gt
            clear gt
            go_wp2_with fail
            go_ret
            exact ⟨rfl, B.out⟩
          · have dt : decide (t < 0) = false := by simpa using gt
            by_cases gu : 1000000 ≤ t
            · have du : decide (1000000 ≤ t) = true := by simpa using gu
              clear gt gu
              go_wp2_with fail
              go_ret
              exact ⟨rfl, B.out⟩
            · have du : decide (1000000 ≤ t) = false := by simpa using gu
              obtain ⟨m, hm⟩ : ∃ m, t * k = m := ⟨_, rfl⟩
              obtain ⟨A, hA⟩ : ∃ A, min x (d * m) = A := ⟨_, rfl⟩
              obtain ⟨A2, hA2⟩ : ∃ A2, min x (d * ((t + 1) * k)) = A2 := ⟨_, rfl⟩
              have D5 := Lib.hid (FedAt_ok HV.out (show 0 ≤ t by omega) (by omega) A (by rw [hm]; exact hA))
              have D6 := Lib.hid (FedAt_ok HV.out (show 0 ≤ t + 1 by omega) (by omega) A2 hA2)
              have hm0 := mul_in (show 0 ≤ t by omega) (show t ≤ 1000000 by omega) (show 0 ≤ k by have := HR.out; omega) (show k ≤ 4096 by have := HR.out; omega)
              rw [hm] at hm0
              have hmm : d * m ≤ d * ((t + 1) * k) := Int.mul_le_mul_of_nonneg_left (by rw [Int.add_mul, hm]; have := HR.out; omega) (by have := HR.out; omega)
              have eA : decide (A ≤ A2) = true := decide_eq_true (by omega)
              have eAA : decide (A = A) = true := by simp
              have wt : IntKind.i64.wrap (t + 1) = t + 1 := wrap_id (by omega) (by omega)
              have wm : IntKind.i64.wrap m = m := wrap_id (by omega) (by omega)
              have HM := Lib.hid (show 0 ≤ m ∧ min x (d * m) = A by omega)
              clear gt gu hA hA2 hm0 hmm
              go_wp2_with fail
              refine (D5.out w4).mono ?_; rintro e v1 ⟨rfl, hb⟩
              have X := Lib.hid (X.out.below hb X.out.lt)
              have B := Lib.hid (chain B.out hb)
              clear q0 q1 q2 hb
              have q0 : v1.cell? ⟨w.heap.size, 0, none⟩ = some (.int .i64 x) := X.out.cell 0
              have q1 : v1.cell? ⟨w.heap.size, 1, none⟩ = some (.int .i64 d) := X.out.cell 1
              have q2 : v1.cell? ⟨w.heap.size, 2, none⟩ = some (.int .i64 k) := X.out.cell 2
              go_wp2_with fail
              refine (D6.out v1).mono ?_; rintro e v2 ⟨rfl, hb⟩
              have X := Lib.hid (X.out.below hb X.out.lt)
              have B := Lib.hid (chain B.out hb)
              clear q0 q1 q2 hb
              have q0 : v2.cell? ⟨w.heap.size, 0, none⟩ = some (.int .i64 x) := X.out.cell 0
              have q1 : v2.cell? ⟨w.heap.size, 1, none⟩ = some (.int .i64 d) := X.out.cell 1
              have q2 : v2.cell? ⟨w.heap.size, 2, none⟩ = some (.int .i64 k) := X.out.cell 2
              by_cases gm : m ≤ N
              · have D7 := Lib.hid (DrawnAt_ok HV.out HM.out.1 (by have := HR.out; omega) A (x - A) HM.out.2 rfl)
                have dm : decide (N < m) = false := decide_eq_false (by omega)
                go_wp2_with fail
                all_goals first | (exfalso; omega) | skip
                refine (D7.out v2).mono ?_; rintro e v3 ⟨rfl, hb⟩
                have B := Lib.hid (chain B.out hb)
                clear q0 q1 q2 hb gm
                go_wp2_with fail
                go_ret
                exact ⟨rfl, B.out⟩
              · have D7 := DN
                have dm : decide (N < m) = true := decide_eq_true (by omega)
                have eAx : decide (A = x) = true := decide_eq_true (by have h1 := HR.out; have h2 := HM.out; have h3 := Int.mul_le_mul_of_nonneg_left (show N ≤ m by omega) (show 0 ≤ d by omega); omega)
                have eAx2 : (A == x) = true := eAx
                go_wp2_with fail
                all_goals first | (exfalso; omega) | skip
                refine (D7.out v2).mono ?_; rintro e v3 ⟨rfl, hb⟩
                have B := Lib.hid (chain B.out hb)
                clear q0 q1 q2 hb gm
                go_wp2_with fail
                go_ret
                exact ⟨rfl, B.out⟩
      · have dn2 : decide (n ≤ 1000000) = false := by simpa using gn2
        clear gn gn2
        by_cases gt : t < 0
        · have dt : decide (t < 0) = true := by simpa using gt
          clear gt
          go_wp2_with fail
          go_ret
          exact ⟨rfl, B.out⟩
        · have dt : decide (t < 0) = false := by simpa using gt
          by_cases gu : 1000000 ≤ t
          · have du : decide (1000000 ≤ t) = true := by simpa using gu
            clear gt gu
            go_wp2_with fail
            go_ret
            exact ⟨rfl, B.out⟩
          · have du : decide (1000000 ≤ t) = false := by simpa using gu
            obtain ⟨m, hm⟩ : ∃ m, t * k = m := ⟨_, rfl⟩
            obtain ⟨A, hA⟩ : ∃ A, min x (d * m) = A := ⟨_, rfl⟩
            obtain ⟨A2, hA2⟩ : ∃ A2, min x (d * ((t + 1) * k)) = A2 := ⟨_, rfl⟩
            have D5 := Lib.hid (FedAt_ok HV.out (show 0 ≤ t by omega) (by omega) A (by rw [hm]; exact hA))
            have D6 := Lib.hid (FedAt_ok HV.out (show 0 ≤ t + 1 by omega) (by omega) A2 hA2)
            have hm0 := mul_in (show 0 ≤ t by omega) (show t ≤ 1000000 by omega) (show 0 ≤ k by have := HR.out; omega) (show k ≤ 4096 by have := HR.out; omega)
            rw [hm] at hm0
            have hmm : d * m ≤ d * ((t + 1) * k) := Int.mul_le_mul_of_nonneg_left (by rw [Int.add_mul, hm]; have := HR.out; omega) (by have := HR.out; omega)
            have eA : decide (A ≤ A2) = true := decide_eq_true (by omega)
            have eAA : decide (A = A) = true := by simp
            have wt : IntKind.i64.wrap (t + 1) = t + 1 := wrap_id (by omega) (by omega)
            have wm : IntKind.i64.wrap m = m := wrap_id (by omega) (by omega)
            have HM := Lib.hid (show 0 ≤ m ∧ min x (d * m) = A by omega)
            clear gt gu hA hA2 hm0 hmm
            go_wp2_with fail
            refine (D5.out w3).mono ?_; rintro e v1 ⟨rfl, hb⟩
            have X := Lib.hid (X.out.below hb X.out.lt)
            have B := Lib.hid (chain B.out hb)
            clear q0 q1 q2 hb
            have q0 : v1.cell? ⟨w.heap.size, 0, none⟩ = some (.int .i64 x) := X.out.cell 0
            have q1 : v1.cell? ⟨w.heap.size, 1, none⟩ = some (.int .i64 d) := X.out.cell 1
            have q2 : v1.cell? ⟨w.heap.size, 2, none⟩ = some (.int .i64 k) := X.out.cell 2
            go_wp2_with fail
            refine (D6.out v1).mono ?_; rintro e v2 ⟨rfl, hb⟩
            have X := Lib.hid (X.out.below hb X.out.lt)
            have B := Lib.hid (chain B.out hb)
            clear q0 q1 q2 hb
            have q0 : v2.cell? ⟨w.heap.size, 0, none⟩ = some (.int .i64 x) := X.out.cell 0
            have q1 : v2.cell? ⟨w.heap.size, 1, none⟩ = some (.int .i64 d) := X.out.cell 1
            have q2 : v2.cell? ⟨w.heap.size, 2, none⟩ = some (.int .i64 k) := X.out.cell 2
            by_cases gm : m ≤ N
            · have D7 := Lib.hid (DrawnAt_ok HV.out HM.out.1 (by have := HR.out; omega) A (x - A) HM.out.2 rfl)
              have dm : decide (N < m) = false := decide_eq_false (by omega)
              go_wp2_with fail
              all_goals first | (exfalso; omega) | skip
              refine (D7.out v2).mono ?_; rintro e v3 ⟨rfl, hb⟩
              have B := Lib.hid (chain B.out hb)
              clear q0 q1 q2 hb gm
              go_wp2_with fail
              go_ret
              exact ⟨rfl, B.out⟩
            · have D7 := DN
              have dm : decide (N < m) = true := decide_eq_true (by omega)
              have eAx : decide (A = x) = true := decide_eq_true (by have h1 := HR.out; have h2 := HM.out; have h3 := Int.mul_le_mul_of_nonneg_left (show N ≤ m by omega) (show 0 ≤ d by omega); omega)
              have eAx2 : (A == x) = true := eAx
              go_wp2_with fail
              all_goals first | (exfalso; omega) | skip
              refine (D7.out v2).mono ?_; rintro e v3 ⟨rfl, hb⟩
              have B := Lib.hid (chain B.out hb)
              clear q0 q1 q2 hb gm
              go_wp2_with fail
              go_ret
              exact ⟨rfl, B.out⟩
    · have dn : decide (0 ≤ n) = false := by simpa using gn
      clear gn
      by_cases gt : t < 0
      · have dt : decide (t < 0) = true := by simpa using gt
        clear gt
        go_wp2_with fail
        go_ret
        exact ⟨rfl, B.out⟩
      · have dt : decide (t < 0) = false := by simpa using gt
        by_cases gu : 1000000 ≤ t
        · have du : decide (1000000 ≤ t) = true := by simpa using gu
          clear gt gu
          go_wp2_with fail
          go_ret
          exact ⟨rfl, B.out⟩
        · have du : decide (1000000 ≤ t) = false := by simpa using gu
          obtain ⟨m, hm⟩ : ∃ m, t * k = m := ⟨_, rfl⟩
          obtain ⟨A, hA⟩ : ∃ A, min x (d * m) = A := ⟨_, rfl⟩
          obtain ⟨A2, hA2⟩ : ∃ A2, min x (d * ((t + 1) * k)) = A2 := ⟨_, rfl⟩
          have D5 := Lib.hid (FedAt_ok HV.out (show 0 ≤ t by omega) (by omega) A (by rw [hm]; exact hA))
          have D6 := Lib.hid (FedAt_ok HV.out (show 0 ≤ t + 1 by omega) (by omega) A2 hA2)
          have hm0 := mul_in (show 0 ≤ t by omega) (show t ≤ 1000000 by omega) (show 0 ≤ k by have := HR.out; omega) (show k ≤ 4096 by have := HR.out; omega)
          rw [hm] at hm0
          have hmm : d * m ≤ d * ((t + 1) * k) := Int.mul_le_mul_of_nonneg_left (by rw [Int.add_mul, hm]; have := HR.out; omega) (by have := HR.out; omega)
          have eA : decide (A ≤ A2) = true := decide_eq_true (by omega)
          have eAA : decide (A = A) = true := by simp
          have wt : IntKind.i64.wrap (t + 1) = t + 1 := wrap_id (by omega) (by omega)
          have wm : IntKind.i64.wrap m = m := wrap_id (by omega) (by omega)
          have HM := Lib.hid (show 0 ≤ m ∧ min x (d * m) = A by omega)
          clear gt gu hA hA2 hm0 hmm
          go_wp2_with fail
          refine (D5.out w3).mono ?_; rintro e v1 ⟨rfl, hb⟩
          have X := Lib.hid (X.out.below hb X.out.lt)
          have B := Lib.hid (chain B.out hb)
          clear q0 q1 q2 hb
          have q0 : v1.cell? ⟨w.heap.size, 0, none⟩ = some (.int .i64 x) := X.out.cell 0
          have q1 : v1.cell? ⟨w.heap.size, 1, none⟩ = some (.int .i64 d) := X.out.cell 1
          have q2 : v1.cell? ⟨w.heap.size, 2, none⟩ = some (.int .i64 k) := X.out.cell 2
          go_wp2_with fail
          refine (D6.out v1).mono ?_; rintro e v2 ⟨rfl, hb⟩
          have X := Lib.hid (X.out.below hb X.out.lt)
          have B := Lib.hid (chain B.out hb)
          clear q0 q1 q2 hb
          have q0 : v2.cell? ⟨w.heap.size, 0, none⟩ = some (.int .i64 x) := X.out.cell 0
          have q1 : v2.cell? ⟨w.heap.size, 1, none⟩ = some (.int .i64 d) := X.out.cell 1
          have q2 : v2.cell? ⟨w.heap.size, 2, none⟩ = some (.int .i64 k) := X.out.cell 2
          by_cases gm : m ≤ N
          · have D7 := Lib.hid (DrawnAt_ok HV.out HM.out.1 (by have := HR.out; omega) A (x - A) HM.out.2 rfl)
            have dm : decide (N < m) = false := decide_eq_false (by omega)
            go_wp2_with fail
            all_goals first | (exfalso; omega) | skip
            refine (D7.out v2).mono ?_; rintro e v3 ⟨rfl, hb⟩
            have B := Lib.hid (chain B.out hb)
            clear q0 q1 q2 hb gm
            go_wp2_with fail
            go_ret
            exact ⟨rfl, B.out⟩
          · have D7 := DN
            have dm : decide (N < m) = true := decide_eq_true (by omega)
            have eAx : decide (A = x) = true := decide_eq_true (by have h1 := HR.out; have h2 := HM.out; have h3 := Int.mul_le_mul_of_nonneg_left (show N ≤ m by omega) (show 0 ≤ d by omega); omega)
            have eAx2 : (A == x) = true := eAx
            go_wp2_with fail
            all_goals first | (exfalso; omega) | skip
            refine (D7.out v2).mono ?_; rintro e v3 ⟨rfl, hb⟩
            have B := Lib.hid (chain B.out hb)
            clear q0 q1 q2 hb gm
            go_wp2_with fail
            go_ret
            exact ⟨rfl, B.out⟩
  · have dN : decide (0 < N) = false := by simpa using gN
    clear gN
    by_cases gn : 0 ≤ n
    · have dn : decide (0 ≤ n) = true := by simpa using gn
      by_cases gn2 : n ≤ 1000000
      · have dn2 : decide (n ≤ 1000000) = true := by simpa using gn2
        obtain ⟨a, ha⟩ : ∃ a, min x (d * n) = a := ⟨_, rfl⟩
        obtain ⟨b, hb⟩ : ∃ b, x - a = b := ⟨_, rfl⟩
        have D4 := Lib.hid (DrawnAt_ok HV.out gn gn2 a b ha hb)
        have hdn := Int.mul_nonneg (show 0 ≤ d by have := HR.out; omega) gn
        have da : decide (a < 0) = false := decide_eq_false (by have := HR.out; omega)
        have db : decide (b < 0) = false := decide_eq_false (by have := HR.out; omega)
        have wab : IntKind.i64.wrap (a + b) = x := by rw [show a + b = x by omega]; exact wrap_id (by have := HR.out; omega) (by have := HR.out; omega)
        have hz : decide (b = 0) = decide (N ≤ n) := by
          have hr := HR.out
          rcases Int.lt_or_le n N with h | h
          · have h3 := Int.mul_le_mul_of_nonneg_left (show n ≤ N - 1 by omega) (show 0 ≤ d by omega)
            rw [decide_eq_false (by omega : ¬ b = 0), decide_eq_false (by omega : ¬ N ≤ n)]
          · have h3 := Int.mul_le_mul_of_nonneg_left h (show 0 ≤ d by omega)
            rw [decide_eq_true (by omega : b = 0), decide_eq_true (by omega : N ≤ n)]
        clear gn gn2 ha hb hdn
        go_wp2_with fail
        refine (D4.out w2).mono ?_; rintro e w4 ⟨rfl, hb⟩
        have X := Lib.hid (X.out.below hb X.out.lt)
        have B := Lib.hid (chain B.out hb)
        clear q0 q1 q2 hb
        have q0 : w4.cell? ⟨w.heap.size, 0, none⟩ = some (.int .i64 x) := X.out.cell 0
        have q1 : w4.cell? ⟨w.heap.size, 1, none⟩ = some (.int .i64 d) := X.out.cell 1
        have q2 : w4.cell? ⟨w.heap.size, 2, none⟩ = some (.int .i64 k) := X.out.cell 2
        have hz2 : (b == 0) = decide (N ≤ n) := hz
        cases hq : decide (N ≤ n)
        all_goals
          rw [hq] at hz hz2
          by_cases gt : t < 0
          · have dt : decide (t < 0) = true := by simpa using gt
            clear gt
            go_wp2_with fail
            go_ret
            exact ⟨rfl, B.out⟩
          · have dt : decide (t < 0) = false := by simpa using gt
            by_cases gu : 1000000 ≤ t
            · have du : decide (1000000 ≤ t) = true := by simpa using gu
              clear gt gu
              go_wp2_with fail
              go_ret
              exact ⟨rfl, B.out⟩
            · have du : decide (1000000 ≤ t) = false := by simpa using gu
              obtain ⟨m, hm⟩ : ∃ m, t * k = m := ⟨_, rfl⟩
              obtain ⟨A, hA⟩ : ∃ A, min x (d * m) = A := ⟨_, rfl⟩
              obtain ⟨A2, hA2⟩ : ∃ A2, min x (d * ((t + 1) * k)) = A2 := ⟨_, rfl⟩
              have D5 := Lib.hid (FedAt_ok HV.out (show 0 ≤ t by omega) (by omega) A (by rw [hm]; exact hA))
              have D6 := Lib.hid (FedAt_ok HV.out (show 0 ≤ t + 1 by omega) (by omega) A2 hA2)
              have hm0 := mul_in (show 0 ≤ t by omega) (show t ≤ 1000000 by omega) (show 0 ≤ k by have := HR.out; omega) (show k ≤ 4096 by have := HR.out; omega)
              rw [hm] at hm0
              have hmm : d * m ≤ d * ((t + 1) * k) := Int.mul_le_mul_of_nonneg_left (by rw [Int.add_mul, hm]; have := HR.out; omega) (by have := HR.out; omega)
              have eA : decide (A ≤ A2) = true := decide_eq_true (by omega)
              have eAA : decide (A = A) = true := by simp
              have wt : IntKind.i64.wrap (t + 1) = t + 1 := wrap_id (by omega) (by omega)
              have wm : IntKind.i64.wrap m = m := wrap_id (by omega) (by omega)
              have HM := Lib.hid (show 0 ≤ m ∧ min x (d * m) = A by omega)
              clear gt gu hA hA2 hm0 hmm
              go_wp2_with fail
              refine (D5.out w4).mono ?_; rintro e v1 ⟨rfl, hb⟩
              have X := Lib.hid (X.out.below hb X.out.lt)
              have B := Lib.hid (chain B.out hb)
              clear q0 q1 q2 hb
              have q0 : v1.cell? ⟨w.heap.size, 0, none⟩ = some (.int .i64 x) := X.out.cell 0
              have q1 : v1.cell? ⟨w.heap.size, 1, none⟩ = some (.int .i64 d) := X.out.cell 1
              have q2 : v1.cell? ⟨w.heap.size, 2, none⟩ = some (.int .i64 k) := X.out.cell 2
              go_wp2_with fail
              refine (D6.out v1).mono ?_; rintro e v2 ⟨rfl, hb⟩
              have X := Lib.hid (X.out.below hb X.out.lt)
              have B := Lib.hid (chain B.out hb)
              clear q0 q1 q2 hb
              have q0 : v2.cell? ⟨w.heap.size, 0, none⟩ = some (.int .i64 x) := X.out.cell 0
              have q1 : v2.cell? ⟨w.heap.size, 1, none⟩ = some (.int .i64 d) := X.out.cell 1
              have q2 : v2.cell? ⟨w.heap.size, 2, none⟩ = some (.int .i64 k) := X.out.cell 2
              by_cases gm : m ≤ N
              · have D7 := Lib.hid (DrawnAt_ok HV.out HM.out.1 (by have := HR.out; omega) A (x - A) HM.out.2 rfl)
                have dm : decide (N < m) = false := decide_eq_false (by omega)
                go_wp2_with fail
                all_goals first | (exfalso; omega) | skip
                refine (D7.out v2).mono ?_; rintro e v3 ⟨rfl, hb⟩
                have B := Lib.hid (chain B.out hb)
                clear q0 q1 q2 hb gm
                go_wp2_with fail
                go_ret
                exact ⟨rfl, B.out⟩
              · have D7 := DN
                have dm : decide (N < m) = true := decide_eq_true (by omega)
                have eAx : decide (A = x) = true := decide_eq_true (by have h1 := HR.out; have h2 := HM.out; have h3 := Int.mul_le_mul_of_nonneg_left (show N ≤ m by omega) (show 0 ≤ d by omega); omega)
                have eAx2 : (A == x) = true := eAx
                go_wp2_with fail
                all_goals first | (exfalso; omega) | skip
                refine (D7.out v2).mono ?_; rintro e v3 ⟨rfl, hb⟩
                have B := Lib.hid (chain B.out hb)
                clear q0 q1 q2 hb gm
                go_wp2_with fail
                go_ret
                exact ⟨rfl, B.out⟩
      · have dn2 : decide (n ≤ 1000000) = false := by simpa using gn2
        clear gn gn2
        by_cases gt : t < 0
        · have dt : decide (t < 0) = true := by simpa using gt
          clear gt
          go_wp2_with fail
          go_ret
          exact ⟨rfl, B.out⟩
        · have dt : decide (t < 0) = false := by simpa using gt
          by_cases gu : 1000000 ≤ t
          · have du : decide (1000000 ≤ t) = true := by simpa using gu
            clear gt gu
            go_wp2_with fail
            go_ret
            exact ⟨rfl, B.out⟩
          · have du : decide (1000000 ≤ t) = false := by simpa using gu
            obtain ⟨m, hm⟩ : ∃ m, t * k = m := ⟨_, rfl⟩
            obtain ⟨A, hA⟩ : ∃ A, min x (d * m) = A := ⟨_, rfl⟩
            obtain ⟨A2, hA2⟩ : ∃ A2, min x (d * ((t + 1) * k)) = A2 := ⟨_, rfl⟩
            have D5 := Lib.hid (FedAt_ok HV.out (show 0 ≤ t by omega) (by omega) A (by rw [hm]; exact hA))
            have D6 := Lib.hid (FedAt_ok HV.out (show 0 ≤ t + 1 by omega) (by omega) A2 hA2)
            have hm0 := mul_in (show 0 ≤ t by omega) (show t ≤ 1000000 by omega) (show 0 ≤ k by have := HR.out; omega) (show k ≤ 4096 by have := HR.out; omega)
            rw [hm] at hm0
            have hmm : d * m ≤ d * ((t + 1) * k) := Int.mul_le_mul_of_nonneg_left (by rw [Int.add_mul, hm]; have := HR.out; omega) (by have := HR.out; omega)
            have eA : decide (A ≤ A2) = true := decide_eq_true (by omega)
            have eAA : decide (A = A) = true := by simp
            have wt : IntKind.i64.wrap (t + 1) = t + 1 := wrap_id (by omega) (by omega)
            have wm : IntKind.i64.wrap m = m := wrap_id (by omega) (by omega)
            have HM := Lib.hid (show 0 ≤ m ∧ min x (d * m) = A by omega)
            clear gt gu hA hA2 hm0 hmm
            go_wp2_with fail
            refine (D5.out w2).mono ?_; rintro e v1 ⟨rfl, hb⟩
            have X := Lib.hid (X.out.below hb X.out.lt)
            have B := Lib.hid (chain B.out hb)
            clear q0 q1 q2 hb
            have q0 : v1.cell? ⟨w.heap.size, 0, none⟩ = some (.int .i64 x) := X.out.cell 0
            have q1 : v1.cell? ⟨w.heap.size, 1, none⟩ = some (.int .i64 d) := X.out.cell 1
            have q2 : v1.cell? ⟨w.heap.size, 2, none⟩ = some (.int .i64 k) := X.out.cell 2
            go_wp2_with fail
            refine (D6.out v1).mono ?_; rintro e v2 ⟨rfl, hb⟩
            have X := Lib.hid (X.out.below hb X.out.lt)
            have B := Lib.hid (chain B.out hb)
            clear q0 q1 q2 hb
            have q0 : v2.cell? ⟨w.heap.size, 0, none⟩ = some (.int .i64 x) := X.out.cell 0
            have q1 : v2.cell? ⟨w.heap.size, 1, none⟩ = some (.int .i64 d) := X.out.cell 1
            have q2 : v2.cell? ⟨w.heap.size, 2, none⟩ = some (.int .i64 k) := X.out.cell 2
            by_cases gm : m ≤ N
            · have D7 := Lib.hid (DrawnAt_ok HV.out HM.out.1 (by have := HR.out; omega) A (x - A) HM.out.2 rfl)
              have dm : decide (N < m) = false := decide_eq_false (by omega)
              go_wp2_with fail
              all_goals first | (exfalso; omega) | skip
              refine (D7.out v2).mono ?_; rintro e v3 ⟨rfl, hb⟩
              have B := Lib.hid (chain B.out hb)
              clear q0 q1 q2 hb gm
              go_wp2_with fail
              go_ret
              exact ⟨rfl, B.out⟩
            · have D7 := DN
              have dm : decide (N < m) = true := decide_eq_true (by omega)
              have eAx : decide (A = x) = true := decide_eq_true (by have h1 := HR.out; have h2 := HM.out; have h3 := Int.mul_le_mul_of_nonneg_left (show N ≤ m by omega) (show 0 ≤ d by omega); omega)
              have eAx2 : (A == x) = true := eAx
              go_wp2_with fail
              all_goals first | (exfalso; omega) | skip
              refine (D7.out v2).mono ?_; rintro e v3 ⟨rfl, hb⟩
              have B := Lib.hid (chain B.out hb)
              clear q0 q1 q2 hb gm
              go_wp2_with fail
              go_ret
              exact ⟨rfl, B.out⟩
    · have dn : decide (0 ≤ n) = false := by simpa using gn
      clear gn
      by_cases gt : t < 0
      · have dt : decide (t < 0) = true := by simpa using gt
        clear gt
        go_wp2_with fail
        go_ret
        exact ⟨rfl, B.out⟩
      · have dt : decide (t < 0) = false := by simpa using gt
        by_cases gu : 1000000 ≤ t
        · have du : decide (1000000 ≤ t) = true := by simpa using gu
          clear gt gu
          go_wp2_with fail
          go_ret
          exact ⟨rfl, B.out⟩
        · have du : decide (1000000 ≤ t) = false := by simpa using gu
          obtain ⟨m, hm⟩ : ∃ m, t * k = m := ⟨_, rfl⟩
          obtain ⟨A, hA⟩ : ∃ A, min x (d * m) = A := ⟨_, rfl⟩
          obtain ⟨A2, hA2⟩ : ∃ A2, min x (d * ((t + 1) * k)) = A2 := ⟨_, rfl⟩
          have D5 := Lib.hid (FedAt_ok HV.out (show 0 ≤ t by omega) (by omega) A (by rw [hm]; exact hA))
          have D6 := Lib.hid (FedAt_ok HV.out (show 0 ≤ t + 1 by omega) (by omega) A2 hA2)
          have hm0 := mul_in (show 0 ≤ t by omega) (show t ≤ 1000000 by omega) (show 0 ≤ k by have := HR.out; omega) (show k ≤ 4096 by have := HR.out; omega)
          rw [hm] at hm0
          have hmm : d * m ≤ d * ((t + 1) * k) := Int.mul_le_mul_of_nonneg_left (by rw [Int.add_mul, hm]; have := HR.out; omega) (by have := HR.out; omega)
          have eA : decide (A ≤ A2) = true := decide_eq_true (by omega)
          have eAA : decide (A = A) = true := by simp
          have wt : IntKind.i64.wrap (t + 1) = t + 1 := wrap_id (by omega) (by omega)
          have wm : IntKind.i64.wrap m = m := wrap_id (by omega) (by omega)
          have HM := Lib.hid (show 0 ≤ m ∧ min x (d * m) = A by omega)
          clear gt gu hA hA2 hm0 hmm
          go_wp2_with fail
          refine (D5.out w2).mono ?_; rintro e v1 ⟨rfl, hb⟩
          have X := Lib.hid (X.out.below hb X.out.lt)
          have B := Lib.hid (chain B.out hb)
          clear q0 q1 q2 hb
          have q0 : v1.cell? ⟨w.heap.size, 0, none⟩ = some (.int .i64 x) := X.out.cell 0
          have q1 : v1.cell? ⟨w.heap.size, 1, none⟩ = some (.int .i64 d) := X.out.cell 1
          have q2 : v1.cell? ⟨w.heap.size, 2, none⟩ = some (.int .i64 k) := X.out.cell 2
          go_wp2_with fail
          refine (D6.out v1).mono ?_; rintro e v2 ⟨rfl, hb⟩
          have X := Lib.hid (X.out.below hb X.out.lt)
          have B := Lib.hid (chain B.out hb)
          clear q0 q1 q2 hb
          have q0 : v2.cell? ⟨w.heap.size, 0, none⟩ = some (.int .i64 x) := X.out.cell 0
          have q1 : v2.cell? ⟨w.heap.size, 1, none⟩ = some (.int .i64 d) := X.out.cell 1
          have q2 : v2.cell? ⟨w.heap.size, 2, none⟩ = some (.int .i64 k) := X.out.cell 2
          by_cases gm : m ≤ N
          · have D7 := Lib.hid (DrawnAt_ok HV.out HM.out.1 (by have := HR.out; omega) A (x - A) HM.out.2 rfl)
            have dm : decide (N < m) = false := decide_eq_false (by omega)
            go_wp2_with fail
            all_goals first | (exfalso; omega) | skip
            refine (D7.out v2).mono ?_; rintro e v3 ⟨rfl, hb⟩
            have B := Lib.hid (chain B.out hb)
            clear q0 q1 q2 hb gm
            go_wp2_with fail
            go_ret
            exact ⟨rfl, B.out⟩
          · have D7 := DN
            have dm : decide (N < m) = true := decide_eq_true (by omega)
            have eAx : decide (A = x) = true := decide_eq_true (by have h1 := HR.out; have h2 := HM.out; have h3 := Int.mul_le_mul_of_nonneg_left (show N ≤ m by omega) (show 0 ≤ d by omega); omega)
            have eAx2 : (A == x) = true := eAx
            go_wp2_with fail
            all_goals first | (exfalso; omega) | skip
            refine (D7.out v2).mono ?_; rintro e v3 ⟨rfl, hb⟩
            have B := Lib.hid (chain B.out hb)
            clear q0 q1 q2 hb gm
            go_wp2_with fail
            go_ret
            exact ⟨rfl, B.out⟩
end Go.Proofs.Ytobhnkkjhglgcaa

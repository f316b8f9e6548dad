/- Layer 7: small functions of numbers, on both sides. -/
import Derived.Test.YtmmfmanjajefcaaL0
set_option linter.all false
namespace Go.Proofs.Ytmmfmanjajefcaa
open Go.RowKit

theorem below_drewN {B : Nat} (w : World) (n : Nat) : Below B w (w.drewN n) := by constructor <;> first | rfl | exact Nat.le_refl _ | (intros; rfl)
/-- some draws later -/
def Dr (w w' : World) : Prop := ∃ m, w' = w.drewN m
theorem Dr.refl (w : World) : Dr w w := ⟨0, rfl⟩
theorem Dr.more {w w' : World} (h : Dr w w') (n : Nat) : Dr w (w'.drewN n) := by
  obtain ⟨m, rfl⟩ := h
  exact ⟨m + n, World.drewN_drewN _ _ _⟩
theorem Dr.below {w w' : World} (h : Dr w w') (B : Nat) : Below B w w' := by
  obtain ⟨m, rfl⟩ := h
  exact below_drewN _ _
set_option maxHeartbeats 2000000 in
theorem gcd_q (A B : Nat) (w : World) (hA : A ≤ 9223372036854775807) (hB : B ≤ 9223372036854775807) :
    Calls Try.prog 64 #[.int .i64 (A : Int), .int .i64 (B : Int)] w fun e w' => e = .returned (.int .i64 ((A.gcd B : Nat) : Int)) ∧ ∃ m, w' = w.drewN m := by
  have HAB := Lib.hid (And.intro hA hB)
  clear hA hB
  go_enter Try.func64, Try.ntmps64
  go_wp2_with fail
  go_loopw [0, 1] (fun av bv wr => ∃ (a b : Nat), av = .int .i64 (a : Int) ∧ bv = .int .i64 (b : Int) ∧ a ≤ 9223372036854775807 ∧ b ≤ 9223372036854775807 ∧ a.gcd b = A.gcd B ∧ Dr w wr) (fun _ bv _ => (intOf bv).toNat)
  case atStart => exact ⟨A, B, rfl, rfl, HAB.out.1, HAB.out.2, rfl, Dr.refl _⟩
  case round =>
    obtain ⟨a, b, rfl, rfl, ha, hb, hg, hbr⟩ := hrel
    have HB := Lib.hid hbr
    clear hbr
    have HG := Lib.hid hg
    have HH := Lib.hid (And.intro ha hb)
    clear hg ha hb
    by_cases h0 : b = 0
    · subst h0
      go_wp2_with fail
      go_ret
      exact ⟨ret_int (by rw [← HG.out, Nat.gcd_zero_right]), HB.out⟩
    · have e1 : ((b : Int) != 0) = true := by simp; omega
      have e2 : decide ((b : Int) = 0) = false := by simp; omega
      have e3 : decide (b = 0) = false := by simp; omega
      have hb0 : (0 : Int) < (b : Int) := by omega
      have ha0 : (0 : Int) ≤ (a : Int) := by omega
      have w1 : IntKind.i64.wrap ((a : Int) % (b : Int)) = (a : Int) % (b : Int) := wrap_id (by have := Int.emod_nonneg (a : Int) (b := (b : Int)) (by omega); omega) (by have := Int.emod_lt_of_pos (a : Int) hb0; have := HH.out; omega)
      go_wp2_with fail
      go_quiet (fail)
      have hdn := Lib.hid (HB.out.more nq)
      go_roundw
      case rel => exact ⟨_, _, _, _, _, _, _, _, ⟨b, a % b, rfl, by go_num, HH.out.2, by have := Nat.mod_lt a (show b > 0 by omega); have := HH.out; omega, by rw [← HG.out]; exact (Nat.gcd_comm b (a % b)).trans ((Nat.gcd_rec b a).symm.trans (Nat.gcd_comm b a)), hdn.out⟩, rfl⟩
      case measure => simp [intOf]; have := Nat.mod_lt a (show b > 0 by omega); omega
theorem gcd_c (A B : Nat) (w : World) (hA : A ≤ 9223372036854775807) (hB : B ≤ 9223372036854775807) :
    Calls Try.prog 64 #[.int .i64 (A : Int), .int .i64 (B : Int)] w fun e w' => e = .returned (.int .i64 ((A.gcd B : Nat) : Int)) ∧ Below w.heap.size w w' :=
  (gcd_q A B w hA hB).mono fun _ _ ⟨h1, h2⟩ => ⟨h1, Dr.below h2 _⟩
set_option maxHeartbeats 2000000 in
theorem rgcd_q (A B : Nat) (w : World) (hA : A ≤ 9223372036854775807) (hB : B ≤ 9223372036854775807) :
    Calls Try.prog 60 #[.int .i64 (A : Int), .int .i64 (B : Int)] w fun e w' => e = .returned (.int .i64 ((A.gcd B : Nat) : Int)) ∧ w' = w := by
  have HAB := Lib.hid (And.intro hA hB)
  clear hA hB
  go_enter Try.func60, Try.ntmps60
  go_wp2_with fail
  go_loopw [0, 1] (fun av bv wr => ∃ (a b : Nat), av = .int .i64 (a : Int) ∧ bv = .int .i64 (b : Int) ∧ a ≤ 9223372036854775807 ∧ b ≤ 9223372036854775807 ∧ a.gcd b = A.gcd B ∧ wr = w) (fun _ bv _ => (intOf bv).toNat)
  case atStart => exact ⟨A, B, rfl, rfl, HAB.out.1, HAB.out.2, rfl, rfl⟩
  case round =>
    obtain ⟨a, b, rfl, rfl, ha, hb, hg, rfl⟩ := hrel
    have HG := Lib.hid hg
    have HH := Lib.hid (And.intro ha hb)
    clear hg ha hb
    by_cases h0 : b = 0
    · subst h0
      have e1 : decide ((0 : Int) < ((0 : Nat) : Int)) = false := by simp
      go_wp2_with fail
      go_ret
      exact ⟨ret_int (by rw [← HG.out, Nat.gcd_zero_right]), by first | trivial | rfl⟩
    · have e1 : decide ((0 : Int) < (b : Int)) = true := by simp; omega
      have e0 : decide (0 < b) = true := by simp; omega
      have e2 : decide ((b : Int) = 0) = false := by simp; omega
      have e3 : decide (b = 0) = false := by simp; omega
      have hb0 : (0 : Int) < (b : Int) := by omega
      have ha0 : (0 : Int) ≤ (a : Int) := by omega
      have w1 : IntKind.i64.wrap ((a : Int) % (b : Int)) = (a : Int) % (b : Int) := wrap_id (by have := Int.emod_nonneg (a : Int) (b := (b : Int)) (by omega); omega) (by have := Int.emod_lt_of_pos (a : Int) hb0; have := HH.out; omega)
      go_wp2_with fail
      go_roundw
      case rel => exact ⟨b, a % b, rfl, by go_num, HH.out.2, by have := Nat.mod_lt a (show b > 0 by omega); have := HH.out; omega, by rw [← HG.out]; exact (Nat.gcd_comm b (a % b)).trans ((Nat.gcd_rec b a).symm.trans (Nat.gcd_comm b a)), by first | trivial | rfl⟩
      case measure => simp [intOf]; have := Nat.mod_lt a (show b > 0 by omega); omega
theorem rgcd_c (A B : Nat) (w : World) (hA : A ≤ 9223372036854775807) (hB : B ≤ 9223372036854775807) :
    Calls Try.prog 60 #[.int .i64 (A : Int), .int .i64 (B : Int)] w fun e w' => e = .returned (.int .i64 ((A.gcd B : Nat) : Int)) ∧ Below w.heap.size w w' :=
  (rgcd_q A B w hA hB).mono fun _ _ ⟨h1, h2⟩ => ⟨h1, h2 ▸ Below.refl _ _⟩
set_option maxHeartbeats 1000000 in
theorem fromTo_c (n a b : Int) (w : World) :
    Calls Try.prog 63 #[.int .i64 n, .int .i64 a, .int .i64 b] w fun e w' => e = .returned (.bool (inB n a b)) ∧ w = w' := by
  by_cases h1 : a ≤ n
  · have H := Lib.hid (show inB n a b = decide (n ≤ b) by simp [inB, h1])
    have e1 : decide (a ≤ n) = true := by simpa using h1
    go_enter Try.func63, Try.ntmps63
    go_wp2
    go_ret
    exact ⟨ret_bool H.out.symm, rfl⟩
  · have H := Lib.hid (show inB n a b = false by simp [inB, h1])
    have e1 : decide (a ≤ n) = false := by simpa using h1
    go_enter Try.func63, Try.ntmps63
    go_wp2
    go_ret
    exact ⟨ret_bool H.out.symm, rfl⟩
set_option maxHeartbeats 1000000 in
theorem within_c (n a b : Int) (w : World) :
    Calls Try.prog 65 #[.int .i64 n, .int .i64 a, .int .i64 b] w fun e w' => e = .returned (.bool (inB n a b)) ∧ w = w' := by
  by_cases h1 : a ≤ n
  · have H := Lib.hid (show inB n a b = decide (n ≤ b) by simp [inB, h1])
    have e1 : decide (a ≤ n) = true := by simpa using h1
    go_enter Try.func65, Try.ntmps65
    go_wp2
    go_ret
    exact ⟨ret_bool H.out.symm, rfl⟩
  · have H := Lib.hid (show inB n a b = false by simp [inB, h1])
    have e1 : decide (a ≤ n) = false := by simpa using h1
    go_enter Try.func65, Try.ntmps65
    go_wp2
    go_ret
    exact ⟨ret_bool H.out.symm, rfl⟩
def meshB (a b p : Int) : Bool := inB a 1 4096 && inB b 1 4096 && inB p 0 1000
def feedB (h d k : Int) : Bool := inB h 0 1000000 && inB d 1 1000000 && inB k 1 4096
set_option maxHeartbeats 1000000 in
theorem isMesh_c (a b c : Int) (w : World) :
    Calls Try.prog 69 #[.agg #[.int .i64 a, .int .i64 b, .int .i64 c]] w fun e w' => e = .returned (.bool (meshB a b c)) ∧ Below w.heap.size w w' := by
  have HB := Lib.hid (fun o => (Below.refl w.heap.size w).alloc (Nat.le_refl _) o)
  go_enter Try.func69, Try.ntmps69
  go_wp2_with fail
  refine (fromTo_c a 1 4096 _).mono ?_; rintro e w1 ⟨rfl, rfl⟩
  cases h1 : inB a 1 4096
  · have HX := Lib.hid (show meshB a b c = false by unfold meshB; rw [h1]; rfl)
    clear h1
    go_wp2_with fail
    go_ret
    exact ⟨ret_bool HX.out.symm, HB.out _⟩
  · have H1 := Lib.hid h1
    clear h1
    go_wp2_with fail
    refine (fromTo_c b 1 4096 _).mono ?_; rintro e w1 ⟨rfl, rfl⟩
    cases h2 : inB b 1 4096
    · have HX := Lib.hid (show meshB a b c = false by unfold meshB; rw [H1.out, h2]; rfl)
      clear h2
      go_wp2_with fail
      go_ret
      exact ⟨ret_bool HX.out.symm, HB.out _⟩
    · have H2 := Lib.hid h2
      clear h2
      go_wp2_with fail
      refine (fromTo_c c 0 1000 _).mono ?_; rintro e w1 ⟨rfl, rfl⟩
      go_wp2_with fail
      go_ret
      exact ⟨ret_bool (by unfold meshB; rw [H1.out, H2.out]; rfl), HB.out _⟩
set_option maxHeartbeats 1000000 in
theorem rValidMesh_c (a b c : Int) (w : World) :
    Calls Try.prog 70 #[.agg #[.int .i64 a, .int .i64 b, .int .i64 c]] w fun e w' => e = .returned (.bool (meshB a b c)) ∧ Below w.heap.size w w' := by
  have HB := Lib.hid (fun o => (Below.refl w.heap.size w).alloc (Nat.le_refl _) o)
  go_enter Try.func70, Try.ntmps70
  go_wp2_with fail
  refine (within_c a 1 4096 _).mono ?_; rintro e w1 ⟨rfl, rfl⟩
  cases h1 : inB a 1 4096
  · have HX := Lib.hid (show meshB a b c = false by unfold meshB; rw [h1]; rfl)
    clear h1
    go_wp2_with fail
    go_ret
    exact ⟨ret_bool HX.out.symm, HB.out _⟩
  · have H1 := Lib.hid h1
    clear h1
    go_wp2_with fail
    refine (within_c b 1 4096 _).mono ?_; rintro e w1 ⟨rfl, rfl⟩
    cases h2 : inB b 1 4096
    · have HX := Lib.hid (show meshB a b c = false by unfold meshB; rw [H1.out, h2]; rfl)
      clear h2
      go_wp2_with fail
      go_ret
      exact ⟨ret_bool HX.out.symm, HB.out _⟩
    · have H2 := Lib.hid h2
      clear h2
      go_wp2_with fail
      refine (within_c c 0 1000 _).mono ?_; rintro e w1 ⟨rfl, rfl⟩
      go_wp2_with fail
      go_ret
      exact ⟨ret_bool (by unfold meshB; rw [H1.out, H2.out]; rfl), HB.out _⟩
set_option maxHeartbeats 1000000 in
theorem isFeed_c (a b c : Int) (w : World) :
    Calls Try.prog 85 #[.agg #[.int .i64 a, .int .i64 b, .int .i64 c]] w fun e w' => e = .returned (.bool (feedB a b c)) ∧ Below w.heap.size w w' := by
  have HB := Lib.hid (fun o => (Below.refl w.heap.size w).alloc (Nat.le_refl _) o)
  go_enter Try.func85, Try.ntmps85
  go_wp2_with fail
  refine (fromTo_c a 0 1000000 _).mono ?_; rintro e w1 ⟨rfl, rfl⟩
  cases h1 : inB a 0 1000000
  · have HX := Lib.hid (show feedB a b c = false by unfold feedB; rw [h1]; rfl)
    clear h1
    go_wp2_with fail
    go_ret
    exact ⟨ret_bool HX.out.symm, HB.out _⟩
  · have H1 := Lib.hid h1
    clear h1
    go_wp2_with fail
    refine (fromTo_c b 1 1000000 _).mono ?_; rintro e w1 ⟨rfl, rfl⟩
    cases h2 : inB b 1 1000000
    · have HX := Lib.hid (show feedB a b c = false by unfold feedB; rw [H1.out, h2]; rfl)
      clear h2
      go_wp2_with fail
      go_ret
      exact ⟨ret_bool HX.out.symm, HB.out _⟩
    · have H2 := Lib.hid h2
      clear h2
      go_wp2_with fail
      refine (fromTo_c c 1 4096 _).mono ?_; rintro e w1 ⟨rfl, rfl⟩
      go_wp2_with fail
      go_ret
      exact ⟨ret_bool (by unfold feedB; rw [H1.out, H2.out]; rfl), HB.out _⟩
set_option maxHeartbeats 1000000 in
theorem rvalidFeed_c (a b c : Int) (w : World) :
    Calls Try.prog 86 #[.agg #[.int .i64 a, .int .i64 b, .int .i64 c]] w fun e w' => e = .returned (.bool (feedB a b c)) ∧ Below w.heap.size w w' := by
  have HB := Lib.hid (fun o => (Below.refl w.heap.size w).alloc (Nat.le_refl _) o)
  go_enter Try.func86, Try.ntmps86
  go_wp2_with fail
  refine (within_c a 0 1000000 _).mono ?_; rintro e w1 ⟨rfl, rfl⟩
  cases h1 : inB a 0 1000000
  · have HX := Lib.hid (show feedB a b c = false by unfold feedB; rw [h1]; rfl)
    clear h1
    go_wp2_with fail
    go_ret
    exact ⟨ret_bool HX.out.symm, HB.out _⟩
  · have H1 := Lib.hid h1
    clear h1
    go_wp2_with fail
    refine (within_c b 1 1000000 _).mono ?_; rintro e w1 ⟨rfl, rfl⟩
    cases h2 : inB b 1 1000000
    · have HX := Lib.hid (show feedB a b c = false by unfold feedB; rw [H1.out, h2]; rfl)
      clear h2
      go_wp2_with fail
      go_ret
      exact ⟨ret_bool HX.out.symm, HB.out _⟩
    · have H2 := Lib.hid h2
      clear h2
      go_wp2_with fail
      refine (within_c c 1 4096 _).mono ?_; rintro e w1 ⟨rfl, rfl⟩
      go_wp2_with fail
      go_ret
      exact ⟨ret_bool (by unfold feedB; rw [H1.out, H2.out]; rfl), HB.out _⟩
set_option maxHeartbeats 1000000 in
theorem isCount_c (n : Int) (w : World) : Calls Try.prog 71 #[.int .i64 n] w fun e w' => e = .returned (.bool (inB n 0 1000000)) ∧ w = w' := by
  go_enter Try.func71, Try.ntmps71
  go_wp2_with fail
  refine (fromTo_c n 0 1000000 _).mono ?_; rintro e w1 ⟨rfl, rfl⟩
  go_wp2_with fail
  go_ret
  exact ⟨rfl, rfl⟩
set_option maxHeartbeats 2000000 in
theorem ValidRatio_c (n d : Int) (w : World) : Calls Try.prog 25 #[.agg #[.int .i64 n, .int .i64 d]] w fun e w' => e = .returned (.bool (rtB n d)) ∧ Below w.heap.size w w' := by
  have HB := Lib.hid (fun o => (Below.refl w.heap.size w).alloc (Nat.le_refl _) o)
  go_enter Try.func25, Try.ntmps25
  go_wp2_with fail
  refine (fromTo_c n 0 1000000000 _).mono ?_; rintro e w1 ⟨rfl, rfl⟩
  cases h1 : inB n 0 1000000000
  · have HX := Lib.hid (show rtB n d = false by unfold rtB; rw [h1]; rfl)
    clear h1
    go_wp2_with fail
    go_ret
    exact ⟨ret_bool HX.out.symm, HB.out _⟩
  · have H1 := Lib.hid h1
    clear h1
    go_wp2_with fail
    refine (fromTo_c d 1 1000000000 _).mono ?_; rintro e w1 ⟨rfl, rfl⟩
    cases h2 : inB d 1 1000000000
    · have HX := Lib.hid (show rtB n d = false by unfold rtB; rw [H1.out, h2]; rfl)
      clear h2
      go_wp2_with fail
      go_ret
      exact ⟨ret_bool HX.out.symm, HB.out _⟩
    · have H2 := Lib.hid h2
      clear h2
      obtain ⟨N, rfl⟩ : ∃ N : Nat, n = (N : Int) := ⟨n.toNat, by have := inB_iff.1 H1.out; omega⟩
      obtain ⟨D, rfl⟩ : ∃ D : Nat, d = (D : Int) := ⟨d.toNat, by have := inB_iff.1 H2.out; omega⟩
      obtain ⟨g, hg⟩ : ∃ g, N.gcd D = g := ⟨_, rfl⟩
      have HX := Lib.hid (show rtB (N : Int) (D : Int) = decide (g = 1) by unfold rtB; rw [H1.out, H2.out, ← hg]; rfl)
      have G := Lib.hid (fun v => gcd_c N D v (by have := inB_iff.1 H1.out; omega) (by have := inB_iff.1 H2.out; omega))
      rw [hg] at G
      clear hg
      go_wp2_with fail
      refine (G.out _).mono ?_; rintro e w1 ⟨rfl, hb1⟩
      have HB1 := Lib.hid (boxed hb1)
      clear hb1
      go_wp2_with fail
      go_ret
      exact ⟨ret_bool (by rw [HX.out, Bool.eq_iff_iff, beq_iff_eq, decide_eq_true_iff]; omega), HB1.out⟩
set_option maxHeartbeats 2000000 in
theorem rValidRatio_c (n d : Int) (w : World) : Calls Try.prog 26 #[.agg #[.int .i64 n, .int .i64 d]] w fun e w' => e = .returned (.bool (rtB n d)) ∧ Below w.heap.size w w' := by
  have HB := Lib.hid (fun o => (Below.refl w.heap.size w).alloc (Nat.le_refl _) o)
  go_enter Try.func26, Try.ntmps26
  go_wp2_with fail
  refine (within_c n 0 1000000000 _).mono ?_; rintro e w1 ⟨rfl, rfl⟩
  cases h1 : inB n 0 1000000000
  · have HX := Lib.hid (show rtB n d = false by unfold rtB; rw [h1]; rfl)
    clear h1
    go_wp2_with fail
    go_ret
    exact ⟨ret_bool HX.out.symm, HB.out _⟩
  · have H1 := Lib.hid h1
    clear h1
    go_wp2_with fail
    refine (within_c d 1 1000000000 _).mono ?_; rintro e w1 ⟨rfl, rfl⟩
    cases h2 : inB d 1 1000000000
    · have HX := Lib.hid (show rtB n d = false by unfold rtB; rw [H1.out, h2]; rfl)
      clear h2
      go_wp2_with fail
      go_ret
      exact ⟨ret_bool HX.out.symm, HB.out _⟩
    · have H2 := Lib.hid h2
      clear h2
      obtain ⟨N, rfl⟩ : ∃ N : Nat, n = (N : Int) := ⟨n.toNat, by have := inB_iff.1 H1.out; omega⟩
      obtain ⟨D, rfl⟩ : ∃ D : Nat, d = (D : Int) := ⟨d.toNat, by have := inB_iff.1 H2.out; omega⟩
      obtain ⟨g, hg⟩ : ∃ g, N.gcd D = g := ⟨_, rfl⟩
      have HX := Lib.hid (show rtB (N : Int) (D : Int) = decide (g = 1) by unfold rtB; rw [H1.out, H2.out, ← hg]; rfl)
      have G := Lib.hid (fun v => rgcd_c N D v (by have := inB_iff.1 H1.out; omega) (by have := inB_iff.1 H2.out; omega))
      rw [hg] at G
      clear hg
      go_wp2_with fail
      refine (G.out _).mono ?_; rintro e w1 ⟨rfl, hb1⟩
      have HB1 := Lib.hid (boxed hb1)
      clear hb1
      go_wp2_with fail
      go_ret
      exact ⟨ret_bool (by rw [HX.out, Bool.eq_iff_iff, beq_iff_eq, decide_eq_true_iff]; omega), HB1.out⟩
end Go.Proofs.Ytmmfmanjajefcaa

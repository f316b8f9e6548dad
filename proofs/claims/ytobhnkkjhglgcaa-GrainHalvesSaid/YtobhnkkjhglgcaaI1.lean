/- Layer 3: the sizes of grains after cuts, and the law on halving, walked. -/
import Derived.Test.YtobhnkkjhglgcaaI0
import Derived.Test.YtobhnkkjhglgcaaTA
namespace Go.Proofs.Ytobhnkkjhglgcaa
open Go.RowKit

set_option maxHeartbeats 2000000 in
theorem Halved_c (s t : Int) (w : World) : Calls Try.prog 13 #[.int .i64 s, .int .i64 t] w fun e w' => e = .returned (.tuple #[.int .i64 (hvV s t), .int .i64 (hvE s t)]) ∧ Below w.heap.size w w' := by
  cases h1 : inB s 1 4095
  · have HV := Lib.hid (show hvV s t = 0 ∧ hvE s t = 1 by unfold hvV hvE szOk; rw [h1]; exact ⟨rfl, rfl⟩)
    have H1 := Lib.hid h1
    clear h1
    rw [HV.out.1, HV.out.2]
    go_enter Try.func13, Try.ntmps13
    go_wp2_with fail
    refine (isSize_c s w).mono ?_; rintro e w1 ⟨rfl, hb1⟩
    rw [H1.out]
    go_wp2_with fail
    go_ret2
    exact ⟨rfl, hb1⟩
  have H1 := Lib.hid h1
  cases h2 : inB t 0 70000
  · have HV := Lib.hid (show hvV s t = 0 ∧ hvE s t = 1 by unfold hvV hvE szOk; rw [h1, h2]; exact ⟨rfl, rfl⟩)
    rw [HV.out.1, HV.out.2]
    by_cases h0 : t < 0
    · have d0 : decide (t < 0) = true := by simpa using h0
      clear h1 h2 h0
      go_enter Try.func13, Try.ntmps13
      go_wp2_with fail
      refine (isSize_c s w).mono ?_; rintro e w1 ⟨rfl, hb1⟩
      rw [H1.out]
      go_wp2_with fail
      go_ret2
      exact ⟨rfl, hb1⟩
    · have d0 : decide (t < 0) = false := by simpa using h0
      have d1 : decide (70000 < t) = true := decide_eq_true (by have := inB_not.1 h2; omega)
      clear h1 h2 h0
      go_enter Try.func13, Try.ntmps13
      go_wp2_with fail
      refine (isSize_c s w).mono ?_; rintro e w1 ⟨rfl, hb1⟩
      rw [H1.out]
      go_wp2_with fail
      go_ret2
      exact ⟨rfl, hb1⟩
  · have HZ := Lib.hid (show szOk s t = true by unfold szOk; rw [h1, h2]; rfl)
    have HV := Lib.hid (show hvV s t = hvN t.toNat s ∧ hvE s t = 0 by unfold hvV hvE; rw [HZ.out]; exact ⟨rfl, rfl⟩)
    rw [HV.out.1, HV.out.2]
    have d0 : decide (t < 0) = false := decide_eq_false (by have := inB_iff.1 h2; omega)
    have d1 : decide (70000 < t) = false := decide_eq_false (by have := inB_iff.1 h2; omega)
    clear h1 h2
    go_enter Try.func13, Try.ntmps13
    go_wp2_with fail
    refine (isSize_c s w).mono ?_; rintro e w1 ⟨rfl, hb1⟩
    rw [H1.out]
    go_wp2_with fail
    refine (halved_c s t w1 HZ.out).mono ?_; rintro e w2 ⟨rfl, rfl⟩
    go_wp2_with fail
    go_ret2
    exact ⟨rfl, hb1⟩
theorem Halved_b (s t v z : Int) (hv : hvV s t = v) (hz : hvE s t = z) (w : World) : Calls Try.prog 13 #[.int .i64 s, .int .i64 t] w fun e w' => e = .returned (.tuple #[.int .i64 v, .int .i64 z]) ∧ Below w.heap.size w w' := by
  subst hv hz
  exact Halved_c s t w

set_option maxRecDepth 100000 in
set_option maxHeartbeats 4000000 in
theorem GrainHalves_c (s o a b : Int) (w : World) : Calls Try.prog 4 #[.int .i64 s, .int .i64 o, .int .i64 a, .int .i64 b] w fun e w' => e = .returned (.bool true) ∧ Below w.heap.size w w' := by
  by_cases g1 : 35000 < a
  · have e1 : decide (35000 < a) = true := by simpa using g1
    clear g1
    go_enter Try.func4, Try.ntmps4
    go_wp2_with fail
    refine (awake_c w).mono ?_; rintro e w1 ⟨rfl, hb1⟩
    go_wp2_with fail
    go_ret
    exact ⟨rfl, hb1⟩
  have e1 : decide (35000 < a) = false := by simpa using g1
  by_cases g2 : 35000 < b
  · have e2 : decide (35000 < b) = true := by simpa using g2
    clear g1 g2
    go_enter Try.func4, Try.ntmps4
    go_wp2_with fail
    refine (awake_c w).mono ?_; rintro e w1 ⟨rfl, hb1⟩
    go_wp2_with fail
    go_ret
    exact ⟨rfl, hb1⟩
  have e2 : decide (35000 < b) = false := by simpa using g2
  cases hsa : szOk s a
  · have HV := Lib.hid (show hvV s a = 0 by unfold hvV; rw [hsa]; rfl)
    have HE := Lib.hid (show hvE s a = 1 by unfold hvE; rw [hsa]; rfl)
    clear g1 g2 hsa
    go_enter Try.func4, Try.ntmps4
    go_wp2_with fail
    refine (awake_c w).mono ?_; rintro e w1 ⟨rfl, hb1⟩
    go_wp2_with fail
    refine (Halved_b s a 0 1 HV.out HE.out w1).mono ?_; rintro e w2 ⟨rfl, hb2⟩
    go_wp2_with fail
    go_ret
    exact ⟨rfl, chain hb1 hb2⟩
  obtain ⟨⟨s1, s2⟩, a0, a1⟩ := szOk_iff.1 hsa
  have HE := Lib.hid (show hvE s a = 0 by unfold hvE; rw [hsa]; rfl)
  obtain ⟨x, hx, x1, x2, hxn⟩ : ∃ x, hvV s a = x ∧ 1 ≤ x ∧ x ≤ s ∧ hvN a.toNat s = x :=
    ⟨_, rfl, by unfold hvV; rw [hsa]; exact (hvN_bd _ _ s1).1, by unfold hvV; rw [hsa]; exact (hvN_bd _ _ s1).2, by unfold hvV; rw [hsa]; rfl⟩
  have HX := Lib.hid hx
  have d1 : decide (x < 1) = false := decide_eq_false (by omega)
  have d2 : decide (s < x) = false := decide_eq_false (by omega)
  -- the other grain
  obtain ⟨ow, oz, hw1, hw2, hwd⟩ : ∃ ow oz, hvV o a = ow ∧ hvE o a = oz ∧ (oz = 1 ∨ oz = 0 ∧ (s ≤ o → x ≤ ow)) := by
    refine ⟨_, _, rfl, rfl, ?_⟩
    cases ho : szOk o a
    · left; unfold hvE; rw [ho]; rfl
    · right
      refine ⟨by unfold hvE; rw [ho]; rfl, fun h => ?_⟩
      unfold hvV
      rw [ho, if_pos rfl, ← hxn]
      exact hvN_mono _ _ _ s1 h
  have HW1 := Lib.hid hw1
  have HW2 := Lib.hid hw2
  have HWD := Lib.hid hwd
  obtain ⟨c, hc⟩ : ∃ c, IntKind.i64.wrap (a + b) = c := ⟨_, rfl⟩
  obtain ⟨y, f, z, g, hy, hf, hz, hg, hd⟩ : ∃ y f z g, hvV x b = y ∧ hvE x b = f ∧ hvV s c = z ∧ hvE s c = g ∧ ((b < 0 ∧ f = 1) ∨ (0 ≤ b ∧ f = 0 ∧ g = 0 ∧ y = z)) := by
    refine ⟨_, _, _, _, rfl, rfl, rfl, rfl, ?_⟩
    by_cases hb : b < 0
    · left
      refine ⟨hb, ?_⟩
      have : szOk x b = false := by
        cases h : szOk x b
        · rfl
        · have := szOk_iff.1 h; omega
      unfold hvE; rw [this]; rfl
    · right
      have hcab : c = a + b := by rw [← hc]; exact wrap_id (by omega) (by omega)
      have k1 : szOk x b = true := szOk_iff.2 ⟨⟨x1, by omega⟩, by omega, by omega⟩
      have k2 : szOk s c = true := szOk_iff.2 ⟨⟨s1, s2⟩, by omega, by omega⟩
      refine ⟨by omega, by unfold hvE; rw [k1]; rfl, by unfold hvE; rw [k2]; rfl, ?_⟩
      unfold hvV
      rw [k1, k2, if_pos rfl, if_pos rfl, hcab, show (a + b).toNat = a.toNat + b.toNat by omega, hvN_add, hxn]
  have HY := Lib.hid hy
  have HF := Lib.hid hf
  have HZ := Lib.hid hz
  have HG := Lib.hid hg
  have HC := Lib.hid hc
  clear g1 g2 hsa s1 s2 a0 a1 hx x1 x2 hxn hw1 hw2 hwd hy hf hz hg
  go_enter Try.func4, Try.ntmps4
  go_wp2_with fail
  refine (awake_c w).mono ?_; rintro e w1 ⟨rfl, hb1⟩
  go_wp2_with fail
  refine (Halved_b s a x 0 HX.out HE.out w1).mono ?_; rintro e w2 ⟨rfl, hb2⟩
  go_wp2_with fail
  refine (Halved_b x b y f HY.out HF.out w2).mono ?_; rintro e w3 ⟨rfl, hb3⟩
  go_wp2_with fail
  refine (Halved_b s c z g HZ.out HG.out w3).mono ?_; rintro e w4 ⟨rfl, hb4⟩
  go_wp2_with fail
  refine (Halved_b o a ow oz HW1.out HW2.out w4).mono ?_; rintro e w5 ⟨rfl, hb5⟩
  have HB := Lib.hid (chain (chain (chain (chain hb1 hb2) hb3) hb4) hb5)
  clear hb1 hb2 hb3 hb4 hb5 hc
  by_cases so : o < s
  · have t1 : decide (o < s) = true := decide_eq_true so
    clear so
    rcases hd with ⟨hb0, rfl⟩ | ⟨hb0, rfl, rfl, rfl⟩
    · have t2 : decide (0 ≤ b) = false := decide_eq_false (by omega)
      clear hb0
      rcases HWD.out with rfl | ⟨rfl, -⟩
      all_goals
        go_wp2_with fail
        go_ret
        exact ⟨rfl, HB.out⟩
    · have t2 : decide (0 ≤ b) = true := decide_eq_true (by omega)
      have t3 : decide (y = y) = true := by simp
      clear hb0
      rcases HWD.out with rfl | ⟨rfl, -⟩
      all_goals
        go_wp2_with fail
        go_ret
        exact ⟨rfl, HB.out⟩
  · have t1 : decide (o < s) = false := decide_eq_false so
    rcases hd with ⟨hb0, rfl⟩ | ⟨hb0, rfl, rfl, rfl⟩
    · have t2 : decide (0 ≤ b) = false := decide_eq_false (by omega)
      clear hb0
      rcases HWD.out with rfl | ⟨rfl, h⟩
      · clear so
        go_wp2_with fail
        go_ret
        exact ⟨rfl, HB.out⟩
      · have t4 : decide (x ≤ ow) = true := decide_eq_true (h (by omega))
        clear so h
        go_wp2_with fail
        go_ret
        exact ⟨rfl, HB.out⟩
    · have t2 : decide (0 ≤ b) = true := decide_eq_true (by omega)
      have t3 : decide (y = y) = true := by simp
      clear hb0
      rcases HWD.out with rfl | ⟨rfl, h⟩
      · clear so
        go_wp2_with fail
        go_ret
        exact ⟨rfl, HB.out⟩
      · have t4 : decide (x ≤ ow) = true := decide_eq_true (h (by omega))
        clear so h
        go_wp2_with fail
        go_ret
        exact ⟨rfl, HB.out⟩
end Go.Proofs.Ytobhnkkjhglgcaa

/- Layer 3: the sizes of grains after cuts, and the law on halving, walked. -/
import Derived.Test.YtikfiallhmhicaaGreatI0
import Derived.Test.YtikfiallhmhicaaGreatTA
namespace Go.Proofs.YtikfiallhmhicaaGreat
open Go.RowKit

set_option maxHeartbeats 2000000 in
theorem Halved_c (s t : Int) (w : World) : Calls Tryz.prog 6 #[.int .i64 s, .int .i64 t] w fun e w' => e = .returned (.tuple #[.int .i64 (hvV s t), .int .i64 (hvE s t)]) ∧ Below w.heap.size w w' := by
  cases h1 : inB s 1 4095
  · have HV := Lib.hid (show hvV s t = 0 ∧ hvE s t = 1 by unfold hvV hvE szOk; rw [h1]; exact ⟨rfl, rfl⟩)
    have H1 := Lib.hid h1
    clear h1
    rw [HV.out.1, HV.out.2]
    go_enter Tryz.func6, Tryz.ntmps6
    go_wp2_with fail
    refine (isSize_c s w).mono ?_; rintro e w1 ⟨rfl, hb1⟩
    rw [H1.out]
    go_wp2_with fail
    go_ret2
    exact ⟨rfl, hb1⟩
  have H1 := Lib.hid h1
  cases h2 : inB t 0 70000
  · have HV := Lib.hid (show hvV s t = 0 ∧ hvE s t = 1 by unfold hvV hvE szOk; rw [h1, h2]; exact ⟨rfl, rfl⟩)
    rw [HV.out.1, HV.out.2]
    by_cases h0 : t < 0
    · have d0 : decide (t < 0) = true := by simpa using h0
      clear h1 h2 h0
      go_enter Tryz.func6, Tryz.ntmps6
      go_wp2_with fail
      refine (isSize_c s w).mono ?_; rintro e w1 ⟨rfl, hb1⟩
      rw [H1.out]
      go_wp2_with fail
      go_ret2
      exact ⟨rfl, hb1⟩
    · have d0 : decide (t < 0) = false := by simpa using h0
      have d1 : decide (70000 < t) = true := decide_eq_true (by have := inB_not.1 h2; omega)
      clear h1 h2 h0
      go_enter Tryz.func6, Tryz.ntmps6
      go_wp2_with fail
      refine (isSize_c s w).mono ?_; rintro e w1 ⟨rfl, hb1⟩
      rw [H1.out]
      go_wp2_with fail
      go_ret2
      exact ⟨rfl, hb1⟩
  · have HZ := Lib.hid (show szOk s t = true by unfold szOk; rw [h1, h2]; rfl)
    have HV := Lib.hid (show hvV s t = hvN t.toNat s ∧ hvE s t = 0 by unfold hvV hvE; rw [HZ.out]; exact ⟨rfl, rfl⟩)
    rw [HV.out.1, HV.out.2]
    have d0 : decide (t < 0) = false := decide_eq_false (by have := inB_iff.1 h2; omega)
    have d1 : decide (70000 < t) = false := decide_eq_false (by have := inB_iff.1 h2; omega)
    clear h1 h2
    go_enter Tryz.func6, Tryz.ntmps6
    go_wp2_with fail
    refine (isSize_c s w).mono ?_; rintro e w1 ⟨rfl, hb1⟩
    rw [H1.out]
    go_wp2_with fail
    refine (halved_c s t w1 HZ.out).mono ?_; rintro e w2 ⟨rfl, rfl⟩
    go_wp2_with fail
    go_ret2
    exact ⟨rfl, hb1⟩
theorem Halved_b (s t v z : Int) (hv : hvV s t = v) (hz : hvE s t = z) (w : World) : Calls Tryz.prog 6 #[.int .i64 s, .int .i64 t] w fun e w' => e = .returned (.tuple #[.int .i64 v, .int .i64 z]) ∧ Below w.heap.size w w' := by
  subst hv hz
  exact Halved_c s t w

end Go.Proofs.YtikfiallhmhicaaGreat

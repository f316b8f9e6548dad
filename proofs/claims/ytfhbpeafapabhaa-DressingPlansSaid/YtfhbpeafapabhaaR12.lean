/- DressingPlans: the law. -/
import Derived.Test.YtfhbpeafapabhaaR11
import Derived.Test.YtfhbpeafapabhaaW3
namespace Go.Proofs.Ytfhbpeafapabhaa
open Go.RowKit

set_option maxRecDepth 100000 in
set_option maxHeartbeats 8000000 in
theorem DressingPlans_c (t : Tk) (v : Value) (w : World) (h : IsTask w w.heap.size v t) :
    Calls Try.prog 4 #[v] w fun e w' => e = .returned (.bool true) ∧ Below w.heap.size w w' := by
  have HT := Lib.hid h
  obtain ⟨s, rfl, A, c, rfl, hcap, hcell⟩ := h
  have HB := Lib.hid (Box.made w 24 #[.int .i64 t.wide, .slice A t.need.length c])
  clear hcap hcell
  go_enter Try.func4, Try.ntmps4
  go_wp2_with fail
  refine (awake_c _).mono ?_; rintro e w1 ⟨rfl, hb1⟩
  have B1 : Below w.heap.size w w1 := boxed hb1
  have H1 := Lib.hid (show Below w.heap.size w w1 ∧ Box w1 w.heap.size 24 #[.int .i64 t.wide, .slice A t.need.length c] from ⟨B1, HB.out.later hb1⟩)
  have k0 : w1.cell? ⟨w.heap.size, 0, none⟩ = some (.int .i64 t.wide) := H1.out.2.cell 0
  have k1 : w1.cell? ⟨w.heap.size, 1, none⟩ = some (.slice A t.need.length c) := H1.out.2.cell 1
  clear B1 hb1
  go_wp2_with fail
  refine (short_c t _ _ (HT.out.mono H1.out.1 H1.out.1.size)).mono ?_; rintro e w2 ⟨rfl, hb2⟩
  have H2 := Lib.hid (show Below w.heap.size w w2 ∧ Box w2 w.heap.size 24 #[.int .i64 t.wide, .slice A t.need.length c] from ⟨H1.out.1.trans (hb2.mono H1.out.1.size), H1.out.2.later hb2⟩)
  clear k0 k1 hb2
  cases hsh : shortB t
  · clear hsh
    go_wp2_with fail
    go_ret
    exact ⟨rfl, H2.out.1⟩
  clear hsh
  have k0 : w2.cell? ⟨w.heap.size, 0, none⟩ = some (.int .i64 t.wide) := H2.out.2.cell 0
  have k1 : w2.cell? ⟨w.heap.size, 1, none⟩ = some (.slice A t.need.length c) := H2.out.2.cell 1
  go_wp2_with fail
  clear k0 k1
  refine (Fewest_c t _ _ (HT.out.mono H2.out.1 H2.out.1.size)).mono ?_; rintro e w3 ⟨rfl, hb3⟩
  have H3 := Lib.hid (show Below w.heap.size w w3 ∧ Box w3 w.heap.size 24 #[.int .i64 t.wide, .slice A t.need.length c] from ⟨H2.out.1.trans (hb3.mono H2.out.1.size), H2.out.2.later hb3⟩)
  have k0 : w3.cell? ⟨w.heap.size, 0, none⟩ = some (.int .i64 t.wide) := H3.out.2.cell 0
  have k1 : w3.cell? ⟨w.heap.size, 1, none⟩ = some (.slice A t.need.length c) := H3.out.2.cell 1
  clear hb3
  go_wp2_with fail
  clear k0 k1
  refine (rFewest_c t _ _ (HT.out.mono H3.out.1 H3.out.1.size)).mono ?_; rintro e w4 ⟨rfl, hb4⟩
  have H4 := Lib.hid (show Below w.heap.size w w4 ∧ Box w4 w.heap.size 24 #[.int .i64 t.wide, .slice A t.need.length c] from ⟨H3.out.1.trans (hb4.mono H3.out.1.size), H3.out.2.later hb4⟩)
  have k0 : w4.cell? ⟨w.heap.size, 0, none⟩ = some (.int .i64 t.wide) := H4.out.2.cell 0
  have k1 : w4.cell? ⟨w.heap.size, 1, none⟩ = some (.slice A t.need.length c) := H4.out.2.cell 1
  clear hb4
  go_wp2_with fail
  clear k0 k1
  refine (Plan_c t _ _ (HT.out.mono H4.out.1 H4.out.1.size)).mono ?_; rintro e w5 ⟨s5, rfl, hs5, hb5⟩
  have H5 := Lib.hid (show Below w.heap.size w w5 ∧ Box w5 w.heap.size 24 #[.int .i64 t.wide, .slice A t.need.length c] ∧ Ints w5 w5.heap.size s5 (plR t) from ⟨H4.out.1.trans (hb5.mono H4.out.1.size), H4.out.2.later hb5, hs5⟩)
  have k0 : w5.cell? ⟨w.heap.size, 0, none⟩ = some (.int .i64 t.wide) := H5.out.2.1.cell 0
  have k1 : w5.cell? ⟨w.heap.size, 1, none⟩ = some (.slice A t.need.length c) := H5.out.2.1.cell 1
  clear hb5 hs5
  go_wp2_with fail
  clear k0 k1
  refine (rPlan_c t _ _ (HT.out.mono H5.out.1 H5.out.1.size)).mono ?_; rintro e w6 ⟨s6, rfl, hs6, hb6⟩
  have H6 := Lib.hid (show Below w.heap.size w w6 ∧ Ints w6 w6.heap.size s5 (plR t) ∧ Ints w6 w6.heap.size s6 (plR t) from ⟨H5.out.1.trans (hb6.mono H5.out.1.size), H5.out.2.2.later hb6, hs6⟩)
  clear hb6 hs6
  go_wp2_with fail
  refine (SameInts_b (plR t) (plR t) true (by simp) _ _ _ H6.out.2.1 H6.out.2.2).mono ?_; rintro e w7 ⟨rfl, hb7⟩
  have HX := Lib.hid hb7
  clear hb7
  go_wp2_with fail
  go_ret
  exact ⟨rfl, by first | exact H6.out.1.trans (HX.out.mono H6.out.1.size) | (have e := HX.out; subst e; exact H6.out.1)⟩

end Go.Proofs.Ytfhbpeafapabhaa

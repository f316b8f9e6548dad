/- DressingTasks: the law. -/
import Derived.Test.YtfhbpeafapabhaaQ7r
namespace Go.Proofs.Ytfhbpeafapabhaa
open Go.RowKit

set_option maxRecDepth 100000 in
set_option maxHeartbeats 8000000 in
theorem DressingTasks_c (t : Tk) (p : List Int) (v u : Value) (w : World) (h : IsTask w w.heap.size v t) (hp : Ints w w.heap.size u p) :
    Calls Try.prog 3 #[v, u] w fun e w' => e = .returned (.bool true) ∧ Below w.heap.size w w' := by
  have HT := Lib.hid h
  have HP := Lib.hid hp
  obtain ⟨s, rfl, A, c, rfl, hcap, hcell⟩ := h
  obtain ⟨hl, A', c', rfl, hcap', hcell'⟩ := hp
  have HB := Lib.hid (Box.made w 24 #[.int .i64 t.wide, .slice A t.need.length c])
  clear hcap hcell hcap' hcell' hl
  go_enter Try.func3, Try.ntmps3
  go_wp2_with fail
  refine (awake_c _).mono ?_; rintro e w1 ⟨rfl, hb1⟩
  have B1 : Below w.heap.size w w1 := boxed hb1
  have H1 := Lib.hid (show Below w.heap.size w w1 ∧ Box w1 w.heap.size 24 #[.int .i64 t.wide, .slice A t.need.length c] from ⟨B1, HB.out.later hb1⟩)
  have k0 : w1.cell? ⟨w.heap.size, 0, none⟩ = some (.int .i64 t.wide) := H1.out.2.cell 0
  have k1 : w1.cell? ⟨w.heap.size, 1, none⟩ = some (.slice A t.need.length c) := H1.out.2.cell 1
  clear B1 hb1
  go_wp2_with fail
  refine (short_c t _ _ (HT.out.mono H1.out.1 H1.out.1.size)).mono ?_; rintro e w2 ⟨rfl, hb2⟩
  have H2 := Lib.hid (show Below w.heap.size w w2 ∧ Box w2 w.heap.size 24 #[.int .i64 t.wide, .slice A t.need.length c] from ⟨H1.out.1.trans (hb2.mono H1.out.1.size), H1.out.2.later hb2⟩)
  clear k0 k1 hb2
  cases hsh : shortB t
  · clear hsh
    go_wp2_with fail
    go_ret
    exact ⟨rfl, H2.out.1⟩
  clear hsh
  by_cases h1 : p.length ≤ 1000
  case neg =>
    have d1 : decide ((1000 : Int) < (p.length : Int)) = true := by simp; omega
    have d2 : decide (1000 < p.length) = true := by simp; omega
    clear h1
    go_wp2_with fail
    go_ret
    exact ⟨rfl, H2.out.1⟩
  have d1 : decide ((1000 : Int) < (p.length : Int)) = false := by simp; omega
  have d2 : decide (1000 < p.length) = false := by simp; omega
  clear h1
  have k0 : w2.cell? ⟨w.heap.size, 0, none⟩ = some (.int .i64 t.wide) := H2.out.2.cell 0
  have k1 : w2.cell? ⟨w.heap.size, 1, none⟩ = some (.slice A t.need.length c) := H2.out.2.cell 1
  go_wp2_with fail
  clear d1 d2 k0 k1
  refine (Covers_c t p _ _ _ (HT.out.mono H2.out.1 H2.out.1.size) (HP.out.mono H2.out.1 H2.out.1.size)).mono ?_; rintro e w3 ⟨s3, rfl, hs3, hb3⟩
  have H3 := Lib.hid (show Below w.heap.size w w3 ∧ Box w3 w.heap.size 24 #[.int .i64 t.wide, .slice A t.need.length c] ∧ Ints w3 w3.heap.size s3 (covR t p) from ⟨H2.out.1.trans (hb3.mono H2.out.1.size), H2.out.2.later hb3, hs3⟩)
  obtain ⟨-, A6, c6, rfl, -, -⟩ := hs3
  have k0 : w3.cell? ⟨w.heap.size, 0, none⟩ = some (.int .i64 t.wide) := H3.out.2.1.cell 0
  have k1 : w3.cell? ⟨w.heap.size, 1, none⟩ = some (.slice A t.need.length c) := H3.out.2.1.cell 1
  clear hb3
  go_wp2_with fail
  clear k0 k1
  refine (rCovers_c t p _ _ _ (HT.out.mono H3.out.1 H3.out.1.size) (HP.out.mono H3.out.1 H3.out.1.size)).mono ?_; rintro e w4 ⟨s4, rfl, hs4, hb4⟩
  have H4 := Lib.hid (show Below w.heap.size w w4 ∧ Box w4 w.heap.size 24 #[.int .i64 t.wide, .slice A t.need.length c] ∧ Ints w4 w4.heap.size (.slice A6 (covR t p).length c6) (covR t p) ∧ Ints w4 w4.heap.size s4 (covR t p) from ⟨H3.out.1.trans (hb4.mono H3.out.1.size), H3.out.2.1.later hb4, H3.out.2.2.later hb4, hs4⟩)
  obtain ⟨-, A8, c8, rfl, -, -⟩ := hs4
  clear hb4
  go_wp2_with fail
  refine (Total_c p _ _ (HP.out.mono H4.out.1 H4.out.1.size)).mono ?_; rintro e w5 ⟨rfl, hb5⟩
  have H5 := Lib.hid (show Below w.heap.size w w5 ∧ Box w5 w.heap.size 24 #[.int .i64 t.wide, .slice A t.need.length c] ∧ Ints w5 w5.heap.size (.slice A6 (covR t p).length c6) (covR t p) ∧ Ints w5 w5.heap.size (.slice A8 (covR t p).length c8) (covR t p) from ⟨H4.out.1.trans (hb5.mono H4.out.1.size), H4.out.2.1.later hb5, H4.out.2.2.1.later hb5, H4.out.2.2.2.later hb5⟩)
  clear hb5
  go_wp2_with fail
  refine (rTotal_c p _ _ (HP.out.mono H5.out.1 H5.out.1.size)).mono ?_; rintro e w6 ⟨rfl, hb6⟩
  have H6 := Lib.hid (show Below w.heap.size w w6 ∧ Box w6 w.heap.size 24 #[.int .i64 t.wide, .slice A t.need.length c] ∧ Ints w6 w6.heap.size (.slice A6 (covR t p).length c6) (covR t p) ∧ Ints w6 w6.heap.size (.slice A8 (covR t p).length c8) (covR t p) from ⟨H5.out.1.trans (hb6.mono H5.out.1.size), H5.out.2.1.later hb6, H5.out.2.2.1.later hb6, H5.out.2.2.2.later hb6⟩)
  clear hb6
  go_wp2_with fail
  refine tasks8_c _ _ _ _ _ _ _ _ _ _ _ _ _ _ _ _ _ _ _ _ _ _ _ _ _ _ _ _ _ _ _ _ _ _ _ _ _ _ _ _ _ _ _ _ _ _ _ _ _ _ _ _ _ _ _ _ _ _ _ _ _ _ _ _ _ _ _ _ _ _ _ _ _ _ _ _ _ _ _ _ _ _ _ _ _ _ _ _ _ _ _ _ (HT.out.mono H6.out.1 H6.out.1.size) (HP.out.mono H6.out.1 H6.out.1.size) H6.out.2.2.1 H6.out.2.2.2 H6.out.2.1 ?_
  rintro _ _ _ _ _ _ _ _ _ _ _ _ _ _ _ _ _ _ _ _ _ _ _ _ _ _ _ _ _ _ _ _ _ _ _ _ _ w14 hb14
  have HX := Lib.hid (H6.out.1.trans (hb14.mono H6.out.1.size))
  clear hb14
  go_wp2_with fail
  go_ret
  exact ⟨rfl, HX.out⟩

end Go.Proofs.Ytfhbpeafapabhaa

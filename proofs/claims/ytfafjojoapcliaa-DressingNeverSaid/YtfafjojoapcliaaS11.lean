/- Prices are paid back along a chain. -/
import Derived.Test.YtfafjojoapcliaaS10
import Derived.Test.YtfafjojoapcliaaS6
namespace Go.Proofs.Ytfafjojoapcliaa
open Go.RowKit

set_option maxRecDepth 100000 in
set_option maxHeartbeats 8000000 in
theorem possible_r (t : Tk) (v : Value) (w : World) (h : IsTask w w.heap.size v t) (ht : taskB t = true) :
    Calls Try.prog 30 #[v] w fun e w' => Below w.heap.size w w' ∧
      ((feasB t = false ∧ e = .returned (.tuple #[.pointer none, .int .i64 51])) ∨
       (feasB t = true ∧ ∃ g gl gb lv r, e = .returned (.tuple #[.pointer (some ⟨g, 0, none⟩), .int .i64 0]) ∧ (rounds (edT t) (lf0 (tM t + 1)) (r + 1)).last = -1 ∧ Gb w' g gl gb (tM t + 1) lv (edT t) (lsT t) (rounds (edT t) (lf0 (tM t + 1)) (r + 1)).B)) := by
  have HT := Lib.hid h
  obtain ⟨s, rfl, A, c, rfl, hcap, hcell⟩ := h
  have HB := Lib.hid (Box.made w 24 #[.int .i64 t.wide, .slice A t.need.length c])
  have H0 := Lib.hid (show tkE t = 0 by unfold tkE; rw [ht]; rfl)
  have AR := Lib.hid (task_parts ht)
  clear hcap hcell ht
  go_enter Try.func30, Try.ntmps30
  go_wp2_with fail
  refine (Check_c t _ _ (HT.out.box _)).mono ?_; rintro e w1 ⟨rfl, hb1⟩
  rw [H0.out]
  have H1 := Lib.hid (show Below w.heap.size w w1 ∧ Box w1 w.heap.size 24 #[.int .i64 t.wide, .slice A t.need.length c] from ⟨boxed hb1, HB.out.later hb1⟩)
  have k0 : w1.cell? ⟨w.heap.size, 0, none⟩ = some (.int .i64 t.wide) := H1.out.2.cell 0
  have k1 : w1.cell? ⟨w.heap.size, 1, none⟩ = some (.slice A t.need.length c) := H1.out.2.cell 1
  clear hb1
  go_wp2_with fail
  clear k0 k1
  obtain ⟨a1, a2, a3, a4, a5, a6, a7, a8⟩ := AR.out
  have hgo := graphOf_c t (.agg #[.int .i64 t.wide, .slice A t.need.length c]) w1 (tW t) (tM t) (HT.out.mono H1.out.1 H1.out.1.size) a7 a8 a1 a2 a3 a4 a5 a6
  clear a1 a2 a3 a4 a5 a6 a7 a8
  refine hgo.mono ?_; rintro e w2 ⟨g, gl, gb, lv, rfl, hg2, hgl, hgb, hgg, hb2⟩
  clear hgo
  have H2 := Lib.hid (⟨hg2, hgl, hgb, H1.out.1.trans (hb2.mono H1.out.1.size)⟩ : Gb w2 g gl gb (tM t + 1) lv (edgesOf t (tW t) (tM t)) (lf0 (tM t + 1)).L (lf0 (tM t + 1)).B ∧ w1.heap.size ≤ gl ∧ w1.heap.size ≤ gb ∧ Below w.heap.size w w2)
  clear hg2 hgl hgb hgg hb2
  go_wp2_with fail
  obtain ⟨a1, a2, a3, a4, a5, a6, a7, a8⟩ := AR.out
  have hto := edgesOf_to t (tW t) (tM t) a4 a3
  have HTO := Lib.hid hto
  have hse := settle_c w2 g gl gb (tM t + 1) w.heap.size lv (edgesOf t (tW t) (tM t)) H2.out.1 hto (edgesOf_more t _ _ a8) (lf0_noted t _ _ a4) (by rw [edgesOf_len]; omega) (by rw [edgesOf_len]; omega) (by omega) (by omega)
    (by have := H2.out.2.1; have := H1.out.1.size; omega) (by have := H2.out.2.2.1; have := H1.out.1.size; omega) H2.out.2.2.2.size
  clear a1 a2 a3 a4 a5 a6 a7 a8 hto
  refine hse.mono ?_; rintro e w3 ⟨hb3, hor⟩
  clear hse
  have HB3 := Lib.hid (H2.out.2.2.2.trans hb3)
  clear hb3
  rcases hor with ⟨r, hq, rfl, hg3⟩ | ⟨hne, v0, hv0, hlast, rfl, hvr, hg3⟩
  · have hf : feasB t = true := feasB_iff.2 (quiet_feas (show (lf0 (tM t + 1)).L = List.replicate (tM t + 1) 0 from rfl) hq)
    have hle := quiet_least HTO.out (show (lf0 (tM t + 1)).L = List.replicate (tM t + 1) 0 from rfl) (by omega) hq
    have HF := Lib.hid (show feasB t = true ∧ (rounds (edT t) (lf0 (tM t + 1)) (r + 1)).last = -1 ∧ Gb w3 g gl gb (tM t + 1) lv (edT t) (lsT t) (rounds (edT t) (lf0 (tM t + 1)) (r + 1)).B from ⟨hf, hq, by unfold lsT edT; rw [← hle]; exact hg3⟩)
    clear hf hle hq hg3
    go_wp2_with fail
    go_ret2
    obtain ⟨h1, h2, h3⟩ := HF.out
    exact ⟨HB3.out, .inr ⟨h1, g, gl, gb, lv, r, rfl, h2, h3⟩⟩
  · have hf : feasB t = false := by
      cases hfb : feasB t
      · rfl
      · exact absurd (feas_quiet (feasB_iff.1 hfb) HTO.out (show (lf0 (tM t + 1)).L = List.replicate (tM t + 1) 0 from rfl) (by omega)) hne
    have HF := Lib.hid hf
    have hz : (((wbs (edgesOf t (tW t) (tM t)) (rounds (edgesOf t (tW t) (tM t)) (lf0 (tM t + 1)) (tM t + 1)).B v0 (tM t + 1) : Nat) : Int) != -1) = true := by first | (simp; done) | (simp; omega)
    clear hf hne hv0 hlast hvr hg3
    go_wp2_with fail
    go_ret2
    exact ⟨HB3.out, .inl ⟨HF.out, rfl⟩⟩


end Go.Proofs.Ytfafjojoapcliaa

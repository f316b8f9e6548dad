/- Which prices prove that no strokes do a task: the program. -/
import Derived.Test.YtfafjojoapcliaaS5
namespace Go.Proofs.Ytfafjojoapcliaa
open Go.RowKit

set_option maxRecDepth 100000 in
set_option maxHeartbeats 8000000 in
theorem CheckNever_c (t : Tk) (l h : List Int) (v u : Value) (w : World) (ht : IsTask w w.heap.size v t) (hx : IsPrices w w.heap.size u l h) :
    Calls Try.prog 20 #[v, u] w fun e w' => e = .returned (.int .i64 (cnE t l h)) ∧ Below w.heap.size w w' := by
  have HT := Lib.hid ht
  have HXP := Lib.hid hx
  obtain ⟨s, rfl, A, c, rfl, hcap, hcell⟩ := ht
  obtain ⟨s1, s2, rfl, hl, hh⟩ := hx
  obtain ⟨-, A1, c1, rfl, -, -⟩ := hl
  obtain ⟨-, A2, c2, rfl, -, -⟩ := hh
  have HB := Lib.hid (show Below w.heap.size w ((w.alloc (.cells #[.int .i64 t.wide, .slice A t.need.length c] 24)).alloc (.cells #[.slice A1 l.length c1, .slice A2 h.length c2] 35)) ∧ Box ((w.alloc (.cells #[.int .i64 t.wide, .slice A t.need.length c] 24)).alloc (.cells #[.slice A1 l.length c1, .slice A2 h.length c2] 35)) w.heap.size 24 #[.int .i64 t.wide, .slice A t.need.length c] ∧ Box ((w.alloc (.cells #[.int .i64 t.wide, .slice A t.need.length c] 24)).alloc (.cells #[.slice A1 l.length c1, .slice A2 h.length c2] 35)) (w.heap.size + 1) 35 #[.slice A1 l.length c1, .slice A2 h.length c2] from
    ⟨((Below.refl _ _).alloc (Nat.le_refl _) _).alloc (by simp) _, (Box.made w _ _).alloc _, by have e := Box.made (w.alloc (.cells #[.int .i64 t.wide, .slice A t.need.length c] 24)) 35 #[.slice A1 l.length c1, .slice A2 h.length c2]; rw [World.size_alloc] at e; exact e⟩)
  clear hcap hcell
  cases h1 : taskB t
  · have HV := Lib.hid (And.intro (cn_task t l h h1) (show tkE t = 50 by unfold tkE; rw [h1]; rfl))
    clear h1
    go_enter Try.func20, Try.ntmps20
    go_wp2_with fail
    refine (Check_c t _ _ (HT.out.mono HB.out.1 HB.out.1.size)).mono ?_; rintro e w1 ⟨rfl, hb1⟩
    rw [HV.out.2]
    go_wp2_with fail
    go_ret
    exact ⟨by rw [HV.out.1]; rfl, HB.out.1.trans (hb1.mono HB.out.1.size)⟩
  have HTK := Lib.hid (show tkE t = 0 by unfold tkE; rw [h1]; rfl)
  have HTB := Lib.hid h1
  cases h2 : xOk t.need.length l h
  · have HV := Lib.hid (cn_bad t l h h1 h2)
    have HXO := Lib.hid h2
    clear h1 h2
    go_enter Try.func20, Try.ntmps20
    go_wp2_with fail
    refine (Check_c t _ _ (HT.out.mono HB.out.1 HB.out.1.size)).mono ?_; rintro e w1 ⟨rfl, hb1⟩
    rw [HTK.out]
    have H1 := Lib.hid (show Below w.heap.size w w1 ∧ Box w1 w.heap.size 24 #[.int .i64 t.wide, .slice A t.need.length c] ∧ Box w1 (w.heap.size + 1) 35 #[.slice A1 l.length c1, .slice A2 h.length c2] from ⟨HB.out.1.trans (hb1.mono HB.out.1.size), HB.out.2.1.later hb1, HB.out.2.2.later hb1⟩)
    have k0 : w1.cell? ⟨w.heap.size, 0, none⟩ = some (.int .i64 t.wide) := H1.out.2.1.cell 0
    have k1 : w1.cell? ⟨w.heap.size, 1, none⟩ = some (.slice A t.need.length c) := H1.out.2.1.cell 1
    have k2 : w1.cell? ⟨w.heap.size + 1, 0, none⟩ = some (.slice A1 l.length c1) := H1.out.2.2.cell 0
    have k3 : w1.cell? ⟨w.heap.size + 1, 1, none⟩ = some (.slice A2 h.length c2) := H1.out.2.2.cell 1
    clear hb1
    go_wp2_with fail
    clear k0 k1 k2 k3
    refine (arePrices_b t l h w1 false HXO.out _ _ (HT.out.mono H1.out.1 H1.out.1.size) (HXP.out.mono H1.out.1 H1.out.1.size)).mono ?_; rintro e w2 ⟨rfl, hb2⟩
    have H2 := Lib.hid (H1.out.1.trans (hb2.mono H1.out.1.size))
    clear hb2
    go_wp2_with fail
    go_ret
    exact ⟨by rw [HV.out]; rfl, H2.out⟩
  have HXO := Lib.hid h2
  obtain ⟨q, hq⟩ : ∃ q, gainTo l h (tW t) 0 (tM t) = q := ⟨_, rfl⟩
  have HQ := Lib.hid hq
  have HV := Lib.hid (show (q = false → cnE t l h = 53) ∧ (q = true → (0 < valTo t.need l h t.need.length → cnE t l h = 0) ∧ (valTo t.need l h t.need.length ≤ 0 → cnE t l h = 53)) by
    refine ⟨fun e => ?_, fun e => ⟨fun e2 => ?_, fun e2 => ?_⟩⟩
    · unfold cnE; rw [if_pos h1, if_neg (by rw [hq, e]; simp)]
    · unfold cnE; rw [if_pos h1, if_pos ⟨h2, by rw [hq, e], e2⟩]
    · unfold cnE; rw [if_pos h1, if_neg (by omega)])
  clear h1 h2 hq
  go_enter Try.func20, Try.ntmps20
  go_wp2_with fail
  refine (Check_c t _ _ (HT.out.mono HB.out.1 HB.out.1.size)).mono ?_; rintro e w1 ⟨rfl, hb1⟩
  rw [HTK.out]
  have H1 := Lib.hid (show Below w.heap.size w w1 ∧ Box w1 w.heap.size 24 #[.int .i64 t.wide, .slice A t.need.length c] ∧ Box w1 (w.heap.size + 1) 35 #[.slice A1 l.length c1, .slice A2 h.length c2] from ⟨HB.out.1.trans (hb1.mono HB.out.1.size), HB.out.2.1.later hb1, HB.out.2.2.later hb1⟩)
  have k0 : w1.cell? ⟨w.heap.size, 0, none⟩ = some (.int .i64 t.wide) := H1.out.2.1.cell 0
  have k1 : w1.cell? ⟨w.heap.size, 1, none⟩ = some (.slice A t.need.length c) := H1.out.2.1.cell 1
  have k2 : w1.cell? ⟨w.heap.size + 1, 0, none⟩ = some (.slice A1 l.length c1) := H1.out.2.2.cell 0
  have k3 : w1.cell? ⟨w.heap.size + 1, 1, none⟩ = some (.slice A2 h.length c2) := H1.out.2.2.cell 1
  clear hb1
  go_wp2_with fail
  clear k0 k1 k2 k3
  refine (arePrices_b t l h w1 true HXO.out _ _ (HT.out.mono H1.out.1 H1.out.1.size) (HXP.out.mono H1.out.1 H1.out.1.size)).mono ?_; rintro e w2 ⟨rfl, hb2⟩
  have H2 := Lib.hid (show Below w.heap.size w w2 ∧ Box w2 w.heap.size 24 #[.int .i64 t.wide, .slice A t.need.length c] ∧ Box w2 (w.heap.size + 1) 35 #[.slice A1 l.length c1, .slice A2 h.length c2] from ⟨H1.out.1.trans (hb2.mono H1.out.1.size), H1.out.2.1.later hb2, H1.out.2.2.later hb2⟩)
  have k0 : w2.cell? ⟨w.heap.size, 0, none⟩ = some (.int .i64 t.wide) := H2.out.2.1.cell 0
  have k1 : w2.cell? ⟨w.heap.size, 1, none⟩ = some (.slice A t.need.length c) := H2.out.2.1.cell 1
  have k2 : w2.cell? ⟨w.heap.size + 1, 0, none⟩ = some (.slice A1 l.length c1) := H2.out.2.2.cell 0
  have k3 : w2.cell? ⟨w.heap.size + 1, 1, none⟩ = some (.slice A2 h.length c2) := H2.out.2.2.cell 1
  clear hb2
  go_wp2_with fail
  clear k0 k1 k2 k3
  refine (gainAtMost_b t l h w2 0 q HQ.out _ _ (HT.out.mono H2.out.1 H2.out.1.size) (HXP.out.mono H2.out.1 H2.out.1.size) HTB.out HXO.out).mono ?_; rintro e w3 ⟨rfl, hb3⟩
  have H3 := Lib.hid (show Below w.heap.size w w3 ∧ Box w3 w.heap.size 24 #[.int .i64 t.wide, .slice A t.need.length c] ∧ Box w3 (w.heap.size + 1) 35 #[.slice A1 l.length c1, .slice A2 h.length c2] from ⟨H2.out.1.trans (hb3.mono H2.out.1.size), H2.out.2.1.later hb3, H2.out.2.2.later hb3⟩)
  clear hb3
  cases q
  · have HV2 := Lib.hid (HV.out.1 rfl)
    clear HV
    go_wp2_with fail
    go_ret
    exact ⟨by rw [HV2.out]; rfl, H3.out.1⟩
  · have HV2 := Lib.hid (HV.out.2 rfl)
    clear HV
    have k0 : w3.cell? ⟨w.heap.size, 0, none⟩ = some (.int .i64 t.wide) := H3.out.2.1.cell 0
    have k1 : w3.cell? ⟨w.heap.size, 1, none⟩ = some (.slice A t.need.length c) := H3.out.2.1.cell 1
    have k2 : w3.cell? ⟨w.heap.size + 1, 0, none⟩ = some (.slice A1 l.length c1) := H3.out.2.2.cell 0
    have k3 : w3.cell? ⟨w.heap.size + 1, 1, none⟩ = some (.slice A2 h.length c2) := H3.out.2.2.cell 1
    go_wp2_with fail
    refine (value_c t l h _ _ w3 (HT.out.mono H3.out.1 H3.out.1.size) (HXP.out.mono H3.out.1 H3.out.1.size) HTB.out HXO.out).mono ?_; rintro e w4 ⟨rfl, hb4⟩
    have H4 := Lib.hid (H3.out.1.trans (hb4.mono H3.out.1.size))
    clear hb4 k0 k1 k2 k3
    generalize hvt : valTo t.need l h t.need.length = vt at *
    clear hvt
    by_cases hc : vt ≤ 0
    · have z : decide (vt ≤ 0) = true := by simpa using hc
      have HW := Lib.hid (HV2.out.2 hc)
      clear hc
      go_wp2_with fail
      go_ret
      exact ⟨by rw [HW.out]; rfl, H4.out⟩
    · have z : decide (vt ≤ 0) = false := by simpa using hc
      have HW := Lib.hid (HV2.out.1 (by omega))
      clear hc
      go_wp2_with fail
      go_ret
      exact ⟨by rw [HW.out]; rfl, H4.out⟩

end Go.Proofs.Ytfafjojoapcliaa

/- Which prices prove that no strokes do a task; which prices prove, in the specification. -/
import Derived.Test.YtfafjojoapcliaaS4
namespace Go.Proofs.Ytfafjojoapcliaa
open Go.RowKit

theorem cp_parts (t : Tk) (l h : List Int) (ht : taskB t = true) (hx : xOk t.need.length l h = true) : (mgTo l h (tW t) (tM t) ≤ 1 → cpE t l h = 0 ∧ cpV t l h = valTo t.need l h t.need.length) ∧ (1 < mgTo l h (tW t) (tM t) → cpE t l h = 53 ∧ cpV t l h = 0) := by
  have tp := task_parts ht
  have hg := mg_gain l h (tW t) 1 (tM t) (by omega)
  refine ⟨fun hm => ?_, fun hm => ?_⟩
  · have e1 : cpE t l h = 0 := by unfold cpE; rw [if_pos ht, if_pos ⟨hx, by rw [hg]; simpa using hm⟩]
    exact ⟨e1, by unfold cpV; rw [if_pos e1]⟩
  · have e1 : cpE t l h = 53 := by unfold cpE; rw [if_pos ht, if_neg (by rw [hg]; simp; omega)]
    exact ⟨e1, by unfold cpV; rw [e1]; rfl⟩
theorem cp_bad (t : Tk) (l h : List Int) (ht : taskB t = true) (hx : xOk t.need.length l h = false) : cpE t l h = 53 ∧ cpV t l h = 0 := by
  have e1 : cpE t l h = 53 := by unfold cpE; rw [if_pos ht, if_neg (by rw [hx]; simp)]
  exact ⟨e1, by unfold cpV; rw [e1]; rfl⟩
theorem cp_task (t : Tk) (l h : List Int) (ht : taskB t = false) : cpE t l h = 50 ∧ cpV t l h = 0 := by
  have e1 : cpE t l h = 50 := by unfold cpE; rw [if_neg (by rw [ht]; simp)]
  exact ⟨e1, by unfold cpV; rw [e1]; rfl⟩
theorem cn_parts (t : Tk) (l h : List Int) (ht : taskB t = true) (hx : xOk t.need.length l h = true) : (mgTo l h (tW t) (tM t) ≤ 0 → 0 < valTo t.need l h t.need.length → cnE t l h = 0) ∧ (0 < mgTo l h (tW t) (tM t) ∨ valTo t.need l h t.need.length ≤ 0 → cnE t l h = 53) := by
  have tp := task_parts ht
  have hg := mg_gain l h (tW t) 0 (tM t) (by omega)
  refine ⟨fun hm hv => ?_, fun hm => ?_⟩
  · unfold cnE; rw [if_pos ht, if_pos ⟨hx, by rw [hg]; simpa using hm, hv⟩]
  · unfold cnE; rw [if_pos ht, if_neg (by rw [hg]; simp; omega)]
theorem cn_bad (t : Tk) (l h : List Int) (ht : taskB t = true) (hx : xOk t.need.length l h = false) : cnE t l h = 53 := by
  unfold cnE; rw [if_pos ht, if_neg (by rw [hx]; simp)]
theorem cn_task (t : Tk) (l h : List Int) (ht : taskB t = false) : cnE t l h = 50 := by
  unfold cnE; rw [if_neg (by rw [ht]; simp)]

set_option maxRecDepth 100000 in
set_option maxHeartbeats 8000000 in
theorem rCheckPrices_c (t : Tk) (l h : List Int) (v u : Value) (w : World) (ht : IsTask w w.heap.size v t) (hx : IsPrices w w.heap.size u l h) :
    Calls Try.prog 16 #[v, u] w (Ret2 w (cpV t l h) (cpE t l h)) := by
  have HT := Lib.hid ht
  have HXP := Lib.hid hx
  obtain ⟨s, rfl, A, c, rfl, hcap, hcell⟩ := ht
  obtain ⟨s1, s2, rfl, hl, hh⟩ := hx
  obtain ⟨-, A1, c1, rfl, -, -⟩ := hl
  obtain ⟨-, A2, c2, rfl, -, -⟩ := hh
  have HB := Lib.hid (show Below w.heap.size w ((w.alloc (.cells #[.int .i64 t.wide, .slice A t.need.length c] 24)).alloc (.cells #[.slice A1 l.length c1, .slice A2 h.length c2] 35)) ∧ Box ((w.alloc (.cells #[.int .i64 t.wide, .slice A t.need.length c] 24)).alloc (.cells #[.slice A1 l.length c1, .slice A2 h.length c2] 35)) w.heap.size 24 #[.int .i64 t.wide, .slice A t.need.length c] ∧ Box ((w.alloc (.cells #[.int .i64 t.wide, .slice A t.need.length c] 24)).alloc (.cells #[.slice A1 l.length c1, .slice A2 h.length c2] 35)) (w.heap.size + 1) 35 #[.slice A1 l.length c1, .slice A2 h.length c2] from
    ⟨((Below.refl _ _).alloc (Nat.le_refl _) _).alloc (by simp) _, (Box.made w _ _).alloc _, by have e := Box.made (w.alloc (.cells #[.int .i64 t.wide, .slice A t.need.length c] 24)) 35 #[.slice A1 l.length c1, .slice A2 h.length c2]; rw [World.size_alloc] at e; exact e⟩)
  clear hcap hcell
  cases h1 : taskB t
  · have HV := Lib.hid (And.intro (cp_task t l h h1) (show tkE t = 50 by unfold tkE; rw [h1]; rfl))
    clear h1
    go_enter Try.func16, Try.ntmps16
    go_wp2_with fail
    refine (rCheck_c t _ _ (HT.out.mono HB.out.1 HB.out.1.size)).mono ?_; rintro e w1 ⟨rfl, hb1⟩
    rw [HV.out.2]
    go_wp2_with fail
    go_ret2
    exact ⟨by rw [HV.out.1.1, HV.out.1.2]; rfl, HB.out.1.trans (hb1.mono HB.out.1.size)⟩
  have HTK := Lib.hid (show tkE t = 0 by unfold tkE; rw [h1]; rfl)
  have HTB := Lib.hid h1
  clear h1
  go_enter Try.func16, Try.ntmps16
  go_wp2_with fail
  refine (rCheck_c t _ _ (HT.out.mono HB.out.1 HB.out.1.size)).mono ?_; rintro e w1 ⟨rfl, hb1⟩
  rw [HTK.out]
  have H1 := Lib.hid (show Below w.heap.size w w1 ∧ Box w1 w.heap.size 24 #[.int .i64 t.wide, .slice A t.need.length c] ∧ Box w1 (w.heap.size + 1) 35 #[.slice A1 l.length c1, .slice A2 h.length c2] from ⟨HB.out.1.trans (hb1.mono HB.out.1.size), HB.out.2.1.later hb1, HB.out.2.2.later hb1⟩)
  have k0 : w1.cell? ⟨w.heap.size, 0, none⟩ = some (.int .i64 t.wide) := H1.out.2.1.cell 0
  have k1 : w1.cell? ⟨w.heap.size, 1, none⟩ = some (.slice A t.need.length c) := H1.out.2.1.cell 1
  have k2 : w1.cell? ⟨w.heap.size + 1, 0, none⟩ = some (.slice A1 l.length c1) := H1.out.2.2.cell 0
  have k3 : w1.cell? ⟨w.heap.size + 1, 1, none⟩ = some (.slice A2 h.length c2) := H1.out.2.2.cell 1
  clear hb1
  go_wp2_with fail
  clear k0 k1 k2 k3
  refine (priced_c t l h _ _ w1 (HT.out.mono H1.out.1 H1.out.1.size) (HXP.out.mono H1.out.1 H1.out.1.size) HTB.out).mono ?_; rintro e w2 ⟨hb2, hor⟩
  have H2 := Lib.hid (H1.out.1.trans (hb2.mono H1.out.1.size))
  clear hb2
  rcases hor with ⟨h2, rfl⟩ | ⟨h2, rfl⟩
  · have HV := Lib.hid (cp_bad t l h HTB.out h2)
    clear h2
    go_wp2_with fail
    go_ret2
    exact ⟨by rw [HV.out.1, HV.out.2]; rfl, H2.out⟩
  · have HV := Lib.hid (cp_parts t l h HTB.out h2)
    clear h2
    generalize mgTo l h (tW t) (tM t) = mg at *
    generalize hvt : valTo t.need l h t.need.length = vt at *
    clear hvt
    by_cases hc : 1 < mg
    · have z : decide (1 < mg) = true := by simpa using hc
      have HW := Lib.hid (HV.out.2 hc)
      clear hc
      go_wp2_with fail
      go_ret2
      exact ⟨by rw [HW.out.1, HW.out.2]; rfl, H2.out⟩
    · have z : decide (1 < mg) = false := by simpa using hc
      have HW := Lib.hid (HV.out.1 (by omega))
      clear hc
      go_wp2_with fail
      go_ret2
      exact ⟨by rw [HW.out.1, HW.out.2]; rfl, H2.out⟩

set_option maxRecDepth 100000 in
set_option maxHeartbeats 8000000 in
theorem rCheckNever_c (t : Tk) (l h : List Int) (v u : Value) (w : World) (ht : IsTask w w.heap.size v t) (hx : IsPrices w w.heap.size u l h) :
    Calls Try.prog 21 #[v, u] w fun e w' => e = .returned (.int .i64 (cnE t l h)) ∧ Below w.heap.size w w' := by
  have HT := Lib.hid ht
  have HXP := Lib.hid hx
  obtain ⟨s, rfl, A, c, rfl, hcap, hcell⟩ := ht
  obtain ⟨s1, s2, rfl, hl, hh⟩ := hx
  obtain ⟨-, A1, c1, rfl, -, -⟩ := hl
  obtain ⟨-, A2, c2, rfl, -, -⟩ := hh
  have HB := Lib.hid (show Below w.heap.size w ((w.alloc (.cells #[.int .i64 t.wide, .slice A t.need.length c] 24)).alloc (.cells #[.slice A1 l.length c1, .slice A2 h.length c2] 35)) ∧ Box ((w.alloc (.cells #[.int .i64 t.wide, .slice A t.need.length c] 24)).alloc (.cells #[.slice A1 l.length c1, .slice A2 h.length c2] 35)) w.heap.size 24 #[.int .i64 t.wide, .slice A t.need.length c] ∧ Box ((w.alloc (.cells #[.int .i64 t.wide, .slice A t.need.length c] 24)).alloc (.cells #[.slice A1 l.length c1, .slice A2 h.length c2] 35)) (w.heap.size + 1) 35 #[.slice A1 l.length c1, .slice A2 h.length c2] from
    ⟨((Below.refl _ _).alloc (Nat.le_refl _) _).alloc (by simp) _, (Box.made w _ _).alloc _, by have e := Box.made (w.alloc (.cells #[.int .i64 t.wide, .slice A t.need.length c] 24)) 35 #[.slice A1 l.length c1, .slice A2 h.length c2]; rw [World.size_alloc] at e; exact e⟩)
  clear hcap hcell
  cases h1 : taskB t
  · have HV := Lib.hid (And.intro (cn_task t l h h1) (show tkE t = 50 by unfold tkE; rw [h1]; rfl))
    clear h1
    go_enter Try.func21, Try.ntmps21
    go_wp2_with fail
    refine (rCheck_c t _ _ (HT.out.mono HB.out.1 HB.out.1.size)).mono ?_; rintro e w1 ⟨rfl, hb1⟩
    rw [HV.out.2]
    go_wp2_with fail
    go_ret
    exact ⟨by rw [HV.out.1]; rfl, HB.out.1.trans (hb1.mono HB.out.1.size)⟩
  have HTK := Lib.hid (show tkE t = 0 by unfold tkE; rw [h1]; rfl)
  have HTB := Lib.hid h1
  clear h1
  go_enter Try.func21, Try.ntmps21
  go_wp2_with fail
  refine (rCheck_c t _ _ (HT.out.mono HB.out.1 HB.out.1.size)).mono ?_; rintro e w1 ⟨rfl, hb1⟩
  rw [HTK.out]
  have H1 := Lib.hid (show Below w.heap.size w w1 ∧ Box w1 w.heap.size 24 #[.int .i64 t.wide, .slice A t.need.length c] ∧ Box w1 (w.heap.size + 1) 35 #[.slice A1 l.length c1, .slice A2 h.length c2] from ⟨HB.out.1.trans (hb1.mono HB.out.1.size), HB.out.2.1.later hb1, HB.out.2.2.later hb1⟩)
  have k0 : w1.cell? ⟨w.heap.size, 0, none⟩ = some (.int .i64 t.wide) := H1.out.2.1.cell 0
  have k1 : w1.cell? ⟨w.heap.size, 1, none⟩ = some (.slice A t.need.length c) := H1.out.2.1.cell 1
  have k2 : w1.cell? ⟨w.heap.size + 1, 0, none⟩ = some (.slice A1 l.length c1) := H1.out.2.2.cell 0
  have k3 : w1.cell? ⟨w.heap.size + 1, 1, none⟩ = some (.slice A2 h.length c2) := H1.out.2.2.cell 1
  clear hb1
  go_wp2_with fail
  clear k0 k1 k2 k3
  refine (priced_c t l h _ _ w1 (HT.out.mono H1.out.1 H1.out.1.size) (HXP.out.mono H1.out.1 H1.out.1.size) HTB.out).mono ?_; rintro e w2 ⟨hb2, hor⟩
  have H2 := Lib.hid (H1.out.1.trans (hb2.mono H1.out.1.size))
  clear hb2
  rcases hor with ⟨h2, rfl⟩ | ⟨h2, rfl⟩
  · have HV := Lib.hid (cn_bad t l h HTB.out h2)
    clear h2
    go_wp2_with fail
    go_ret
    exact ⟨by rw [HV.out]; rfl, H2.out⟩
  · have HV := Lib.hid (cn_parts t l h HTB.out h2)
    clear h2
    generalize mgTo l h (tW t) (tM t) = mg at *
    generalize hvt : valTo t.need l h t.need.length = vt at *
    clear hvt
    by_cases hc : 0 < mg
    · have z : decide (0 < mg) = true := by simpa using hc
      have HW := Lib.hid (HV.out.2 (.inl hc))
      clear hc
      go_wp2_with fail
      go_ret
      exact ⟨by rw [HW.out]; rfl, H2.out⟩
    · have z : decide (0 < mg) = false := by simpa using hc
      by_cases hd : vt ≤ 0
      · have z2 : decide (vt ≤ 0) = true := by simpa using hd
        have HW := Lib.hid (HV.out.2 (.inr hd))
        clear hc hd
        go_wp2_with fail
        go_ret
        exact ⟨by rw [HW.out]; rfl, H2.out⟩
      · have z2 : decide (vt ≤ 0) = false := by simpa using hd
        have HW := Lib.hid (HV.out.1 (by omega) (by omega))
        clear hc hd
        go_wp2_with fail
        go_ret
        exact ⟨by rw [HW.out]; rfl, H2.out⟩

end Go.Proofs.Ytfafjojoapcliaa

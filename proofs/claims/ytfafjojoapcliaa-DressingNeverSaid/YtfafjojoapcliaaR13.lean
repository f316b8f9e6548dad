/- A plan does a task just where its sums keep all edges; so the least walks are below all plans. -/
import Derived.Test.YtfafjojoapcliaaR10
import Derived.Test.YtfafjojoapcliaaQ6
namespace Go.Proofs.Ytfafjojoapcliaa

theorem does_keeps {t : Tk} {p : List Int} (h : doesE t p = 0) : taskB t = true ∧ p.length = tM t ∧ cntB p 100000 = true ∧ Keeps (edT t) (pre p) := by
  unfold doesE at h
  by_cases h0 : covE t p = 0
  · rw [if_pos h0] at h
    obtain ⟨h1, h2⟩ := covE_zero h0
    obtain ⟨a1, a2, a3, a4, a5, a6, a7, a8⟩ := task_parts h1
    have h2' := h2
    unfold okPlan at h2'
    simp only [Bool.and_eq_true, decide_eq_true_eq] at h2'
    have hl : p.length = tM t := by omega
    refine ⟨h1, hl, h2'.2, (keeps_iff t _).2 ⟨fun k hk => by have := (cntB_nth h2'.2 k (by omega)).1; rw [pre]; omega, fun i hi => ?_⟩⟩
    by_cases h3 : inTo t.need (covR t p) t.need.length = true
    · have h4 := inTo_at h3 hi
      rw [(covE_ok h1 h2).2.1, covL_nth _ _ _ _ hi, inB_iff] at h4
      unfold covAt at h4
      rw [hl] at h4
      exact h4
    · rw [if_neg h3] at h; omega
  · rw [if_neg h0] at h; exact absurd h h0
theorem keeps_does {t : Tk} {p : List Int} (ht : taskB t = true) (hl : p.length = tM t) (hc : cntB p 100000 = true) (hk : Keeps (edT t) (pre p)) : doesE t p = 0 := by
  obtain ⟨a1, a2, a3, a4, a5, a6, a7, a8⟩ := task_parts ht
  have h2 : okPlan t p = true := by unfold okPlan; rw [hc, hl, a2]; simp
  have hE := covE_ok ht h2
  have h3 : inTo t.need (covR t p) t.need.length = true := by
    cases e : inTo t.need (covR t p) t.need.length
    · unfold inTo at e
      rw [List.all_eq_false] at e
      obtain ⟨i, hi, h5⟩ := e
      have hi' := List.mem_range.1 hi
      rw [hE.2.1, covL_nth _ _ _ _ hi'] at h5
      have := ((keeps_iff t _).1 hk).2 i hi'
      unfold covAt at h5
      rw [hl] at h5
      exact absurd (inB_iff.2 this) h5
    · rfl
  unfold doesE
  rw [if_pos hE.1, if_pos h3]
theorem keeps_cong {t : Tk} {p q : Nat → Int} (ht : taskB t = true) (h : ∀ k, k ≤ tM t → p k = q k) (hk : Keeps (edT t) p) : Keeps (edT t) q := by
  obtain ⟨a1, a2, a3, a4, a5, a6, a7, a8⟩ := task_parts ht
  have h1 := (keeps_iff t _).1 hk
  refine (keeps_iff t _).2 ⟨fun k hk => ?_, fun i hi => ?_⟩
  · rw [← h k (by omega), ← h (k + 1) (by omega)]; exact h1.1 k hk
  · rw [← h (min (i + 1) (tM t)) (by omega), ← h (i + 1 - tW t) (by omega)]; exact h1.2 i hi
/-- the plan that is told does the task -/
theorem plR_does {t : Tk} (h : stE t = 0) : doesE t (plR t) = 0 := by
  obtain ⟨h1, h2⟩ := stE_zero h
  exact keeps_does h1 (plR_len h) (plR_cnt h) (keeps_cong h1 (fun k hk => (plR_pre h hk).symm) (lsT_keeps h1 h2).1)
/-- where some plan does the task, the least walks are below it -/
theorem does_least {t : Tk} {p : List Int} (h : doesE t p = 0) : stE t = 0 ∧ ∀ k, k ≤ tM t → nth (lsT t) k ≤ pre p k := by
  obtain ⟨h1, h2, h3, h4⟩ := does_keeps h
  have h0 : ∀ k, k < tM t + 1 → 0 ≤ pre p k := fun k _ => (pre_bd h3 (by omega) k).1
  have hf : feasB t = true := feasB_iff.2 ⟨_, h4, h0⟩
  exact ⟨by unfold stE; rw [if_pos h1, if_pos hf], fun k hk => (lsT_keeps h1 hf).2 _ h4 h0 k (by omega)⟩
theorem does_total {t : Tk} {p : List Int} (h : doesE t p = 0) : totE p = 0 ∧ totV p = pre p (tM t) := by
  obtain ⟨h1, h2, h3, h4⟩ := does_keeps h
  have := task_parts h1
  have ho : okTot p = true := by unfold okTot; rw [h3]; simp; omega
  have := tot_ok ho
  exact ⟨this.2, by rw [this.1, h2]⟩
theorem does_min {t : Tk} {p : List Int} (h : doesE t p = 0) : fwV t ≤ totV p := by
  have h1 := does_least h
  have h2 := h1.2 (tM t) (Nat.le_refl _)
  rw [(does_total h).2]
  unfold fwV
  rw [if_pos h1.1]
  exact h2
/-- no plan with as many strokes comes before the one that is told -/
theorem no_before {t : Tk} {p : List Int} (h : doesE t p = 0) {i : Nat} (hi : i < p.length) (he : ∀ j, j < i → nth p j = nth (plR t) j) (hs : nth p i < nth (plR t) i) : False := by
  obtain ⟨h1, h2, h3, h4⟩ := does_keeps h
  obtain ⟨h5, h6⟩ := does_least h
  have key : ∀ k, k ≤ i → pre p k = pre (plR t) k := fun k => by
    induction k with
    | zero => intro _; rfl
    | succ k ih => intro hk; rw [pre, pre, ih (by omega), he k (by omega)]
  have a := h6 (i + 1) (by omega)
  rw [← plR_pre h5 (by omega), pre, pre, key i (Nat.le_refl _)] at a
  omega

end Go.Proofs.Ytfafjojoapcliaa

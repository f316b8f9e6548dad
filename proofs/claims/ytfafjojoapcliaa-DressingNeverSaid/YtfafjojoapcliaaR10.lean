/- The least walks as a plan: differences are numbers of strokes, and their sum is the last point. -/
import Derived.Test.YtfafjojoapcliaaR7
import Derived.Test.YtfafjojoapcliaaQ8
namespace Go.Proofs.Ytfafjojoapcliaa

theorem mem_rise {t : Tk} {k : Nat} (h : k < tM t) : (⟨k, k + 1, 0, -1, false⟩ : Eg) ∈ edT t := by
  unfold edT edgesOf riseTo
  exact List.mem_append.2 (.inl (List.mem_map.2 ⟨k, List.mem_range.2 (by omega), rfl⟩))
theorem mem_spanT {t : Tk} {i : Nat} {x : Eg} (h : i < t.need.length) (hx : x ∈ spanE (i + 1 - tW t) (min (i + 1) (tM t)) i (nthP t.need i).1 (nthP t.need i).2) : x ∈ edT t := by
  unfold edT edgesOf spansTo
  exact List.mem_append.2 (.inr (List.mem_flatMap.2 ⟨i, List.mem_range.2 h, hx⟩))
/-- what it is to keep a task's edges -/
theorem keeps_iff (t : Tk) (p : Nat → Int) : Keeps (edT t) p ↔ (∀ k, k < tM t → p k ≤ p (k + 1)) ∧ ∀ i, i < t.need.length → (nthP t.need i).1 ≤ p (min (i + 1) (tM t)) - p (i + 1 - tW t) ∧ p (min (i + 1) (tM t)) - p (i + 1 - tW t) ≤ (nthP t.need i).2 := by
  constructor
  · intro h
    refine ⟨fun k hk => by have := h _ (mem_rise hk); dsimp only at this; omega, fun i hi => ?_⟩
    have h1 := h _ (mem_spanT (t := t) (i := i) (x := ⟨i + 1 - tW t, min (i + 1) (tM t), (nthP t.need i).1, (i : Int), false⟩) hi (by simp [spanE]))
    have h2 := h _ (mem_spanT (t := t) (i := i) (x := ⟨min (i + 1) (tM t), i + 1 - tW t, -(nthP t.need i).2, (i : Int), true⟩) hi (by simp [spanE]))
    dsimp only at h1 h2
    omega
  · rintro ⟨h1, h2⟩ x hx
    unfold edT edgesOf at hx
    rcases List.mem_append.1 hx with hx | hx
    · unfold riseTo at hx
      obtain ⟨i, hi, rfl⟩ := List.mem_map.1 hx
      have := List.mem_range.1 hi
      have := h1 i (by omega)
      dsimp only
      omega
    · obtain ⟨i, hi, hx⟩ := mem_spansTo hx
      have := h2 i hi
      simp only [spanE, List.mem_cons, List.not_mem_nil, or_false] at hx
      rcases hx with rfl | rfl <;> (dsimp only; omega)
theorem lsT_keeps {t : Tk} (ht : taskB t = true) (hf : feasB t = true) : Keeps (edT t) (nth (lsT t)) ∧ ∀ p, Keeps (edT t) p → (∀ k, k < tM t + 1 → 0 ≤ p k) → ∀ k, k < tM t + 1 → nth (lsT t) k ≤ p k := by
  obtain ⟨a1, a2, a3, a4, a5, a6, a7, a8⟩ := task_parts ht
  have := least_keeps (feasB_iff.1 hf) (edgesOf_to t (tW t) (tM t) a4 a3) (by omega)
  exact ⟨this.1, this.2.2⟩
theorem lsT_up {t : Tk} (ht : taskB t = true) (hf : feasB t = true) {j k : Nat} (hjk : j ≤ k) (hk : k ≤ tM t) : nth (lsT t) j ≤ nth (lsT t) k := by
  have h := ((keeps_iff t _).1 (lsT_keeps ht hf).1).1
  induction k with
  | zero => obtain rfl : j = 0 := by omega
            exact Int.le_refl _
  | succ k ih =>
    by_cases e : j = k + 1
    · subst e; exact Int.le_refl _
    · have := h k (by omega)
      have := ih (by omega) (by omega)
      omega
theorem lsT_zero {t : Tk} (ht : taskB t = true) (hf : feasB t = true) : nth (lsT t) 0 = 0 := by
  obtain ⟨h1, h2⟩ := lsT_keeps ht hf
  have h3 := (keeps_iff t _).1 h1
  have hk : Keeps (edT t) (fun k => nth (lsT t) k - nth (lsT t) 0) := (keeps_iff t _).2 ⟨fun k hk => by have := h3.1 k hk; omega, fun i hi => by have := h3.2 i hi; omega⟩
  have := h2 _ hk (fun k hk => by have := lsT_up ht hf (Nat.zero_le k) (by omega); omega) 0 (by omega)
  have := (lsT_bd t ht 0).1
  skip
  omega
theorem lsT_step {t : Tk} (ht : taskB t = true) (hf : feasB t = true) {k : Nat} (hk : k < tM t) : 0 ≤ nth (lsT t) (k + 1) - nth (lsT t) k ∧ nth (lsT t) (k + 1) - nth (lsT t) k ≤ 100000 := by
  obtain ⟨a1, a2, a3, a4, a5, a6, a7, a8⟩ := task_parts ht
  have h3 := (keeps_iff t _).1 (lsT_keeps ht hf).1
  have h1 := h3.1 k hk
  have h2 := h3.2 k (by omega)
  rw [show min (k + 1) (tM t) = k + 1 by omega] at h2
  have h4 := lsT_up ht hf (j := k + 1 - tW t) (k := k) (by omega) (by omega)
  have h5 := okP_bd a8 (i := k) (by omega)
  omega
/-- the differences, one by one -/
def dl (L : List Int) (k : Nat) : List Int := (List.range k).map fun i => nth L (i + 1) - nth L i
theorem dl_len (L : List Int) (k : Nat) : (dl L k).length = k := by simp [dl]
theorem dl_snoc (L : List Int) (k : Nat) : dl L (k + 1) = dl L k ++ [nth L (k + 1) - nth L k] := by simp [dl, List.range_succ]
theorem dl_nth (L : List Int) (k v : Nat) (h : v < k) : nth (dl L k) v = nth L (v + 1) - nth L v := by
  unfold nth dl
  rw [List.getD_eq_getElem?_getD, List.getElem?_map, List.getElem?_range h]
  rfl
theorem dl_dfTo (L : List Int) (m : Nat) : dl L m = dfTo L m m :=
  ext_nth (by rw [dl_len, dfTo_len]) fun k hk => by
    rw [dl_len] at hk
    rw [dl_nth _ _ _ hk, dfTo_nth _ _ _ _ (Nat.le_refl _) hk]
theorem stE_zero {t : Tk} (h : stE t = 0) : taskB t = true ∧ feasB t = true := by
  unfold stE at h
  by_cases h1 : taskB t = true
  · rw [if_pos h1] at h
    by_cases h2 : feasB t = true
    · exact ⟨h1, h2⟩
    · rw [if_neg h2] at h; omega
  · rw [if_neg h1] at h; omega
theorem plR_ok {t : Tk} (h : stE t = 0) : plR t = dl (lsT t) (tM t) := by unfold plR; rw [if_pos h, dl_dfTo]
theorem plR_len {t : Tk} (h : stE t = 0) : (plR t).length = tM t := by rw [plR_ok h, dl_len]
theorem plR_cnt {t : Tk} (h : stE t = 0) : cntB (plR t) 100000 = true := by
  obtain ⟨h1, h2⟩ := stE_zero h
  refine cntB_of fun k hk => ?_
  rw [plR_len h] at hk
  rw [plR_ok h, dl_nth _ _ _ hk]
  exact lsT_step h1 h2 hk
theorem plR_pre {t : Tk} (h : stE t = 0) {k : Nat} (hk : k ≤ tM t) : pre (plR t) k = nth (lsT t) k := by
  obtain ⟨h1, h2⟩ := stE_zero h
  induction k with
  | zero => exact (lsT_zero h1 h2).symm
  | succ k ih =>
    rw [pre, ih (by omega), plR_ok h, dl_nth _ _ _ (by omega)]
    omega
theorem plR_sum {t : Tk} (h : stE t = 0) : pre (plR t) (plR t).length = fwV t := by
  rw [plR_pre h (by rw [plR_len h]; omega), plR_len h]
  unfold fwV
  rw [if_pos h]

end Go.Proofs.Ytfafjojoapcliaa

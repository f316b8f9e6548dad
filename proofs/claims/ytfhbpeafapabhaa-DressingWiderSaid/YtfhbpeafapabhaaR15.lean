/- Wider spans: what does a task does the wider one; where no strokes may be, none are needed. -/
import Derived.Test.YtfhbpeafapabhaaR13
namespace Go.Proofs.Ytfhbpeafapabhaa

def wideOf (t : Tk) (k : Nat) (q : Int × Int) : Tk := ⟨t.wide, t.need.set k q⟩
def zeroOf (t : Tk) : Tk := ⟨t.wide, List.replicate t.need.length (0, 0)⟩
theorem nthP_set (l : List (Int × Int)) (i k : Nat) (x : Int × Int) : nthP (l.set i x) k = if i = k ∧ k < l.length then x else nthP l k := by
  unfold nthP
  rw [List.getD_eq_getElem?_getD, List.getD_eq_getElem?_getD, List.getElem?_set]
  by_cases h : i = k
  · subst h
    by_cases h2 : i < l.length <;> simp [h2]
  · simp [h]
theorem nthP_rep (n k : Nat) : nthP (List.replicate n (0, 0)) k = (0, 0) := by
  unfold nthP
  rw [List.getD_eq_getElem?_getD, List.getElem?_replicate]
  split <;> rfl
theorem allP_of {l : List (Int × Int)} {q : Int × Int → Bool} (h : ∀ k, k < l.length → q (nthP l k) = true) : l.all q = true := by
  rw [List.all_eq_true]
  intro x hx
  obtain ⟨i, hi, rfl⟩ := List.getElem_of_mem hx
  have := h i hi
  unfold nthP at this
  rwa [List.getD_eq_getElem?_getD, List.getElem?_eq_getElem hi] at this
/-- tasks with as many cells, and as wide strokes -/
theorem same_size {t u : Tk} (hw : u.wide = t.wide) (hl : u.need.length = t.need.length) : tW u = tW t ∧ tM u = tM t ∧ szB u = szB t := by
  refine ⟨by unfold tW; rw [hw], by unfold tM firsts; rw [hw, hl], by unfold szB; rw [hw, hl]⟩
theorem wider_does {t u : Tk} {p : List Int} (hw : u.wide = t.wide) (hl : u.need.length = t.need.length) (h : doesE t p = 0)
    (hn : ∀ k, k < t.need.length → 0 ≤ (nthP u.need k).1 ∧ (nthP u.need k).1 ≤ (nthP t.need k).1 ∧ (nthP t.need k).2 ≤ (nthP u.need k).2 ∧ (nthP u.need k).2 ≤ 100000) : doesE u p = 0 := by
  obtain ⟨h1, h2, h3, h4⟩ := does_keeps h
  obtain ⟨e1, e2, e3⟩ := same_size hw hl
  obtain ⟨a1, a2, a3, a4, a5, a6, a7, a8⟩ := task_parts h1
  have hu : taskB u = true := by
    unfold taskB
    rw [e3, a7, Bool.true_and]
    exact allP_of fun k hk => ordB_iff.2 (by have := hn k (by omega); have := okP_bd a8 (i := k) (by omega); omega)
  have hk := (keeps_iff t _).1 h4
  refine keeps_does hu (by omega) h3 ((keeps_iff u _).2 ⟨by rw [e2]; exact hk.1, fun i hi => ?_⟩)
  rw [e1, e2]
  have := hk.2 i (by omega)
  have := hn i (by omega)
  omega
theorem wider_fewest {t u : Tk} (hw : u.wide = t.wide) (hl : u.need.length = t.need.length) (h : stE t = 0)
    (hn : ∀ k, k < t.need.length → 0 ≤ (nthP u.need k).1 ∧ (nthP u.need k).1 ≤ (nthP t.need k).1 ∧ (nthP t.need k).2 ≤ (nthP u.need k).2 ∧ (nthP u.need k).2 ≤ 100000) : stE u = 0 ∧ fwV u ≤ fwV t ∧ doesE u (plR t) = 0 := by
  have h1 := wider_does hw hl (plR_does h) hn
  refine ⟨(does_least h1).1, ?_, h1⟩
  have h2 := does_min h1
  rw [(does_total (plR_does h)).2, plR_pre h (Nat.le_refl _)] at h2
  unfold fwV
  rw [if_pos h]
  exact h2
theorem pre_rep (n k : Nat) : pre (List.replicate n 0) k = 0 := by
  induction k with
  | zero => rfl
  | succ k ih => rw [pre, ih, nth_rep]; rfl
theorem zero_fewest {t : Tk} (h : taskB t = true) : stE (zeroOf t) = 0 ∧ fwV (zeroOf t) = 0 := by
  obtain ⟨a1, a2, a3, a4, a5, a6, a7, a8⟩ := task_parts h
  have hl : (zeroOf t).need.length = t.need.length := by simp [zeroOf]
  obtain ⟨e1, e2, e3⟩ := same_size (t := t) (u := zeroOf t) rfl hl
  have hu : taskB (zeroOf t) = true := by
    unfold taskB
    rw [e3, a7, Bool.true_and]
    exact allP_of fun k _ => by show okP (nthP (List.replicate t.need.length (0, 0)) k) = true; rw [nthP_rep]; rfl
  have hd : doesE (zeroOf t) (List.replicate (tM t) 0) = 0 :=
    keeps_does hu (by simp [e2]) (cntB_of fun k _ => by rw [nth_rep]; omega) ((keeps_iff _ _).2 ⟨fun k _ => by rw [pre_rep, pre_rep]; omega, fun i _ => by
      rw [pre_rep, pre_rep, show nthP (zeroOf t).need i = (0, 0) from nthP_rep _ _]; dsimp only; omega⟩)
  have h1 := (does_least hd).1
  have h2 := does_min hd
  rw [(does_total hd).2, pre_rep] at h2
  refine ⟨h1, ?_⟩
  have h3 : 0 ≤ fwV (zeroOf t) := by unfold fwV; rw [if_pos h1]; exact (lsT_bd _ hu _).1
  omega

end Go.Proofs.Ytfhbpeafapabhaa

/- The chain back from the last point pays prices that prove the fewest strokes. -/
import Derived.Test.YtfafjojoapcliaaS9
namespace Go.Proofs.Ytfafjojoapcliaa

theorem lf0_ntd {t : Tk} (ht : taskB t = true) : Ntd (edT t) (tM t + 1) (lf0 (tM t + 1)) := by
  obtain ⟨a1, a2, a3, a4, a5, a6, a7, a8⟩ := task_parts ht
  exact ⟨lf0_noted t (tW t) (tM t) a4, nth_rep _ _, by
    show nth (byTo (tM t + 1) (tM t + 1)) 0 = -1
    rw [byTo_nth _ _ _ (by omega) (Nat.le_refl _)]; rfl, by simp [lf0], byTo_len _ _⟩
theorem edT_rise {t : Tk} {k : Nat} (h : k < tM t) : egAt (edT t) k = ⟨k, k + 1, 0, -1, false⟩ := by
  unfold egAt edT edgesOf
  rw [List.getD_eq_getElem?_getD, List.getElem?_append_left (by rw [riseTo_len]; omega)]
  unfold riseTo
  rw [List.getElem?_map, List.getElem?_range (by omega)]
  rfl
theorem lf0_rooted {t : Tk} : Rooted (edT t) (tM t + 1) (lf0 (tM t + 1)) := by
  have key : ∀ v, v < tM t + 1 → ∃ j, wbs (edT t) (lf0 (tM t + 1)).B v j = 0 := fun v => by
    induction v with
    | zero => intro _; exact ⟨0, rfl⟩
    | succ v ih =>
      intro hv
      obtain ⟨j, hj⟩ := ih (by omega)
      refine ⟨1 + j, ?_⟩
      rw [wbs_add]
      have e : wbs (edT t) (lf0 (tM t + 1)).B (v + 1) 1 = v := by
        show wb (edT t) (lf0 (tM t + 1)).B (v + 1) = v
        unfold wb
        rw [show nth (lf0 (tM t + 1)).B (v + 1) = (v : Int) by
          show nth (byTo (tM t + 1) (tM t + 1)) (v + 1) = _
          rw [byTo_nth _ _ _ hv (Nat.le_refl _)]; omega]
        rw [Int.toNat_natCast, edT_rise (by omega)]
      rw [e]
      exact hj
  exact key
theorem state_rooted {t : Tk} (ht : taskB t = true) (hf : feasB t = true) (r : Nat) : Ntd (edT t) (tM t + 1) (rounds (edT t) (lf0 (tM t + 1)) r) ∧ Rooted (edT t) (tM t + 1) (rounds (edT t) (lf0 (tM t + 1)) r) := by
  obtain ⟨a1, a2, a3, a4, a5, a6, a7, a8⟩ := task_parts ht
  have hk := (lsT_keeps ht hf).1
  have hz : ∀ k, nth (lf0 (tM t + 1)).L k = 0 := fun k => nth_rep _ _
  refine rounds_rooted (lf0_ntd ht) lf0_rooted hk (by rw [edT_rise (by omega)]) (edgesOf_to t (tW t) (tM t) a4 a3) (fun r i hi => ?_) r
  have h1 := liftTo_pos (es := edT t) (rounds_pos (es := edT t) (s := lf0 (tM t + 1)) (fun k => by rw [hz]; omega) r) i 0
  have h2 := liftTo_below hk (rounds_below hk (s := lf0 (tM t + 1)) (fun k => by rw [hz]; exact (lsT_bd t ht k).1) r) i hi 0
  rw [lsT_zero ht hf] at h2
  omega
/-- what is paid back from the last point -/
theorem prove_ok {t : Tk} (ht : taskB t = true) (hf : feasB t = true) {r : Nat} (hq : (rounds (edT t) (lf0 (tM t + 1)) (r + 1)).last = -1) :
    ∃ j, j ≤ tM t + 1 ∧ 1 ≤ j ∧ wbs (edT t) (rounds (edT t) (lf0 (tM t + 1)) (r + 1)).B (tM t) j = 0 ∧ (∀ k, k < j → wbs (edT t) (rounds (edT t) (lf0 (tM t + 1)) (r + 1)).B (tM t) k ≠ 0) ∧
      (∀ k, k < j → ∃ i, i < (edT t).length ∧ nth (rounds (edT t) (lf0 (tM t + 1)) (r + 1)).B (wbs (edT t) (rounds (edT t) (lf0 (tM t + 1)) (r + 1)).B (tM t) k) = (i : Int) ∧ (egAt (edT t) i).to = wbs (edT t) (rounds (edT t) (lf0 (tM t + 1)) (r + 1)).B (tM t) k ∧ (egAt (edT t) i).fr < tM t + 1 ∧ wbs (edT t) (rounds (edT t) (lf0 (tM t + 1)) (r + 1)).B (tM t) k < tM t + 1) ∧
      xOk t.need.length (payTo (edT t) (rounds (edT t) (lf0 (tM t + 1)) (r + 1)).B t.need.length (tM t) j).1 (payTo (edT t) (rounds (edT t) (lf0 (tM t + 1)) (r + 1)).B t.need.length (tM t) j).2 = true ∧
      gainTo (payTo (edT t) (rounds (edT t) (lf0 (tM t + 1)) (r + 1)).B t.need.length (tM t) j).1 (payTo (edT t) (rounds (edT t) (lf0 (tM t + 1)) (r + 1)).B t.need.length (tM t) j).2 (tW t) 1 (tM t) = true ∧
      valTo t.need (payTo (edT t) (rounds (edT t) (lf0 (tM t + 1)) (r + 1)).B t.need.length (tM t) j).1 (payTo (edT t) (rounds (edT t) (lf0 (tM t + 1)) (r + 1)).B t.need.length (tM t) j).2 t.need.length = fwV t := by
  obtain ⟨a1, a2, a3, a4, a5, a6, a7, a8⟩ := task_parts ht
  have hto := edgesOf_to t (tW t) (tM t) a4 a3
  obtain ⟨hn, hr⟩ := state_rooted ht hf (r + 1)
  have hL : (rounds (edT t) (lf0 (tM t + 1)) (r + 1)).L = lsT t := quiet_least hto (show (lf0 (tM t + 1)).L = List.replicate (tM t + 1) 0 from rfl) (by omega) hq
  have hk := (lsT_keeps ht hf).1
  have h0 : (egAt (edT t) 0).fr = 0 := by rw [edT_rise (by omega)]
  generalize rounds (edT t) (lf0 (tM t + 1)) (r + 1) = s at *
  have hb : ∀ k, wbs (edT t) s.B (tM t) k < tM t + 1 := fun k => (climbs hn hk h0 hto (by omega) k).1
  obtain ⟨j, j1, j2, j3⟩ := chain_short hb (hr (tM t) (by omega))
  have hch : ∀ k, k < j → ∃ i, i < (edT t).length ∧ nth s.B (wbs (edT t) s.B (tM t) k) = (i : Int) ∧ (egAt (edT t) i).to = wbs (edT t) s.B (tM t) k ∧ nth s.L (wbs (edT t) s.B (tM t) k) ≤ nth s.L (egAt (edT t) i).fr + (egAt (edT t) i).more := fun k hkj => by
    rcases hn.noted _ (hb k) with ⟨h1, -⟩ | h1
    · exact absurd h1 (j3 k hkj)
    · exact h1
  have hmore : ∀ q, q ≤ j → moreTo (edT t) s.B (tM t) q = nth s.L (tM t) - nth s.L (wbs (edT t) s.B (tM t) q) := fun q => by
    induction q with
    | zero => intro _; show (0 : Int) = nth s.L (tM t) - nth s.L (tM t); omega
    | succ q ih =>
      intro hqj
      obtain ⟨i, i1, i2, i3, i4⟩ := hch q (by omega)
      have e : ntE (edT t) s.B (wbs (edT t) s.B (tM t) q) = egAt (edT t) i := by unfold ntE; rw [i2]; rfl
      have e2 : wbs (edT t) s.B (tM t) (q + 1) = (egAt (edT t) i).fr := by
        show wb (edT t) s.B (wbs (edT t) s.B (tM t) q) = _
        unfold wb; rw [i2]; rfl
      have h5 := hk _ (egAt_mem i1)
      rw [← hL, i3] at h5
      rw [moreTo, ih (by omega), e, e2]
      omega
  have hj1 : 1 ≤ j := by
    by_cases e : j = 0
    · subst e
      have : tM t = 0 := j2
      omega
    · omega
  obtain ⟨b1, b2, b3, b4, b5, b6⟩ := payTo_ok (B := s.B) (v := tM t) ht j (fun k hkj => by
    obtain ⟨i, i1, i2, i3, -⟩ := hch k hkj
    exact ⟨i, i1, i2, i3⟩)
  refine ⟨j, j1, hj1, j2, j3, fun k hkj => ?_, xOk_iff.2 ⟨b1, b2, cntB_of fun k _ => by have := b5 k; omega, cntB_of fun k _ => by have := b6 k; omega⟩, ?_, ?_⟩
  · obtain ⟨i, i1, i2, i3, -⟩ := hch k hkj
    exact ⟨i, i1, i2, i3, (hto _ (egAt_mem i1)).1, hb k⟩
  · cases hg : gainTo (payTo (edT t) s.B t.need.length (tM t) j).1 (payTo (edT t) s.B t.need.length (tM t) j).2 (tW t) 1 (tM t)
    · unfold gainTo at hg
      rw [List.all_eq_false] at hg
      obtain ⟨k, hk1, hk2⟩ := hg
      have hk3 := List.mem_range.1 hk1
      have h6 := b4 k hk3
      rw [j2] at h6
      unfold behind at h6
      rw [ite_t (p := k < tM t) hk3, ite_f (p := k < 0) (by omega)] at h6
      simp at hk2
      omega
    · rfl
  · rw [b3, hmore j (Nat.le_refl _), j2, hL, lsT_zero ht hf]
    unfold fwV stE
    rw [if_pos ht, if_pos hf, if_pos rfl]
    omega

end Go.Proofs.Ytfafjojoapcliaa

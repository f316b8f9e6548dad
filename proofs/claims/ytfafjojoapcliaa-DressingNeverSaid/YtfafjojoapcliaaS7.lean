/- Prices that are accepted are at most what any plan has. -/
import Derived.Test.YtfafjojoapcliaaS0
namespace Go.Proofs.Ytfafjojoapcliaa

def dif (l h : List Int) (i : Nat) : Int := nth l i - nth h i
def pdif (l h : List Int) (k : Nat) : Int := pre l k - pre h k
theorem pdif_succ (l h : List Int) (k : Nat) : pdif l h (k + 1) = pdif l h k + dif l h k := by unfold pdif dif; rw [pre, pre]; omega
theorem gainAt_pdif (l h : List Int) (W k : Nat) : gainAt l h W k = pdif l h (k + W) - pdif l h k := by unfold gainAt pdif; omega
theorem window (l h : List Int) (c : Int) (j W n : Nat) : sm (fun i => (if j ≤ i ∧ i < j + W then c else 0) * dif l h i) n = c * (pdif l h (min n (j + W)) - pdif l h (min n j)) := by
  induction n with
  | zero => simp [sm]
  | succ n ih =>
    rw [sm, ih]
    by_cases h1 : n < j
    · rw [if_neg (by omega), show min (n + 1) (j + W) = n + 1 by omega, show min (n + 1) j = n + 1 by omega, show min n (j + W) = n by omega, show min n j = n by omega]
      simp
    · by_cases h2 : n < j + W
      · rw [if_pos (by omega), show min (n + 1) (j + W) = n + 1 by omega, show min (n + 1) j = j by omega, show min n (j + W) = n by omega, show min n j = j by omega, pdif_succ, ← Int.mul_add]
        congr 1; omega
      · rw [if_neg (by omega), show min (n + 1) (j + W) = j + W by omega, show min (n + 1) j = j by omega, show min n (j + W) = j + W by omega, show min n j = j by omega]
        simp
theorem sm_add (D E : Nat → Int) (n : Nat) : sm (fun i => D i + E i) n = sm D n + sm E n := by
  induction n with
  | zero => rfl
  | succ n ih => rw [sm, sm, sm, ih]; omega
theorem sm_cong {D E : Nat → Int} {n : Nat} (h : ∀ i, i < n → D i = E i) : sm D n = sm E n := by
  induction n with
  | zero => rfl
  | succ n ih => rw [sm, sm, ih fun i hi => h i (by omega), h n (by omega)]
/-- covers by the first first cells -/
def covJ (p : List Int) (W j i : Nat) : Int := pre p (min (i + 1) j) - pre p (min (i + 1 - W) j)
theorem covJ_succ (p : List Int) (W j i : Nat) (hW : 1 ≤ W) : covJ p W (j + 1) i = covJ p W j i + (if j ≤ i ∧ i < j + W then nth p j else 0) := by
  unfold covJ
  by_cases h1 : i < j
  · rw [if_neg (by omega), show min (i + 1) (j + 1) = i + 1 by omega, show min (i + 1) j = i + 1 by omega, show min (i + 1 - W) (j + 1) = i + 1 - W by omega, show min (i + 1 - W) j = i + 1 - W by omega]
    omega
  · by_cases h2 : i < j + W
    · rw [if_pos (by omega), show min (i + 1) (j + 1) = j + 1 by omega, show min (i + 1) j = j by omega, show min (i + 1 - W) (j + 1) = i + 1 - W by omega, show min (i + 1 - W) j = i + 1 - W by omega, pre]
      omega
    · rw [if_neg (by omega), show min (i + 1) (j + 1) = j + 1 by omega, show min (i + 1) j = j by omega, show min (i + 1 - W) (j + 1) = j + 1 by omega, show min (i + 1 - W) j = j by omega]
      omega
theorem exchange (p l h : List Int) (W n j : Nat) (hW : 1 ≤ W) (hj : j + W ≤ n + 1) : sm (fun i => covJ p W j i * dif l h i) n = sm (fun k => nth p k * gainAt l h W k) j := by
  induction j with
  | zero =>
    rw [sm_cong (E := fun _ => 0) (fun i _ => by unfold covJ; rw [Nat.min_zero, Nat.min_zero]; simp)]
    have : ∀ n, sm (fun _ => (0 : Int)) n = 0 := fun n => by induction n with
      | zero => rfl
      | succ n ih => rw [sm, ih]; rfl
    rw [this]; rfl
  | succ j ih =>
    rw [sm, ← ih (by omega), sm_cong (E := fun i => covJ p W j i * dif l h i + (if j ≤ i ∧ i < j + W then nth p j else 0) * dif l h i) (fun i _ => by rw [covJ_succ _ _ _ _ hW, Int.add_mul]), sm_add, window, gainAt_pdif, show min n (j + W) = j + W by omega, show min n j = j by omega]
theorem val_le {nd : List (Int × Int)} {l h : List Int} {cv : Nat → Int} (hl : cntB l 100000 = true) (hh : cntB h 100000 = true) (n : Nat) (hc : ∀ i, i < n → (nthP nd i).1 ≤ cv i ∧ cv i ≤ (nthP nd i).2) : valTo nd l h n ≤ sm (fun i => cv i * dif l h i) n := by
  induction n with
  | zero => exact Int.le_refl _
  | succ n ih =>
    have h1 := ih fun i hi => hc i (by omega)
    have h2 := hc n (by omega)
    have h3 := cntB_nth hl n (by omega)
    have h4 := cntB_nth hh n (by omega)
    have h5 := Int.mul_nonneg (show 0 ≤ cv n - (nthP nd n).1 by omega) h3.1
    have h6 := Int.mul_nonneg (show 0 ≤ (nthP nd n).2 - cv n by omega) h4.1
    rw [Int.sub_mul] at h5 h6
    rw [valTo, sm]
    have e : cv n * dif l h n = cv n * nth l n - cv n * nth h n := by unfold dif; rw [Int.mul_sub]
    omega
theorem duality {t : Tk} {p l h : List Int} {most : Int} (hd : doesE t p = 0) (hx : xOk t.need.length l h = true) (hg : gainTo l h (tW t) most (tM t) = true) : valTo t.need l h t.need.length ≤ most * totV p := by
  obtain ⟨h1, h2, h3, h4⟩ := does_keeps hd
  obtain ⟨a1, a2, a3, a4, a5, a6, a7, a8⟩ := task_parts h1
  have hxp := xOk_iff.1 hx
  have hk := (keeps_iff t _).1 h4
  have e1 := val_le (nd := t.need) (cv := fun i => covJ p (tW t) (tM t) i) hxp.2.2.1 hxp.2.2.2 t.need.length (fun i hi => by
    have := hk.2 i hi
    show _ ≤ covJ p (tW t) (tM t) i ∧ covJ p (tW t) (tM t) i ≤ _
    unfold covJ
    rw [show min (i + 1 - tW t) (tM t) = i + 1 - tW t by omega]
    exact this)
  rw [exchange p l h (tW t) t.need.length (tM t) a5 (by omega)] at e1
  refine Int.le_trans e1 ?_
  rw [(does_total hd).2]
  have key : ∀ m, m ≤ tM t → sm (fun k => nth p k * gainAt l h (tW t) k) m ≤ most * pre p m := fun m => by
    induction m with
    | zero => intro _; simp [sm, pre]
    | succ m ih =>
      intro hm
      have i1 := ih (by omega)
      have i2 := gainTo_at hg (k := m) (by omega)
      have i3 := (cntB_nth h3 m (by omega)).1
      have i4 := Int.mul_nonneg i3 (show 0 ≤ most - gainAt l h (tW t) m by omega)
      rw [Int.mul_sub, Int.mul_comm (nth p m) most] at i4
      rw [sm, pre, Int.mul_add]
      omega
  exact key _ (Nat.le_refl _)

end Go.Proofs.Ytfafjojoapcliaa

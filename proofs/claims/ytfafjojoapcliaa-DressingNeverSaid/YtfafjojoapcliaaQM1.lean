/- Prefix sums, and what a plan covers, counted in two ways. -/
import Derived.Test.YtfafjojoapcliaaBase
namespace Go.Proofs.Ytfafjojoapcliaa

theorem nth_set (l : List Int) (i k : Nat) (x : Int) : nth (l.set i x) k = if i = k ∧ k < l.length then x else nth l k := by
  unfold nth
  rw [List.getD_eq_getElem?_getD, List.getD_eq_getElem?_getD, List.getElem?_set]
  by_cases h : i = k
  · subst h
    by_cases h2 : i < l.length <;> simp [h2]
  · simp [h]
theorem nth_rep (n k : Nat) : nth (List.replicate n 0) k = 0 := by
  unfold nth
  rw [List.getD_eq_getElem?_getD, List.getElem?_replicate]
  split <;> rfl
theorem ext_nth {l r : List Int} (hl : l.length = r.length) (h : ∀ k, k < l.length → nth l k = nth r k) : l = r := by
  apply List.ext_getElem hl
  intro k h1 h2
  have := h k h1
  unfold nth at this
  rw [List.getD_eq_getElem?_getD, List.getD_eq_getElem?_getD, List.getElem?_eq_getElem h1, List.getElem?_eq_getElem h2] at this
  exact this

/-- the sum of the first numbers -/
def pre (l : List Int) : Nat → Int
  | 0 => 0
  | k + 1 => pre l k + nth l k
/-- the list of sums, as far as it has come -/
def sumsTo (l : List Int) : Nat → List Int
  | 0 => List.replicate (l.length + 1) 0
  | i + 1 => (sumsTo l i).set (i + 1) (nth (sumsTo l i) i + nth l i)
theorem sumsTo_len (l : List Int) (i : Nat) : (sumsTo l i).length = l.length + 1 := by
  induction i with
  | zero => simp [sumsTo]
  | succ i ih => simp [sumsTo, ih]
theorem sumsTo_nth (l : List Int) (i k : Nat) (hi : i ≤ l.length) (hk : k ≤ i) : nth (sumsTo l i) k = pre l k := by
  induction i generalizing k with
  | zero =>
    obtain rfl : k = 0 := by omega
    rw [sumsTo, nth_rep]; rfl
  | succ i ih =>
    rw [sumsTo, nth_set, sumsTo_len]
    by_cases h : k = i + 1
    · subst h
      rw [if_pos ⟨rfl, by omega⟩, ih i (by omega) (Nat.le_refl _), pre]
    · rw [if_neg (by omega), ih k (by omega) (by omega)]
def sumsL (l : List Int) : List Int := sumsTo l l.length
theorem sumsL_len (l : List Int) : (sumsL l).length = l.length + 1 := sumsTo_len _ _
theorem sumsL_nth (l : List Int) (k : Nat) (hk : k ≤ l.length) : nth (sumsL l) k = pre l k := sumsTo_nth l _ k (Nat.le_refl _) hk

/-- all numbers from 0 to a greatest one -/
def cntB (l : List Int) (most : Int) : Bool := l.all fun x => inB x 0 most
theorem cntB_snoc (l : List Int) (most : Int) (k : Nat) (h : k < l.length) : cntB (l.take (k + 1)) most = (cntB (l.take k) most && inB (nth l k) 0 most) := by
  unfold cntB nth
  rw [List.take_succ_eq_append_getElem h, List.all_append]
  simp [h]
theorem cntB_false (l : List Int) (most : Int) (k : Nat) (h : k < l.length) (hf : inB (nth l k) 0 most = false) : cntB l most = false := by
  unfold cntB nth at *
  rw [List.all_eq_false]
  exact ⟨l[k], List.getElem_mem h, by simpa [h] using hf⟩
theorem cntB_nth {l : List Int} {most : Int} (h : cntB l most = true) (k : Nat) (hm : 0 ≤ most) : 0 ≤ nth l k ∧ nth l k ≤ most := by
  unfold cntB at h
  unfold nth
  rw [List.getD_eq_getElem?_getD]
  by_cases hk : k < l.length
  · rw [List.getElem?_eq_getElem hk]
    exact inB_iff.1 (List.all_eq_true.1 h _ (List.getElem_mem hk))
  · rw [List.getElem?_eq_none (by omega)]
    exact ⟨Int.le_refl _, hm⟩
theorem pre_bd {l : List Int} {most : Int} (h : cntB l most = true) (hm : 0 ≤ most) (k : Nat) : 0 ≤ pre l k ∧ pre l k ≤ k * most := by
  induction k with
  | zero => simp [pre]
  | succ k ih =>
    obtain ⟨h1, h2⟩ := cntB_nth h k hm
    have e : ((k + 1 : Nat) : Int) * most = k * most + most := by
      rw [Int.natCast_add, Int.add_mul]; simp
    rw [pre, e]
    omega
theorem pre_mono {l : List Int} {most : Int} (h : cntB l most = true) (hm : 0 ≤ most) {j k : Nat} (hjk : j ≤ k) : pre l j ≤ pre l k := by
  induction k with
  | zero => obtain rfl : j = 0 := by omega
            exact Int.le_refl _
  | succ k ih =>
    by_cases e : j = k + 1
    · subst e; exact Int.le_refl _
    · have := ih (by omega)
      have := (cntB_nth h k hm).1
      rw [pre]; omega

/-- how often a plan covers a cell -/
def covAt (l : List Int) (W k : Nat) : Int := pre l (min (k + 1) l.length) - pre l (k + 1 - W)
/-- the list of covers, as far as it has come -/
def covTo (l : List Int) (W n : Nat) : Nat → List Int
  | 0 => List.replicate n 0
  | i + 1 => (covTo l W n i).set i (covAt l W i)
theorem covTo_len (l : List Int) (W n i : Nat) : (covTo l W n i).length = n := by
  induction i with
  | zero => simp [covTo]
  | succ i ih => simp [covTo, ih]
theorem covTo_nth (l : List Int) (W n i k : Nat) (hk : k < i) (hi : i ≤ n) : nth (covTo l W n i) k = covAt l W k := by
  induction i with
  | zero => omega
  | succ i ih =>
    rw [covTo, nth_set, covTo_len]
    by_cases h : i = k
    · subst h; rw [if_pos ⟨rfl, by omega⟩]
    · rw [if_neg (by omega), ih (by omega) (by omega)]
def covL (l : List Int) (W n : Nat) : List Int := covTo l W n n
theorem covL_len (l : List Int) (W n : Nat) : (covL l W n).length = n := covTo_len _ _ _ _
theorem covL_nth (l : List Int) (W n k : Nat) (hk : k < n) : nth (covL l W n) k = covAt l W k := covTo_nth l W n n k hk (Nat.le_refl _)

/-- a number added to some cells in a row -/
def addTo (c : List Int) (i : Nat) (x : Int) : Nat → List Int
  | 0 => c
  | s + 1 => (addTo c i x s).set (i + s) (nth (addTo c i x s) (i + s) + x)
theorem addTo_len (c : List Int) (i : Nat) (x : Int) (s : Nat) : (addTo c i x s).length = c.length := by
  induction s with
  | zero => rfl
  | succ s ih => simp [addTo, ih]
theorem addTo_nth (c : List Int) (i : Nat) (x : Int) (s k : Nat) (hk : k < c.length) : nth (addTo c i x s) k = nth c k + if i ≤ k ∧ k < i + s then x else 0 := by
  induction s with
  | zero => rw [addTo, if_neg (by omega)]; omega
  | succ s ih =>
    rw [addTo, nth_set, addTo_len]
    by_cases h : i + s = k
    · rw [if_pos ⟨h, hk⟩, h, ih, if_neg (by omega), if_pos (by omega)]; omega
    · rw [if_neg (by omega), ih]
      by_cases h2 : i ≤ k ∧ k < i + s
      · rw [if_pos h2, if_pos (by omega)]
      · rw [if_neg h2, if_neg (by omega)]
/-- the covers, stroke by stroke -/
def rcovTo (l : List Int) (W n : Nat) : Nat → List Int
  | 0 => List.replicate n 0
  | i + 1 => addTo (rcovTo l W n i) i (nth l i) W
theorem rcovTo_len (l : List Int) (W n i : Nat) : (rcovTo l W n i).length = n := by
  induction i with
  | zero => simp [rcovTo]
  | succ i ih => rw [rcovTo, addTo_len, ih]
theorem rcovTo_nth (l : List Int) (W n i k : Nat) (hk : k < n) : nth (rcovTo l W n i) k = pre l (min (k + 1) i) - pre l (min i (k + 1 - W)) := by
  induction i with
  | zero => rw [rcovTo, nth_rep, Nat.min_zero, Nat.zero_min, Int.sub_self]
  | succ i ih =>
    rw [rcovTo, addTo_nth _ _ _ _ _ (by rw [rcovTo_len]; exact hk), ih]
    by_cases h1 : i ≤ k
    · rw [show min (k + 1) i = i by omega, show min (k + 1) (i + 1) = i + 1 by omega, pre]
      by_cases h2 : k < i + W
      · rw [if_pos ⟨h1, h2⟩, show min i (k + 1 - W) = k + 1 - W by omega, show min (i + 1) (k + 1 - W) = k + 1 - W by omega]
        omega
      · rw [if_neg (by omega), show min i (k + 1 - W) = i by omega, show min (i + 1) (k + 1 - W) = i + 1 by omega, pre]
        omega
    · rw [if_neg (by omega), show min (k + 1) i = k + 1 by omega, show min (k + 1) (i + 1) = k + 1 by omega, show min i (k + 1 - W) = k + 1 - W by omega, show min (i + 1) (k + 1 - W) = k + 1 - W by omega]
      omega
theorem rcov_cov (l : List Int) (W n : Nat) (hW : 1 ≤ W) (hm : l.length + W = n + 1) : rcovTo l W n l.length = covL l W n := by
  apply ext_nth (by rw [rcovTo_len, covL_len])
  intro k hk
  rw [rcovTo_len] at hk
  rw [rcovTo_nth _ _ _ _ _ hk, covL_nth _ _ _ _ hk, covAt, show min l.length (k + 1 - W) = k + 1 - W by omega]

/-- sums of lists -/
theorem pre_congr {l r : List Int} {k : Nat} (h : ∀ j, j < k → nth l j = nth r j) : pre l k = pre r k := by
  induction k with
  | zero => rfl
  | succ k ih => rw [pre, pre, ih (fun j hj => h j (by omega)), h k (by omega)]
theorem pre_upd (c d : List Int) (i : Nat) (x : Int) (k : Nat) (h : ∀ j, j < k → nth d j = nth c j + if j = i then x else 0) : pre d k = pre c k + if i < k then x else 0 := by
  induction k with
  | zero => simp [pre]
  | succ k ih =>
    rw [pre, pre, ih (fun j hj => h j (by omega)), h k (by omega)]
    by_cases h1 : k = i
    · subst h1; rw [if_neg (by omega), if_pos rfl, if_pos (by omega)]; omega
    · rw [if_neg h1]
      by_cases h2 : i < k
      · rw [if_pos h2, if_pos (by omega)]; omega
      · rw [if_neg h2, if_neg (by omega)]; omega
theorem pre_addTo (c : List Int) (i : Nat) (x : Int) (s k : Nat) (hk : k = c.length) (hs : i + s ≤ k) : pre (addTo c i x s) k = pre c k + s * x := by
  induction s with
  | zero => simp [addTo]
  | succ s ih =>
    have e : ((s + 1 : Nat) : Int) * x = s * x + x := by rw [Int.natCast_add, Int.add_mul]; simp
    rw [pre_upd (addTo c i x s) (addTo c i x (s + 1)) (i + s) x k ?_, if_pos (by omega), ih (by omega), e]
    · omega
    · intro j hj
      rw [addTo_nth _ _ _ _ _ (by omega), addTo_nth _ _ _ _ _ (by omega)]
      by_cases h1 : j = i + s
      · subst h1; rw [if_pos (by omega), if_neg (by omega), if_pos rfl]; omega
      · rw [if_neg h1]
        by_cases h2 : i ≤ j ∧ j < i + s
        · rw [if_pos (by omega), if_pos h2]; omega
        · rw [if_neg (by omega), if_neg h2]; omega
/-- the covers are together as many cells as the strokes cover -/
theorem pre_cov (l : List Int) (W n : Nat) (hW : 1 ≤ W) (hm : l.length + W = n + 1) : pre (covL l W n) n = W * pre l l.length := by
  rw [← rcov_cov l W n hW hm]
  have key : ∀ i, i ≤ l.length → pre (rcovTo l W n i) n = W * pre l i := by
    intro i hi
    induction i with
    | zero =>
      rw [rcovTo, pre, Int.mul_zero]
      have : ∀ k, pre (List.replicate n 0) k = 0 := fun k => by
        induction k with
        | zero => rfl
        | succ k ih => rw [pre, ih, nth_rep]; rfl
      exact this n
    | succ i ih =>
      rw [rcovTo, pre_addTo _ _ _ _ _ (by rw [rcovTo_len]) (by omega), ih (by omega), pre, Int.mul_add]
  exact key _ (Nat.le_refl _)
/-- plans add -/
theorem pre_add {a b c : List Int} {k : Nat} (h : ∀ j, j < k → nth c j = nth a j + nth b j) : pre c k = pre a k + pre b k := by
  induction k with
  | zero => rfl
  | succ k ih => rw [pre, pre, pre, ih (fun j hj => h j (by omega)), h k (by omega)]; omega

end Go.Proofs.Ytfafjojoapcliaa

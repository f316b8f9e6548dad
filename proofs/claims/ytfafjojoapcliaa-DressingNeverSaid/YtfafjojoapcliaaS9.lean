/- Prices that are paid along a chain of edges: their value, and what first cells gain. -/
import Derived.Test.YtfafjojoapcliaaS7
import Derived.Test.YtfafjojoapcliaaS8
namespace Go.Proofs.Ytfafjojoapcliaa

def paidE (x : Eg) (q : List Int × List Int) : List Int × List Int :=
  if x.cell = -1 then q else if x.high = true then (q.1, q.2.set x.cell.toNat (nth q.2 x.cell.toNat + 1)) else (q.1.set x.cell.toNat (nth q.1 x.cell.toNat + 1), q.2)
/-- the edge that is noted at a point -/
def ntE (es : List Eg) (B : List Int) (v : Nat) : Eg := egAt es (nth B v).toNat
def payTo (es : List Eg) (B : List Int) (n v : Nat) : Nat → List Int × List Int
  | 0 => (List.replicate n 0, List.replicate n 0)
  | j + 1 => paidE (ntE es B (wbs es B v j)) (payTo es B n v j)
def moreTo (es : List Eg) (B : List Int) (v : Nat) : Nat → Int
  | 0 => 0
  | j + 1 => moreTo es B v j + (ntE es B (wbs es B v j)).more
/-- what the edges of a task are -/
theorem edT_kinds {t : Tk} {x : Eg} (hx : x ∈ edT t) : (x.cell = -1 ∧ x.more = 0 ∧ x.to = x.fr + 1) ∨ ∃ c, c < t.need.length ∧ x.cell = (c : Int) ∧
    ((x.high = false ∧ x.more = (nthP t.need c).1 ∧ x.fr = c + 1 - tW t ∧ x.to = min (c + 1) (tM t)) ∨ (x.high = true ∧ x.more = -(nthP t.need c).2 ∧ x.to = c + 1 - tW t ∧ x.fr = min (c + 1) (tM t))) := by
  unfold edT edgesOf at hx
  rcases List.mem_append.1 hx with hx | hx
  · unfold riseTo at hx
    obtain ⟨i, hi, rfl⟩ := List.mem_map.1 hx
    exact .inl ⟨rfl, rfl, rfl⟩
  · obtain ⟨i, hi, hx⟩ := mem_spansTo hx
    simp only [spanE, List.mem_cons, List.not_mem_nil, or_false] at hx
    rcases hx with rfl | rfl
    · exact .inr ⟨i, hi, rfl, .inl ⟨rfl, rfl, rfl, rfl⟩⟩
    · exact .inr ⟨i, hi, rfl, .inr ⟨rfl, rfl, rfl, rfl⟩⟩
theorem ite_t {p : Prop} [Decidable p] (h : p) (a b : Int) : (if p then a else b) = a := if_pos h
theorem ite_f {p : Prop} [Decidable p] (h : ¬ p) (a b : Int) : (if p then a else b) = b := if_neg h
theorem pre_inc (l : List Int) (c k : Nat) (hc : c < l.length) : pre (l.set c (nth l c + 1)) k = pre l k + (if c < k then 1 else 0) := by
  induction k with
  | zero => simp [pre]
  | succ k ih =>
    rw [pre, pre, ih, nth_set]
    by_cases e : c = k
    · subst e; rw [ite_t (p := c = c ∧ c < l.length) ⟨rfl, hc⟩, ite_f (p := c < c) (by omega), ite_t (p := c < c + 1) (by omega)]; omega
    · rw [ite_f (p := c = k ∧ k < l.length) (by omega)]
      by_cases h : c < k
      · rw [ite_t h, ite_t (p := c < k + 1) (by omega)]; omega
      · rw [ite_f h, ite_f (p := c < k + 1) (by omega)]; omega
theorem val_incL (nd : List (Int × Int)) (l h : List Int) (c k : Nat) (hc : c < l.length) : valTo nd (l.set c (nth l c + 1)) h k = valTo nd l h k + (if c < k then (nthP nd c).1 else 0) := by
  induction k with
  | zero => simp [valTo]
  | succ k ih =>
    rw [valTo, valTo, ih, nth_set]
    by_cases e : c = k
    · subst e; rw [ite_t (p := c = c ∧ c < l.length) ⟨rfl, hc⟩, ite_f (p := c < c) (by omega), ite_t (p := c < c + 1) (by omega), Int.mul_add, Int.mul_one]; omega
    · rw [ite_f (p := c = k ∧ k < l.length) (by omega)]
      by_cases h : c < k
      · rw [ite_t h, ite_t (p := c < k + 1) (by omega)]; omega
      · rw [ite_f h, ite_f (p := c < k + 1) (by omega)]; omega
theorem val_incH (nd : List (Int × Int)) (l h : List Int) (c k : Nat) (hc : c < h.length) : valTo nd l (h.set c (nth h c + 1)) k = valTo nd l h k - (if c < k then (nthP nd c).2 else 0) := by
  induction k with
  | zero => simp [valTo]
  | succ k ih =>
    rw [valTo, valTo, ih, nth_set]
    by_cases e : c = k
    · subst e; rw [ite_t (p := c = c ∧ c < h.length) ⟨rfl, hc⟩, ite_f (p := c < c) (by omega), ite_t (p := c < c + 1) (by omega), Int.mul_add, Int.mul_one]; omega
    · rw [ite_f (p := c = k ∧ k < h.length) (by omega)]
      by_cases h : c < k
      · rw [ite_t h, ite_t (p := c < k + 1) (by omega)]; omega
      · rw [ite_f h, ite_f (p := c < k + 1) (by omega)]; omega
/-- whether a point lies behind a first cell -/
def behind (v k : Nat) : Int := if k < v then 1 else 0
theorem paidE_ok {t : Tk} {x : Eg} (ht : taskB t = true) (hx : x ∈ edT t) {q : List Int × List Int} (h1 : q.1.length = t.need.length) (h2 : q.2.length = t.need.length) :
    (paidE x q).1.length = t.need.length ∧ (paidE x q).2.length = t.need.length ∧
    valTo t.need (paidE x q).1 (paidE x q).2 t.need.length = valTo t.need q.1 q.2 t.need.length + x.more ∧
    (∀ k, k < tM t → gainAt (paidE x q).1 (paidE x q).2 (tW t) k ≤ gainAt q.1 q.2 (tW t) k + (behind x.to k - behind x.fr k)) ∧
    ∀ J : Int, (∀ i, 0 ≤ nth q.1 i ∧ nth q.1 i ≤ J) → (∀ i, 0 ≤ nth q.2 i ∧ nth q.2 i ≤ J) → (∀ i, 0 ≤ nth (paidE x q).1 i ∧ nth (paidE x q).1 i ≤ J + 1) ∧ ∀ i, 0 ≤ nth (paidE x q).2 i ∧ nth (paidE x q).2 i ≤ J + 1 := by
  obtain ⟨a1, a2, a3, a4, a5, a6, a7, a8⟩ := task_parts ht
  rcases edT_kinds hx with ⟨e1, e2, e3⟩ | ⟨c, hc, e1, ⟨e2, e3, e4, e5⟩ | ⟨e2, e3, e4, e5⟩⟩
  · have e : paidE x q = q := by unfold paidE; rw [if_pos e1]
    rw [e]
    refine ⟨h1, h2, by omega, fun k _ => ?_, fun J hl hh => ⟨fun i => ⟨(hl i).1, Int.le_trans (hl i).2 (by omega)⟩, fun i => ⟨(hh i).1, Int.le_trans (hh i).2 (by omega)⟩⟩⟩
    unfold behind
    rw [e3]
    split <;> split <;> omega
  · have e : paidE x q = (q.1.set c (nth q.1 c + 1), q.2) := by unfold paidE; rw [if_neg (by omega), if_neg (by rw [e2]; simp), e1]; rfl
    rw [e]
    refine ⟨by rw [List.length_set]; exact h1, h2, by rw [val_incL _ _ _ _ _ (by omega), if_pos hc, e3], fun k hk => ?_, fun J hl hh => ⟨fun i => ?_, fun i => ⟨(hh i).1, Int.le_trans (hh i).2 (by omega)⟩⟩⟩
    · unfold gainAt behind
      rw [pre_inc _ _ _ (by omega), pre_inc _ _ _ (by omega), e4, e5]
      dsimp only
      by_cases g1 : c < k + tW t
      · by_cases g2 : c < k
        · rw [ite_t g1, ite_t g2, ite_f (p := k < min (c + 1) (tM t)) (by omega), ite_f (p := k < c + 1 - tW t) (by omega)]; omega
        · rw [ite_t g1, ite_f g2, ite_t (p := k < min (c + 1) (tM t)) (by omega), ite_f (p := k < c + 1 - tW t) (by omega)]; omega
      · rw [ite_f g1, ite_f (p := c < k) (by omega), ite_t (p := k < min (c + 1) (tM t)) (by omega), ite_t (p := k < c + 1 - tW t) (by omega)]; omega
    · dsimp only
      rw [nth_set]
      split
      · have := hl c; omega
      · have := hl i; omega
  · have e : paidE x q = (q.1, q.2.set c (nth q.2 c + 1)) := by unfold paidE; rw [if_neg (by omega), if_pos e2, e1]; rfl
    rw [e]
    refine ⟨h1, by rw [List.length_set]; exact h2, by show valTo t.need q.1 (q.2.set c (nth q.2 c + 1)) t.need.length = _; rw [val_incH _ _ _ _ _ (by omega), if_pos hc, e3]; omega, fun k hk => ?_, fun J hl hh => ⟨fun i => ⟨(hl i).1, Int.le_trans (hl i).2 (by omega)⟩, fun i => ?_⟩⟩
    · unfold gainAt behind
      rw [pre_inc _ _ _ (by omega), pre_inc _ _ _ (by omega), e4, e5]
      dsimp only
      by_cases g1 : c < k + tW t
      · by_cases g2 : c < k
        · rw [ite_t g1, ite_t g2, ite_f (p := k < min (c + 1) (tM t)) (by omega), ite_f (p := k < c + 1 - tW t) (by omega)]; omega
        · rw [ite_t g1, ite_f g2, ite_t (p := k < min (c + 1) (tM t)) (by omega), ite_f (p := k < c + 1 - tW t) (by omega)]; omega
      · rw [ite_f g1, ite_f (p := c < k) (by omega), ite_t (p := k < min (c + 1) (tM t)) (by omega), ite_t (p := k < c + 1 - tW t) (by omega)]; omega
    · dsimp only
      rw [nth_set]
      split
      · have := hh c; omega
      · have := hh i; omega
/-- a chain of noted edges: each of them leads to the point at which it is noted -/
theorem payTo_ok {t : Tk} {B : List Int} {v : Nat} (ht : taskB t = true) (j : Nat) (hc : ∀ k, k < j → ∃ i, i < (edT t).length ∧ nth B (wbs (edT t) B v k) = (i : Int) ∧ (egAt (edT t) i).to = wbs (edT t) B v k) :
    (payTo (edT t) B t.need.length v j).1.length = t.need.length ∧ (payTo (edT t) B t.need.length v j).2.length = t.need.length ∧
    valTo t.need (payTo (edT t) B t.need.length v j).1 (payTo (edT t) B t.need.length v j).2 t.need.length = moreTo (edT t) B v j ∧
    (∀ k, k < tM t → gainAt (payTo (edT t) B t.need.length v j).1 (payTo (edT t) B t.need.length v j).2 (tW t) k ≤ behind v k - behind (wbs (edT t) B v j) k) ∧
    (∀ i, 0 ≤ nth (payTo (edT t) B t.need.length v j).1 i ∧ nth (payTo (edT t) B t.need.length v j).1 i ≤ j) ∧ ∀ i, 0 ≤ nth (payTo (edT t) B t.need.length v j).2 i ∧ nth (payTo (edT t) B t.need.length v j).2 i ≤ j := by
  induction j with
  | zero =>
    have z : ∀ k, pre (List.replicate t.need.length 0) k = 0 := fun k => by
      induction k with
      | zero => rfl
      | succ k ih => rw [pre, ih, nth_rep]; rfl
    have zv : ∀ k, valTo t.need (List.replicate t.need.length 0) (List.replicate t.need.length 0) k = 0 := fun k => by
      induction k with
      | zero => rfl
      | succ k ih => rw [valTo, ih, nth_rep]; simp
    refine ⟨by simp [payTo], by simp [payTo], zv _, fun k _ => ?_, fun i => ?_, fun i => ?_⟩
    · show gainAt (List.replicate t.need.length 0) (List.replicate t.need.length 0) (tW t) k ≤ behind v k - behind v k
      unfold gainAt
      rw [z, z]; omega
    · show 0 ≤ nth (List.replicate t.need.length 0) i ∧ _
      rw [show (payTo (edT t) B t.need.length v 0).1 = List.replicate t.need.length 0 from rfl, nth_rep]; omega
    · rw [show (payTo (edT t) B t.need.length v 0).2 = List.replicate t.need.length 0 from rfl, nth_rep]; omega
  | succ j ih =>
    obtain ⟨b1, b2, b3, b4, b5, b6⟩ := ih fun k hk => hc k (by omega)
    obtain ⟨i, i1, i2, i3⟩ := hc j (by omega)
    have e : ntE (edT t) B (wbs (edT t) B v j) = egAt (edT t) i := by unfold ntE; rw [i2]; rfl
    have e2 : wbs (edT t) B v (j + 1) = (egAt (edT t) i).fr := by
      show wb (edT t) B (wbs (edT t) B v j) = _
      unfold wb; rw [i2]; rfl
    obtain ⟨c1, c2, c3, c4, c5⟩ := paidE_ok ht (egAt_mem i1) b1 b2
    have c6 := c5 j b5 b6
    rw [e2, payTo, moreTo, e]
    refine ⟨c1, c2, by rw [c3, b3], fun k hk => ?_, fun q => ?_, fun q => ?_⟩
    · have d1 := b4 k hk
      have d2 := c4 k hk
      rw [i3] at d2
      omega
    · have := c6.1 q; omega
    · have := c6.2 q; omega

end Go.Proofs.Ytfafjojoapcliaa

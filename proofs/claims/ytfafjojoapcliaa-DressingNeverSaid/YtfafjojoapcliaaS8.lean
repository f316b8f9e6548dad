/- Where some plan does the task, the noted edges lead from each point back to the first one. -/
import Derived.Test.YtfafjojoapcliaaR0
namespace Go.Proofs.Ytfafjojoapcliaa

theorem pigeon (n : Nat) : ∀ (j : Nat) (f : Nat → Nat), (∀ k, k < j → f k < n) → (∀ a b, a < b → b < j → f a ≠ f b) → j ≤ n := by
  induction n with
  | zero => intro j f h _; cases j with
    | zero => omega
    | succ j => exact absurd (h 0 (by omega)) (by omega)
  | succ n ih =>
    intro j f h hi
    by_cases hk : ∃ k, k < j ∧ f k = n
    · obtain ⟨k, hk1, hk2⟩ := hk
      have := ih (j - 1) (fun x => if x = k then f (j - 1) else f x) (fun x hx => by
        show (if x = k then f (j - 1) else f x) < n
        split
        · have h1 := h (j - 1) (by omega)
          have h2 := hi k (j - 1) (by omega) (by omega)
          omega
        · have h1 := h x (by omega)
          have h2 : f x ≠ f k := by
            by_cases e : x < k
            · exact hi x k e hk1
            · exact fun e2 => hi k x (by omega) (by omega) e2.symm
          omega) (fun a b hab hb => by
        show (if a = k then f (j - 1) else f a) ≠ (if b = k then f (j - 1) else f b)
        by_cases ea : a = k
        · rw [if_pos ea, if_neg (by omega)]
          exact fun e => hi b (j - 1) (by omega) (by omega) e.symm
        · rw [if_neg ea]
          by_cases eb : b = k
          · rw [if_pos eb]
            exact hi a (j - 1) (by omega) (by omega)
          · rw [if_neg eb]
            exact hi a b hab (by omega))
      omega
    · have := ih j f (fun k hk2 => by
        have h1 := h k hk2
        have h2 : f k ≠ n := fun e => hk ⟨k, hk2, e⟩
        omega) hi
      omega

theorem wbs_add (es : List Eg) (B : List Int) (v a k : Nat) : wbs es B v (a + k) = wbs es B (wbs es B v a) k := by
  induction k with
  | zero => rfl
  | succ k ih => show wb es B (wbs es B v (a + k)) = _; rw [ih]; rfl
/-- a chain that does not come to a point does not mind what is noted there -/
theorem wbs_set {es : List Eg} {B : List Int} {to i v j : Nat} (h : ∀ k, k < j → wbs es B v k ≠ to) : ∀ k, k ≤ j → wbs es (B.set to (i : Int)) v k = wbs es B v k := by
  intro k
  induction k with
  | zero => intro _; rfl
  | succ k ih =>
    intro hk
    show wb es (B.set to (i : Int)) (wbs es (B.set to (i : Int)) v k) = wb es B (wbs es B v k)
    rw [ih (by omega)]
    unfold wb
    rw [nth_set, if_neg (fun e => h k (by omega) e.1.symm)]
/-- what is noted, where the first point was never lifted -/
structure Ntd (es : List Eg) (n : Nat) (s : Lf) : Prop where
  noted : Noted es n s
  zero : nth s.L 0 = 0
  none : nth s.B 0 = -1
  lenL : s.L.length = n
  lenB : s.B.length = n
/-- how high a point is above what it may be at least, from edge to edge -/
theorem climb {es : List Eg} {n : Nat} {s : Lf} {p : Nat → Int} (hn : Ntd es n s) (hp : Keeps es p) (h0 : (egAt es 0).fr = 0) (hto : ∀ x ∈ es, x.fr < n ∧ x.to < n) {v : Nat} (hv : v < n) :
    wb es s.B v < n ∧ nth s.L v - p v ≤ nth s.L (wb es s.B v) - p (wb es s.B v) := by
  by_cases e0 : v = 0
  · subst e0
    have : wb es s.B 0 = 0 := by unfold wb; rw [hn.none]; exact h0
    rw [this]
    exact ⟨hv, Int.le_refl _⟩
  · rcases hn.noted v hv with ⟨h1, -⟩ | ⟨i, h1, h2, h3, h4⟩
    · omega
    · have e : wb es s.B v = (egAt es i).fr := by unfold wb; rw [h2]; rfl
      rw [e]
      have := hto _ (egAt_mem h1)
      have := hp _ (egAt_mem h1)
      rw [h3] at this
      exact ⟨by omega, by omega⟩
theorem climbs {es : List Eg} {n : Nat} {s : Lf} {p : Nat → Int} (hn : Ntd es n s) (hp : Keeps es p) (h0 : (egAt es 0).fr = 0) (hto : ∀ x ∈ es, x.fr < n ∧ x.to < n) {v : Nat} (hv : v < n) (j : Nat) :
    wbs es s.B v j < n ∧ nth s.L v - p v ≤ nth s.L (wbs es s.B v j) - p (wbs es s.B v j) := by
  induction j with
  | zero => exact ⟨hv, Int.le_refl _⟩
  | succ j ih =>
    have := climb hn hp h0 hto ih.1
    exact ⟨this.1, Int.le_trans ih.2 this.2⟩
/-- each point's chain comes to the first one -/
def Rooted (es : List Eg) (n : Nat) (s : Lf) : Prop := ∀ v, v < n → ∃ j, wbs es s.B v j = 0
theorem least_hit {f : Nat → Nat} {c j : Nat} (h : f j = c) : ∃ a, a ≤ j ∧ f a = c ∧ ∀ k, k < a → f k ≠ c := by
  induction j using Nat.strongRecOn with
  | ind j ih =>
    by_cases hx : ∃ k, k < j ∧ f k = c
    · obtain ⟨k, hk, hf⟩ := hx
      obtain ⟨a, h1, h2, h3⟩ := ih k hk hf
      exact ⟨a, by omega, h2, h3⟩
    · exact ⟨j, Nat.le_refl _, h, fun k hk e => hx ⟨k, hk, e⟩⟩
theorem lfStep_rooted {es : List Eg} {n i : Nat} {s : Lf} {p : Nat → Int} (hn : Ntd es n s) (hr : Rooted es n s) (hp : Keeps es p) (h0 : (egAt es 0).fr = 0) (hto : ∀ x ∈ es, x.fr < n ∧ x.to < n) (hi : i < es.length) (hz : nth (lfStep (egAt es i) i s).L 0 = 0) :
    Ntd es n (lfStep (egAt es i) i s) ∧ Rooted es n (lfStep (egAt es i) i s) := by
  have hx := hto _ (egAt_mem hi)
  have hN := lfStep_noted hi hx.2 hn.lenL hn.lenB hn.noted
  have hl := lfStep_len (egAt es i) i s
  by_cases hc : nth s.L (egAt es i).to < nth s.L (egAt es i).fr + (egAt es i).more
  · have e : lfStep (egAt es i) i s = ⟨s.L.set (egAt es i).to (nth s.L (egAt es i).fr + (egAt es i).more), s.B.set (egAt es i).to (i : Int), ((egAt es i).to : Int)⟩ := by unfold lfStep; rw [if_pos hc]
    have hne : (egAt es i).to ≠ 0 := fun e0 => by
      rw [e, e0] at hz
      dsimp only at hz
      rw [nth_set, if_pos ⟨rfl, by have := hn.lenL; omega⟩] at hz
      rw [e0] at hc
      have := hn.zero
      omega
    have hfr : ∀ a, wbs es s.B (egAt es i).fr a ≠ (egAt es i).to := fun a ea => by
      have h1 := (climbs hn hp h0 hto hx.1 a).2
      rw [ea] at h1
      have h2 := hp _ (egAt_mem hi)
      omega
    obtain ⟨j0, hj0⟩ := hr _ hx.1
    have hroot : Rooted es n (lfStep (egAt es i) i s) := by
      rw [e]
      intro v hv
      show ∃ j, wbs es (s.B.set (egAt es i).to (i : Int)) v j = 0
      obtain ⟨j, hj⟩ := hr v hv
      by_cases hh : ∃ a, a ≤ j ∧ wbs es s.B v a = (egAt es i).to
      · obtain ⟨a, ha, hat⟩ := hh
        obtain ⟨b, hb1, hb2, hb3⟩ := least_hit (f := wbs es s.B v) hat
        refine ⟨b + (1 + j0), ?_⟩
        rw [wbs_add, wbs_set hb3 b (Nat.le_refl _), hb2, wbs_add]
        have e1 : wbs es (s.B.set (egAt es i).to (i : Int)) (egAt es i).to 1 = (egAt es i).fr := by
          show wb es (s.B.set (egAt es i).to (i : Int)) (egAt es i).to = _
          unfold wb
          rw [nth_set, if_pos ⟨rfl, by have := hn.lenB; omega⟩]
          rfl
        rw [e1, wbs_set (fun k _ => hfr k) j0 (Nat.le_refl _)]
        exact hj0
      · exact ⟨j, by rw [wbs_set (fun k hk e2 => hh ⟨k, by omega, e2⟩) j (Nat.le_refl _)]; exact hj⟩
    refine ⟨⟨hN, hz, ?_, by rw [hl.1]; exact hn.lenL, by rw [hl.2]; exact hn.lenB⟩, hroot⟩
    rw [e]
    show nth (s.B.set (egAt es i).to (i : Int)) 0 = -1
    rw [nth_set, if_neg (by omega)]
    exact hn.none
  · have e : lfStep (egAt es i) i s = s := by unfold lfStep; rw [if_neg hc]
    rw [e]
    exact ⟨hn, hr⟩
theorem liftTo_rooted {es : List Eg} {n : Nat} {s : Lf} {p : Nat → Int} (hn : Ntd es n s) (hr : Rooted es n s) (hp : Keeps es p) (h0 : (egAt es 0).fr = 0) (hto : ∀ x ∈ es, x.fr < n ∧ x.to < n) (hz : ∀ i, i ≤ es.length → nth (liftTo es s i).L 0 = 0) (i : Nat) (hi : i ≤ es.length) :
    Ntd es n (liftTo es s i) ∧ Rooted es n (liftTo es s i) := by
  induction i with
  | zero => exact ⟨⟨hn.noted, hn.zero, hn.none, hn.lenL, hn.lenB⟩, hr⟩
  | succ i ih =>
    obtain ⟨h1, h2⟩ := ih (by omega)
    exact lfStep_rooted h1 h2 hp h0 hto (by omega) (hz (i + 1) hi)
theorem rounds_rooted {es : List Eg} {n : Nat} {s : Lf} {p : Nat → Int} (hn : Ntd es n s) (hr : Rooted es n s) (hp : Keeps es p) (h0 : (egAt es 0).fr = 0) (hto : ∀ x ∈ es, x.fr < n ∧ x.to < n) (hz : ∀ r i, i ≤ es.length → nth (liftTo es (rounds es s r) i).L 0 = 0) (r : Nat) :
    Ntd es n (rounds es s r) ∧ Rooted es n (rounds es s r) := by
  induction r with
  | zero => exact ⟨hn, hr⟩
  | succ r ih => exact liftTo_rooted ih.1 ih.2 hp h0 hto (hz r) _ (Nat.le_refl _)
/-- a chain to the first point is short -/
theorem chain_short {es : List Eg} {n : Nat} {B : List Int} {v : Nat} (hb : ∀ k, wbs es B v k < n) (h : ∃ j, wbs es B v j = 0) : ∃ j, j ≤ n ∧ wbs es B v j = 0 ∧ ∀ k, k < j → wbs es B v k ≠ 0 := by
  obtain ⟨j, hj⟩ := h
  obtain ⟨a, h1, h2, h3⟩ := least_hit (f := wbs es B v) hj
  refine ⟨a, pigeon n a (wbs es B v) (fun k _ => hb k) (fun x y hxy hy e => ?_), h2, h3⟩
  have e1 : wbs es B v (x + (a - y)) = 0 := by
    rw [wbs_add, e, ← wbs_add, show y + (a - y) = a by omega]
    exact h2
  exact h3 _ (by omega) e1

end Go.Proofs.Ytfafjojoapcliaa

/- Longest walks: what the numbers are where no edge lifts any more; that the way back from a point that still rises never ends; bounds. -/
import Derived.Test.YtfafjojoapcliaaQM2
namespace Go.Proofs.Ytfafjojoapcliaa

/-! the numbers do not depend on the edges that are noted -/
theorem lfStep_indep (x : Eg) (i j : Nat) (s r : Lf) (h : s.L = r.L) (hl : s.last = r.last) : (lfStep x i s).L = (lfStep x j r).L ∧ (lfStep x i s).last = (lfStep x j r).last := by
  unfold lfStep
  rw [h]
  split
  · exact ⟨rfl, rfl⟩
  · exact ⟨h, hl⟩
theorem liftTo_indep (es : List Eg) (s r : Lf) (h : s.L = r.L) (i : Nat) : (liftTo es s i).L = (liftTo es r i).L ∧ (liftTo es s i).last = (liftTo es r i).last := by
  induction i with
  | zero => exact ⟨h, rfl⟩
  | succ i ih => exact lfStep_indep _ _ _ _ _ ih.1 ih.2
theorem rounds_indep (es : List Eg) (s r : Lf) (h : s.L = r.L) (k : Nat) : (rounds es s k).L = (rounds es r k).L ∧ (1 ≤ k → (rounds es s k).last = (rounds es r k).last) := by
  induction k with
  | zero => exact ⟨h, fun h => by omega⟩
  | succ k ih =>
    have := liftTo_indep es (rounds es s k) (rounds es r k) ih.1 es.length
    exact ⟨this.1, fun _ => this.2⟩

/-! bounds -/
theorem lfStep_top {x : Eg} (i : Nat) {s : Lf} {M : Int} (hx : x.more ≤ 100000) (h : ∀ k, nth s.L k ≤ M) (k : Nat) : nth (lfStep x i s).L k ≤ M + 100000 := by
  unfold lfStep
  split
  · dsimp only
    rw [nth_set]
    split
    · have := h x.fr; omega
    · have := h k; omega
  · have := h k; omega
theorem liftTo_top {es : List Eg} (he : ∀ x ∈ es, x.more ≤ 100000) {s : Lf} {M : Int} (h : ∀ k, nth s.L k ≤ M) (i : Nat) (hi : i ≤ es.length) : ∀ k, nth (liftTo es s i).L k ≤ M + i * 100000 := by
  induction i with
  | zero => intro k; have := h k; simpa [liftTo] using this
  | succ i ih =>
    intro k
    have := lfStep_top i (he _ (egAt_mem (es := es) (i := i) (by omega))) (ih (by omega)) k
    change nth (liftTo es s (i + 1)).L k ≤ _ at this
    have e : ((i + 1 : Nat) : Int) * 100000 = i * 100000 + 100000 := by omega
    omega
theorem rounds_top {es : List Eg} (he : ∀ x ∈ es, x.more ≤ 100000) {s : Lf} (h : ∀ k, nth s.L k ≤ 0) (r : Nat) : ∀ k, nth (rounds es s r).L k ≤ r * (es.length * 100000) := by
  induction r with
  | zero => intro k; have := h k; simpa [rounds] using this
  | succ r ih =>
    intro k
    have := liftTo_top he ih es.length (Nat.le_refl _) k
    change nth (rounds es s (r + 1)).L k ≤ _ at this
    have e : ((r + 1 : Nat) : Int) * (es.length * 100000) = r * (es.length * 100000) + es.length * 100000 := by rw [Int.natCast_add, Int.add_mul]; simp
    omega
theorem liftTo_pos {es : List Eg} {s : Lf} (h : ∀ k, 0 ≤ nth s.L k) (i k : Nat) : 0 ≤ nth (liftTo es s i).L k := Int.le_trans (h k) (liftTo_mono es s k 0 i (Nat.zero_le _))
theorem rounds_pos {es : List Eg} {s : Lf} (h : ∀ k, 0 ≤ nth s.L k) (r k : Nat) : 0 ≤ nth (rounds es s r).L k := by
  induction r with
  | zero => exact h k
  | succ r ih => exact Int.le_trans ih (liftAll_mono es _ k)
theorem rounds_mono (es : List Eg) (s : Lf) (k : Nat) {q r : Nat} (h : q ≤ r) : nth (rounds es s q).L k ≤ nth (rounds es s r).L k := by
  induction r with
  | zero => obtain rfl : q = 0 := by omega
            exact Int.le_refl _
  | succ r ih =>
    by_cases e : q = r + 1
    · subst e; exact Int.le_refl _
    · exact Int.le_trans (ih (by omega)) (liftAll_mono es _ k)
theorem lift_big {es : List Eg} {N : Nat} (he : ∀ x ∈ es, x.more ≤ 100000) (hl : es.length ≤ 1300) {s : Lf} (hs : s.L = List.replicate N 0) {r i : Nat} (hr : r ≤ 500) (hi : i ≤ es.length) (k : Nat) :
    0 ≤ nth (liftTo es (rounds es s r) i).L k ∧ nth (liftTo es (rounds es s r) i).L k ≤ 100000000000 := by
  have h0 : ∀ k, nth s.L k = 0 := fun k => by rw [hs, nth_rep]
  have h1 : ∀ k, 0 ≤ nth (rounds es s r).L k := rounds_pos (fun k => by rw [h0]; omega) r
  have h2 := rounds_top he (s := s) (fun k => by rw [h0]; omega) r
  have h3 := liftTo_top he h2 i hi k
  have h4 : (r : Int) * (es.length * 100000) ≤ 500 * (1300 * 100000) := Int.mul_le_mul (by omega) (by omega) (by omega) (by omega)
  exact ⟨liftTo_pos h1 i k, by omega⟩

/-! a point that was lifted -/
/-- what is noted: each point but the first one has an edge that leads to it, and is at most as high as that edge makes it; so has the first one, where it was lifted -/
def Noted (es : List Eg) (n : Nat) (s : Lf) : Prop := ∀ v, v < n → (v = 0 ∧ nth s.L 0 = 0) ∨ ∃ i, i < es.length ∧ nth s.B v = (i : Int) ∧ (egAt es i).to = v ∧ nth s.L v ≤ nth s.L (egAt es i).fr + (egAt es i).more
theorem lfStep_noted {es : List Eg} {n i : Nat} {s : Lf} (hi : i < es.length) (hto : (egAt es i).to < n) (hL : s.L.length = n) (hB : s.B.length = n) (h : Noted es n s) : Noted es n (lfStep (egAt es i) i s) := by
  intro v hv
  by_cases hc : nth s.L (egAt es i).to < nth s.L (egAt es i).fr + (egAt es i).more
  · have e : lfStep (egAt es i) i s = ⟨s.L.set (egAt es i).to (nth s.L (egAt es i).fr + (egAt es i).more), s.B.set (egAt es i).to (i : Int), ((egAt es i).to : Int)⟩ := by unfold lfStep; rw [if_pos hc]
    have hm := lfStep_mono (egAt es i) i s
    rw [e] at hm ⊢
    dsimp only at hm ⊢
    by_cases hv2 : (egAt es i).to = v
    · right
      refine ⟨i, hi, by rw [nth_set, if_pos ⟨hv2, by omega⟩], hv2, ?_⟩
      have := hm (egAt es i).fr
      rw [nth_set, if_pos ⟨hv2, by omega⟩]
      omega
    · rcases h v hv with ⟨h1, h2⟩ | ⟨j, h1, h2, h3, h4⟩
      · left
        exact ⟨h1, by rw [nth_set, if_neg (by omega)]; exact h2⟩
      · right
        refine ⟨j, h1, by rw [nth_set, if_neg (by omega)]; exact h2, h3, ?_⟩
        have := hm (egAt es j).fr
        rw [nth_set, if_neg (by omega)]
        omega
  · have e : lfStep (egAt es i) i s = s := by unfold lfStep; rw [if_neg hc]
    rw [e]; exact h v hv
theorem liftTo_noted {es : List Eg} {n : Nat} {s : Lf} (hto : ∀ x ∈ es, x.fr < n ∧ x.to < n) (hL : s.L.length = n) (hB : s.B.length = n) (h : Noted es n s) (i : Nat) (hi : i ≤ es.length) : Noted es n (liftTo es s i) := by
  induction i with
  | zero => exact h
  | succ i ih =>
    have hl := liftTo_len es s i
    exact lfStep_noted (by omega) (hto _ (egAt_mem (by omega))).2 (by omega) (by omega) (ih (by omega))
theorem rounds_noted {es : List Eg} {n : Nat} {s : Lf} (hto : ∀ x ∈ es, x.fr < n ∧ x.to < n) (hL : s.L.length = n) (hB : s.B.length = n) (h : Noted es n s) (r : Nat) : Noted es n (rounds es s r) := by
  induction r with
  | zero => exact h
  | succ r ih =>
    have hl := rounds_len es s r
    exact liftTo_noted hto (by omega) (by omega) ih _ (Nat.le_refl _)
/-- the point ahead of one on its walk -/
def wb (es : List Eg) (B : List Int) (v : Nat) : Nat := (egAt es (nth B v).toNat).fr
def wbs (es : List Eg) (B : List Int) (v : Nat) : Nat → Nat
  | 0 => v
  | j + 1 => wb es B (wbs es B v j)
/-- a point that rose after some rounds was come to from one that rose after one round less -/
theorem rose_back {es : List Eg} {n : Nat} {s : Lf} (hto : ∀ x ∈ es, x.fr < n ∧ x.to < n) (hL : s.L = List.replicate n 0) (hB : s.B.length = n) (h : Noted es n s) {N q v : Nat} (hv : v < n) (hr : nth (rounds es s q).L v < nth (rounds es s N).L v) (hq : q ≤ N) :
    ∃ i, i < es.length ∧ nth (rounds es s N).B v = (i : Int) ∧ wb es (rounds es s N).B v = (egAt es i).fr ∧ (egAt es i).fr < n ∧ (1 ≤ q → nth (rounds es s (q - 1)).L (egAt es i).fr < nth (rounds es s N).L (egAt es i).fr) := by
  have h0 : ∀ k, nth s.L k = 0 := fun k => by rw [hL, nth_rep]
  have hp : 0 ≤ nth (rounds es s q).L v := rounds_pos (fun k => by rw [h0]; omega) q v
  have hLl : s.L.length = n := by rw [hL]; simp
  rcases rounds_noted hto hLl hB h N v hv with ⟨h1, h2⟩ | ⟨i, h1, h2, h3, h4⟩
  · subst h1; omega
  · have hfr := hto _ (egAt_mem h1)
    refine ⟨i, h1, h2, by unfold wb; rw [h2]; rfl, hfr.1, fun hq1 => ?_⟩
    have hg := liftAll_gain (rounds es s (q - 1)) (egAt_mem h1) (by rw [(rounds_len es s (q - 1)).1, hLl]; exact hfr.2)
    have e : liftAll es (rounds es s (q - 1)) = rounds es s q := by
      obtain ⟨m, rfl⟩ : ∃ m, q = m + 1 := ⟨q - 1, by omega⟩
      rfl
    rw [e, h3] at hg
    omega
theorem last_rose (es : List Eg) (s : Lf) (i : Nat) (hi : i ≤ es.length) {n : Nat} (hto : ∀ x ∈ es, x.fr < n ∧ x.to < n) (hL : s.L.length = n) (h : (liftTo es s i).last ≠ -1) :
    ∃ v, v < n ∧ (liftTo es s i).last = (v : Int) ∧ nth s.L v < nth (liftTo es s i).L v := by
  induction i with
  | zero => exact absurd rfl h
  | succ i ih =>
    have hx := hto _ (egAt_mem (es := es) (i := i) (by omega))
    have hl := (liftTo_len es s i).1
    by_cases hc : nth (liftTo es s i).L (egAt es i).to < nth (liftTo es s i).L (egAt es i).fr + (egAt es i).more
    · have e : liftTo es s (i + 1) = ⟨(liftTo es s i).L.set (egAt es i).to (nth (liftTo es s i).L (egAt es i).fr + (egAt es i).more), (liftTo es s i).B.set (egAt es i).to (i : Int), ((egAt es i).to : Int)⟩ := by
        show lfStep _ _ _ = _
        unfold lfStep; rw [if_pos hc]
      refine ⟨(egAt es i).to, hx.2, by rw [e], ?_⟩
      have := liftTo_mono es s (egAt es i).to 0 i (Nat.zero_le _)
      change nth s.L _ ≤ _ at this
      rw [e]
      dsimp only
      rw [nth_set, if_pos ⟨rfl, by omega⟩]
      omega
    · have e : liftTo es s (i + 1) = liftTo es s i := by
        show lfStep _ _ _ = _
        unfold lfStep; rw [if_neg hc]
      rw [e] at h ⊢
      exact ih (by omega) h

/-! whether some numbers keep all edges -/
def Feas (es : List Eg) (n : Nat) : Prop := ∃ p : Nat → Int, Keeps es p ∧ ∀ k, k < n → 0 ≤ p k
theorem quiet_feas {es : List Eg} {n : Nat} {s : Lf} (hL : s.L = List.replicate n 0) {r : Nat} (h : (rounds es s (r + 1)).last = -1) : Feas es n := by
  obtain ⟨h1, -, -⟩ := quiet_keeps es (rounds es s r) h
  exact ⟨_, h1, fun k _ => rounds_pos (fun k => by rw [hL, nth_rep]; omega) r k⟩
theorem feas_quiet {es : List Eg} {n : Nat} (hf : Feas es n) (hto : ∀ x ∈ es, x.fr < n ∧ x.to < n) {s : Lf} (hs : s.L = List.replicate n 0) (hn : 1 ≤ n) : (rounds es s n).last = -1 := by
  obtain ⟨p, h1, h2⟩ := hf
  exact rounds_settle h1 h2 hto hs hn
/-- the least numbers that keep all edges -/
def leastL (es : List Eg) (n : Nat) : List Int := (rounds es ⟨List.replicate n 0, List.replicate n 0, -1⟩ n).L
theorem leastL_len (es : List Eg) (n : Nat) : (leastL es n).length = n := by unfold leastL; rw [(rounds_len _ _ _).1]; simp
/-- where a round lifts nothing, the numbers are the least ones -/
theorem quiet_least {es : List Eg} {n : Nat} (hto : ∀ x ∈ es, x.fr < n ∧ x.to < n) {s : Lf} (hs : s.L = List.replicate n 0) (hn : 1 ≤ n) {r : Nat} (h : (rounds es s (r + 1)).last = -1) : (rounds es s (r + 1)).L = leastL es n := by
  have hf := feas_quiet (quiet_feas hs h) hto hs hn
  obtain ⟨m, rfl⟩ : ∃ m, n = m + 1 := ⟨n - 1, by omega⟩
  have key : ∀ a b, (rounds es s (a + 1)).last = -1 → (rounds es s (b + 1)).last = -1 → a ≤ b → (rounds es s (b + 1)).L = (rounds es s (a + 1)).L := fun a b ha _ hab => by
    have := rounds_stay (es := es) (s := s) (r := a) ha (b - a)
    rw [show a + 1 + (b - a) = b + 1 by omega] at this
    rw [this]
  have e : leastL es (m + 1) = (rounds es s (m + 1)).L := (rounds_indep es _ s hs.symm (m + 1)).1
  rw [e]
  by_cases hab : r ≤ m
  · exact (key r m h hf hab).symm
  · exact key m r hf h (by omega)
theorem least_keeps {es : List Eg} {n : Nat} (hf : Feas es n) (hto : ∀ x ∈ es, x.fr < n ∧ x.to < n) (hn : 1 ≤ n) : Keeps es (nth (leastL es n)) ∧ (∀ k, 0 ≤ nth (leastL es n) k) ∧ ∀ p, Keeps es p → (∀ k, k < n → 0 ≤ p k) → ∀ k, k < n → nth (leastL es n) k ≤ p k := by
  let s : Lf := ⟨List.replicate n 0, List.replicate n 0, -1⟩
  have hq := feas_quiet hf hto (s := s) rfl hn
  obtain ⟨m, rfl⟩ : ∃ m, n = m + 1 := ⟨n - 1, by omega⟩
  obtain ⟨h1, h2, -⟩ := quiet_keeps es (rounds es s m) hq
  have e : leastL es (m + 1) = (rounds es s m).L := h2
  refine ⟨by rw [e]; exact h1, fun k => ?_, fun p hp h0 k hk => ?_⟩
  · rw [e]; exact rounds_pos (s := s) (fun k => by show 0 ≤ nth (List.replicate (m + 1) 0) k; rw [nth_rep]; omega) m k
  · let q : Nat → Int := fun j => if j < m + 1 then p j else 0
    have hqk : Keeps es q := fun x hx => by
      have := hto x hx
      show (if x.fr < m + 1 then p x.fr else 0) + x.more ≤ if x.to < m + 1 then p x.to else 0
      rw [if_pos this.1, if_pos this.2]; exact hp x hx
    have := rounds_below hqk (s := s) (fun j => by
      show nth (List.replicate (m + 1) 0) j ≤ if j < m + 1 then p j else 0
      rw [nth_rep]; split
      · exact h0 j (by assumption)
      · exact Int.le_refl _) m k
    change nth (rounds es s m).L k ≤ if k < m + 1 then p k else 0 at this
    rw [if_pos hk] at this
    rw [e]; exact this

end Go.Proofs.Ytfafjojoapcliaa

/- Longest walks: if some numbers keep all edges, then rounds as many as there are points come to the least ones. -/
import Derived.Test.YtfafjojoapcliaaQM1
namespace Go.Proofs.Ytfafjojoapcliaa

/-- the point to is at least more above the point fr -/
structure Eg where
  fr : Nat
  to : Nat
  more : Int
  cell : Int
  high : Bool
def e0 : Eg := ⟨0, 0, 0, -1, false⟩
def egAt (es : List Eg) (i : Nat) : Eg := es.getD i e0
theorem egAt_mem {es : List Eg} {i : Nat} (h : i < es.length) : egAt es i ∈ es := by
  unfold egAt
  rw [List.getD_eq_getElem?_getD, List.getElem?_eq_getElem h]
  exact List.getElem_mem h
theorem mem_egAt {es : List Eg} {x : Eg} (h : x ∈ es) : ∃ i, i < es.length ∧ egAt es i = x := by
  obtain ⟨i, hi, rfl⟩ := List.getElem_of_mem h
  exact ⟨i, hi, by unfold egAt; rw [List.getD_eq_getElem?_getD, List.getElem?_eq_getElem hi]; rfl⟩

/-- the numbers, the edges by which they are come to, and the last point that was lifted -/
structure Lf where
  L : List Int
  B : List Int
  last : Int
def lfStep (x : Eg) (i : Nat) (s : Lf) : Lf :=
  if nth s.L x.to < nth s.L x.fr + x.more then ⟨s.L.set x.to (nth s.L x.fr + x.more), s.B.set x.to (i : Int), (x.to : Int)⟩ else s
def liftTo (es : List Eg) (s : Lf) : Nat → Lf
  | 0 => ⟨s.L, s.B, -1⟩
  | i + 1 => lfStep (egAt es i) i (liftTo es s i)
def liftAll (es : List Eg) (s : Lf) : Lf := liftTo es s es.length
def rounds (es : List Eg) (s : Lf) : Nat → Lf
  | 0 => s
  | r + 1 => liftAll es (rounds es s r)

/-- numbers keep all edges -/
def Keeps (es : List Eg) (p : Nat → Int) : Prop := ∀ x ∈ es, p x.fr + x.more ≤ p x.to

theorem lfStep_len (x : Eg) (i : Nat) (s : Lf) : (lfStep x i s).L.length = s.L.length ∧ (lfStep x i s).B.length = s.B.length := by
  unfold lfStep; split <;> simp
theorem liftTo_len (es : List Eg) (s : Lf) (i : Nat) : (liftTo es s i).L.length = s.L.length ∧ (liftTo es s i).B.length = s.B.length := by
  induction i with
  | zero => exact ⟨rfl, rfl⟩
  | succ i ih =>
    have := lfStep_len (egAt es i) i (liftTo es s i)
    exact ⟨this.1.trans ih.1, this.2.trans ih.2⟩
theorem rounds_len (es : List Eg) (s : Lf) (r : Nat) : (rounds es s r).L.length = s.L.length ∧ (rounds es s r).B.length = s.B.length := by
  induction r with
  | zero => exact ⟨rfl, rfl⟩
  | succ r ih =>
    have := liftTo_len es (rounds es s r) es.length
    exact ⟨this.1.trans ih.1, this.2.trans ih.2⟩

theorem lfStep_mono (x : Eg) (i : Nat) (s : Lf) (k : Nat) : nth s.L k ≤ nth (lfStep x i s).L k := by
  unfold lfStep
  split
  · dsimp only
    rw [nth_set]
    split
    · rename_i h1 h2; rw [← h2.1]; omega
    · exact Int.le_refl _
  · exact Int.le_refl _
theorem liftTo_mono (es : List Eg) (s : Lf) (k : Nat) (i j : Nat) (h : i ≤ j) : nth (liftTo es s i).L k ≤ nth (liftTo es s j).L k := by
  induction j with
  | zero => obtain rfl : i = 0 := by omega
            exact Int.le_refl _
  | succ j ih =>
    by_cases e : i = j + 1
    · subst e; exact Int.le_refl _
    · exact Int.le_trans (ih (by omega)) (lfStep_mono _ _ _ _)
theorem liftAll_mono (es : List Eg) (s : Lf) (k : Nat) : nth s.L k ≤ nth (liftAll es s).L k := liftTo_mono es s k 0 es.length (Nat.zero_le _)

theorem lfStep_below {x : Eg} {p : Nat → Int} (i : Nat) {s : Lf} (hx : p x.fr + x.more ≤ p x.to) (h : ∀ k, nth s.L k ≤ p k) (k : Nat) : nth (lfStep x i s).L k ≤ p k := by
  unfold lfStep
  split
  · dsimp only
    rw [nth_set]
    split
    · rename_i h1 h2
      have := h x.fr
      rw [← h2.1]; omega
    · exact h k
  · exact h k
theorem liftTo_below {es : List Eg} {p : Nat → Int} (hp : Keeps es p) {s : Lf} (h : ∀ k, nth s.L k ≤ p k) (i : Nat) (hi : i ≤ es.length) : ∀ k, nth (liftTo es s i).L k ≤ p k := by
  induction i with
  | zero => exact h
  | succ i ih => exact lfStep_below i (hp _ (egAt_mem (by omega))) (ih (by omega))
theorem rounds_below {es : List Eg} {p : Nat → Int} (hp : Keeps es p) {s : Lf} (h : ∀ k, nth s.L k ≤ p k) (r : Nat) : ∀ k, nth (rounds es s r).L k ≤ p k := by
  induction r with
  | zero => exact h
  | succ r ih => exact liftTo_below hp ih _ (Nat.le_refl _)

theorem lfStep_gain (x : Eg) (i : Nat) (s : Lf) (h : x.to < s.L.length) : nth s.L x.fr + x.more ≤ nth (lfStep x i s).L x.to := by
  unfold lfStep
  split
  · dsimp only
    rw [nth_set, if_pos ⟨rfl, h⟩]; exact Int.le_refl _
  · omega
theorem liftAll_gain {es : List Eg} (s : Lf) {x : Eg} (hx : x ∈ es) (h : x.to < s.L.length) : nth s.L x.fr + x.more ≤ nth (liftAll es s).L x.to := by
  obtain ⟨i, hi, rfl⟩ := mem_egAt hx
  have h1 := liftTo_mono es s (egAt es i).fr 0 i (Nat.zero_le _)
  have h2 := lfStep_gain (egAt es i) i (liftTo es s i) (by rw [(liftTo_len es s i).1]; exact h)
  have h3 := liftTo_mono es s (egAt es i).to (i + 1) es.length hi
  change _ ≤ nth (liftTo es s (i + 1)).L _ at h2
  change nth s.L _ ≤ _ at h1
  exact Int.le_trans (by omega) h3

theorem lfStep_last (x : Eg) (i : Nat) (s : Lf) (h : (lfStep x i s).last = -1) : lfStep x i s = s ∧ nth s.L x.fr + x.more ≤ nth s.L x.to := by
  unfold lfStep at h ⊢
  split
  · rename_i h1; rw [if_pos h1] at h; dsimp only at h; omega
  · exact ⟨rfl, by omega⟩
/-- a round that lifts nothing: all edges are kept -/
theorem liftTo_quiet (es : List Eg) (s : Lf) (i : Nat) (h : (liftTo es s i).last = -1) : (liftTo es s i).L = s.L ∧ (liftTo es s i).B = s.B ∧ ∀ j, j < i → nth s.L (egAt es j).fr + (egAt es j).more ≤ nth s.L (egAt es j).to := by
  induction i with
  | zero => exact ⟨rfl, rfl, fun j hj => absurd hj (Nat.not_lt_zero _)⟩
  | succ i ih =>
    obtain ⟨h1, h2⟩ := lfStep_last _ _ _ (show (lfStep (egAt es i) i (liftTo es s i)).last = -1 from h)
    obtain ⟨h3, h4, h5⟩ := ih (by rw [← h1]; exact h)
    refine ⟨(congrArg Lf.L h1).trans h3, (congrArg Lf.B h1).trans h4, fun j hj => ?_⟩
    by_cases e : j = i
    · subst e; rw [h3] at h2; exact h2
    · exact h5 j (by omega)
theorem quiet_keeps (es : List Eg) (s : Lf) (h : (liftAll es s).last = -1) : Keeps es (nth s.L) ∧ (liftAll es s).L = s.L ∧ (liftAll es s).B = s.B := by
  obtain ⟨h1, h2, h3⟩ := liftTo_quiet es s es.length h
  refine ⟨fun x hx => ?_, h1, h2⟩
  obtain ⟨i, hi, rfl⟩ := mem_egAt hx
  exact h3 i hi
/-- where all edges are kept, a round lifts nothing -/
theorem keeps_quiet {es : List Eg} {s : Lf} (h : Keeps es (nth s.L)) : (liftAll es s).last = -1 := by
  have key : ∀ i, i ≤ es.length → liftTo es s i = ⟨s.L, s.B, -1⟩ := by
    intro i hi
    induction i with
    | zero => rfl
    | succ i ih =>
      have h1 := h _ (egAt_mem (es := es) (i := i) (by omega))
      rw [liftTo, ih (by omega), lfStep, if_neg (by dsimp only; omega)]
  unfold liftAll
  rw [key _ (Nat.le_refl _)]

/-! counts and sums -/
def cnt (f : Nat → Bool) : Nat → Nat
  | 0 => 0
  | n + 1 => cnt f n + if f n = true then 1 else 0
theorem cnt_top (f : Nat → Bool) (n : Nat) : cnt f n ≤ n := by
  induction n with
  | zero => exact Nat.le_refl _
  | succ n ih => rw [cnt]; split <;> omega
theorem cnt_le {f g : Nat → Bool} {n : Nat} (h : ∀ k, k < n → f k = true → g k = true) : cnt f n ≤ cnt g n := by
  induction n with
  | zero => exact Nat.le_refl _
  | succ n ih =>
    have h1 := ih (fun k hk => h k (by omega))
    have h2 := h n (by omega)
    rw [cnt, cnt]
    cases hf : f n
    · simp; omega
    · rw [h2 hf]; simp; omega
theorem cnt_lt {f g : Nat → Bool} {n k : Nat} (h : ∀ k, k < n → f k = true → g k = true) (hk : k < n) (hg : g k = true) (hf : f k = false) : cnt f n + 1 ≤ cnt g n := by
  induction n with
  | zero => omega
  | succ n ih =>
    have h2 := h n (by omega)
    rw [cnt, cnt]
    by_cases e : k = n
    · subst e
      have h1 := cnt_le (f := f) (g := g) (n := k) (fun j hj => h j (by omega))
      rw [hf, hg]; simp; omega
    · have h1 := ih (fun j hj => h j (by omega)) (by omega)
      cases hfn : f n
      · simp; omega
      · rw [h2 hfn]; simp; omega
theorem cnt_full {f : Nat → Bool} {n : Nat} (h : n ≤ cnt f n) : ∀ k, k < n → f k = true := by
  induction n with
  | zero => intro k hk; omega
  | succ n ih =>
    intro k hk
    have h1 := cnt_top f n
    rw [cnt] at h
    cases hf : f n
    · rw [hf] at h; simp at h; omega
    · by_cases e : k = n
      · subst e; exact hf
      · rw [hf] at h; simp at h
        exact ih (by omega) k (by omega)
def sm (D : Nat → Int) : Nat → Int
  | 0 => 0
  | n + 1 => sm D n + D n
theorem sm_nonneg {D : Nat → Int} {n : Nat} (h : ∀ k, k < n → 0 ≤ D k) : 0 ≤ sm D n := by
  induction n with
  | zero => exact Int.le_refl _
  | succ n ih =>
    have := ih (fun k hk => h k (by omega))
    have := h n (by omega)
    rw [sm]; omega
theorem sm_le {D E : Nat → Int} {n : Nat} (h : ∀ k, k < n → D k ≤ E k) : sm D n ≤ sm E n := by
  induction n with
  | zero => exact Int.le_refl _
  | succ n ih =>
    have := ih (fun k hk => h k (by omega))
    have := h n (by omega)
    rw [sm, sm]; omega
theorem sm_lt {D E : Nat → Int} {n k : Nat} (h : ∀ k, k < n → D k ≤ E k) (hk : k < n) (hs : D k < E k) : sm D n < sm E n := by
  induction n with
  | zero => omega
  | succ n ih =>
    have h2 := h n (by omega)
    rw [sm, sm]
    by_cases e : k = n
    · subst e
      have := sm_le (D := D) (E := E) (n := k) (fun j hj => h j (by omega))
      omega
    · have := ih (fun j hj => h j (by omega)) (by omega)
      omega

/-- numbers that keep all edges, from 0 on, with the least sum -/
structure Min (es : List Eg) (n : Nat) (D : Nat → Int) : Prop where
  keeps : Keeps es D
  pos : ∀ k, k < n → 0 ≤ D k
  least : ∀ E, Keeps es E → (∀ k, k < n → 0 ≤ E k) → sm D n ≤ sm E n
theorem min_of {es : List Eg} {n : Nat} {p : Nat → Int} (hp : Keeps es p) (h0 : ∀ k, k < n → 0 ≤ p k) : ∃ D, Min es n D := by
  generalize hm : (sm p n).toNat = m
  induction m using Nat.strongRecOn generalizing p with
  | _ m ih =>
    by_cases h : ∀ E, Keeps es E → (∀ k, k < n → 0 ≤ E k) → sm p n ≤ sm E n
    · exact ⟨p, hp, h0, h⟩
    · simp only [Classical.not_forall] at h
      obtain ⟨E, h1, h2, h3⟩ := h
      have := sm_nonneg h2
      have := sm_nonneg h0
      exact ih (sm E n).toNat (by omega) h1 h2 rfl
/-- where a number is not yet as great as it must be, an edge leads from one that is to one that is not, and it is as long as it can be -/
theorem min_tight {es : List Eg} {n : Nat} {D : Nat → Int} (hD : Min es n D) (hto : ∀ x ∈ es, x.fr < n ∧ x.to < n) {l : List Int} (hl : ∀ k, k < n → 0 ≤ nth l k ∧ nth l k ≤ D k) {k : Nat} (hk : k < n) (hlt : nth l k < D k) :
    ∃ x ∈ es, nth l x.fr = D x.fr ∧ nth l x.to < D x.to ∧ D x.fr + x.more = D x.to := by
  apply Classical.byContradiction
  intro hno
  have hno' : ∀ x ∈ es, nth l x.fr = D x.fr → nth l x.to < D x.to → D x.fr + x.more ≠ D x.to := fun x hx h1 h2 h3 => hno ⟨x, hx, h1, h2, h3⟩
  let E : Nat → Int := fun j => if nth l j < D j then D j - 1 else D j
  have hE : ∀ j, E j = if nth l j < D j then D j - 1 else D j := fun _ => rfl
  have h1 : Keeps es E := by
    intro x hx
    have h2 := hD.keeps x hx
    have h3 := hto x hx
    have h4 := hl x.fr h3.1
    have h5 := hno' x hx
    rw [hE, hE]
    by_cases a : nth l x.fr < D x.fr
    · rw [if_pos a]
      by_cases b : nth l x.to < D x.to
      · rw [if_pos b]; omega
      · rw [if_neg b]; omega
    · rw [if_neg a]
      by_cases b : nth l x.to < D x.to
      · rw [if_pos b]
        have := h5 (by omega) b
        omega
      · rw [if_neg b]; omega
  have h2 : ∀ j, j < n → 0 ≤ E j := by
    intro j hj
    have h3 := hl j hj
    have h4 := hD.pos j hj
    rw [hE]
    by_cases a : nth l j < D j
    · rw [if_pos a]; omega
    · rw [if_neg a]; omega
  have h3 : sm E n < sm D n := by
    refine sm_lt (fun j hj => ?_) hk ?_
    · rw [hE]; split <;> omega
    · rw [hE, if_pos hlt]; omega
  have := hD.least E h1 h2
  omega

/-- the rounds come to the least numbers in time -/
theorem rounds_settle {es : List Eg} {n : Nat} {p : Nat → Int} (hp : Keeps es p) (h0 : ∀ k, k < n → 0 ≤ p k) (hto : ∀ x ∈ es, x.fr < n ∧ x.to < n) {s : Lf} (hs : s.L = List.replicate n 0) (hn : 1 ≤ n) :
    (rounds es s n).last = -1 := by
  obtain ⟨D, hD⟩ := min_of hp h0
  have hbel : ∀ r k, k < n → nth (rounds es s r).L k ≤ D k := by
    intro r k hk
    let q : Nat → Int := fun j => if j < n then D j else 0
    have hq : Keeps es q := by
      intro x hx
      have h1 := hto x hx
      show (if x.fr < n then D x.fr else 0) + x.more ≤ if x.to < n then D x.to else 0
      rw [if_pos h1.1, if_pos h1.2]
      exact hD.keeps x hx
    have := rounds_below hq (s := s) (fun j => ?_) r k
    · change _ ≤ (if k < n then D k else 0) at this
      rwa [if_pos hk] at this
    · rw [hs, nth_rep]
      show 0 ≤ if j < n then D j else 0
      split
      · exact hD.pos _ (by assumption)
      · exact Int.le_refl _
  have hpos : ∀ r k, 0 ≤ nth (rounds es s r).L k := by
    intro r k
    induction r with
    | zero => rw [rounds, hs, nth_rep]; exact Int.le_refl _
    | succ r ih => exact Int.le_trans ih (liftAll_mono es _ k)
  let S : Nat → Nat → Bool := fun r k => decide (nth (rounds es s r).L k = D k)
  have hS : ∀ r k, S r k = true ↔ nth (rounds es s r).L k = D k := fun r k => by show decide _ = true ↔ _; simp
  have hstay : ∀ r k, k < n → S r k = true → S (r + 1) k = true := by
    intro r k hk h
    rw [hS] at h ⊢
    have h1 := liftAll_mono es (rounds es s r) k
    have h2 := hbel (r + 1) k hk
    change nth _ k ≤ nth (rounds es s (r + 1)).L k at h1
    omega
  have hgo : ∀ r, (∃ k, k < n ∧ S r k = false) → ∃ k, k < n ∧ S r k = false ∧ S (r + 1) k = true ∧ ∃ j, j < n ∧ S r j = true := by
    intro r ⟨k, hk, hf⟩
    have h1 : nth (rounds es s r).L k < D k := by
      have h2 := hbel r k hk
      have h3 : ¬ nth (rounds es s r).L k = D k := fun e => by rw [(hS r k).2 e] at hf; cases hf
      omega
    obtain ⟨x, hx, e1, e2, e3⟩ := min_tight hD hto (l := (rounds es s r).L) (fun j hj => ⟨hpos r j, hbel r j hj⟩) hk h1
    have h2 := hto x hx
    refine ⟨x.to, h2.2, ?_, ?_, x.fr, h2.1, (hS _ _).2 e1⟩
    · cases hb : S r x.to
      · rfl
      · rw [hS] at hb; omega
    · rw [hS]
      have h3 := liftAll_gain (rounds es s r) hx (by rw [(rounds_len es s r).1, hs, List.length_replicate]; exact h2.2)
      change _ ≤ nth (rounds es s (r + 1)).L x.to at h3
      have h4 := hbel (r + 1) x.to h2.2
      omega
  have hcnt : ∀ r, min n (r + 1) ≤ cnt (S r) n := by
    intro r
    induction r with
    | zero =>
      by_cases h : ∃ k, k < n ∧ S 0 k = false
      · obtain ⟨k, hk, hf, -, j, hj, hjs⟩ := hgo 0 h
        have h1 := cnt_lt (f := fun _ => false) (g := S 0) (n := n) (k := j) (fun _ _ h => by cases h) hj hjs rfl
        omega
      · have h1 : ∀ k, k < n → S 0 k = true := fun k hk => by
          cases hb : S 0 k
          · exact absurd ⟨k, hk, hb⟩ h
          · rfl
        have h2 := cnt_lt (f := fun _ => false) (g := S 0) (n := n) (k := 0) (fun _ _ h => by cases h) (by omega) (h1 0 (by omega)) rfl
        omega
    | succ r ih =>
      have h0 := cnt_le (f := S r) (g := S (r + 1)) (n := n) (hstay r)
      by_cases h : ∃ k, k < n ∧ S r k = false
      · obtain ⟨k, hk, hf, hg, -⟩ := hgo r h
        have h1 := cnt_lt (f := S r) (g := S (r + 1)) (n := n) (k := k) (hstay r) hk hg hf
        omega
      · have h1 : ∀ k, k < n → (fun _ => true) k = true → S r k = true := fun k hk _ => by
          cases hb : S r k
          · exact absurd ⟨k, hk, hb⟩ h
          · rfl
        have h2 := cnt_le (f := fun _ => true) (g := S r) (n := n) h1
        have h3 : ∀ m, cnt (fun _ => true) m = m := fun m => by
          induction m with
          | zero => rfl
          | succ m ih => rw [cnt, ih]; rfl
        rw [h3] at h2
        omega
  have hall : ∀ k, k < n → nth (rounds es s (n - 1)).L k = D k := fun k hk => (hS _ _).1 (cnt_full (by have := hcnt (n - 1); omega) k hk)
  have hk : Keeps es (nth (rounds es s (n - 1)).L) := by
    intro x hx
    have h1 := hto x hx
    rw [hall _ h1.1, hall _ h1.2]
    exact hD.keeps x hx
  have := keeps_quiet hk
  obtain ⟨m, rfl⟩ : ∃ m, n = m + 1 := ⟨n - 1, by omega⟩
  exact this

/-- once a round has lifted nothing, none does any more -/
theorem rounds_stay {es : List Eg} {s : Lf} {r : Nat} (h : (liftAll es (rounds es s r)).last = -1) (q : Nat) : rounds es s (r + 1 + q) = rounds es s (r + 1) := by
  obtain ⟨h1, h2, h3⟩ := quiet_keeps es _ h
  have hfix : ∀ t : Lf, t.L = (rounds es s r).L → t.B = (rounds es s r).B → liftAll es t = ⟨(rounds es s r).L, (rounds es s r).B, -1⟩ := by
    intro t e1 e2
    have hk : Keeps es (nth t.L) := by rw [e1]; exact h1
    have h4 := keeps_quiet hk
    obtain ⟨-, h5, h6⟩ := quiet_keeps es t h4
    cases hL : liftAll es t
    rw [hL] at h4 h5 h6
    dsimp only at h4 h5 h6
    rw [h4, h5, h6, e1, e2]
  have base : rounds es s (r + 1) = ⟨(rounds es s r).L, (rounds es s r).B, -1⟩ := hfix _ rfl rfl
  induction q with
  | zero => rfl
  | succ q ih =>
    show liftAll es (rounds es s (r + 1 + q)) = _
    rw [ih, hfix _ (by rw [base]) (by rw [base]), base]

end Go.Proofs.Ytfafjojoapcliaa

/- Where points are lifted without end, the way back comes to a ring, and each ring of noted edges pays: mathematics alone. -/
import Derived.Test.YtfafjojoapcliaaS10
import Derived.Test.YtfafjojoapcliaaR5
namespace Go.Proofs.Ytfafjojoapcliaa

/-- a way back, each point of it with an edge that is noted there and leads to it -/
def Way (es : List Eg) (B : List Int) (v j : Nat) : Prop := ∀ k, k < j → ∃ i, i < es.length ∧ nth B (wbs es B v k) = (i : Int) ∧ (egAt es i).to = wbs es B v k
/-- a point is at most as high as the edge makes it that is noted there -/
def NI (es : List Eg) (s : Lf) : Prop := ∀ v i, i < es.length → nth s.B v = (i : Int) → (egAt es i).to = v → nth s.L v ≤ nth s.L (egAt es i).fr + (egAt es i).more
/-- each ring pays -/
def RP (es : List Eg) (B : List Int) : Prop := ∀ v j, 1 ≤ j → wbs es B v j = v → (∀ k, 1 ≤ k → k < j → wbs es B v k ≠ v) → Way es B v j → 0 < moreTo es B v j
theorem moreTo_add (es : List Eg) (B : List Int) (v a b : Nat) : moreTo es B v (a + b) = moreTo es B v a + moreTo es B (wbs es B v a) b := by
  induction b with
  | zero => simp [moreTo]
  | succ b ih =>
    show moreTo es B v (a + b) + (ntE es B (wbs es B v (a + b))).more = moreTo es B v a + (moreTo es B (wbs es B v a) b + (ntE es B (wbs es B (wbs es B v a) b)).more)
    rw [ih, wbs_add]; omega
theorem ring_inj {es : List Eg} {B : List Int} {v j : Nat} (hr : wbs es B v j = v) (hm : ∀ k, 1 ≤ k → k < j → wbs es B v k ≠ v) : ∀ a b, a < b → b < j → wbs es B v a ≠ wbs es B v b := by
  intro a b hab hbj e
  have e2 : wbs es B v (a + (j - b)) = wbs es B v (b + (j - b)) := by rw [wbs_add, wbs_add, e]
  rw [show b + (j - b) = j by omega, hr] at e2
  exact hm (a + (j - b)) (by omega) (by omega) e2
theorem ring_period {es : List Eg} {B : List Int} {v j : Nat} (hr : wbs es B v j = v) (k : Nat) : wbs es B v (j + k) = wbs es B v k := by rw [wbs_add, hr]
theorem way_next {es : List Eg} {B : List Int} {v k i : Nat} (h : nth B (wbs es B v k) = (i : Int)) : wbs es B v (k + 1) = (egAt es i).fr ∧ ntE es B (wbs es B v k) = egAt es i := by
  refine ⟨?_, by unfold ntE; rw [h]; rfl⟩
  show wb es B (wbs es B v k) = _
  unfold wb; rw [h]; rfl
theorem way_sum {es : List Eg} {s : Lf} (hn : NI es s) {v j : Nat} (hw : Way es s.B v j) : nth s.L v ≤ nth s.L (wbs es s.B v j) + moreTo es s.B v j := by
  induction j with
  | zero => show nth s.L v ≤ nth s.L v + 0; omega
  | succ j ih =>
    have h1 := ih (fun k hk => hw k (by omega))
    obtain ⟨i, hi, hB, hto⟩ := hw j (by omega)
    have h2 := hn _ i hi hB hto
    obtain ⟨h3, h4⟩ := way_next hB
    rw [moreTo, h3, h4]
    omega
/-- a chain that does not come to a point did not mind what was noted there -/
theorem wbs_set' {es : List Eg} {B : List Int} {to i v j : Nat} (h : ∀ k, k < j → wbs es (B.set to (i : Int)) v k ≠ to) : ∀ k, k ≤ j → wbs es (B.set to (i : Int)) v k = wbs es B v k := by
  intro k
  induction k with
  | zero => intro _; rfl
  | succ k ih =>
    intro hk
    have h1 := h k (by omega)
    show wb es (B.set to (i : Int)) (wbs es (B.set to (i : Int)) v k) = wb es B (wbs es B v k)
    unfold wb
    rw [nth_set, if_neg (fun e => h1 e.1.symm), ih (by omega)]
theorem moreTo_set {es : List Eg} {B : List Int} {to i v j : Nat} (h : ∀ k, k < j → wbs es (B.set to (i : Int)) v k ≠ to) : moreTo es (B.set to (i : Int)) v j = moreTo es B v j := by
  induction j with
  | zero => rfl
  | succ j ih =>
    have h1 := h j (by omega)
    have e : ntE es (B.set to (i : Int)) (wbs es (B.set to (i : Int)) v j) = ntE es B (wbs es B v j) := by
      unfold ntE
      rw [nth_set, if_neg (fun e => h1 e.1.symm), wbs_set' (fun k hk => h k (by omega)) j (Nat.le_refl _)]
    rw [moreTo, moreTo, ih (fun k hk => h k (by omega)), e]
theorem way_set {es : List Eg} {B : List Int} {to i v j : Nat} (h : ∀ k, k < j → wbs es (B.set to (i : Int)) v k ≠ to) (hw : Way es (B.set to (i : Int)) v j) : Way es B v j := by
  intro k hk
  obtain ⟨q, h1, h2, h3⟩ := hw k hk
  have h4 := h k hk
  rw [nth_set, if_neg (fun e => h4 e.1.symm)] at h2
  rw [wbs_set' (fun k hk => h k hk) k (by omega)] at h2 h3
  exact ⟨q, h1, h2, h3⟩
theorem step_NI {es : List Eg} {i : Nat} {s : Lf} (hi : i < es.length) (hL : (egAt es i).to < s.L.length) (hB : (egAt es i).to < s.B.length) (h : NI es s) : NI es (lfStep (egAt es i) i s) := by
  by_cases hc : nth s.L (egAt es i).to < nth s.L (egAt es i).fr + (egAt es i).more
  · have hm := lfStep_mono (egAt es i) i s
    have e : lfStep (egAt es i) i s = ⟨s.L.set (egAt es i).to (nth s.L (egAt es i).fr + (egAt es i).more), s.B.set (egAt es i).to (i : Int), ((egAt es i).to : Int)⟩ := by unfold lfStep; rw [if_pos hc]
    rw [e] at hm ⊢
    intro v q hq h1 h2
    dsimp only at h1 hm ⊢
    by_cases hv : (egAt es i).to = v
    · rw [nth_set, if_pos ⟨hv, by omega⟩] at h1
      obtain rfl : i = q := by omega
      have h3 := hm (egAt es i).fr
      rw [nth_set, if_pos ⟨hv, by omega⟩]
      omega
    · rw [nth_set, if_neg (fun e => hv e.1)] at h1
      have h3 := h v q hq h1 h2
      have h4 := hm (egAt es q).fr
      rw [nth_set, if_neg (fun e => hv e.1)]
      omega
  · have e : lfStep (egAt es i) i s = s := by unfold lfStep; rw [if_neg hc]
    rw [e]; exact h
theorem step_RP {es : List Eg} {i : Nat} {s : Lf} (hB : (egAt es i).to < s.B.length) (hn : NI es s) (hr : RP es s.B) : RP es (lfStep (egAt es i) i s).B := by
  by_cases hc : nth s.L (egAt es i).to < nth s.L (egAt es i).fr + (egAt es i).more
  case neg =>
    have e : lfStep (egAt es i) i s = s := by unfold lfStep; rw [if_neg hc]
    rw [e]; exact hr
  have e : (lfStep (egAt es i) i s).B = s.B.set (egAt es i).to (i : Int) := by unfold lfStep; rw [if_pos hc]
  rw [e]
  clear e
  intro v j h1 hring hmin hway
  have hinj := ring_inj hring hmin
  by_cases hx : ∃ k, k < j ∧ wbs es (s.B.set (egAt es i).to (i : Int)) v k = (egAt es i).to
  case neg =>
    have hno : ∀ k, k < j → wbs es (s.B.set (egAt es i).to (i : Int)) v k ≠ (egAt es i).to := fun k hk e => hx ⟨k, hk, e⟩
    rw [moreTo_set hno]
    refine hr v j h1 ?_ (fun k hk hkj => ?_) (way_set hno hway)
    · rw [← wbs_set' hno j (Nat.le_refl _)]; exact hring
    · rw [← wbs_set' hno k (by omega)]; exact hmin k hk hkj
  obtain ⟨k0, hk0, hto⟩ := hx
  have hnb : nth (s.B.set (egAt es i).to (i : Int)) (egAt es i).to = (i : Int) := by rw [nth_set, if_pos ⟨rfl, hB⟩]
  have hne : ∀ k, 1 ≤ k → k < j → wbs es (s.B.set (egAt es i).to (i : Int)) v (k0 + k) ≠ (egAt es i).to := by
    intro k hk hkj e
    replace e := e.trans hto.symm
    rcases Nat.lt_or_ge (k0 + k) j with h | h
    · exact hinj k0 (k0 + k) (by omega) h e.symm
    · have e2 : wbs es (s.B.set (egAt es i).to (i : Int)) v (k0 + k) = wbs es (s.B.set (egAt es i).to (i : Int)) v (k0 + k - j) := by
        have := ring_period hring (k0 + k - j)
        rwa [show j + (k0 + k - j) = k0 + k by omega] at this
      rw [e2] at e
      exact hinj (k0 + k - j) k0 (by omega) hk0 e
  have hw2 : ∀ k, ∃ q, q < es.length ∧ nth (s.B.set (egAt es i).to (i : Int)) (wbs es (s.B.set (egAt es i).to (i : Int)) v (k0 + k)) = (q : Int) ∧ (egAt es q).to = wbs es (s.B.set (egAt es i).to (i : Int)) v (k0 + k) ∨ j + j ≤ k0 + k := by
    intro k
    rcases Nat.lt_or_ge (k0 + k) j with h | h
    · obtain ⟨q, a, b, c⟩ := hway _ h
      exact ⟨q, .inl ⟨a, b, c⟩⟩
    · rcases Nat.lt_or_ge (k0 + k) (j + j) with h2 | h2
      · have e2 : wbs es (s.B.set (egAt es i).to (i : Int)) v (k0 + k) = wbs es (s.B.set (egAt es i).to (i : Int)) v (k0 + k - j) := by
          have := ring_period hring (k0 + k - j)
          rwa [show j + (k0 + k - j) = k0 + k by omega] at this
        obtain ⟨q, a, b, c⟩ := hway (k0 + k - j) (by omega)
        exact ⟨q, .inl ⟨a, by rw [e2]; exact b, by rw [e2]; exact c⟩⟩
      · exact ⟨0, .inr h2⟩
  generalize hB' : s.B.set (egAt es i).to (i : Int) = B' at *
  have hrot : moreTo es B' v j = moreTo es B' (egAt es i).to j := by
    have a1 := moreTo_add es B' v k0 (j - k0)
    rw [show k0 + (j - k0) = j by omega, hto] at a1
    have a2 := moreTo_add es B' (egAt es i).to (j - k0) k0
    have a3 : wbs es B' (egAt es i).to (j - k0) = v := by rw [← hto, ← wbs_add, show k0 + (j - k0) = j by omega]; exact hring
    rw [show j - k0 + k0 = j by omega, a3] at a2
    omega
  have hone : wbs es B' (egAt es i).to 1 = (egAt es i).fr ∧ moreTo es B' (egAt es i).to 1 = (egAt es i).more := by
    constructor
    · show wb es B' (egAt es i).to = _
      unfold wb; rw [hnb]; rfl
    · show (0 : Int) + (ntE es B' (egAt es i).to).more = _
      unfold ntE; rw [hnb]; simp
  have hall := moreTo_add es B' (egAt es i).to 1 (j - 1)
  rw [show 1 + (j - 1) = j by omega, hone.1, hone.2] at hall
  have hfr : ∀ k, wbs es B' (egAt es i).fr k = wbs es B' v (k0 + (1 + k)) := fun k => by rw [← hone.1, ← wbs_add, ← hto, ← wbs_add]
  have hno : ∀ k, k < j - 1 → wbs es B' (egAt es i).fr k ≠ (egAt es i).to := fun k hk => by rw [hfr]; exact hne (1 + k) (by omega) (by omega)
  have hwf : Way es B' (egAt es i).fr (j - 1) := fun k hk => by
    rw [hfr]
    obtain ⟨q, h | h⟩ := hw2 (1 + k)
    · exact ⟨q, h⟩
    · omega
  have hend : wbs es B' (egAt es i).fr (j - 1) = (egAt es i).to := by
    rw [hfr, show k0 + (1 + (j - 1)) = j + k0 by omega, ring_period hring, hto]
  rw [← hB'] at hno hwf hend hall hrot
  have hs := way_sum hn (way_set hno hwf)
  rw [← wbs_set' hno _ (Nat.le_refl _), hend] at hs
  rw [moreTo_set hno] at hall
  rw [hB'] at hall hrot
  omega
theorem liftTo_both {es : List Eg} {n : Nat} {s : Lf} (hto : ∀ x ∈ es, x.fr < n ∧ x.to < n) (hL : s.L.length = n) (hB : s.B.length = n) (h : NI es s ∧ RP es s.B) (i : Nat) (hi : i ≤ es.length) : NI es (liftTo es s i) ∧ RP es (liftTo es s i).B := by
  induction i with
  | zero => exact h
  | succ i ih =>
    have hl := liftTo_len es s i
    have hx := hto _ (egAt_mem (es := es) (i := i) (by omega))
    have h1 := ih (by omega)
    exact ⟨step_NI (by omega) (by omega) (by omega) h1.1, step_RP (by omega) h1.1 h1.2⟩
theorem rounds_both {es : List Eg} {n : Nat} {s : Lf} (hto : ∀ x ∈ es, x.fr < n ∧ x.to < n) (hL : s.L.length = n) (hB : s.B.length = n) (h : NI es s ∧ RP es s.B) (r : Nat) : NI es (rounds es s r) ∧ RP es (rounds es s r).B := by
  induction r with
  | zero => exact h
  | succ r ih =>
    have hl := rounds_len es s r
    exact liftTo_both hto (by omega) (by omega) ih _ (Nat.le_refl _)
theorem byTo_out {n k : Nat} (h : n ≤ k) : nth (byTo n n) k = 0 := by
  unfold nth
  rw [List.getD_eq_getElem?_getD, List.getElem?_eq_none (by rw [byTo_len]; exact h)]
  rfl
theorem lf0_both {t : Tk} (ht : taskB t = true) : NI (edT t) (lf0 (tM t + 1)) ∧ RP (edT t) (lf0 (tM t + 1)).B := by
  obtain ⟨a1, a2, a3, a4, a5, a6, a7, a8⟩ := task_parts ht
  have key : ∀ v i : Nat, nth (lf0 (tM t + 1)).B v = (i : Int) → i < tM t ∧ (v < tM t + 1 → v = i + 1) := by
    intro v i h
    rcases Nat.lt_or_ge v (tM t + 1) with hv | hv
    · have h2 : nth (byTo (tM t + 1) (tM t + 1)) v = (i : Int) := h
      rw [byTo_nth _ _ _ hv (Nat.le_refl _)] at h2
      exact ⟨by omega, fun _ => by omega⟩
    · have h2 : nth (byTo (tM t + 1) (tM t + 1)) v = (i : Int) := h
      rw [byTo_out hv] at h2
      exact ⟨by omega, fun h => by omega⟩
  constructor
  · intro v i _ h1 _
    rw [edT_rise (key v i h1).1]
    show nth (List.replicate (tM t + 1) 0) v ≤ nth (List.replicate (tM t + 1) 0) i + 0
    rw [nth_rep, nth_rep]; omega
  · intro v j h1 hring _ hway
    exfalso
    have hdown : ∀ k, k ≤ j → k ≤ v ∧ wbs (edT t) (lf0 (tM t + 1)).B v k = v - k := by
      intro k
      induction k with
      | zero => intro _; exact ⟨Nat.zero_le _, rfl⟩
      | succ k ih =>
        intro hk
        obtain ⟨e1, e2⟩ := ih (by omega)
        obtain ⟨i, hi, hb, hto⟩ := hway k (by omega)
        have hkey := key _ i hb
        have hnx := way_next hb
        rw [edT_rise hkey.1] at hto hnx
        dsimp only at hto
        rw [e2] at hto
        refine ⟨by omega, ?_⟩
        rw [hnx.1]
        show i = v - (k + 1)
        omega
    have h2 := hdown j (Nat.le_refl _)
    rw [hring] at h2
    omega
/-- what is paid around the ring to which the way back from a point comes that is lifted last of all -/
theorem never_ok {t : Tk} (ht : taskB t = true) {s : Lf} (hs : rounds (edT t) (lf0 (tM t + 1)) (tM t + 1) = s) {v0 : Nat} (hv0 : s.last = (v0 : Int)) :
    ∃ J, 1 ≤ J ∧ J ≤ tM t + 1 ∧ wbs (edT t) s.B (wbs (edT t) s.B v0 (tM t + 1)) J = wbs (edT t) s.B v0 (tM t + 1) ∧ (∀ k, 1 ≤ k → k < J → wbs (edT t) s.B (wbs (edT t) s.B v0 (tM t + 1)) k ≠ wbs (edT t) s.B v0 (tM t + 1)) ∧
      (∀ k, k < J → ∃ i, i < (edT t).length ∧ nth s.B (wbs (edT t) s.B (wbs (edT t) s.B v0 (tM t + 1)) k) = (i : Int) ∧ (egAt (edT t) i).to = wbs (edT t) s.B (wbs (edT t) s.B v0 (tM t + 1)) k ∧ (egAt (edT t) i).fr < tM t + 1 ∧ wbs (edT t) s.B (wbs (edT t) s.B v0 (tM t + 1)) k < tM t + 1) ∧
      xOk t.need.length (payTo (edT t) s.B t.need.length (wbs (edT t) s.B v0 (tM t + 1)) J).1 (payTo (edT t) s.B t.need.length (wbs (edT t) s.B v0 (tM t + 1)) J).2 = true ∧
      gainTo (payTo (edT t) s.B t.need.length (wbs (edT t) s.B v0 (tM t + 1)) J).1 (payTo (edT t) s.B t.need.length (wbs (edT t) s.B v0 (tM t + 1)) J).2 (tW t) 0 (tM t) = true ∧
      0 < valTo t.need (payTo (edT t) s.B t.need.length (wbs (edT t) s.B v0 (tM t + 1)) J).1 (payTo (edT t) s.B t.need.length (wbs (edT t) s.B v0 (tM t + 1)) J).2 t.need.length := by
  obtain ⟨a1, a2, a3, a4, a5, a6, a7, a8⟩ := task_parts ht
  have hto := edgesOf_to t (tW t) (tM t) a4 a3
  have hL0 : (lf0 (tM t + 1)).L.length = tM t + 1 := by simp [lf0]
  have hB0 : (lf0 (tM t + 1)).B.length = tM t + 1 := byTo_len _ _
  have hnt := lf0_noted t (tW t) (tM t) a4
  obtain ⟨v1, b1, b2, b3⟩ := last_rose_n (s := lf0 (tM t + 1)) (N := tM t + 1) hto hL0 (by omega) (by show (rounds (edT t) _ _).last ≠ -1; rw [hs, hv0]; omega)
  have b2' : s.last = (v1 : Int) := by rw [← hs]; exact b2
  obtain rfl : v0 = v1 := by omega
  have hboth := rounds_both (n := tM t + 1) hto hL0 hB0 (lf0_both ht) (tM t + 1)
  have hway : ∀ k, k ≤ tM t → wbs (edT t) s.B v0 k < tM t + 1 ∧ nth (rounds (edT t) (lf0 (tM t + 1)) (tM t - k)).L (wbs (edT t) s.B v0 k) < nth s.L (wbs (edT t) s.B v0 k) := by
    intro k
    induction k with
    | zero =>
      intro _
      refine ⟨b1, ?_⟩
      rw [← hs]
      exact b3
    | succ k ih =>
      intro hk
      obtain ⟨c1, c2⟩ := ih (by omega)
      obtain ⟨i, d1, d2, d3, d4, d5⟩ := rose_back hto (show (lf0 (tM t + 1)).L = List.replicate (tM t + 1) 0 from rfl) hB0 hnt c1 (N := tM t + 1) (q := tM t - k) (by rw [show rounds (edgesOf t (tW t) (tM t)) (lf0 (tM t + 1)) (tM t + 1) = s from hs]; exact c2) (by omega)
      have d5' := d5 (by omega)
      rw [show rounds (edgesOf t (tW t) (tM t)) (lf0 (tM t + 1)) (tM t + 1) = s from hs] at d3 d5'
      have e : wbs (edT t) s.B v0 (k + 1) = (egAt (edT t) i).fr := d3
      rw [e]
      refine ⟨d4, ?_⟩
      rw [show tM t - (k + 1) = tM t - k - 1 by omega]
      exact d5'
  have hnote : ∀ k, k ≤ tM t → ∃ i, i < (edT t).length ∧ nth s.B (wbs (edT t) s.B v0 k) = (i : Int) ∧ (egAt (edT t) i).to = wbs (edT t) s.B v0 k := by
    intro k hk
    obtain ⟨c1, c2⟩ := hway k hk
    have hp : 0 ≤ nth (rounds (edT t) (lf0 (tM t + 1)) (tM t - k)).L (wbs (edT t) s.B v0 k) := rounds_pos (fun q => by show 0 ≤ nth (List.replicate (tM t + 1) 0) q; rw [nth_rep]; omega) _ _
    have hN := rounds_noted hto hL0 hB0 hnt (tM t + 1)
    rw [show rounds (edgesOf t (tW t) (tM t)) (lf0 (tM t + 1)) (tM t + 1) = s from hs] at hN
    rcases hN _ c1 with ⟨h1, h2⟩ | ⟨i, h1, h2, h3, -⟩
    · rw [h1] at c2 hp; omega
    · exact ⟨i, h1, h2, h3⟩
  have hlt : ∀ k, k ≤ tM t + 1 → wbs (edT t) s.B v0 k < tM t + 1 := by
    intro k hk
    rcases Nat.lt_or_ge k (tM t + 1) with h | h
    · exact (hway k (by omega)).1
    · obtain rfl : k = tM t + 1 := by omega
      obtain ⟨i, h1, h2, h3⟩ := hnote (tM t) (Nat.le_refl _)
      rw [(way_next h2).1]
      exact (hto _ (egAt_mem h1)).1
  have hpig : ∃ a b, a < b ∧ b < tM t + 2 ∧ wbs (edT t) s.B v0 a = wbs (edT t) s.B v0 b := by
    by_cases h : ∃ a b, a < b ∧ b < tM t + 2 ∧ wbs (edT t) s.B v0 a = wbs (edT t) s.B v0 b
    · exact h
    · have := pigeon (tM t + 1) (tM t + 2) (wbs (edT t) s.B v0) (fun k hk => hlt k (by omega)) (fun a b h1 h2 e => h ⟨a, b, h1, h2, e⟩)
      omega
  obtain ⟨a, b, hab, hb, heq⟩ := hpig
  have hback : ∀ k, wbs (edT t) s.B (wbs (edT t) s.B v0 (tM t + 1)) k = wbs (edT t) s.B v0 (tM t + 1 + k) := fun k => (wbs_add _ _ _ _ _).symm
  have hper : ∀ k, b ≤ k → wbs (edT t) s.B v0 k = wbs (edT t) s.B v0 (k - (b - a)) := by
    intro k hk
    have e1 : wbs (edT t) s.B v0 (b + (k - b)) = wbs (edT t) s.B v0 (a + (k - b)) := by rw [wbs_add, wbs_add, heq]
    rwa [show b + (k - b) = k by omega, show a + (k - b) = k - (b - a) by omega] at e1
  have hd : wbs (edT t) s.B (wbs (edT t) s.B v0 (tM t + 1)) (b - a) = wbs (edT t) s.B v0 (tM t + 1) := by
    rw [hback, hper (tM t + 1 + (b - a)) (by omega), show tM t + 1 + (b - a) - (b - a) = tM t + 1 by omega]
  obtain ⟨c, hc1, hc2, hc3⟩ := least_hit (f := fun k => wbs (edT t) s.B (wbs (edT t) s.B v0 (tM t + 1)) (k + 1)) (c := wbs (edT t) s.B v0 (tM t + 1)) (j := b - a - 1) (by show wbs _ _ _ (b - a - 1 + 1) = _; rw [show b - a - 1 + 1 = b - a by omega]; exact hd)
  have hch : Way (edT t) s.B (wbs (edT t) s.B v0 (tM t + 1)) (c + 1) := by
    intro k hk
    rw [hback, hper (tM t + 1 + k) (by omega)]
    exact hnote _ (by omega)
  have hmin : ∀ k, 1 ≤ k → k < c + 1 → wbs (edT t) s.B (wbs (edT t) s.B v0 (tM t + 1)) k ≠ wbs (edT t) s.B v0 (tM t + 1) := fun k hk hkc => by
    have := hc3 (k - 1) (by omega)
    rwa [show k - 1 + 1 = k by omega] at this
  have hpay : 0 < moreTo (edT t) s.B (wbs (edT t) s.B v0 (tM t + 1)) (c + 1) := by
    have h := hboth.2
    rw [show rounds (edgesOf t (tW t) (tM t)) (lf0 (tM t + 1)) (tM t + 1) = s from hs] at h
    exact h _ (c + 1) (by omega) hc2 hmin hch
  obtain ⟨p1, p2, p3, p4, p5, p6⟩ := payTo_ok (B := s.B) (v := wbs (edT t) s.B v0 (tM t + 1)) ht (c + 1) hch
  refine ⟨c + 1, by omega, by omega, hc2, hmin, fun k hk => ?_, xOk_iff.2 ⟨p1, p2, cntB_of fun k _ => by have := p5 k; omega, cntB_of fun k _ => by have := p6 k; omega⟩, ?_, ?_⟩
  · obtain ⟨i, i1, i2, i3⟩ := hch k hk
    refine ⟨i, i1, i2, i3, (hto _ (egAt_mem i1)).1, ?_⟩
    rw [← i3]; exact (hto _ (egAt_mem i1)).2
  · cases hg : gainTo (payTo (edT t) s.B t.need.length (wbs (edT t) s.B v0 (tM t + 1)) (c + 1)).1 (payTo (edT t) s.B t.need.length (wbs (edT t) s.B v0 (tM t + 1)) (c + 1)).2 (tW t) 0 (tM t)
    · unfold gainTo at hg
      rw [List.all_eq_false] at hg
      obtain ⟨k, hk1, hk2⟩ := hg
      have h6 := p4 k (List.mem_range.1 hk1)
      rw [show wbs (edT t) s.B (wbs (edT t) s.B v0 (tM t + 1)) (c + 1) = wbs (edT t) s.B v0 (tM t + 1) from hc2] at h6
      simp at hk2
      omega
    · rfl
  · rw [p3]; exact hpay
end Go.Proofs.Ytfafjojoapcliaa

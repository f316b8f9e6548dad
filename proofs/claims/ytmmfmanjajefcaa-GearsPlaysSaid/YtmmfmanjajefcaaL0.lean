/- Layer 7: fractions in lowest terms, products that are cancelled, sums, comparisons: mathematics alone. -/
import Derived.Test.YtmmfmanjajefcaaBase
set_option linter.all false
namespace Go.Proofs.Ytmmfmanjajefcaa
open Go.RowKit

/-- the greatest number of a ratio -/
def mh : Nat := 1000000000
def lwB (N D : Nat) : Bool := decide (N / N.gcd D ≤ mh) && decide (D / N.gcd D ≤ mh)
def lwN (N D : Nat) : Nat := if lwB N D then N / N.gcd D else 0
def lwD (N D : Nat) : Nat := if lwB N D then D / N.gcd D else 0
def lwE (N D : Nat) : Int := if lwB N D then 0 else 2

theorem red_eq {N D n d : Nat} (hD : 0 < D) (hc : n.gcd d = 1) (h : N * d = n * D) : N / N.gcd D = n ∧ D / N.gcd D = d := by
  have hg : 0 < N.gcd D := Nat.gcd_pos_of_pos_right _ hD
  obtain ⟨N', hN⟩ := Nat.gcd_dvd_left N D
  obtain ⟨D', hD'⟩ := Nat.gcd_dvd_right N D
  have hcop : N'.gcd D' = 1 := by
    have e : N.gcd D * N'.gcd D' = N.gcd D * 1 := by
      rw [← Nat.gcd_mul_left, ← hN, ← hD', Nat.mul_one]
    exact Nat.eq_of_mul_eq_mul_left hg e
  have e1 : N / N.gcd D = N' := Nat.div_eq_of_eq_mul_right hg hN
  have e2 : D / N.gcd D = D' := Nat.div_eq_of_eq_mul_right hg hD'
  rw [e1, e2]
  have h2 : N' * d = n * D' := by
    apply Nat.eq_of_mul_eq_mul_left hg
    rw [← Nat.mul_assoc, ← hN, Nat.mul_left_comm, ← hD', h]
  have a1 : N' ∣ n := by
    have : N' ∣ n * D' := ⟨d, h2.symm⟩
    exact Nat.Coprime.dvd_of_dvd_mul_right (show Nat.Coprime N' D' from hcop) this
  have a2 : n ∣ N' := by
    have : n ∣ N' * d := ⟨D', h2⟩
    exact Nat.Coprime.dvd_of_dvd_mul_right (show Nat.Coprime n d from hc) this
  have a3 : N' = n := Nat.dvd_antisymm a1 a2
  refine ⟨a3, ?_⟩
  have b1 : d ∣ D' := by
    have : d ∣ n * D' := ⟨N', by rw [← h2, Nat.mul_comm]⟩
    exact Nat.Coprime.dvd_of_dvd_mul_left (show Nat.Coprime d n by unfold Nat.Coprime; rw [Nat.gcd_comm]; exact hc) this
  have b2 : D' ∣ d := by
    have : D' ∣ N' * d := ⟨n, by rw [h2, Nat.mul_comm]⟩
    exact Nat.Coprime.dvd_of_dvd_mul_left (show Nat.Coprime D' N' by unfold Nat.Coprime; rw [Nat.gcd_comm]; exact hcop) this
  exact Nat.dvd_antisymm b2 b1

theorem red_cop {N D : Nat} (hD : 0 < D) : (N / N.gcd D).gcd (D / N.gcd D) = 1 ∧ 0 < D / N.gcd D ∧ N * (D / N.gcd D) = N / N.gcd D * D := by
  have hg : 0 < N.gcd D := Nat.gcd_pos_of_pos_right _ hD
  refine ⟨by
    obtain ⟨N', hN⟩ := Nat.gcd_dvd_left N D
    obtain ⟨D', hD'⟩ := Nat.gcd_dvd_right N D
    rw [Nat.div_eq_of_eq_mul_right hg hN, Nat.div_eq_of_eq_mul_right hg hD']
    have e : N.gcd D * N'.gcd D' = N.gcd D * 1 := by
      rw [← Nat.gcd_mul_left, ← hN, ← hD', Nat.mul_one]
    exact Nat.eq_of_mul_eq_mul_left hg e, Nat.div_pos (Nat.le_of_dvd hD (Nat.gcd_dvd_right _ _)) hg, ?_⟩
  obtain ⟨N', hN⟩ := Nat.gcd_dvd_left N D
  obtain ⟨D', hD'⟩ := Nat.gcd_dvd_right N D
  rw [Nat.div_eq_of_eq_mul_right hg hN, Nat.div_eq_of_eq_mul_right hg hD']
  generalize N.gcd D = g at *
  subst hN; subst hD'
  rw [Nat.mul_comm g N', Nat.mul_assoc]

theorem lw_congr {N D N' D' : Nat} (hD : 0 < D) (hD' : 0 < D') (h : N * D' = N' * D) : lwB N D = lwB N' D' ∧ lwN N D = lwN N' D' ∧ lwD N D = lwD N' D' ∧ lwE N D = lwE N' D' := by
  obtain ⟨c1, c2, c3⟩ := red_cop (N := N') hD'
  have hh : N * (D' / N'.gcd D') = N' / N'.gcd D' * D := by
    apply Nat.eq_of_mul_eq_mul_right hD'
    calc N * (D' / N'.gcd D') * D' = (N * D') * (D' / N'.gcd D') := by rw [Nat.mul_assoc, Nat.mul_comm (D' / _), Nat.mul_assoc]
      _ = (N' * (D' / N'.gcd D')) * D := by rw [h, Nat.mul_assoc, Nat.mul_comm D, Nat.mul_assoc]
      _ = N' / N'.gcd D' * D * D' := by rw [c3, Nat.mul_assoc, Nat.mul_comm D', Nat.mul_assoc]
  obtain ⟨e1, e2⟩ := red_eq hD c1 hh
  have eB : lwB N D = lwB N' D' := by unfold lwB; rw [e1, e2]
  refine ⟨eB, ?_, ?_, ?_⟩
  · unfold lwN; rw [eB, e1]
  · unfold lwD; rw [eB, e2]
  · unfold lwE; rw [eB]

/-- a ratio is valid -/
def RtOk (n d : Nat) : Prop := n ≤ mh ∧ 0 < d ∧ d ≤ mh ∧ n.gcd d = 1

theorem lw_ok {N D : Nat} (hD : 0 < D) (h : lwB N D = true) : RtOk (lwN N D) (lwD N D) ∧ N * lwD N D = lwN N D * D ∧ lwE N D = 0 := by
  obtain ⟨c1, c2, c3⟩ := red_cop (N := N) hD
  have hb := h
  unfold lwB at hb
  rw [Bool.and_eq_true, decide_eq_true_eq, decide_eq_true_eq] at hb
  unfold lwN lwD lwE RtOk
  rw [h, if_pos rfl, if_pos rfl, if_pos rfl]
  exact ⟨⟨hb.1, c2, hb.2, c1⟩, c3, rfl⟩
theorem lw_no {N D : Nat} (h : lwB N D = false) : lwN N D = 0 ∧ lwD N D = 0 ∧ lwE N D = 2 := by
  unfold lwN lwD lwE; rw [h]; exact ⟨rfl, rfl, rfl⟩
theorem lw_iff {N D : Nat} : lwB N D = true ↔ lwE N D = 0 := by
  unfold lwE; cases lwB N D <;> simp
/-- what is in lowest terms already -/
theorem lw_of {N D n d : Nat} (hD : 0 < D) (hr : RtOk n d) (h : N * d = n * D) : lwB N D = true ∧ lwN N D = n ∧ lwD N D = d := by
  obtain ⟨e1, e2⟩ := red_eq hD hr.2.2.2 h
  have hb : lwB N D = true := by unfold lwB; rw [e1, e2]; simp [hr.1, hr.2.2.1]
  refine ⟨hb, ?_, ?_⟩
  · unfold lwN; rw [hb, if_pos rfl, e1]
  · unfold lwD; rw [hb, if_pos rfl, e2]
theorem lw_big {N D n d : Nat} (hD : 0 < D) (hc : n.gcd d = 1) (h : N * d = n * D) (hbig : mh < n ∨ mh < d) : lwB N D = false := by
  obtain ⟨e1, e2⟩ := red_eq hD hc h
  unfold lwB; rw [e1, e2, Bool.and_eq_false_iff, decide_eq_false_iff_not, decide_eq_false_iff_not]; omega

/-- the product of a list -/
def prodL : List Nat → Nat
  | [] => 1
  | x :: l => x * prodL l
theorem prodL_pos : ∀ {l : List Nat}, (∀ x ∈ l, 0 < x) → 0 < prodL l
  | [], _ => Nat.one_pos
  | x :: l, h => Nat.mul_pos (h x (.head _)) (prodL_pos fun y hy => h y (.tail _ hy))
theorem prodL_append : ∀ (l m : List Nat), prodL (l ++ m) = prodL l * prodL m
  | [], m => by simp [prodL]
  | x :: l, m => by rw [List.cons_append, prodL, prodL, prodL_append l m, Nat.mul_assoc]
theorem prodL_cop : ∀ {l m : List Nat}, (∀ x ∈ l, ∀ y ∈ m, x.gcd y = 1) → (prodL l).gcd (prodL m) = 1 := by
  have one : ∀ {x : Nat} {m : List Nat}, (∀ y ∈ m, x.gcd y = 1) → x.gcd (prodL m) = 1 := by
    intro x m
    induction m with
    | nil => intro _; simp [prodL]
    | cons y m ih =>
      intro h
      exact Nat.Coprime.mul_right (show Nat.Coprime x y from h y (.head _)) (ih fun z hz => h z (.tail _ hz))
  intro l m h
  induction l with
  | nil => simp [prodL]
  | cons x l ih => exact Nat.Coprime.mul_left (show Nat.Coprime x _ from one (h x (.head _))) (ih fun z hz => h z (.tail _ hz))
/-- one place of a list is divided -/
theorem prodL_set : ∀ {l : List Nat} {i g : Nat} (hi : i < l.length), g ∣ l[i] → prodL l = g * prodL (l.set i (l[i] / g))
  | x :: l, 0, g, _, h => by
    obtain ⟨c, hc⟩ := h
    simp only [List.getElem_cons_zero] at hc
    subst hc
    rcases Nat.eq_zero_or_pos g with rfl | hg
    · simp [prodL]
    · simp only [List.getElem_cons_zero, List.set_cons_zero, prodL, Nat.mul_div_cancel_left c hg, Nat.mul_assoc]
  | x :: l, i + 1, g, hi, h => by
    simp only [List.getElem_cons_succ, List.set_cons_succ, prodL] at h ⊢
    rw [prodL_set (l := l) (i := i) (by simpa using hi) h, Nat.mul_left_comm]

/-- what is cancelled so far: rows before i against all columns, row i against the columns before j -/
structure CInv (N D : Nat) (i j : Nat) (ns ds : List Nat) : Prop where
  cross : N * prodL ds = prodL ns * D
  pos : ∀ x ∈ ds, 0 < x
  row : ∀ (a b : Nat) (ha : a < ns.length) (hb : b < ds.length), a < i ∨ a = i ∧ b < j → ns[a].gcd ds[b] = 1

theorem CInv.start (ns ds : List Nat) (h : ∀ x ∈ ds, 0 < x) : CInv (prodL ns) (prodL ds) 0 0 ns ds :=
  ⟨rfl, h, fun _ _ _ _ h => by omega⟩
theorem CInv.next {N D i j : Nat} {ns ds : List Nat} (h : CInv N D i j ns ds) (hj : ds.length ≤ j) : CInv N D (i + 1) 0 ns ds :=
  ⟨h.cross, h.pos, fun a b ha hb hab => h.row a b ha hb (by omega)⟩
theorem CInv.step {N D i j : Nat} {ns ds : List Nat} (h : CInv N D i j ns ds) (hi : i < ns.length) (hj : j < ds.length) :
    CInv N D i (j + 1) (ns.set i (ns[i] / ns[i].gcd ds[j])) (ds.set j (ds[j] / ns[i].gcd ds[j])) := by
  have hp : 0 < ds[j] := h.pos _ (List.getElem_mem hj)
  have hg : 0 < ns[i].gcd ds[j] := Nat.gcd_pos_of_pos_right _ hp
  refine ⟨?_, ?_, ?_⟩
  · have e1 := prodL_set hi (Nat.gcd_dvd_left ns[i] ds[j])
    have e2 := prodL_set hj (Nat.gcd_dvd_right ns[i] ds[j])
    have hc := h.cross
    rw [e1, e2] at hc
    apply Nat.eq_of_mul_eq_mul_left hg
    rw [Nat.mul_left_comm, hc, Nat.mul_assoc]
  · intro x hx
    rcases List.mem_or_eq_of_mem_set hx with hx | rfl
    · exact h.pos x hx
    · exact Nat.div_pos (Nat.le_of_dvd hp (Nat.gcd_dvd_right _ _)) hg
  · intro a b ha hb hab
    simp only [List.length_set] at ha hb
    rw [List.getElem_set, List.getElem_set]
    have dv : ∀ {x y x' y' : Nat}, x.gcd y = 1 → x' ∣ x → y' ∣ y → x'.gcd y' = 1 := by
      intro x y x' y' hxy hx hy
      have : x'.gcd y' ∣ x.gcd y := Nat.dvd_gcd (Nat.dvd_trans (Nat.gcd_dvd_left _ _) hx) (Nat.dvd_trans (Nat.gcd_dvd_right _ _) hy)
      rw [hxy] at this
      exact Nat.dvd_one.1 this
    by_cases e1 : i = a <;> by_cases e2 : j = b
    · rw [if_pos e1, if_pos e2]
      exact (red_cop (N := ns[i]) hp).1
    · rw [if_pos e1, if_neg e2]
      subst e1
      exact dv (h.row i b ha hb (by omega)) (Nat.div_dvd_of_dvd (Nat.gcd_dvd_left _ _)) (Nat.dvd_refl _)
    · rw [if_neg e1, if_pos e2]
      subst e2
      exact dv (h.row a j ha hb (by omega)) (Nat.dvd_refl _) (Nat.div_dvd_of_dvd (Nat.gcd_dvd_right _ _))
    · rw [if_neg e1, if_neg e2]
      exact h.row a b ha hb (by omega)
theorem CInv.done {N D i j : Nat} {ns ds : List Nat} (h : CInv N D i j ns ds) (hi : ns.length ≤ i) : 0 < prodL ds ∧ (prodL ns).gcd (prodL ds) = 1 ∧ N * prodL ds = prodL ns * D :=
  ⟨prodL_pos h.pos, prodL_cop fun x hx y hy => by
    obtain ⟨a, ha, rfl⟩ := List.getElem_of_mem hx
    obtain ⟨b, hb, rfl⟩ := List.getElem_of_mem hy
    exact h.row a b ha hb (by omega), h.cross⟩
/-- the lowest terms are what is left -/
theorem CInv.lw {N D i j : Nat} {ns ds : List Nat} (h : CInv N D i j ns ds) (hi : ns.length ≤ i) (hD : 0 < D) :
    lwB N D = (decide (prodL ns ≤ mh) && decide (prodL ds ≤ mh)) ∧ (lwB N D = true → lwN N D = prodL ns ∧ lwD N D = prodL ds) := by
  obtain ⟨h1, h2, h3⟩ := h.done hi
  obtain ⟨e1, e2⟩ := red_eq hD h2 h3
  have eB : lwB N D = (decide (prodL ns ≤ mh) && decide (prodL ds ≤ mh)) := by unfold lwB; rw [e1, e2]
  refine ⟨eB, fun hb => ?_⟩
  unfold lwN lwD; rw [hb, if_pos rfl, if_pos rfl, e1, e2]; exact ⟨rfl, rfl⟩

/-- a value is a fraction -/
def Is (n d N D : Nat) : Prop := 0 < d ∧ 0 < D ∧ n * D = N * d
theorem Is.self {n d : Nat} (h : 0 < d) : Is n d n d := ⟨h, h, rfl⟩
theorem lw_is {N D : Nat} (hD : 0 < D) (h : lwB N D = true) : Is (lwN N D) (lwD N D) N D :=
  ⟨(lw_ok hD h).1.2.1, hD, (lw_ok hD h).2.1.symm⟩
theorem Is.mul {n d N D m c M C : Nat} (h : Is n d N D) (k : Is m c M C) : Is (n * m) (d * c) (N * M) (D * C) := by
  obtain ⟨h1, h2, h3⟩ := h
  obtain ⟨k1, k2, k3⟩ := k
  refine ⟨Nat.mul_pos h1 k1, Nat.mul_pos h2 k2, ?_⟩
  grind
theorem Is.add {n d N D m c M C : Nat} (h : Is n d N D) (k : Is m c M C) : Is (n * c + m * d) (d * c) (N * C + M * D) (D * C) := by
  obtain ⟨h1, h2, h3⟩ := h
  obtain ⟨k1, k2, k3⟩ := k
  refine ⟨Nat.mul_pos h1 k1, Nat.mul_pos h2 k2, ?_⟩
  grind
theorem Is.inv {n d N D : Nat} (h : Is n d N D) (hn : 0 < n) (hN : 0 < N) : Is d n D N := by
  obtain ⟨h1, h2, h3⟩ := h
  exact ⟨hn, hN, by grind⟩
theorem Is.lw {n d N D : Nat} (h : Is n d N D) : lwB n d = lwB N D ∧ lwN n d = lwN N D ∧ lwD n d = lwD N D ∧ lwE n d = lwE N D := lw_congr h.1 h.2.1 h.2.2
theorem Is.lt {n d N D m c M C : Nat} (h : Is n d N D) (k : Is m c M C) : n * c < m * d ↔ N * C < M * D := by
  obtain ⟨h1, h2, h3⟩ := h
  obtain ⟨k1, k2, k3⟩ := k
  have a : n * c * (D * C) = N * C * (d * c) := by grind
  have b : m * d * (D * C) = M * D * (d * c) := by grind
  constructor
  · intro hl
    have : n * c * (D * C) < m * d * (D * C) := Nat.mul_lt_mul_of_pos_right hl (Nat.mul_pos h2 k2)
    rw [a, b] at this
    exact Nat.lt_of_mul_lt_mul_right this
  · intro hl
    have : N * C * (d * c) < M * D * (d * c) := Nat.mul_lt_mul_of_pos_right hl (Nat.mul_pos h1 k1)
    rw [← a, ← b] at this
    exact Nat.lt_of_mul_lt_mul_right this

/-- a ratio is valid, as numbers are -/
def rtB (n d : Int) : Bool := inB n 0 1000000000 && inB d 1 1000000000 && decide (n.toNat.gcd d.toNat = 1)
theorem rtB_iff {n d : Int} : rtB n d = true ↔ (0 ≤ n ∧ n ≤ 1000000000) ∧ (1 ≤ d ∧ d ≤ 1000000000) ∧ n.toNat.gcd d.toNat = 1 := by
  unfold rtB; rw [Bool.and_eq_true, Bool.and_eq_true, inB_iff, inB_iff, decide_eq_true_eq, and_assoc]
/-- what a call that tells a ratio answers -/
structure Rr where
  n : Int
  d : Int
  e : Int
def rOf (N D : Nat) : Rr := ⟨lwN N D, lwD N D, lwE N D⟩
def bad (e : Int) : Rr := ⟨0, 0, e⟩
def reR (n d : Int) : Rr := if n < 0 ∨ d < 1 then bad 1 else rOf n.toNat d.toNat
def tmR (an ad bn bd : Int) : Rr := if rtB an ad && rtB bn bd then rOf (an.toNat * bn.toNat) (ad.toNat * bd.toNat) else bad 71
def plR (an ad bn bd : Int) : Rr := if rtB an ad && rtB bn bd then rOf (an.toNat * bd.toNat + bn.toNat * ad.toNat) (ad.toNat * bd.toNat) else bad 71
def sgn (x y : Nat) : Int := if x < y then -1 else if y < x then 1 else 0
def cpN (an ad bn bd : Int) : Int := if rtB an ad && rtB bn bd then sgn (an.toNat * bd.toNat) (bn.toNat * ad.toNat) else 0
def cpE (an ad bn bd : Int) : Int := if rtB an ad && rtB bn bd then 0 else 71

theorem rOf_is {n d N D : Nat} (h : Is n d N D) : rOf n d = rOf N D := by
  obtain ⟨-, h2, h3, h4⟩ := h.lw
  unfold rOf; rw [h2, h3, h4]
theorem rOf_ok {N D : Nat} (hD : 0 < D) (h : (rOf N D).e = 0) : rtB (rOf N D).n (rOf N D).d = true ∧ Is (rOf N D).n.toNat (rOf N D).d.toNat N D := by
  have hb : lwB N D = true := lw_iff.2 h
  obtain ⟨⟨h1, h2, h3, h4⟩, -, -⟩ := lw_ok hD hb
  have hi := lw_is hD hb
  unfold rOf
  simp only [Int.toNat_natCast]
  unfold mh at h1 h3
  exact ⟨rtB_iff.2 ⟨by omega, by omega, by simpa using h4⟩, hi⟩
theorem rtB_pos {n d : Int} (h : rtB n d = true) : 0 < d.toNat := by have := rtB_iff.1 h; omega
theorem rt_is {n d : Int} (h : rtB n d = true) : Is n.toNat d.toNat n.toNat d.toNat := Is.self (rtB_pos h)
theorem e_valid {P : Bool} {r : Rr} (h : (if P then r else bad 71).e = 0) : P = true ∧ r.e = 0 := by
  cases P
  · exact absurd (show (71 : Int) = 0 from h) (by decide)
  · exact ⟨rfl, h⟩
theorem tm_ok {an ad bn bd : Int} (h : (tmR an ad bn bd).e = 0) :
    rtB an ad = true ∧ rtB bn bd = true ∧ rtB (tmR an ad bn bd).n (tmR an ad bn bd).d = true ∧ Is (tmR an ad bn bd).n.toNat (tmR an ad bn bd).d.toNat (an.toNat * bn.toNat) (ad.toNat * bd.toNat) := by
  obtain ⟨h1, h2⟩ := e_valid h
  have hv := h1
  rw [Bool.and_eq_true] at hv
  unfold tmR; rw [h1, if_pos rfl]
  exact ⟨hv.1, hv.2, rOf_ok (Nat.mul_pos (rtB_pos hv.1) (rtB_pos hv.2)) h2⟩
theorem pl_ok {an ad bn bd : Int} (h : (plR an ad bn bd).e = 0) :
    rtB an ad = true ∧ rtB bn bd = true ∧ rtB (plR an ad bn bd).n (plR an ad bn bd).d = true ∧ Is (plR an ad bn bd).n.toNat (plR an ad bn bd).d.toNat (an.toNat * bd.toNat + bn.toNat * ad.toNat) (ad.toNat * bd.toNat) := by
  obtain ⟨h1, h2⟩ := e_valid h
  have hv := h1
  rw [Bool.and_eq_true] at hv
  unfold plR; rw [h1, if_pos rfl]
  exact ⟨hv.1, hv.2, rOf_ok (Nat.mul_pos (rtB_pos hv.1) (rtB_pos hv.2)) h2⟩
theorem tm_val {an ad bn bd : Int} (h1 : rtB an ad = true) (h2 : rtB bn bd = true) : tmR an ad bn bd = rOf (an.toNat * bn.toNat) (ad.toNat * bd.toNat) := by
  unfold tmR; rw [h1, h2]; rfl
theorem pl_val {an ad bn bd : Int} (h1 : rtB an ad = true) (h2 : rtB bn bd = true) : plR an ad bn bd = rOf (an.toNat * bd.toNat + bn.toNat * ad.toNat) (ad.toNat * bd.toNat) := by
  unfold plR; rw [h1, h2]; rfl
theorem tm_comm (an ad bn bd : Int) : tmR bn bd an ad = tmR an ad bn bd := by
  unfold tmR; rw [Bool.and_comm, Nat.mul_comm bn.toNat, Nat.mul_comm bd.toNat]
theorem pl_comm (an ad bn bd : Int) : plR bn bd an ad = plR an ad bn bd := by
  unfold plR; rw [Bool.and_comm, Nat.add_comm, Nat.mul_comm bd.toNat]
theorem tm_assoc {an ad bn bd cn cd : Int} (h1 : (tmR an ad bn bd).e = 0) (h2 : (tmR bn bd cn cd).e = 0) :
    tmR an ad (tmR bn bd cn cd).n (tmR bn bd cn cd).d = tmR (tmR an ad bn bd).n (tmR an ad bn bd).d cn cd := by
  obtain ⟨va, vb, vx, ix⟩ := tm_ok h1
  obtain ⟨-, vc, vy, iy⟩ := tm_ok h2
  rw [tm_val va vy, tm_val vx vc, rOf_is ((rt_is va).mul iy), rOf_is (ix.mul (rt_is vc)), Nat.mul_assoc, Nat.mul_assoc]
theorem pl_assoc {an ad bn bd cn cd : Int} (h1 : (plR an ad bn bd).e = 0) (h2 : (plR bn bd cn cd).e = 0) :
    plR an ad (plR bn bd cn cd).n (plR bn bd cn cd).d = plR (plR an ad bn bd).n (plR an ad bn bd).d cn cd := by
  obtain ⟨va, vb, vx, ix⟩ := pl_ok h1
  obtain ⟨-, vc, vy, iy⟩ := pl_ok h2
  rw [pl_val va vy, pl_val vx vc, rOf_is ((rt_is va).add iy), rOf_is (ix.add (rt_is vc))]
  congr 1 <;> grind
theorem tm_dist {an ad bn bd cn cd : Int} (h1 : (plR bn bd cn cd).e = 0) (h2 : (tmR an ad bn bd).e = 0) (h3 : (tmR an ad cn cd).e = 0) :
    tmR an ad (plR bn bd cn cd).n (plR bn bd cn cd).d = plR (tmR an ad bn bd).n (tmR an ad bn bd).d (tmR an ad cn cd).n (tmR an ad cn cd).d := by
  obtain ⟨vb, vc, vu, iu⟩ := pl_ok h1
  obtain ⟨va, -, vx, ix⟩ := tm_ok h2
  obtain ⟨-, -, vy, iy⟩ := tm_ok h3
  rw [tm_val va vu, pl_val vx vy, rOf_is ((rt_is va).mul iu), rOf_is (ix.add iy)]
  apply rOf_is
  have a1 := rtB_pos va
  have b1 := rtB_pos vb
  have c1 := rtB_pos vc
  refine ⟨Nat.mul_pos a1 (Nat.mul_pos b1 c1), Nat.mul_pos (Nat.mul_pos a1 b1) (Nat.mul_pos a1 c1), ?_⟩
  grind

theorem sgn_swap (x y : Nat) : sgn x y = -sgn y x := by unfold sgn; split <;> split <;> omega
theorem sgn_zero (x y : Nat) : sgn x y = 0 ↔ x = y := by
  unfold sgn
  rcases Nat.lt_trichotomy x y with h | h | h
  · rw [if_pos h]; omega
  · subst h; simp
  · rw [if_neg (by omega), if_pos h]; omega
theorem sgn_congr {x y x' y' : Nat} (h1 : x < y ↔ x' < y') (h2 : y < x ↔ y' < x') : sgn x y = sgn x' y' := by
  unfold sgn; simp only [h1, h2]
theorem cp_swap (an ad bn bd : Int) : cpN an ad bn bd = -cpN bn bd an ad := by
  unfold cpN; rw [Bool.and_comm]; split
  · exact sgn_swap _ _
  · rfl
theorem cp_e_swap (an ad bn bd : Int) : cpE an ad bn bd = cpE bn bd an ad := by unfold cpE; rw [Bool.and_comm]
theorem cp_val {an ad bn bd : Int} (h1 : rtB an ad = true) (h2 : rtB bn bd = true) : cpN an ad bn bd = sgn (an.toNat * bd.toNat) (bn.toNat * ad.toNat) ∧ cpE an ad bn bd = 0 := by
  unfold cpN cpE; rw [h1, h2]; exact ⟨rfl, rfl⟩
theorem cp_ok {an ad bn bd : Int} (h : cpE an ad bn bd = 0) : rtB an ad = true ∧ rtB bn bd = true := by
  unfold cpE at h
  cases hb : (rtB an ad && rtB bn bd)
  · rw [hb] at h; exact absurd h (by decide)
  · rwa [Bool.and_eq_true] at hb
theorem cp_no {an ad bn bd : Int} (h : cpE an ad bn bd ≠ 0) : cpN an ad bn bd = 0 ∧ cpE an ad bn bd = 71 := by
  unfold cpN; unfold cpE at h ⊢
  cases hb : (rtB an ad && rtB bn bd)
  · exact ⟨rfl, rfl⟩
  · rw [hb] at h; exact absurd rfl h
theorem cp_eq {an ad bn bd : Int} (h : cpE an ad bn bd = 0) : cpN an ad bn bd = 0 ↔ an = bn ∧ ad = bd := by
  obtain ⟨va, vb⟩ := cp_ok h
  rw [(cp_val va vb).1, sgn_zero]
  constructor
  · intro hx
    obtain ⟨a1, a2, a3⟩ := rtB_iff.1 va
    obtain ⟨b1, b2, b3⟩ := rtB_iff.1 vb
    obtain ⟨e1, e2⟩ := red_eq (rtB_pos va) b3 hx
    rw [a3, Nat.div_one] at e1
    rw [a3, Nat.div_one] at e2
    omega
  · rintro ⟨rfl, rfl⟩
    rfl
theorem cp_is {xn xd yn yd : Int} {N D M C : Nat} (vx : rtB xn xd = true) (vy : rtB yn yd = true) (hx : Is xn.toNat xd.toNat N D) (hy : Is yn.toNat yd.toNat M C) : cpN xn xd yn yd = sgn (N * C) (M * D) := by
  rw [(cp_val vx vy).1]
  exact sgn_congr (hx.lt hy) (hy.lt hx)
theorem cp_add {an ad bn bd cn cd : Int} (h1 : (plR an ad cn cd).e = 0) (h2 : (plR bn bd cn cd).e = 0) :
    cpN (plR an ad cn cd).n (plR an ad cn cd).d (plR bn bd cn cd).n (plR bn bd cn cd).d = cpN an ad bn bd ∧ cpE (plR an ad cn cd).n (plR an ad cn cd).d (plR bn bd cn cd).n (plR bn bd cn cd).d = 0 := by
  obtain ⟨va, vc, vx, ix⟩ := pl_ok h1
  obtain ⟨vb, -, vy, iy⟩ := pl_ok h2
  refine ⟨?_, (cp_val vx vy).2⟩
  rw [cp_is vx vy ix iy, (cp_val va vb).1]
  have c1 := rtB_pos vc
  have key : ∀ a d b e n c : Nat, 0 < c → ((a * c + n * d) * (e * c) < (b * c + n * e) * (d * c) ↔ a * e < b * d) := by
    intro a d b e n c hc
    have e1 : (a * c + n * d) * (e * c) = (a * e) * (c * c) + n * d * e * c := by grind
    have e2 : (b * c + n * e) * (d * c) = (b * d) * (c * c) + n * d * e * c := by grind
    rw [e1, e2, Nat.add_lt_add_iff_right]
    exact ⟨fun h => Nat.lt_of_mul_lt_mul_right h, fun h => Nat.mul_lt_mul_of_pos_right h (Nat.mul_pos hc hc)⟩
  exact sgn_congr (key _ _ _ _ _ _ c1) (key _ _ _ _ _ _ c1)
theorem cp_mul {an ad bn bd cn cd : Int} (h1 : (tmR an ad cn cd).e = 0) (h2 : (tmR bn bd cn cd).e = 0) (hp : 0 < cn) :
    cpN (tmR an ad cn cd).n (tmR an ad cn cd).d (tmR bn bd cn cd).n (tmR bn bd cn cd).d = cpN an ad bn bd ∧ cpE (tmR an ad cn cd).n (tmR an ad cn cd).d (tmR bn bd cn cd).n (tmR bn bd cn cd).d = 0 := by
  obtain ⟨va, vc, vx, ix⟩ := tm_ok h1
  obtain ⟨vb, -, vy, iy⟩ := tm_ok h2
  refine ⟨?_, (cp_val vx vy).2⟩
  rw [cp_is vx vy ix iy, (cp_val va vb).1]
  have c1 := rtB_pos vc
  have n1 : 0 < cn.toNat := by omega
  have key : ∀ a d b e n c : Nat, 0 < c → 0 < n → (a * n * (e * c) < b * n * (d * c) ↔ a * e < b * d) := by
    intro a d b e n c hc hn
    have e1 : a * n * (e * c) = (a * e) * (n * c) := by grind
    have e2 : b * n * (d * c) = (b * d) * (n * c) := by grind
    rw [e1, e2]
    exact ⟨fun h => Nat.lt_of_mul_lt_mul_right h, fun h => Nat.mul_lt_mul_of_pos_right h (Nat.mul_pos hn hc)⟩
  exact sgn_congr (key _ _ _ _ _ _ c1 n1) (key _ _ _ _ _ _ c1 n1)
end Go.Proofs.Ytmmfmanjajefcaa

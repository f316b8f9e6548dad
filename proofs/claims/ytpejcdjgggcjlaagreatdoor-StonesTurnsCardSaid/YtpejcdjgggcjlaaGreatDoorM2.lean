/- A face repeats after its period. Normal forms: a face and each turned one have the same; the turns that make one face of another one. -/
import Derived.Test.YtpejcdjgggcjlaaGreatDoorM1
import Derived.Test.YtpejcdjgggcjlaaGreatDoorF3
import Derived.Test.YtpejcdjgggcjlaaGreatDoorF4
import Derived.Test.YtpejcdjgggcjlaaGreatDoorA8
namespace Go.Proofs.YtpejcdjgggcjlaaGreatDoor

theorem nth_turn {f : Fc} (_ : validB f = true) (R S : Nat) (hR : f.rings = R) (hS : f.sectors = S) (b : Int) (r s : Nat) (hr : r < R) (hs : s < S) :
    nth (turnF f b).kinds (r * S + s) = nth f.kinds (r * S + (rnd ((s : Int) - rnd b f.sectors) f.sectors).toNat) := by
  have h6 : f.rings.toNat = R := by omega
  have h7 : f.sectors.toNat = S := by omega
  have hk : (turnF f b).kinds = redL f S (fun i => rnd (i - rnd b f.sectors) f.sectors) (R * S) := by unfold turnF; rw [h6, h7]
  have h1 : r * S + s < R * S := by
    have : (r + 1) * S ≤ R * S := Nat.mul_le_mul_right _ hr
    rw [Nat.succ_mul] at this
    omega
  rw [hk, nth_redL f S _ _ _ h1]
  have e1 : (r * S + s) / S = r := by rw [Nat.add_comm, Nat.add_mul_div_right _ _ (by omega), Nat.div_eq_of_lt hs, Nat.zero_add]
  have e2 : (r * S + s) % S = s := by rw [Nat.add_comm, Nat.add_mul_mod_self_right, Nat.mod_eq_of_lt hs]
  rw [e1, e2]
  unfold kat
  obtain ⟨q1, q2⟩ := rnd_bd (a := (s : Int) - rnd b f.sectors) (s := f.sectors) (by omega)
  have e3 : (((r : Nat) : Int) * f.sectors + rnd ((s : Int) - rnd b f.sectors) f.sectors).toNat = r * S + (rnd ((s : Int) - rnd b f.sectors) f.sectors).toNat := by
    generalize rnd ((s : Int) - rnd b f.sectors) f.sectors = x at *
    rw [hS, ← Int.natCast_mul]
    omega
  rw [e3]
/-- one period back -/
theorem per_back {f : Fc} (hv : validB f = true) (R S p : Nat) (hR : f.rings = R) (hS : f.sectors = S) (hp : p < S) (he : turnF f (p : Int) = f) (r s : Nat) (hr : r < R) (hs : s < S) (hps : p ≤ s) :
    nth f.kinds (r * S + s) = nth f.kinds (r * S + (s - p)) := by
  have h := nth_turn hv R S hR hS (p : Int) r s hr hs
  rw [he] at h
  rw [h]
  congr 2
  unfold rnd
  rw [hS, Int.emod_eq_of_lt (show (0 : Int) ≤ (p : Int) by omega) (by omega), Int.emod_eq_of_lt (show (0 : Int) ≤ (s : Int) - (p : Int) by omega) (by omega)]
  omega
theorem per_mod {f : Fc} (hv : validB f = true) (R S p : Nat) (hR : f.rings = R) (hS : f.sectors = S) (hp : p < S) (hp1 : 1 ≤ p) (he : turnF f (p : Int) = f) (r : Nat) (hr : r < R) : ∀ s, s < S →
    nth f.kinds (r * S + s) = nth f.kinds (r * S + s % p) := by
  intro s
  induction s using Nat.strongRecOn with
  | _ s ih =>
    intro hs
    by_cases hlt : s < p
    · rw [Nat.mod_eq_of_lt hlt]
    · rw [per_back hv R S p hR hS hp he r s hr hs (by omega), ih (s - p) (by omega) (by omega), Nat.mod_eq_sub_mod (a := s) (b := p) (by omega)]
theorem harp_cell {f : Fc} (hv : validB f = true) (R S m : Nat) (hR : f.rings = R) (hS : f.sectors = S) (hm : (m : Int) = max (perN f : Nat) 2) (i : Nat) (hi : i < R * S) :
    nth f.kinds i = nth (harpF f (m : Int)).kinds (i / S * m + i % S % m) := by
  obtain ⟨p1, p2, p3, -⟩ := perN_is hv
  have hS2 := (validB_iff.1 hv).1.2.2.1
  have hm2 : 2 ≤ m := by omega
  have hmS : m ≤ S := by omega
  have h1 : i / S < R := Nat.div_lt_of_lt_mul (by rw [Nat.mul_comm]; exact hi)
  have h2 : i % S < S := Nat.mod_lt _ (by omega)
  have h3 : i % S % m < m := Nat.mod_lt _ (by omega)
  have h4 : i = i / S * S + i % S := by rw [Nat.mul_comm]; exact (Nat.div_add_mod i S).symm
  have hk : (harpF f (m : Int)).kinds = redL f m (fun i => i) (R * m) := by
    unfold harpF
    rw [show f.rings.toNat = R by omega, show ((m : Int)).toNat = m by omega]
  have h5 : i / S * m + i % S % m < R * m := by
    have : (i / S + 1) * m ≤ R * m := Nat.mul_le_mul_right _ h1
    rw [Nat.succ_mul] at this
    omega
  rw [hk, nth_redL f m _ _ _ h5]
  have e1 : (i / S * m + i % S % m) / m = i / S := by rw [Nat.add_comm, Nat.add_mul_div_right _ _ (by omega), Nat.div_eq_of_lt h3, Nat.zero_add]
  have e2 : (i / S * m + i % S % m) % m = i % S % m := by rw [Nat.add_comm, Nat.add_mul_mod_self_right, Nat.mod_eq_of_lt h3]
  rw [e1, e2]
  unfold kat
  have e3 : (((i / S : Nat) : Int) * f.sectors + ((i % S % m : Nat) : Int)).toNat = i / S * S + i % S % m := by
    rw [hS, ← Int.natCast_mul, ← Int.natCast_add, Int.toNat_natCast]
  rw [e3]
  generalize i / S = r at *
  generalize i % S = s at *
  rw [h4]
  rcases p3 with p3 | p3
  · have : m = S := by omega
    subst this
    rw [Nat.mod_eq_of_lt h2]
  · by_cases hpS : perN f < S
    · by_cases hp2 : 2 ≤ perN f
      · have e4 : m = perN f := by omega
        rw [e4]
        exact per_mod hv R S _ hR hS hpS p1 p3 r h1 s h2
      · have e4 : perN f = 1 := by omega
        have e5 := per_mod hv R S _ hR hS hpS p1 p3 r h1
        rw [e5 s h2, e5 (s % m) (by omega), e4, Nat.mod_one, Nat.mod_one]
    · have : m = S := by omega
      subst this
      rw [Nat.mod_eq_of_lt h2]
theorem harpF_valid {f : Fc} (hv : validB f = true) : validB (harpF f (max (perN f : Nat) 2)) = true := by
  obtain ⟨R, S, hR, hS, h1, h2, h3, h4, h5, h6, h7⟩ := dims hv
  obtain ⟨p1, p2, -, -⟩ := perN_is hv
  obtain ⟨m, hm⟩ := Int.eq_ofNat_of_zero_le (show 0 ≤ max ((perN f : Nat) : Int) 2 by omega)
  have e : harpF f (max (perN f : Nat) 2) = { eye := f.eye, rings := f.rings, sectors := (m : Nat), kinds := redL f m (fun i => i) (R * m) } := by
    unfold harpF
    rw [hm, h6, Int.toNat_natCast]
  rw [e]
  exact valid_red hv m _ (fun s hs => by omega) R hR (by omega) (by omega)

end Go.Proofs.YtpejcdjgggcjlaaGreatDoor

namespace Go.Proofs.YtpejcdjgggcjlaaGreatDoor

theorem turn_congr {f : Fc} {a b : Int} (h : rnd a f.sectors = rnd b f.sectors) : turnF f a = turnF f b := by
  unfold turnF
  rw [h]
theorem turn_len {f : Fc} (hv : validB f = true) (b : Int) : (turnF f b).kinds.length = f.kinds.length := by
  obtain ⟨R, S, hR, hS, -, -, -, -, h5, h6, h7⟩ := dims hv
  unfold turnF
  simp only [redL_len, h6, h7, h5]
theorem nth_turnI {f : Fc} (hv : validB f = true) (R S : Nat) (hR : f.rings = R) (hS : f.sectors = S) (b : Int) (r s : Nat) (hr : r < R) (hs : s < S) :
    nth (turnF f b).kinds (r * S + s) = nth f.kinds (r * S + (((s : Int) - b) % (S : Int)).toNat) := by
  rw [nth_turn hv R S hR hS b r s hr hs]
  congr 2
  unfold rnd
  rw [hS, Int.sub_emod, Int.emod_emod, ← Int.sub_emod]
/-- two faces with the same numbers and the same kinds -/
theorem face_ext {f g : Fc} (h1 : f.eye = g.eye) (h2 : f.rings = g.rings) (h3 : f.sectors = g.sectors) (R S : Nat) (hf : f.kinds.length = R * S) (hg : g.kinds.length = R * S)
    (h : ∀ r s, r < R → s < S → nth f.kinds (r * S + s) = nth g.kinds (r * S + s)) : f = g := by
  have hk : f.kinds = g.kinds := by
    apply List.ext_getElem (by omega)
    intro i hi hj
    rw [← nth_get hi, ← nth_get hj]
    have hS : 0 < S := by
      rcases Nat.eq_zero_or_pos S with e | e
      · subst e; omega
      · exact e
    have e := h (i / S) (i % S) (Nat.div_lt_of_lt_mul (by rw [Nat.mul_comm]; omega)) (Nat.mod_lt _ hS)
    rw [Nat.mul_comm (i / S) S, Nat.div_add_mod] at e
    exact e
  cases f; cases g
  simp only at h1 h2 h3 hk
  subst h1 h2 h3 hk
  rfl
theorem turn_turn {f : Fc} (hv : validB f = true) (a b : Int) : turnF (turnF f a) b = turnF f (a + b) := by
  obtain ⟨R, S, hR, hS, s1, -, -, -, h5, -, -⟩ := dims hv
  have hva := turnF_valid hv a
  refine face_ext rfl rfl rfl R S (by rw [turn_len hva, turn_len hv, h5]) (by rw [turn_len hv, h5]) fun r s hr hs => ?_
  have q1 := Int.emod_nonneg ((s : Int) - b) (show (S : Int) ≠ 0 by omega)
  have q2 := Int.emod_lt_of_pos ((s : Int) - b) (show (0 : Int) < (S : Int) by omega)
  rw [nth_turnI hva R S hR hS b r s hr hs, nth_turnI hv R S hR hS a r _ hr (by omega), nth_turnI hv R S hR hS (a + b) r s hr hs, Int.toNat_of_nonneg q1]
  congr 3
  rw [Int.sub_emod, Int.emod_emod, ← Int.sub_emod]
  congr 1
  omega
theorem turn_zero {f : Fc} (hv : validB f = true) : turnF f 0 = f := by
  obtain ⟨R, S, hR, hS, -, -, -, -, h5, -, -⟩ := dims hv
  refine face_ext rfl rfl rfl R S (by rw [turn_len hv, h5]) h5 fun r s hr hs => ?_
  rw [nth_turnI hv R S hR hS 0 r s hr hs, Int.sub_zero, Int.emod_eq_of_lt (by omega) (by omega), Int.toNat_natCast]
theorem turn_all {f : Fc} (hv : validB f = true) : turnF f f.sectors = f := by
  rw [turn_congr (b := 0) (by unfold rnd; simp), turn_zero hv]
theorem turn_rnd (f : Fc) (a : Int) : turnF f (rnd a f.sectors) = turnF f a := turn_congr (by unfold rnd; rw [Int.emod_emod])
/-- back -/
theorem turn_back {f : Fc} (hv : validB f = true) (a : Int) : turnF (turnF f a) (-a) = f := by
  rw [turn_turn hv, show a + -a = 0 by omega, turn_zero hv]
theorem turn_inj {f : Fc} (hv : validB f = true) {a b : Int} : turnF f a = turnF f b ↔ turnF f (a - b) = f := by
  constructor
  · intro h
    have := turn_back hv b
    rw [← h, turn_turn hv] at this
    exact this
  · intro h
    have e := turn_turn hv (a - b) b
    rw [h, show a - b + b = a by omega] at e
    exact e.symm

/-! ### the least of all turns -/
theorem cmpI_swap (a b : Int) : cmpI a b = - cmpI b a := by unfold cmpI; split <;> split <;> (try split) <;> omega
theorem cmpL_self (l : List Int) : cmpL l l = 0 := by
  induction l with
  | nil => rfl
  | cons a l ih => rw [cmpL, if_pos (by rw [cmpI_zero]), ih]
theorem cmpL_zero : ∀ {l r : List Int}, cmpL l r = 0 → l = r
  | [], [], _ => rfl
  | [], _ :: _, h => by simp [cmpL] at h
  | _ :: _, [], h => by simp [cmpL] at h
  | a :: l, b :: r, h => by
    rw [cmpL] at h
    split at h
    · rename_i e
      rw [cmpI_zero.1 e, cmpL_zero h]
    · contradiction
theorem cmpL_swap : ∀ (l r : List Int), cmpL l r = - cmpL r l
  | [], [] => rfl
  | [], _ :: _ => by simp [cmpL]
  | _ :: _, [] => by simp [cmpL]
  | a :: l, b :: r => by
    rw [cmpL, cmpL, cmpL_swap l r, cmpI_swap a b]
    split
    · rw [if_pos (by omega)]
    · rw [if_neg (by omega)]
theorem cmpL_cons (a : Int) (l : List Int) (b : Int) (r : List Int) : cmpL (a :: l) (b :: r) = if a < b then -1 else if b < a then 1 else cmpL l r := by
  rw [cmpL]
  unfold cmpI
  by_cases h1 : a < b
  · simp [h1]
  · by_cases h2 : b < a
    · simp [h1, h2]
    · simp [h1, h2]
theorem cmpL_trans : ∀ {l r q : List Int}, cmpL l r ≤ 0 → cmpL r q ≤ 0 → cmpL l q ≤ 0
  | [], _, [], _, _ => by simp [cmpL]
  | [], _, _ :: _, _, _ => by simp [cmpL]
  | _ :: _, [], _, h, _ => by simp [cmpL] at h
  | _ :: _, _ :: _, [], _, h => by simp [cmpL] at h
  | a :: l, b :: r, c :: q, h1, h2 => by
    have ih := @cmpL_trans l r q
    rw [cmpL_cons] at h1 h2 ⊢
    split at h1
    · split at h2
      · rw [if_pos (by omega)]; decide
      · split at h2
        · omega
        · rw [if_pos (by omega)]; decide
    · split at h1
      · omega
      · split at h2
        · rw [if_pos (by omega)]; decide
        · split at h2
          · omega
          · rw [if_neg (by omega), if_neg (by omega)]; exact ih h1 h2
theorem cmpL_anti {l r : List Int} (h1 : cmpL l r ≤ 0) (h2 : cmpL r l ≤ 0) : l = r := cmpL_zero (by have := cmpL_swap l r; omega)

theorem best_is (f : Fc) : ∀ n : Nat, (∃ k : Nat, k ≤ n ∧ bestTo f n = (turnF f (k : Int)).kinds) ∧ ∀ k : Nat, k ≤ n → cmpL (bestTo f n) (turnF f (k : Int)).kinds ≤ 0
  | 0 => ⟨⟨0, Nat.le_refl _, rfl⟩, fun k hk => by
      obtain rfl : k = 0 := by omega
      show cmpL (turnF f 0).kinds (turnF f 0).kinds ≤ 0
      rw [cmpL_self]; decide⟩
  | n + 1 => by
    obtain ⟨⟨j, h1, h2⟩, h3⟩ := best_is f n
    have e : ((n + 1 : Nat) : Int) = (n : Int) + 1 := rfl
    rw [bestTo]
    split
    · rename_i hlt
      refine ⟨⟨n + 1, Nat.le_refl _, rfl⟩, fun k hk => ?_⟩
      by_cases hkn : k = n + 1
      · subst hkn
        rw [e, cmpL_self]; decide
      · exact cmpL_trans (by omega) (h3 k (by omega))
    · rename_i hlt
      refine ⟨⟨j, by omega, h2⟩, fun k hk => ?_⟩
      by_cases hkn : k = n + 1
      · subst hkn
        rw [e]
        have := cmpL_swap (bestTo f n) (turnF f ((n : Int) + 1)).kinds
        omega
      · exact h3 k (by omega)
theorem norm_is {f : Fc} (hv : validB f = true) : (∃ k : Nat, (k : Int) < f.sectors ∧ normF f = turnF f (k : Int)) ∧ ∀ a : Int, cmpL (normF f).kinds (turnF f a).kinds ≤ 0 := by
  obtain ⟨R, S, hR, hS, s1, -, -, -, h5, h6, h7⟩ := dims hv
  obtain ⟨⟨k, h1, h2⟩, h3⟩ := best_is f (S - 1)
  have e : (normF f).kinds = bestTo f (S - 1) := by unfold normF; rw [h7]
  refine ⟨⟨k, by omega, ?_⟩, fun a => ?_⟩
  · have e2 : normF f = { eye := f.eye, rings := f.rings, sectors := f.sectors, kinds := (normF f).kinds } := rfl
    rw [e2, e, h2]
    rfl
  · obtain ⟨q1, q2⟩ := rnd_bd (a := a) (s := f.sectors) (by omega)
    obtain ⟨m, hm⟩ := Int.eq_ofNat_of_zero_le q1
    rw [e, ← turn_rnd f a, hm]
    exact h3 m (by omega)
theorem norm_turn {f : Fc} (hv : validB f = true) (a : Int) : normF (turnF f a) = normF f := by
  have hva := turnF_valid hv a
  obtain ⟨⟨k, h1, h2⟩, h3⟩ := norm_is hv
  obtain ⟨⟨j, h4, h5⟩, h6⟩ := norm_is hva
  have e : (normF (turnF f a)).kinds = (normF f).kinds := by
    refine cmpL_anti ?_ ?_
    · have := h6 ((k : Int) - a)
      rw [turn_turn hv, show a + ((k : Int) - a) = (k : Int) by omega, ← h2] at this
      exact this
    · have := h3 (a + (j : Int))
      rw [← turn_turn hv, ← h5] at this
      exact this
  have e2 : normF (turnF f a) = { eye := f.eye, rings := f.rings, sectors := f.sectors, kinds := (normF (turnF f a)).kinds } := rfl
  rw [e2, e]
  rfl
/-- two faces have the same normal form exactly if one is the other one turned -/
theorem norm_iff {f g : Fc} (hv : validB f = true) (hg : validB g = true) : normF f = normF g ↔ ∃ k : Nat, (k : Int) < f.sectors ∧ turnF f (k : Int) = g := by
  obtain ⟨R, S, hR, hS, s1, -, -, -, -, -, -⟩ := dims hv
  constructor
  · intro h
    obtain ⟨⟨k, h1, h2⟩, -⟩ := norm_is hv
    obtain ⟨⟨j, h3, h4⟩, -⟩ := norm_is hg
    have e := turn_back hg (j : Int)
    rw [← h4, ← h, h2, turn_turn hv, ← turn_rnd f] at e
    obtain ⟨q1, q2⟩ := rnd_bd (a := (k : Int) + -(j : Int)) (s := f.sectors) (by omega)
    obtain ⟨m, hm⟩ := Int.eq_ofNat_of_zero_le q1
    exact ⟨m, by omega, by rw [← hm]; exact e⟩
  · rintro ⟨k, -, rfl⟩
    exact (norm_turn hv _).symm

/-! ### all turns that make one face of another one -/
theorem turn_mul {f : Fc} (hv : validB f = true) {p : Int} (h : turnF f p = f) : ∀ n : Nat, turnF f (p * (n : Int)) = f
  | 0 => by rw [show p * ((0 : Nat) : Int) = 0 by simp]; exact turn_zero hv
  | n + 1 => by
    have e := turn_turn hv (p * (n : Int)) p
    rw [turn_mul hv h n, h] at e
    rw [show p * ((n + 1 : Nat) : Int) = p * (n : Int) + p by rw [show ((n + 1 : Nat) : Int) = (n : Int) + 1 from rfl, Int.mul_add, Int.mul_one]]
    exact e.symm
theorem per_turn {f : Fc} (hv : validB f = true) : turnF f (perN f : Nat) = f := by
  obtain ⟨-, -, h, -⟩ := perN_is hv
  rcases h with h | h
  · rw [h]; exact turn_all hv
  · exact h
theorem per_iff {f : Fc} (hv : validB f = true) (n : Nat) : turnF f (n : Int) = f ↔ n % perN f = 0 := by
  obtain ⟨p1, p2, p3, p4⟩ := perN_is hv
  have hp := per_turn hv
  generalize perN f = p at *
  have e : turnF f (n : Int) = turnF f ((n % p : Nat) : Int) := by
    have e1 : (n : Int) = (p : Int) * ((n / p : Nat) : Int) + ((n % p : Nat) : Int) := by
      have := Nat.div_add_mod n p
      rw [← Int.natCast_mul]
      omega
    rw [e1, ← turn_turn hv, turn_mul hv hp]
  rw [e]
  constructor
  · intro h
    rcases Nat.eq_zero_or_pos (n % p) with h0 | h0
    · exact h0
    · exact absurd h (p4 _ h0 (Nat.mod_lt _ (by omega)))
  · intro h
    rw [h]
    exact turn_zero hv
theorem per_dvd {f : Fc} (hv : validB f = true) (S : Nat) (hS : f.sectors = S) : S % perN f = 0 := (per_iff hv S).1 (by rw [← hS]; exact turn_all hv)

theorem filter_mod (p r : Nat) (hr : r < p) : ∀ m : Nat, (List.range (m * p)).filter (fun k => decide (k % p = r)) = (List.range m).map fun i => r + i * p
  | 0 => by simp
  | m + 1 => by
    rw [Nat.succ_mul, List.range_add, List.filter_append, filter_mod p r hr m, List.range_succ, List.map_append]
    congr 1
    rw [List.filter_map]
    have e : (fun k => decide (k % p = r)) ∘ (fun x => m * p + x) = fun x => decide (x % p = r) := by
      funext x
      simp [Nat.add_comm (m * p) x, Nat.add_mul_mod_self_right]
    rw [e]
    have e2 : ∀ n : Nat, n ≤ p → (List.range n).filter (fun x => decide (x % p = r)) = if r < n then [r] else [] := by
      intro n
      induction n with
      | zero => intro _; simp
      | succ n ih =>
        intro hn
        rw [List.range_succ, List.filter_append, ih (by omega)]
        by_cases h1 : r < n
        · rw [if_pos h1, if_pos (by omega)]
          simp [Nat.mod_eq_of_lt (show n < p by omega)]
          omega
        · rw [if_neg h1]
          by_cases h2 : r = n
          · subst h2
            simp [Nat.mod_eq_of_lt hr]
          · rw [if_neg (by omega)]
            simp [Nat.mod_eq_of_lt (show n < p by omega)]
            omega
    rw [e2 p (Nat.le_refl _), if_pos hr]
    simp [Nat.add_comm]
/-- these turns are so by the period's number -/
theorem turnsN_is {f g : Fc} (hv : validB f = true) (S : Nat) (hS : f.sectors = S) (k : Nat) (_hk : k < S) (h : turnF f (k : Int) = g) :
    turnsN f g S = (List.range (S / perN f)).map fun i => (((k % perN f) + i * perN f : Nat) : Int) := by
  have hd := per_dvd hv S hS
  obtain ⟨p1, -, -, -⟩ := perN_is hv
  have e : ∀ n : Nat, sameB (turnF f (n : Nat)) g = decide (n % perN f = k % perN f) := by
    intro n
    have e3 : turnF f (n : Int) = turnF f (k : Int) ↔ n % perN f = k % perN f := by
      rcases Nat.le_total k n with hkn | hkn
      · rw [turn_inj hv, show (n : Int) - (k : Int) = ((n - k : Nat) : Int) by omega, per_iff hv]
        constructor
        · intro h0
          have := Nat.div_add_mod (n - k) (perN f)
          rw [h0] at this
          have e4 : n = k + perN f * ((n - k) / perN f) := by omega
          rw [e4, Nat.add_mul_mod_self_left]
        · intro h0
          exact (Nat.sub_mod_eq_zero_of_mod_eq h0)
      · rw [eq_comm, turn_inj hv, show (k : Int) - (n : Int) = ((k - n : Nat) : Int) by omega, per_iff hv]
        constructor
        · intro h0
          have := Nat.div_add_mod (k - n) (perN f)
          rw [h0] at this
          have e4 : k = n + perN f * ((k - n) / perN f) := by omega
          rw [e4, Nat.add_mul_mod_self_left]
        · intro h0
          exact (Nat.sub_mod_eq_zero_of_mod_eq h0.symm)
    cases e2 : sameB (turnF f (n : Nat)) g
    · symm
      rw [decide_eq_false_iff_not]
      intro h6
      have e4 := e3.2 h6
      rw [h] at e4
      rw [sameB_iff.2 e4] at e2
      cases e2
    · symm
      rw [decide_eq_true_iff]
      exact e3.1 ((sameB_iff.1 e2).trans h.symm)
  have hSp : S = S / perN f * perN f := by have := Nat.div_add_mod S (perN f); rw [hd, Nat.mul_comm] at this; omega
  unfold turnsN
  rw [show (fun k => sameB (turnF f (k : Nat)) g) = fun n => decide (n % perN f = k % perN f) from funext e]
  conv => lhs; rw [hSp]
  rw [filter_mod _ _ (Nat.mod_lt _ (by omega)), List.map_map]
  rfl
theorem turnsN_none {f g : Fc} (S : Nat) (h : ∀ k : Nat, k < S → turnF f (k : Int) ≠ g) : turnsN f g S = [] := by
  unfold turnsN
  rw [List.filter_eq_nil_iff.2, List.map_nil]
  intro k hk
  rw [List.mem_range] at hk
  intro e
  exact h k hk (sameB_iff.1 e)

end Go.Proofs.YtpejcdjgggcjlaaGreatDoor

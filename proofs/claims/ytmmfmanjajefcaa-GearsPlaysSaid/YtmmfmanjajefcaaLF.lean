/- Layer 7: when teeth meet: mathematics alone. -/
import Derived.Test.YtmmfmanjajefcaaLE
set_option linter.all false
namespace Go.Proofs.Ytmmfmanjajefcaa
open Go.RowKit


theorem bez (m n : Nat) : ∃ x y : Int, x * m + y * n = (m.gcd n : Int) := by
  induction m, n using Nat.gcd.induction with
  | H0 n => exact ⟨0, 1, by simp⟩
  | H1 m n hm ih =>
    obtain ⟨x, y, h⟩ := ih
    refine ⟨y - x * (n / m : Int), x, ?_⟩
    rw [Nat.gcd_rec, ← h]
    have e : ((n % m : Nat) : Int) = (n : Int) - (m : Int) * ((n : Int) / (m : Int)) := by
      have := Int.mul_ediv_add_emod (n : Int) (m : Int)
      rw [Int.natCast_emod]; omega
    rw [e]
    generalize (n : Int) / (m : Int) = z
    grind

/-- the first number at which something holds, from k on, among so many -/
def fk (p : Nat → Bool) : Nat → Nat → Nat
  | 0, k => k
  | f + 1, k => if p k then k else fk p f (k + 1)
theorem fk_spec (p : Nat → Bool) : ∀ (f k : Nat), k ≤ fk p f k ∧ fk p f k ≤ k + f ∧ (∀ j, k ≤ j → j < fk p f k → p j = false) ∧ (fk p f k < k + f → p (fk p f k) = true)
  | 0, k => ⟨Nat.le_refl _, Nat.le_refl _, fun j h1 h2 => by unfold fk at h2; omega, fun h => by unfold fk at h; omega⟩
  | f + 1, k => by
    unfold fk
    by_cases hp : p k = true
    · rw [if_pos hp]; exact ⟨Nat.le_refl _, by omega, fun j h1 h2 => by omega, fun _ => hp⟩
    · rw [if_neg hp]
      obtain ⟨h1, h2, h3, h4⟩ := fk_spec p f (k + 1)
      refine ⟨by omega, by omega, fun j hj hlt => ?_, fun h => h4 (by omega)⟩
      by_cases e : j = k
      · subst e; simpa using hp
      · exact h3 j (by omega) hlt

def mtP (R N t c k : Nat) : Bool := (t + k * R) % N == c
/-- how many rounds of the driver are gone through first -/
def mtK (R N t c : Nat) : Nat := fk (mtP R N t c) (N / R.gcd N) 0
theorem mt_ex {R N t c : Nat} (hN : 0 < N) (hc : c < N) (h : ((R.gcd N : Nat) : Int) ∣ (t : Int) - (c : Int)) : ∃ k, k < N / R.gcd N ∧ mtP R N t c k = true := by
  have hg : 0 < R.gcd N := Nat.gcd_pos_of_pos_right _ hN
  obtain ⟨x, y, hb⟩ := bez R N
  obtain ⟨q, hq⟩ := h
  obtain ⟨R', hR⟩ := Nat.gcd_dvd_left R N
  obtain ⟨N', hN'⟩ := Nat.gcd_dvd_right R N
  have eN : N / R.gcd N = N' := Nat.div_eq_of_eq_mul_right hg hN'
  have N'p : 0 < N' := by
    rcases Nat.eq_zero_or_pos N' with h | h
    · rw [h, Nat.mul_zero] at hN'; omega
    · exact h
  rw [eN]
  generalize R.gcd N = g at *
  have z1 := Int.mul_ediv_add_emod (-(x * q)) (N' : Int)
  have z2 := Int.emod_nonneg (-(x * q)) (b := (N' : Int)) (by omega)
  have z3 := Int.emod_lt_of_pos (-(x * q)) (b := (N' : Int)) (by omega)
  obtain ⟨k, hk⟩ : ∃ k : Nat, -(x * q) % (N' : Int) = (k : Int) := ⟨(-(x * q) % (N' : Int)).toNat, by omega⟩
  rw [hk] at z1 z2 z3
  refine ⟨k, by omega, ?_⟩
  unfold mtP
  rw [beq_iff_eq]
  generalize -(x * q) / (N' : Int) = z at z1
  have key : ((t + k * R : Nat) : Int) = (c : Int) + (N : Int) * (y * q - R' * z) := by
    have e1 : (N : Int) = (g : Int) * (N' : Int) := by rw [hN']; simp
    have e2 : (R : Int) = (g : Int) * (R' : Int) := by rw [hR]; simp
    have e3 : (k : Int) = -(x * q) - N' * z := by omega
    have e4 : (t : Int) = (c : Int) + g * q := by omega
    simp only [Int.natCast_add, Int.natCast_mul]
    rw [e4, e3]
    grind
  have h5 : ((t + k * R : Nat) : Int) % (N : Int) = (c : Int) := by
    rw [key, Int.add_mul_emod_self_left]
    exact Int.emod_eq_of_lt (by omega) (by omega)
  have h6 : (((t + k * R) % N : Nat) : Int) = (c : Int) := by rw [Int.natCast_emod]; exact h5
  exact Int.ofNat.inj h6
theorem mt_no {R N t c k : Nat} (h : mtP R N t c k = true) : ((R.gcd N : Nat) : Int) ∣ (t : Int) - (c : Int) := by
  unfold mtP at h
  rw [beq_iff_eq] at h
  have e := Nat.div_add_mod (t + k * R) N
  rw [h] at e
  obtain ⟨R', hR⟩ := Nat.gcd_dvd_left R N
  obtain ⟨N', hN'⟩ := Nat.gcd_dvd_right R N
  generalize (t + k * R) / N = j at e
  refine ⟨(N' : Int) * j - k * R', ?_⟩
  generalize R.gcd N = g at *
  have e' : (N : Int) * j + c = t + k * R := by exact_mod_cast e
  have e1 : (N : Int) = (g : Int) * (N' : Int) := by rw [hN']; simp
  have e2 : (R : Int) = (g : Int) * (R' : Int) := by rw [hR]; simp
  grind
theorem mt_iff {R N t c : Nat} (hN : 0 < N) (hc : c < N) : mtK R N t c < N / R.gcd N ↔ ((R.gcd N : Nat) : Int) ∣ (t : Int) - (c : Int) := by
  obtain ⟨h1, h2, h3, h4⟩ := fk_spec (mtP R N t c) (N / R.gcd N) 0
  rw [Nat.zero_add] at h4
  constructor
  · intro h; exact mt_no (h4 h)
  · intro h
    obtain ⟨k, hk, hp⟩ := mt_ex hN hc h
    rcases Nat.lt_or_ge (mtK R N t c) (N / R.gcd N) with hl | hl
    · exact hl
    · have := h3 k (Nat.zero_le _) (Nat.lt_of_lt_of_le hk hl)
      rw [hp] at this; cases this
theorem mt_before {R N t c k : Nat} (h : k < mtK R N t c) : mtP R N t c k = false := (fk_spec (mtP R N t c) (N / R.gcd N) 0).2.2.1 k (Nat.zero_le _) h
theorem mt_at {R N t c : Nat} (h : mtK R N t c < N / R.gcd N) : mtP R N t c (mtK R N t c) = true := (fk_spec (mtP R N t c) (N / R.gcd N) 0).2.2.2 (by rw [Nat.zero_add]; exact h)
theorem mt_le (R N t c : Nat) : mtK R N t c ≤ N / R.gcd N := by have := (fk_spec (mtP R N t c) (N / R.gcd N) 0).2.1; rwa [Nat.zero_add] at this

/-- the least common multiple, both ways -/
def grip (R N : Nat) : Nat := R / R.gcd N * N
theorem grip_eq (R N : Nat) : R * N / R.gcd N = grip R N := by
  unfold grip
  rw [Nat.div_mul_right_comm (Nat.gcd_dvd_left R N)]
theorem grip_eq2 (R N : Nat) : grip R N = R * (N / R.gcd N) := by
  rw [← grip_eq, Nat.mul_div_assoc _ (Nat.gcd_dvd_right R N)]
theorem mt_lt {R N t c : Nat} (ht : t < R) (h : mtK R N t c < N / R.gcd N) : t + mtK R N t c * R < grip R N := by
  rw [grip_eq2]
  have : (mtK R N t c + 1) * R ≤ N / R.gcd N * R := Nat.mul_le_mul_right _ h
  rw [Nat.mul_comm R]
  have e : (mtK R N t c + 1) * R = mtK R N t c * R + R := Nat.succ_mul _ _
  omega
end Go.Proofs.Ytmmfmanjajefcaa

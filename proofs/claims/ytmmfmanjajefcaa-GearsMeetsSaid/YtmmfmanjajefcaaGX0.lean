/- Layer 7: how many pairs of teeth meet: mathematics alone. -/
import Derived.Test.YtmmfmanjajefcaaGC
set_option linter.all false
namespace Go.Proofs.Ytmmfmanjajefcaa
open Go.RowKit

/-- two teeth meet -/
def okT (X Y a b : Nat) : Bool := decide (mtK X Y a b < Y / X.gcd Y)
theorem ok_mod {X Y a b : Nat} (hY : 0 < Y) (hb : b < Y) : okT X Y a b = decide (b % X.gcd Y = a % X.gcd Y) := by
  unfold okT
  rw [decide_eq_decide, mt_iff hY hb]
  generalize X.gcd Y = g
  constructor
  · intro h
    have h2 := Int.emod_emod_of_dvd 0 h
    have h3 : (a : Int) % (g : Int) = (b : Int) % (g : Int) := Int.emod_eq_emod_iff_emod_sub_eq_zero.2 (Int.emod_eq_zero_of_dvd h)
    have h4 : ((a % g : Nat) : Int) = ((b % g : Nat) : Int) := by rw [Int.natCast_emod, Int.natCast_emod]; exact h3
    exact (Int.ofNat.inj h4).symm
  · intro h
    apply Int.dvd_of_emod_eq_zero
    apply Int.emod_eq_emod_iff_emod_sub_eq_zero.1
    rw [← Int.natCast_emod, ← Int.natCast_emod, h]
/-- how many of the first cogs a tooth meets -/
def cT (X Y a : Nat) : Nat → Nat
  | 0 => 0
  | k + 1 => cT X Y a k + (if okT X Y a k then 1 else 0)
theorem cT_eq {X Y a : Nat} (hY : 0 < Y) : ∀ {k : Nat}, k ≤ Y → cT X Y a k = (k + (X.gcd Y - 1 - a % X.gcd Y)) / X.gcd Y
  | 0, _ => by
    have hg : 0 < X.gcd Y := Nat.gcd_pos_of_pos_right _ hY
    rw [cT, Nat.div_eq_of_lt (by omega)]
  | k + 1, hk => by
    have hg : 0 < X.gcd Y := Nat.gcd_pos_of_pos_right _ hY
    rw [cT, cT_eq hY (by omega : k ≤ Y), ok_mod hY (by omega : k < Y)]
    have hr : a % X.gcd Y < X.gcd Y := Nat.mod_lt _ hg
    generalize X.gcd Y = g at *
    generalize a % g = r at *
    rw [show k + 1 + (g - 1 - r) = (k + (g - 1 - r)) + 1 by omega, Nat.succ_div]
    congr 1
    by_cases h : k % g = r
    · rw [if_pos (by simpa using h), if_pos]
      refine ⟨k / g + 1, ?_⟩
      have := Nat.div_add_mod k g
      rw [Nat.mul_succ]
      omega
    · rw [if_neg (by simpa using h), if_neg]
      rintro ⟨q, hq⟩
      apply h
      have h1 := Nat.div_add_mod k g
      have h2 : k % g < g := Nat.mod_lt _ hg
      rcases q with _ | q
      · rw [Nat.mul_zero] at hq; omega
      · rw [Nat.mul_succ] at hq
        have h3 : k = g * q + r := by omega
        rw [h3, Nat.mul_add_mod, Nat.mod_eq_of_lt hr]
theorem cT_full {X Y a : Nat} (hY : 0 < Y) : cT X Y a Y = Y / X.gcd Y := by
  rw [cT_eq hY (Nat.le_refl _)]
  have hg : 0 < X.gcd Y := Nat.gcd_pos_of_pos_right _ hY
  obtain ⟨q, hq⟩ := Nat.gcd_dvd_right X Y
  generalize X.gcd Y = g at *
  subst hq
  rw [Nat.mul_add_div hg, Nat.mul_div_cancel_left q hg, Nat.div_eq_of_lt (by omega), Nat.add_zero]
theorem cT_le (X Y a : Nat) : ∀ k, cT X Y a k ≤ k
  | 0 => Nat.le_refl _
  | k + 1 => by have := cT_le X Y a k; unfold cT; split <;> omega
theorem gr_one {X Y : Nat} (hX : 0 < X) (hY : 0 < Y) : (grip X Y = X * Y) ↔ X.gcd Y = 1 := by
  have hg : 0 < X.gcd Y := Nat.gcd_pos_of_pos_right _ hY
  rw [grip_eq2]
  obtain ⟨q, hq⟩ := Nat.gcd_dvd_right X Y
  have e : Y / X.gcd Y = q := Nat.div_eq_of_eq_mul_right hg hq
  rw [e]
  have hq0 : 0 < q := by
    rcases Nat.eq_zero_or_pos q with h | h
    · rw [h, Nat.mul_zero] at hq; omega
    · exact h
  constructor
  · intro h
    have h2 := Nat.eq_of_mul_eq_mul_left hX h
    rw [hq] at h2
    have h3 : 1 * q = X.gcd Y * q := by rw [Nat.one_mul]; rw [hq] at h2 ⊢; exact h2
    exact (Nat.eq_of_mul_eq_mul_right hq0 h3).symm
  · intro h
    rw [h, Nat.one_mul] at hq
    rw [hq]
theorem gr_div {X Y : Nat} (hX : 0 < X) (hY : 0 < Y) : X * Y / grip X Y = X.gcd Y ∧ 0 < grip X Y ∧ grip X Y ≤ X * Y := by
  have hg : 0 < X.gcd Y := Nat.gcd_pos_of_pos_right _ hY
  rw [grip_eq2]
  obtain ⟨q, hq⟩ := Nat.gcd_dvd_right X Y
  have e : Y / X.gcd Y = q := Nat.div_eq_of_eq_mul_right hg hq
  rw [e]
  have hq0 : 0 < q := by
    rcases Nat.eq_zero_or_pos q with h | h
    · rw [h, Nat.mul_zero] at hq; omega
    · exact h
  have hp := Nat.mul_pos hX hq0
  refine ⟨?_, hp, ?_⟩
  · have e2 : X * Y = X * q * X.gcd Y := by rw [Nat.mul_assoc, Nat.mul_comm q, ← hq]
    rw [e2]; exact Nat.mul_div_cancel_left _ hp
  · exact Nat.mul_le_mul_left _ (by rw [hq]; exact Nat.le_mul_of_pos_left _ hg)
/-- what is answered of a tooth and a cog that are there -/
theorem me_at {X Y a b : Nat} {p : Int} (hv : meshB (X : Int) (Y : Int) p = true) (ha : a < X) (hb : b < Y) :
    (okT X Y a b = true ∧ meE (X : Int) (Y : Int) p (a : Int) (b : Int) = 0 ∧ ∃ K : Nat, meV (X : Int) (Y : Int) p (a : Int) (b : Int) = (K : Int) ∧ K < grip X Y ∧ K % X = a ∧ K % Y = b) ∨
    (okT X Y a b = false ∧ meE (X : Int) (Y : Int) p (a : Int) (b : Int) = 3 ∧ meV (X : Int) (Y : Int) p (a : Int) (b : Int) = 0) := by
  have e : meE (X : Int) (Y : Int) p (a : Int) (b : Int) = if mtK X Y a b < Y / X.gcd Y then 0 else 3 := by
    unfold meE
    rw [if_pos hv, if_pos (by rw [Bool.and_eq_true, inB_iff, inB_iff]; omega)]
    simp only [Int.toNat_natCast]
  by_cases h : mtK X Y a b < Y / X.gcd Y
  · left
    rw [if_pos h] at e
    refine ⟨decide_eq_true h, e, a + mtK X Y a b * X, by unfold meV; rw [if_pos e]; simp, mt_lt ha h, ?_, ?_⟩
    · rw [Nat.add_mul_mod_self_right, Nat.mod_eq_of_lt ha]
    · have := mt_at h
      unfold mtP at this
      rwa [beq_iff_eq] at this
  · right
    rw [if_neg h] at e
    exact ⟨decide_eq_false h, e, by unfold meV; rw [if_neg (by rw [e]; decide)]⟩
theorem tm_ok2 {X Y a b : Nat} (hY : 0 < Y) (hb : b < Y) : okT X Y a b = decide (((a : Int) - (b : Int)).tmod ((X.gcd Y : Nat) : Int) = 0) := by
  unfold okT
  rw [decide_eq_decide, mt_iff hY hb, Int.dvd_iff_tmod_eq_zero]
end Go.Proofs.Ytmmfmanjajefcaa

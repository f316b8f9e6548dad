/- A face repeats after its period. -/
import Derived.Test.YteajlfgnhjalnaaDoorM1
import Derived.Test.YteajlfgnhjalnaaDoorF3
namespace Go.Proofs.YteajlfgnhjalnaaDoor

theorem nth_turn {f : Fc} (_ : validB f = true) (R S : Nat) (hR : f.rings = R) (hS : f.sectors = S) (b : Int) (r s : Nat) (hr : r < R) (hs : s < S) :
    nth (turnF f b).kinds (r * S + s) = nth f.kinds (r * S + (rnd ((s : Int) - rnd b f.sectors) f.sectors).toNat) := by
  have h6 : f.rings.toNat = R := by omega
  have h7 : f.sectors.toNat = S := by omega
  have hk : (turnF f b).kinds = redL f S (fun i => rnd (i - rnd b f.sectors) f.sectors) (R * S) := by unfold turnF; rw [h6, h7]
  have h1 : r * S + s < R * S := by
    have : (r + 1) * S ≤ R * S := Nat.mul_le_mul_right _ hr
    rw [Nat.succ_mul] at this
    omega
  rw [hk, nth_redL f S _ _ _ h1]
  have e1 : (r * S + s) / S = r := by rw [Nat.add_comm, Nat.add_mul_div_right _ _ (by omega), Nat.div_eq_of_lt hs, Nat.zero_add]
  have e2 : (r * S + s) % S = s := by rw [Nat.add_comm, Nat.add_mul_mod_self_right, Nat.mod_eq_of_lt hs]
  rw [e1, e2]
  unfold kat
  obtain ⟨q1, q2⟩ := rnd_bd (a := (s : Int) - rnd b f.sectors) (s := f.sectors) (by omega)
  have e3 : (((r : Nat) : Int) * f.sectors + rnd ((s : Int) - rnd b f.sectors) f.sectors).toNat = r * S + (rnd ((s : Int) - rnd b f.sectors) f.sectors).toNat := by
    generalize rnd ((s : Int) - rnd b f.sectors) f.sectors = x at *
    rw [hS, ← Int.natCast_mul]
    omega
  rw [e3]
/-- one period back -/
theorem per_back {f : Fc} (hv : validB f = true) (R S p : Nat) (hR : f.rings = R) (hS : f.sectors = S) (hp : p < S) (he : turnF f (p : Int) = f) (r s : Nat) (hr : r < R) (hs : s < S) (hps : p ≤ s) :
    nth f.kinds (r * S + s) = nth f.kinds (r * S + (s - p)) := by
  have h := nth_turn hv R S hR hS (p : Int) r s hr hs
  rw [he] at h
  rw [h]
  congr 2
  unfold rnd
  rw [hS, Int.emod_eq_of_lt (show (0 : Int) ≤ (p : Int) by omega) (by omega), Int.emod_eq_of_lt (show (0 : Int) ≤ (s : Int) - (p : Int) by omega) (by omega)]
  omega
theorem per_mod {f : Fc} (hv : validB f = true) (R S p : Nat) (hR : f.rings = R) (hS : f.sectors = S) (hp : p < S) (hp1 : 1 ≤ p) (he : turnF f (p : Int) = f) (r : Nat) (hr : r < R) : ∀ s, s < S →
    nth f.kinds (r * S + s) = nth f.kinds (r * S + s % p) := by
  intro s
  induction s using Nat.strongRecOn with
  | _ s ih =>
    intro hs
    by_cases hlt : s < p
    · rw [Nat.mod_eq_of_lt hlt]
    · rw [per_back hv R S p hR hS hp he r s hr hs (by omega), ih (s - p) (by omega) (by omega), Nat.mod_eq_sub_mod (a := s) (b := p) (by omega)]
theorem harp_cell {f : Fc} (hv : validB f = true) (R S m : Nat) (hR : f.rings = R) (hS : f.sectors = S) (hm : (m : Int) = max (perN f : Nat) 2) (i : Nat) (hi : i < R * S) :
    nth f.kinds i = nth (harpF f (m : Int)).kinds (i / S * m + i % S % m) := by
  obtain ⟨p1, p2, p3, -⟩ := perN_is hv
  have hS2 := (validB_iff.1 hv).1.2.2.1
  have hm2 : 2 ≤ m := by omega
  have hmS : m ≤ S := by omega
  have h1 : i / S < R := Nat.div_lt_of_lt_mul (by rw [Nat.mul_comm]; exact hi)
  have h2 : i % S < S := Nat.mod_lt _ (by omega)
  have h3 : i % S % m < m := Nat.mod_lt _ (by omega)
  have h4 : i = i / S * S + i % S := by rw [Nat.mul_comm]; exact (Nat.div_add_mod i S).symm
  have hk : (harpF f (m : Int)).kinds = redL f m (fun i => i) (R * m) := by
    unfold harpF
    rw [show f.rings.toNat = R by omega, show ((m : Int)).toNat = m by omega]
  have h5 : i / S * m + i % S % m < R * m := by
    have : (i / S + 1) * m ≤ R * m := Nat.mul_le_mul_right _ h1
    rw [Nat.succ_mul] at this
    omega
  rw [hk, nth_redL f m _ _ _ h5]
  have e1 : (i / S * m + i % S % m) / m = i / S := by rw [Nat.add_comm, Nat.add_mul_div_right _ _ (by omega), Nat.div_eq_of_lt h3, Nat.zero_add]
  have e2 : (i / S * m + i % S % m) % m = i % S % m := by rw [Nat.add_comm, Nat.add_mul_mod_self_right, Nat.mod_eq_of_lt h3]
  rw [e1, e2]
  unfold kat
  have e3 : (((i / S : Nat) : Int) * f.sectors + ((i % S % m : Nat) : Int)).toNat = i / S * S + i % S % m := by
    rw [hS, ← Int.natCast_mul, ← Int.natCast_add, Int.toNat_natCast]
  rw [e3]
  generalize i / S = r at *
  generalize i % S = s at *
  rw [h4]
  rcases p3 with p3 | p3
  · have : m = S := by omega
    subst this
    rw [Nat.mod_eq_of_lt h2]
  · by_cases hpS : perN f < S
    · by_cases hp2 : 2 ≤ perN f
      · have e4 : m = perN f := by omega
        rw [e4]
        exact per_mod hv R S _ hR hS hpS p1 p3 r h1 s h2
      · have e4 : perN f = 1 := by omega
        have e5 := per_mod hv R S _ hR hS hpS p1 p3 r h1
        rw [e5 s h2, e5 (s % m) (by omega), e4, Nat.mod_one, Nat.mod_one]
    · have : m = S := by omega
      subst this
      rw [Nat.mod_eq_of_lt h2]
theorem harpF_valid {f : Fc} (hv : validB f = true) : validB (harpF f (max (perN f : Nat) 2)) = true := by
  obtain ⟨R, S, hR, hS, h1, h2, h3, h4, h5, h6, h7⟩ := dims hv
  obtain ⟨p1, p2, -, -⟩ := perN_is hv
  obtain ⟨m, hm⟩ := Int.eq_ofNat_of_zero_le (show 0 ≤ max ((perN f : Nat) : Int) 2 by omega)
  have e : harpF f (max (perN f : Nat) 2) = { eye := f.eye, rings := f.rings, sectors := (m : Nat), kinds := redL f m (fun i => i) (R * m) } := by
    unfold harpF
    rw [hm, h6, Int.toNat_natCast]
  rw [e]
  exact valid_red hv m _ (fun s hs => by omega) R hR (by omega) (by omega)

end Go.Proofs.YteajlfgnhjalnaaDoor

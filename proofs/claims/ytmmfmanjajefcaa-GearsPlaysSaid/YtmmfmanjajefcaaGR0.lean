/- Layer 7: the bell: mathematics alone. -/
import Derived.Test.YtmmfmanjajefcaaGS
set_option linter.all false
namespace Go.Proofs.Ytmmfmanjajefcaa
open Go.RowKit

theorem ri_bad {m h d k : Int} (hr : riE m h d k ≠ 0) : (feedB h d k = false ∧ riE m h d k = 33) ∨ (feedB h d k = true ∧ riE m h d k = 72 ∧ m < 1) := by
  unfold riE at hr ⊢
  cases hf : feedB h d k
  · left; exact ⟨rfl, rfl⟩
  · right
    rw [hf] at hr
    by_cases h1 : m < 1
    · rw [if_pos rfl, if_pos h1]; exact ⟨rfl, rfl, h1⟩
    · rw [if_pos rfl, if_neg h1] at hr; exact absurd rfl hr

structure BellOk (m h d k n : Int) : Prop where
  f : feedB h d k = true
  m1 : 1 ≤ m
  e : riE m h d k = 0
  v : riV m h d k = n
  n0 : 0 ≤ n
  n1 : n ≤ 1000000
  dr : drE h d k n = 0 ∧ drL h d k n < m
  b4 : 0 < n → drE h d k (n - 1) = 0 ∧ m ≤ drL h d k (n - 1)
  more : riE (m + 1) h d k = 0 ∧ riV (m + 1) h d k ≤ n
  kk : inB k 0 1000000 = true

theorem bell_ok {m h d k : Int} (hr : riE m h d k = 0) : ∃ n, BellOk m h d k n := by
  unfold riE at hr
  cases hf : feedB h d k
  · rw [hf, if_neg (by decide)] at hr; exact absurd hr (by decide)
  rw [hf, if_pos rfl] at hr
  by_cases h1 : m < 1
  · rw [if_pos h1] at hr; exact absurd hr (by decide)
  obtain ⟨⟨a0, a1⟩, ⟨b0, b1⟩, k0, k1⟩ := feedB_iff.1 hf
  have hkk : inB k 0 1000000 = true := inB_iff.2 (by omega)
  have em : riE (m + 1) h d k = 0 := by unfold riE; rw [hf, if_pos rfl, if_neg (by omega)]
  have ee : riE m h d k = 0 := by unfold riE; rw [hf, if_pos rfl, if_neg h1]
  have dr0 : ∀ n : Int, 0 ≤ n → n ≤ 1000000 → drE h d k n = 0 ∧ drL h d k n = h - min h (d * n) := by
    intro n g0 g1
    have hn : inB n 0 1000000 = true := inB_iff.2 ⟨g0, g1⟩
    unfold drE drL
    rw [hf, hn]; exact ⟨rfl, rfl⟩
  by_cases h2 : h < m
  · refine ⟨0, hf, by omega, ee, ?_, by omega, by omega, ?_, fun h => absurd h (by omega), ⟨em, ?_⟩, hkk⟩
    · unfold riV; rw [hf, if_pos rfl, if_neg h1, if_pos h2]
    · obtain ⟨p, q⟩ := dr0 0 (by omega) (by omega)
      refine ⟨p, ?_⟩
      rw [q, Int.mul_zero]; omega
    · unfold riV; rw [hf, if_pos rfl, if_neg (by omega), if_pos (by omega)]; exact Int.le_refl _
  · obtain ⟨q, hq⟩ : ∃ q, (h - m) / d = q := ⟨_, rfl⟩
    have q0 : 0 ≤ q := by rw [← hq]; exact Int.ediv_nonneg (by omega) (by omega)
    have q1 : q ≤ h - m := by rw [← hq]; exact Int.ediv_le_self _ (by omega)
    have q2 : d * q ≤ h - m := by rw [← hq]; exact Int.mul_ediv_self_le (by omega)
    have q3 : h - m < d * (q + 1) := by
      have := Int.lt_mul_ediv_self_add (x := h - m) (k := d) (by omega)
      rw [hq] at this
      rw [Int.mul_add, Int.mul_one]; exact this
    refine ⟨q + 1, hf, by omega, ee, ?_, by omega, by omega, ?_, fun _ => ?_, ⟨em, ?_⟩, hkk⟩
    · unfold riV; rw [hf, if_pos rfl, if_neg h1, if_neg h2, hq]
    · obtain ⟨p, q⟩ := dr0 (q + 1) (by omega) (by omega)
      refine ⟨p, ?_⟩
      rw [q]; omega
    · rw [show q + 1 - 1 = q by omega]
      obtain ⟨p, q⟩ := dr0 q (by omega) (by omega)
      refine ⟨p, ?_⟩
      rw [q]; omega
    · unfold riV
      rw [hf, if_pos rfl, if_neg (by omega)]
      by_cases h3 : h < m + 1
      · rw [if_pos h3]; omega
      · rw [if_neg h3]
        have := Int.ediv_le_ediv (show (0:Int) < d by omega) (show h - (m + 1) ≤ h - m by omega)
        rw [hq] at this
        omega

theorem rOf_cop {N D : Nat} (hD : 0 < D) (h1 : N ≤ 1000000000) (h2 : D ≤ 1000000000) (hg : N.gcd D = 1) : rOf N D = ⟨(N : Int), (D : Int), 0⟩ := by
  obtain ⟨a, b, c⟩ := lw_of (N := N) (D := D) (n := N) (d := D) hD ⟨h1, hD, h2, hg⟩ rfl
  unfold rOf lwE
  rw [a, b, c]; rfl
theorem tm_one {N D : Nat} (hN : 0 < N) (hN2 : N ≤ 1000000000) (hD : 0 < D) (hD2 : D ≤ 1000000000) (hg : N.gcd D = 1) : tmR (D : Int) (N : Int) (N : Int) (D : Int) = ⟨1, 1, 0⟩ ∧ tmR (N : Int) (D : Int) (D : Int) (N : Int) = ⟨1, 1, 0⟩ := by
  have hv1 := rtB_nat hN2 hD hD2 hg
  have hv2 := rtB_nat hD2 hN hN2 (by rw [Nat.gcd_comm]; exact hg)
  have h1 : rOf (D * N) (N * D) = rOf 1 1 := rOf_is ⟨Nat.mul_pos hN hD, by decide, by rw [Nat.mul_one, Nat.one_mul, Nat.mul_comm]⟩
  have h2 : rOf (N * D) (D * N) = rOf 1 1 := rOf_is ⟨Nat.mul_pos hD hN, by decide, by rw [Nat.mul_one, Nat.one_mul, Nat.mul_comm]⟩
  have h3 : rOf 1 1 = ⟨1, 1, 0⟩ := by kernel_rfl
  constructor
  · rw [tm_val hv2 hv1]; simp only [Int.toNat_natCast]; rw [h1, h3]
  · rw [tm_val hv1 hv2]; simp only [Int.toNat_natCast]; rw [h2, h3]
theorem ti_rt {ms : List Mh} {h d k : Int} (hf : feedB h d k = true) (hk : inB k 0 1000000 = true) :
    ((rtR ms).e ≠ 0 ∧ (tiR ms h d k k).e = (rtR ms).e) ∨ (∃ N D : Nat, rtR ms = ⟨(N : Int), (D : Int), 0⟩ ∧ tiR ms h d k k = ⟨(D : Int), (N : Int), 0⟩ ∧ tmR (D : Int) (N : Int) (N : Int) (D : Int) = ⟨1, 1, 0⟩) := by
  cases hv : trB ms
  · left
    unfold rtR tiR
    rw [hv]; exact ⟨by rw [if_neg (by decide)]; decide, rfl⟩
  · rcases rt_two hv with ⟨h1, h2⟩ | ⟨h1, N, D, h2, a0, a1, b0, b1, hg, -⟩
    · left
      refine ⟨h1, ?_⟩
      unfold tiR
      rw [hv, hf, hk, if_pos rfl, if_pos rfl, if_pos rfl, if_neg h1, h2]; rfl
    · right
      refine ⟨N, D, h2, ?_, (tm_one a0 a1 b0 b1 hg).1⟩
      unfold tiR
      rw [hv, hf, hk, if_pos rfl, if_pos rfl, if_pos rfl, if_pos h1, h2]
      simp only [Int.toNat_natCast]
      obtain ⟨-, -, k0, k1⟩ := feedB_iff.1 hf
      obtain ⟨K, rfl⟩ := Int.eq_ofNat_of_zero_le (show 0 ≤ k by omega)
      simp only [Int.toNat_natCast]
      have e : rOf (K * D) (K * N) = rOf D N := rOf_is ⟨Nat.mul_pos (by omega) a0, a0, by rw [Nat.mul_comm K D, Nat.mul_assoc]⟩
      rw [e]
      exact rOf_cop a0 b1 a1 (by rw [Nat.gcd_comm]; exact hg)
end Go.Proofs.Ytmmfmanjajefcaa

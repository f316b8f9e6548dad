/- Layer 7: all sectors at which the runner may stand: mathematics alone. -/
import Derived.Test.YtmmfmanjajefcaaHS2
import Derived.Test.YtmmfmanjajefcaaHA0
set_option linter.all false
namespace Go.Proofs.Ytmmfmanjajefcaa
open Go.RowKit

theorem hm_shift {P S D n d k : Nat} (hD : 0 < D) : hmI (P + D * k) S D n d = hmI P S D n d + ((k * S : Nat) : Int) ∧ fmN (P + D * k) S D = fmN P S D + k * S := by
  have e : (P + D * k) * S = P * S + D * (k * S) := by rw [Nat.add_mul, Nat.mul_assoc]
  unfold hmI fmN
  rw [e, Nat.add_mul_div_left _ _ hD, Nat.add_mul_mod_self_left]
  refine ⟨?_, rfl⟩
  generalize P * S / D = a
  generalize P * S % D = r
  generalize n * S / d = b
  generalize n * S % d = q
  generalize k * S = x
  split <;> omega
theorem hm_up {P P' S D n d : Nat} (hD : 0 < D) (hd : 0 < d) (h : P ≤ P') : hmI P S D n d ≤ hmI P' S D n d := by
  refine (hm_iff hD hd _).2 (Int.le_trans ((hm_iff hD hd _).1 (Int.le_refl _)) ?_)
  have h1 : P * S * d ≤ P' * S * d := Nat.mul_le_mul_right _ (Nat.mul_le_mul_right _ h)
  exact Int.sub_le_sub_right (Int.ofNat_le.2 h1) _
theorem cl_le {k D S P : Nat} (hD : 0 < D) (hS : 0 < S) : clP k D S ≤ P ↔ k ≤ fmN P S D := by
  unfold clP fmN
  rw [Nat.le_div_iff_mul_le hD]
  constructor
  · intro h
    have := (Nat.div_lt_iff_lt_mul hS).1 (Nat.lt_succ_of_le h)
    rw [Nat.succ_mul] at this
    omega
  · intro h
    refine Nat.lt_succ_iff.1 ((Nat.div_lt_iff_lt_mul hS).2 ?_)
    rw [Nat.succ_mul]
    omega
/-- where the runner may stand after some parts, it may stand modulo the sectors -/
theorem may_of {N D n d S z P : Nat} {x : Int} (hD : 0 < D) (hd : 0 < d) (hS : 0 < S) (hz : x % (S : Int) = (z : Int)) (h1 : hmI P S D n d ≤ x) (h2 : x ≤ ((fmN P S D : Nat) : Int)) : mayB N D n d S z = true := by
  unfold mayB
  rw [decide_eq_true_iff]
  have hx := Int.mul_ediv_add_emod x (S : Int)
  rw [hz] at hx
  obtain ⟨t, ht⟩ : ∃ t, x / (S : Int) = t := ⟨_, rfl⟩
  rw [ht] at hx
  by_cases h0 : 0 ≤ t
  · obtain ⟨u, rfl⟩ := Int.eq_ofNat_of_zero_le h0
    have e1 : x = ((z + u * S : Nat) : Int) := by rw [← hx]; push_cast; rw [Int.mul_comm]; omega
    have h3 : z + u * S ≤ fmN P S D := by omega
    have h4 : clP (z + u * S) D S ≤ P := (cl_le hD hS).2 h3
    have h5 : clP (z + u * S) D S = clP z D S + D * u := by
      unfold clP
      rw [show (z + u * S) * D + S - 1 = z * D + S - 1 + S * (D * u) by
        have : (z + u * S) * D = z * D + S * (D * u) := by grind
        omega]
      rw [Nat.add_mul_div_left _ _ hS]
    rw [h5] at h4
    have h6 := hm_up (n := n) (d := d) (S := S) hD hd h4
    rw [(hm_shift hD).1] at h6
    omega
  · obtain ⟨u, hu⟩ := Int.eq_ofNat_of_zero_le (show 0 ≤ -t by omega)
    have e1 : x + ((u * S : Nat) : Int) = (z : Int) := by
      have : t = -(u : Int) := by omega
      subst this
      rw [← hx]; push_cast; rw [Int.mul_neg, Int.mul_comm]; omega
    have hs := hm_shift (P := P) (S := S) (D := D) (n := n) (d := d) (k := u) hD
    have h3 : z ≤ fmN (P + D * u) S D := by rw [hs.2]; omega
    have h6 := hm_up (n := n) (d := d) (S := S) hD hd ((cl_le hD hS).2 h3)
    rw [hs.1] at h6
    omega
theorem rn_err (ms : List Mh) (s t : Int) : (rnE ms s t = 0 → rnE ms s 0 = 0) ∧ (rnE ms s t ≠ 0 → rnE ms s t = 1 ∨ rnE ms s 0 = rnE ms s t) := by
  unfold rnE
  cases trB ms
  · exact ⟨fun h => h, fun _ => .inr rfl⟩
  · rw [if_pos rfl, if_pos rfl]
    have h0 : inB 0 0 1000000 = true := by decide
    cases hs : inB s 2 96 <;> cases ht : inB t 0 1000000 <;> simp [h0]
theorem rn_more {ms : List Mh} {s t u : Int} (h : rnE ms s t = 0) (hu : inB u 0 1000000 = true) : rnE ms s u = 0 := by
  unfold rnE at h ⊢
  cases hv : trB ms
  · rw [hv, if_neg (by decide)] at h; exact absurd h (by decide)
  · rw [hv, if_pos rfl] at h
    rw [if_pos rfl]
    cases hs : inB s 2 96
    · rw [hs] at h; simp at h
    · cases ht : inB t 0 1000000
      · rw [hs, ht] at h; simp at h
      · rw [hs, ht, if_pos (by decide)] at h
        rw [hu, if_pos (by decide)]; exact h
/-- after a period more -/
theorem wh_per {ms : List Mh} {s t : Int} (h : rnE ms s t = 0) (hok : shOk ms (ms.length + 1)) (hp : prE ms = 0) (hn : (prV ms : Int) ≤ 1000000 - t) :
    ∃ u : Nat, ∃ S : Nat, s = (S : Int) ∧ 2 ≤ S ∧ 0 < u ∧ (whR ms s (t + (prV ms : Int))).e = 0 ∧ (whR ms s (t + (prV ms : Int))).n = (whR ms s t).n + ((u * S : Nat) : Int) ∧ (whR ms s (t + (prV ms : Int))).d = (whR ms s t).d + ((u * S : Nat) : Int) := by
  obtain ⟨N, D, n, d, S, T, hr⟩ := rn_zero h
  rcases pr_two hr.val hok with hx | ⟨-, hp1, -, hd⟩
  · rw [hx] at hp; exact absurd hp (by decide)
  obtain ⟨q, hq⟩ := hd ms.length (by omega)
  rw [hr.sh] at hq
  simp only at hq
  have hT := hr.tee
  have h2 : rnE ms s (t + (prV ms : Int)) = 0 := rn_more h (inB_iff.2 (by omega))
  have hr2 : RunOk ms s (t + (prV ms : Int)) N D n d S (T + prV ms) := ⟨hr.val, hr.sec, by rw [hT]; omega, hr.S2, hr.S96, by omega, hr.sh, hr.pl, hr.rt, hr.rp, hr.pos, hr.trn, hr.play⟩
  have hq0 : 0 < q := by
    rcases Nat.eq_zero_or_pos q with e | e
    · rw [e, Nat.mul_zero] at hq; omega
    · exact e
  refine ⟨q * N, S, hr.sec, hr.S2, Nat.mul_pos hq0 hr.pos, ?_, ?_, ?_⟩
  · rw [wh_ok h2 hr2]; rfl
  · rw [wh_ok h2 hr2, wh_ok h hr]
    unfold spR
    have e : (T + prV ms) * N = T * N + D * (q * N) := by rw [hq]; grind
    rw [e]
    exact (hm_shift hr.rt.2.1).1
  · rw [wh_ok h2 hr2, wh_ok h hr]
    unfold spR
    have e : (T + prV ms) * N = T * N + D * (q * N) := by rw [hq]; grind
    rw [e]
    show ((fmN (T * N + D * (q * N)) S D : Nat) : Int) = _
    rw [(hm_shift (n := n) (d := d) hr.rt.2.1).2]
    push_cast; rfl
/-- the numbers below S for which something holds increase, and are below S -/
theorem filt_get (p : Nat → Bool) (S : Nat) : ∀ i (h : i < ((List.range S).filter p).length), ((List.range S).filter p)[i] < S ∧ ∀ h0 : 0 < i, ((List.range S).filter p)[i - 1] < ((List.range S).filter p)[i] := by
  intro i h
  have hm := List.getElem_mem h
  rw [List.mem_filter, List.mem_range] at hm
  refine ⟨hm.1, fun h0 => ?_⟩
  have hp : ((List.range S).filter p).Pairwise (· < ·) := List.Pairwise.filter _ List.pairwise_lt_range
  exact (List.pairwise_iff_getElem.1 hp) (i - 1) i (by omega) h (by omega)
theorem tmod_emod {x : Int} {S : Nat} (hS : 0 < S) : -(S : Int) < x.tmod (S : Int) ∧ x.tmod (S : Int) < (S : Int) ∧ (x.tmod (S : Int) + (S : Int)) % (S : Int) = x % (S : Int) := by
  have h1 : (0 : Int) < (S : Int) := by omega
  have h2 := Int.tmod_lt_of_pos x h1
  have h3 : -(S : Int) < x.tmod (S : Int) := by
    have := Int.lt_tmod_of_pos x h1
    omega
  refine ⟨h3, h2, ?_⟩
  rw [Int.add_emod_right]
  rw [Int.tmod_eq_emod]
  split
  · simp
  · have e : ((S : Int).natAbs : Int) = (S : Int) := by simp
    rw [show (((S : Int).natAbs : Nat) : Int) = (S : Int) from e]
    rw [Int.sub_emod_right, Int.emod_emod_of_dvd _ (Int.dvd_refl _)]
/-- each place after some teeth is among all -/
theorem al_has {ms : List Mh} {s t x : Int} (h : rnE ms s t = 0) (h1 : (whR ms s t).n ≤ x) (h2 : x ≤ (whR ms s t).d) : x % s ∈ nats (alV ms s) := by
  obtain ⟨N, D, n, d, S, T, hr⟩ := rn_zero h
  have h0 := (rn_err ms s t).1 h
  have hr0 : RunOk ms s 0 N D n d S 0 := ⟨hr.val, hr.sec, rfl, hr.S2, hr.S96, by omega, hr.sh, hr.pl, hr.rt, hr.rp, hr.pos, hr.trn, hr.play⟩
  rw [wh_ok h hr] at h1 h2
  rw [al_ok h0 hr0, hr.sec]
  have S0 : 0 < S := by have := hr.S2; omega
  have e0 : 0 ≤ x % (S : Int) := Int.emod_nonneg _ (by omega)
  have e1 : x % (S : Int) < (S : Int) := Int.emod_lt_of_pos _ (by omega)
  obtain ⟨z, hz⟩ := Int.eq_ofNat_of_zero_le e0
  rw [hz]
  unfold nats mayL
  rw [List.mem_map]
  refine ⟨z, ?_, rfl⟩
  rw [List.mem_filter, List.mem_range]
  exact ⟨by omega, may_of hr.rt.2.1 hr.rp.2.1 S0 hz h1 h2⟩
end Go.Proofs.Ytmmfmanjajefcaa

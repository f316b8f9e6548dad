/- Layer 2: a pair laid together: cells, lists of moves. -/
import Derived.Test.YtikfiallhmhicaaGreatC25
set_option linter.all false
namespace Go.Proofs.YtikfiallhmhicaaGreat
open Go.RowKit


theorem arnd_bd {n m : Int} (h : 0 < m) : 0 ≤ arnd n m ∧ arnd n m < m := ⟨Int.emod_nonneg _ (by omega), Int.emod_lt_of_pos _ h⟩
theorem cells_bd {R S a b : Int} (hS : 2 ≤ S ∧ S ≤ 96) (hR : R ≤ 24) (ha : 0 ≤ a ∧ a < R) (hb : 0 ≤ b ∧ b < S) : (0 ≤ a * S ∧ a * S ≤ 2304) ∧ 0 ≤ a * S + b ∧ a * S + b < R * S := by
  obtain ⟨m1, m2⟩ := mul_bd (a := a) (b := S) (m := 24) (n := 96) (by omega) (by omega) (by omega) (by omega)
  have h1 : a * S ≤ (R - 1) * S := Int.mul_le_mul_of_nonneg_right (by omega) (by omega)
  have h2 : (R - 1) * S = R * S - S := by rw [Int.sub_mul, Int.one_mul]
  exact ⟨⟨m1, by omega⟩, by omega, by omega⟩
theorem kinds_nth {l : List Int} (h : kindsB l = true) {k : Nat} (hk : k < l.length) : 0 ≤ nth l k ∧ nth l k ≤ 2 := by
  cases hq : inB (nth l k) 0 2
  · rw [kindsB_false l k hk hq] at h; cases h
  · exact inB_iff.1 hq
/-- where the cells below and above a state lie, and their kinds -/
theorem over_bd {p : Pr} {s : St3} (h0 : ckE p = 0) (hs : hasB p s = true) :
    ∃ n m : Nat, belowI p s = (n : Int) ∧ aboveI p s = (m : Int) ∧ n < p.bed.kinds.length ∧ m < p.run.kinds.length ∧ bedK p s = nth p.bed.kinds n ∧ runK p s = nth p.run.kinds m ∧ (0 ≤ bedK p s ∧ bedK p s ≤ 2) ∧ 0 ≤ runK p s ∧ runK p s ≤ 2 := by
  obtain ⟨hR, hS, -, -, -, -, l1, l2⟩ := ckE_bd h0
  obtain ⟨c1, c2, c3⟩ := hasB_parts.1 hs
  have ha := arnd_bd (n := s.sector - s.turn) (m := p.bed.sectors) (by omega)
  obtain ⟨-, m3, m4⟩ := cells_bd hS hR.2 c1 c2
  obtain ⟨-, m5, m6⟩ := cells_bd hS hR.2 c1 ha
  obtain ⟨h1, -, -⟩ := ckE_zero h0
  obtain ⟨f1, f2, -⟩ := fitB_parts h1
  obtain ⟨-, -, k1⟩ := validB_parts f1
  obtain ⟨-, -, k2⟩ := validB_parts f2
  obtain ⟨n, hn⟩ := Int.eq_ofNat_of_zero_le (show 0 ≤ belowI p s from m3)
  obtain ⟨m, hm⟩ := Int.eq_ofNat_of_zero_le (show 0 ≤ aboveI p s from m5)
  have hn2 : n < p.bed.kinds.length := by have : belowI p s < p.bed.rings * p.bed.sectors := m4; omega
  have hm2 : m < p.run.kinds.length := by have : aboveI p s < p.bed.rings * p.bed.sectors := m6; omega
  have e1 : bedK p s = nth p.bed.kinds n := by unfold bedK; rw [hn]; rfl
  have e2 : runK p s = nth p.run.kinds m := by unfold runK; rw [hm]; rfl
  exact ⟨n, m, hn, hm, hn2, hm2, e1, e2, by rw [e1]; exact kinds_nth k1 hn2, by rw [e2]; exact kinds_nth k2 hm2⟩
end Go.Proofs.YtikfiallhmhicaaGreat

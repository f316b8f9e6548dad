/- Sizes: halving, the mathematics. -/
import Derived.Test.YtikfiallhmhicaaGreatBase
namespace Go.Proofs.YtikfiallhmhicaaGreat
open Go.RowKit

/-- the size after so many cuts -/
def hvN : Nat → Int → Int
  | 0, s => s
  | t + 1, s => if 1 < s then hvN t ((s + 1) / 2) else s
theorem hvN_one {s : Int} (h : s ≤ 1) : ∀ t, hvN t s = s
  | 0 => rfl
  | t + 1 => by rw [hvN, if_neg (by omega)]
theorem hvN_add : ∀ (a b : Nat) (s : Int), hvN (a + b) s = hvN b (hvN a s)
  | 0, b, s => by rw [Nat.zero_add]; rfl
  | a + 1, b, s => by
    rw [show a + 1 + b = (a + b) + 1 by omega]
    by_cases h : 1 < s
    · rw [hvN, if_pos h, hvN, if_pos h]; exact hvN_add a b _
    · rw [hvN_one (by omega), hvN_one (s := s) (by omega) (a + 1), hvN_one (by omega)]
theorem hvN_bd : ∀ (a : Nat) (s : Int), 1 ≤ s → 1 ≤ hvN a s ∧ hvN a s ≤ s
  | 0, s, h => ⟨h, Int.le_refl _⟩
  | a + 1, s, h => by
    by_cases h1 : 1 < s
    · rw [hvN, if_pos h1]
      have := hvN_bd a ((s + 1) / 2) (by omega)
      omega
    · rw [hvN_one (by omega)]; omega
theorem hvN_mono : ∀ (a : Nat) (s o : Int), 1 ≤ s → s ≤ o → hvN a s ≤ hvN a o
  | 0, s, o, _, h => h
  | a + 1, s, o, h0, h => by
    by_cases h1 : 1 < s
    · rw [hvN, if_pos h1, hvN, if_pos (by omega)]
      exact hvN_mono a _ _ (by omega) (by omega)
    · rw [hvN_one (s := s) (by omega)]
      have := hvN_bd (a + 1) o (by omega)
      omega
def szOk (s t : Int) : Bool := inB s 1 4095 && inB t 0 70000
/-- what is told of a size and a number of cuts -/
def hvE (s t : Int) : Int := if szOk s t = true then 0 else 1
def hvV (s t : Int) : Int := if szOk s t = true then hvN t.toNat s else 0
theorem szOk_iff {s t : Int} : szOk s t = true ↔ (1 ≤ s ∧ s ≤ 4095) ∧ 0 ≤ t ∧ t ≤ 70000 := by unfold szOk; rw [Bool.and_eq_true, inB_iff, inB_iff]

end Go.Proofs.YtikfiallhmhicaaGreat

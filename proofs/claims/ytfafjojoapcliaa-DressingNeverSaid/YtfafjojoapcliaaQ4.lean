/- How often a plan covers each cell: the specification's side. -/
import Derived.Test.YtfafjojoapcliaaQ3b
namespace Go.Proofs.Ytfafjojoapcliaa
open Go.RowKit

theorem rcov_bd {p : List Int} {W n i k : Nat} (hc : cntB p 100000 = true) (hp : p.length ≤ 400) (hi : i ≤ p.length) (hk : k < n) : 0 ≤ nth (rcovTo p W n i) k ∧ nth (rcovTo p W n i) k ≤ 40000000 := by
  rw [rcovTo_nth _ _ _ _ _ hk]
  have h1 := pre_mono hc (by omega) (show min i (k + 1 - W) ≤ min (k + 1) i by omega)
  have h2 := pre_bd hc (by omega) (min (k + 1) i)
  have h3 := pre_bd hc (by omega) (min i (k + 1 - W))
  have h4 : ((min (k + 1) i : Nat) : Int) * 100000 ≤ 400 * 100000 := by omega
  omega
theorem addTo_at (c : List Int) (i : Nat) (x : Int) (q : Nat) (hq : q < c.length) : nth (addTo c i x (q - i)) q = nth c q := by
  rw [addTo_nth _ _ _ _ _ hq, if_neg (by omega)]; omega

end Go.Proofs.Ytfafjojoapcliaa

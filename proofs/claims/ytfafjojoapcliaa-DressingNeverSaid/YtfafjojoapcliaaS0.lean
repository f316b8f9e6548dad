/- Prices: what they are, what a first cell gains, and their value. -/
import Derived.Test.YtfafjojoapcliaaR13
namespace Go.Proofs.Ytfafjojoapcliaa
open Go.RowKit

/-- prices as a value -/
def IsPrices (w : World) (B : Nat) (v : Value) (l h : List Int) : Prop := ∃ s1 s2, v = .agg #[s1, s2] ∧ Ints w B s1 l ∧ Ints w B s2 h
theorem IsPrices.mono {w w' : World} {B B' : Nat} {v : Value} {l h : List Int} (hx : IsPrices w B v l h) (hb : Below B w w') (hB : B ≤ B') : IsPrices w' B' v l h := by
  obtain ⟨s1, s2, rfl, h1, h2⟩ := hx
  exact ⟨s1, s2, rfl, h1.mono hb hB, h2.mono hb hB⟩
theorem IsPrices.later {w w1 : World} {v : Value} {l h : List Int} (hx : IsPrices w w.heap.size v l h) (hb : Below w.heap.size w w1) : IsPrices w1 w1.heap.size v l h := hx.mono hb hb.size

def xOk (n : Nat) (l h : List Int) : Bool := decide (l.length = n) && decide (h.length = n) && cntB l 100000 && cntB h 100000
theorem xOk_iff {n : Nat} {l h : List Int} : xOk n l h = true ↔ l.length = n ∧ h.length = n ∧ cntB l 100000 = true ∧ cntB h 100000 = true := by
  unfold xOk; simp [and_assoc]
/-- what a first cell gains -/
def gainAt (l h : List Int) (W k : Nat) : Int := pre l (k + W) - pre l k - (pre h (k + W) - pre h k)
def gainTo (l h : List Int) (W : Nat) (most : Int) (m : Nat) : Bool := (List.range m).all fun k => decide (gainAt l h W k ≤ most)
theorem gainTo_succ (l h : List Int) (W : Nat) (most : Int) (m : Nat) : gainTo l h W most (m + 1) = (gainTo l h W most m && decide (gainAt l h W m ≤ most)) := by
  unfold gainTo; rw [List.range_succ, List.all_append]; simp
theorem gainTo_false {l h : List Int} {W k m : Nat} {most : Int} (hk : k < m) (hg : most < gainAt l h W k) : gainTo l h W most m = false := by
  unfold gainTo
  rw [List.all_eq_false]
  exact ⟨k, List.mem_range.2 hk, by simp; omega⟩
theorem gainTo_at {l h : List Int} {W k m : Nat} {most : Int} (hg : gainTo l h W most m = true) (hk : k < m) : gainAt l h W k ≤ most := by
  by_cases h : most < gainAt l h W k
  · rw [gainTo_false hk h] at hg; cases hg
  · omega
/-- the value of prices -/
def valTo (nd : List (Int × Int)) (l h : List Int) : Nat → Int
  | 0 => 0
  | i + 1 => valTo nd l h i + ((nthP nd i).1 * nth l i - (nthP nd i).2 * nth h i)
theorem prod_bd {a b : Int} (h1 : 0 ≤ a) (h2 : a ≤ 100000) (h3 : 0 ≤ b) (h4 : b ≤ 100000) : 0 ≤ a * b ∧ a * b ≤ 10000000000 := mul_bd (m := 100000) (n := 100000) h1 h3 h2 h4
theorem valTo_bd {nd : List (Int × Int)} {l h : List Int} (hn : nd.all okP = true) (hl : cntB l 100000 = true) (hh : cntB h 100000 = true) (i : Nat) (hi : i ≤ nd.length) :
    -(i * 10000000000) ≤ valTo nd l h i ∧ valTo nd l h i ≤ i * 10000000000 := by
  induction i with
  | zero => simp [valTo]
  | succ i ih =>
    have h1 := ih (by omega)
    have h2 := ordB_iff.1 (allP_at hn (k := i) (by omega))
    have h3 := cntB_nth hl i (by omega)
    have h4 := cntB_nth hh i (by omega)
    have h5 := prod_bd (a := (nthP nd i).1) (b := nth l i) (by omega) (by omega) h3.1 h3.2
    have h6 := prod_bd (a := (nthP nd i).2) (b := nth h i) (by omega) (by omega) h4.1 h4.2
    rw [valTo]
    have e : ((i + 1 : Nat) : Int) * 10000000000 = i * 10000000000 + 10000000000 := by omega
    omega

set_option maxRecDepth 100000 in
set_option maxHeartbeats 4000000 in
theorem arePrices_c (t : Tk) (l h : List Int) (v u : Value) (w : World) (ht : IsTask w w.heap.size v t) (hx : IsPrices w w.heap.size u l h) :
    Calls Try.prog 36 #[v, u] w fun e w' => e = .returned (.bool (xOk t.need.length l h)) ∧ Below w.heap.size w w' := by
  obtain ⟨s, rfl, A, c, rfl, hcap, hcell⟩ := ht
  obtain ⟨s1, s2, rfl, hl, hh⟩ := hx
  have HLI := Lib.hid hl
  have HHI := Lib.hid hh
  obtain ⟨-, A1, c1, rfl, -, -⟩ := hl
  obtain ⟨-, A2, c2, rfl, -, -⟩ := hh
  have HB := Lib.hid (show Below w.heap.size w ((w.alloc (.cells #[.int .i64 t.wide, .slice A t.need.length c] 24)).alloc (.cells #[.slice A1 l.length c1, .slice A2 h.length c2] 35)) from ((Below.refl _ _).alloc (Nat.le_refl _) _).alloc (by simp) _)
  clear hcap hcell
  by_cases h1 : l.length = t.need.length
  case neg =>
    have z : ((l.length : Int) == (t.need.length : Int)) = false := by simp; omega
    have z2 : (l.length == t.need.length) = false := by simp; omega
    have HX := Lib.hid (show xOk t.need.length l h = false by unfold xOk; simp [h1])
    clear h1
    go_enter Try.func36, Try.ntmps36
    go_wp2_with fail
    go_ret
    exact ⟨ret_bool HX.out.symm, HB.out⟩
  have z : ((l.length : Int) == (t.need.length : Int)) = true := by simp; omega
  have z2 : (l.length == t.need.length) = true := by simp; omega
  by_cases h2 : h.length = t.need.length
  case neg =>
    have z3 : ((h.length : Int) == (t.need.length : Int)) = false := by simp; omega
    have z4 : (h.length == t.need.length) = false := by simp; omega
    have HX := Lib.hid (show xOk t.need.length l h = false by unfold xOk; simp [h2])
    clear h1 h2
    go_enter Try.func36, Try.ntmps36
    go_wp2_with fail
    go_ret
    exact ⟨ret_bool HX.out.symm, HB.out⟩
  have z3 : ((h.length : Int) == (t.need.length : Int)) = true := by simp; omega
  have z4 : (h.length == t.need.length) = true := by simp; omega
  have HX := Lib.hid (show xOk t.need.length l h = (cntB l 100000 && cntB h 100000) by unfold xOk; simp [h1, h2])
  clear h1 h2
  go_enter Try.func36, Try.ntmps36
  go_wp2_with fail
  refine (allWithin_c l 100000 _ _ (HLI.out.mono HB.out HB.out.size)).mono ?_; rintro e w3 ⟨rfl, rfl⟩
  cases q1 : cntB l 100000
  · have HX2 := Lib.hid (show xOk t.need.length l h = false by rw [HX.out, q1]; rfl)
    clear q1
    go_wp2_with fail
    go_ret
    exact ⟨ret_bool HX2.out.symm, HB.out⟩
  · have HX2 := Lib.hid (show xOk t.need.length l h = cntB h 100000 by rw [HX.out, q1]; rfl)
    clear q1
    go_wp2_with fail
    refine (allWithin_c h 100000 _ _ (HHI.out.mono HB.out HB.out.size)).mono ?_; rintro e w3 ⟨rfl, rfl⟩
    cases q2 : cntB h 100000
    · have HX3 := Lib.hid (show xOk t.need.length l h = false by rw [HX2.out, q2])
      clear q2
      go_wp2_with fail
      go_ret
      exact ⟨ret_bool HX3.out.symm, HB.out⟩
    · have HX3 := Lib.hid (show xOk t.need.length l h = true by rw [HX2.out, q2])
      clear q2
      go_wp2_with fail
      go_ret
      exact ⟨ret_bool HX3.out.symm, HB.out⟩

end Go.Proofs.Ytfafjojoapcliaa

/- Spans, heights and depths. -/
import Derived.Test.YtfhbpeafapabhaaV0
namespace Go.Proofs.Ytfhbpeafapabhaa
open Go.RowKit

/-- a span as a value -/
abbrev spanV (lo hi : Int) : Value := .agg #[.int .i64 lo, .int .i64 hi]

/-- a span is one and lies between two numbers -/
def ordB (lo hi a b : Int) : Bool := decide (a ≤ lo) && decide (lo ≤ hi) && decide (hi ≤ b)
theorem ordB_iff {lo hi a b : Int} : ordB lo hi a b = true ↔ a ≤ lo ∧ lo ≤ hi ∧ hi ≤ b := by unfold ordB; simp [and_assoc]

set_option maxHeartbeats 1000000 in
theorem inOrder_c (lo hi a b : Int) (w : World) :
    Calls Try.prog 72 #[spanV lo hi, .int .i64 a, .int .i64 b] w fun e w' => e = .returned (.bool (ordB lo hi a b)) ∧ Below w.heap.size w w' := by
  by_cases h1 : a ≤ lo
  · by_cases h2 : lo ≤ hi
    · by_cases h3 : hi ≤ b
      · have H := Lib.hid (show ordB lo hi a b = true by simp [ordB, h1, h2, h3])
        have e1 : decide (a ≤ lo) = true := by simpa using h1
        have e2 : decide (lo ≤ hi) = true := by simpa using h2
        have e3 : decide (hi ≤ b) = true := by simpa using h3
        go_enter Try.func72, Try.ntmps72
        go_wp2
        go_ret
        exact ⟨ret_bool H.out.symm, (Below.refl _ _).alloc (Nat.le_refl _) _⟩
      · have H := Lib.hid (show ordB lo hi a b = false by simp [ordB, h3])
        have e1 : decide (a ≤ lo) = true := by simpa using h1
        have e2 : decide (lo ≤ hi) = true := by simpa using h2
        have e3 : decide (hi ≤ b) = false := by simpa using h3
        go_enter Try.func72, Try.ntmps72
        go_wp2
        go_ret
        exact ⟨ret_bool H.out.symm, (Below.refl _ _).alloc (Nat.le_refl _) _⟩
    · have H := Lib.hid (show ordB lo hi a b = false by simp [ordB, h2])
      have e1 : decide (a ≤ lo) = true := by simpa using h1
      have e2 : decide (lo ≤ hi) = false := by simpa using h2
      go_enter Try.func72, Try.ntmps72
      go_wp2
      go_ret
      exact ⟨ret_bool H.out.symm, (Below.refl _ _).alloc (Nat.le_refl _) _⟩
  · have H := Lib.hid (show ordB lo hi a b = false by simp [ordB, h1])
    have e1 : decide (a ≤ lo) = false := by simpa using h1
    go_enter Try.func72, Try.ntmps72
    go_wp2
    go_ret
    exact ⟨ret_bool H.out.symm, (Below.refl _ _).alloc (Nat.le_refl _) _⟩

set_option maxHeartbeats 1000000 in
theorem rIsHeight_c (lo hi : Int) (w : World) :
    Calls Try.prog 89 #[spanV lo hi] w fun e w' => e = .returned (.bool (ordB lo hi (-1000000000) 1000000000)) ∧ Below w.heap.size w w' := by
  by_cases h1 : (-1000000000) ≤ lo
  · by_cases h2 : lo ≤ hi
    · by_cases h3 : hi ≤ 1000000000
      · have H := Lib.hid (show ordB lo hi (-1000000000) 1000000000 = true by simp [ordB, h1, h2, h3])
        have e1 : decide ((-1000000000) ≤ lo) = true := by simpa using h1
        have e2 : decide (lo ≤ hi) = true := by simpa using h2
        have e3 : decide (hi ≤ 1000000000) = true := by simpa using h3
        go_enter Try.func89, Try.ntmps89
        go_wp2
        go_ret
        exact ⟨ret_bool H.out.symm, (Below.refl _ _).alloc (Nat.le_refl _) _⟩
      · have H := Lib.hid (show ordB lo hi (-1000000000) 1000000000 = false by simp [ordB, h3])
        have e1 : decide ((-1000000000) ≤ lo) = true := by simpa using h1
        have e2 : decide (lo ≤ hi) = true := by simpa using h2
        have e3 : decide (hi ≤ 1000000000) = false := by simpa using h3
        go_enter Try.func89, Try.ntmps89
        go_wp2
        go_ret
        exact ⟨ret_bool H.out.symm, (Below.refl _ _).alloc (Nat.le_refl _) _⟩
    · have H := Lib.hid (show ordB lo hi (-1000000000) 1000000000 = false by simp [ordB, h2])
      have e1 : decide ((-1000000000) ≤ lo) = true := by simpa using h1
      have e2 : decide (lo ≤ hi) = false := by simpa using h2
      go_enter Try.func89, Try.ntmps89
      go_wp2
      go_ret
      exact ⟨ret_bool H.out.symm, (Below.refl _ _).alloc (Nat.le_refl _) _⟩
  · have H := Lib.hid (show ordB lo hi (-1000000000) 1000000000 = false by simp [ordB, h1])
    have e1 : decide ((-1000000000) ≤ lo) = false := by simpa using h1
    go_enter Try.func89, Try.ntmps89
    go_wp2
    go_ret
    exact ⟨ret_bool H.out.symm, (Below.refl _ _).alloc (Nat.le_refl _) _⟩

set_option maxHeartbeats 1000000 in
theorem rIsDepth_c (lo hi : Int) (w : World) :
    Calls Try.prog 90 #[spanV lo hi] w fun e w' => e = .returned (.bool (ordB lo hi 1 1000000000)) ∧ Below w.heap.size w w' := by
  by_cases h1 : 1 ≤ lo
  · by_cases h2 : lo ≤ hi
    · by_cases h3 : hi ≤ 1000000000
      · have H := Lib.hid (show ordB lo hi 1 1000000000 = true by simp [ordB, h1, h2, h3])
        have e1 : decide (1 ≤ lo) = true := by simpa using h1
        have e2 : decide (lo ≤ hi) = true := by simpa using h2
        have e3 : decide (hi ≤ 1000000000) = true := by simpa using h3
        go_enter Try.func90, Try.ntmps90
        go_wp2
        go_ret
        exact ⟨ret_bool H.out.symm, (Below.refl _ _).alloc (Nat.le_refl _) _⟩
      · have H := Lib.hid (show ordB lo hi 1 1000000000 = false by simp [ordB, h3])
        have e1 : decide (1 ≤ lo) = true := by simpa using h1
        have e2 : decide (lo ≤ hi) = true := by simpa using h2
        have e3 : decide (hi ≤ 1000000000) = false := by simpa using h3
        go_enter Try.func90, Try.ntmps90
        go_wp2
        go_ret
        exact ⟨ret_bool H.out.symm, (Below.refl _ _).alloc (Nat.le_refl _) _⟩
    · have H := Lib.hid (show ordB lo hi 1 1000000000 = false by simp [ordB, h2])
      have e1 : decide (1 ≤ lo) = true := by simpa using h1
      have e2 : decide (lo ≤ hi) = false := by simpa using h2
      go_enter Try.func90, Try.ntmps90
      go_wp2
      go_ret
      exact ⟨ret_bool H.out.symm, (Below.refl _ _).alloc (Nat.le_refl _) _⟩
  · have H := Lib.hid (show ordB lo hi 1 1000000000 = false by simp [ordB, h1])
    have e1 : decide (1 ≤ lo) = false := by simpa using h1
    go_enter Try.func90, Try.ntmps90
    go_wp2
    go_ret
    exact ⟨ret_bool H.out.symm, (Below.refl _ _).alloc (Nat.le_refl _) _⟩

set_option maxHeartbeats 1000000 in
theorem isHeight_c (lo hi : Int) (w : World) :
    Calls Try.prog 87 #[spanV lo hi] w fun e w' => e = .returned (.bool (ordB lo hi (-1000000000) 1000000000)) ∧ Below w.heap.size w w' := by
  go_enter Try.func87, Try.ntmps87
  go_wp2_with (go_at_call 72; refine (inOrder_c _ _ _ _ _).mono ?_; rintro e w1 ⟨rfl, hb⟩; obtain ⟨hc, hf⟩ := bcell hb)
  go_ret
  exact ⟨rfl, boxed hb⟩

set_option maxHeartbeats 1000000 in
theorem isDepth_c (lo hi : Int) (w : World) :
    Calls Try.prog 88 #[spanV lo hi] w fun e w' => e = .returned (.bool (ordB lo hi 1 1000000000)) ∧ Below w.heap.size w w' := by
  go_enter Try.func88, Try.ntmps88
  go_wp2_with (go_at_call 72; refine (inOrder_c _ _ _ _ _).mono ?_; rintro e w1 ⟨rfl, hb⟩; obtain ⟨hc, hf⟩ := bcell hb)
  go_ret
  exact ⟨rfl, boxed hb⟩

def inB (n a b : Int) : Bool := decide (a ≤ n) && decide (n ≤ b)
set_option maxHeartbeats 1000000 in
theorem rwithin_c (n a b : Int) (w : World) :
    Calls Try.prog 73 #[.int .i64 n, .int .i64 a, .int .i64 b] w fun e w' => e = .returned (.bool (inB n a b)) ∧ w = w' := by
  by_cases h1 : a ≤ n
  · have H := Lib.hid (show inB n a b = decide (n ≤ b) by simp [inB, h1])
    have e1 : decide (a ≤ n) = true := by simpa using h1
    go_enter Try.func73, Try.ntmps73
    go_wp2
    go_ret
    exact ⟨ret_bool H.out.symm, rfl⟩
  · have H := Lib.hid (show inB n a b = false by simp [inB, h1])
    have e1 : decide (a ≤ n) = false := by simpa using h1
    go_enter Try.func73, Try.ntmps73
    go_wp2
    go_ret
    exact ⟨ret_bool H.out.symm, rfl⟩

end Go.Proofs.Ytfhbpeafapabhaa

/- How many strokes a height needs. -/
import Derived.Test.YtfhbpeafapabhaaV2
namespace Go.Proofs.Ytfhbpeafapabhaa
open Go.RowKit

theorem qneg {n b : Int} (hb : 1 ≤ b) : -((b - 1 - n) / b) = n / b := by
  have h0 : 0 < b := by omega
  have e1 := Int.emod_add_mul_ediv n b
  have e2 := Int.emod_add_mul_ediv (b - 1 - n) b
  have a1 := Int.emod_nonneg n (show b ≠ 0 by omega)
  have a2 := Int.emod_lt_of_pos n h0
  have c1 := Int.emod_nonneg (b - 1 - n) (show b ≠ 0 by omega)
  have c2 := Int.emod_lt_of_pos (b - 1 - n) h0
  generalize n / b = q at *
  generalize (b - 1 - n) / b = r at *
  generalize n % b = x at *
  generalize (b - 1 - n) % b = y at *
  have hs : b * (q + r) = b - 1 - x - y := by rw [Int.mul_add]; omega
  have hlo : -1 < q + r := by
    refine Int.lt_of_mul_lt_mul_left (a := b) ?_ (by omega)
    rw [hs]; omega
  have hhi : q + r < 1 := by
    refine Int.lt_of_mul_lt_mul_left (a := b) ?_ (by omega)
    rw [hs]; omega
  omega

theorem ediv_bounds {a b A : Int} (h0 : 0 ≤ a) (h1 : a ≤ A) (hb : 1 ≤ b) : 0 ≤ a / b ∧ a / b ≤ A :=
  ⟨Int.ediv_nonneg h0 (by omega), Int.le_trans (Int.ediv_le_self b h0) h1⟩

set_option maxHeartbeats 1000000 in
theorem quotient_c (n b : Int) (hn : -4000000000 ≤ n) (hn2 : n ≤ 4000000000) (hb : 1 ≤ b) (hb2 : b ≤ 1000000000) (w : World) :
    Calls Try.prog 91 #[.int .i64 n, .int .i64 b] w fun e w' => e = .returned (.int .i64 (n / b)) ∧ w = w' := by
  by_cases h : n < 0
  · have H := Lib.hid (qneg (n := n) hb)
    obtain ⟨q0, q1⟩ := ediv_bounds (a := b - 1 - n) (b := b) (A := 5000000000) (by omega) (by omega) hb
    have e1 : decide (n < 0) = true := by simpa using h
    have hb0 : b ≠ 0 := by omega
    go_enter Try.func91, Try.ntmps91
    go_wp2
    go_ret
    exact ⟨ret_int H.out, rfl⟩
  · have e1 : decide (n < 0) = false := by simpa using h
    obtain ⟨q0, q1⟩ := ediv_bounds (a := n) (b := b) (A := 5000000000) (by omega) (by omega) hb
    have hb0 : b ≠ 0 := by omega
    have hn0 : 0 ≤ n := by omega
    go_enter Try.func91, Try.ntmps91
    go_wp2
    go_ret
    exact ⟨rfl, rfl⟩

set_option maxHeartbeats 2000000 in
theorem common_c (l0 h0 l1 h1 l2 h2 : Int) (g : Nat) (w : World) (hg : g < w.heap.size) (c0 : w.cell? ⟨g, 0, none⟩ = some (.int .i64 l1)) (c1 : w.cell? ⟨g, 1, none⟩ = some (.int .i64 h1))
    (c2 : w.cell? ⟨g, 2, none⟩ = some (.int .i64 l2)) (c3 : w.cell? ⟨g, 3, none⟩ = some (.int .i64 h2)) :
    Calls Try.prog 92 #[spanV l0 h0, .slice (some ⟨g, 0, none⟩) 2 2] w fun e w' => e = .returned (spanV (max (max l0 l1) l2) (min (min h0 h1) h2)) ∧ Below w.heap.size w w' := by
  have k3 : ∀ (j : Nat) (v : Value), w.cell? ⟨g, j, none⟩ = some v → ∀ o1 o2 o3 : Obj, (((w.alloc o1).alloc o2).alloc o3).cell? ⟨g, j, none⟩ = some v := fun j v hv o1 o2 o3 => by
    have hb : Below w.heap.size w (((w.alloc o1).alloc o2).alloc o3) := (((Below.refl _ _).alloc (Nat.le_refl _) _).alloc (by simp) _).alloc (by simp; omega) _
    exact (hb.cell (p := ⟨g, j, none⟩) hg).trans hv
  have f2 := k3 2 _ c2
  have f3 := k3 3 _ c3
  have hne : g ≠ w.heap.size := by omega
  have hne1 : g ≠ w.heap.size + 1 := by omega
  clear k3
  go_enter Try.func92, Try.ntmps92
  go_wp2
  refine Eng.wp_loop_round ?_
  go_wp2
  all_goals (refine Eng.wpI_round ?_; go_wp2)
  all_goals (refine Eng.wpI_round ?_; go_wp2)
  all_goals
    refine bodyPost_ret (v := spanV (max (max l0 l1) l2) (min (min h0 h1) h2)) (by simp [results, Try.results92, go_sem]; omega) rfl ⟨rfl, ?_⟩
    repeat (first | exact Below.refl _ _ | refine Below.alloc ?_ (by simp; try omega) _ | refine Below.setCell ?_ (by simp; try omega) _)
end Go.Proofs.Ytfhbpeafapabhaa

/- Layer 3: numbers between bounds, sizes, and halving walked. -/
import Derived.Test.YtikfiallhmhicaaGreatHM
import Derived.Laws.MakeOwn
namespace Go.Proofs.YtikfiallhmhicaaGreat
open Go.RowKit

set_option maxHeartbeats 1000000 in
theorem rwithin_c (n a b : Int) (w : World) :
    Calls Tryz.prog 28 #[.int .i64 n, .int .i64 a, .int .i64 b] w fun e w' => e = .returned (.bool (inB n a b)) ∧ w = w' := by
  by_cases h1 : a ≤ n
  · have H := Lib.hid (show inB n a b = decide (n ≤ b) by simp [inB, h1])
    have e1 : decide (a ≤ n) = true := by simpa using h1
    go_enter Tryz.func28, Tryz.ntmps28
    go_wp2
    go_ret
    exact ⟨ret_bool H.out.symm, rfl⟩
  · have H := Lib.hid (show inB n a b = false by simp [inB, h1])
    have e1 : decide (a ≤ n) = false := by simpa using h1
    go_enter Tryz.func28, Tryz.ntmps28
    go_wp2
    go_ret
    exact ⟨ret_bool H.out.symm, rfl⟩
theorem rwithin_b (n a b : Int) (r : Bool) (h : inB n a b = r) (w : World) : Calls Tryz.prog 28 #[.int .i64 n, .int .i64 a, .int .i64 b] w fun e w' => e = .returned (.bool r) ∧ w = w' :=
  (rwithin_c n a b w).mono fun _ _ ⟨h1, h2⟩ => ⟨h1.trans (ret_bool h), h2⟩

/-- a span is one, and its greatest number is at most so much -/
def spB (a b m : Int) : Bool := decide (1 ≤ a) && decide (a ≤ b) && decide (b ≤ m)
set_option maxHeartbeats 1000000 in
theorem isSpan_c (a b m : Int) (w : World) :
    Calls Tryz.prog 30 #[.agg #[.int .i64 a, .int .i64 b], .int .i64 m] w fun e w' => e = .returned (.bool (spB a b m)) ∧ Below w.heap.size w w' := by
  by_cases h1 : 1 ≤ a
  · by_cases h2 : a ≤ b
    · have H := Lib.hid (show spB a b m = decide (b ≤ m) by simp [spB, h1, h2])
      have e1 : decide (1 ≤ a) = true := by simpa using h1
      have e2 : decide (a ≤ b) = true := by simpa using h2
      clear h1 h2
      go_enter Tryz.func30, Tryz.ntmps30
      go_wp2
      go_ret
      exact ⟨ret_bool H.out.symm, (Below.refl _ _).alloc (Nat.le_refl _) _⟩
    · have H := Lib.hid (show spB a b m = false by simp [spB, h1, h2])
      have e1 : decide (1 ≤ a) = true := by simpa using h1
      have e2 : decide (a ≤ b) = false := by simpa using h2
      clear h1 h2
      go_enter Tryz.func30, Tryz.ntmps30
      go_wp2
      go_ret
      exact ⟨ret_bool H.out.symm, (Below.refl _ _).alloc (Nat.le_refl _) _⟩
  · have H := Lib.hid (show spB a b m = false by simp [spB, h1])
    have e1 : decide (1 ≤ a) = false := by simpa using h1
    clear h1
    go_enter Tryz.func30, Tryz.ntmps30
    go_wp2
    go_ret
    exact ⟨ret_bool H.out.symm, (Below.refl _ _).alloc (Nat.le_refl _) _⟩
theorem spB_same (a m : Int) : spB a a m = inB a 1 m := by unfold spB inB; simp
set_option maxHeartbeats 1000000 in
theorem isSize_c (s : Int) (w : World) : Calls Tryz.prog 26 #[.int .i64 s] w fun e w' => e = .returned (.bool (inB s 1 4095)) ∧ Below w.heap.size w w' := by
  have H := Lib.hid (spB_same s 4095)
  go_enter Tryz.func26, Tryz.ntmps26
  go_wp2_with fail
  refine (isSpan_c s s 4095 w).mono ?_; rintro e w1 ⟨rfl, hb1⟩
  go_wp2_with fail
  go_ret
  exact ⟨ret_bool H.out, hb1⟩

theorem hvN_up (k : Nat) (s : Int) : hvN (k + 1) s = if 1 < s then hvN k ((s + 1) / 2) else s := rfl
set_option maxHeartbeats 4000000 in
theorem halved_c (s t : Int) (w : World) (h : szOk s t = true) : Calls Tryz.prog 27 #[.int .i64 s, .int .i64 t] w fun e w' => e = .returned (.int .i64 (hvN t.toNat s)) ∧ w = w' := by
  obtain ⟨⟨s1, s2⟩, t1, t2⟩ := szOk_iff.1 h
  obtain ⟨T, rfl⟩ : ∃ T : Nat, t = (T : Int) := ⟨t.toNat, by omega⟩
  clear h
  rw [Int.toNat_natCast]
  have HT := Lib.hid (show T ≤ 70000 by omega)
  have HS := Lib.hid (And.intro s1 s2)
  clear s1 s2 t1 t2
  go_enter Tryz.func27, Tryz.ntmps27
  go_wp2_with fail
  go_loopw [0, 1] (fun sv tv wr => ∃ (k : Nat) (x : Int), k ≤ T ∧ sv = .int .i64 x ∧ tv = .int .i64 (k : Int) ∧ 1 ≤ x ∧ x ≤ 4095 ∧ hvN k x = hvN T s ∧ w = wr) (fun _ tv _ => (intOf tv).toNat)
  case atStart => exact ⟨T, s, Nat.le_refl _, rfl, rfl, HS.out.1, HS.out.2, rfl, rfl⟩
  case round =>
    obtain ⟨k, x, hk, rfl, rfl, x1, x2, hx, rfl⟩ := hrel
    have HK := Lib.hid hk
    have HX := Lib.hid hx
    have K2 : k ≤ 70000 := by have := HT.out; omega
    clear hk hx
    by_cases hk0 : 0 < k
    · obtain ⟨j, rfl⟩ : ∃ j, k = j + 1 := ⟨k - 1, by omega⟩
      have d0 : decide ((0 : Int) < (((j + 1 : Nat) : Int))) = true := decide_eq_true (by omega)
      have d0' : decide ((0 : Int) < (j : Int) + 1) = true := decide_eq_true (by omega)
      clear hk0
      by_cases hx1 : 1 < x
      · have d1 : decide (1 < x) = true := by simpa using hx1
        have w1 : IntKind.i64.wrap (x + 1) = x + 1 := wrap_id (by omega) (by omega)
        have HN := Lib.hid (show hvN j ((x + 1) / 2) = hvN T s by rw [← HX.out, hvN_up, if_pos hx1])
        have HQ := Lib.hid (show 1 ≤ (x + 1) / 2 ∧ (x + 1) / 2 ≤ 4095 by omega)
        go_wp2_with fail
        go_roundw
        case rel => exact ⟨j, (x + 1) / 2, by have := HK.out; omega, by go_num, by go_num, HQ.out.1, HQ.out.2, HN.out, by first | trivial | rfl⟩
        case measure => simp [intOf]
      · have d1 : decide (1 < x) = false := by simpa using hx1
        have HN := Lib.hid (show x = hvN T s by rw [← HX.out, hvN_up, if_neg hx1])
        go_wp2_with fail
        go_ret
        first | exact ⟨ret_int HN.out, rfl⟩ | exact ⟨ret_int HN.out, trivial⟩
    · obtain rfl : k = 0 := by omega
      have d0 : decide ((0 : Int) < ((0 : Nat) : Int)) = false := by simp
      have HN := Lib.hid (show x = hvN T s by rw [← HX.out]; rfl)
      clear hk0
      go_wp2_with fail
      go_ret
      first | exact ⟨ret_int HN.out, rfl⟩ | exact ⟨ret_int HN.out, trivial⟩
end Go.Proofs.YtikfiallhmhicaaGreat

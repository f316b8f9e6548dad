/- Layer 3: the specification: sizes after cuts. -/
import Derived.Test.YtikfiallhmhicaaGreatI0
set_option linter.all false
namespace Go.Proofs.YtikfiallhmhicaaGreat
open Go.RowKit

set_option maxRecDepth 100000 in
set_option maxHeartbeats 8000000 in
theorem rhalved_c (s t : Int) (w : World) (h : szOk s t = true) : Calls Tryz.prog 29 #[.int .i64 s, .int .i64 t] w fun e w' => e = .returned (.int .i64 (hvN t.toNat s)) ∧ w = w' := by
  obtain ⟨⟨s1, s2⟩, t1, t2⟩ := szOk_iff.1 h
  obtain ⟨T, rfl⟩ : ∃ T : Nat, t = (T : Int) := ⟨t.toNat, by omega⟩
  clear h
  rw [Int.toNat_natCast]
  have HT := Lib.hid (show T ≤ 70000 by omega)
  have HS := Lib.hid (And.intro s1 s2)
  clear s1 s2 t1 t2
  go_enter Tryz.func29, Tryz.ntmps29
  go_wp2_with fail
  go_loopw [0, 5] (fun sv iv wr => ∃ (k : Nat) (x : Int), k ≤ T ∧ sv = .int .i64 x ∧ iv = .int .i64 (k : Int) ∧ 1 ≤ x ∧ x ≤ 4095 ∧ hvN (T - k) x = hvN T s ∧ w = wr) (fun _ iv _ => T - (intOf iv).toNat)
  case atStart => exact ⟨0, s, Nat.zero_le _, rfl, rfl, HS.out.1, HS.out.2, rfl, rfl⟩
  case round =>
    obtain ⟨k, x, hk, rfl, rfl, x1, x2, hx, rfl⟩ := hrel
    have HK := Lib.hid hk
    have HX := Lib.hid hx
    have K2 : k ≤ 70000 := by have := HT.out; omega
    clear hk hx
    by_cases hk0 : k < T
    · have d0 : decide ((k : Int) < (T : Int)) = true := by simpa using hk0
      have HK0 := Lib.hid hk0
      have HTK := Lib.hid (show T - k = T - (k + 1) + 1 by omega)
      clear hk0
      by_cases hx1 : 1 < x
      · have d1 : decide (1 < x) = true := by simpa using hx1
        have w1 : IntKind.i64.wrap (x + 1) = x + 1 := wrap_id (by omega) (by omega)
        have HN := Lib.hid (show hvN (T - (k + 1)) ((x + 1) / 2) = hvN T s by rw [← HX.out, HTK.out, hvN_up, if_pos hx1])
        have HQ := Lib.hid (show 1 ≤ (x + 1) / 2 ∧ (x + 1) / 2 ≤ 4095 by omega)
        go_wp2_with fail
        go_roundw
        case rel => exact ⟨k + 1, (x + 1) / 2, by have := HK0.out; omega, by go_num, by go_num, HQ.out.1, HQ.out.2, HN.out, by first | trivial | rfl⟩
        case measure => have := HK0.out; simp [intOf]; omega
      · have d1 : decide (1 < x) = false := by simpa using hx1
        have HN := Lib.hid (show x = hvN T s by rw [← HX.out, HTK.out, hvN_up, if_neg hx1])
        go_wp2_with fail
        go_ret
        first | exact ⟨ret_int HN.out, rfl⟩ | exact ⟨ret_int HN.out, trivial⟩
    · obtain rfl : k = T := by have := HK.out; omega
      have d0 : decide ((k : Int) < (k : Int)) = false := by simp
      have HN := Lib.hid (show x = hvN k s by rw [← HX.out, Nat.sub_self]; rfl)
      clear hk0
      go_wp2_with fail
      go_ret
      first | exact ⟨ret_int HN.out, rfl⟩ | exact ⟨ret_int HN.out, trivial⟩

end Go.Proofs.YtikfiallhmhicaaGreat

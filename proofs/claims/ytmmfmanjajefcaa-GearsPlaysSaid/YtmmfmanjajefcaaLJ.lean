/- Layer 7: when teeth meet, as the specification has it; speeds and times, on both sides. -/
import Derived.Test.YtmmfmanjajefcaaLI
set_option linter.all false
namespace Go.Proofs.Ytmmfmanjajefcaa
open Go.RowKit

set_option maxRecDepth 100000 in
set_option maxHeartbeats 4000000 in
theorem rMeets_c (a b p t c : Int) (w : World) : Calls Try.prog 35 #[.agg #[.int .i64 a, .int .i64 b, .int .i64 p], .int .i64 t, .int .i64 c] w fun e w' => e = .returned (.tuple #[.int .i64 (meV a b p t c), .int .i64 (meE a b p t c)]) ∧ Below w.heap.size w w' := by
  go_enter Try.func35, Try.ntmps35
  go_wp2_with fail
  obtain ⟨W1, hW2⟩ : ∃ X, (w.alloc (.cells #[.int .i64 a, .int .i64 b, .int .i64 p] 37)) = X := ⟨_, rfl⟩
  have B3 := Lib.hid (show Below w.heap.size w W1 by rw [← hW2]; exact ((Below.refl w.heap.size w).alloc (Nat.le_refl _) _))
  have X4 := Lib.hid (show Box W1 (w.heap.size) 37 #[.int .i64 a, .int .i64 b, .int .i64 p] by rw [← hW2]; exact Box.made w 37 #[.int .i64 a, .int .i64 b, .int .i64 p])
  rw [hW2]
  clear hW2
  have q5 : W1.cell? ⟨w.heap.size, 0, none⟩ = some (.int .i64 a) := X4.out.cell 0
  have q6 : W1.cell? ⟨w.heap.size, 1, none⟩ = some (.int .i64 b) := X4.out.cell 1
  have q7 : W1.cell? ⟨w.heap.size, 2, none⟩ = some (.int .i64 p) := X4.out.cell 2
  go_wp2_with fail
  refine (rGrips_c a b p _).mono ?_; rintro e v8 ⟨rfl, hb9⟩
  have X10 := Lib.hid (X4.out.later hb9)
  have B11 := Lib.hid (B3.out.trans (hb9.mono B3.out.size))
  clear hb9
  clear q5 q6 q7
  have q12 : v8.cell? ⟨w.heap.size, 0, none⟩ = some (.int .i64 a) := X10.out.cell 0
  have q13 : v8.cell? ⟨w.heap.size, 1, none⟩ = some (.int .i64 b) := X10.out.cell 1
  have q14 : v8.cell? ⟨w.heap.size, 2, none⟩ = some (.int .i64 p) := X10.out.cell 2
  cases hv : meshB a b p
  · have HG := Lib.hid (show huE a b p = 70 by unfold huE; rw [hv]; rfl)
    have e1 : (huE a b p != 0) = true := by rw [HG.out]; rfl
    have HE := Lib.hid (show meE a b p t c = 70 by unfold meE; rw [hv]; rfl)
    have HR := Lib.hid (show meV a b p t c = 0 by unfold meV; rw [HE.out]; rfl)
    rw [HG.out]
    clear e1 hv
    go_wp2_with fail
    go_ret2
    exact ⟨by rw [HR.out, HE.out]; rfl, B11.out⟩
  · have HV := Lib.hid hv
    have HG := Lib.hid (show huE a b p = 0 ∧ grV a b p = (grip a.toNat b.toNat : Nat) by unfold huE grV; rw [hv]; exact ⟨rfl, rfl⟩)
    rw [HG.out.1, HG.out.2]
    obtain ⟨X, Y, rfl, rfl, x0, x1, y0, y1⟩ := mesh_nat hv
    have HXY := Lib.hid (show 0 < X ∧ X ≤ 4096 ∧ 0 < Y ∧ Y ≤ 4096 by omega)
    rw [Int.toNat_natCast, Int.toNat_natCast]
    have wX : IntKind.i64.wrap ((X : Int) - 1) = (X : Int) - 1 := wrap_id (by omega) (by omega)
    have wY : IntKind.i64.wrap ((Y : Int) - 1) = (Y : Int) - 1 := wrap_id (by omega) (by omega)
    clear x0 x1 y0 y1 hv
    go_wp2_with fail
    refine (within_c t 0 ((X : Int) - 1) _).mono ?_; rintro e v15 ⟨rfl, rfl⟩
    cases ht : inB t 0 ((X : Int) - 1)
    · have HE := Lib.hid (show meE (X : Int) (Y : Int) p t c = 1 by unfold meE; rw [HV.out, ht]; rfl)
      have HR := Lib.hid (show meV (X : Int) (Y : Int) p t c = 0 by unfold meV; rw [HE.out]; rfl)
      clear ht
      go_wp2_with fail
      go_ret2
      exact ⟨by rw [HR.out, HE.out]; rfl, B11.out⟩
    · have HT := Lib.hid ht
      clear ht
      go_wp2_with fail
      refine (within_c c 0 ((Y : Int) - 1) _).mono ?_; rintro e v16 ⟨rfl, rfl⟩
      cases hc : inB c 0 ((Y : Int) - 1)
      · have HE := Lib.hid (show meE (X : Int) (Y : Int) p t c = 1 by unfold meE; rw [HV.out, HT.out, hc]; rfl)
        have HR := Lib.hid (show meV (X : Int) (Y : Int) p t c = 0 by unfold meV; rw [HE.out]; rfl)
        clear hc
        go_wp2_with fail
        go_ret2
        exact ⟨by rw [HR.out, HE.out]; rfl, B11.out⟩
      · have HC := Lib.hid hc
        clear hc
        obtain ⟨T, rfl⟩ : ∃ T : Nat, t = (T : Int) := ⟨t.toNat, by have := inB_iff.1 HT.out; omega⟩
        obtain ⟨C, rfl⟩ : ∃ C : Nat, c = (C : Int) := ⟨c.toNat, by have := inB_iff.1 HC.out; omega⟩
        have HTC := Lib.hid (show T < X ∧ C < Y by have := inB_iff.1 HT.out; have := inB_iff.1 HC.out; omega)
        have HE := Lib.hid (show meE (X : Int) (Y : Int) p (T : Int) (C : Int) = if mtK X Y T C < Y / X.gcd Y then 0 else 3 by unfold meE; rw [HV.out, HT.out, HC.out]; rfl)
        have HAT := Lib.hid (mt_at (R := X) (N := Y) (t := T) (c := C))
        have HBF := Lib.hid (fun k => mt_before (R := X) (N := Y) (t := T) (c := C) (k := k))
        have HLE := Lib.hid (mt_le X Y T C)
        have HG2 := Lib.hid (grip_eq2 X Y)
        have HGL := Lib.hid (show grip X Y ≤ 16777216 by
          rw [← grip_eq]; exact Nat.le_trans (Nat.div_le_self _ _) (Nat.mul_le_mul HXY.out.2.1 HXY.out.2.2.2))
        obtain ⟨K, hK⟩ : ∃ K, mtK X Y T C = K := ⟨_, rfl⟩
        obtain ⟨L, hL⟩ : ∃ L, Y / X.gcd Y = L := ⟨_, rfl⟩
        obtain ⟨n, hn⟩ : ∃ n, grip X Y = n := ⟨_, rfl⟩
        rw [hK, hL] at HE HAT
        rw [hK] at HBF
        rw [hK, hL] at HLE
        rw [hL, hn] at HG2
        rw [hn] at HGL ⊢
        have HVV := Lib.hid (show meE (X : Int) (Y : Int) p (T : Int) (C : Int) = 0 → meV (X : Int) (Y : Int) p (T : Int) (C : Int) = ((T + K * X : Nat) : Int) by
          intro h; unfold meV; rw [h, if_pos rfl, ← hK]; rfl)
        have HV0 := Lib.hid (show meE (X : Int) (Y : Int) p (T : Int) (C : Int) = 3 → meV (X : Int) (Y : Int) p (T : Int) (C : Int) = 0 by
          intro h; unfold meV; rw [h]; rfl)
        have HGN := Lib.hid hn
        clear hK hL hn
        have HX0 := Lib.hid X10.out
        go_wp2_with fail
        go_loopw [10] (fun iv wr => ∃ k : Nat, k ≤ K ∧ iv = .int .i64 ((T + k * X : Nat) : Int) ∧ v8 = wr) (fun iv _ => n + 8192 - (intOf iv).toNat)
        case atStart => exact ⟨0, Nat.zero_le _, by simp, rfl⟩
        case round =>
          obtain ⟨k, hk, rfl, rfl⟩ := hrel
          have hP : mtP X Y T C k = ((T + k * X) % Y == C) := rfl
          have hlt : T + k * X < n ↔ k < L := by
            rw [HG2.out]
            have := HTC.out.1
            constructor
            · intro h
              have h2 : k * X < L * X := by rw [Nat.mul_comm L]; omega
              exact Nat.lt_of_mul_lt_mul_right h2
            · intro h
              have h2 : (k + 1) * X ≤ L * X := Nat.mul_le_mul_right _ h
              rw [Nat.succ_mul, Nat.mul_comm L] at h2
              omega
          have hnx : T + (k + 1) * X = T + k * X + X := by rw [Nat.succ_mul]; omega
          obtain ⟨s, hs⟩ : ∃ s, T + k * X = s := ⟨_, rfl⟩
          rw [hs] at hP hlt hnx ⊢
          obtain ⟨m, hm⟩ : ∃ m, s % Y = m := ⟨_, rfl⟩
          have hml : m < Y := by rw [← hm]; exact Nat.mod_lt _ HXY.out.2.2.1
          have wm : (s : Int) % (Y : Int) = (m : Int) := by rw [← hm]; simp
          rw [hm] at hP
          have y0 : (0 : Int) < (Y : Int) := by have := HXY.out; omega
          have yz : decide ((Y : Int) = 0) = false := by have := HXY.out; simp; omega
          have yz2 : decide (Y = 0) = false := by have := HXY.out; simp; omega
          have wm2 : IntKind.i64.wrap (m : Int) = (m : Int) := by have := HXY.out; exact wrap_id (by omega) (by omega)
          have s0 : (0 : Int) ≤ (s : Int) := by omega
          have HS := Lib.hid hs
          have HNX := Lib.hid hnx
          have HLT := Lib.hid hlt
          clear hs hm hnx hlt
          by_cases hkl : k < L
          · have hsn := HLT.out.2 hkl
            have d1 : decide ((s : Int) < (n : Int)) = true := by simpa using hsn
            have d2 : decide (s < n) = true := by simpa using hsn
            have hsb : s ≤ 16777216 := by have := HGL.out; omega
            by_cases hkK : k = K
            · have hOK : meE (X : Int) (Y : Int) p (T : Int) (C : Int) = 0 := by rw [HE.out, if_pos (by omega)]
              have hmc : m = C := by
                have := HAT.out (by omega)
                rw [← hkK, hP, beq_iff_eq] at this
                exact this
              have e1 : ((m : Int) == (C : Int)) = true := by rw [hmc]; simp
              have HZ := Lib.hid hOK
              have HF := Lib.hid (show T + K * X = s by rw [← hkK]; exact HS.out)
              clear hP hOK hmc hkK hsn hkl
              go_wp2_with fail
              go_ret2
              exact ⟨by rw [HVV.out HZ.out, HZ.out, HF.out]; rfl, B11.out⟩
            · have hmc : m ≠ C := by
                intro h
                have := HBF.out k (by omega)
                rw [hP, h] at this
                simp at this
              have e1 : ((m : Int) == (C : Int)) = false := by rw [beq_eq_false_iff_ne]; omega
              have ws : IntKind.i64.wrap ((s : Int) + (X : Int)) = ((s + X : Nat) : Int) := by rw [show (s : Int) + (X : Int) = ((s + X : Nat) : Int) by simp]; have := HXY.out; exact wrap_id (by omega) (by omega)
              have HKK := Lib.hid (show k + 1 ≤ K by omega)
              have HX1 := Lib.hid HXY.out.1
              clear hP hmc hkK hkl
              go_wp2_with fail
              go_roundw
              case rel => exact ⟨k + 1, HKK.out, by rw [HNX.out]; simp, by first | trivial | rfl⟩
              case measure => have := HX1.out; simp [intOf]; omega
          · have hNO : meE (X : Int) (Y : Int) p (T : Int) (C : Int) = 3 := by
              rw [HE.out, if_neg (by have := HLE.out; omega)]
            have hsn : ¬ s < n := fun h => hkl (HLT.out.1 h)
            have d1 : decide ((s : Int) < (n : Int)) = false := by simpa using hsn
            have d2 : decide (s < n) = false := by simpa using hsn
            have HNO := Lib.hid hNO
            clear hP hNO hsn hkl
            go_wp2_with fail
            go_ret2
            exact ⟨by rw [HV0.out HNO.out, HNO.out]; rfl, B11.out⟩

end Go.Proofs.Ytmmfmanjajefcaa

/- Layer 7: when two teeth meet, on both sides. -/
import Derived.Test.YtmmfmanjajefcaaLG
import Derived.WalkMore
import Derived.ScopeJumps
set_option linter.all false
namespace Go.Proofs.Ytmmfmanjajefcaa
open Go.RowKit

/-- when two teeth meet first, as numbers are -/
def meE (a b p t c : Int) : Int := if meshB a b p then (if inB t 0 (a - 1) && inB c 0 (b - 1) then (if mtK a.toNat b.toNat t.toNat c.toNat < b.toNat / a.toNat.gcd b.toNat then 0 else 3) else 1) else 70
def meV (a b p t c : Int) : Int := if meE a b p t c = 0 then (t.toNat + mtK a.toNat b.toNat t.toNat c.toNat * a.toNat : Nat) else 0

set_option maxRecDepth 100000 in
set_option maxHeartbeats 4000000 in
theorem Meets_c (a b p t c : Int) (w : World) : Calls Try.prog 34 #[.agg #[.int .i64 a, .int .i64 b, .int .i64 p], .int .i64 t, .int .i64 c] w fun e w' => e = .returned (.tuple #[.int .i64 (meV a b p t c), .int .i64 (meE a b p t c)]) ∧ Below w.heap.size w w' := by
  have HB := Lib.hid (show Below w.heap.size w (w.alloc (.cells #[.int .i64 a, .int .i64 b, .int .i64 p] 37)) from (Below.refl _ _).alloc (Nat.le_refl _) _)
  have HX := Lib.hid (Box.made w 37 #[.int .i64 a, .int .i64 b, .int .i64 p])
  cases hv : meshB a b p
  · have HE := Lib.hid (show meE a b p t c = 70 by unfold meE; rw [hv]; rfl)
    have HR := Lib.hid (show meV a b p t c = 0 by unfold meV; rw [HE.out]; rfl)
    go_enter Try.func34, Try.ntmps34
    go_wp2_with fail
    refine wp_scope_straight ?_
    go_wp2_with fail
    refine (isMesh_c a b p _).mono ?_; rintro e w1 ⟨rfl, hb1⟩
    rw [hv]
    have B1 := Lib.hid (HB.out.trans (hb1.mono (by simp)))
    clear hb1 hv
    go_wp2_with fail
    rw [Exit.noGoto_ret]
    go_ret2
    exact ⟨by rw [HR.out, HE.out]; rfl, B1.out⟩
  obtain ⟨X, Y, rfl, rfl, x0, x1, y0, y1⟩ := mesh_nat hv
  have HV := Lib.hid hv
  have HXY := Lib.hid (show 0 < X ∧ X ≤ 4096 ∧ 0 < Y ∧ Y ≤ 4096 by omega)
  clear hv
  have wX : IntKind.i64.wrap ((X : Int) - 1) = (X : Int) - 1 := wrap_id (by omega) (by omega)
  have wY : IntKind.i64.wrap ((Y : Int) - 1) = (Y : Int) - 1 := wrap_id (by omega) (by omega)
  clear x0 x1 y0 y1
  cases ht : inB t 0 ((X : Int) - 1)
  · have HE := Lib.hid (show meE (X : Int) (Y : Int) p t c = 1 by unfold meE; rw [HV.out, ht]; rfl)
    have HR := Lib.hid (show meV (X : Int) (Y : Int) p t c = 0 by unfold meV; rw [HE.out]; rfl)
    go_enter Try.func34, Try.ntmps34
    go_wp2_with fail
    refine wp_scope_straight ?_
    go_wp2_with fail
    refine (isMesh_c (X : Int) (Y : Int) p _).mono ?_; rintro e w1 ⟨rfl, hb1⟩
    rw [HV.out]
    have B1 := Lib.hid (HB.out.trans (hb1.mono (by simp)))
    have X1 := Lib.hid (HX.out.later hb1)
    have c0 : w1.cell? ⟨w.heap.size, 0, none⟩ = some (.int .i64 (X : Int)) := X1.out.cell 0
    have c1 : w1.cell? ⟨w.heap.size, 1, none⟩ = some (.int .i64 (Y : Int)) := X1.out.cell 1
    clear hb1
    go_wp2_with fail
    refine (fromTo_c t 0 ((X : Int) - 1) _).mono ?_; rintro e w2 ⟨rfl, rfl⟩
    rw [ht]
    clear ht
    go_wp2_with fail
    rw [Exit.noGoto_ret]
    go_ret2
    exact ⟨by rw [HR.out, HE.out]; rfl, B1.out⟩
  cases hc : inB c 0 ((Y : Int) - 1)
  · have HE := Lib.hid (show meE (X : Int) (Y : Int) p t c = 1 by unfold meE; rw [HV.out, ht, hc]; rfl)
    have HR := Lib.hid (show meV (X : Int) (Y : Int) p t c = 0 by unfold meV; rw [HE.out]; rfl)
    have HT := Lib.hid ht
    clear ht
    go_enter Try.func34, Try.ntmps34
    go_wp2_with fail
    refine wp_scope_straight ?_
    go_wp2_with fail
    refine (isMesh_c (X : Int) (Y : Int) p _).mono ?_; rintro e w1 ⟨rfl, hb1⟩
    rw [HV.out]
    have B1 := Lib.hid (HB.out.trans (hb1.mono (by simp)))
    have X1 := Lib.hid (HX.out.later hb1)
    have c0 : w1.cell? ⟨w.heap.size, 0, none⟩ = some (.int .i64 (X : Int)) := X1.out.cell 0
    have c1 : w1.cell? ⟨w.heap.size, 1, none⟩ = some (.int .i64 (Y : Int)) := X1.out.cell 1
    clear hb1
    go_wp2_with fail
    refine (fromTo_c t 0 ((X : Int) - 1) _).mono ?_; rintro e w2 ⟨rfl, rfl⟩
    rw [HT.out]
    go_wp2_with fail
    refine (fromTo_c c 0 ((Y : Int) - 1) _).mono ?_; rintro e w2 ⟨rfl, rfl⟩
    rw [hc]
    clear hc
    go_wp2_with fail
    rw [Exit.noGoto_ret]
    go_ret2
    exact ⟨by rw [HR.out, HE.out]; rfl, B1.out⟩
  have HT := Lib.hid ht
  have HC := Lib.hid hc
  obtain ⟨T, rfl⟩ : ∃ T : Nat, t = (T : Int) := ⟨t.toNat, by have := inB_iff.1 ht; omega⟩
  obtain ⟨C, rfl⟩ : ∃ C : Nat, c = (C : Int) := ⟨c.toNat, by have := inB_iff.1 hc; omega⟩
  have HTC := Lib.hid (show T < X ∧ C < Y by have := inB_iff.1 ht; have := inB_iff.1 hc; omega)
  clear ht hc
  have HE := Lib.hid (show meE (X : Int) (Y : Int) p (T : Int) (C : Int) = if mtK X Y T C < Y / X.gcd Y then 0 else 3 by unfold meE; rw [HV.out, HT.out, HC.out]; rfl)
  have HI := Lib.hid (mt_iff (R := X) (N := Y) (t := T) (c := C) HXY.out.2.2.1 HTC.out.2)
  have HG0 := Lib.hid (Nat.gcd_pos_of_pos_right X HXY.out.2.2.1)
  have HAT := Lib.hid (mt_at (R := X) (N := Y) (t := T) (c := C))
  have HBF := Lib.hid (fun k => mt_before (R := X) (N := Y) (t := T) (c := C) (k := k))
  have HLT := Lib.hid (mt_lt (R := X) (N := Y) (t := T) (c := C) HTC.out.1)
  have HGL := Lib.hid (show grip X Y ≤ 16777216 by
    rw [← grip_eq]; exact Nat.le_trans (Nat.div_le_self _ _) (Nat.mul_le_mul HXY.out.2.1 HXY.out.2.2.2))
  have G := Lib.hid (fun v => gcd_c X Y v (by have := HXY.out; omega) (by have := HXY.out; omega))
  obtain ⟨g, hg⟩ : ∃ g, X.gcd Y = g := ⟨_, rfl⟩
  obtain ⟨K, hK⟩ : ∃ K, mtK X Y T C = K := ⟨_, rfl⟩
  rw [hg] at G HG0
  rw [hg, hK] at HE HI HAT HLT
  rw [hK] at HBF
  have HVV := Lib.hid (show meE (X : Int) (Y : Int) p (T : Int) (C : Int) = 0 → meV (X : Int) (Y : Int) p (T : Int) (C : Int) = ((T + K * X : Nat) : Int) by
    intro h; unfold meV; rw [h, if_pos rfl, ← hK]; rfl)
  have HV0 := Lib.hid (show meE (X : Int) (Y : Int) p (T : Int) (C : Int) = 3 → meV (X : Int) (Y : Int) p (T : Int) (C : Int) = 0 by
    intro h; unfold meV; rw [h]; rfl)
  clear hg hK
  have wd : IntKind.i64.wrap ((T : Int) - (C : Int)) = (T : Int) - (C : Int) := by have := HTC.out; have := HXY.out; exact wrap_id (by omega) (by omega)
  have z0 : decide ((g : Int) = 0) = false := by have := HG0.out; simp; omega
  have z1 : decide (g = 0) = false := by have := HG0.out; simp; omega
  have g0 : (0 : Int) < (g : Int) := by have := HG0.out; omega
  have HTM := Lib.hid (Int.dvd_iff_tmod_eq_zero (a := (g : Int)) (b := (T : Int) - (C : Int)))
  obtain ⟨tm, htm⟩ : ∃ tm, ((T : Int) - (C : Int)).tmod (g : Int) = tm := ⟨_, rfl⟩
  have HTQ := Lib.hid htm
  clear htm
  by_cases hKN : K < Y / g
  · have hOK : meE (X : Int) (Y : Int) p (T : Int) (C : Int) = 0 := by rw [HE.out, if_pos hKN]
    have ht0 : (((T : Int) - (C : Int)).tmod (g : Int) != 0) = false := by
      rw [HTM.out.1 (HI.out.1 hKN)]; rfl
    have HKN := Lib.hid (And.intro hKN hOK)
    clear hKN hOK
    go_enter Try.func34, Try.ntmps34
    go_wp2_with fail
    refine wp_scope_jumps 0 (fun a' w' => ∃ (k : Nat) (x0 x4 x5 x9 x10 x11 x12 x13 x14 x15 x16 x17 x18 x19 x20 x21 x22 x23 x24 x25 x26 x27 x28 x29 x30 x31 x32 x33 x34 x35 x36 x37 x38 x39 x40 x41 x42 x43 x44 x45 x46 x47 : Value), a' = { tmps := #[x0, .int .i64 (T : Int), .int .i64 (C : Int), .pointer (some ⟨w.heap.size, 0, none⟩), x4, x5, .int .i64 0, .int .i64 0, .int .i64 ((T + k * X : Nat) : Int), x9, x10, x11, x12, x13, x14, x15, x16, x17, x18, x19, x20, x21, x22, x23, x24, x25, x26, x27, x28, x29, x30, x31, x32, x33, x34, x35, x36, x37, x38, x39, x40, x41, x42, x43, x44, x45, x46, x47], defers := [] } ∧ k ≤ K ∧ Below w.heap.size w w' ∧ Box w' w.heap.size 37 #[.int .i64 (X : Int), .int .i64 (Y : Int), .int .i64 p]) (fun a' _ => T + K * X - (intOf (a'.tmps.getD 8 undef)).toNat) rfl ?_ ?_
    · go_wp2_with fail
      refine (isMesh_c (X : Int) (Y : Int) p _).mono ?_; rintro e w1 ⟨rfl, hb1⟩
      rw [HV.out]
      have B1 := Lib.hid (HB.out.trans (hb1.mono (by simp)))
      have X1 := Lib.hid (HX.out.later hb1)
      have c0 : w1.cell? ⟨w.heap.size, 0, none⟩ = some (.int .i64 (X : Int)) := X1.out.cell 0
      have c1 : w1.cell? ⟨w.heap.size, 1, none⟩ = some (.int .i64 (Y : Int)) := X1.out.cell 1
      clear hb1
      go_wp2_with fail
      refine (fromTo_c (T : Int) 0 ((X : Int) - 1) _).mono ?_; rintro e w2 ⟨rfl, rfl⟩
      rw [HT.out]
      go_wp2_with fail
      refine (fromTo_c (C : Int) 0 ((Y : Int) - 1) _).mono ?_; rintro e w2 ⟨rfl, rfl⟩
      rw [HC.out]
      go_wp2_with fail
      refine (G.out _).mono ?_; rintro e w2 ⟨rfl, hb2⟩
      have B2 := Lib.hid (B1.out.trans (hb2.mono B1.out.size))
      have X2 := Lib.hid (X1.out.later hb2)
      clear hb2 c0 c1
      have c0 : w2.cell? ⟨w.heap.size, 0, none⟩ = some (.int .i64 (X : Int)) := X2.out.cell 0
      have c1 : w2.cell? ⟨w.heap.size, 1, none⟩ = some (.int .i64 (Y : Int)) := X2.out.cell 1
      go_wp2_with fail
      have hKN := HKN.out.1
      have hOK := HKN.out.2
      go_step3
      have hs : T = T := rfl
      have hsb : T ≤ 33554432 := by
        rw [← hs]; have := HLT.out hKN; have := HGL.out; have := HXY.out; have h9 : 0 * X ≤ K * X := Nat.mul_le_mul_right _ (by omega); omega
      have wm : ((T : Int) % (Y : Int)) = ((T % Y : Nat) : Int) := by simp
      obtain ⟨m, hm⟩ : ∃ m, T % Y = m := ⟨_, rfl⟩
      rw [hm] at wm
      have mb : m ≤ 4096 := by rw [← hm]; have := Nat.mod_lt T HXY.out.2.2.1; have := HXY.out; omega
      have wm2 : IntKind.i64.wrap (m : Int) = (m : Int) := wrap_id (by omega) (by omega)
      have y0 : (0 : Int) < (Y : Int) := by have := HXY.out; omega
      have yz : decide ((Y : Int) = 0) = false := by have := HXY.out; simp; omega
      have yz2 : decide (Y = 0) = false := by have := HXY.out; simp; omega
      have HS := Lib.hid hs
      have HM := Lib.hid hm
      have HMB := Lib.hid (And.intro hsb mb)
      have s0 : (0 : Int) ≤ (T : Int) := by omega
      clear hs hm
      have hP : mtP X Y T C 0 = (m == C) := by unfold mtP; rw [← HM.out, ← HS.out]; simp
      by_cases hk : 0 = K
      · have hmc : m = C := by
          have := HAT.out hKN
          rw [← hk, hP, beq_iff_eq] at this
          exact this
        have e1 : ((m : Int) != (C : Int)) = false := by rw [hmc]; simp
        have HZ := Lib.hid hOK
        have HFS := Lib.hid (show T + K * X = T by rw [← HS.out, ← hk]; simp)
        clear hP hmc hk
        go_wp2_with fail
        simp only [Exit.jump]
        go_ret2
        exact ⟨by rw [HVV.out HZ.out, HZ.out, HFS.out]; rfl, B2.out⟩
      · have hmc : m ≠ C := by
          intro h
          have := HBF.out 0 (by omega)
          rw [hP, h] at this
          simp at this
        have e1 : ((m : Int) != (C : Int)) = true := by simp; omega
        have hKK := hk
        have HN := Lib.hid (show T + (0 + 1) * X = T + X by rw [← HS.out, Nat.succ_mul]; first | omega | (simp; done) | (simp; omega))
        have ws : IntKind.i64.wrap ((T : Int) + (X : Int)) = ((T + X : Nat) : Int) := by rw [show (T : Int) + (X : Int) = ((T + X : Nat) : Int) by simp]; have := HXY.out; exact wrap_id (by omega) (by omega)
        have HKK := Lib.hid (show 0 + 1 ≤ K by omega)
        clear hP hmc hk hKK
        go_wp2_with fail
        rw [show (T : Int) + (X : Int) = ((T + (0 + 1) * X : Nat) : Int) by rw [HN.out]; simp]
        go_step3
        refine ⟨rfl, 0 + 1, _, _, _, _, _, _, _, _, _, _, _, _, _, _, _, _, _, _, _, _, _, _, _, _, _, _, _, _, _, _, _, _, _, _, _, _, _, _, _, _, _, _, rfl, HKK.out, B2.out, X2.out⟩
    · rintro a' w' ⟨k, x0, x4, x5, x9, x10, x11, x12, x13, x14, x15, x16, x17, x18, x19, x20, x21, x22, x23, x24, x25, x26, x27, x28, x29, x30, x31, x32, x33, x34, x35, x36, x37, x38, x39, x40, x41, x42, x43, x44, x45, x46, x47, rfl, hkK, hbel, hbox⟩
      have B2 := Lib.hid hbel
      have X2 := Lib.hid hbox
      have c0 : w'.cell? ⟨w.heap.size, 0, none⟩ = some (.int .i64 (X : Int)) := hbox.cell 0
      have c1 : w'.cell? ⟨w.heap.size, 1, none⟩ = some (.int .i64 (Y : Int)) := hbox.cell 1
      clear hbel hbox ht0
      have hKN := HKN.out.1
      have hOK := HKN.out.2
      obtain ⟨s, hs⟩ : ∃ s, (T + k * X) = s := ⟨_, rfl⟩
      have hsb : s ≤ 33554432 := by
        rw [← hs]; have := HLT.out hKN; have := HGL.out; have := HXY.out; have h9 : k * X ≤ K * X := Nat.mul_le_mul_right _ (by omega); omega
      have wm : ((s : Int) % (Y : Int)) = ((s % Y : Nat) : Int) := by simp
      obtain ⟨m, hm⟩ : ∃ m, s % Y = m := ⟨_, rfl⟩
      rw [hm] at wm
      have mb : m ≤ 4096 := by rw [← hm]; have := Nat.mod_lt s HXY.out.2.2.1; have := HXY.out; omega
      have wm2 : IntKind.i64.wrap (m : Int) = (m : Int) := wrap_id (by omega) (by omega)
      have y0 : (0 : Int) < (Y : Int) := by have := HXY.out; omega
      have yz : decide ((Y : Int) = 0) = false := by have := HXY.out; simp; omega
      have yz2 : decide (Y = 0) = false := by have := HXY.out; simp; omega
      have HS := Lib.hid hs
      have HM := Lib.hid hm
      have HMB := Lib.hid (And.intro hsb mb)
      have s0 : (0 : Int) ≤ (s : Int) := by omega
      rw [hs]
      clear hs hm
      have hP : mtP X Y T C k = (m == C) := by unfold mtP; rw [← HM.out, ← HS.out]
      by_cases hk : k = K
      · have hmc : m = C := by
          have := HAT.out hKN
          rw [← hk, hP, beq_iff_eq] at this
          exact this
        have e1 : ((m : Int) != (C : Int)) = false := by rw [hmc]; simp
        have HZ := Lib.hid hOK
        have HFS := Lib.hid (show T + K * X = s by rw [← HS.out, ← hk])
        clear hP hmc hk
        go_wp2_with fail
        simp only [Exit.jump]
        go_ret2
        exact ⟨by rw [HVV.out HZ.out, HZ.out, HFS.out]; rfl, B2.out⟩
      · have hmc : m ≠ C := by
          intro h
          have := HBF.out k (by omega)
          rw [hP, h] at this
          simp at this
        have e1 : ((m : Int) != (C : Int)) = true := by simp; omega
        have hKK := hk
        have HN := Lib.hid (show T + (k + 1) * X = s + X by rw [← HS.out, Nat.succ_mul]; first | omega | (simp; done) | (simp; omega))
        have ws : IntKind.i64.wrap ((s : Int) + (X : Int)) = ((s + X : Nat) : Int) := by rw [show (s : Int) + (X : Int) = ((s + X : Nat) : Int) by simp]; have := HXY.out; exact wrap_id (by omega) (by omega)
        have HKK := Lib.hid (show k + 1 ≤ K by omega)
        clear hP hmc hk hKK
        go_wp2_with fail
        rw [show (s : Int) + (X : Int) = ((T + (k + 1) * X : Nat) : Int) by rw [HN.out]; simp]
        go_step3
        refine ⟨rfl, ⟨k + 1, _, _, _, _, _, _, _, _, _, _, _, _, _, _, _, _, _, _, _, _, _, _, _, _, _, _, _, _, _, _, _, _, _, _, _, _, _, _, _, _, _, _, rfl, HKK.out, B2.out, X2.out⟩, ?_⟩
        show T + K * X - (((T + (k + 1) * X : Nat) : Int)).toNat < T + K * X - ((s : Int)).toNat
        rw [Int.toNat_natCast, Int.toNat_natCast, Nat.succ_mul]
        have h9 : k * X + X ≤ K * X := by rw [← Nat.succ_mul]; exact Nat.mul_le_mul_right _ HKK.out
        have := HXY.out
        have := HS.out
        omega
  · have hNO : meE (X : Int) (Y : Int) p (T : Int) (C : Int) = 3 := by rw [HE.out, if_neg hKN]
    have ht0 : (((T : Int) - (C : Int)).tmod (g : Int) != 0) = true := by
      rw [bne_iff_ne]; exact fun h => hKN (HI.out.2 (HTM.out.2 h))
    have HNO := Lib.hid hNO
    clear hKN hNO
    go_enter Try.func34, Try.ntmps34
    go_wp2_with fail
    refine wp_scope_straight ?_
    go_wp2_with fail
    refine (isMesh_c (X : Int) (Y : Int) p _).mono ?_; rintro e w1 ⟨rfl, hb1⟩
    rw [HV.out]
    have B1 := Lib.hid (HB.out.trans (hb1.mono (by simp)))
    have X1 := Lib.hid (HX.out.later hb1)
    have c0 : w1.cell? ⟨w.heap.size, 0, none⟩ = some (.int .i64 (X : Int)) := X1.out.cell 0
    have c1 : w1.cell? ⟨w.heap.size, 1, none⟩ = some (.int .i64 (Y : Int)) := X1.out.cell 1
    clear hb1
    go_wp2_with fail
    refine (fromTo_c (T : Int) 0 ((X : Int) - 1) _).mono ?_; rintro e w2 ⟨rfl, rfl⟩
    rw [HT.out]
    go_wp2_with fail
    refine (fromTo_c (C : Int) 0 ((Y : Int) - 1) _).mono ?_; rintro e w2 ⟨rfl, rfl⟩
    rw [HC.out]
    go_wp2_with fail
    refine (G.out _).mono ?_; rintro e w2 ⟨rfl, hb2⟩
    have B2 := Lib.hid (B1.out.trans (hb2.mono B1.out.size))
    have X2 := Lib.hid (X1.out.later hb2)
    clear hb2 c0 c1
    have c0 : w2.cell? ⟨w.heap.size, 0, none⟩ = some (.int .i64 (X : Int)) := X2.out.cell 0
    have c1 : w2.cell? ⟨w.heap.size, 1, none⟩ = some (.int .i64 (Y : Int)) := X2.out.cell 1
    go_wp2_with fail
    rw [Exit.noGoto_ret]
    go_ret2
    exact ⟨by rw [HV0.out HNO.out, HNO.out]; rfl, B2.out⟩
end Go.Proofs.Ytmmfmanjajefcaa

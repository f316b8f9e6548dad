/- Layer 7: the law on teeth that meet. -/
import Derived.Test.YtmmfmanjajefcaaGX0
set_option linter.all false
namespace Go.Proofs.Ytmmfmanjajefcaa
open Go.RowKit

set_option maxRecDepth 100000 in
set_option maxHeartbeats 8000000 in
theorem GearsMeets_c (a b p : Int) (w : World) : Calls Try.prog 11 #[.agg #[.int .i64 a, .int .i64 b, .int .i64 p]] w fun e w' => e = .returned (.bool true) ∧ Below w.heap.size w w' := by
  go_enter Try.func11, Try.ntmps11
  go_wp2_with fail
  obtain ⟨W1, hW2⟩ : ∃ Wzz, (w.alloc (.cells #[.int .i64 a, .int .i64 b, .int .i64 p] 37)) = Wzz := ⟨_, rfl⟩
  have B3 := Lib.hid (show Below w.heap.size w W1 by rw [← hW2]; exact ((Below.refl w.heap.size w).alloc (Nat.le_refl _) _))
  have X4 := Lib.hid (show Box W1 (w.heap.size) 37 #[.int .i64 a, .int .i64 b, .int .i64 p] by rw [← hW2]; exact Box.made w 37 #[.int .i64 a, .int .i64 b, .int .i64 p])
  have SZ5 := Lib.hid (show W1.heap.size = w.heap.size + 1 by rw [← hW2]; simp)
  rw [hW2]
  clear hW2
  have q6 : W1.cell? ⟨w.heap.size, 0, none⟩ = some (.int .i64 a) := X4.out.cell 0
  have q7 : W1.cell? ⟨w.heap.size, 1, none⟩ = some (.int .i64 b) := X4.out.cell 1
  have q8 : W1.cell? ⟨w.heap.size, 2, none⟩ = some (.int .i64 p) := X4.out.cell 2
  go_wp2_with fail
  refine (awake_c _).mono ?_; rintro e v22 ⟨rfl, hb23⟩
  have X24 := Lib.hid (X4.out.later hb23)
  have B25 := Lib.hid (B3.out.trans (hb23.mono B3.out.size))
  clear hb23
  clear q6 q7 q8
  have q26 : v22.cell? ⟨w.heap.size, 0, none⟩ = some (.int .i64 a) := X24.out.cell 0
  have q27 : v22.cell? ⟨w.heap.size, 1, none⟩ = some (.int .i64 b) := X24.out.cell 1
  have q28 : v22.cell? ⟨w.heap.size, 2, none⟩ = some (.int .i64 p) := X24.out.cell 2
  cases hv : meshB a b p
  · have HG := Lib.hid (show grV a b p = 0 ∧ huE a b p = 70 ∧ huB a b p = false by unfold grV huE huB; rw [hv]; exact ⟨rfl, rfl, rfl⟩)
    clear hv
    go_wp2_with fail
    refine (Grips_c a b p _).mono ?_; rintro e v29 ⟨rfl, hb30⟩
    have X31 := Lib.hid (X24.out.later hb30)
    have B32 := Lib.hid (B25.out.trans (hb30.mono B25.out.size))
    clear hb30
    rw [HG.out.1, HG.out.2.1]
    clear q26 q27 q28
    have q33 : v29.cell? ⟨w.heap.size, 0, none⟩ = some (.int .i64 a) := X31.out.cell 0
    have q34 : v29.cell? ⟨w.heap.size, 1, none⟩ = some (.int .i64 b) := X31.out.cell 1
    have q35 : v29.cell? ⟨w.heap.size, 2, none⟩ = some (.int .i64 p) := X31.out.cell 2
    go_wp2_with fail
    refine (Hunting_c a b p _).mono ?_; rintro e v36 ⟨rfl, hb37⟩
    have X38 := Lib.hid (X31.out.later hb37)
    have B39 := Lib.hid (B32.out.trans (hb37.mono B32.out.size))
    clear hb37
    rw [HG.out.2.2, HG.out.2.1]
    clear q33 q34 q35
    have q40 : v36.cell? ⟨w.heap.size, 0, none⟩ = some (.int .i64 a) := X38.out.cell 0
    have q41 : v36.cell? ⟨w.heap.size, 1, none⟩ = some (.int .i64 b) := X38.out.cell 1
    have q42 : v36.cell? ⟨w.heap.size, 2, none⟩ = some (.int .i64 p) := X38.out.cell 2
    go_wp2_with fail
    go_ret
    exact ⟨ret_bool (by simp), B39.out⟩
  · obtain ⟨X, Y, rfl, rfl, x0, x1, y0, y1⟩ := mesh_nat hv
    have HV := Lib.hid hv
    obtain ⟨L, hL⟩ : ∃ L, grip X Y = L := ⟨_, rfl⟩
    obtain ⟨hu, hhu⟩ : ∃ u, huB (X : Int) (Y : Int) p = u := ⟨_, rfl⟩
    have HG := Lib.hid (show grV (X : Int) (Y : Int) p = (L : Int) ∧ huE (X : Int) (Y : Int) p = 0 ∧ huB (X : Int) (Y : Int) p = hu by unfold grV huE; rw [hv, ← hL, ← hhu]; exact ⟨rfl, rfl, rfl⟩)
    have HHU := Lib.hid (show hu = true ↔ X.gcd Y = 1 by rw [← hhu]; unfold huB; rw [hv]; simp)
    have HL := Lib.hid hL
    have HXY := Lib.hid (show 0 < X ∧ X ≤ 4096 ∧ 0 < Y ∧ Y ≤ 4096 by omega)
    clear hv hhu hL x0 x1 y0 y1
    go_wp2_with fail
    refine (Grips_c (X : Int) (Y : Int) p _).mono ?_; rintro e v43 ⟨rfl, hb44⟩
    have X45 := Lib.hid (X24.out.later hb44)
    have B46 := Lib.hid (B25.out.trans (hb44.mono B25.out.size))
    clear hb44
    rw [HG.out.1, HG.out.2.1]
    clear q26 q27 q28
    have q47 : v43.cell? ⟨w.heap.size, 0, none⟩ = some (.int .i64 (X : Int)) := X45.out.cell 0
    have q48 : v43.cell? ⟨w.heap.size, 1, none⟩ = some (.int .i64 (Y : Int)) := X45.out.cell 1
    have q49 : v43.cell? ⟨w.heap.size, 2, none⟩ = some (.int .i64 p) := X45.out.cell 2
    go_wp2_with fail
    refine (Hunting_c (X : Int) (Y : Int) p _).mono ?_; rintro e v50 ⟨rfl, hb51⟩
    have X52 := Lib.hid (X45.out.later hb51)
    have B53 := Lib.hid (B46.out.trans (hb51.mono B46.out.size))
    clear hb51
    rw [HG.out.2.2, HG.out.2.1]
    clear q47 q48 q49
    have q54 : v50.cell? ⟨w.heap.size, 0, none⟩ = some (.int .i64 (X : Int)) := X52.out.cell 0
    have q55 : v50.cell? ⟨w.heap.size, 1, none⟩ = some (.int .i64 (Y : Int)) := X52.out.cell 1
    have q56 : v50.cell? ⟨w.heap.size, 2, none⟩ = some (.int .i64 p) := X52.out.cell 2
    rcases Nat.lt_or_ge 40 X with hx | hx
    · have e1 : decide ((40 : Int) < (X : Int)) = true := decide_eq_true (by omega)
      have e2 : decide (40 < X) = true := decide_eq_true hx
      clear hx
      go_wp2_with fail
      go_ret
      exact ⟨ret_bool (by simp), B53.out⟩
    · rcases Nat.lt_or_ge 40 Y with hy | hy
      · have e1 : decide ((40 : Int) < (X : Int)) = false := decide_eq_false (by omega)
        have e2 : decide (40 < X) = false := decide_eq_false (by omega)
        have e3 : decide ((40 : Int) < (Y : Int)) = true := decide_eq_true (by omega)
        have e4 : decide (40 < Y) = true := decide_eq_true hy
        clear hx hy
        go_wp2_with fail
        go_ret
        exact ⟨ret_bool (by simp), B53.out⟩
      · have e1 : decide ((40 : Int) < (X : Int)) = false := decide_eq_false (by omega)
        have e2 : decide (40 < X) = false := decide_eq_false (by omega)
        have e3 : decide ((40 : Int) < (Y : Int)) = false := decide_eq_false (by omega)
        have e4 : decide (40 < Y) = false := decide_eq_false (by omega)
        have HD := Lib.hid (gr_div HXY.out.1 HXY.out.2.2.1)
        obtain ⟨Pq, hP⟩ : ∃ P, X * Y = P := ⟨_, rfl⟩
        have hP2 : Pq ≤ 1600 := by rw [← hP]; exact Nat.mul_le_mul hx hy
        obtain ⟨g, hg⟩ : ∃ g, X.gcd Y = g := ⟨_, rfl⟩
        have HLB := Lib.hid (show 0 < L ∧ L ≤ Pq by have := HD.out.2; rw [HL.out, hP] at this; exact this)
        have HQ := Lib.hid (show Pq / L = g by have := HD.out.1; rw [HL.out, hP, hg] at this; exact this)
        have e5 : decide ((L : Int) < 1) = false := decide_eq_false (by have := HLB.out; omega)
        have e6 : decide (L < 1) = false := decide_eq_false (by have := HLB.out; omega)
        have HGG := Lib.hid hg
        have HG0 := Lib.hid (show 0 < g ∧ g ≤ 40 by rw [← hg]; exact ⟨Nat.gcd_pos_of_pos_right _ HXY.out.2.2.1, Nat.le_trans (Nat.le_of_dvd HXY.out.1 (Nat.gcd_dvd_left _ _)) hx⟩)
        have HP := Lib.hid hP
        have HPB := Lib.hid hP2
        have HX40 := Lib.hid (And.intro hx hy)
        have HHL := Lib.hid (show ((L : Int) == (Pq : Int)) = hu by
          have hh := gr_one HXY.out.1 HXY.out.2.2.1
          rw [HL.out, hP, hg] at hh
          have h2 := HHU.out
          rw [hg] at h2
          rw [Bool.eq_iff_iff, beq_iff_eq, h2, ← hh]
          omega)
        clear hx hy hP hP2 hg
        go_wp2_with fail
        go_loopw [8, 9] (fun nv av wr => ∃ i n : Nat, i ≤ X ∧ nv = .int .i64 (n : Int) ∧ av = .int .i64 (i : Int) ∧ n = i * (Y / g) ∧ Box wr w.heap.size 37 #[.int .i64 (X : Int), .int .i64 (Y : Int), .int .i64 p] ∧ Below w.heap.size w wr) (fun _ av _ => X - (intOf av).toNat)
        case atStart => exact ⟨0, 0, Nat.zero_le _, rfl, rfl, (Nat.zero_mul _).symm, X52.out, B53.out⟩
        case round =>
          obtain ⟨i, n, hi, rfl, rfl, hn, hbt, hbel⟩ := hrel
          have HN := Lib.hid hn
          have Xt := Lib.hid hbt
          have Bl := Lib.hid hbel
          have HI := Lib.hid hi
          clear hn hbt hbel
          have q9 : wr.cell? ⟨w.heap.size, 0, none⟩ = some (.int .i64 (X : Int)) := Xt.out.cell 0
          have q10 : wr.cell? ⟨w.heap.size, 1, none⟩ = some (.int .i64 (Y : Int)) := Xt.out.cell 1
          have q11 : wr.cell? ⟨w.heap.size, 2, none⟩ = some (.int .i64 p) := Xt.out.cell 2
          by_cases hlt : i < X
          · have HLT := Lib.hid hlt
            have d1 : decide ((i : Int) < (X : Int)) = true := decide_eq_true (by omega)
            have d2 : decide (i < X) = true := decide_eq_true hlt
            clear hi hlt
            go_wp2_with fail
            go_loopw [8, 10] (fun nv bv wr2 => ∃ j m : Nat, j ≤ Y ∧ nv = .int .i64 (m : Int) ∧ bv = .int .i64 (j : Int) ∧ m = n + cT X Y i j ∧ Box wr2 w.heap.size 37 #[.int .i64 (X : Int), .int .i64 (Y : Int), .int .i64 p] ∧ Below w.heap.size w wr2) (fun _ bv _ => Y - (intOf bv).toNat)
            case atStart => exact ⟨0, n, Nat.zero_le _, rfl, rfl, (Nat.add_zero _).symm, Xt.out, Bl.out⟩
            case round =>
              obtain ⟨j, m, hj, rfl, rfl, hm, hbt2, hbel2⟩ := hrel
              have HM := Lib.hid hm
              have Xt2 := Lib.hid hbt2
              have Bl2 := Lib.hid hbel2
              clear hm hbt2 hbel2
              have q12 : wr.cell? ⟨w.heap.size, 0, none⟩ = some (.int .i64 (X : Int)) := Xt2.out.cell 0
              have q13 : wr.cell? ⟨w.heap.size, 1, none⟩ = some (.int .i64 (Y : Int)) := Xt2.out.cell 1
              have q14 : wr.cell? ⟨w.heap.size, 2, none⟩ = some (.int .i64 p) := Xt2.out.cell 2
              by_cases hjl : j < Y
              · have HJ := Lib.hid hjl
                have d3 : decide ((j : Int) < (Y : Int)) = true := decide_eq_true (by omega)
                have d4 : decide (j < Y) = true := decide_eq_true hjl
                have j40 : j ≤ 40 := by have := HX40.out; omega
                have i40 : i ≤ 40 := by have := HX40.out; have := HLT.out; omega
                have p16 : Pq ≤ 1600 := HPB.out
                have m16 : m ≤ 1600 := by
                  have h1 := HM.out
                  have h2 := HN.out
                  have h3 := cT_le X Y i j
                  have h4 : n ≤ i * Y := by rw [h2]; exact Nat.mul_le_mul_left _ (Nat.div_le_self _ _)
                  have h5 : (i + 1) * Y ≤ X * Y := Nat.mul_le_mul_right _ HLT.out
                  rw [HP.out, Nat.succ_mul] at h5
                  omega
                have wd : IntKind.i64.wrap ((i : Int) - (j : Int)) = (i : Int) - (j : Int) := wrap_id (by omega) (by omega)
                have mP : IntKind.i64.wrap ((X : Int) * (Y : Int)) = (Pq : Int) := by rw [show (X : Int) * (Y : Int) = ((X * Y : Nat) : Int) by simp, HP.out]; exact wrap_id (by omega) (by omega)
                have qP : (Pq : Int) / (L : Int) = (g : Int) := by rw [← HQ.out]; simp
                have wg : IntKind.i64.wrap (g : Int) = (g : Int) := wrap_id (by omega) (by have := HG0.out; omega)
                have l0 : (0 : Int) < (L : Int) := by have := HLB.out; omega
                have l1 : decide ((L : Int) = 0) = false := by simp; have := HLB.out; omega
                have l2 : decide (L = 0) = false := by simp; have := HLB.out; omega
                have g0 : (0 : Int) < (g : Int) := by have := HG0.out; omega
                have g1 : decide ((g : Int) = 0) = false := by simp; have := HG0.out; omega
                have g2 : decide (g = 0) = false := by simp; have := HG0.out; omega
                have HTM := Lib.hid (tm_ok2 (X := X) (a := i) HXY.out.2.2.1 hjl)
                rw [HGG.out] at HTM
                have HAT := Lib.hid (me_at (p := p) HV.out HLT.out hjl)
                rw [HL.out] at HAT
                have HCT := Lib.hid (show cT X Y i (j + 1) = cT X Y i j + (if okT X Y i j then 1 else 0) from rfl)
                clear hj hjl
                go_wp2_with fail
                refine (Meets_c (X : Int) (Y : Int) p (i : Int) (j : Int) _).mono ?_; rintro e v15 ⟨rfl, hb16⟩
                have X17 := Lib.hid (Xt2.out.later hb16)
                have B18 := Lib.hid (Bl2.out.trans (hb16.mono Bl2.out.size))
                clear hb16
                clear q12 q13 q14
                have q19 : v15.cell? ⟨w.heap.size, 0, none⟩ = some (.int .i64 (X : Int)) := X17.out.cell 0
                have q20 : v15.cell? ⟨w.heap.size, 1, none⟩ = some (.int .i64 (Y : Int)) := X17.out.cell 1
                have q21 : v15.cell? ⟨w.heap.size, 2, none⟩ = some (.int .i64 p) := X17.out.cell 2
                rcases HAT.out with ⟨hk1, hk2, K, hk3, hk4, hk5, hk6⟩ | ⟨hk1, hk2, hk3⟩
                · have HK := Lib.hid (show okT X Y i j = true ∧ meE (X : Int) (Y : Int) p (i : Int) (j : Int) = 0 ∧ meV (X : Int) (Y : Int) p (i : Int) (j : Int) = (K : Int) ∧ K < L ∧ K % X = i ∧ K % Y = j from ⟨hk1, hk2, hk3, hk4, hk5, hk6⟩)
                  clear hk1 hk2 hk3 hk4 hk5 hk6
                  rw [HK.out.2.2.1, HK.out.2.1]
                  have t1 : (((i : Int) - (j : Int)).tmod (g : Int) == 0) = true := by
                    have h := HTM.out; rw [HK.out.1] at h; rw [beq_iff_eq]; exact of_decide_eq_true h.symm
                  have t2 : decide (((i : Int) - (j : Int)).tmod (g : Int) = 0) = true := by
                    have h := HTM.out; rw [HK.out.1] at h; exact h.symm
                  have k1 : decide ((K : Int) < 0) = false := decide_eq_false (by omega)
                  have k2 : decide ((L : Int) ≤ (K : Int)) = false := decide_eq_false (by have := HK.out.2.2.2.1; omega)
                  have k2' : decide (L ≤ K) = false := decide_eq_false (by have := HK.out.2.2.2.1; omega)
                  have k3 : (K : Int) % (X : Int) = (i : Int) := by rw [← Int.natCast_emod, HK.out.2.2.2.2.1]
                  have k4 : (K : Int) % (Y : Int) = (j : Int) := by rw [← Int.natCast_emod, HK.out.2.2.2.2.2]
                  have k5 : (0 : Int) ≤ (K : Int) := by omega
                  have x0 : (0 : Int) < (X : Int) := by have := HXY.out; omega
                  have y0 : (0 : Int) < (Y : Int) := by have := HXY.out; omega
                  have x1 : decide ((X : Int) = 0) = false := by simp; have := HXY.out; omega
                  have x2 : decide (X = 0) = false := by simp; have := HXY.out; omega
                  have y1 : decide ((Y : Int) = 0) = false := by simp; have := HXY.out; omega
                  have y2 : decide (Y = 0) = false := by simp; have := HXY.out; omega
                  have z1 : ((i : Int) != (i : Int)) = false := by simp
                  have z2 : ((j : Int) != (j : Int)) = false := by simp
                  have wm : IntKind.i64.wrap ((m : Int) + 1) = ((m + 1 : Nat) : Int) := by rw [show (m : Int) + 1 = ((m + 1 : Nat) : Int) by simp]; exact wrap_id (by omega) (by omega)
                  go_wp2_with fail
                  go_roundw
                  case rel => exact ⟨j + 1, m + 1, HJ.out, by go_num, by go_num, by rw [HCT.out, HK.out.1, HM.out]; rfl, X17.out, B18.out⟩
                  case measure => have := HJ.out; simp [intOf]; omega
                · have HK := Lib.hid (show okT X Y i j = false ∧ meE (X : Int) (Y : Int) p (i : Int) (j : Int) = 3 ∧ meV (X : Int) (Y : Int) p (i : Int) (j : Int) = 0 from ⟨hk1, hk2, hk3⟩)
                  clear hk1 hk2 hk3
                  rw [HK.out.2.2, HK.out.2.1]
                  have t1 : (((i : Int) - (j : Int)).tmod (g : Int) == 0) = false := by
                    have h := HTM.out; rw [HK.out.1] at h; rw [beq_eq_false_iff_ne]; exact of_decide_eq_false h.symm
                  have t2 : decide (((i : Int) - (j : Int)).tmod (g : Int) = 0) = false := by
                    have h := HTM.out; rw [HK.out.1] at h; exact h.symm
                  go_wp2_with fail
                  go_roundw
                  case rel => exact ⟨j + 1, m, HJ.out, by go_num, by go_num, by rw [HCT.out, HK.out.1, HM.out]; rfl, X17.out, B18.out⟩
                  case measure => have := HJ.out; simp [intOf]; omega
              · obtain rfl : j = Y := by omega
                have d3 : decide ((j : Int) < (j : Int)) = false := by simp
                have d4 : decide (j < j) = false := by simp
                have HF := Lib.hid (show m = (i + 1) * (j / g) by rw [HM.out, HN.out, cT_full HXY.out.2.2.1, HGG.out, Nat.succ_mul])
                have i40 : i ≤ 40 := by have := HX40.out; have := HLT.out; omega
                go_wp2_with fail
                go_roundw
                case rel => exact ⟨i + 1, m, HLT.out, by go_num, by go_num, HF.out, Xt2.out, Bl2.out⟩
                case measure => have := HLT.out; simp [intOf]; omega
            
          · obtain rfl : i = X := by omega
            have d1 : decide ((i : Int) < (i : Int)) = false := by simp
            have d2 : decide (i < i) = false := by simp
            have HF := Lib.hid (show n = L by rw [HN.out, ← HL.out, grip_eq2, HGG.out])
            obtain rfl : n = L := HF.out
            have mP : IntKind.i64.wrap ((i : Int) * (Y : Int)) = (Pq : Int) := by rw [show (i : Int) * (Y : Int) = ((i * Y : Nat) : Int) by simp, HP.out]; exact wrap_id (by omega) (by have := HPB.out; omega)
            have f1 : ((n : Int) == (Pq : Int)) = hu := HHL.out
            have f2 : (hu == hu) = true := by simp
            go_wp2_with fail
            go_ret
            exact ⟨ret_bool (by simp), Bl.out⟩
        

end Go.Proofs.Ytmmfmanjajefcaa

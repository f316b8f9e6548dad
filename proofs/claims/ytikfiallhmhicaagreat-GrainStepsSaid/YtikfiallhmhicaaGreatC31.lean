/- Layer 2: the specification: pairs, numbers of states. -/
import Derived.Test.YtikfiallhmhicaaGreatC30
import Derived.Test.YtikfiallhmhicaaGreatC29
set_option linter.all false
namespace Go.Proofs.YtikfiallhmhicaaGreat
open Go.RowKit


theorem stN_def {e1 R1 S1 e2 R2 S2 : Int} {k1 k2 : List Int} {dr : List (List Mv)} : stN ⟨⟨e1, R1, S1, k1⟩, ⟨e2, R2, S2, k2⟩, dr⟩ = R1 * S1 * S1 := rfl
set_option maxRecDepth 100000 in
set_option maxHeartbeats 8000000 in
theorem kcount_c (p : Pr) (v : Value) (w : World) (h : IsPair w w.heap.size v p) (h1 : 1 ≤ p.bed.rings ∧ p.bed.rings ≤ 24) (h2 : 2 ≤ p.bed.sectors ∧ p.bed.sectors ≤ 96) : Calls Tryz.prog 70 #[v] w fun e w' => e = .returned (.int .i64 (stN p)) ∧ Below w.heap.size w w' := by
  obtain ⟨s, r, d, hpv, i1, i2, i3⟩ := id h
  subst hpv
  obtain ⟨⟨e1, R1, S1, k1⟩, ⟨e2, R2, S2, k2⟩, dr⟩ := p
  obtain ⟨SA, sn, sc, rfl⟩ : ∃ A n c, s = .slice A n c := by obtain ⟨-, A, c, rfl, -⟩ := i1; exact ⟨_, _, _, rfl⟩
  obtain ⟨RA, rn, rc, rfl⟩ : ∃ A n c, r = .slice A n c := by obtain ⟨-, A, c, rfl, -⟩ := i2; exact ⟨_, _, _, rfl⟩
  unfold pairV at *
  dsimp only at *
  obtain ⟨m1, m2, m3, m4⟩ := stN_bd h1 h2
  have w1 : IntKind.i64.wrap (R1 * S1) = R1 * S1 := wrap_id (by omega) (by omega)
  have w2 : IntKind.i64.wrap (R1 * S1 * S1) = R1 * S1 * S1 := wrap_id (by omega) (by omega)
  clear m1 m2 m3 m4 h1 h2 h i1 i2 i3
  obtain ⟨x, hx⟩ : ∃ x, R1 * S1 = x := ⟨_, rfl⟩
  obtain ⟨y, hy⟩ : ∃ y, x * S1 = y := ⟨_, rfl⟩
  have HY := Lib.hid (show stN ⟨⟨e1, R1, S1, k1⟩, ⟨e2, R2, S2, k2⟩, dr⟩ = y by rw [stN_def, hx, hy])
  have p1 : IntKind.i64.wrap (R1 * S1) = x := by rw [w1, hx]
  have p2 : IntKind.i64.wrap (x * S1) = y := by rw [hx, hy] at w2; rw [hy, w2]
  clear w1 w2 hx hy
  go_enter Tryz.func70, Tryz.ntmps70
  go_wp2_with fail
  obtain ⟨W1, hW2⟩ : ∃ Wzz, (w.alloc (.cells #[.int .i64 e1, .int .i64 R1, .int .i64 S1, .slice SA sn sc, .int .i64 e2, .int .i64 R2, .int .i64 S2, .slice RA rn rc, d] 31)) = Wzz := ⟨_, rfl⟩
  have B3 := Lib.hid (show Below w.heap.size w W1 by rw [← hW2]; exact ((Below.refl w.heap.size w).alloc (Nat.le_refl _) _))
  have X4 := Lib.hid (show Box W1 (w.heap.size) 31 #[.int .i64 e1, .int .i64 R1, .int .i64 S1, .slice SA sn sc, .int .i64 e2, .int .i64 R2, .int .i64 S2, .slice RA rn rc, d] by rw [← hW2]; exact Box.made w 31 #[.int .i64 e1, .int .i64 R1, .int .i64 S1, .slice SA sn sc, .int .i64 e2, .int .i64 R2, .int .i64 S2, .slice RA rn rc, d])
  have SZ5 := Lib.hid (show W1.heap.size = w.heap.size + 1 by rw [← hW2]; simp)
  rw [hW2]
  clear hW2
  have q6 : W1.cell? ⟨w.heap.size, 0, none⟩ = some (.int .i64 e1) := X4.out.cell 0
  have q7 : W1.cell? ⟨w.heap.size, 1, none⟩ = some (.int .i64 R1) := X4.out.cell 1
  have q8 : W1.cell? ⟨w.heap.size, 2, none⟩ = some (.int .i64 S1) := X4.out.cell 2
  have q9 : W1.cell? ⟨w.heap.size, 3, none⟩ = some (.slice SA sn sc) := X4.out.cell 3
  have q10 : W1.cell? ⟨w.heap.size, 4, none⟩ = some (.int .i64 e2) := X4.out.cell 4
  have q11 : W1.cell? ⟨w.heap.size, 5, none⟩ = some (.int .i64 R2) := X4.out.cell 5
  have q12 : W1.cell? ⟨w.heap.size, 6, none⟩ = some (.int .i64 S2) := X4.out.cell 6
  have q13 : W1.cell? ⟨w.heap.size, 7, none⟩ = some (.slice RA rn rc) := X4.out.cell 7
  have q14 : W1.cell? ⟨w.heap.size, 8, none⟩ = some (d) := X4.out.cell 8
  go_wp2_with fail
  go_ret
  exact ⟨ret_int HY.out.symm, B3.out⟩

set_option maxRecDepth 100000 in
set_option maxHeartbeats 8000000 in
theorem kCheck_c (p : Pr) (v : Value) (w : World) (h : IsPair w w.heap.size v p) : Calls Tryz.prog 34 #[v] w fun e w' => e = .returned (.int .i64 (ckE p)) ∧ Below w.heap.size w w' := by
  obtain ⟨s, r, d, hpv, i1, i2, i3⟩ := id h
  subst hpv
  obtain ⟨⟨e1, R1, S1, k1⟩, ⟨e2, R2, S2, k2⟩, dr⟩ := p
  obtain ⟨SA, sn, sc, rfl⟩ : ∃ A n c, s = .slice A n c := by obtain ⟨-, A, c, rfl, -⟩ := i1; exact ⟨_, _, _, rfl⟩
  obtain ⟨RA, rn, rc, rfl⟩ : ∃ A n c, r = .slice A n c := by obtain ⟨-, A, c, rfl, -⟩ := i2; exact ⟨_, _, _, rfl⟩
  unfold pairV at *
  dsimp only at *
  obtain ⟨n, hn⟩ : ∃ n, dr.length = n := ⟨_, rfl⟩
  have HDL := Lib.hid hn
  obtain ⟨DA, dc, rfl⟩ : ∃ A c, d = .slice A n c := by obtain ⟨-, A, c, rfl, -⟩ := i3; exact ⟨A, c, by rw [hn]⟩
  clear hn
  have HF0 := Lib.hid (show FaceAt w (.agg #[.int .i64 e1, .int .i64 R1, .int .i64 S1, .slice SA sn sc]) ⟨e1, R1, S1, k1⟩ from ⟨_, rfl, i1⟩)
  have HG0 := Lib.hid (show FaceAt w (.agg #[.int .i64 e2, .int .i64 R2, .int .i64 S2, .slice RA rn rc]) ⟨e2, R2, S2, k2⟩ from ⟨_, rfl, i2⟩)
  have HD0 := Lib.hid i3
  have HP0 := Lib.hid h
  have H20 := Lib.hid (fun (hh : (fitB ⟨⟨e1, R1, S1, k1⟩, ⟨e2, R2, S2, k2⟩, dr⟩ && drvB dr) = false) => show ckE ⟨⟨e1, R1, S1, k1⟩, ⟨e2, R2, S2, k2⟩, dr⟩ = 20 by unfold ckE; (try dsimp only); rw [hh]; rfl)
  clear h i1 i2 i3
  go_enter Tryz.func34, Tryz.ntmps34
  go_wp2_with fail
  obtain ⟨W15, hW16⟩ : ∃ Wzz, (w.alloc (.cells #[.int .i64 e1, .int .i64 R1, .int .i64 S1, .slice SA sn sc, .int .i64 e2, .int .i64 R2, .int .i64 S2, .slice RA rn rc, .slice DA n dc] 31)) = Wzz := ⟨_, rfl⟩
  have B17 := Lib.hid (show Below w.heap.size w W15 by rw [← hW16]; exact ((Below.refl w.heap.size w).alloc (Nat.le_refl _) _))
  have X18 := Lib.hid (show Box W15 (w.heap.size) 31 #[.int .i64 e1, .int .i64 R1, .int .i64 S1, .slice SA sn sc, .int .i64 e2, .int .i64 R2, .int .i64 S2, .slice RA rn rc, .slice DA n dc] by rw [← hW16]; exact Box.made w 31 #[.int .i64 e1, .int .i64 R1, .int .i64 S1, .slice SA sn sc, .int .i64 e2, .int .i64 R2, .int .i64 S2, .slice RA rn rc, .slice DA n dc])
  have C19 := Lib.hid (HF0.out.later B17.out)
  have C20 := Lib.hid (HG0.out.later B17.out)
  have C21 := Lib.hid (HD0.out.later B17.out)
  have C22 := Lib.hid (HP0.out.later B17.out)
  have SZ23 := Lib.hid (show W15.heap.size = w.heap.size + 1 by rw [← hW16]; simp)
  rw [hW16]
  clear hW16
  have q24 : W15.cell? ⟨w.heap.size, 0, none⟩ = some (.int .i64 e1) := X18.out.cell 0
  have q25 : W15.cell? ⟨w.heap.size, 1, none⟩ = some (.int .i64 R1) := X18.out.cell 1
  have q26 : W15.cell? ⟨w.heap.size, 2, none⟩ = some (.int .i64 S1) := X18.out.cell 2
  have q27 : W15.cell? ⟨w.heap.size, 3, none⟩ = some (.slice SA sn sc) := X18.out.cell 3
  have q28 : W15.cell? ⟨w.heap.size, 4, none⟩ = some (.int .i64 e2) := X18.out.cell 4
  have q29 : W15.cell? ⟨w.heap.size, 5, none⟩ = some (.int .i64 R2) := X18.out.cell 5
  have q30 : W15.cell? ⟨w.heap.size, 6, none⟩ = some (.int .i64 S2) := X18.out.cell 6
  have q31 : W15.cell? ⟨w.heap.size, 7, none⟩ = some (.slice RA rn rc) := X18.out.cell 7
  have q32 : W15.cell? ⟨w.heap.size, 8, none⟩ = some (.slice DA n dc) := X18.out.cell 8
  go_wp2_with fail
  refine (qValid_c ⟨e1, R1, S1, k1⟩ _ _ C19.out).mono ?_; rintro e v33 ⟨rfl, hb34⟩
  have X35 := Lib.hid (X18.out.later hb34)
  have C36 := Lib.hid (C19.out.later hb34)
  have C37 := Lib.hid (C20.out.later hb34)
  have C38 := Lib.hid (C21.out.later hb34)
  have C39 := Lib.hid (C22.out.later hb34)
  have B40 := Lib.hid (B17.out.trans (hb34.mono B17.out.size))
  clear hb34
  clear q24 q25 q26 q27 q28 q29 q30 q31 q32
  have q41 : v33.cell? ⟨w.heap.size, 0, none⟩ = some (.int .i64 e1) := X35.out.cell 0
  have q42 : v33.cell? ⟨w.heap.size, 1, none⟩ = some (.int .i64 R1) := X35.out.cell 1
  have q43 : v33.cell? ⟨w.heap.size, 2, none⟩ = some (.int .i64 S1) := X35.out.cell 2
  have q44 : v33.cell? ⟨w.heap.size, 3, none⟩ = some (.slice SA sn sc) := X35.out.cell 3
  have q45 : v33.cell? ⟨w.heap.size, 4, none⟩ = some (.int .i64 e2) := X35.out.cell 4
  have q46 : v33.cell? ⟨w.heap.size, 5, none⟩ = some (.int .i64 R2) := X35.out.cell 5
  have q47 : v33.cell? ⟨w.heap.size, 6, none⟩ = some (.int .i64 S2) := X35.out.cell 6
  have q48 : v33.cell? ⟨w.heap.size, 7, none⟩ = some (.slice RA rn rc) := X35.out.cell 7
  have q49 : v33.cell? ⟨w.heap.size, 8, none⟩ = some (.slice DA n dc) := X35.out.cell 8
  cases v1 : validB ⟨e1, R1, S1, k1⟩
  · have HR := Lib.hid (H20.out (by unfold fitB drvB; dsimp only; rw [HDL.out]; simp [v1]))
    clear v1
    go_wp2_with fail
    go_ret
    exact ⟨ret_int HR.out.symm, B40.out⟩
  · have V1 := Lib.hid v1
    clear v1
    go_wp2_with fail
    refine (qValid_c ⟨e2, R2, S2, k2⟩ _ _ C37.out).mono ?_; rintro e v50 ⟨rfl, hb51⟩
    have X52 := Lib.hid (X35.out.later hb51)
    have C53 := Lib.hid (C36.out.later hb51)
    have C54 := Lib.hid (C37.out.later hb51)
    have C55 := Lib.hid (C38.out.later hb51)
    have C56 := Lib.hid (C39.out.later hb51)
    have B57 := Lib.hid (B40.out.trans (hb51.mono B40.out.size))
    clear hb51
    clear q41 q42 q43 q44 q45 q46 q47 q48 q49
    have q58 : v50.cell? ⟨w.heap.size, 0, none⟩ = some (.int .i64 e1) := X52.out.cell 0
    have q59 : v50.cell? ⟨w.heap.size, 1, none⟩ = some (.int .i64 R1) := X52.out.cell 1
    have q60 : v50.cell? ⟨w.heap.size, 2, none⟩ = some (.int .i64 S1) := X52.out.cell 2
    have q61 : v50.cell? ⟨w.heap.size, 3, none⟩ = some (.slice SA sn sc) := X52.out.cell 3
    have q62 : v50.cell? ⟨w.heap.size, 4, none⟩ = some (.int .i64 e2) := X52.out.cell 4
    have q63 : v50.cell? ⟨w.heap.size, 5, none⟩ = some (.int .i64 R2) := X52.out.cell 5
    have q64 : v50.cell? ⟨w.heap.size, 6, none⟩ = some (.int .i64 S2) := X52.out.cell 6
    have q65 : v50.cell? ⟨w.heap.size, 7, none⟩ = some (.slice RA rn rc) := X52.out.cell 7
    have q66 : v50.cell? ⟨w.heap.size, 8, none⟩ = some (.slice DA n dc) := X52.out.cell 8
    cases v2 : validB ⟨e2, R2, S2, k2⟩
    · have HR := Lib.hid (H20.out (by unfold fitB drvB; dsimp only; rw [HDL.out]; simp [v2]))
      clear v2
      go_wp2_with fail
      go_ret
      exact ⟨ret_int HR.out.symm, B57.out⟩
    · have V2 := Lib.hid v2
      clear v2
      by_cases c0 : e1 = e2; rotate_left
      · have n0 : (e1 != e2) = true := by simpa using c0
        have HR := Lib.hid (H20.out (by unfold fitB drvB; dsimp only; rw [HDL.out]; simp [c0]))
        clear c0
        go_wp2_with fail
        go_ret
        exact ⟨ret_int HR.out.symm, B57.out⟩
      · have HC0 := Lib.hid c0
        have n0 : (e1 != e2) = false := by simpa using c0
        clear c0
        by_cases c1 : R1 = R2; rotate_left
        · have n1 : (R1 != R2) = true := by simpa using c1
          have HR := Lib.hid (H20.out (by unfold fitB drvB; dsimp only; rw [HDL.out]; simp [c1]))
          clear c1
          go_wp2_with fail
          go_ret
          exact ⟨ret_int HR.out.symm, B57.out⟩
        · have HC1 := Lib.hid c1
          have n1 : (R1 != R2) = false := by simpa using c1
          clear c1
          by_cases c2 : S1 = S2; rotate_left
          · have n2 : (S1 != S2) = true := by simpa using c2
            have HR := Lib.hid (H20.out (by unfold fitB drvB; dsimp only; rw [HDL.out]; simp [c2]))
            clear c2
            go_wp2_with fail
            go_ret
            exact ⟨ret_int HR.out.symm, B57.out⟩
          · have HC2 := Lib.hid c2
            have n2 : (S1 != S2) = false := by simpa using c2
            clear c2
            by_cases c3 : n = 9; rotate_left
            · have n3 : ((n : Int) != 9) = true := by simp; omega
              have HR := Lib.hid (H20.out (by unfold fitB drvB; dsimp only; rw [HDL.out]; simp [c3]))
              clear c3
              go_wp2_with fail
              go_ret
              exact ⟨ret_int HR.out.symm, B57.out⟩
            · have HN9 := Lib.hid c3
              have n3 : ((n : Int) != 9) = false := by simp; omega
              have hn9 : n ≤ 9 := by omega
              clear c3
              go_wp2_with fail
              go_loopw [3] (fun i wr => ∃ k : Nat, k ≤ n ∧ i = .int .i64 (k : Int) ∧ (dr.take k).all listB = true ∧ Below v50.heap.size v50 wr) (fun i _ => n - (intOf i).toNat)
              case atStart => exact ⟨0, Nat.zero_le _, rfl, rfl, Below.refl _ _⟩
              case round =>
                obtain ⟨k, hk, rfl, hall, hbr⟩ := hrel
                have HALL := Lib.hid hall
                have HBR := Lib.hid hbr
                have HDR := Lib.hid (C55.out.later hbr)
                have HPR := Lib.hid (C56.out.later hbr)
                have HBX := Lib.hid (X52.out.later hbr)
                have g0 : wr.cell? ⟨w.heap.size, 0, none⟩ = some (.int .i64 e1) := HBX.out.cell 0
                have g1 : wr.cell? ⟨w.heap.size, 1, none⟩ = some (.int .i64 R1) := HBX.out.cell 1
                have g2 : wr.cell? ⟨w.heap.size, 2, none⟩ = some (.int .i64 S1) := HBX.out.cell 2
                have g3 : wr.cell? ⟨w.heap.size, 3, none⟩ = some (.slice SA sn sc) := HBX.out.cell 3
                have g4 : wr.cell? ⟨w.heap.size, 4, none⟩ = some (.int .i64 e2) := HBX.out.cell 4
                have g5 : wr.cell? ⟨w.heap.size, 5, none⟩ = some (.int .i64 R2) := HBX.out.cell 5
                have g6 : wr.cell? ⟨w.heap.size, 6, none⟩ = some (.int .i64 S2) := HBX.out.cell 6
                have g7 : wr.cell? ⟨w.heap.size, 7, none⟩ = some (.slice RA rn rc) := HBX.out.cell 7
                have g8 : wr.cell? ⟨w.heap.size, 8, none⟩ = some (.slice DA n dc) := HBX.out.cell 8
                clear hall hbr
                by_cases hlt : k < n
                · have hdk : decide ((k : Int) < (n : Int)) = true := by simpa using hlt
                  have i0 : (0 : Int) ≤ (k : Int) := Int.natCast_nonneg _
                  have i1 : (k : Int) < (n : Int) := by omega
                  obtain ⟨b, off, c', sl, hv, hbB, x1, hms⟩ := HDR.out.at (k := k) (by rw [HDL.out]; exact hlt)
                  rw [HDL.out] at hv
                  cases hv
                  have HMS := Lib.hid hms
                  have HLT := Lib.hid hlt
                  clear hms hbB hlt
                  go_wp2_with fail
                  refine (kdrive_c _ _ wr HMS.out).mono ?_; rintro e w2 ⟨rfl, hb2⟩
                  have HB2 := Lib.hid (HBR.out.trans (hb2.mono HBR.out.size))
                  clear hb2 x1 g0 g1 g2 g3 g4 g5 g6 g7 g8
                  cases hb : listB (nthL dr k)
                  · have HF := Lib.hid (H20.out (by unfold drvB; (try dsimp only); rw [nthL_false (by rw [HDL.out]; exact HLT.out) hb, Bool.and_false, Bool.and_false]))
                    clear hb
                    go_wp2_with fail
                    go_ret
                    exact ⟨ret_int HF.out.symm, B57.out.trans (HB2.out.mono B57.out.size)⟩
                  · have HK := Lib.hid (show (dr.take (k + 1)).all listB = true by rw [nthL_all (by rw [HDL.out]; exact HLT.out), HALL.out, hb]; rfl)
                    clear hb
                    go_wp2_with fail
                    go_roundw
                    case rel => exact ⟨k + 1, by have := HLT.out; omega, by go_num, HK.out, HB2.out⟩
                    case measure => have := HLT.out; simp [intOf]; omega
                · obtain rfl : k = n := by omega
                  have hdk : decide ((k : Int) < (k : Int)) = false := by simp
                  clear hlt
                  have HDV := Lib.hid (show (fitB ⟨⟨e1, R1, S1, k1⟩, ⟨e2, R2, S2, k2⟩, dr⟩ && drvB dr) = true by unfold fitB drvB; dsimp only; rw [V1.out, V2.out, HC0.out, HC1.out, HC2.out, HDL.out, HN9.out, show dr.all listB = true by have h := HALL.out; rw [← HDL.out, List.take_length] at h; exact h]; simp)
                  obtain ⟨⟨-, z1, z2⟩, -⟩ := validB_parts V1.out
                  have Z1 := Lib.hid z1
                  have Z2 := Lib.hid z2
                  clear z1 z2
                  go_wp2_with fail
                  refine (kcount_c ⟨⟨e1, R1, S1, k1⟩, ⟨e2, R2, S2, k2⟩, dr⟩ _ wr HPR.out Z1.out Z2.out).mono ?_; rintro e w3 ⟨rfl, hb3⟩
                  have HB3 := Lib.hid (B57.out.trans ((HBR.out.trans (hb3.mono HBR.out.size)).mono B57.out.size))
                  clear hb3 g0 g1 g2 g3 g4 g5 g6 g7 g8
                  obtain ⟨N, hN⟩ : ∃ N, stN ⟨⟨e1, R1, S1, k1⟩, ⟨e2, R2, S2, k2⟩, dr⟩ = N := ⟨_, rfl⟩
                  have HCK := Lib.hid (show ckE ⟨⟨e1, R1, S1, k1⟩, ⟨e2, R2, S2, k2⟩, dr⟩ = if N ≤ 65536 then 0 else 2 by unfold ckE; (try dsimp only); rw [HDV.out, hN]; rfl)
                  rw [hN]
                  clear hN
                  by_cases hbig : 65536 < N
                  · have d1 : decide (65536 < N) = true := decide_eq_true hbig
                    have HR := Lib.hid (show ckE ⟨⟨e1, R1, S1, k1⟩, ⟨e2, R2, S2, k2⟩, dr⟩ = 2 by rw [HCK.out, if_neg (by omega)])
                    clear hbig
                    go_wp2_with fail
                    go_ret
                    exact ⟨ret_int HR.out.symm, HB3.out⟩
                  · have d1 : decide (65536 < N) = false := decide_eq_false hbig
                    have HR := Lib.hid (show ckE ⟨⟨e1, R1, S1, k1⟩, ⟨e2, R2, S2, k2⟩, dr⟩ = 0 by rw [HCK.out, if_pos (by omega)])
                    clear hbig
                    go_wp2_with fail
                    go_ret
                    exact ⟨ret_int HR.out.symm, HB3.out⟩

end Go.Proofs.YtikfiallhmhicaaGreat

/- Layer 7: the law on play. -/
import Derived.Test.YtmmfmanjajefcaaHP0
import Derived.Test.YtmmfmanjajefcaaHPr
set_option linter.all false
namespace Go.Proofs.Ytmmfmanjajefcaa
open Go.RowKit

theorem flat3_mo : ∀ {ms : List Mh} {j : Nat} (h : j < ms.length), (flat3 ms).set (j * 3 + 2) (.int .i64 (ms[j].2.2 + 1)) = flat3 (mo ms j)
  | m :: l, 0, _ => by simp [flat3, mo]
  | m :: l, j + 1, h => by
    have := flat3_mo (ms := l) (j := j) (by simpa using h)
    rw [show (j + 1) * 3 + 2 = (j * 3 + 2) + 1 + 1 + 1 by omega]
    unfold mo at this ⊢
    simp only [flat3, List.set_cons_succ, List.getElem_cons_succ, List.modify_succ_cons, this]

set_option maxRecDepth 100000 in
set_option maxHeartbeats 8000000 in
theorem GearsPlay_c (ms : List Mh) (s t m : Int) (v : Value) (w : World) (h : IsTr w w.heap.size v ms) : Calls Try.prog 13 #[v, .int .i64 s, .int .i64 t, .int .i64 m] w fun e w' => e = .returned (.bool true) ∧ Below w.heap.size w w' := by
  have HT := Lib.hid h
  obtain ⟨sv, rfl, A, c, rfl, -, -⟩ := h
  obtain ⟨l, hn⟩ : ∃ n, ms.length = n := ⟨_, rfl⟩
  have HN := Lib.hid hn
  rw [hn] at HT ⊢
  clear hn
  go_enter Try.func13, Try.ntmps13
  go_wp2_with fail
  obtain ⟨W1, hW2⟩ : ∃ Wzz, (w.alloc (.cells #[.slice A l c] 35)) = Wzz := ⟨_, rfl⟩
  have B3 := Lib.hid (show Below w.heap.size w W1 by rw [← hW2]; exact ((Below.refl w.heap.size w).alloc (Nat.le_refl _) _))
  have X4 := Lib.hid (show Box W1 (w.heap.size) 35 #[.slice A l c] by rw [← hW2]; exact Box.made w 35 #[.slice A l c])
  have C5 := Lib.hid (HT.out.later B3.out)
  have SZ6 := Lib.hid (show W1.heap.size = w.heap.size + 1 by rw [← hW2]; simp)
  rw [hW2]
  clear hW2
  have q7 : W1.cell? ⟨w.heap.size, 0, none⟩ = some (.slice A l c) := X4.out.cell 0
  go_wp2_with fail
  refine (awake_c _).mono ?_; rintro e v8 ⟨rfl, hb9⟩
  have X10 := Lib.hid (X4.out.later hb9)
  have C11 := Lib.hid (C5.out.later hb9)
  have B12 := Lib.hid (B3.out.trans (hb9.mono B3.out.size))
  clear hb9
  clear q7
  have q13 : v8.cell? ⟨w.heap.size, 0, none⟩ = some (.slice A l c) := X10.out.cell 0
  go_wp2_with fail
  refine (short_c ms _ _ C11.out).mono ?_; rintro e v14 ⟨rfl, hb15⟩
  have X16 := Lib.hid (X10.out.later hb15)
  have C17 := Lib.hid (C11.out.later hb15)
  have B18 := Lib.hid (B12.out.trans (hb15.mono B12.out.size))
  clear hb15
  rw [HN.out]
  clear q13
  have q19 : v14.cell? ⟨w.heap.size, 0, none⟩ = some (.slice A l c) := X16.out.cell 0
  rcases Nat.lt_or_ge 100 l with hl | hl
  · have e1 : decide (l ≤ 100) = false := by simp; omega
    clear hl
    go_wp2_with fail
    go_ret
    exact ⟨rfl, B18.out⟩
  · have e1 : decide (l ≤ 100) = true := by simp; omega
    have HL := Lib.hid (show ms.length ≤ 100 by rw [HN.out]; exact hl)
    clear hl
    obtain ⟨⟨lo, hi, we⟩, hw9⟩ : ∃ X9, whR ms s t = X9 := ⟨_, rfl⟩
    have HW := Lib.hid hw9
    clear hw9
    go_wp2_with fail
    refine (Where_c ms s t _ _ C17.out).mono ?_; rintro e v20 ⟨rfl, hb21⟩
    have X22 := Lib.hid (X16.out.later hb21)
    have C23 := Lib.hid (C17.out.later hb21)
    have B24 := Lib.hid (B18.out.trans (hb21.mono B18.out.size))
    clear hb21
    rw [HW.out]
    clear q19
    have q25 : v20.cell? ⟨w.heap.size, 0, none⟩ = some (.slice A l c) := X22.out.cell 0
    have X26 := Lib.hid (X22.out.alloc (.cells #[.int .i64 lo, .int .i64 hi] 52))
    have C27 := Lib.hid (C23.out.later ((Below.refl v20.heap.size v20).alloc (Nat.le_refl _) (.cells #[.int .i64 lo, .int .i64 hi] 52)))
    have B28 := Lib.hid (B24.out.alloc B24.out.size (.cells #[.int .i64 lo, .int .i64 hi] 52))
    have X29 := Lib.hid (Box.made v20 52 #[.int .i64 lo, .int .i64 hi])
    have q30 : (v20.alloc (.cells #[.int .i64 lo, .int .i64 hi] 52)).cell? ⟨w.heap.size, 0, none⟩ = some (.slice A l c) := X26.out.cell 0
    have q31 : (v20.alloc (.cells #[.int .i64 lo, .int .i64 hi] 52)).cell? ⟨v20.heap.size, 0, none⟩ = some (.int .i64 lo) := X29.out.cell 0
    have q32 : (v20.alloc (.cells #[.int .i64 lo, .int .i64 hi] 52)).cell? ⟨v20.heap.size, 1, none⟩ = some (.int .i64 hi) := X29.out.cell 1
    by_cases hre : rnE ms s t = 0; rotate_left
    · have h1 := wh_bad hre
      rw [HW.out] at h1
      injection h1 with p1 p2 p3
      have e1 : (we == 0) = false := by rw [p3]; simpa using hre
      have e2 : decide (we = 0) = false := by rw [p3]; simpa using hre
      have e3 : (we != 0) = true := by rw [p3]; simpa using hre
      subst p1 p2
      clear p3 hre
      go_wp2_with fail
      go_ret
      exact ⟨ret_bool (by simp), B28.out⟩
    · obtain ⟨hlh, hwe, n, d, hpl, hn0⟩ := wh_lo_hi hre
      rw [HW.out] at hlh hwe hn0
      obtain rfl : we = 0 := hwe
      have HRE := Lib.hid hre
      have HPL := Lib.hid hpl
      have HRV := Lib.hid (show 1 ≤ l ∧ l ≤ 16 by
        obtain ⟨N, D, n, d, S, T, hr⟩ := rn_zero hre
        have := tr_facts hr.val
        have := HN.out
        omega)
      have d1 : decide (hi < lo) = false := decide_eq_false (by have : lo ≤ hi := hlh; omega)
      have HN0 := Lib.hid (show n = 0 → lo = hi from hn0)
      clear hlh hpl hn0 hre
      go_wp2_with fail
      refine (Play_c ms _ _ C27.out).mono ?_; rintro e v33 ⟨rfl, hb34⟩
      have X35 := Lib.hid (X26.out.later hb34)
      have X36 := Lib.hid (X29.out.later hb34)
      have C37 := Lib.hid (C27.out.later hb34)
      have B38 := Lib.hid (B28.out.trans (hb34.mono B28.out.size))
      clear hb34
      rw [HPL.out]
      clear q30 q31 q32 q25
      have q39 : v33.cell? ⟨w.heap.size, 0, none⟩ = some (.slice A l c) := X35.out.cell 0
      have q40 : v33.cell? ⟨v20.heap.size, 0, none⟩ = some (.int .i64 lo) := X36.out.cell 0
      have q41 : v33.cell? ⟨v20.heap.size, 1, none⟩ = some (.int .i64 hi) := X36.out.cell 1
      have X42 := Lib.hid (X35.out.alloc (.cells #[.int .i64 (n : Int), .int .i64 (d : Int)] 23))
      have X43 := Lib.hid (X36.out.alloc (.cells #[.int .i64 (n : Int), .int .i64 (d : Int)] 23))
      have C44 := Lib.hid (C37.out.later ((Below.refl v33.heap.size v33).alloc (Nat.le_refl _) (.cells #[.int .i64 (n : Int), .int .i64 (d : Int)] 23)))
      have B45 := Lib.hid (B38.out.alloc B38.out.size (.cells #[.int .i64 (n : Int), .int .i64 (d : Int)] 23))
      have X46 := Lib.hid (Box.made v33 23 #[.int .i64 (n : Int), .int .i64 (d : Int)])
      have q47 : (v33.alloc (.cells #[.int .i64 (n : Int), .int .i64 (d : Int)] 23)).cell? ⟨w.heap.size, 0, none⟩ = some (.slice A l c) := X42.out.cell 0
      have q48 : (v33.alloc (.cells #[.int .i64 (n : Int), .int .i64 (d : Int)] 23)).cell? ⟨v20.heap.size, 0, none⟩ = some (.int .i64 lo) := X43.out.cell 0
      have q49 : (v33.alloc (.cells #[.int .i64 (n : Int), .int .i64 (d : Int)] 23)).cell? ⟨v20.heap.size, 1, none⟩ = some (.int .i64 hi) := X43.out.cell 1
      have q50 : (v33.alloc (.cells #[.int .i64 (n : Int), .int .i64 (d : Int)] 23)).cell? ⟨v33.heap.size, 0, none⟩ = some (.int .i64 (n : Int)) := X46.out.cell 0
      have q51 : (v33.alloc (.cells #[.int .i64 (n : Int), .int .i64 (d : Int)] 23)).cell? ⟨v33.heap.size, 1, none⟩ = some (.int .i64 (d : Int)) := X46.out.cell 1
      have HC8 := Lib.hid (show (decide ((n : Int) = 0) && (lo != hi)) = false by
        by_cases h0 : n = 0
        · rw [HN0.out h0]; simp
        · have : decide ((n : Int) = 0) = false := decide_eq_false (by omega)
          rw [this]; rfl)
      by_cases h0 : n = 0
      · have g0 := HN0.out h0
        have g3 : decide ((n : Int) = 0) = true := decide_eq_true (by omega)
        have g4 : ((n : Int) == 0) = true := by simp; omega
        have g5 : decide (n = 0) = true := by simpa using h0
        subst g0
        clear h0
        have g1 : (lo != lo) = false := by simp
        by_cases hm0 : m < 0
        · have f1 : decide (m < 0) = true := by simpa using hm0
          clear hm0
          go_wp2_with fail
          go_ret
          exact ⟨ret_bool (by simp), B45.out⟩
        · have f1 : decide (m < 0) = false := by simpa using hm0
          obtain ⟨j, rfl⟩ := Int.eq_ofNat_of_zero_le (show 0 ≤ m by omega)
          by_cases hm1 : l ≤ j
          · have f2 : decide ((l : Int) ≤ (j : Int)) = true := decide_eq_true (by omega)
            have f3 : decide (l ≤ j) = true := by simpa using hm1
            clear hm1 hm0
            go_wp2_with fail
            go_ret
            exact ⟨ret_bool (by simp), B45.out⟩
          · have f2 : decide ((l : Int) ≤ (j : Int)) = false := decide_eq_false (by omega)
            have f3 : decide (l ≤ j) = false := by simpa using hm1
            have hjl : j < ms.length := by have := HN.out; omega
            obtain ⟨sT, hsT, HM0⟩ := C44.out
            obtain rfl : Value.slice A l c = sT := by simpa using hsT
            obtain ⟨b1, off1, rfl, -, hcap1, hb1, hnw1⟩ := ms_news HM0 (by have := HRV.out; have := HN.out; omega)
            have p2 : ((v33.alloc (.cells #[.int .i64 (n : Int), .int .i64 (d : Int)] 23))).cell? ⟨b1, off1 + j * 3 + 2, none⟩ = some (.int .i64 ms[j].2.2) := by
              obtain ⟨A9, c9, hq9, -, hcl9⟩ := HM0
              injection hq9 with q1 q2 q3
              obtain ⟨b9, off9, hA9, -, hx9⟩ := hcl9 (by omega)
              rw [← q1] at hA9
              injection hA9 with hA9
              injection hA9 with r1 r2 r3
              subst r1 r2
              exact (hx9 j hjl).2.2
            obtain ⟨z, hz⟩ : ∃ z, ms[j].2.2 = z := ⟨_, rfl⟩
            rw [hz] at p2
            have HZZ := Lib.hid hz
            have HN1 := Lib.hid hnw1
            have HBB := Lib.hid hb1
            have HJL := Lib.hid hjl
            have i0' : (0 : Int) ≤ (j : Int) := by omega
            have i1' : (j : Int) < (l : Int) := by omega
            have HJ16 := Lib.hid (show j < l by omega)
            clear hsT HM0 hnw1 hb1 hcap1 hz hm0 hm1
            by_cases hz1 : z = 1000
            · have f4 : decide (z = 1000) = true := by simpa using hz1
              have f5 : (z == 1000) = true := by simpa using hz1
              clear hz1
              go_wp2_with fail
              go_ret
              exact ⟨ret_bool (by simp), B45.out⟩
            · have f4 : decide (z = 1000) = false := by simpa using hz1
              have f5 : (z == 1000) = false := by simpa using hz1
              have HMO := Lib.hid (wh_more (j := j) HRE.out (fun h => by rw [HZZ.out]; exact hz1))
              have HZ1 := Lib.hid (show 0 ≤ z ∧ z ≤ 1000 by
                obtain ⟨N, D, n, d, S, T, hr⟩ := rn_zero HRE.out
                have hm := List.all_eq_true.1 (tr_facts hr.val).2.2.1 _ (List.getElem_mem HJL.out)
                obtain ⟨X, Y, Z, -, -, c1, -, -, -, -, z1⟩ := mesh_nat3 hm
                rw [HZZ.out] at c1
                omega)
              clear hz1
              have hsz : (v33.alloc (.cells #[.int .i64 (n : Int), .int .i64 (d : Int)] 23)).heap.size = (v33.heap.size + 1) := World.size_alloc _ _
              have ho1 := World.ownsRow_made (base := (v33.alloc (.cells #[.int .i64 (n : Int), .int .i64 (d : Int)] 23)).heap.size) (e := 37) (size := 3) (v33.alloc (.cells #[.int .i64 (n : Int), .int .i64 (d : Int)] 23)) #[] 0 (Nat.le_refl _) (Nat.zero_le _) rfl
              have hba := (Below.refl (v33.alloc (.cells #[.int .i64 (n : Int), .int .i64 (d : Int)] 23)).heap.size (v33.alloc (.cells #[.int .i64 (n : Int), .int .i64 (d : Int)] 23))).alloc (Nat.le_refl _) (.cells #[] 37)
              rw [hsz] at ho1 hba
              rw [hsz] at HBB
              have HO1 := Lib.hid ho1
              have HBA := Lib.hid hba
              have HM1 := Lib.hid (news_kept HN1.out (by rw [hsz]; exact HBA.out) (by rw [hsz]; exact HBB.out))
              have HF1 := Lib.hid (show (flat3 ms).length = l * 3 by rw [flat3_len, HN.out])
              have HSV := Lib.hid (show (v33.heap.size + 1) ≤ ((v33.alloc (.cells #[.int .i64 (n : Int), .int .i64 (d : Int)] 23)).alloc (.cells #[] 37)).heap.size by have h := HBA.out.size; rw [hsz] at h; exact h)
              have HMX := Lib.hid (show 0 + l ≤ maxLen ∧ (0 + l) * 24 ≤ 140737488355328 by have := HRV.out; unfold maxLen; omega)
              have HSZ := Lib.hid hsz
              obtain ⟨i0, hi0, hz0, hz1, hz2⟩ : ∃ i, Try.prog.info? 37 = some i ∧ i.zero = some (.agg #[.int .i64 0, .int .i64 0, .int .i64 0]) ∧ i.size = 3 ∧ i.bytes = 24 := ⟨_, rfl, rfl, rfl, rfl⟩
              have qq1 : ((v33.alloc (.cells #[.int .i64 (n : Int), .int .i64 (d : Int)] 23)).alloc (.cells #[] 37)).cell? ⟨w.heap.size, 0, none⟩ = some (.slice (some ⟨b1, off1, none⟩) l c) := (X42.out.alloc (.cells #[] 37)).cell 0
              clear ho1 hba hsz
              go_wp2_with (first
                | (at_builtin; refine wpList_append_own_at _ rfl _ _ 33 rfl (v33.heap.size + 1) 37 i0 (.agg #[.int .i64 0, .int .i64 0, .int .i64 0]) 3 24 Try.underlying33 hi0 hz0 hz1 hz2 rfl (by decide) (.slice (some ⟨(v33.heap.size + 1), 0, none⟩) 0 0) 0 [] rfl HO1.out ⟨b1, off1, none⟩ l c (flat3 ms) rfl HF1.out HM1.out (flat3_one ms) HMX.out.1 HMX.out.2 HSV.out ?_; intro v7 w7 hown7 hgrow7 _ _; rw [Nat.zero_add, List.nil_append] at hown7; obtain ⟨g7, c7, hv7, hg7, hl7⟩ := hown7.form HRV.out.1; subst hv7; have HO7 := Lib.hid hown7; have HG7 := Lib.hid (And.intro hg7 hl7); have HB7 := Lib.hid (HBA.out.grown hgrow7 HSV.out (fun q e => by have := (HO1.out.lt q e).1; omega)); clear hown7 hgrow7 hg7 hl7; refine Hid.out ?_)
                | fail)
              refine Lib.hid ?_
              have HB7' := Lib.hid (show Below (v33.alloc (.cells #[.int .i64 (n : Int), .int .i64 (d : Int)] 23)).heap.size (v33.alloc (.cells #[.int .i64 (n : Int), .int .i64 (d : Int)] 23)) w7 by rw [HSZ.out]; exact HB7.out)
              have XS7 := Lib.hid (X43.out.later HB7'.out)
              have B7 := Lib.hid (B45.out.trans (HB7'.out.mono B45.out.size))
              have HLS := Lib.hid (show v20.heap.size < (v33.heap.size + 1) by have := X43.out.lt; rw [HSZ.out] at this; exact this)
              have HBV := Lib.hid (show w.heap.size ≤ (v33.heap.size + 1) by have := B45.out.size; rw [HSZ.out] at this; exact this)
              clear p2 qq1
              have HO8 := Lib.hid (HO7.out.alloc (.cells #[.slice (some ⟨g7, 0, none⟩) l c7] 35))
              have XS8 := Lib.hid (XS7.out.alloc (.cells #[.slice (some ⟨g7, 0, none⟩) l c7] 35))
              have XM8 := Lib.hid (Box.made w7 35 #[.slice (some ⟨g7, 0, none⟩) l c7])
              have B8 := Lib.hid (B7.out.alloc B7.out.size (.cells #[.slice (some ⟨g7, 0, none⟩) l c7] 35))
              have y0 : (w7.alloc (.cells #[.slice (some ⟨g7, 0, none⟩) l c7] 35)).cell? ⟨w7.heap.size, 0, none⟩ = some (.slice (some ⟨g7, 0, none⟩) l c7) := XM8.out.cell 0
              have y1 : (w7.alloc (.cells #[.slice (some ⟨g7, 0, none⟩) l c7] 35)).cell? ⟨g7, j * 3 + 2, none⟩ = some (.int .i64 z) := by
                rw [HO8.out.cellAt _ (by have := HJ16.out; omega), (flat3_at ms j HJL.out).2.2, HZZ.out]
              have y2 : (w7.alloc (.cells #[.slice (some ⟨g7, 0, none⟩) l c7] 35)).frozen? ⟨g7, j * 3 + 2, none⟩ = false := HO8.out.frozenAt _
              have HST := Lib.hid (HO8.out.stored (j * 3 + 2) (.int .i64 (z + 1)))
              have wz : IntKind.i64.wrap (z + 1) = z + 1 := wrap_id (by have := HZ1.out; omega) (by have := HZ1.out; omega)
              have XS9 := Lib.hid (XS8.out.grown HST.out.2 (ne_row (by have := HG7.out; have := HLS.out; omega)))
              have XM9 := Lib.hid (XM8.out.grown HST.out.2 (ne_row (by have := HG7.out; omega)))
              have B9 := Lib.hid (B8.out.setCell (p := ⟨g7, j * 3 + 2, none⟩) (show w.heap.size ≤ g7 by have := HG7.out; have := HBV.out; omega) (.int .i64 (z + 1)))
              have HTM := Lib.hid (show IsTr ((w7.alloc (.cells #[.slice (some ⟨g7, 0, none⟩) l c7] 35)).setCell ⟨g7, j * 3 + 2, none⟩ (.int .i64 (z + 1))) ((w7.alloc (.cells #[.slice (some ⟨g7, 0, none⟩) l c7] 35)).setCell ⟨g7, j * 3 + 2, none⟩ (.int .i64 (z + 1))).heap.size (.agg #[.slice (some ⟨g7, 0, none⟩) l c7]) (mo ms j) from ⟨_, rfl, own_ms (by
                have h := HST.out.1
                rw [← HZZ.out, flat3_mo HJL.out] at h
                rw [← HZZ.out]; exact h) (by rw [mo_len, HN.out])⟩)
              go_wp2_with fail
              obtain ⟨W9, hW9⟩ : ∃ Wzz, ((w7.alloc (.cells #[.slice (some ⟨g7, 0, none⟩) l c7] 35)).setCell ⟨g7, j * 3 + 2, none⟩ (.int .i64 (z + 1))) = Wzz := ⟨_, rfl⟩
              have XSa := XS9.out
              have XMa := XM9.out
              have Ba := B9.out
              have HTa := HTM.out
              rw [hW9] at XSa XMa Ba HTa ⊢
              have XS10 := Lib.hid XSa
              have XM10 := Lib.hid XMa
              have B10 := Lib.hid Ba
              have HT10 := Lib.hid HTa
              clear hW9 XSa XMa Ba HTa y0 y1 y2 wz i0' i1' f1 f2 f3 f4 f5 d1
              have q52 : W9.cell? ⟨v20.heap.size, 0, none⟩ = some (.int .i64 lo) := XS10.out.cell 0
              have q53 : W9.cell? ⟨v20.heap.size, 1, none⟩ = some (.int .i64 lo) := XS10.out.cell 1
              have q54 : W9.cell? ⟨w7.heap.size, 0, none⟩ = some (.slice (some ⟨g7, 0, none⟩) l c7) := XM10.out.cell 0
              obtain ⟨⟨xl, xh, xe⟩, hx9⟩ : ∃ X9, whR (mo ms j) s t = X9 := ⟨_, rfl⟩
              have HX := Lib.hid hx9
              clear hx9
              go_wp2_with fail
              refine (Where_c (mo ms j) s t _ _ HT10.out).mono ?_; rintro e v55 ⟨rfl, hb56⟩
              have X57 := Lib.hid (XS10.out.later hb56)
              have X58 := Lib.hid (XM10.out.later hb56)
              have C59 := Lib.hid (HT10.out.later hb56)
              have B60 := Lib.hid (B10.out.trans (hb56.mono B10.out.size))
              clear hb56
              rw [HX.out]
              clear q52 q53 q54
              have q61 : v55.cell? ⟨v20.heap.size, 0, none⟩ = some (.int .i64 lo) := X57.out.cell 0
              have q62 : v55.cell? ⟨v20.heap.size, 1, none⟩ = some (.int .i64 lo) := X57.out.cell 1
              have q63 : v55.cell? ⟨w7.heap.size, 0, none⟩ = some (.slice (some ⟨g7, 0, none⟩) l c7) := X58.out.cell 0
              have X64 := Lib.hid (X57.out.alloc (.cells #[.int .i64 xl, .int .i64 xh] 52))
              have X65 := Lib.hid (X58.out.alloc (.cells #[.int .i64 xl, .int .i64 xh] 52))
              have C66 := Lib.hid (C59.out.later ((Below.refl v55.heap.size v55).alloc (Nat.le_refl _) (.cells #[.int .i64 xl, .int .i64 xh] 52)))
              have B67 := Lib.hid (B60.out.alloc B60.out.size (.cells #[.int .i64 xl, .int .i64 xh] 52))
              have X68 := Lib.hid (Box.made v55 52 #[.int .i64 xl, .int .i64 xh])
              have q69 : (v55.alloc (.cells #[.int .i64 xl, .int .i64 xh] 52)).cell? ⟨v20.heap.size, 0, none⟩ = some (.int .i64 lo) := X64.out.cell 0
              have q70 : (v55.alloc (.cells #[.int .i64 xl, .int .i64 xh] 52)).cell? ⟨v20.heap.size, 1, none⟩ = some (.int .i64 lo) := X64.out.cell 1
              have q71 : (v55.alloc (.cells #[.int .i64 xl, .int .i64 xh] 52)).cell? ⟨w7.heap.size, 0, none⟩ = some (.slice (some ⟨g7, 0, none⟩) l c7) := X65.out.cell 0
              have q72 : (v55.alloc (.cells #[.int .i64 xl, .int .i64 xh] 52)).cell? ⟨v55.heap.size, 0, none⟩ = some (.int .i64 xl) := X68.out.cell 0
              have q73 : (v55.alloc (.cells #[.int .i64 xl, .int .i64 xh] 52)).cell? ⟨v55.heap.size, 1, none⟩ = some (.int .i64 xh) := X68.out.cell 1
              rcases HMO.out with h1 | ⟨h1, h2, h3⟩
              · rw [HX.out] at h1
                obtain rfl : xe = 2 := h1
                go_wp2_with fail
                go_ret
                exact ⟨ret_bool (by simp), B67.out⟩
              · rw [HX.out] at h1 h2 h3
                rw [HW.out] at h2 h3
                obtain rfl : xe = 0 := h1
                have h3' : lo = xh := h3.symm
                subst h3'
                have g4 : decide (xl ≤ lo) = true := by have : xl ≤ lo := h2; simpa using this
                have g5 : ∀ z : Int, (z == z) = true := fun z => by simp
                clear h2 h3
                go_wp2_with fail
                go_ret
                exact ⟨ret_bool (by simp), B67.out⟩
      · have g1 : decide ((n : Int) = 0) = false := decide_eq_false (by omega)
        have g2 : ((n : Int) == 0) = false := by simp; omega
        have g3 : decide (n = 0) = false := by simpa using h0
        clear h0
        by_cases hm0 : m < 0
        · have f1 : decide (m < 0) = true := by simpa using hm0
          clear hm0
          go_wp2_with fail
          go_ret
          exact ⟨ret_bool (by simp), B45.out⟩
        · have f1 : decide (m < 0) = false := by simpa using hm0
          obtain ⟨j, rfl⟩ := Int.eq_ofNat_of_zero_le (show 0 ≤ m by omega)
          by_cases hm1 : l ≤ j
          · have f2 : decide ((l : Int) ≤ (j : Int)) = true := decide_eq_true (by omega)
            have f3 : decide (l ≤ j) = true := by simpa using hm1
            clear hm1 hm0
            go_wp2_with fail
            go_ret
            exact ⟨ret_bool (by simp), B45.out⟩
          · have f2 : decide ((l : Int) ≤ (j : Int)) = false := decide_eq_false (by omega)
            have f3 : decide (l ≤ j) = false := by simpa using hm1
            have hjl : j < ms.length := by have := HN.out; omega
            obtain ⟨sT, hsT, HM0⟩ := C44.out
            obtain rfl : Value.slice A l c = sT := by simpa using hsT
            obtain ⟨b1, off1, rfl, -, hcap1, hb1, hnw1⟩ := ms_news HM0 (by have := HRV.out; have := HN.out; omega)
            have p2 : ((v33.alloc (.cells #[.int .i64 (n : Int), .int .i64 (d : Int)] 23))).cell? ⟨b1, off1 + j * 3 + 2, none⟩ = some (.int .i64 ms[j].2.2) := by
              obtain ⟨A9, c9, hq9, -, hcl9⟩ := HM0
              injection hq9 with q1 q2 q3
              obtain ⟨b9, off9, hA9, -, hx9⟩ := hcl9 (by omega)
              rw [← q1] at hA9
              injection hA9 with hA9
              injection hA9 with r1 r2 r3
              subst r1 r2
              exact (hx9 j hjl).2.2
            obtain ⟨z, hz⟩ : ∃ z, ms[j].2.2 = z := ⟨_, rfl⟩
            rw [hz] at p2
            have HZZ := Lib.hid hz
            have HN1 := Lib.hid hnw1
            have HBB := Lib.hid hb1
            have HJL := Lib.hid hjl
            have i0' : (0 : Int) ≤ (j : Int) := by omega
            have i1' : (j : Int) < (l : Int) := by omega
            have HJ16 := Lib.hid (show j < l by omega)
            clear hsT HM0 hnw1 hb1 hcap1 hz hm0 hm1
            by_cases hz1 : z = 1000
            · have f4 : decide (z = 1000) = true := by simpa using hz1
              have f5 : (z == 1000) = true := by simpa using hz1
              clear hz1
              go_wp2_with fail
              go_ret
              exact ⟨ret_bool (by simp), B45.out⟩
            · have f4 : decide (z = 1000) = false := by simpa using hz1
              have f5 : (z == 1000) = false := by simpa using hz1
              have HMO := Lib.hid (wh_more (j := j) HRE.out (fun h => by rw [HZZ.out]; exact hz1))
              have HZ1 := Lib.hid (show 0 ≤ z ∧ z ≤ 1000 by
                obtain ⟨N, D, n, d, S, T, hr⟩ := rn_zero HRE.out
                have hm := List.all_eq_true.1 (tr_facts hr.val).2.2.1 _ (List.getElem_mem HJL.out)
                obtain ⟨X, Y, Z, -, -, c1, -, -, -, -, z1⟩ := mesh_nat3 hm
                rw [HZZ.out] at c1
                omega)
              clear hz1
              have hsz : (v33.alloc (.cells #[.int .i64 (n : Int), .int .i64 (d : Int)] 23)).heap.size = (v33.heap.size + 1) := World.size_alloc _ _
              have ho1 := World.ownsRow_made (base := (v33.alloc (.cells #[.int .i64 (n : Int), .int .i64 (d : Int)] 23)).heap.size) (e := 37) (size := 3) (v33.alloc (.cells #[.int .i64 (n : Int), .int .i64 (d : Int)] 23)) #[] 0 (Nat.le_refl _) (Nat.zero_le _) rfl
              have hba := (Below.refl (v33.alloc (.cells #[.int .i64 (n : Int), .int .i64 (d : Int)] 23)).heap.size (v33.alloc (.cells #[.int .i64 (n : Int), .int .i64 (d : Int)] 23))).alloc (Nat.le_refl _) (.cells #[] 37)
              rw [hsz] at ho1 hba
              rw [hsz] at HBB
              have HO1 := Lib.hid ho1
              have HBA := Lib.hid hba
              have HM1 := Lib.hid (news_kept HN1.out (by rw [hsz]; exact HBA.out) (by rw [hsz]; exact HBB.out))
              have HF1 := Lib.hid (show (flat3 ms).length = l * 3 by rw [flat3_len, HN.out])
              have HSV := Lib.hid (show (v33.heap.size + 1) ≤ ((v33.alloc (.cells #[.int .i64 (n : Int), .int .i64 (d : Int)] 23)).alloc (.cells #[] 37)).heap.size by have h := HBA.out.size; rw [hsz] at h; exact h)
              have HMX := Lib.hid (show 0 + l ≤ maxLen ∧ (0 + l) * 24 ≤ 140737488355328 by have := HRV.out; unfold maxLen; omega)
              have HSZ := Lib.hid hsz
              obtain ⟨i0, hi0, hz0, hz1, hz2⟩ : ∃ i, Try.prog.info? 37 = some i ∧ i.zero = some (.agg #[.int .i64 0, .int .i64 0, .int .i64 0]) ∧ i.size = 3 ∧ i.bytes = 24 := ⟨_, rfl, rfl, rfl, rfl⟩
              have qq1 : ((v33.alloc (.cells #[.int .i64 (n : Int), .int .i64 (d : Int)] 23)).alloc (.cells #[] 37)).cell? ⟨w.heap.size, 0, none⟩ = some (.slice (some ⟨b1, off1, none⟩) l c) := (X42.out.alloc (.cells #[] 37)).cell 0
              clear ho1 hba hsz
              go_wp2_with (first
                | (at_builtin; refine wpList_append_own_at _ rfl _ _ 33 rfl (v33.heap.size + 1) 37 i0 (.agg #[.int .i64 0, .int .i64 0, .int .i64 0]) 3 24 Try.underlying33 hi0 hz0 hz1 hz2 rfl (by decide) (.slice (some ⟨(v33.heap.size + 1), 0, none⟩) 0 0) 0 [] rfl HO1.out ⟨b1, off1, none⟩ l c (flat3 ms) rfl HF1.out HM1.out (flat3_one ms) HMX.out.1 HMX.out.2 HSV.out ?_; intro v7 w7 hown7 hgrow7 _ _; rw [Nat.zero_add, List.nil_append] at hown7; obtain ⟨g7, c7, hv7, hg7, hl7⟩ := hown7.form HRV.out.1; subst hv7; have HO7 := Lib.hid hown7; have HG7 := Lib.hid (And.intro hg7 hl7); have HB7 := Lib.hid (HBA.out.grown hgrow7 HSV.out (fun q e => by have := (HO1.out.lt q e).1; omega)); clear hown7 hgrow7 hg7 hl7; refine Hid.out ?_)
                | fail)
              refine Lib.hid ?_
              have HB7' := Lib.hid (show Below (v33.alloc (.cells #[.int .i64 (n : Int), .int .i64 (d : Int)] 23)).heap.size (v33.alloc (.cells #[.int .i64 (n : Int), .int .i64 (d : Int)] 23)) w7 by rw [HSZ.out]; exact HB7.out)
              have XS7 := Lib.hid (X43.out.later HB7'.out)
              have B7 := Lib.hid (B45.out.trans (HB7'.out.mono B45.out.size))
              have HLS := Lib.hid (show v20.heap.size < (v33.heap.size + 1) by have := X43.out.lt; rw [HSZ.out] at this; exact this)
              have HBV := Lib.hid (show w.heap.size ≤ (v33.heap.size + 1) by have := B45.out.size; rw [HSZ.out] at this; exact this)
              clear p2 qq1
              have HO8 := Lib.hid (HO7.out.alloc (.cells #[.slice (some ⟨g7, 0, none⟩) l c7] 35))
              have XS8 := Lib.hid (XS7.out.alloc (.cells #[.slice (some ⟨g7, 0, none⟩) l c7] 35))
              have XM8 := Lib.hid (Box.made w7 35 #[.slice (some ⟨g7, 0, none⟩) l c7])
              have B8 := Lib.hid (B7.out.alloc B7.out.size (.cells #[.slice (some ⟨g7, 0, none⟩) l c7] 35))
              have y0 : (w7.alloc (.cells #[.slice (some ⟨g7, 0, none⟩) l c7] 35)).cell? ⟨w7.heap.size, 0, none⟩ = some (.slice (some ⟨g7, 0, none⟩) l c7) := XM8.out.cell 0
              have y1 : (w7.alloc (.cells #[.slice (some ⟨g7, 0, none⟩) l c7] 35)).cell? ⟨g7, j * 3 + 2, none⟩ = some (.int .i64 z) := by
                rw [HO8.out.cellAt _ (by have := HJ16.out; omega), (flat3_at ms j HJL.out).2.2, HZZ.out]
              have y2 : (w7.alloc (.cells #[.slice (some ⟨g7, 0, none⟩) l c7] 35)).frozen? ⟨g7, j * 3 + 2, none⟩ = false := HO8.out.frozenAt _
              have HST := Lib.hid (HO8.out.stored (j * 3 + 2) (.int .i64 (z + 1)))
              have wz : IntKind.i64.wrap (z + 1) = z + 1 := wrap_id (by have := HZ1.out; omega) (by have := HZ1.out; omega)
              have XS9 := Lib.hid (XS8.out.grown HST.out.2 (ne_row (by have := HG7.out; have := HLS.out; omega)))
              have XM9 := Lib.hid (XM8.out.grown HST.out.2 (ne_row (by have := HG7.out; omega)))
              have B9 := Lib.hid (B8.out.setCell (p := ⟨g7, j * 3 + 2, none⟩) (show w.heap.size ≤ g7 by have := HG7.out; have := HBV.out; omega) (.int .i64 (z + 1)))
              have HTM := Lib.hid (show IsTr ((w7.alloc (.cells #[.slice (some ⟨g7, 0, none⟩) l c7] 35)).setCell ⟨g7, j * 3 + 2, none⟩ (.int .i64 (z + 1))) ((w7.alloc (.cells #[.slice (some ⟨g7, 0, none⟩) l c7] 35)).setCell ⟨g7, j * 3 + 2, none⟩ (.int .i64 (z + 1))).heap.size (.agg #[.slice (some ⟨g7, 0, none⟩) l c7]) (mo ms j) from ⟨_, rfl, own_ms (by
                have h := HST.out.1
                rw [← HZZ.out, flat3_mo HJL.out] at h
                rw [← HZZ.out]; exact h) (by rw [mo_len, HN.out])⟩)
              go_wp2_with fail
              obtain ⟨W9, hW9⟩ : ∃ Wzz, ((w7.alloc (.cells #[.slice (some ⟨g7, 0, none⟩) l c7] 35)).setCell ⟨g7, j * 3 + 2, none⟩ (.int .i64 (z + 1))) = Wzz := ⟨_, rfl⟩
              have XSa := XS9.out
              have XMa := XM9.out
              have Ba := B9.out
              have HTa := HTM.out
              rw [hW9] at XSa XMa Ba HTa ⊢
              have XS10 := Lib.hid XSa
              have XM10 := Lib.hid XMa
              have B10 := Lib.hid Ba
              have HT10 := Lib.hid HTa
              clear hW9 XSa XMa Ba HTa y0 y1 y2 wz i0' i1' f1 f2 f3 f4 f5 d1
              have q74 : W9.cell? ⟨v20.heap.size, 0, none⟩ = some (.int .i64 lo) := XS10.out.cell 0
              have q75 : W9.cell? ⟨v20.heap.size, 1, none⟩ = some (.int .i64 hi) := XS10.out.cell 1
              have q76 : W9.cell? ⟨w7.heap.size, 0, none⟩ = some (.slice (some ⟨g7, 0, none⟩) l c7) := XM10.out.cell 0
              obtain ⟨⟨xl, xh, xe⟩, hx9⟩ : ∃ X9, whR (mo ms j) s t = X9 := ⟨_, rfl⟩
              have HX := Lib.hid hx9
              clear hx9
              go_wp2_with fail
              refine (Where_c (mo ms j) s t _ _ HT10.out).mono ?_; rintro e v77 ⟨rfl, hb78⟩
              have X79 := Lib.hid (XS10.out.later hb78)
              have X80 := Lib.hid (XM10.out.later hb78)
              have C81 := Lib.hid (HT10.out.later hb78)
              have B82 := Lib.hid (B10.out.trans (hb78.mono B10.out.size))
              clear hb78
              rw [HX.out]
              clear q74 q75 q76
              have q83 : v77.cell? ⟨v20.heap.size, 0, none⟩ = some (.int .i64 lo) := X79.out.cell 0
              have q84 : v77.cell? ⟨v20.heap.size, 1, none⟩ = some (.int .i64 hi) := X79.out.cell 1
              have q85 : v77.cell? ⟨w7.heap.size, 0, none⟩ = some (.slice (some ⟨g7, 0, none⟩) l c7) := X80.out.cell 0
              have X86 := Lib.hid (X79.out.alloc (.cells #[.int .i64 xl, .int .i64 xh] 52))
              have X87 := Lib.hid (X80.out.alloc (.cells #[.int .i64 xl, .int .i64 xh] 52))
              have C88 := Lib.hid (C81.out.later ((Below.refl v77.heap.size v77).alloc (Nat.le_refl _) (.cells #[.int .i64 xl, .int .i64 xh] 52)))
              have B89 := Lib.hid (B82.out.alloc B82.out.size (.cells #[.int .i64 xl, .int .i64 xh] 52))
              have X90 := Lib.hid (Box.made v77 52 #[.int .i64 xl, .int .i64 xh])
              have q91 : (v77.alloc (.cells #[.int .i64 xl, .int .i64 xh] 52)).cell? ⟨v20.heap.size, 0, none⟩ = some (.int .i64 lo) := X86.out.cell 0
              have q92 : (v77.alloc (.cells #[.int .i64 xl, .int .i64 xh] 52)).cell? ⟨v20.heap.size, 1, none⟩ = some (.int .i64 hi) := X86.out.cell 1
              have q93 : (v77.alloc (.cells #[.int .i64 xl, .int .i64 xh] 52)).cell? ⟨w7.heap.size, 0, none⟩ = some (.slice (some ⟨g7, 0, none⟩) l c7) := X87.out.cell 0
              have q94 : (v77.alloc (.cells #[.int .i64 xl, .int .i64 xh] 52)).cell? ⟨v77.heap.size, 0, none⟩ = some (.int .i64 xl) := X90.out.cell 0
              have q95 : (v77.alloc (.cells #[.int .i64 xl, .int .i64 xh] 52)).cell? ⟨v77.heap.size, 1, none⟩ = some (.int .i64 xh) := X90.out.cell 1
              rcases HMO.out with h1 | ⟨h1, h2, h3⟩
              · rw [HX.out] at h1
                obtain rfl : xe = 2 := h1
                go_wp2_with fail
                go_ret
                exact ⟨ret_bool (by simp), B89.out⟩
              · rw [HX.out] at h1 h2 h3
                rw [HW.out] at h2 h3
                obtain rfl : xe = 0 := h1
                have h3' : hi = xh := h3.symm
                subst h3'
                have g4 : decide (xl ≤ lo) = true := by have : xl ≤ lo := h2; simpa using this
                have g5 : ∀ z : Int, (z == z) = true := fun z => by simp
                clear h2 h3
                go_wp2_with fail
                go_ret
                exact ⟨ret_bool (by simp), B89.out⟩

end Go.Proofs.Ytmmfmanjajefcaa

/- Layer 7: the law on the bell. -/
import Derived.Test.YtmmfmanjajefcaaGR0
set_option linter.all false
namespace Go.Proofs.Ytmmfmanjajefcaa
open Go.RowKit

set_option maxRecDepth 100000 in
set_option maxHeartbeats 8000000 in
theorem GearsBell_c (ms : List Mh) (bm fh fd fk : Int) (v : Value) (w : World) (h : IsTr w w.heap.size v ms) : Calls Try.prog 15 #[v, .agg #[.int .i64 bm], .agg #[.int .i64 fh, .int .i64 fd, .int .i64 fk]] w fun e w' => e = .returned (.bool true) ∧ Below w.heap.size w w' := by
  have HT := Lib.hid h
  obtain ⟨sv, rfl, A, c, rfl, -, -⟩ := h
  obtain ⟨l, hn⟩ : ∃ n, ms.length = n := ⟨_, rfl⟩
  have HN := Lib.hid hn
  rw [hn] at HT ⊢
  clear hn
  go_enter Try.func15, Try.ntmps15
  go_wp2_with fail
  obtain ⟨W1, hW2⟩ : ∃ Wzz, (((w.alloc (.cells #[.slice A l c] 35)).alloc (.cells #[.int .i64 bm] 59)).alloc (.cells #[.int .i64 fh, .int .i64 fd, .int .i64 fk] 57)) = Wzz := ⟨_, rfl⟩
  have B3 := Lib.hid (show Below w.heap.size w W1 by rw [← hW2]; exact ((((Below.refl w.heap.size w).alloc (Nat.le_refl _) _).alloc (by first | (simp; done) | (simp; omega)) _).alloc (by first | (simp; done) | (simp; omega)) _))
  have X4 := Lib.hid (show Box W1 (w.heap.size) 35 #[.slice A l c] by rw [← hW2]; exact Box.alloc (Box.alloc (Box.made w 35 #[.slice A l c]) (.cells #[.int .i64 bm] 59)) (.cells #[.int .i64 fh, .int .i64 fd, .int .i64 fk] 57))
  have X5 := Lib.hid (show Box W1 (w.heap.size + 1) 59 #[.int .i64 bm] by
    have hz := Box.alloc (Box.made (w.alloc (.cells #[.slice A l c] 35)) 59 #[.int .i64 bm]) (.cells #[.int .i64 fh, .int .i64 fd, .int .i64 fk] 57)
    rw [World.size_alloc] at hz
    rw [← hW2]; exact hz)
  have X6 := Lib.hid (show Box W1 (w.heap.size + 1 + 1) 57 #[.int .i64 fh, .int .i64 fd, .int .i64 fk] by
    have hz := Box.made ((w.alloc (.cells #[.slice A l c] 35)).alloc (.cells #[.int .i64 bm] 59)) 57 #[.int .i64 fh, .int .i64 fd, .int .i64 fk]
    rw [World.size_alloc, World.size_alloc] at hz
    rw [← hW2]; exact hz)
  have C7 := Lib.hid (HT.out.later B3.out)
  have SZ8 := Lib.hid (show W1.heap.size = w.heap.size + 1 + 1 + 1 by rw [← hW2]; simp)
  rw [hW2]
  clear hW2
  have q9 : W1.cell? ⟨w.heap.size, 0, none⟩ = some (.slice A l c) := X4.out.cell 0
  have q10 : W1.cell? ⟨w.heap.size + 1, 0, none⟩ = some (.int .i64 bm) := X5.out.cell 0
  have q11 : W1.cell? ⟨w.heap.size + 1 + 1, 0, none⟩ = some (.int .i64 fh) := X6.out.cell 0
  have q12 : W1.cell? ⟨w.heap.size + 1 + 1, 1, none⟩ = some (.int .i64 fd) := X6.out.cell 1
  have q13 : W1.cell? ⟨w.heap.size + 1 + 1, 2, none⟩ = some (.int .i64 fk) := X6.out.cell 2
  go_wp2_with fail
  refine (awake_c _).mono ?_; rintro e v14 ⟨rfl, hb15⟩
  have X16 := Lib.hid (X4.out.later hb15)
  have X17 := Lib.hid (X5.out.later hb15)
  have X18 := Lib.hid (X6.out.later hb15)
  have C19 := Lib.hid (C7.out.later hb15)
  have B20 := Lib.hid (B3.out.trans (hb15.mono B3.out.size))
  clear hb15
  clear q9 q10 q11 q12 q13
  have q21 : v14.cell? ⟨w.heap.size, 0, none⟩ = some (.slice A l c) := X16.out.cell 0
  have q22 : v14.cell? ⟨w.heap.size + 1, 0, none⟩ = some (.int .i64 bm) := X17.out.cell 0
  have q23 : v14.cell? ⟨w.heap.size + 1 + 1, 0, none⟩ = some (.int .i64 fh) := X18.out.cell 0
  have q24 : v14.cell? ⟨w.heap.size + 1 + 1, 1, none⟩ = some (.int .i64 fd) := X18.out.cell 1
  have q25 : v14.cell? ⟨w.heap.size + 1 + 1, 2, none⟩ = some (.int .i64 fk) := X18.out.cell 2
  go_wp2_with fail
  refine (short_c ms _ _ C19.out).mono ?_; rintro e v26 ⟨rfl, hb27⟩
  have X28 := Lib.hid (X16.out.later hb27)
  have X29 := Lib.hid (X17.out.later hb27)
  have X30 := Lib.hid (X18.out.later hb27)
  have C31 := Lib.hid (C19.out.later hb27)
  have B32 := Lib.hid (B20.out.trans (hb27.mono B20.out.size))
  clear hb27
  rw [HN.out]
  clear q21 q22 q23 q24 q25
  have q33 : v26.cell? ⟨w.heap.size, 0, none⟩ = some (.slice A l c) := X28.out.cell 0
  have q34 : v26.cell? ⟨w.heap.size + 1, 0, none⟩ = some (.int .i64 bm) := X29.out.cell 0
  have q35 : v26.cell? ⟨w.heap.size + 1 + 1, 0, none⟩ = some (.int .i64 fh) := X30.out.cell 0
  have q36 : v26.cell? ⟨w.heap.size + 1 + 1, 1, none⟩ = some (.int .i64 fd) := X30.out.cell 1
  have q37 : v26.cell? ⟨w.heap.size + 1 + 1, 2, none⟩ = some (.int .i64 fk) := X30.out.cell 2
  rcases Nat.lt_or_ge 100 l with hl | hl
  · have e1 : decide (l ≤ 100) = false := by simp; omega
    clear hl
    go_wp2_with fail
    go_ret
    exact ⟨rfl, B32.out⟩
  · have e1 : decide (l ≤ 100) = true := by simp; omega
    have HL := Lib.hid (show ms.length ≤ 100 by rw [HN.out]; exact hl)
    clear hl
    obtain ⟨re, hre9⟩ : ∃ X9, riE bm fh fd fk = X9 := ⟨_, rfl⟩
    have HRE := Lib.hid hre9
    clear hre9
    obtain ⟨rv, hrv9⟩ : ∃ X9, riV bm fh fd fk = X9 := ⟨_, rfl⟩
    have HRV := Lib.hid hrv9
    clear hrv9
    go_wp2_with fail
    refine (Rings_c bm fh fd fk _).mono ?_; rintro e v38 ⟨rfl, hb39⟩
    have X40 := Lib.hid (X28.out.later hb39)
    have X41 := Lib.hid (X29.out.later hb39)
    have X42 := Lib.hid (X30.out.later hb39)
    have C43 := Lib.hid (C31.out.later hb39)
    have B44 := Lib.hid (B32.out.trans (hb39.mono B32.out.size))
    clear hb39
    rw [HRV.out, HRE.out]
    clear q33 q34 q35 q36 q37
    have q45 : v38.cell? ⟨w.heap.size, 0, none⟩ = some (.slice A l c) := X40.out.cell 0
    have q46 : v38.cell? ⟨w.heap.size + 1, 0, none⟩ = some (.int .i64 bm) := X41.out.cell 0
    have q47 : v38.cell? ⟨w.heap.size + 1 + 1, 0, none⟩ = some (.int .i64 fh) := X42.out.cell 0
    have q48 : v38.cell? ⟨w.heap.size + 1 + 1, 1, none⟩ = some (.int .i64 fd) := X42.out.cell 1
    have q49 : v38.cell? ⟨w.heap.size + 1 + 1, 2, none⟩ = some (.int .i64 fk) := X42.out.cell 2
    by_cases hre : re = 0; rotate_left
    · have e1 : (re == 0) = false := by simpa using hre
      have e2 : decide (re = 0) = false := by simpa using hre
      rcases ri_bad (m := bm) (h := fh) (d := fd) (k := fk) (by rw [HRE.out]; exact hre) with ⟨h1, h2⟩ | ⟨h1, h2, h3⟩
      · have HF := Lib.hid h1
        obtain rfl : re = 33 := HRE.out.symm.trans h2
        clear hre h1 h2 e1 e2
        go_wp2_with fail
        refine (ValidFeed_c fh fd fk _).mono ?_; rintro e v50 ⟨rfl, hb51⟩
        have X52 := Lib.hid (X40.out.later hb51)
        have X53 := Lib.hid (X41.out.later hb51)
        have X54 := Lib.hid (X42.out.later hb51)
        have C55 := Lib.hid (C43.out.later hb51)
        have B56 := Lib.hid (B44.out.trans (hb51.mono B44.out.size))
        clear hb51
        rw [HF.out]
        clear q45 q46 q47 q48 q49
        have q57 : v50.cell? ⟨w.heap.size, 0, none⟩ = some (.slice A l c) := X52.out.cell 0
        have q58 : v50.cell? ⟨w.heap.size + 1, 0, none⟩ = some (.int .i64 bm) := X53.out.cell 0
        have q59 : v50.cell? ⟨w.heap.size + 1 + 1, 0, none⟩ = some (.int .i64 fh) := X54.out.cell 0
        have q60 : v50.cell? ⟨w.heap.size + 1 + 1, 1, none⟩ = some (.int .i64 fd) := X54.out.cell 1
        have q61 : v50.cell? ⟨w.heap.size + 1 + 1, 2, none⟩ = some (.int .i64 fk) := X54.out.cell 2
        go_wp2_with fail
        go_ret
        exact ⟨ret_bool (by simp), B56.out⟩
      · have HF := Lib.hid h1
        obtain rfl : re = 72 := HRE.out.symm.trans h2
        have d1 : decide (bm < 1) = true := by simpa using h3
        clear hre h1 h2 h3 e1 e2
        go_wp2_with fail
        refine (ValidFeed_c fh fd fk _).mono ?_; rintro e v62 ⟨rfl, hb63⟩
        have X64 := Lib.hid (X40.out.later hb63)
        have X65 := Lib.hid (X41.out.later hb63)
        have X66 := Lib.hid (X42.out.later hb63)
        have C67 := Lib.hid (C43.out.later hb63)
        have B68 := Lib.hid (B44.out.trans (hb63.mono B44.out.size))
        clear hb63
        rw [HF.out]
        clear q45 q46 q47 q48 q49
        have q69 : v62.cell? ⟨w.heap.size, 0, none⟩ = some (.slice A l c) := X64.out.cell 0
        have q70 : v62.cell? ⟨w.heap.size + 1, 0, none⟩ = some (.int .i64 bm) := X65.out.cell 0
        have q71 : v62.cell? ⟨w.heap.size + 1 + 1, 0, none⟩ = some (.int .i64 fh) := X66.out.cell 0
        have q72 : v62.cell? ⟨w.heap.size + 1 + 1, 1, none⟩ = some (.int .i64 fd) := X66.out.cell 1
        have q73 : v62.cell? ⟨w.heap.size + 1 + 1, 2, none⟩ = some (.int .i64 fk) := X66.out.cell 2
        go_wp2_with fail
        go_ret
        exact ⟨ret_bool (by simp), B68.out⟩
    · subst hre
      obtain ⟨n, hb⟩ := bell_ok HRE.out
      have HB := Lib.hid hb
      obtain rfl : rv = n := HRV.out.symm.trans hb.v
      have HDR := Lib.hid hb.dr
      have HDQ := Lib.hid hb.b4
      clear hb
      obtain ⟨dl, hdl9⟩ : ∃ X9, drL fh fd fk rv = X9 := ⟨_, rfl⟩
      have HDL := Lib.hid hdl9
      clear hdl9
      obtain ⟨df, hdf9⟩ : ∃ X9, drF fh fd fk rv = X9 := ⟨_, rfl⟩
      have HDF := Lib.hid hdf9
      clear hdf9
      go_wp2_with fail
      refine (Drawn_c fh fd fk rv _).mono ?_; rintro e v74 ⟨rfl, hb75⟩
      have X76 := Lib.hid (X40.out.later hb75)
      have X77 := Lib.hid (X41.out.later hb75)
      have X78 := Lib.hid (X42.out.later hb75)
      have C79 := Lib.hid (C43.out.later hb75)
      have B80 := Lib.hid (B44.out.trans (hb75.mono B44.out.size))
      clear hb75
      rw [HDR.out.1, HDL.out, HDF.out]
      clear q45 q46 q47 q48 q49
      have q81 : v74.cell? ⟨w.heap.size, 0, none⟩ = some (.slice A l c) := X76.out.cell 0
      have q82 : v74.cell? ⟨w.heap.size + 1, 0, none⟩ = some (.int .i64 bm) := X77.out.cell 0
      have q83 : v74.cell? ⟨w.heap.size + 1 + 1, 0, none⟩ = some (.int .i64 fh) := X78.out.cell 0
      have q84 : v74.cell? ⟨w.heap.size + 1 + 1, 1, none⟩ = some (.int .i64 fd) := X78.out.cell 1
      have q85 : v74.cell? ⟨w.heap.size + 1 + 1, 2, none⟩ = some (.int .i64 fk) := X78.out.cell 2
      have d1 : decide (bm ≤ dl) = false := decide_eq_false (by have := HDR.out.2; rw [HDL.out] at this; omega)
      have d2 : decide (rv < 0) = false := decide_eq_false (by have := HB.out.n0; omega)
      have w1 : IntKind.i64.wrap (rv - 1) = rv - 1 := wrap_id (by have := HB.out.n0; omega) (by have := HB.out.n1; omega)
      by_cases hn : 0 < rv; rotate_left
      · have f1 : decide (0 < rv) = false := by simpa using hn
        clear hn
        by_cases hbm : bm < 1000000; rotate_left
        · have g1 : decide (bm < 1000000) = false := by simpa using hbm
          clear hbm
          obtain ⟨⟨tn, td, te⟩, hti9⟩ : ∃ X9, tiR ms fh fd fk fk = X9 := ⟨_, rfl⟩
          have HTI := Lib.hid hti9
          clear hti9
          go_wp2_with fail
          refine (Time_c ms fh fd fk fk _ _ C79.out).mono ?_; rintro e v86 ⟨rfl, hb87⟩
          have X88 := Lib.hid (X76.out.later hb87)
          have X89 := Lib.hid (X77.out.later hb87)
          have X90 := Lib.hid (X78.out.later hb87)
          have C91 := Lib.hid (C79.out.later hb87)
          have B92 := Lib.hid (B80.out.trans (hb87.mono B80.out.size))
          clear hb87
          rw [HTI.out]
          clear q81 q82 q83 q84 q85
          have q93 : v86.cell? ⟨w.heap.size, 0, none⟩ = some (.slice A l c) := X88.out.cell 0
          have q94 : v86.cell? ⟨w.heap.size + 1, 0, none⟩ = some (.int .i64 bm) := X89.out.cell 0
          have q95 : v86.cell? ⟨w.heap.size + 1 + 1, 0, none⟩ = some (.int .i64 fh) := X90.out.cell 0
          have q96 : v86.cell? ⟨w.heap.size + 1 + 1, 1, none⟩ = some (.int .i64 fd) := X90.out.cell 1
          have q97 : v86.cell? ⟨w.heap.size + 1 + 1, 2, none⟩ = some (.int .i64 fk) := X90.out.cell 2
          have LT98 := Lib.hid X90.out.lt
          have X99 := Lib.hid (X88.out.alloc (.cells #[.int .i64 tn, .int .i64 td] 23))
          have X100 := Lib.hid (X89.out.alloc (.cells #[.int .i64 tn, .int .i64 td] 23))
          have X101 := Lib.hid (X90.out.alloc (.cells #[.int .i64 tn, .int .i64 td] 23))
          have C102 := Lib.hid (C91.out.later ((Below.refl v86.heap.size v86).alloc (Nat.le_refl _) (.cells #[.int .i64 tn, .int .i64 td] 23)))
          have B103 := Lib.hid (B92.out.alloc B92.out.size (.cells #[.int .i64 tn, .int .i64 td] 23))
          have X104 := Lib.hid (Box.made v86 23 #[.int .i64 tn, .int .i64 td])
          have q105 : (v86.alloc (.cells #[.int .i64 tn, .int .i64 td] 23)).cell? ⟨w.heap.size, 0, none⟩ = some (.slice A l c) := X99.out.cell 0
          have q106 : (v86.alloc (.cells #[.int .i64 tn, .int .i64 td] 23)).cell? ⟨w.heap.size + 1, 0, none⟩ = some (.int .i64 bm) := X100.out.cell 0
          have q107 : (v86.alloc (.cells #[.int .i64 tn, .int .i64 td] 23)).cell? ⟨w.heap.size + 1 + 1, 0, none⟩ = some (.int .i64 fh) := X101.out.cell 0
          have q108 : (v86.alloc (.cells #[.int .i64 tn, .int .i64 td] 23)).cell? ⟨w.heap.size + 1 + 1, 1, none⟩ = some (.int .i64 fd) := X101.out.cell 1
          have q109 : (v86.alloc (.cells #[.int .i64 tn, .int .i64 td] 23)).cell? ⟨w.heap.size + 1 + 1, 2, none⟩ = some (.int .i64 fk) := X101.out.cell 2
          have q110 : (v86.alloc (.cells #[.int .i64 tn, .int .i64 td] 23)).cell? ⟨v86.heap.size, 0, none⟩ = some (.int .i64 tn) := X104.out.cell 0
          have q111 : (v86.alloc (.cells #[.int .i64 tn, .int .i64 td] 23)).cell? ⟨v86.heap.size, 1, none⟩ = some (.int .i64 td) := X104.out.cell 1
          obtain ⟨⟨on, od, oe⟩, hrt9⟩ : ∃ X9, rtR ms = X9 := ⟨_, rfl⟩
          have HRT := Lib.hid hrt9
          clear hrt9
          go_wp2_with fail
          refine (RatioOf_c ms _ _ C102.out).mono ?_; rintro e v112 ⟨rfl, hb113⟩
          have X114 := Lib.hid (X99.out.later hb113)
          have X115 := Lib.hid (X100.out.later hb113)
          have X116 := Lib.hid (X101.out.later hb113)
          have X117 := Lib.hid (X104.out.later hb113)
          have C118 := Lib.hid (C102.out.later hb113)
          have B119 := Lib.hid (B103.out.trans (hb113.mono B103.out.size))
          clear hb113
          rw [HRT.out]
          clear q105 q106 q107 q108 q109 q110 q111 q93 q94 q95 q96 q97
          have q120 : v112.cell? ⟨w.heap.size, 0, none⟩ = some (.slice A l c) := X114.out.cell 0
          have q121 : v112.cell? ⟨w.heap.size + 1, 0, none⟩ = some (.int .i64 bm) := X115.out.cell 0
          have q122 : v112.cell? ⟨w.heap.size + 1 + 1, 0, none⟩ = some (.int .i64 fh) := X116.out.cell 0
          have q123 : v112.cell? ⟨w.heap.size + 1 + 1, 1, none⟩ = some (.int .i64 fd) := X116.out.cell 1
          have q124 : v112.cell? ⟨w.heap.size + 1 + 1, 2, none⟩ = some (.int .i64 fk) := X116.out.cell 2
          have q125 : v112.cell? ⟨v86.heap.size, 0, none⟩ = some (.int .i64 tn) := X117.out.cell 0
          have q126 : v112.cell? ⟨v86.heap.size, 1, none⟩ = some (.int .i64 td) := X117.out.cell 1
          have LT127 := Lib.hid X116.out.lt
          have X128 := Lib.hid (X114.out.alloc (.cells #[.int .i64 on, .int .i64 od] 23))
          have X129 := Lib.hid (X115.out.alloc (.cells #[.int .i64 on, .int .i64 od] 23))
          have X130 := Lib.hid (X116.out.alloc (.cells #[.int .i64 on, .int .i64 od] 23))
          have X131 := Lib.hid (X117.out.alloc (.cells #[.int .i64 on, .int .i64 od] 23))
          have C132 := Lib.hid (C118.out.later ((Below.refl v112.heap.size v112).alloc (Nat.le_refl _) (.cells #[.int .i64 on, .int .i64 od] 23)))
          have B133 := Lib.hid (B119.out.alloc B119.out.size (.cells #[.int .i64 on, .int .i64 od] 23))
          have X134 := Lib.hid (Box.made v112 23 #[.int .i64 on, .int .i64 od])
          have q135 : (v112.alloc (.cells #[.int .i64 on, .int .i64 od] 23)).cell? ⟨w.heap.size, 0, none⟩ = some (.slice A l c) := X128.out.cell 0
          have q136 : (v112.alloc (.cells #[.int .i64 on, .int .i64 od] 23)).cell? ⟨w.heap.size + 1, 0, none⟩ = some (.int .i64 bm) := X129.out.cell 0
          have q137 : (v112.alloc (.cells #[.int .i64 on, .int .i64 od] 23)).cell? ⟨w.heap.size + 1 + 1, 0, none⟩ = some (.int .i64 fh) := X130.out.cell 0
          have q138 : (v112.alloc (.cells #[.int .i64 on, .int .i64 od] 23)).cell? ⟨w.heap.size + 1 + 1, 1, none⟩ = some (.int .i64 fd) := X130.out.cell 1
          have q139 : (v112.alloc (.cells #[.int .i64 on, .int .i64 od] 23)).cell? ⟨w.heap.size + 1 + 1, 2, none⟩ = some (.int .i64 fk) := X130.out.cell 2
          have q140 : (v112.alloc (.cells #[.int .i64 on, .int .i64 od] 23)).cell? ⟨v86.heap.size, 0, none⟩ = some (.int .i64 tn) := X131.out.cell 0
          have q141 : (v112.alloc (.cells #[.int .i64 on, .int .i64 od] 23)).cell? ⟨v86.heap.size, 1, none⟩ = some (.int .i64 td) := X131.out.cell 1
          have q142 : (v112.alloc (.cells #[.int .i64 on, .int .i64 od] 23)).cell? ⟨v112.heap.size, 0, none⟩ = some (.int .i64 on) := X134.out.cell 0
          have q143 : (v112.alloc (.cells #[.int .i64 on, .int .i64 od] 23)).cell? ⟨v112.heap.size, 1, none⟩ = some (.int .i64 od) := X134.out.cell 1
          rcases ti_rt (ms := ms) HB.out.f HB.out.kk with ⟨h1, h2⟩ | ⟨N, D, h1, h2, h3⟩
          · rw [HRT.out] at h1 h2
            rw [HTI.out] at h2
            have h1' : oe ≠ 0 := h1
            obtain rfl : te = oe := h2
            have e1 : (te == 0) = false := by simpa using h1'
            have e2 : decide (te = 0) = false := by simpa using h1'
            have e3 : (te != 0) = true := by simpa using h1'
            have e4 : (te == te) = true := by simp
            clear h1 h1'
            go_wp2_with fail
            go_ret
            exact ⟨ret_bool (by simp), B133.out⟩
          · rw [HRT.out] at h1
            rw [HTI.out] at h2
            injection h1 with p1 p2 p3
            injection h2 with q1 q2 q3
            subst p1 p2 p3 q1 q2 q3
            have HM := Lib.hid h3
            clear h3
            go_wp2_with fail
            refine (Times_c (D : Int) (N : Int) (N : Int) (D : Int) _).mono ?_; rintro e v144 ⟨rfl, hb145⟩
            have X146 := Lib.hid (X128.out.later hb145)
            have X147 := Lib.hid (X129.out.later hb145)
            have X148 := Lib.hid (X130.out.later hb145)
            have X149 := Lib.hid (X131.out.later hb145)
            have X150 := Lib.hid (X134.out.later hb145)
            have C151 := Lib.hid (C132.out.later hb145)
            have B152 := Lib.hid (B133.out.trans (hb145.mono B133.out.size))
            clear hb145
            rw [HM.out]
            clear q135 q136 q137 q138 q139 q140 q141 q142 q143 q120 q121 q122 q123 q124 q125 q126
            have q153 : v144.cell? ⟨w.heap.size, 0, none⟩ = some (.slice A l c) := X146.out.cell 0
            have q154 : v144.cell? ⟨w.heap.size + 1, 0, none⟩ = some (.int .i64 bm) := X147.out.cell 0
            have q155 : v144.cell? ⟨w.heap.size + 1 + 1, 0, none⟩ = some (.int .i64 fh) := X148.out.cell 0
            have q156 : v144.cell? ⟨w.heap.size + 1 + 1, 1, none⟩ = some (.int .i64 fd) := X148.out.cell 1
            have q157 : v144.cell? ⟨w.heap.size + 1 + 1, 2, none⟩ = some (.int .i64 fk) := X148.out.cell 2
            have q158 : v144.cell? ⟨v86.heap.size, 0, none⟩ = some (.int .i64 (D : Int)) := X149.out.cell 0
            have q159 : v144.cell? ⟨v86.heap.size, 1, none⟩ = some (.int .i64 (N : Int)) := X149.out.cell 1
            have q160 : v144.cell? ⟨v112.heap.size, 0, none⟩ = some (.int .i64 (N : Int)) := X150.out.cell 0
            have q161 : v144.cell? ⟨v112.heap.size, 1, none⟩ = some (.int .i64 (D : Int)) := X150.out.cell 1
            have LT162 := Lib.hid X148.out.lt
            have X163 := Lib.hid (X146.out.alloc (.cells #[.int .i64 1, .int .i64 1] 23))
            have X164 := Lib.hid (X147.out.alloc (.cells #[.int .i64 1, .int .i64 1] 23))
            have X165 := Lib.hid (X148.out.alloc (.cells #[.int .i64 1, .int .i64 1] 23))
            have X166 := Lib.hid (X149.out.alloc (.cells #[.int .i64 1, .int .i64 1] 23))
            have X167 := Lib.hid (X150.out.alloc (.cells #[.int .i64 1, .int .i64 1] 23))
            have C168 := Lib.hid (C151.out.later ((Below.refl v144.heap.size v144).alloc (Nat.le_refl _) (.cells #[.int .i64 1, .int .i64 1] 23)))
            have B169 := Lib.hid (B152.out.alloc B152.out.size (.cells #[.int .i64 1, .int .i64 1] 23))
            have X170 := Lib.hid (Box.made v144 23 #[.int .i64 1, .int .i64 1])
            have q171 : (v144.alloc (.cells #[.int .i64 1, .int .i64 1] 23)).cell? ⟨w.heap.size, 0, none⟩ = some (.slice A l c) := X163.out.cell 0
            have q172 : (v144.alloc (.cells #[.int .i64 1, .int .i64 1] 23)).cell? ⟨w.heap.size + 1, 0, none⟩ = some (.int .i64 bm) := X164.out.cell 0
            have q173 : (v144.alloc (.cells #[.int .i64 1, .int .i64 1] 23)).cell? ⟨w.heap.size + 1 + 1, 0, none⟩ = some (.int .i64 fh) := X165.out.cell 0
            have q174 : (v144.alloc (.cells #[.int .i64 1, .int .i64 1] 23)).cell? ⟨w.heap.size + 1 + 1, 1, none⟩ = some (.int .i64 fd) := X165.out.cell 1
            have q175 : (v144.alloc (.cells #[.int .i64 1, .int .i64 1] 23)).cell? ⟨w.heap.size + 1 + 1, 2, none⟩ = some (.int .i64 fk) := X165.out.cell 2
            have q176 : (v144.alloc (.cells #[.int .i64 1, .int .i64 1] 23)).cell? ⟨v86.heap.size, 0, none⟩ = some (.int .i64 (D : Int)) := X166.out.cell 0
            have q177 : (v144.alloc (.cells #[.int .i64 1, .int .i64 1] 23)).cell? ⟨v86.heap.size, 1, none⟩ = some (.int .i64 (N : Int)) := X166.out.cell 1
            have q178 : (v144.alloc (.cells #[.int .i64 1, .int .i64 1] 23)).cell? ⟨v112.heap.size, 0, none⟩ = some (.int .i64 (N : Int)) := X167.out.cell 0
            have q179 : (v144.alloc (.cells #[.int .i64 1, .int .i64 1] 23)).cell? ⟨v112.heap.size, 1, none⟩ = some (.int .i64 (D : Int)) := X167.out.cell 1
            have q180 : (v144.alloc (.cells #[.int .i64 1, .int .i64 1] 23)).cell? ⟨v144.heap.size, 0, none⟩ = some (.int .i64 1) := X170.out.cell 0
            have q181 : (v144.alloc (.cells #[.int .i64 1, .int .i64 1] 23)).cell? ⟨v144.heap.size, 1, none⟩ = some (.int .i64 1) := X170.out.cell 1
            go_wp2_with fail
            go_ret
            exact ⟨ret_bool (by simp), B169.out⟩
        · have g1 : decide (bm < 1000000) = true := by simpa using hbm
          have w2 : IntKind.i64.wrap (bm + 1) = bm + 1 := wrap_id (by have := HB.out.m1; omega) (by omega)
          clear hbm
          obtain ⟨mv, hmv9⟩ : ∃ X9, riV (bm + 1) fh fd fk = X9 := ⟨_, rfl⟩
          have HMV := Lib.hid hmv9
          clear hmv9
          go_wp2_with fail
          refine (Rings_c (bm + 1) fh fd fk _).mono ?_; rintro e v182 ⟨rfl, hb183⟩
          have X184 := Lib.hid (X76.out.later hb183)
          have X185 := Lib.hid (X77.out.later hb183)
          have X186 := Lib.hid (X78.out.later hb183)
          have C187 := Lib.hid (C79.out.later hb183)
          have B188 := Lib.hid (B80.out.trans (hb183.mono B80.out.size))
          clear hb183
          rw [HMV.out, HB.out.more.1]
          clear q81 q82 q83 q84 q85
          have q189 : v182.cell? ⟨w.heap.size, 0, none⟩ = some (.slice A l c) := X184.out.cell 0
          have q190 : v182.cell? ⟨w.heap.size + 1, 0, none⟩ = some (.int .i64 bm) := X185.out.cell 0
          have q191 : v182.cell? ⟨w.heap.size + 1 + 1, 0, none⟩ = some (.int .i64 fh) := X186.out.cell 0
          have q192 : v182.cell? ⟨w.heap.size + 1 + 1, 1, none⟩ = some (.int .i64 fd) := X186.out.cell 1
          have q193 : v182.cell? ⟨w.heap.size + 1 + 1, 2, none⟩ = some (.int .i64 fk) := X186.out.cell 2
          have g2 : decide (rv < mv) = false := decide_eq_false (by have := HB.out.more.2; rw [HMV.out] at this; omega)
          obtain ⟨⟨tn, td, te⟩, hti9⟩ : ∃ X9, tiR ms fh fd fk fk = X9 := ⟨_, rfl⟩
          have HTI := Lib.hid hti9
          clear hti9
          go_wp2_with fail
          refine (Time_c ms fh fd fk fk _ _ C187.out).mono ?_; rintro e v194 ⟨rfl, hb195⟩
          have X196 := Lib.hid (X184.out.later hb195)
          have X197 := Lib.hid (X185.out.later hb195)
          have X198 := Lib.hid (X186.out.later hb195)
          have C199 := Lib.hid (C187.out.later hb195)
          have B200 := Lib.hid (B188.out.trans (hb195.mono B188.out.size))
          clear hb195
          rw [HTI.out]
          clear q189 q190 q191 q192 q193
          have q201 : v194.cell? ⟨w.heap.size, 0, none⟩ = some (.slice A l c) := X196.out.cell 0
          have q202 : v194.cell? ⟨w.heap.size + 1, 0, none⟩ = some (.int .i64 bm) := X197.out.cell 0
          have q203 : v194.cell? ⟨w.heap.size + 1 + 1, 0, none⟩ = some (.int .i64 fh) := X198.out.cell 0
          have q204 : v194.cell? ⟨w.heap.size + 1 + 1, 1, none⟩ = some (.int .i64 fd) := X198.out.cell 1
          have q205 : v194.cell? ⟨w.heap.size + 1 + 1, 2, none⟩ = some (.int .i64 fk) := X198.out.cell 2
          have LT206 := Lib.hid X198.out.lt
          have X207 := Lib.hid (X196.out.alloc (.cells #[.int .i64 tn, .int .i64 td] 23))
          have X208 := Lib.hid (X197.out.alloc (.cells #[.int .i64 tn, .int .i64 td] 23))
          have X209 := Lib.hid (X198.out.alloc (.cells #[.int .i64 tn, .int .i64 td] 23))
          have C210 := Lib.hid (C199.out.later ((Below.refl v194.heap.size v194).alloc (Nat.le_refl _) (.cells #[.int .i64 tn, .int .i64 td] 23)))
          have B211 := Lib.hid (B200.out.alloc B200.out.size (.cells #[.int .i64 tn, .int .i64 td] 23))
          have X212 := Lib.hid (Box.made v194 23 #[.int .i64 tn, .int .i64 td])
          have q213 : (v194.alloc (.cells #[.int .i64 tn, .int .i64 td] 23)).cell? ⟨w.heap.size, 0, none⟩ = some (.slice A l c) := X207.out.cell 0
          have q214 : (v194.alloc (.cells #[.int .i64 tn, .int .i64 td] 23)).cell? ⟨w.heap.size + 1, 0, none⟩ = some (.int .i64 bm) := X208.out.cell 0
          have q215 : (v194.alloc (.cells #[.int .i64 tn, .int .i64 td] 23)).cell? ⟨w.heap.size + 1 + 1, 0, none⟩ = some (.int .i64 fh) := X209.out.cell 0
          have q216 : (v194.alloc (.cells #[.int .i64 tn, .int .i64 td] 23)).cell? ⟨w.heap.size + 1 + 1, 1, none⟩ = some (.int .i64 fd) := X209.out.cell 1
          have q217 : (v194.alloc (.cells #[.int .i64 tn, .int .i64 td] 23)).cell? ⟨w.heap.size + 1 + 1, 2, none⟩ = some (.int .i64 fk) := X209.out.cell 2
          have q218 : (v194.alloc (.cells #[.int .i64 tn, .int .i64 td] 23)).cell? ⟨v194.heap.size, 0, none⟩ = some (.int .i64 tn) := X212.out.cell 0
          have q219 : (v194.alloc (.cells #[.int .i64 tn, .int .i64 td] 23)).cell? ⟨v194.heap.size, 1, none⟩ = some (.int .i64 td) := X212.out.cell 1
          obtain ⟨⟨on, od, oe⟩, hrt9⟩ : ∃ X9, rtR ms = X9 := ⟨_, rfl⟩
          have HRT := Lib.hid hrt9
          clear hrt9
          go_wp2_with fail
          refine (RatioOf_c ms _ _ C210.out).mono ?_; rintro e v220 ⟨rfl, hb221⟩
          have X222 := Lib.hid (X207.out.later hb221)
          have X223 := Lib.hid (X208.out.later hb221)
          have X224 := Lib.hid (X209.out.later hb221)
          have X225 := Lib.hid (X212.out.later hb221)
          have C226 := Lib.hid (C210.out.later hb221)
          have B227 := Lib.hid (B211.out.trans (hb221.mono B211.out.size))
          clear hb221
          rw [HRT.out]
          clear q213 q214 q215 q216 q217 q218 q219 q201 q202 q203 q204 q205
          have q228 : v220.cell? ⟨w.heap.size, 0, none⟩ = some (.slice A l c) := X222.out.cell 0
          have q229 : v220.cell? ⟨w.heap.size + 1, 0, none⟩ = some (.int .i64 bm) := X223.out.cell 0
          have q230 : v220.cell? ⟨w.heap.size + 1 + 1, 0, none⟩ = some (.int .i64 fh) := X224.out.cell 0
          have q231 : v220.cell? ⟨w.heap.size + 1 + 1, 1, none⟩ = some (.int .i64 fd) := X224.out.cell 1
          have q232 : v220.cell? ⟨w.heap.size + 1 + 1, 2, none⟩ = some (.int .i64 fk) := X224.out.cell 2
          have q233 : v220.cell? ⟨v194.heap.size, 0, none⟩ = some (.int .i64 tn) := X225.out.cell 0
          have q234 : v220.cell? ⟨v194.heap.size, 1, none⟩ = some (.int .i64 td) := X225.out.cell 1
          have LT235 := Lib.hid X224.out.lt
          have X236 := Lib.hid (X222.out.alloc (.cells #[.int .i64 on, .int .i64 od] 23))
          have X237 := Lib.hid (X223.out.alloc (.cells #[.int .i64 on, .int .i64 od] 23))
          have X238 := Lib.hid (X224.out.alloc (.cells #[.int .i64 on, .int .i64 od] 23))
          have X239 := Lib.hid (X225.out.alloc (.cells #[.int .i64 on, .int .i64 od] 23))
          have C240 := Lib.hid (C226.out.later ((Below.refl v220.heap.size v220).alloc (Nat.le_refl _) (.cells #[.int .i64 on, .int .i64 od] 23)))
          have B241 := Lib.hid (B227.out.alloc B227.out.size (.cells #[.int .i64 on, .int .i64 od] 23))
          have X242 := Lib.hid (Box.made v220 23 #[.int .i64 on, .int .i64 od])
          have q243 : (v220.alloc (.cells #[.int .i64 on, .int .i64 od] 23)).cell? ⟨w.heap.size, 0, none⟩ = some (.slice A l c) := X236.out.cell 0
          have q244 : (v220.alloc (.cells #[.int .i64 on, .int .i64 od] 23)).cell? ⟨w.heap.size + 1, 0, none⟩ = some (.int .i64 bm) := X237.out.cell 0
          have q245 : (v220.alloc (.cells #[.int .i64 on, .int .i64 od] 23)).cell? ⟨w.heap.size + 1 + 1, 0, none⟩ = some (.int .i64 fh) := X238.out.cell 0
          have q246 : (v220.alloc (.cells #[.int .i64 on, .int .i64 od] 23)).cell? ⟨w.heap.size + 1 + 1, 1, none⟩ = some (.int .i64 fd) := X238.out.cell 1
          have q247 : (v220.alloc (.cells #[.int .i64 on, .int .i64 od] 23)).cell? ⟨w.heap.size + 1 + 1, 2, none⟩ = some (.int .i64 fk) := X238.out.cell 2
          have q248 : (v220.alloc (.cells #[.int .i64 on, .int .i64 od] 23)).cell? ⟨v194.heap.size, 0, none⟩ = some (.int .i64 tn) := X239.out.cell 0
          have q249 : (v220.alloc (.cells #[.int .i64 on, .int .i64 od] 23)).cell? ⟨v194.heap.size, 1, none⟩ = some (.int .i64 td) := X239.out.cell 1
          have q250 : (v220.alloc (.cells #[.int .i64 on, .int .i64 od] 23)).cell? ⟨v220.heap.size, 0, none⟩ = some (.int .i64 on) := X242.out.cell 0
          have q251 : (v220.alloc (.cells #[.int .i64 on, .int .i64 od] 23)).cell? ⟨v220.heap.size, 1, none⟩ = some (.int .i64 od) := X242.out.cell 1
          rcases ti_rt (ms := ms) HB.out.f HB.out.kk with ⟨h1, h2⟩ | ⟨N, D, h1, h2, h3⟩
          · rw [HRT.out] at h1 h2
            rw [HTI.out] at h2
            have h1' : oe ≠ 0 := h1
            obtain rfl : te = oe := h2
            have e1 : (te == 0) = false := by simpa using h1'
            have e2 : decide (te = 0) = false := by simpa using h1'
            have e3 : (te != 0) = true := by simpa using h1'
            have e4 : (te == te) = true := by simp
            clear h1 h1'
            go_wp2_with fail
            go_ret
            exact ⟨ret_bool (by simp), B241.out⟩
          · rw [HRT.out] at h1
            rw [HTI.out] at h2
            injection h1 with p1 p2 p3
            injection h2 with q1 q2 q3
            subst p1 p2 p3 q1 q2 q3
            have HM := Lib.hid h3
            clear h3
            go_wp2_with fail
            refine (Times_c (D : Int) (N : Int) (N : Int) (D : Int) _).mono ?_; rintro e v252 ⟨rfl, hb253⟩
            have X254 := Lib.hid (X236.out.later hb253)
            have X255 := Lib.hid (X237.out.later hb253)
            have X256 := Lib.hid (X238.out.later hb253)
            have X257 := Lib.hid (X239.out.later hb253)
            have X258 := Lib.hid (X242.out.later hb253)
            have C259 := Lib.hid (C240.out.later hb253)
            have B260 := Lib.hid (B241.out.trans (hb253.mono B241.out.size))
            clear hb253
            rw [HM.out]
            clear q243 q244 q245 q246 q247 q248 q249 q250 q251 q228 q229 q230 q231 q232 q233 q234
            have q261 : v252.cell? ⟨w.heap.size, 0, none⟩ = some (.slice A l c) := X254.out.cell 0
            have q262 : v252.cell? ⟨w.heap.size + 1, 0, none⟩ = some (.int .i64 bm) := X255.out.cell 0
            have q263 : v252.cell? ⟨w.heap.size + 1 + 1, 0, none⟩ = some (.int .i64 fh) := X256.out.cell 0
            have q264 : v252.cell? ⟨w.heap.size + 1 + 1, 1, none⟩ = some (.int .i64 fd) := X256.out.cell 1
            have q265 : v252.cell? ⟨w.heap.size + 1 + 1, 2, none⟩ = some (.int .i64 fk) := X256.out.cell 2
            have q266 : v252.cell? ⟨v194.heap.size, 0, none⟩ = some (.int .i64 (D : Int)) := X257.out.cell 0
            have q267 : v252.cell? ⟨v194.heap.size, 1, none⟩ = some (.int .i64 (N : Int)) := X257.out.cell 1
            have q268 : v252.cell? ⟨v220.heap.size, 0, none⟩ = some (.int .i64 (N : Int)) := X258.out.cell 0
            have q269 : v252.cell? ⟨v220.heap.size, 1, none⟩ = some (.int .i64 (D : Int)) := X258.out.cell 1
            have LT270 := Lib.hid X256.out.lt
            have X271 := Lib.hid (X254.out.alloc (.cells #[.int .i64 1, .int .i64 1] 23))
            have X272 := Lib.hid (X255.out.alloc (.cells #[.int .i64 1, .int .i64 1] 23))
            have X273 := Lib.hid (X256.out.alloc (.cells #[.int .i64 1, .int .i64 1] 23))
            have X274 := Lib.hid (X257.out.alloc (.cells #[.int .i64 1, .int .i64 1] 23))
            have X275 := Lib.hid (X258.out.alloc (.cells #[.int .i64 1, .int .i64 1] 23))
            have C276 := Lib.hid (C259.out.later ((Below.refl v252.heap.size v252).alloc (Nat.le_refl _) (.cells #[.int .i64 1, .int .i64 1] 23)))
            have B277 := Lib.hid (B260.out.alloc B260.out.size (.cells #[.int .i64 1, .int .i64 1] 23))
            have X278 := Lib.hid (Box.made v252 23 #[.int .i64 1, .int .i64 1])
            have q279 : (v252.alloc (.cells #[.int .i64 1, .int .i64 1] 23)).cell? ⟨w.heap.size, 0, none⟩ = some (.slice A l c) := X271.out.cell 0
            have q280 : (v252.alloc (.cells #[.int .i64 1, .int .i64 1] 23)).cell? ⟨w.heap.size + 1, 0, none⟩ = some (.int .i64 bm) := X272.out.cell 0
            have q281 : (v252.alloc (.cells #[.int .i64 1, .int .i64 1] 23)).cell? ⟨w.heap.size + 1 + 1, 0, none⟩ = some (.int .i64 fh) := X273.out.cell 0
            have q282 : (v252.alloc (.cells #[.int .i64 1, .int .i64 1] 23)).cell? ⟨w.heap.size + 1 + 1, 1, none⟩ = some (.int .i64 fd) := X273.out.cell 1
            have q283 : (v252.alloc (.cells #[.int .i64 1, .int .i64 1] 23)).cell? ⟨w.heap.size + 1 + 1, 2, none⟩ = some (.int .i64 fk) := X273.out.cell 2
            have q284 : (v252.alloc (.cells #[.int .i64 1, .int .i64 1] 23)).cell? ⟨v194.heap.size, 0, none⟩ = some (.int .i64 (D : Int)) := X274.out.cell 0
            have q285 : (v252.alloc (.cells #[.int .i64 1, .int .i64 1] 23)).cell? ⟨v194.heap.size, 1, none⟩ = some (.int .i64 (N : Int)) := X274.out.cell 1
            have q286 : (v252.alloc (.cells #[.int .i64 1, .int .i64 1] 23)).cell? ⟨v220.heap.size, 0, none⟩ = some (.int .i64 (N : Int)) := X275.out.cell 0
            have q287 : (v252.alloc (.cells #[.int .i64 1, .int .i64 1] 23)).cell? ⟨v220.heap.size, 1, none⟩ = some (.int .i64 (D : Int)) := X275.out.cell 1
            have q288 : (v252.alloc (.cells #[.int .i64 1, .int .i64 1] 23)).cell? ⟨v252.heap.size, 0, none⟩ = some (.int .i64 1) := X278.out.cell 0
            have q289 : (v252.alloc (.cells #[.int .i64 1, .int .i64 1] 23)).cell? ⟨v252.heap.size, 1, none⟩ = some (.int .i64 1) := X278.out.cell 1
            go_wp2_with fail
            go_ret
            exact ⟨ret_bool (by simp), B277.out⟩
      · have f1 : decide (0 < rv) = true := by simpa using hn
        have HDP := Lib.hid (HDQ.out hn)
        clear hn
        obtain ⟨cl, hcl9⟩ : ∃ X9, drL fh fd fk (rv - 1) = X9 := ⟨_, rfl⟩
        have HCL := Lib.hid hcl9
        clear hcl9
        obtain ⟨cf, hcf9⟩ : ∃ X9, drF fh fd fk (rv - 1) = X9 := ⟨_, rfl⟩
        have HCF := Lib.hid hcf9
        clear hcf9
        go_wp2_with fail
        refine (Drawn_c fh fd fk (rv - 1) _).mono ?_; rintro e v290 ⟨rfl, hb291⟩
        have X292 := Lib.hid (X76.out.later hb291)
        have X293 := Lib.hid (X77.out.later hb291)
        have X294 := Lib.hid (X78.out.later hb291)
        have C295 := Lib.hid (C79.out.later hb291)
        have B296 := Lib.hid (B80.out.trans (hb291.mono B80.out.size))
        clear hb291
        rw [HDP.out.1, HCL.out, HCF.out]
        clear q81 q82 q83 q84 q85
        have q297 : v290.cell? ⟨w.heap.size, 0, none⟩ = some (.slice A l c) := X292.out.cell 0
        have q298 : v290.cell? ⟨w.heap.size + 1, 0, none⟩ = some (.int .i64 bm) := X293.out.cell 0
        have q299 : v290.cell? ⟨w.heap.size + 1 + 1, 0, none⟩ = some (.int .i64 fh) := X294.out.cell 0
        have q300 : v290.cell? ⟨w.heap.size + 1 + 1, 1, none⟩ = some (.int .i64 fd) := X294.out.cell 1
        have q301 : v290.cell? ⟨w.heap.size + 1 + 1, 2, none⟩ = some (.int .i64 fk) := X294.out.cell 2
        have f2 : decide (cl < bm) = false := decide_eq_false (by have := HDP.out.2; rw [HCL.out] at this; omega)
        by_cases hbm : bm < 1000000; rotate_left
        · have g1 : decide (bm < 1000000) = false := by simpa using hbm
          clear hbm
          obtain ⟨⟨tn, td, te⟩, hti9⟩ : ∃ X9, tiR ms fh fd fk fk = X9 := ⟨_, rfl⟩
          have HTI := Lib.hid hti9
          clear hti9
          go_wp2_with fail
          refine (Time_c ms fh fd fk fk _ _ C295.out).mono ?_; rintro e v302 ⟨rfl, hb303⟩
          have X304 := Lib.hid (X292.out.later hb303)
          have X305 := Lib.hid (X293.out.later hb303)
          have X306 := Lib.hid (X294.out.later hb303)
          have C307 := Lib.hid (C295.out.later hb303)
          have B308 := Lib.hid (B296.out.trans (hb303.mono B296.out.size))
          clear hb303
          rw [HTI.out]
          clear q297 q298 q299 q300 q301
          have q309 : v302.cell? ⟨w.heap.size, 0, none⟩ = some (.slice A l c) := X304.out.cell 0
          have q310 : v302.cell? ⟨w.heap.size + 1, 0, none⟩ = some (.int .i64 bm) := X305.out.cell 0
          have q311 : v302.cell? ⟨w.heap.size + 1 + 1, 0, none⟩ = some (.int .i64 fh) := X306.out.cell 0
          have q312 : v302.cell? ⟨w.heap.size + 1 + 1, 1, none⟩ = some (.int .i64 fd) := X306.out.cell 1
          have q313 : v302.cell? ⟨w.heap.size + 1 + 1, 2, none⟩ = some (.int .i64 fk) := X306.out.cell 2
          have LT314 := Lib.hid X306.out.lt
          have X315 := Lib.hid (X304.out.alloc (.cells #[.int .i64 tn, .int .i64 td] 23))
          have X316 := Lib.hid (X305.out.alloc (.cells #[.int .i64 tn, .int .i64 td] 23))
          have X317 := Lib.hid (X306.out.alloc (.cells #[.int .i64 tn, .int .i64 td] 23))
          have C318 := Lib.hid (C307.out.later ((Below.refl v302.heap.size v302).alloc (Nat.le_refl _) (.cells #[.int .i64 tn, .int .i64 td] 23)))
          have B319 := Lib.hid (B308.out.alloc B308.out.size (.cells #[.int .i64 tn, .int .i64 td] 23))
          have X320 := Lib.hid (Box.made v302 23 #[.int .i64 tn, .int .i64 td])
          have q321 : (v302.alloc (.cells #[.int .i64 tn, .int .i64 td] 23)).cell? ⟨w.heap.size, 0, none⟩ = some (.slice A l c) := X315.out.cell 0
          have q322 : (v302.alloc (.cells #[.int .i64 tn, .int .i64 td] 23)).cell? ⟨w.heap.size + 1, 0, none⟩ = some (.int .i64 bm) := X316.out.cell 0
          have q323 : (v302.alloc (.cells #[.int .i64 tn, .int .i64 td] 23)).cell? ⟨w.heap.size + 1 + 1, 0, none⟩ = some (.int .i64 fh) := X317.out.cell 0
          have q324 : (v302.alloc (.cells #[.int .i64 tn, .int .i64 td] 23)).cell? ⟨w.heap.size + 1 + 1, 1, none⟩ = some (.int .i64 fd) := X317.out.cell 1
          have q325 : (v302.alloc (.cells #[.int .i64 tn, .int .i64 td] 23)).cell? ⟨w.heap.size + 1 + 1, 2, none⟩ = some (.int .i64 fk) := X317.out.cell 2
          have q326 : (v302.alloc (.cells #[.int .i64 tn, .int .i64 td] 23)).cell? ⟨v302.heap.size, 0, none⟩ = some (.int .i64 tn) := X320.out.cell 0
          have q327 : (v302.alloc (.cells #[.int .i64 tn, .int .i64 td] 23)).cell? ⟨v302.heap.size, 1, none⟩ = some (.int .i64 td) := X320.out.cell 1
          obtain ⟨⟨on, od, oe⟩, hrt9⟩ : ∃ X9, rtR ms = X9 := ⟨_, rfl⟩
          have HRT := Lib.hid hrt9
          clear hrt9
          go_wp2_with fail
          refine (RatioOf_c ms _ _ C318.out).mono ?_; rintro e v328 ⟨rfl, hb329⟩
          have X330 := Lib.hid (X315.out.later hb329)
          have X331 := Lib.hid (X316.out.later hb329)
          have X332 := Lib.hid (X317.out.later hb329)
          have X333 := Lib.hid (X320.out.later hb329)
          have C334 := Lib.hid (C318.out.later hb329)
          have B335 := Lib.hid (B319.out.trans (hb329.mono B319.out.size))
          clear hb329
          rw [HRT.out]
          clear q321 q322 q323 q324 q325 q326 q327 q309 q310 q311 q312 q313
          have q336 : v328.cell? ⟨w.heap.size, 0, none⟩ = some (.slice A l c) := X330.out.cell 0
          have q337 : v328.cell? ⟨w.heap.size + 1, 0, none⟩ = some (.int .i64 bm) := X331.out.cell 0
          have q338 : v328.cell? ⟨w.heap.size + 1 + 1, 0, none⟩ = some (.int .i64 fh) := X332.out.cell 0
          have q339 : v328.cell? ⟨w.heap.size + 1 + 1, 1, none⟩ = some (.int .i64 fd) := X332.out.cell 1
          have q340 : v328.cell? ⟨w.heap.size + 1 + 1, 2, none⟩ = some (.int .i64 fk) := X332.out.cell 2
          have q341 : v328.cell? ⟨v302.heap.size, 0, none⟩ = some (.int .i64 tn) := X333.out.cell 0
          have q342 : v328.cell? ⟨v302.heap.size, 1, none⟩ = some (.int .i64 td) := X333.out.cell 1
          have LT343 := Lib.hid X332.out.lt
          have X344 := Lib.hid (X330.out.alloc (.cells #[.int .i64 on, .int .i64 od] 23))
          have X345 := Lib.hid (X331.out.alloc (.cells #[.int .i64 on, .int .i64 od] 23))
          have X346 := Lib.hid (X332.out.alloc (.cells #[.int .i64 on, .int .i64 od] 23))
          have X347 := Lib.hid (X333.out.alloc (.cells #[.int .i64 on, .int .i64 od] 23))
          have C348 := Lib.hid (C334.out.later ((Below.refl v328.heap.size v328).alloc (Nat.le_refl _) (.cells #[.int .i64 on, .int .i64 od] 23)))
          have B349 := Lib.hid (B335.out.alloc B335.out.size (.cells #[.int .i64 on, .int .i64 od] 23))
          have X350 := Lib.hid (Box.made v328 23 #[.int .i64 on, .int .i64 od])
          have q351 : (v328.alloc (.cells #[.int .i64 on, .int .i64 od] 23)).cell? ⟨w.heap.size, 0, none⟩ = some (.slice A l c) := X344.out.cell 0
          have q352 : (v328.alloc (.cells #[.int .i64 on, .int .i64 od] 23)).cell? ⟨w.heap.size + 1, 0, none⟩ = some (.int .i64 bm) := X345.out.cell 0
          have q353 : (v328.alloc (.cells #[.int .i64 on, .int .i64 od] 23)).cell? ⟨w.heap.size + 1 + 1, 0, none⟩ = some (.int .i64 fh) := X346.out.cell 0
          have q354 : (v328.alloc (.cells #[.int .i64 on, .int .i64 od] 23)).cell? ⟨w.heap.size + 1 + 1, 1, none⟩ = some (.int .i64 fd) := X346.out.cell 1
          have q355 : (v328.alloc (.cells #[.int .i64 on, .int .i64 od] 23)).cell? ⟨w.heap.size + 1 + 1, 2, none⟩ = some (.int .i64 fk) := X346.out.cell 2
          have q356 : (v328.alloc (.cells #[.int .i64 on, .int .i64 od] 23)).cell? ⟨v302.heap.size, 0, none⟩ = some (.int .i64 tn) := X347.out.cell 0
          have q357 : (v328.alloc (.cells #[.int .i64 on, .int .i64 od] 23)).cell? ⟨v302.heap.size, 1, none⟩ = some (.int .i64 td) := X347.out.cell 1
          have q358 : (v328.alloc (.cells #[.int .i64 on, .int .i64 od] 23)).cell? ⟨v328.heap.size, 0, none⟩ = some (.int .i64 on) := X350.out.cell 0
          have q359 : (v328.alloc (.cells #[.int .i64 on, .int .i64 od] 23)).cell? ⟨v328.heap.size, 1, none⟩ = some (.int .i64 od) := X350.out.cell 1
          rcases ti_rt (ms := ms) HB.out.f HB.out.kk with ⟨h1, h2⟩ | ⟨N, D, h1, h2, h3⟩
          · rw [HRT.out] at h1 h2
            rw [HTI.out] at h2
            have h1' : oe ≠ 0 := h1
            obtain rfl : te = oe := h2
            have e1 : (te == 0) = false := by simpa using h1'
            have e2 : decide (te = 0) = false := by simpa using h1'
            have e3 : (te != 0) = true := by simpa using h1'
            have e4 : (te == te) = true := by simp
            clear h1 h1'
            go_wp2_with fail
            go_ret
            exact ⟨ret_bool (by simp), B349.out⟩
          · rw [HRT.out] at h1
            rw [HTI.out] at h2
            injection h1 with p1 p2 p3
            injection h2 with q1 q2 q3
            subst p1 p2 p3 q1 q2 q3
            have HM := Lib.hid h3
            clear h3
            go_wp2_with fail
            refine (Times_c (D : Int) (N : Int) (N : Int) (D : Int) _).mono ?_; rintro e v360 ⟨rfl, hb361⟩
            have X362 := Lib.hid (X344.out.later hb361)
            have X363 := Lib.hid (X345.out.later hb361)
            have X364 := Lib.hid (X346.out.later hb361)
            have X365 := Lib.hid (X347.out.later hb361)
            have X366 := Lib.hid (X350.out.later hb361)
            have C367 := Lib.hid (C348.out.later hb361)
            have B368 := Lib.hid (B349.out.trans (hb361.mono B349.out.size))
            clear hb361
            rw [HM.out]
            clear q351 q352 q353 q354 q355 q356 q357 q358 q359 q336 q337 q338 q339 q340 q341 q342
            have q369 : v360.cell? ⟨w.heap.size, 0, none⟩ = some (.slice A l c) := X362.out.cell 0
            have q370 : v360.cell? ⟨w.heap.size + 1, 0, none⟩ = some (.int .i64 bm) := X363.out.cell 0
            have q371 : v360.cell? ⟨w.heap.size + 1 + 1, 0, none⟩ = some (.int .i64 fh) := X364.out.cell 0
            have q372 : v360.cell? ⟨w.heap.size + 1 + 1, 1, none⟩ = some (.int .i64 fd) := X364.out.cell 1
            have q373 : v360.cell? ⟨w.heap.size + 1 + 1, 2, none⟩ = some (.int .i64 fk) := X364.out.cell 2
            have q374 : v360.cell? ⟨v302.heap.size, 0, none⟩ = some (.int .i64 (D : Int)) := X365.out.cell 0
            have q375 : v360.cell? ⟨v302.heap.size, 1, none⟩ = some (.int .i64 (N : Int)) := X365.out.cell 1
            have q376 : v360.cell? ⟨v328.heap.size, 0, none⟩ = some (.int .i64 (N : Int)) := X366.out.cell 0
            have q377 : v360.cell? ⟨v328.heap.size, 1, none⟩ = some (.int .i64 (D : Int)) := X366.out.cell 1
            have LT378 := Lib.hid X364.out.lt
            have X379 := Lib.hid (X362.out.alloc (.cells #[.int .i64 1, .int .i64 1] 23))
            have X380 := Lib.hid (X363.out.alloc (.cells #[.int .i64 1, .int .i64 1] 23))
            have X381 := Lib.hid (X364.out.alloc (.cells #[.int .i64 1, .int .i64 1] 23))
            have X382 := Lib.hid (X365.out.alloc (.cells #[.int .i64 1, .int .i64 1] 23))
            have X383 := Lib.hid (X366.out.alloc (.cells #[.int .i64 1, .int .i64 1] 23))
            have C384 := Lib.hid (C367.out.later ((Below.refl v360.heap.size v360).alloc (Nat.le_refl _) (.cells #[.int .i64 1, .int .i64 1] 23)))
            have B385 := Lib.hid (B368.out.alloc B368.out.size (.cells #[.int .i64 1, .int .i64 1] 23))
            have X386 := Lib.hid (Box.made v360 23 #[.int .i64 1, .int .i64 1])
            have q387 : (v360.alloc (.cells #[.int .i64 1, .int .i64 1] 23)).cell? ⟨w.heap.size, 0, none⟩ = some (.slice A l c) := X379.out.cell 0
            have q388 : (v360.alloc (.cells #[.int .i64 1, .int .i64 1] 23)).cell? ⟨w.heap.size + 1, 0, none⟩ = some (.int .i64 bm) := X380.out.cell 0
            have q389 : (v360.alloc (.cells #[.int .i64 1, .int .i64 1] 23)).cell? ⟨w.heap.size + 1 + 1, 0, none⟩ = some (.int .i64 fh) := X381.out.cell 0
            have q390 : (v360.alloc (.cells #[.int .i64 1, .int .i64 1] 23)).cell? ⟨w.heap.size + 1 + 1, 1, none⟩ = some (.int .i64 fd) := X381.out.cell 1
            have q391 : (v360.alloc (.cells #[.int .i64 1, .int .i64 1] 23)).cell? ⟨w.heap.size + 1 + 1, 2, none⟩ = some (.int .i64 fk) := X381.out.cell 2
            have q392 : (v360.alloc (.cells #[.int .i64 1, .int .i64 1] 23)).cell? ⟨v302.heap.size, 0, none⟩ = some (.int .i64 (D : Int)) := X382.out.cell 0
            have q393 : (v360.alloc (.cells #[.int .i64 1, .int .i64 1] 23)).cell? ⟨v302.heap.size, 1, none⟩ = some (.int .i64 (N : Int)) := X382.out.cell 1
            have q394 : (v360.alloc (.cells #[.int .i64 1, .int .i64 1] 23)).cell? ⟨v328.heap.size, 0, none⟩ = some (.int .i64 (N : Int)) := X383.out.cell 0
            have q395 : (v360.alloc (.cells #[.int .i64 1, .int .i64 1] 23)).cell? ⟨v328.heap.size, 1, none⟩ = some (.int .i64 (D : Int)) := X383.out.cell 1
            have q396 : (v360.alloc (.cells #[.int .i64 1, .int .i64 1] 23)).cell? ⟨v360.heap.size, 0, none⟩ = some (.int .i64 1) := X386.out.cell 0
            have q397 : (v360.alloc (.cells #[.int .i64 1, .int .i64 1] 23)).cell? ⟨v360.heap.size, 1, none⟩ = some (.int .i64 1) := X386.out.cell 1
            go_wp2_with fail
            go_ret
            exact ⟨ret_bool (by simp), B385.out⟩
        · have g1 : decide (bm < 1000000) = true := by simpa using hbm
          have w2 : IntKind.i64.wrap (bm + 1) = bm + 1 := wrap_id (by have := HB.out.m1; omega) (by omega)
          clear hbm
          obtain ⟨mv, hmv9⟩ : ∃ X9, riV (bm + 1) fh fd fk = X9 := ⟨_, rfl⟩
          have HMV := Lib.hid hmv9
          clear hmv9
          go_wp2_with fail
          refine (Rings_c (bm + 1) fh fd fk _).mono ?_; rintro e v398 ⟨rfl, hb399⟩
          have X400 := Lib.hid (X292.out.later hb399)
          have X401 := Lib.hid (X293.out.later hb399)
          have X402 := Lib.hid (X294.out.later hb399)
          have C403 := Lib.hid (C295.out.later hb399)
          have B404 := Lib.hid (B296.out.trans (hb399.mono B296.out.size))
          clear hb399
          rw [HMV.out, HB.out.more.1]
          clear q297 q298 q299 q300 q301
          have q405 : v398.cell? ⟨w.heap.size, 0, none⟩ = some (.slice A l c) := X400.out.cell 0
          have q406 : v398.cell? ⟨w.heap.size + 1, 0, none⟩ = some (.int .i64 bm) := X401.out.cell 0
          have q407 : v398.cell? ⟨w.heap.size + 1 + 1, 0, none⟩ = some (.int .i64 fh) := X402.out.cell 0
          have q408 : v398.cell? ⟨w.heap.size + 1 + 1, 1, none⟩ = some (.int .i64 fd) := X402.out.cell 1
          have q409 : v398.cell? ⟨w.heap.size + 1 + 1, 2, none⟩ = some (.int .i64 fk) := X402.out.cell 2
          have g2 : decide (rv < mv) = false := decide_eq_false (by have := HB.out.more.2; rw [HMV.out] at this; omega)
          obtain ⟨⟨tn, td, te⟩, hti9⟩ : ∃ X9, tiR ms fh fd fk fk = X9 := ⟨_, rfl⟩
          have HTI := Lib.hid hti9
          clear hti9
          go_wp2_with fail
          refine (Time_c ms fh fd fk fk _ _ C403.out).mono ?_; rintro e v410 ⟨rfl, hb411⟩
          have X412 := Lib.hid (X400.out.later hb411)
          have X413 := Lib.hid (X401.out.later hb411)
          have X414 := Lib.hid (X402.out.later hb411)
          have C415 := Lib.hid (C403.out.later hb411)
          have B416 := Lib.hid (B404.out.trans (hb411.mono B404.out.size))
          clear hb411
          rw [HTI.out]
          clear q405 q406 q407 q408 q409
          have q417 : v410.cell? ⟨w.heap.size, 0, none⟩ = some (.slice A l c) := X412.out.cell 0
          have q418 : v410.cell? ⟨w.heap.size + 1, 0, none⟩ = some (.int .i64 bm) := X413.out.cell 0
          have q419 : v410.cell? ⟨w.heap.size + 1 + 1, 0, none⟩ = some (.int .i64 fh) := X414.out.cell 0
          have q420 : v410.cell? ⟨w.heap.size + 1 + 1, 1, none⟩ = some (.int .i64 fd) := X414.out.cell 1
          have q421 : v410.cell? ⟨w.heap.size + 1 + 1, 2, none⟩ = some (.int .i64 fk) := X414.out.cell 2
          have LT422 := Lib.hid X414.out.lt
          have X423 := Lib.hid (X412.out.alloc (.cells #[.int .i64 tn, .int .i64 td] 23))
          have X424 := Lib.hid (X413.out.alloc (.cells #[.int .i64 tn, .int .i64 td] 23))
          have X425 := Lib.hid (X414.out.alloc (.cells #[.int .i64 tn, .int .i64 td] 23))
          have C426 := Lib.hid (C415.out.later ((Below.refl v410.heap.size v410).alloc (Nat.le_refl _) (.cells #[.int .i64 tn, .int .i64 td] 23)))
          have B427 := Lib.hid (B416.out.alloc B416.out.size (.cells #[.int .i64 tn, .int .i64 td] 23))
          have X428 := Lib.hid (Box.made v410 23 #[.int .i64 tn, .int .i64 td])
          have q429 : (v410.alloc (.cells #[.int .i64 tn, .int .i64 td] 23)).cell? ⟨w.heap.size, 0, none⟩ = some (.slice A l c) := X423.out.cell 0
          have q430 : (v410.alloc (.cells #[.int .i64 tn, .int .i64 td] 23)).cell? ⟨w.heap.size + 1, 0, none⟩ = some (.int .i64 bm) := X424.out.cell 0
          have q431 : (v410.alloc (.cells #[.int .i64 tn, .int .i64 td] 23)).cell? ⟨w.heap.size + 1 + 1, 0, none⟩ = some (.int .i64 fh) := X425.out.cell 0
          have q432 : (v410.alloc (.cells #[.int .i64 tn, .int .i64 td] 23)).cell? ⟨w.heap.size + 1 + 1, 1, none⟩ = some (.int .i64 fd) := X425.out.cell 1
          have q433 : (v410.alloc (.cells #[.int .i64 tn, .int .i64 td] 23)).cell? ⟨w.heap.size + 1 + 1, 2, none⟩ = some (.int .i64 fk) := X425.out.cell 2
          have q434 : (v410.alloc (.cells #[.int .i64 tn, .int .i64 td] 23)).cell? ⟨v410.heap.size, 0, none⟩ = some (.int .i64 tn) := X428.out.cell 0
          have q435 : (v410.alloc (.cells #[.int .i64 tn, .int .i64 td] 23)).cell? ⟨v410.heap.size, 1, none⟩ = some (.int .i64 td) := X428.out.cell 1
          obtain ⟨⟨on, od, oe⟩, hrt9⟩ : ∃ X9, rtR ms = X9 := ⟨_, rfl⟩
          have HRT := Lib.hid hrt9
          clear hrt9
          go_wp2_with fail
          refine (RatioOf_c ms _ _ C426.out).mono ?_; rintro e v436 ⟨rfl, hb437⟩
          have X438 := Lib.hid (X423.out.later hb437)
          have X439 := Lib.hid (X424.out.later hb437)
          have X440 := Lib.hid (X425.out.later hb437)
          have X441 := Lib.hid (X428.out.later hb437)
          have C442 := Lib.hid (C426.out.later hb437)
          have B443 := Lib.hid (B427.out.trans (hb437.mono B427.out.size))
          clear hb437
          rw [HRT.out]
          clear q429 q430 q431 q432 q433 q434 q435 q417 q418 q419 q420 q421
          have q444 : v436.cell? ⟨w.heap.size, 0, none⟩ = some (.slice A l c) := X438.out.cell 0
          have q445 : v436.cell? ⟨w.heap.size + 1, 0, none⟩ = some (.int .i64 bm) := X439.out.cell 0
          have q446 : v436.cell? ⟨w.heap.size + 1 + 1, 0, none⟩ = some (.int .i64 fh) := X440.out.cell 0
          have q447 : v436.cell? ⟨w.heap.size + 1 + 1, 1, none⟩ = some (.int .i64 fd) := X440.out.cell 1
          have q448 : v436.cell? ⟨w.heap.size + 1 + 1, 2, none⟩ = some (.int .i64 fk) := X440.out.cell 2
          have q449 : v436.cell? ⟨v410.heap.size, 0, none⟩ = some (.int .i64 tn) := X441.out.cell 0
          have q450 : v436.cell? ⟨v410.heap.size, 1, none⟩ = some (.int .i64 td) := X441.out.cell 1
          have LT451 := Lib.hid X440.out.lt
          have X452 := Lib.hid (X438.out.alloc (.cells #[.int .i64 on, .int .i64 od] 23))
          have X453 := Lib.hid (X439.out.alloc (.cells #[.int .i64 on, .int .i64 od] 23))
          have X454 := Lib.hid (X440.out.alloc (.cells #[.int .i64 on, .int .i64 od] 23))
          have X455 := Lib.hid (X441.out.alloc (.cells #[.int .i64 on, .int .i64 od] 23))
          have C456 := Lib.hid (C442.out.later ((Below.refl v436.heap.size v436).alloc (Nat.le_refl _) (.cells #[.int .i64 on, .int .i64 od] 23)))
          have B457 := Lib.hid (B443.out.alloc B443.out.size (.cells #[.int .i64 on, .int .i64 od] 23))
          have X458 := Lib.hid (Box.made v436 23 #[.int .i64 on, .int .i64 od])
          have q459 : (v436.alloc (.cells #[.int .i64 on, .int .i64 od] 23)).cell? ⟨w.heap.size, 0, none⟩ = some (.slice A l c) := X452.out.cell 0
          have q460 : (v436.alloc (.cells #[.int .i64 on, .int .i64 od] 23)).cell? ⟨w.heap.size + 1, 0, none⟩ = some (.int .i64 bm) := X453.out.cell 0
          have q461 : (v436.alloc (.cells #[.int .i64 on, .int .i64 od] 23)).cell? ⟨w.heap.size + 1 + 1, 0, none⟩ = some (.int .i64 fh) := X454.out.cell 0
          have q462 : (v436.alloc (.cells #[.int .i64 on, .int .i64 od] 23)).cell? ⟨w.heap.size + 1 + 1, 1, none⟩ = some (.int .i64 fd) := X454.out.cell 1
          have q463 : (v436.alloc (.cells #[.int .i64 on, .int .i64 od] 23)).cell? ⟨w.heap.size + 1 + 1, 2, none⟩ = some (.int .i64 fk) := X454.out.cell 2
          have q464 : (v436.alloc (.cells #[.int .i64 on, .int .i64 od] 23)).cell? ⟨v410.heap.size, 0, none⟩ = some (.int .i64 tn) := X455.out.cell 0
          have q465 : (v436.alloc (.cells #[.int .i64 on, .int .i64 od] 23)).cell? ⟨v410.heap.size, 1, none⟩ = some (.int .i64 td) := X455.out.cell 1
          have q466 : (v436.alloc (.cells #[.int .i64 on, .int .i64 od] 23)).cell? ⟨v436.heap.size, 0, none⟩ = some (.int .i64 on) := X458.out.cell 0
          have q467 : (v436.alloc (.cells #[.int .i64 on, .int .i64 od] 23)).cell? ⟨v436.heap.size, 1, none⟩ = some (.int .i64 od) := X458.out.cell 1
          rcases ti_rt (ms := ms) HB.out.f HB.out.kk with ⟨h1, h2⟩ | ⟨N, D, h1, h2, h3⟩
          · rw [HRT.out] at h1 h2
            rw [HTI.out] at h2
            have h1' : oe ≠ 0 := h1
            obtain rfl : te = oe := h2
            have e1 : (te == 0) = false := by simpa using h1'
            have e2 : decide (te = 0) = false := by simpa using h1'
            have e3 : (te != 0) = true := by simpa using h1'
            have e4 : (te == te) = true := by simp
            clear h1 h1'
            go_wp2_with fail
            go_ret
            exact ⟨ret_bool (by simp), B457.out⟩
          · rw [HRT.out] at h1
            rw [HTI.out] at h2
            injection h1 with p1 p2 p3
            injection h2 with q1 q2 q3
            subst p1 p2 p3 q1 q2 q3
            have HM := Lib.hid h3
            clear h3
            go_wp2_with fail
            refine (Times_c (D : Int) (N : Int) (N : Int) (D : Int) _).mono ?_; rintro e v468 ⟨rfl, hb469⟩
            have X470 := Lib.hid (X452.out.later hb469)
            have X471 := Lib.hid (X453.out.later hb469)
            have X472 := Lib.hid (X454.out.later hb469)
            have X473 := Lib.hid (X455.out.later hb469)
            have X474 := Lib.hid (X458.out.later hb469)
            have C475 := Lib.hid (C456.out.later hb469)
            have B476 := Lib.hid (B457.out.trans (hb469.mono B457.out.size))
            clear hb469
            rw [HM.out]
            clear q459 q460 q461 q462 q463 q464 q465 q466 q467 q444 q445 q446 q447 q448 q449 q450
            have q477 : v468.cell? ⟨w.heap.size, 0, none⟩ = some (.slice A l c) := X470.out.cell 0
            have q478 : v468.cell? ⟨w.heap.size + 1, 0, none⟩ = some (.int .i64 bm) := X471.out.cell 0
            have q479 : v468.cell? ⟨w.heap.size + 1 + 1, 0, none⟩ = some (.int .i64 fh) := X472.out.cell 0
            have q480 : v468.cell? ⟨w.heap.size + 1 + 1, 1, none⟩ = some (.int .i64 fd) := X472.out.cell 1
            have q481 : v468.cell? ⟨w.heap.size + 1 + 1, 2, none⟩ = some (.int .i64 fk) := X472.out.cell 2
            have q482 : v468.cell? ⟨v410.heap.size, 0, none⟩ = some (.int .i64 (D : Int)) := X473.out.cell 0
            have q483 : v468.cell? ⟨v410.heap.size, 1, none⟩ = some (.int .i64 (N : Int)) := X473.out.cell 1
            have q484 : v468.cell? ⟨v436.heap.size, 0, none⟩ = some (.int .i64 (N : Int)) := X474.out.cell 0
            have q485 : v468.cell? ⟨v436.heap.size, 1, none⟩ = some (.int .i64 (D : Int)) := X474.out.cell 1
            have LT486 := Lib.hid X472.out.lt
            have X487 := Lib.hid (X470.out.alloc (.cells #[.int .i64 1, .int .i64 1] 23))
            have X488 := Lib.hid (X471.out.alloc (.cells #[.int .i64 1, .int .i64 1] 23))
            have X489 := Lib.hid (X472.out.alloc (.cells #[.int .i64 1, .int .i64 1] 23))
            have X490 := Lib.hid (X473.out.alloc (.cells #[.int .i64 1, .int .i64 1] 23))
            have X491 := Lib.hid (X474.out.alloc (.cells #[.int .i64 1, .int .i64 1] 23))
            have C492 := Lib.hid (C475.out.later ((Below.refl v468.heap.size v468).alloc (Nat.le_refl _) (.cells #[.int .i64 1, .int .i64 1] 23)))
            have B493 := Lib.hid (B476.out.alloc B476.out.size (.cells #[.int .i64 1, .int .i64 1] 23))
            have X494 := Lib.hid (Box.made v468 23 #[.int .i64 1, .int .i64 1])
            have q495 : (v468.alloc (.cells #[.int .i64 1, .int .i64 1] 23)).cell? ⟨w.heap.size, 0, none⟩ = some (.slice A l c) := X487.out.cell 0
            have q496 : (v468.alloc (.cells #[.int .i64 1, .int .i64 1] 23)).cell? ⟨w.heap.size + 1, 0, none⟩ = some (.int .i64 bm) := X488.out.cell 0
            have q497 : (v468.alloc (.cells #[.int .i64 1, .int .i64 1] 23)).cell? ⟨w.heap.size + 1 + 1, 0, none⟩ = some (.int .i64 fh) := X489.out.cell 0
            have q498 : (v468.alloc (.cells #[.int .i64 1, .int .i64 1] 23)).cell? ⟨w.heap.size + 1 + 1, 1, none⟩ = some (.int .i64 fd) := X489.out.cell 1
            have q499 : (v468.alloc (.cells #[.int .i64 1, .int .i64 1] 23)).cell? ⟨w.heap.size + 1 + 1, 2, none⟩ = some (.int .i64 fk) := X489.out.cell 2
            have q500 : (v468.alloc (.cells #[.int .i64 1, .int .i64 1] 23)).cell? ⟨v410.heap.size, 0, none⟩ = some (.int .i64 (D : Int)) := X490.out.cell 0
            have q501 : (v468.alloc (.cells #[.int .i64 1, .int .i64 1] 23)).cell? ⟨v410.heap.size, 1, none⟩ = some (.int .i64 (N : Int)) := X490.out.cell 1
            have q502 : (v468.alloc (.cells #[.int .i64 1, .int .i64 1] 23)).cell? ⟨v436.heap.size, 0, none⟩ = some (.int .i64 (N : Int)) := X491.out.cell 0
            have q503 : (v468.alloc (.cells #[.int .i64 1, .int .i64 1] 23)).cell? ⟨v436.heap.size, 1, none⟩ = some (.int .i64 (D : Int)) := X491.out.cell 1
            have q504 : (v468.alloc (.cells #[.int .i64 1, .int .i64 1] 23)).cell? ⟨v468.heap.size, 0, none⟩ = some (.int .i64 1) := X494.out.cell 0
            have q505 : (v468.alloc (.cells #[.int .i64 1, .int .i64 1] 23)).cell? ⟨v468.heap.size, 1, none⟩ = some (.int .i64 1) := X494.out.cell 1
            go_wp2_with fail
            go_ret
            exact ⟨ret_bool (by simp), B493.out⟩

end Go.Proofs.Ytmmfmanjajefcaa

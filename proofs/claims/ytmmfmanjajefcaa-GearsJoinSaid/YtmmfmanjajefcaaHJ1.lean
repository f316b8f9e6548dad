/- Layer 7: the law on trains one behind the other. -/
import Derived.Test.YtmmfmanjajefcaaHJr
set_option linter.all false
namespace Go.Proofs.Ytmmfmanjajefcaa
open Go.RowKit

set_option maxRecDepth 100000 in
set_option maxHeartbeats 8000000 in
theorem GearsJoin_c (ms us : List Mh) (v v' : Value) (w : World) (h : IsTr w w.heap.size v ms) (h' : IsTr w w.heap.size v' us) : Calls Try.prog 10 #[v, v'] w fun e w' => e = .returned (.bool true) ∧ Below w.heap.size w w' := by
  have HT := Lib.hid h
  have HU := Lib.hid h'
  obtain ⟨sv, rfl, A, c, rfl, -, -⟩ := h
  obtain ⟨sv, rfl, A', c', rfl, -, -⟩ := h'
  obtain ⟨l, hn⟩ : ∃ n, ms.length = n := ⟨_, rfl⟩
  have HN := Lib.hid hn
  obtain ⟨k, hn'⟩ : ∃ n, us.length = n := ⟨_, rfl⟩
  have HN' := Lib.hid hn'
  rw [hn] at HT ⊢
  rw [hn'] at HU ⊢
  clear hn hn'
  go_enter Try.func10, Try.ntmps10
  go_wp2_with fail
  obtain ⟨W1, hW2⟩ : ∃ Wzz, ((w.alloc (.cells #[.slice A l c] 35)).alloc (.cells #[.slice A' k c'] 35)) = Wzz := ⟨_, rfl⟩
  have B3 := Lib.hid (show Below w.heap.size w W1 by rw [← hW2]; exact (((Below.refl w.heap.size w).alloc (Nat.le_refl _) _).alloc (by first | (simp; done) | (simp; omega)) _))
  have X4 := Lib.hid (show Box W1 (w.heap.size) 35 #[.slice A l c] by rw [← hW2]; exact Box.alloc (Box.made w 35 #[.slice A l c]) (.cells #[.slice A' k c'] 35))
  have X5 := Lib.hid (show Box W1 (w.heap.size + 1) 35 #[.slice A' k c'] by
    have hz := Box.made (w.alloc (.cells #[.slice A l c] 35)) 35 #[.slice A' k c']
    rw [World.size_alloc] at hz
    rw [← hW2]; exact hz)
  have C6 := Lib.hid (HT.out.later B3.out)
  have C7 := Lib.hid (HU.out.later B3.out)
  have SZ8 := Lib.hid (show W1.heap.size = w.heap.size + 1 + 1 by rw [← hW2]; simp)
  rw [hW2]
  clear hW2
  have q9 : W1.cell? ⟨w.heap.size, 0, none⟩ = some (.slice A l c) := X4.out.cell 0
  have q10 : W1.cell? ⟨w.heap.size + 1, 0, none⟩ = some (.slice A' k c') := X5.out.cell 0
  go_wp2_with fail
  refine (awake_c _).mono ?_; rintro e v11 ⟨rfl, hb12⟩
  have X13 := Lib.hid (X4.out.later hb12)
  have X14 := Lib.hid (X5.out.later hb12)
  have C15 := Lib.hid (C6.out.later hb12)
  have C16 := Lib.hid (C7.out.later hb12)
  have B17 := Lib.hid (B3.out.trans (hb12.mono B3.out.size))
  clear hb12
  clear q9 q10
  have q18 : v11.cell? ⟨w.heap.size, 0, none⟩ = some (.slice A l c) := X13.out.cell 0
  have q19 : v11.cell? ⟨w.heap.size + 1, 0, none⟩ = some (.slice A' k c') := X14.out.cell 0
  go_wp2_with fail
  refine (short_c ms _ _ C15.out).mono ?_; rintro e v20 ⟨rfl, hb21⟩
  have X22 := Lib.hid (X13.out.later hb21)
  have X23 := Lib.hid (X14.out.later hb21)
  have C24 := Lib.hid (C15.out.later hb21)
  have C25 := Lib.hid (C16.out.later hb21)
  have B26 := Lib.hid (B17.out.trans (hb21.mono B17.out.size))
  clear hb21
  rw [HN.out]
  clear q18 q19
  have q27 : v20.cell? ⟨w.heap.size, 0, none⟩ = some (.slice A l c) := X22.out.cell 0
  have q28 : v20.cell? ⟨w.heap.size + 1, 0, none⟩ = some (.slice A' k c') := X23.out.cell 0
  rcases Nat.lt_or_ge 100 l with hl | hl
  · have e1 : decide (l ≤ 100) = false := by simp; omega
    clear hl
    go_wp2_with fail
    go_ret
    exact ⟨rfl, B26.out⟩
  · have e1 : decide (l ≤ 100) = true := by simp; omega
    have HL := Lib.hid (show ms.length ≤ 100 by rw [HN.out]; exact hl)
    clear hl
    go_wp2_with fail
    refine (short_c us _ _ C25.out).mono ?_; rintro e v29 ⟨rfl, hb30⟩
    have X31 := Lib.hid (X22.out.later hb30)
    have X32 := Lib.hid (X23.out.later hb30)
    have C33 := Lib.hid (C24.out.later hb30)
    have C34 := Lib.hid (C25.out.later hb30)
    have B35 := Lib.hid (B26.out.trans (hb30.mono B26.out.size))
    clear hb30
    rw [HN'.out]
    clear q27 q28
    have q36 : v29.cell? ⟨w.heap.size, 0, none⟩ = some (.slice A l c) := X31.out.cell 0
    have q37 : v29.cell? ⟨w.heap.size + 1, 0, none⟩ = some (.slice A' k c') := X32.out.cell 0
    rcases Nat.lt_or_ge 100 k with hl | hl
    · have e1 : decide (k ≤ 100) = false := by simp; omega
      clear hl
      go_wp2_with fail
      go_ret
      exact ⟨rfl, B35.out⟩
    · have e1 : decide (k ≤ 100) = true := by simp; omega
      have HL2 := Lib.hid (show us.length ≤ 100 by rw [HN'.out]; exact hl)
      clear hl
      obtain ⟨⟨an, ad, ae⟩, ha9⟩ : ∃ X9, rtR ms = X9 := ⟨_, rfl⟩
      have HA := Lib.hid ha9
      clear ha9
      go_wp2_with fail
      refine (RatioOf_c ms _ _ C33.out).mono ?_; rintro e v38 ⟨rfl, hb39⟩
      have X40 := Lib.hid (X31.out.later hb39)
      have X41 := Lib.hid (X32.out.later hb39)
      have C42 := Lib.hid (C33.out.later hb39)
      have C43 := Lib.hid (C34.out.later hb39)
      have B44 := Lib.hid (B35.out.trans (hb39.mono B35.out.size))
      clear hb39
      rw [HA.out]
      clear q36 q37
      have q45 : v38.cell? ⟨w.heap.size, 0, none⟩ = some (.slice A l c) := X40.out.cell 0
      have q46 : v38.cell? ⟨w.heap.size + 1, 0, none⟩ = some (.slice A' k c') := X41.out.cell 0
      have X47 := Lib.hid (X40.out.alloc (.cells #[.int .i64 an, .int .i64 ad] 23))
      have X48 := Lib.hid (X41.out.alloc (.cells #[.int .i64 an, .int .i64 ad] 23))
      have C49 := Lib.hid (C42.out.later ((Below.refl v38.heap.size v38).alloc (Nat.le_refl _) (.cells #[.int .i64 an, .int .i64 ad] 23)))
      have C50 := Lib.hid (C43.out.later ((Below.refl v38.heap.size v38).alloc (Nat.le_refl _) (.cells #[.int .i64 an, .int .i64 ad] 23)))
      have B51 := Lib.hid (B44.out.alloc B44.out.size (.cells #[.int .i64 an, .int .i64 ad] 23))
      have X52 := Lib.hid (Box.made v38 23 #[.int .i64 an, .int .i64 ad])
      have q53 : (v38.alloc (.cells #[.int .i64 an, .int .i64 ad] 23)).cell? ⟨w.heap.size, 0, none⟩ = some (.slice A l c) := X47.out.cell 0
      have q54 : (v38.alloc (.cells #[.int .i64 an, .int .i64 ad] 23)).cell? ⟨w.heap.size + 1, 0, none⟩ = some (.slice A' k c') := X48.out.cell 0
      have q55 : (v38.alloc (.cells #[.int .i64 an, .int .i64 ad] 23)).cell? ⟨v38.heap.size, 0, none⟩ = some (.int .i64 an) := X52.out.cell 0
      have q56 : (v38.alloc (.cells #[.int .i64 an, .int .i64 ad] 23)).cell? ⟨v38.heap.size, 1, none⟩ = some (.int .i64 ad) := X52.out.cell 1
      obtain ⟨⟨bn, bd, be⟩, hb9⟩ : ∃ X9, rtR us = X9 := ⟨_, rfl⟩
      have HB := Lib.hid hb9
      clear hb9
      go_wp2_with fail
      refine (RatioOf_c us _ _ C50.out).mono ?_; rintro e v57 ⟨rfl, hb58⟩
      have X59 := Lib.hid (X47.out.later hb58)
      have X60 := Lib.hid (X48.out.later hb58)
      have X61 := Lib.hid (X52.out.later hb58)
      have C62 := Lib.hid (C49.out.later hb58)
      have C63 := Lib.hid (C50.out.later hb58)
      have B64 := Lib.hid (B51.out.trans (hb58.mono B51.out.size))
      clear hb58
      rw [HB.out]
      clear q53 q54 q55 q56 q45 q46
      have q65 : v57.cell? ⟨w.heap.size, 0, none⟩ = some (.slice A l c) := X59.out.cell 0
      have q66 : v57.cell? ⟨w.heap.size + 1, 0, none⟩ = some (.slice A' k c') := X60.out.cell 0
      have q67 : v57.cell? ⟨v38.heap.size, 0, none⟩ = some (.int .i64 an) := X61.out.cell 0
      have q68 : v57.cell? ⟨v38.heap.size, 1, none⟩ = some (.int .i64 ad) := X61.out.cell 1
      have LT69 := Lib.hid X61.out.lt
      have X70 := Lib.hid (X59.out.alloc (.cells #[.int .i64 bn, .int .i64 bd] 23))
      have X71 := Lib.hid (X60.out.alloc (.cells #[.int .i64 bn, .int .i64 bd] 23))
      have X72 := Lib.hid (X61.out.alloc (.cells #[.int .i64 bn, .int .i64 bd] 23))
      have C73 := Lib.hid (C62.out.later ((Below.refl v57.heap.size v57).alloc (Nat.le_refl _) (.cells #[.int .i64 bn, .int .i64 bd] 23)))
      have C74 := Lib.hid (C63.out.later ((Below.refl v57.heap.size v57).alloc (Nat.le_refl _) (.cells #[.int .i64 bn, .int .i64 bd] 23)))
      have B75 := Lib.hid (B64.out.alloc B64.out.size (.cells #[.int .i64 bn, .int .i64 bd] 23))
      have X76 := Lib.hid (Box.made v57 23 #[.int .i64 bn, .int .i64 bd])
      have q77 : (v57.alloc (.cells #[.int .i64 bn, .int .i64 bd] 23)).cell? ⟨w.heap.size, 0, none⟩ = some (.slice A l c) := X70.out.cell 0
      have q78 : (v57.alloc (.cells #[.int .i64 bn, .int .i64 bd] 23)).cell? ⟨w.heap.size + 1, 0, none⟩ = some (.slice A' k c') := X71.out.cell 0
      have q79 : (v57.alloc (.cells #[.int .i64 bn, .int .i64 bd] 23)).cell? ⟨v38.heap.size, 0, none⟩ = some (.int .i64 an) := X72.out.cell 0
      have q80 : (v57.alloc (.cells #[.int .i64 bn, .int .i64 bd] 23)).cell? ⟨v38.heap.size, 1, none⟩ = some (.int .i64 ad) := X72.out.cell 1
      have q81 : (v57.alloc (.cells #[.int .i64 bn, .int .i64 bd] 23)).cell? ⟨v57.heap.size, 0, none⟩ = some (.int .i64 bn) := X76.out.cell 0
      have q82 : (v57.alloc (.cells #[.int .i64 bn, .int .i64 bd] 23)).cell? ⟨v57.heap.size, 1, none⟩ = some (.int .i64 bd) := X76.out.cell 1
      have n1 : ∀ z : Int, (z == z) = true := fun z => by simp
      rcases rt_three ms with ⟨h1, h2⟩ | ⟨h1, h2⟩ | ⟨h1, N, D, h2, a0, a1, b0, b1, hg, hi⟩
      · have HV := Lib.hid h1
        rw [HA.out] at h2
        injection h2 with p1 p2 p3
        subst p1 p2 p3
        clear h1
        go_wp2_with fail
        refine (ValidTrain_c ms _ _ C73.out).mono ?_; rintro e v83 ⟨rfl, hb84⟩
        have X85 := Lib.hid (X70.out.later hb84)
        have X86 := Lib.hid (X71.out.later hb84)
        have X87 := Lib.hid (X72.out.later hb84)
        have X88 := Lib.hid (X76.out.later hb84)
        have C89 := Lib.hid (C73.out.later hb84)
        have C90 := Lib.hid (C74.out.later hb84)
        have B91 := Lib.hid (B75.out.trans (hb84.mono B75.out.size))
        clear hb84
        rw [HV.out]
        clear q77 q78 q79 q80 q81 q82 q65 q66 q67 q68
        have q92 : v83.cell? ⟨w.heap.size, 0, none⟩ = some (.slice A l c) := X85.out.cell 0
        have q93 : v83.cell? ⟨w.heap.size + 1, 0, none⟩ = some (.slice A' k c') := X86.out.cell 0
        have q94 : v83.cell? ⟨v38.heap.size, 0, none⟩ = some (.int .i64 0) := X87.out.cell 0
        have q95 : v83.cell? ⟨v38.heap.size, 1, none⟩ = some (.int .i64 0) := X87.out.cell 1
        have q96 : v83.cell? ⟨v57.heap.size, 0, none⟩ = some (.int .i64 bn) := X88.out.cell 0
        have q97 : v83.cell? ⟨v57.heap.size, 1, none⟩ = some (.int .i64 bd) := X88.out.cell 1
        go_wp2_with fail
        go_ret
        exact ⟨ret_bool (by simp), B91.out⟩
      · have HV := Lib.hid h1
        rw [HA.out] at h2
        injection h2 with p1 p2 p3
        subst p1 p2 p3
        clear h1
        go_wp2_with fail
        refine (ValidTrain_c ms _ _ C73.out).mono ?_; rintro e v98 ⟨rfl, hb99⟩
        have X100 := Lib.hid (X70.out.later hb99)
        have X101 := Lib.hid (X71.out.later hb99)
        have X102 := Lib.hid (X72.out.later hb99)
        have X103 := Lib.hid (X76.out.later hb99)
        have C104 := Lib.hid (C73.out.later hb99)
        have C105 := Lib.hid (C74.out.later hb99)
        have B106 := Lib.hid (B75.out.trans (hb99.mono B75.out.size))
        clear hb99
        rw [HV.out]
        clear q77 q78 q79 q80 q81 q82 q65 q66 q67 q68
        have q107 : v98.cell? ⟨w.heap.size, 0, none⟩ = some (.slice A l c) := X100.out.cell 0
        have q108 : v98.cell? ⟨w.heap.size + 1, 0, none⟩ = some (.slice A' k c') := X101.out.cell 0
        have q109 : v98.cell? ⟨v38.heap.size, 0, none⟩ = some (.int .i64 0) := X102.out.cell 0
        have q110 : v98.cell? ⟨v38.heap.size, 1, none⟩ = some (.int .i64 0) := X102.out.cell 1
        have q111 : v98.cell? ⟨v57.heap.size, 0, none⟩ = some (.int .i64 bn) := X103.out.cell 0
        have q112 : v98.cell? ⟨v57.heap.size, 1, none⟩ = some (.int .i64 bd) := X103.out.cell 1
        go_wp2_with fail
        go_ret
        exact ⟨ret_bool (by simp), B106.out⟩
      · have HV := Lib.hid h1
        rw [HA.out] at h2
        injection h2 with p1 p2 p3
        subst p1 p2 p3
        have HAB := Lib.hid (And.intro a0 (And.intro a1 (And.intro b0 (And.intro b1 (And.intro hg hi)))))
        have HBK := Lib.hid (rt_back h1 a0 a1 b0 b1 hg hi)
        have HTO := Lib.hid (tm_one a0 a1 b0 b1 hg).2
        clear h1 a0 a1 b0 b1 hg hi
        go_wp2_with fail
        refine (back_c ms _ _ C73.out HL.out).mono ?_; rintro e v113 ⟨u9, rfl, hIs, hb114⟩
        have X115 := Lib.hid (X70.out.later hb114)
        have X116 := Lib.hid (X71.out.later hb114)
        have X117 := Lib.hid (X72.out.later hb114)
        have X118 := Lib.hid (X76.out.later hb114)
        have C119 := Lib.hid (C73.out.later hb114)
        have C120 := Lib.hid (C74.out.later hb114)
        have B121 := Lib.hid (B75.out.trans (hb114.mono B75.out.size))
        clear hb114
        have HBT := Lib.hid hIs
        clear hIs
        clear q77 q78 q79 q80 q81 q82 q65 q66 q67 q68
        have q122 : v113.cell? ⟨w.heap.size, 0, none⟩ = some (.slice A l c) := X115.out.cell 0
        have q123 : v113.cell? ⟨w.heap.size + 1, 0, none⟩ = some (.slice A' k c') := X116.out.cell 0
        have q124 : v113.cell? ⟨v38.heap.size, 0, none⟩ = some (.int .i64 (N : Int)) := X117.out.cell 0
        have q125 : v113.cell? ⟨v38.heap.size, 1, none⟩ = some (.int .i64 (D : Int)) := X117.out.cell 1
        have q126 : v113.cell? ⟨v57.heap.size, 0, none⟩ = some (.int .i64 bn) := X118.out.cell 0
        have q127 : v113.cell? ⟨v57.heap.size, 1, none⟩ = some (.int .i64 bd) := X118.out.cell 1
        go_wp2_with fail
        refine (RatioOf_c (bk ms) _ _ HBT.out).mono ?_; rintro e v128 ⟨rfl, hb129⟩
        have X130 := Lib.hid (X115.out.later hb129)
        have X131 := Lib.hid (X116.out.later hb129)
        have X132 := Lib.hid (X117.out.later hb129)
        have X133 := Lib.hid (X118.out.later hb129)
        have C134 := Lib.hid (C119.out.later hb129)
        have C135 := Lib.hid (C120.out.later hb129)
        have C136 := Lib.hid (HBT.out.later hb129)
        have B137 := Lib.hid (B121.out.trans (hb129.mono B121.out.size))
        clear hb129
        rw [HBK.out]
        clear q122 q123 q124 q125 q126 q127
        have q138 : v128.cell? ⟨w.heap.size, 0, none⟩ = some (.slice A l c) := X130.out.cell 0
        have q139 : v128.cell? ⟨w.heap.size + 1, 0, none⟩ = some (.slice A' k c') := X131.out.cell 0
        have q140 : v128.cell? ⟨v38.heap.size, 0, none⟩ = some (.int .i64 (N : Int)) := X132.out.cell 0
        have q141 : v128.cell? ⟨v38.heap.size, 1, none⟩ = some (.int .i64 (D : Int)) := X132.out.cell 1
        have q142 : v128.cell? ⟨v57.heap.size, 0, none⟩ = some (.int .i64 bn) := X133.out.cell 0
        have q143 : v128.cell? ⟨v57.heap.size, 1, none⟩ = some (.int .i64 bd) := X133.out.cell 1
        have LT144 := Lib.hid X132.out.lt
        have X145 := Lib.hid (X130.out.alloc (.cells #[.int .i64 (D : Int), .int .i64 (N : Int)] 23))
        have X146 := Lib.hid (X131.out.alloc (.cells #[.int .i64 (D : Int), .int .i64 (N : Int)] 23))
        have X147 := Lib.hid (X132.out.alloc (.cells #[.int .i64 (D : Int), .int .i64 (N : Int)] 23))
        have X148 := Lib.hid (X133.out.alloc (.cells #[.int .i64 (D : Int), .int .i64 (N : Int)] 23))
        have C149 := Lib.hid (C134.out.later ((Below.refl v128.heap.size v128).alloc (Nat.le_refl _) (.cells #[.int .i64 (D : Int), .int .i64 (N : Int)] 23)))
        have C150 := Lib.hid (C135.out.later ((Below.refl v128.heap.size v128).alloc (Nat.le_refl _) (.cells #[.int .i64 (D : Int), .int .i64 (N : Int)] 23)))
        have C151 := Lib.hid (C136.out.later ((Below.refl v128.heap.size v128).alloc (Nat.le_refl _) (.cells #[.int .i64 (D : Int), .int .i64 (N : Int)] 23)))
        have B152 := Lib.hid (B137.out.alloc B137.out.size (.cells #[.int .i64 (D : Int), .int .i64 (N : Int)] 23))
        have X153 := Lib.hid (Box.made v128 23 #[.int .i64 (D : Int), .int .i64 (N : Int)])
        have q154 : (v128.alloc (.cells #[.int .i64 (D : Int), .int .i64 (N : Int)] 23)).cell? ⟨w.heap.size, 0, none⟩ = some (.slice A l c) := X145.out.cell 0
        have q155 : (v128.alloc (.cells #[.int .i64 (D : Int), .int .i64 (N : Int)] 23)).cell? ⟨w.heap.size + 1, 0, none⟩ = some (.slice A' k c') := X146.out.cell 0
        have q156 : (v128.alloc (.cells #[.int .i64 (D : Int), .int .i64 (N : Int)] 23)).cell? ⟨v38.heap.size, 0, none⟩ = some (.int .i64 (N : Int)) := X147.out.cell 0
        have q157 : (v128.alloc (.cells #[.int .i64 (D : Int), .int .i64 (N : Int)] 23)).cell? ⟨v38.heap.size, 1, none⟩ = some (.int .i64 (D : Int)) := X147.out.cell 1
        have q158 : (v128.alloc (.cells #[.int .i64 (D : Int), .int .i64 (N : Int)] 23)).cell? ⟨v57.heap.size, 0, none⟩ = some (.int .i64 bn) := X148.out.cell 0
        have q159 : (v128.alloc (.cells #[.int .i64 (D : Int), .int .i64 (N : Int)] 23)).cell? ⟨v57.heap.size, 1, none⟩ = some (.int .i64 bd) := X148.out.cell 1
        have q160 : (v128.alloc (.cells #[.int .i64 (D : Int), .int .i64 (N : Int)] 23)).cell? ⟨v128.heap.size, 0, none⟩ = some (.int .i64 (D : Int)) := X153.out.cell 0
        have q161 : (v128.alloc (.cells #[.int .i64 (D : Int), .int .i64 (N : Int)] 23)).cell? ⟨v128.heap.size, 1, none⟩ = some (.int .i64 (N : Int)) := X153.out.cell 1
        go_wp2_with fail
        refine (Times_c (N : Int) (D : Int) (D : Int) (N : Int) _).mono ?_; rintro e v162 ⟨rfl, hb163⟩
        have X164 := Lib.hid (X145.out.later hb163)
        have X165 := Lib.hid (X146.out.later hb163)
        have X166 := Lib.hid (X147.out.later hb163)
        have X167 := Lib.hid (X148.out.later hb163)
        have X168 := Lib.hid (X153.out.later hb163)
        have C169 := Lib.hid (C149.out.later hb163)
        have C170 := Lib.hid (C150.out.later hb163)
        have C171 := Lib.hid (C151.out.later hb163)
        have B172 := Lib.hid (B152.out.trans (hb163.mono B152.out.size))
        clear hb163
        rw [HTO.out]
        clear q154 q155 q156 q157 q158 q159 q160 q161 q138 q139 q140 q141 q142 q143
        have q173 : v162.cell? ⟨w.heap.size, 0, none⟩ = some (.slice A l c) := X164.out.cell 0
        have q174 : v162.cell? ⟨w.heap.size + 1, 0, none⟩ = some (.slice A' k c') := X165.out.cell 0
        have q175 : v162.cell? ⟨v38.heap.size, 0, none⟩ = some (.int .i64 (N : Int)) := X166.out.cell 0
        have q176 : v162.cell? ⟨v38.heap.size, 1, none⟩ = some (.int .i64 (D : Int)) := X166.out.cell 1
        have q177 : v162.cell? ⟨v57.heap.size, 0, none⟩ = some (.int .i64 bn) := X167.out.cell 0
        have q178 : v162.cell? ⟨v57.heap.size, 1, none⟩ = some (.int .i64 bd) := X167.out.cell 1
        have q179 : v162.cell? ⟨v128.heap.size, 0, none⟩ = some (.int .i64 (D : Int)) := X168.out.cell 0
        have q180 : v162.cell? ⟨v128.heap.size, 1, none⟩ = some (.int .i64 (N : Int)) := X168.out.cell 1
        have LT181 := Lib.hid X166.out.lt
        have X182 := Lib.hid (X164.out.alloc (.cells #[.int .i64 1, .int .i64 1] 23))
        have X183 := Lib.hid (X165.out.alloc (.cells #[.int .i64 1, .int .i64 1] 23))
        have X184 := Lib.hid (X166.out.alloc (.cells #[.int .i64 1, .int .i64 1] 23))
        have X185 := Lib.hid (X167.out.alloc (.cells #[.int .i64 1, .int .i64 1] 23))
        have X186 := Lib.hid (X168.out.alloc (.cells #[.int .i64 1, .int .i64 1] 23))
        have C187 := Lib.hid (C169.out.later ((Below.refl v162.heap.size v162).alloc (Nat.le_refl _) (.cells #[.int .i64 1, .int .i64 1] 23)))
        have C188 := Lib.hid (C170.out.later ((Below.refl v162.heap.size v162).alloc (Nat.le_refl _) (.cells #[.int .i64 1, .int .i64 1] 23)))
        have C189 := Lib.hid (C171.out.later ((Below.refl v162.heap.size v162).alloc (Nat.le_refl _) (.cells #[.int .i64 1, .int .i64 1] 23)))
        have B190 := Lib.hid (B172.out.alloc B172.out.size (.cells #[.int .i64 1, .int .i64 1] 23))
        have X191 := Lib.hid (Box.made v162 23 #[.int .i64 1, .int .i64 1])
        have q192 : (v162.alloc (.cells #[.int .i64 1, .int .i64 1] 23)).cell? ⟨w.heap.size, 0, none⟩ = some (.slice A l c) := X182.out.cell 0
        have q193 : (v162.alloc (.cells #[.int .i64 1, .int .i64 1] 23)).cell? ⟨w.heap.size + 1, 0, none⟩ = some (.slice A' k c') := X183.out.cell 0
        have q194 : (v162.alloc (.cells #[.int .i64 1, .int .i64 1] 23)).cell? ⟨v38.heap.size, 0, none⟩ = some (.int .i64 (N : Int)) := X184.out.cell 0
        have q195 : (v162.alloc (.cells #[.int .i64 1, .int .i64 1] 23)).cell? ⟨v38.heap.size, 1, none⟩ = some (.int .i64 (D : Int)) := X184.out.cell 1
        have q196 : (v162.alloc (.cells #[.int .i64 1, .int .i64 1] 23)).cell? ⟨v57.heap.size, 0, none⟩ = some (.int .i64 bn) := X185.out.cell 0
        have q197 : (v162.alloc (.cells #[.int .i64 1, .int .i64 1] 23)).cell? ⟨v57.heap.size, 1, none⟩ = some (.int .i64 bd) := X185.out.cell 1
        have q198 : (v162.alloc (.cells #[.int .i64 1, .int .i64 1] 23)).cell? ⟨v128.heap.size, 0, none⟩ = some (.int .i64 (D : Int)) := X186.out.cell 0
        have q199 : (v162.alloc (.cells #[.int .i64 1, .int .i64 1] 23)).cell? ⟨v128.heap.size, 1, none⟩ = some (.int .i64 (N : Int)) := X186.out.cell 1
        have q200 : (v162.alloc (.cells #[.int .i64 1, .int .i64 1] 23)).cell? ⟨v162.heap.size, 0, none⟩ = some (.int .i64 1) := X191.out.cell 0
        have q201 : (v162.alloc (.cells #[.int .i64 1, .int .i64 1] 23)).cell? ⟨v162.heap.size, 1, none⟩ = some (.int .i64 1) := X191.out.cell 1
        rcases rt_three us with ⟨h1, h2⟩ | ⟨h1, h2⟩ | ⟨h1, M, C, h2, a0, a1, b0, b1, hg, hi⟩
        · rw [HB.out] at h2
          injection h2 with p1 p2 p3
          subst p1 p2 p3
          clear h1
          go_wp2_with fail
          go_ret
          exact ⟨ret_bool (by simp), B190.out⟩
        · rw [HB.out] at h2
          injection h2 with p1 p2 p3
          subst p1 p2 p3
          clear h1
          go_wp2_with fail
          go_ret
          exact ⟨ret_bool (by simp), B190.out⟩
        · have HVU := Lib.hid h1
          rw [HB.out] at h2
          injection h2 with p1 p2 p3
          subst p1 p2 p3
          have HCD := Lib.hid (And.intro a0 (And.intro a1 (And.intro b0 (And.intro b1 (And.intro hg hi)))))
          have HLL := Lib.hid (show 1 ≤ l ∧ l ≤ 16 ∧ 1 ≤ k ∧ k ≤ 16 by
            have f1 := tr_facts HV.out
            have f2 := tr_facts HVU.out
            have g1 := HN.out
            have g2 := HN'.out
            omega)
          have wlk : IntKind.i64.wrap ((l : Int) + (k : Int)) = (l : Int) + (k : Int) := wrap_id (by omega) (by have := HLL.out; omega)
          clear h1 a0 a1 b0 b1 hg hi
          by_cases hlk : 16 < l + k
          · have e3 : decide ((16 : Int) < (l : Int) + (k : Int)) = true := decide_eq_true (by omega)
            clear hlk
            go_wp2_with fail
            go_ret
            exact ⟨ret_bool (by simp), B190.out⟩
          · have e3 : decide ((16 : Int) < (l : Int) + (k : Int)) = false := decide_eq_false (by omega)
            have HJN := Lib.hid (rt_join HV.out HVU.out (by rw [HN.out, HN'.out]; omega) HAB.out.2.1 HAB.out.2.2.1 HAB.out.2.2.2.1 HAB.out.2.2.2.2.1 HAB.out.2.2.2.2.2 HCD.out.2.1 HCD.out.2.2.1 HCD.out.2.2.2.1 HCD.out.2.2.2.2.1 HCD.out.2.2.2.2.2)
            clear hlk
            obtain ⟨sT, hsT, HM0⟩ := C187.out
            obtain rfl : Value.slice A l c = sT := by simpa using hsT
            obtain ⟨b1, off1, rfl, -, hcap1, hb1, hnw1⟩ := ms_news HM0 (by have := HLL.out; have := HN.out; omega)
            obtain ⟨sU, hsU, HM2⟩ := C188.out
            obtain rfl : Value.slice A' k c' = sU := by simpa using hsU
            obtain ⟨b2, off2, rfl, -, hcap2, hb2, hnw2⟩ := ms_news HM2 (by have := HLL.out; have := HN'.out; omega)
            have HN1 := Lib.hid hnw1
            have HN2 := Lib.hid hnw2
            have HBB := Lib.hid (And.intro hb1 hb2)
            clear hsT HM0 hsU HM2 hnw1 hnw2 hb1 hb2 hcap1 hcap2
            go_wp2_with fail
            refine join14_c ms us l k c c' _ _ b1 off1 b2 off2 _ _ _ _ _ _ _ _ _ _ _ _ _ _ _ _ _ _ _ _ _ _ _ _ _ _ _ _ _ _ _ _ _ _ _ _ _ _ _ _ _ _ _ _ _ _ _ _ _ _ _ _ _ _ _ _ _ _ _ _ _ _ _ _ _ _ _ _ _ _ _ _ _ _ _ _ _ _ _ _ _ _ _ _ _ _ _ _ _ _ _ _ _ _ _ _ _ _ _ _ _ _ _ _ _ _ _ _ _ _ _ _ _ _ _ HN.out HN'.out HLL.out HN1.out HN2.out HBB.out X182.out X183.out ?_
            intro gJ cJ AJ _ _ _ _ _ _ _ _ WJ hbJ hmJ hb8
            have HBJ := Lib.hid hbJ
            have HMJ := Lib.hid (show IsTr WJ WJ.heap.size (.agg #[.slice AJ (l + k) cJ]) (ms ++ us) from ⟨_, rfl, hmJ⟩)
            clear hbJ hmJ
            have X202 := Lib.hid (X182.out.later hb8)
            have X203 := Lib.hid (X183.out.later hb8)
            have X204 := Lib.hid (X184.out.later hb8)
            have X205 := Lib.hid (X185.out.later hb8)
            have X206 := Lib.hid (X186.out.later hb8)
            have X207 := Lib.hid (X191.out.later hb8)
            have C208 := Lib.hid (C187.out.later hb8)
            have C209 := Lib.hid (C188.out.later hb8)
            have C210 := Lib.hid (C189.out.later hb8)
            have B211 := Lib.hid (B190.out.trans (hb8.mono B190.out.size))
            clear hb8
            clear q192 q193 q194 q195 q196 q197 q198 q199 q200 q201 q173 q174 q175 q176 q177 q178 q179 q180
            have q212 : WJ.cell? ⟨w.heap.size, 0, none⟩ = some (.slice (some ⟨b1, off1, none⟩) l c) := X202.out.cell 0
            have q213 : WJ.cell? ⟨w.heap.size + 1, 0, none⟩ = some (.slice (some ⟨b2, off2, none⟩) k c') := X203.out.cell 0
            have q214 : WJ.cell? ⟨v38.heap.size, 0, none⟩ = some (.int .i64 (N : Int)) := X204.out.cell 0
            have q215 : WJ.cell? ⟨v38.heap.size, 1, none⟩ = some (.int .i64 (D : Int)) := X204.out.cell 1
            have q216 : WJ.cell? ⟨v57.heap.size, 0, none⟩ = some (.int .i64 (M : Int)) := X205.out.cell 0
            have q217 : WJ.cell? ⟨v57.heap.size, 1, none⟩ = some (.int .i64 (C : Int)) := X205.out.cell 1
            have q218 : WJ.cell? ⟨v128.heap.size, 0, none⟩ = some (.int .i64 (D : Int)) := X206.out.cell 0
            have q219 : WJ.cell? ⟨v128.heap.size, 1, none⟩ = some (.int .i64 (N : Int)) := X206.out.cell 1
            have q220 : WJ.cell? ⟨v162.heap.size, 0, none⟩ = some (.int .i64 1) := X207.out.cell 0
            have q221 : WJ.cell? ⟨v162.heap.size, 1, none⟩ = some (.int .i64 1) := X207.out.cell 1
            have q222 : WJ.cell? ⟨gJ, 0, none⟩ = some (.slice AJ (l + k) cJ) := HBJ.out.cell 0
            obtain ⟨⟨xn, xd, xe⟩, hxx9⟩ : ∃ X9, rtR (ms ++ us) = X9 := ⟨_, rfl⟩
            have HXX := Lib.hid hxx9
            clear hxx9
            rw [HXX.out] at HJN
            go_wp2_with fail
            refine (RatioOf_c (ms ++ us) _ _ HMJ.out).mono ?_; rintro e v223 ⟨rfl, hb224⟩
            have X225 := Lib.hid (X202.out.later hb224)
            have X226 := Lib.hid (X203.out.later hb224)
            have X227 := Lib.hid (X204.out.later hb224)
            have X228 := Lib.hid (X205.out.later hb224)
            have X229 := Lib.hid (X206.out.later hb224)
            have X230 := Lib.hid (X207.out.later hb224)
            have X231 := Lib.hid (HBJ.out.later hb224)
            have C232 := Lib.hid (HMJ.out.later hb224)
            have B233 := Lib.hid (B211.out.trans (hb224.mono B211.out.size))
            clear hb224
            rw [HXX.out]
            clear q212 q213 q214 q215 q216 q217 q218 q219 q220 q221 q222
            have q234 : v223.cell? ⟨w.heap.size, 0, none⟩ = some (.slice (some ⟨b1, off1, none⟩) l c) := X225.out.cell 0
            have q235 : v223.cell? ⟨w.heap.size + 1, 0, none⟩ = some (.slice (some ⟨b2, off2, none⟩) k c') := X226.out.cell 0
            have q236 : v223.cell? ⟨v38.heap.size, 0, none⟩ = some (.int .i64 (N : Int)) := X227.out.cell 0
            have q237 : v223.cell? ⟨v38.heap.size, 1, none⟩ = some (.int .i64 (D : Int)) := X227.out.cell 1
            have q238 : v223.cell? ⟨v57.heap.size, 0, none⟩ = some (.int .i64 (M : Int)) := X228.out.cell 0
            have q239 : v223.cell? ⟨v57.heap.size, 1, none⟩ = some (.int .i64 (C : Int)) := X228.out.cell 1
            have q240 : v223.cell? ⟨v128.heap.size, 0, none⟩ = some (.int .i64 (D : Int)) := X229.out.cell 0
            have q241 : v223.cell? ⟨v128.heap.size, 1, none⟩ = some (.int .i64 (N : Int)) := X229.out.cell 1
            have q242 : v223.cell? ⟨v162.heap.size, 0, none⟩ = some (.int .i64 1) := X230.out.cell 0
            have q243 : v223.cell? ⟨v162.heap.size, 1, none⟩ = some (.int .i64 1) := X230.out.cell 1
            have q244 : v223.cell? ⟨gJ, 0, none⟩ = some (.slice AJ (l + k) cJ) := X231.out.cell 0
            have LT245 := Lib.hid X227.out.lt
            have X246 := Lib.hid (X225.out.alloc (.cells #[.int .i64 xn, .int .i64 xd] 23))
            have X247 := Lib.hid (X226.out.alloc (.cells #[.int .i64 xn, .int .i64 xd] 23))
            have X248 := Lib.hid (X227.out.alloc (.cells #[.int .i64 xn, .int .i64 xd] 23))
            have X249 := Lib.hid (X228.out.alloc (.cells #[.int .i64 xn, .int .i64 xd] 23))
            have X250 := Lib.hid (X229.out.alloc (.cells #[.int .i64 xn, .int .i64 xd] 23))
            have X251 := Lib.hid (X230.out.alloc (.cells #[.int .i64 xn, .int .i64 xd] 23))
            have X252 := Lib.hid (X231.out.alloc (.cells #[.int .i64 xn, .int .i64 xd] 23))
            have C253 := Lib.hid (C232.out.later ((Below.refl v223.heap.size v223).alloc (Nat.le_refl _) (.cells #[.int .i64 xn, .int .i64 xd] 23)))
            have B254 := Lib.hid (B233.out.alloc B233.out.size (.cells #[.int .i64 xn, .int .i64 xd] 23))
            have X255 := Lib.hid (Box.made v223 23 #[.int .i64 xn, .int .i64 xd])
            have q256 : (v223.alloc (.cells #[.int .i64 xn, .int .i64 xd] 23)).cell? ⟨w.heap.size, 0, none⟩ = some (.slice (some ⟨b1, off1, none⟩) l c) := X246.out.cell 0
            have q257 : (v223.alloc (.cells #[.int .i64 xn, .int .i64 xd] 23)).cell? ⟨w.heap.size + 1, 0, none⟩ = some (.slice (some ⟨b2, off2, none⟩) k c') := X247.out.cell 0
            have q258 : (v223.alloc (.cells #[.int .i64 xn, .int .i64 xd] 23)).cell? ⟨v38.heap.size, 0, none⟩ = some (.int .i64 (N : Int)) := X248.out.cell 0
            have q259 : (v223.alloc (.cells #[.int .i64 xn, .int .i64 xd] 23)).cell? ⟨v38.heap.size, 1, none⟩ = some (.int .i64 (D : Int)) := X248.out.cell 1
            have q260 : (v223.alloc (.cells #[.int .i64 xn, .int .i64 xd] 23)).cell? ⟨v57.heap.size, 0, none⟩ = some (.int .i64 (M : Int)) := X249.out.cell 0
            have q261 : (v223.alloc (.cells #[.int .i64 xn, .int .i64 xd] 23)).cell? ⟨v57.heap.size, 1, none⟩ = some (.int .i64 (C : Int)) := X249.out.cell 1
            have q262 : (v223.alloc (.cells #[.int .i64 xn, .int .i64 xd] 23)).cell? ⟨v128.heap.size, 0, none⟩ = some (.int .i64 (D : Int)) := X250.out.cell 0
            have q263 : (v223.alloc (.cells #[.int .i64 xn, .int .i64 xd] 23)).cell? ⟨v128.heap.size, 1, none⟩ = some (.int .i64 (N : Int)) := X250.out.cell 1
            have q264 : (v223.alloc (.cells #[.int .i64 xn, .int .i64 xd] 23)).cell? ⟨v162.heap.size, 0, none⟩ = some (.int .i64 1) := X251.out.cell 0
            have q265 : (v223.alloc (.cells #[.int .i64 xn, .int .i64 xd] 23)).cell? ⟨v162.heap.size, 1, none⟩ = some (.int .i64 1) := X251.out.cell 1
            have q266 : (v223.alloc (.cells #[.int .i64 xn, .int .i64 xd] 23)).cell? ⟨gJ, 0, none⟩ = some (.slice AJ (l + k) cJ) := X252.out.cell 0
            have q267 : (v223.alloc (.cells #[.int .i64 xn, .int .i64 xd] 23)).cell? ⟨v223.heap.size, 0, none⟩ = some (.int .i64 xn) := X255.out.cell 0
            have q268 : (v223.alloc (.cells #[.int .i64 xn, .int .i64 xd] 23)).cell? ⟨v223.heap.size, 1, none⟩ = some (.int .i64 xd) := X255.out.cell 1
            go_wp2_with fail
            refine (Times_c (N : Int) (D : Int) (M : Int) (C : Int) _).mono ?_; rintro e v269 ⟨rfl, hb270⟩
            have X271 := Lib.hid (X246.out.later hb270)
            have X272 := Lib.hid (X247.out.later hb270)
            have X273 := Lib.hid (X248.out.later hb270)
            have X274 := Lib.hid (X249.out.later hb270)
            have X275 := Lib.hid (X250.out.later hb270)
            have X276 := Lib.hid (X251.out.later hb270)
            have X277 := Lib.hid (X252.out.later hb270)
            have X278 := Lib.hid (X255.out.later hb270)
            have C279 := Lib.hid (C253.out.later hb270)
            have B280 := Lib.hid (B254.out.trans (hb270.mono B254.out.size))
            clear hb270
            rw [HJN.out]
            clear q256 q257 q258 q259 q260 q261 q262 q263 q264 q265 q266 q267 q268 q234 q235 q236 q237 q238 q239 q240 q241 q242 q243 q244
            have q281 : v269.cell? ⟨w.heap.size, 0, none⟩ = some (.slice (some ⟨b1, off1, none⟩) l c) := X271.out.cell 0
            have q282 : v269.cell? ⟨w.heap.size + 1, 0, none⟩ = some (.slice (some ⟨b2, off2, none⟩) k c') := X272.out.cell 0
            have q283 : v269.cell? ⟨v38.heap.size, 0, none⟩ = some (.int .i64 (N : Int)) := X273.out.cell 0
            have q284 : v269.cell? ⟨v38.heap.size, 1, none⟩ = some (.int .i64 (D : Int)) := X273.out.cell 1
            have q285 : v269.cell? ⟨v57.heap.size, 0, none⟩ = some (.int .i64 (M : Int)) := X274.out.cell 0
            have q286 : v269.cell? ⟨v57.heap.size, 1, none⟩ = some (.int .i64 (C : Int)) := X274.out.cell 1
            have q287 : v269.cell? ⟨v128.heap.size, 0, none⟩ = some (.int .i64 (D : Int)) := X275.out.cell 0
            have q288 : v269.cell? ⟨v128.heap.size, 1, none⟩ = some (.int .i64 (N : Int)) := X275.out.cell 1
            have q289 : v269.cell? ⟨v162.heap.size, 0, none⟩ = some (.int .i64 1) := X276.out.cell 0
            have q290 : v269.cell? ⟨v162.heap.size, 1, none⟩ = some (.int .i64 1) := X276.out.cell 1
            have q291 : v269.cell? ⟨gJ, 0, none⟩ = some (.slice AJ (l + k) cJ) := X277.out.cell 0
            have q292 : v269.cell? ⟨v223.heap.size, 0, none⟩ = some (.int .i64 xn) := X278.out.cell 0
            have q293 : v269.cell? ⟨v223.heap.size, 1, none⟩ = some (.int .i64 xd) := X278.out.cell 1
            have LT294 := Lib.hid X273.out.lt
            have X295 := Lib.hid (X271.out.alloc (.cells #[.int .i64 xn, .int .i64 xd] 23))
            have X296 := Lib.hid (X272.out.alloc (.cells #[.int .i64 xn, .int .i64 xd] 23))
            have X297 := Lib.hid (X273.out.alloc (.cells #[.int .i64 xn, .int .i64 xd] 23))
            have X298 := Lib.hid (X274.out.alloc (.cells #[.int .i64 xn, .int .i64 xd] 23))
            have X299 := Lib.hid (X275.out.alloc (.cells #[.int .i64 xn, .int .i64 xd] 23))
            have X300 := Lib.hid (X276.out.alloc (.cells #[.int .i64 xn, .int .i64 xd] 23))
            have X301 := Lib.hid (X277.out.alloc (.cells #[.int .i64 xn, .int .i64 xd] 23))
            have X302 := Lib.hid (X278.out.alloc (.cells #[.int .i64 xn, .int .i64 xd] 23))
            have C303 := Lib.hid (C279.out.later ((Below.refl v269.heap.size v269).alloc (Nat.le_refl _) (.cells #[.int .i64 xn, .int .i64 xd] 23)))
            have B304 := Lib.hid (B280.out.alloc B280.out.size (.cells #[.int .i64 xn, .int .i64 xd] 23))
            have X305 := Lib.hid (Box.made v269 23 #[.int .i64 xn, .int .i64 xd])
            have q306 : (v269.alloc (.cells #[.int .i64 xn, .int .i64 xd] 23)).cell? ⟨w.heap.size, 0, none⟩ = some (.slice (some ⟨b1, off1, none⟩) l c) := X295.out.cell 0
            have q307 : (v269.alloc (.cells #[.int .i64 xn, .int .i64 xd] 23)).cell? ⟨w.heap.size + 1, 0, none⟩ = some (.slice (some ⟨b2, off2, none⟩) k c') := X296.out.cell 0
            have q308 : (v269.alloc (.cells #[.int .i64 xn, .int .i64 xd] 23)).cell? ⟨v38.heap.size, 0, none⟩ = some (.int .i64 (N : Int)) := X297.out.cell 0
            have q309 : (v269.alloc (.cells #[.int .i64 xn, .int .i64 xd] 23)).cell? ⟨v38.heap.size, 1, none⟩ = some (.int .i64 (D : Int)) := X297.out.cell 1
            have q310 : (v269.alloc (.cells #[.int .i64 xn, .int .i64 xd] 23)).cell? ⟨v57.heap.size, 0, none⟩ = some (.int .i64 (M : Int)) := X298.out.cell 0
            have q311 : (v269.alloc (.cells #[.int .i64 xn, .int .i64 xd] 23)).cell? ⟨v57.heap.size, 1, none⟩ = some (.int .i64 (C : Int)) := X298.out.cell 1
            have q312 : (v269.alloc (.cells #[.int .i64 xn, .int .i64 xd] 23)).cell? ⟨v128.heap.size, 0, none⟩ = some (.int .i64 (D : Int)) := X299.out.cell 0
            have q313 : (v269.alloc (.cells #[.int .i64 xn, .int .i64 xd] 23)).cell? ⟨v128.heap.size, 1, none⟩ = some (.int .i64 (N : Int)) := X299.out.cell 1
            have q314 : (v269.alloc (.cells #[.int .i64 xn, .int .i64 xd] 23)).cell? ⟨v162.heap.size, 0, none⟩ = some (.int .i64 1) := X300.out.cell 0
            have q315 : (v269.alloc (.cells #[.int .i64 xn, .int .i64 xd] 23)).cell? ⟨v162.heap.size, 1, none⟩ = some (.int .i64 1) := X300.out.cell 1
            have q316 : (v269.alloc (.cells #[.int .i64 xn, .int .i64 xd] 23)).cell? ⟨gJ, 0, none⟩ = some (.slice AJ (l + k) cJ) := X301.out.cell 0
            have q317 : (v269.alloc (.cells #[.int .i64 xn, .int .i64 xd] 23)).cell? ⟨v223.heap.size, 0, none⟩ = some (.int .i64 xn) := X302.out.cell 0
            have q318 : (v269.alloc (.cells #[.int .i64 xn, .int .i64 xd] 23)).cell? ⟨v223.heap.size, 1, none⟩ = some (.int .i64 xd) := X302.out.cell 1
            have q319 : (v269.alloc (.cells #[.int .i64 xn, .int .i64 xd] 23)).cell? ⟨v269.heap.size, 0, none⟩ = some (.int .i64 xn) := X305.out.cell 0
            have q320 : (v269.alloc (.cells #[.int .i64 xn, .int .i64 xd] 23)).cell? ⟨v269.heap.size, 1, none⟩ = some (.int .i64 xd) := X305.out.cell 1
            go_wp2_with fail
            go_ret
            exact ⟨ret_bool (by simp), B304.out⟩

end Go.Proofs.Ytmmfmanjajefcaa

/- Layer 7: the law on trains. -/
import Derived.Test.YtmmfmanjajefcaaGG
set_option linter.all false
namespace Go.Proofs.Ytmmfmanjajefcaa
open Go.RowKit

set_option maxRecDepth 100000 in
set_option maxHeartbeats 8000000 in
theorem GearsTrains_c (ms : List Mh) (a b p t q : Int) (v : Value) (w : World) (h : IsTr w w.heap.size v ms) : Calls Try.prog 4 #[v, .agg #[.int .i64 a, .int .i64 b, .int .i64 p], .int .i64 t, .int .i64 q] w fun e w' => e = .returned (.bool true) ∧ Below w.heap.size w w' := by
  have HT := Lib.hid h
  obtain ⟨sv, rfl, A, c, rfl, -, -⟩ := h
  obtain ⟨l, hn⟩ : ∃ n, ms.length = n := ⟨_, rfl⟩
  have HN := Lib.hid hn
  rw [hn] at HT ⊢
  clear hn
  go_enter Try.func4, Try.ntmps4
  go_wp2_with fail
  obtain ⟨W1, hW2⟩ : ∃ Wzz, ((w.alloc (.cells #[.slice A l c] 35)).alloc (.cells #[.int .i64 a, .int .i64 b, .int .i64 p] 37)) = Wzz := ⟨_, rfl⟩
  have B3 := Lib.hid (show Below w.heap.size w W1 by rw [← hW2]; exact (((Below.refl w.heap.size w).alloc (Nat.le_refl _) _).alloc (by first | (simp; done) | (simp; omega)) _))
  have X4 := Lib.hid (show Box W1 (w.heap.size) 35 #[.slice A l c] by rw [← hW2]; exact Box.alloc (Box.made w 35 #[.slice A l c]) (.cells #[.int .i64 a, .int .i64 b, .int .i64 p] 37))
  have X5 := Lib.hid (show Box W1 (w.heap.size + 1) 37 #[.int .i64 a, .int .i64 b, .int .i64 p] by
    have hz := Box.made (w.alloc (.cells #[.slice A l c] 35)) 37 #[.int .i64 a, .int .i64 b, .int .i64 p]
    rw [World.size_alloc] at hz
    rw [← hW2]; exact hz)
  have C6 := Lib.hid (HT.out.later B3.out)
  have SZ7 := Lib.hid (show W1.heap.size = w.heap.size + 1 + 1 by rw [← hW2]; simp)
  rw [hW2]
  clear hW2
  have q8 : W1.cell? ⟨w.heap.size, 0, none⟩ = some (.slice A l c) := X4.out.cell 0
  have q9 : W1.cell? ⟨w.heap.size + 1, 0, none⟩ = some (.int .i64 a) := X5.out.cell 0
  have q10 : W1.cell? ⟨w.heap.size + 1, 1, none⟩ = some (.int .i64 b) := X5.out.cell 1
  have q11 : W1.cell? ⟨w.heap.size + 1, 2, none⟩ = some (.int .i64 p) := X5.out.cell 2
  go_wp2_with fail
  refine (awake_c _).mono ?_; rintro e v12 ⟨rfl, hb13⟩
  have X14 := Lib.hid (X4.out.later hb13)
  have X15 := Lib.hid (X5.out.later hb13)
  have C16 := Lib.hid (C6.out.later hb13)
  have B17 := Lib.hid (B3.out.trans (hb13.mono B3.out.size))
  clear hb13
  clear q8 q9 q10 q11
  have q18 : v12.cell? ⟨w.heap.size, 0, none⟩ = some (.slice A l c) := X14.out.cell 0
  have q19 : v12.cell? ⟨w.heap.size + 1, 0, none⟩ = some (.int .i64 a) := X15.out.cell 0
  have q20 : v12.cell? ⟨w.heap.size + 1, 1, none⟩ = some (.int .i64 b) := X15.out.cell 1
  have q21 : v12.cell? ⟨w.heap.size + 1, 2, none⟩ = some (.int .i64 p) := X15.out.cell 2
  go_wp2_with fail
  refine (short_c ms _ _ C16.out).mono ?_; rintro e v22 ⟨rfl, hb23⟩
  have X24 := Lib.hid (X14.out.later hb23)
  have X25 := Lib.hid (X15.out.later hb23)
  have C26 := Lib.hid (C16.out.later hb23)
  have B27 := Lib.hid (B17.out.trans (hb23.mono B17.out.size))
  clear hb23
  rw [HN.out]
  clear q18 q19 q20 q21
  have q28 : v22.cell? ⟨w.heap.size, 0, none⟩ = some (.slice A l c) := X24.out.cell 0
  have q29 : v22.cell? ⟨w.heap.size + 1, 0, none⟩ = some (.int .i64 a) := X25.out.cell 0
  have q30 : v22.cell? ⟨w.heap.size + 1, 1, none⟩ = some (.int .i64 b) := X25.out.cell 1
  have q31 : v22.cell? ⟨w.heap.size + 1, 2, none⟩ = some (.int .i64 p) := X25.out.cell 2
  rcases Nat.lt_or_ge 100 l with hl | hl
  · have e1 : decide (l ≤ 100) = false := by simp; omega
    clear hl
    go_wp2_with fail
    go_ret
    exact ⟨rfl, B27.out⟩
  · have e1 : decide (l ≤ 100) = true := by simp; omega
    have HL := Lib.hid (show ms.length ≤ 100 by rw [HN.out]; exact hl)
    clear hl
    obtain ⟨⟨xn, xd, xe⟩, hx9⟩ : ∃ X9, rtR ms = X9 := ⟨_, rfl⟩
    have HX := Lib.hid hx9
    clear hx9
    go_wp2_with fail
    refine (RatioOf_c ms _ _ C26.out).mono ?_; rintro e v32 ⟨rfl, hb33⟩
    have X34 := Lib.hid (X24.out.later hb33)
    have X35 := Lib.hid (X25.out.later hb33)
    have C36 := Lib.hid (C26.out.later hb33)
    have B37 := Lib.hid (B27.out.trans (hb33.mono B27.out.size))
    clear hb33
    rw [HX.out]
    clear q28 q29 q30 q31
    have q38 : v32.cell? ⟨w.heap.size, 0, none⟩ = some (.slice A l c) := X34.out.cell 0
    have q39 : v32.cell? ⟨w.heap.size + 1, 0, none⟩ = some (.int .i64 a) := X35.out.cell 0
    have q40 : v32.cell? ⟨w.heap.size + 1, 1, none⟩ = some (.int .i64 b) := X35.out.cell 1
    have q41 : v32.cell? ⟨w.heap.size + 1, 2, none⟩ = some (.int .i64 p) := X35.out.cell 2
    have X42 := Lib.hid (X34.out.alloc (.cells #[.int .i64 xn, .int .i64 xd] 23))
    have X43 := Lib.hid (X35.out.alloc (.cells #[.int .i64 xn, .int .i64 xd] 23))
    have C44 := Lib.hid (C36.out.later ((Below.refl v32.heap.size v32).alloc (Nat.le_refl _) (.cells #[.int .i64 xn, .int .i64 xd] 23)))
    have B45 := Lib.hid (B37.out.alloc B37.out.size (.cells #[.int .i64 xn, .int .i64 xd] 23))
    have X46 := Lib.hid (Box.made v32 23 #[.int .i64 xn, .int .i64 xd])
    have q47 : (v32.alloc (.cells #[.int .i64 xn, .int .i64 xd] 23)).cell? ⟨w.heap.size, 0, none⟩ = some (.slice A l c) := X42.out.cell 0
    have q48 : (v32.alloc (.cells #[.int .i64 xn, .int .i64 xd] 23)).cell? ⟨w.heap.size + 1, 0, none⟩ = some (.int .i64 a) := X43.out.cell 0
    have q49 : (v32.alloc (.cells #[.int .i64 xn, .int .i64 xd] 23)).cell? ⟨w.heap.size + 1, 1, none⟩ = some (.int .i64 b) := X43.out.cell 1
    have q50 : (v32.alloc (.cells #[.int .i64 xn, .int .i64 xd] 23)).cell? ⟨w.heap.size + 1, 2, none⟩ = some (.int .i64 p) := X43.out.cell 2
    have q51 : (v32.alloc (.cells #[.int .i64 xn, .int .i64 xd] 23)).cell? ⟨v32.heap.size, 0, none⟩ = some (.int .i64 xn) := X46.out.cell 0
    have q52 : (v32.alloc (.cells #[.int .i64 xn, .int .i64 xd] 23)).cell? ⟨v32.heap.size, 1, none⟩ = some (.int .i64 xd) := X46.out.cell 1
    go_wp2_with fail
    refine (rRatioOf_c ms _ _ C44.out HL.out).mono ?_; rintro e v53 ⟨rfl, hb54⟩
    have X55 := Lib.hid (X42.out.later hb54)
    have X56 := Lib.hid (X43.out.later hb54)
    have X57 := Lib.hid (X46.out.later hb54)
    have C58 := Lib.hid (C44.out.later hb54)
    have B59 := Lib.hid (B45.out.trans (hb54.mono B45.out.size))
    clear hb54
    rw [HX.out]
    clear q47 q48 q49 q50 q51 q52 q38 q39 q40 q41
    have q60 : v53.cell? ⟨w.heap.size, 0, none⟩ = some (.slice A l c) := X55.out.cell 0
    have q61 : v53.cell? ⟨w.heap.size + 1, 0, none⟩ = some (.int .i64 a) := X56.out.cell 0
    have q62 : v53.cell? ⟨w.heap.size + 1, 1, none⟩ = some (.int .i64 b) := X56.out.cell 1
    have q63 : v53.cell? ⟨w.heap.size + 1, 2, none⟩ = some (.int .i64 p) := X56.out.cell 2
    have q64 : v53.cell? ⟨v32.heap.size, 0, none⟩ = some (.int .i64 xn) := X57.out.cell 0
    have q65 : v53.cell? ⟨v32.heap.size, 1, none⟩ = some (.int .i64 xd) := X57.out.cell 1
    have LT66 := Lib.hid X57.out.lt
    have X67 := Lib.hid (X55.out.alloc (.cells #[.int .i64 xn, .int .i64 xd] 23))
    have X68 := Lib.hid (X56.out.alloc (.cells #[.int .i64 xn, .int .i64 xd] 23))
    have X69 := Lib.hid (X57.out.alloc (.cells #[.int .i64 xn, .int .i64 xd] 23))
    have C70 := Lib.hid (C58.out.later ((Below.refl v53.heap.size v53).alloc (Nat.le_refl _) (.cells #[.int .i64 xn, .int .i64 xd] 23)))
    have B71 := Lib.hid (B59.out.alloc B59.out.size (.cells #[.int .i64 xn, .int .i64 xd] 23))
    have X72 := Lib.hid (Box.made v53 23 #[.int .i64 xn, .int .i64 xd])
    have q73 : (v53.alloc (.cells #[.int .i64 xn, .int .i64 xd] 23)).cell? ⟨w.heap.size, 0, none⟩ = some (.slice A l c) := X67.out.cell 0
    have q74 : (v53.alloc (.cells #[.int .i64 xn, .int .i64 xd] 23)).cell? ⟨w.heap.size + 1, 0, none⟩ = some (.int .i64 a) := X68.out.cell 0
    have q75 : (v53.alloc (.cells #[.int .i64 xn, .int .i64 xd] 23)).cell? ⟨w.heap.size + 1, 1, none⟩ = some (.int .i64 b) := X68.out.cell 1
    have q76 : (v53.alloc (.cells #[.int .i64 xn, .int .i64 xd] 23)).cell? ⟨w.heap.size + 1, 2, none⟩ = some (.int .i64 p) := X68.out.cell 2
    have q77 : (v53.alloc (.cells #[.int .i64 xn, .int .i64 xd] 23)).cell? ⟨v32.heap.size, 0, none⟩ = some (.int .i64 xn) := X69.out.cell 0
    have q78 : (v53.alloc (.cells #[.int .i64 xn, .int .i64 xd] 23)).cell? ⟨v32.heap.size, 1, none⟩ = some (.int .i64 xd) := X69.out.cell 1
    have q79 : (v53.alloc (.cells #[.int .i64 xn, .int .i64 xd] 23)).cell? ⟨v53.heap.size, 0, none⟩ = some (.int .i64 xn) := X72.out.cell 0
    have q80 : (v53.alloc (.cells #[.int .i64 xn, .int .i64 xd] 23)).cell? ⟨v53.heap.size, 1, none⟩ = some (.int .i64 xd) := X72.out.cell 1
    obtain ⟨hu, hu9⟩ : ∃ X9, huB a b p = X9 := ⟨_, rfl⟩
    have HU := Lib.hid hu9
    clear hu9
    obtain ⟨he, he9⟩ : ∃ X9, huE a b p = X9 := ⟨_, rfl⟩
    have HE := Lib.hid he9
    clear he9
    obtain ⟨gr, hg9⟩ : ∃ X9, grV a b p = X9 := ⟨_, rfl⟩
    have HG := Lib.hid hg9
    clear hg9
    obtain ⟨ml, hm9⟩ : ∃ X9, meV a b p t q = X9 := ⟨_, rfl⟩
    have HM := Lib.hid hm9
    clear hm9
    obtain ⟨mk, hk9⟩ : ∃ X9, meE a b p t q = X9 := ⟨_, rfl⟩
    have HK := Lib.hid hk9
    clear hk9
    go_wp2_with fail
    refine (Hunting_c a b p _).mono ?_; rintro e v81 ⟨rfl, hb82⟩
    have X83 := Lib.hid (X67.out.later hb82)
    have X84 := Lib.hid (X68.out.later hb82)
    have X85 := Lib.hid (X69.out.later hb82)
    have X86 := Lib.hid (X72.out.later hb82)
    have C87 := Lib.hid (C70.out.later hb82)
    have B88 := Lib.hid (B71.out.trans (hb82.mono B71.out.size))
    clear hb82
    rw [HU.out, HE.out]
    clear q73 q74 q75 q76 q77 q78 q79 q80 q60 q61 q62 q63 q64 q65
    have q89 : v81.cell? ⟨w.heap.size, 0, none⟩ = some (.slice A l c) := X83.out.cell 0
    have q90 : v81.cell? ⟨w.heap.size + 1, 0, none⟩ = some (.int .i64 a) := X84.out.cell 0
    have q91 : v81.cell? ⟨w.heap.size + 1, 1, none⟩ = some (.int .i64 b) := X84.out.cell 1
    have q92 : v81.cell? ⟨w.heap.size + 1, 2, none⟩ = some (.int .i64 p) := X84.out.cell 2
    have q93 : v81.cell? ⟨v32.heap.size, 0, none⟩ = some (.int .i64 xn) := X85.out.cell 0
    have q94 : v81.cell? ⟨v32.heap.size, 1, none⟩ = some (.int .i64 xd) := X85.out.cell 1
    have q95 : v81.cell? ⟨v53.heap.size, 0, none⟩ = some (.int .i64 xn) := X86.out.cell 0
    have q96 : v81.cell? ⟨v53.heap.size, 1, none⟩ = some (.int .i64 xd) := X86.out.cell 1
    go_wp2_with fail
    refine (rHunting_c a b p _).mono ?_; rintro e v97 ⟨rfl, hb98⟩
    have X99 := Lib.hid (X83.out.later hb98)
    have X100 := Lib.hid (X84.out.later hb98)
    have X101 := Lib.hid (X85.out.later hb98)
    have X102 := Lib.hid (X86.out.later hb98)
    have C103 := Lib.hid (C87.out.later hb98)
    have B104 := Lib.hid (B88.out.trans (hb98.mono B88.out.size))
    clear hb98
    rw [HU.out, HE.out]
    clear q89 q90 q91 q92 q93 q94 q95 q96
    have q105 : v97.cell? ⟨w.heap.size, 0, none⟩ = some (.slice A l c) := X99.out.cell 0
    have q106 : v97.cell? ⟨w.heap.size + 1, 0, none⟩ = some (.int .i64 a) := X100.out.cell 0
    have q107 : v97.cell? ⟨w.heap.size + 1, 1, none⟩ = some (.int .i64 b) := X100.out.cell 1
    have q108 : v97.cell? ⟨w.heap.size + 1, 2, none⟩ = some (.int .i64 p) := X100.out.cell 2
    have q109 : v97.cell? ⟨v32.heap.size, 0, none⟩ = some (.int .i64 xn) := X101.out.cell 0
    have q110 : v97.cell? ⟨v32.heap.size, 1, none⟩ = some (.int .i64 xd) := X101.out.cell 1
    have q111 : v97.cell? ⟨v53.heap.size, 0, none⟩ = some (.int .i64 xn) := X102.out.cell 0
    have q112 : v97.cell? ⟨v53.heap.size, 1, none⟩ = some (.int .i64 xd) := X102.out.cell 1
    go_wp2_with fail
    refine (Grips_c a b p _).mono ?_; rintro e v113 ⟨rfl, hb114⟩
    have X115 := Lib.hid (X99.out.later hb114)
    have X116 := Lib.hid (X100.out.later hb114)
    have X117 := Lib.hid (X101.out.later hb114)
    have X118 := Lib.hid (X102.out.later hb114)
    have C119 := Lib.hid (C103.out.later hb114)
    have B120 := Lib.hid (B104.out.trans (hb114.mono B104.out.size))
    clear hb114
    rw [HG.out, HE.out]
    clear q105 q106 q107 q108 q109 q110 q111 q112
    have q121 : v113.cell? ⟨w.heap.size, 0, none⟩ = some (.slice A l c) := X115.out.cell 0
    have q122 : v113.cell? ⟨w.heap.size + 1, 0, none⟩ = some (.int .i64 a) := X116.out.cell 0
    have q123 : v113.cell? ⟨w.heap.size + 1, 1, none⟩ = some (.int .i64 b) := X116.out.cell 1
    have q124 : v113.cell? ⟨w.heap.size + 1, 2, none⟩ = some (.int .i64 p) := X116.out.cell 2
    have q125 : v113.cell? ⟨v32.heap.size, 0, none⟩ = some (.int .i64 xn) := X117.out.cell 0
    have q126 : v113.cell? ⟨v32.heap.size, 1, none⟩ = some (.int .i64 xd) := X117.out.cell 1
    have q127 : v113.cell? ⟨v53.heap.size, 0, none⟩ = some (.int .i64 xn) := X118.out.cell 0
    have q128 : v113.cell? ⟨v53.heap.size, 1, none⟩ = some (.int .i64 xd) := X118.out.cell 1
    go_wp2_with fail
    refine (rGrips_c a b p _).mono ?_; rintro e v129 ⟨rfl, hb130⟩
    have X131 := Lib.hid (X115.out.later hb130)
    have X132 := Lib.hid (X116.out.later hb130)
    have X133 := Lib.hid (X117.out.later hb130)
    have X134 := Lib.hid (X118.out.later hb130)
    have C135 := Lib.hid (C119.out.later hb130)
    have B136 := Lib.hid (B120.out.trans (hb130.mono B120.out.size))
    clear hb130
    rw [HG.out, HE.out]
    clear q121 q122 q123 q124 q125 q126 q127 q128
    have q137 : v129.cell? ⟨w.heap.size, 0, none⟩ = some (.slice A l c) := X131.out.cell 0
    have q138 : v129.cell? ⟨w.heap.size + 1, 0, none⟩ = some (.int .i64 a) := X132.out.cell 0
    have q139 : v129.cell? ⟨w.heap.size + 1, 1, none⟩ = some (.int .i64 b) := X132.out.cell 1
    have q140 : v129.cell? ⟨w.heap.size + 1, 2, none⟩ = some (.int .i64 p) := X132.out.cell 2
    have q141 : v129.cell? ⟨v32.heap.size, 0, none⟩ = some (.int .i64 xn) := X133.out.cell 0
    have q142 : v129.cell? ⟨v32.heap.size, 1, none⟩ = some (.int .i64 xd) := X133.out.cell 1
    have q143 : v129.cell? ⟨v53.heap.size, 0, none⟩ = some (.int .i64 xn) := X134.out.cell 0
    have q144 : v129.cell? ⟨v53.heap.size, 1, none⟩ = some (.int .i64 xd) := X134.out.cell 1
    go_wp2_with fail
    refine (Meets_c a b p t q _).mono ?_; rintro e v145 ⟨rfl, hb146⟩
    have X147 := Lib.hid (X131.out.later hb146)
    have X148 := Lib.hid (X132.out.later hb146)
    have X149 := Lib.hid (X133.out.later hb146)
    have X150 := Lib.hid (X134.out.later hb146)
    have C151 := Lib.hid (C135.out.later hb146)
    have B152 := Lib.hid (B136.out.trans (hb146.mono B136.out.size))
    clear hb146
    rw [HM.out, HK.out]
    clear q137 q138 q139 q140 q141 q142 q143 q144
    have q153 : v145.cell? ⟨w.heap.size, 0, none⟩ = some (.slice A l c) := X147.out.cell 0
    have q154 : v145.cell? ⟨w.heap.size + 1, 0, none⟩ = some (.int .i64 a) := X148.out.cell 0
    have q155 : v145.cell? ⟨w.heap.size + 1, 1, none⟩ = some (.int .i64 b) := X148.out.cell 1
    have q156 : v145.cell? ⟨w.heap.size + 1, 2, none⟩ = some (.int .i64 p) := X148.out.cell 2
    have q157 : v145.cell? ⟨v32.heap.size, 0, none⟩ = some (.int .i64 xn) := X149.out.cell 0
    have q158 : v145.cell? ⟨v32.heap.size, 1, none⟩ = some (.int .i64 xd) := X149.out.cell 1
    have q159 : v145.cell? ⟨v53.heap.size, 0, none⟩ = some (.int .i64 xn) := X150.out.cell 0
    have q160 : v145.cell? ⟨v53.heap.size, 1, none⟩ = some (.int .i64 xd) := X150.out.cell 1
    go_wp2_with fail
    refine (rMeets_c a b p t q _).mono ?_; rintro e v161 ⟨rfl, hb162⟩
    have X163 := Lib.hid (X147.out.later hb162)
    have X164 := Lib.hid (X148.out.later hb162)
    have X165 := Lib.hid (X149.out.later hb162)
    have X166 := Lib.hid (X150.out.later hb162)
    have C167 := Lib.hid (C151.out.later hb162)
    have B168 := Lib.hid (B152.out.trans (hb162.mono B152.out.size))
    clear hb162
    rw [HM.out, HK.out]
    clear q153 q154 q155 q156 q157 q158 q159 q160
    have q169 : v161.cell? ⟨w.heap.size, 0, none⟩ = some (.slice A l c) := X163.out.cell 0
    have q170 : v161.cell? ⟨w.heap.size + 1, 0, none⟩ = some (.int .i64 a) := X164.out.cell 0
    have q171 : v161.cell? ⟨w.heap.size + 1, 1, none⟩ = some (.int .i64 b) := X164.out.cell 1
    have q172 : v161.cell? ⟨w.heap.size + 1, 2, none⟩ = some (.int .i64 p) := X164.out.cell 2
    have q173 : v161.cell? ⟨v32.heap.size, 0, none⟩ = some (.int .i64 xn) := X165.out.cell 0
    have q174 : v161.cell? ⟨v32.heap.size, 1, none⟩ = some (.int .i64 xd) := X165.out.cell 1
    have q175 : v161.cell? ⟨v53.heap.size, 0, none⟩ = some (.int .i64 xn) := X166.out.cell 0
    have q176 : v161.cell? ⟨v53.heap.size, 1, none⟩ = some (.int .i64 xd) := X166.out.cell 1
    go_wp2_with fail
    refine trains12_c ms A l c xn xd xe he gr ml mk hu _ _ _ _ _ _ _ _ _ _ _ _ _ _ _ _ _ _ _ _ _ _ _ _ _ _ _ _ _ _ _ _ _ _ _ _ _ _ _ _ _ _ _ _ _ _ _ _ _ _ _ _ _ _ _ _ _ _ _ _ _ _ _ _ _ _ _ _ _ _ _ _ _ _ _ _ _ _ _ _ _ _ _ _ _ _ _ _ _ _ _ _ _ _ _ _ _ _ _ _ _ _ _ _ _ _ _ _ _ _ C167.out HL.out X163.out X165.out X166.out ?_
    intro _ _ _ _ _ _ _ _ _ _ _ _ _ _ _ _ _ _ _ _ _ _ _ _ _ _ _ _ _ _ _ _ _ _ _ _ _ _ _ _ _ _ _ _ _ _ _ _ w14 hb14
    have HB14 := Lib.hid (B168.out.trans (hb14.mono B168.out.size))
    clear hb14
    go_wp2_with fail
    go_ret
    exact ⟨rfl, HB14.out⟩

end Go.Proofs.Ytmmfmanjajefcaa

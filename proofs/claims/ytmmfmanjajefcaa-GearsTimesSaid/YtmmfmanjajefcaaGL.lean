/- Layer 7: the law on times. -/
import Derived.Test.YtmmfmanjajefcaaGC
set_option linter.all false
namespace Go.Proofs.Ytmmfmanjajefcaa
open Go.RowKit

set_option maxRecDepth 100000 in
set_option maxHeartbeats 8000000 in
theorem GearsTimes_c (ms : List Mh) (fh fd fk bm tu mi : Int) (v : Value) (w : World) (h : IsTr w w.heap.size v ms) : Calls Try.prog 7 #[v, .agg #[.int .i64 fh, .int .i64 fd, .int .i64 fk], .agg #[.int .i64 bm], .int .i64 tu, .int .i64 mi] w fun e w' => e = .returned (.bool true) ∧ Below w.heap.size w w' := by
  have HT := Lib.hid h
  obtain ⟨sv, rfl, A, c, rfl, -, -⟩ := h
  obtain ⟨l, hn⟩ : ∃ n, ms.length = n := ⟨_, rfl⟩
  have HN := Lib.hid hn
  rw [hn] at HT ⊢
  clear hn
  go_enter Try.func7, Try.ntmps7
  go_wp2_with fail
  obtain ⟨W57, hW58⟩ : ∃ Wzz, (((w.alloc (.cells #[.slice A l c] 35)).alloc (.cells #[.int .i64 fh, .int .i64 fd, .int .i64 fk] 57)).alloc (.cells #[.int .i64 bm] 59)) = Wzz := ⟨_, rfl⟩
  have B59 := Lib.hid (show Below w.heap.size w W57 by rw [← hW58]; exact ((((Below.refl w.heap.size w).alloc (Nat.le_refl _) _).alloc (by first | (simp; done) | (simp; omega)) _).alloc (by first | (simp; done) | (simp; omega)) _))
  have X60 := Lib.hid (show Box W57 (w.heap.size) 35 #[.slice A l c] by rw [← hW58]; exact Box.alloc (Box.alloc (Box.made w 35 #[.slice A l c]) (.cells #[.int .i64 fh, .int .i64 fd, .int .i64 fk] 57)) (.cells #[.int .i64 bm] 59))
  have X61 := Lib.hid (show Box W57 (w.heap.size + 1) 57 #[.int .i64 fh, .int .i64 fd, .int .i64 fk] by
    have hz := Box.alloc (Box.made (w.alloc (.cells #[.slice A l c] 35)) 57 #[.int .i64 fh, .int .i64 fd, .int .i64 fk]) (.cells #[.int .i64 bm] 59)
    rw [World.size_alloc] at hz
    rw [← hW58]; exact hz)
  have X62 := Lib.hid (show Box W57 (w.heap.size + 1 + 1) 59 #[.int .i64 bm] by
    have hz := Box.made ((w.alloc (.cells #[.slice A l c] 35)).alloc (.cells #[.int .i64 fh, .int .i64 fd, .int .i64 fk] 57)) 59 #[.int .i64 bm]
    rw [World.size_alloc, World.size_alloc] at hz
    rw [← hW58]; exact hz)
  have C63 := Lib.hid (HT.out.later B59.out)
  have SZ64 := Lib.hid (show W57.heap.size = w.heap.size + 1 + 1 + 1 by rw [← hW58]; simp)
  rw [hW58]
  clear hW58
  have q65 : W57.cell? ⟨w.heap.size, 0, none⟩ = some (.slice A l c) := X60.out.cell 0
  have q66 : W57.cell? ⟨w.heap.size + 1, 0, none⟩ = some (.int .i64 fh) := X61.out.cell 0
  have q67 : W57.cell? ⟨w.heap.size + 1, 1, none⟩ = some (.int .i64 fd) := X61.out.cell 1
  have q68 : W57.cell? ⟨w.heap.size + 1, 2, none⟩ = some (.int .i64 fk) := X61.out.cell 2
  have q69 : W57.cell? ⟨w.heap.size + 1 + 1, 0, none⟩ = some (.int .i64 bm) := X62.out.cell 0
  go_wp2_with fail
  refine (awake_c _).mono ?_; rintro e v70 ⟨rfl, hb71⟩
  have X72 := Lib.hid (X60.out.later hb71)
  have X73 := Lib.hid (X61.out.later hb71)
  have X74 := Lib.hid (X62.out.later hb71)
  have C75 := Lib.hid (C63.out.later hb71)
  have B76 := Lib.hid (B59.out.trans (hb71.mono B59.out.size))
  clear hb71
  clear q65 q66 q67 q68 q69
  have q77 : v70.cell? ⟨w.heap.size, 0, none⟩ = some (.slice A l c) := X72.out.cell 0
  have q78 : v70.cell? ⟨w.heap.size + 1, 0, none⟩ = some (.int .i64 fh) := X73.out.cell 0
  have q79 : v70.cell? ⟨w.heap.size + 1, 1, none⟩ = some (.int .i64 fd) := X73.out.cell 1
  have q80 : v70.cell? ⟨w.heap.size + 1, 2, none⟩ = some (.int .i64 fk) := X73.out.cell 2
  have q81 : v70.cell? ⟨w.heap.size + 1 + 1, 0, none⟩ = some (.int .i64 bm) := X74.out.cell 0
  go_wp2_with fail
  refine (short_c ms _ _ C75.out).mono ?_; rintro e v82 ⟨rfl, hb83⟩
  have X84 := Lib.hid (X72.out.later hb83)
  have X85 := Lib.hid (X73.out.later hb83)
  have X86 := Lib.hid (X74.out.later hb83)
  have C87 := Lib.hid (C75.out.later hb83)
  have B88 := Lib.hid (B76.out.trans (hb83.mono B76.out.size))
  clear hb83
  rw [HN.out]
  clear q77 q78 q79 q80 q81
  have q89 : v82.cell? ⟨w.heap.size, 0, none⟩ = some (.slice A l c) := X84.out.cell 0
  have q90 : v82.cell? ⟨w.heap.size + 1, 0, none⟩ = some (.int .i64 fh) := X85.out.cell 0
  have q91 : v82.cell? ⟨w.heap.size + 1, 1, none⟩ = some (.int .i64 fd) := X85.out.cell 1
  have q92 : v82.cell? ⟨w.heap.size + 1, 2, none⟩ = some (.int .i64 fk) := X85.out.cell 2
  have q93 : v82.cell? ⟨w.heap.size + 1 + 1, 0, none⟩ = some (.int .i64 bm) := X86.out.cell 0
  rcases Nat.lt_or_ge 100 l with hl | hl
  · have e1 : decide (l ≤ 100) = false := by simp; omega
    clear hl
    go_wp2_with fail
    go_ret
    exact ⟨rfl, B88.out⟩
  · have e1 : decide (l ≤ 100) = true := by simp; omega
    have HL := Lib.hid (show ms.length ≤ 100 by rw [HN.out]; exact hl)
    clear hl
    obtain ⟨⟨xn, xd, xe⟩, hx9⟩ : ∃ X9, ruR ms tu mi = X9 := ⟨_, rfl⟩
    have HX := Lib.hid hx9
    clear hx9
    go_wp2_with fail
    refine (Runs_c ms tu mi _ _ C87.out).mono ?_; rintro e v94 ⟨rfl, hb95⟩
    have X96 := Lib.hid (X84.out.later hb95)
    have X97 := Lib.hid (X85.out.later hb95)
    have X98 := Lib.hid (X86.out.later hb95)
    have C99 := Lib.hid (C87.out.later hb95)
    have B100 := Lib.hid (B88.out.trans (hb95.mono B88.out.size))
    clear hb95
    rw [HX.out]
    clear q89 q90 q91 q92 q93
    have q101 : v94.cell? ⟨w.heap.size, 0, none⟩ = some (.slice A l c) := X96.out.cell 0
    have q102 : v94.cell? ⟨w.heap.size + 1, 0, none⟩ = some (.int .i64 fh) := X97.out.cell 0
    have q103 : v94.cell? ⟨w.heap.size + 1, 1, none⟩ = some (.int .i64 fd) := X97.out.cell 1
    have q104 : v94.cell? ⟨w.heap.size + 1, 2, none⟩ = some (.int .i64 fk) := X97.out.cell 2
    have q105 : v94.cell? ⟨w.heap.size + 1 + 1, 0, none⟩ = some (.int .i64 bm) := X98.out.cell 0
    have LT106 := Lib.hid X98.out.lt
    have X107 := Lib.hid (X96.out.alloc (.cells #[.int .i64 xn, .int .i64 xd] 23))
    have X108 := Lib.hid (X97.out.alloc (.cells #[.int .i64 xn, .int .i64 xd] 23))
    have X109 := Lib.hid (X98.out.alloc (.cells #[.int .i64 xn, .int .i64 xd] 23))
    have C110 := Lib.hid (C99.out.later ((Below.refl v94.heap.size v94).alloc (Nat.le_refl _) (.cells #[.int .i64 xn, .int .i64 xd] 23)))
    have B111 := Lib.hid (B100.out.alloc B100.out.size (.cells #[.int .i64 xn, .int .i64 xd] 23))
    have X112 := Lib.hid (Box.made v94 23 #[.int .i64 xn, .int .i64 xd])
    have q113 : (v94.alloc (.cells #[.int .i64 xn, .int .i64 xd] 23)).cell? ⟨w.heap.size, 0, none⟩ = some (.slice A l c) := X107.out.cell 0
    have q114 : (v94.alloc (.cells #[.int .i64 xn, .int .i64 xd] 23)).cell? ⟨w.heap.size + 1, 0, none⟩ = some (.int .i64 fh) := X108.out.cell 0
    have q115 : (v94.alloc (.cells #[.int .i64 xn, .int .i64 xd] 23)).cell? ⟨w.heap.size + 1, 1, none⟩ = some (.int .i64 fd) := X108.out.cell 1
    have q116 : (v94.alloc (.cells #[.int .i64 xn, .int .i64 xd] 23)).cell? ⟨w.heap.size + 1, 2, none⟩ = some (.int .i64 fk) := X108.out.cell 2
    have q117 : (v94.alloc (.cells #[.int .i64 xn, .int .i64 xd] 23)).cell? ⟨w.heap.size + 1 + 1, 0, none⟩ = some (.int .i64 bm) := X109.out.cell 0
    have q118 : (v94.alloc (.cells #[.int .i64 xn, .int .i64 xd] 23)).cell? ⟨v94.heap.size, 0, none⟩ = some (.int .i64 xn) := X112.out.cell 0
    have q119 : (v94.alloc (.cells #[.int .i64 xn, .int .i64 xd] 23)).cell? ⟨v94.heap.size, 1, none⟩ = some (.int .i64 xd) := X112.out.cell 1
    go_wp2_with fail
    refine (rRuns_c ms tu mi _ _ C110.out HL.out).mono ?_; rintro e v120 ⟨rfl, hb121⟩
    have X122 := Lib.hid (X107.out.later hb121)
    have X123 := Lib.hid (X108.out.later hb121)
    have X124 := Lib.hid (X109.out.later hb121)
    have X125 := Lib.hid (X112.out.later hb121)
    have C126 := Lib.hid (C110.out.later hb121)
    have B127 := Lib.hid (B111.out.trans (hb121.mono B111.out.size))
    clear hb121
    rw [HX.out]
    clear q113 q114 q115 q116 q117 q118 q119 q101 q102 q103 q104 q105
    have q128 : v120.cell? ⟨w.heap.size, 0, none⟩ = some (.slice A l c) := X122.out.cell 0
    have q129 : v120.cell? ⟨w.heap.size + 1, 0, none⟩ = some (.int .i64 fh) := X123.out.cell 0
    have q130 : v120.cell? ⟨w.heap.size + 1, 1, none⟩ = some (.int .i64 fd) := X123.out.cell 1
    have q131 : v120.cell? ⟨w.heap.size + 1, 2, none⟩ = some (.int .i64 fk) := X123.out.cell 2
    have q132 : v120.cell? ⟨w.heap.size + 1 + 1, 0, none⟩ = some (.int .i64 bm) := X124.out.cell 0
    have q133 : v120.cell? ⟨v94.heap.size, 0, none⟩ = some (.int .i64 xn) := X125.out.cell 0
    have q134 : v120.cell? ⟨v94.heap.size, 1, none⟩ = some (.int .i64 xd) := X125.out.cell 1
    have LT135 := Lib.hid X124.out.lt
    have X136 := Lib.hid (X122.out.alloc (.cells #[.int .i64 xn, .int .i64 xd] 23))
    have X137 := Lib.hid (X123.out.alloc (.cells #[.int .i64 xn, .int .i64 xd] 23))
    have X138 := Lib.hid (X124.out.alloc (.cells #[.int .i64 xn, .int .i64 xd] 23))
    have X139 := Lib.hid (X125.out.alloc (.cells #[.int .i64 xn, .int .i64 xd] 23))
    have C140 := Lib.hid (C126.out.later ((Below.refl v120.heap.size v120).alloc (Nat.le_refl _) (.cells #[.int .i64 xn, .int .i64 xd] 23)))
    have B141 := Lib.hid (B127.out.alloc B127.out.size (.cells #[.int .i64 xn, .int .i64 xd] 23))
    have X142 := Lib.hid (Box.made v120 23 #[.int .i64 xn, .int .i64 xd])
    have q143 : (v120.alloc (.cells #[.int .i64 xn, .int .i64 xd] 23)).cell? ⟨w.heap.size, 0, none⟩ = some (.slice A l c) := X136.out.cell 0
    have q144 : (v120.alloc (.cells #[.int .i64 xn, .int .i64 xd] 23)).cell? ⟨w.heap.size + 1, 0, none⟩ = some (.int .i64 fh) := X137.out.cell 0
    have q145 : (v120.alloc (.cells #[.int .i64 xn, .int .i64 xd] 23)).cell? ⟨w.heap.size + 1, 1, none⟩ = some (.int .i64 fd) := X137.out.cell 1
    have q146 : (v120.alloc (.cells #[.int .i64 xn, .int .i64 xd] 23)).cell? ⟨w.heap.size + 1, 2, none⟩ = some (.int .i64 fk) := X137.out.cell 2
    have q147 : (v120.alloc (.cells #[.int .i64 xn, .int .i64 xd] 23)).cell? ⟨w.heap.size + 1 + 1, 0, none⟩ = some (.int .i64 bm) := X138.out.cell 0
    have q148 : (v120.alloc (.cells #[.int .i64 xn, .int .i64 xd] 23)).cell? ⟨v94.heap.size, 0, none⟩ = some (.int .i64 xn) := X139.out.cell 0
    have q149 : (v120.alloc (.cells #[.int .i64 xn, .int .i64 xd] 23)).cell? ⟨v94.heap.size, 1, none⟩ = some (.int .i64 xd) := X139.out.cell 1
    have q150 : (v120.alloc (.cells #[.int .i64 xn, .int .i64 xd] 23)).cell? ⟨v120.heap.size, 0, none⟩ = some (.int .i64 xn) := X142.out.cell 0
    have q151 : (v120.alloc (.cells #[.int .i64 xn, .int .i64 xd] 23)).cell? ⟨v120.heap.size, 1, none⟩ = some (.int .i64 xd) := X142.out.cell 1
    obtain ⟨rv, hrv9⟩ : ∃ X9, riV bm fh fd fk = X9 := ⟨_, rfl⟩
    have HRV := Lib.hid hrv9
    clear hrv9
    obtain ⟨re, hre9⟩ : ∃ X9, riE bm fh fd fk = X9 := ⟨_, rfl⟩
    have HRE := Lib.hid hre9
    clear hre9
    go_wp2_with fail
    refine (Rings_c bm fh fd fk _).mono ?_; rintro e v152 ⟨rfl, hb153⟩
    have X154 := Lib.hid (X136.out.later hb153)
    have X155 := Lib.hid (X137.out.later hb153)
    have X156 := Lib.hid (X138.out.later hb153)
    have X157 := Lib.hid (X139.out.later hb153)
    have X158 := Lib.hid (X142.out.later hb153)
    have C159 := Lib.hid (C140.out.later hb153)
    have B160 := Lib.hid (B141.out.trans (hb153.mono B141.out.size))
    clear hb153
    rw [HRV.out, HRE.out]
    clear q143 q144 q145 q146 q147 q148 q149 q150 q151 q128 q129 q130 q131 q132 q133 q134
    have q161 : v152.cell? ⟨w.heap.size, 0, none⟩ = some (.slice A l c) := X154.out.cell 0
    have q162 : v152.cell? ⟨w.heap.size + 1, 0, none⟩ = some (.int .i64 fh) := X155.out.cell 0
    have q163 : v152.cell? ⟨w.heap.size + 1, 1, none⟩ = some (.int .i64 fd) := X155.out.cell 1
    have q164 : v152.cell? ⟨w.heap.size + 1, 2, none⟩ = some (.int .i64 fk) := X155.out.cell 2
    have q165 : v152.cell? ⟨w.heap.size + 1 + 1, 0, none⟩ = some (.int .i64 bm) := X156.out.cell 0
    have q166 : v152.cell? ⟨v94.heap.size, 0, none⟩ = some (.int .i64 xn) := X157.out.cell 0
    have q167 : v152.cell? ⟨v94.heap.size, 1, none⟩ = some (.int .i64 xd) := X157.out.cell 1
    have q168 : v152.cell? ⟨v120.heap.size, 0, none⟩ = some (.int .i64 xn) := X158.out.cell 0
    have q169 : v152.cell? ⟨v120.heap.size, 1, none⟩ = some (.int .i64 xd) := X158.out.cell 1
    go_wp2_with fail
    refine (rRings_c bm fh fd fk _).mono ?_; rintro e v170 ⟨rfl, hb171⟩
    have X172 := Lib.hid (X154.out.later hb171)
    have X173 := Lib.hid (X155.out.later hb171)
    have X174 := Lib.hid (X156.out.later hb171)
    have X175 := Lib.hid (X157.out.later hb171)
    have X176 := Lib.hid (X158.out.later hb171)
    have C177 := Lib.hid (C159.out.later hb171)
    have B178 := Lib.hid (B160.out.trans (hb171.mono B160.out.size))
    clear hb171
    rw [HRV.out, HRE.out]
    clear q161 q162 q163 q164 q165 q166 q167 q168 q169
    have q179 : v170.cell? ⟨w.heap.size, 0, none⟩ = some (.slice A l c) := X172.out.cell 0
    have q180 : v170.cell? ⟨w.heap.size + 1, 0, none⟩ = some (.int .i64 fh) := X173.out.cell 0
    have q181 : v170.cell? ⟨w.heap.size + 1, 1, none⟩ = some (.int .i64 fd) := X173.out.cell 1
    have q182 : v170.cell? ⟨w.heap.size + 1, 2, none⟩ = some (.int .i64 fk) := X173.out.cell 2
    have q183 : v170.cell? ⟨w.heap.size + 1 + 1, 0, none⟩ = some (.int .i64 bm) := X174.out.cell 0
    have q184 : v170.cell? ⟨v94.heap.size, 0, none⟩ = some (.int .i64 xn) := X175.out.cell 0
    have q185 : v170.cell? ⟨v94.heap.size, 1, none⟩ = some (.int .i64 xd) := X175.out.cell 1
    have q186 : v170.cell? ⟨v120.heap.size, 0, none⟩ = some (.int .i64 xn) := X176.out.cell 0
    have q187 : v170.cell? ⟨v120.heap.size, 1, none⟩ = some (.int .i64 xd) := X176.out.cell 1
    obtain ⟨⟨yn, yd, ye⟩, hy9⟩ : ∃ X9, tiR ms fh fd fk tu = X9 := ⟨_, rfl⟩
    have HY := Lib.hid hy9
    clear hy9
    go_wp2_with fail
    refine (Time_c ms fh fd fk tu _ _ C177.out).mono ?_; rintro e v188 ⟨rfl, hb189⟩
    have X190 := Lib.hid (X172.out.later hb189)
    have X191 := Lib.hid (X173.out.later hb189)
    have X192 := Lib.hid (X174.out.later hb189)
    have X193 := Lib.hid (X175.out.later hb189)
    have X194 := Lib.hid (X176.out.later hb189)
    have C195 := Lib.hid (C177.out.later hb189)
    have B196 := Lib.hid (B178.out.trans (hb189.mono B178.out.size))
    clear hb189
    rw [HY.out]
    clear q179 q180 q181 q182 q183 q184 q185 q186 q187
    have q197 : v188.cell? ⟨w.heap.size, 0, none⟩ = some (.slice A l c) := X190.out.cell 0
    have q198 : v188.cell? ⟨w.heap.size + 1, 0, none⟩ = some (.int .i64 fh) := X191.out.cell 0
    have q199 : v188.cell? ⟨w.heap.size + 1, 1, none⟩ = some (.int .i64 fd) := X191.out.cell 1
    have q200 : v188.cell? ⟨w.heap.size + 1, 2, none⟩ = some (.int .i64 fk) := X191.out.cell 2
    have q201 : v188.cell? ⟨w.heap.size + 1 + 1, 0, none⟩ = some (.int .i64 bm) := X192.out.cell 0
    have q202 : v188.cell? ⟨v94.heap.size, 0, none⟩ = some (.int .i64 xn) := X193.out.cell 0
    have q203 : v188.cell? ⟨v94.heap.size, 1, none⟩ = some (.int .i64 xd) := X193.out.cell 1
    have q204 : v188.cell? ⟨v120.heap.size, 0, none⟩ = some (.int .i64 xn) := X194.out.cell 0
    have q205 : v188.cell? ⟨v120.heap.size, 1, none⟩ = some (.int .i64 xd) := X194.out.cell 1
    have LT206 := Lib.hid X192.out.lt
    have X207 := Lib.hid (X190.out.alloc (.cells #[.int .i64 yn, .int .i64 yd] 23))
    have X208 := Lib.hid (X191.out.alloc (.cells #[.int .i64 yn, .int .i64 yd] 23))
    have X209 := Lib.hid (X192.out.alloc (.cells #[.int .i64 yn, .int .i64 yd] 23))
    have X210 := Lib.hid (X193.out.alloc (.cells #[.int .i64 yn, .int .i64 yd] 23))
    have X211 := Lib.hid (X194.out.alloc (.cells #[.int .i64 yn, .int .i64 yd] 23))
    have C212 := Lib.hid (C195.out.later ((Below.refl v188.heap.size v188).alloc (Nat.le_refl _) (.cells #[.int .i64 yn, .int .i64 yd] 23)))
    have B213 := Lib.hid (B196.out.alloc B196.out.size (.cells #[.int .i64 yn, .int .i64 yd] 23))
    have X214 := Lib.hid (Box.made v188 23 #[.int .i64 yn, .int .i64 yd])
    have q215 : (v188.alloc (.cells #[.int .i64 yn, .int .i64 yd] 23)).cell? ⟨w.heap.size, 0, none⟩ = some (.slice A l c) := X207.out.cell 0
    have q216 : (v188.alloc (.cells #[.int .i64 yn, .int .i64 yd] 23)).cell? ⟨w.heap.size + 1, 0, none⟩ = some (.int .i64 fh) := X208.out.cell 0
    have q217 : (v188.alloc (.cells #[.int .i64 yn, .int .i64 yd] 23)).cell? ⟨w.heap.size + 1, 1, none⟩ = some (.int .i64 fd) := X208.out.cell 1
    have q218 : (v188.alloc (.cells #[.int .i64 yn, .int .i64 yd] 23)).cell? ⟨w.heap.size + 1, 2, none⟩ = some (.int .i64 fk) := X208.out.cell 2
    have q219 : (v188.alloc (.cells #[.int .i64 yn, .int .i64 yd] 23)).cell? ⟨w.heap.size + 1 + 1, 0, none⟩ = some (.int .i64 bm) := X209.out.cell 0
    have q220 : (v188.alloc (.cells #[.int .i64 yn, .int .i64 yd] 23)).cell? ⟨v94.heap.size, 0, none⟩ = some (.int .i64 xn) := X210.out.cell 0
    have q221 : (v188.alloc (.cells #[.int .i64 yn, .int .i64 yd] 23)).cell? ⟨v94.heap.size, 1, none⟩ = some (.int .i64 xd) := X210.out.cell 1
    have q222 : (v188.alloc (.cells #[.int .i64 yn, .int .i64 yd] 23)).cell? ⟨v120.heap.size, 0, none⟩ = some (.int .i64 xn) := X211.out.cell 0
    have q223 : (v188.alloc (.cells #[.int .i64 yn, .int .i64 yd] 23)).cell? ⟨v120.heap.size, 1, none⟩ = some (.int .i64 xd) := X211.out.cell 1
    have q224 : (v188.alloc (.cells #[.int .i64 yn, .int .i64 yd] 23)).cell? ⟨v188.heap.size, 0, none⟩ = some (.int .i64 yn) := X214.out.cell 0
    have q225 : (v188.alloc (.cells #[.int .i64 yn, .int .i64 yd] 23)).cell? ⟨v188.heap.size, 1, none⟩ = some (.int .i64 yd) := X214.out.cell 1
    go_wp2_with fail
    refine (rTime_c ms fh fd fk tu _ _ C212.out HL.out).mono ?_; rintro e v226 ⟨rfl, hb227⟩
    have X228 := Lib.hid (X207.out.later hb227)
    have X229 := Lib.hid (X208.out.later hb227)
    have X230 := Lib.hid (X209.out.later hb227)
    have X231 := Lib.hid (X210.out.later hb227)
    have X232 := Lib.hid (X211.out.later hb227)
    have X233 := Lib.hid (X214.out.later hb227)
    have C234 := Lib.hid (C212.out.later hb227)
    have B235 := Lib.hid (B213.out.trans (hb227.mono B213.out.size))
    clear hb227
    rw [HY.out]
    clear q215 q216 q217 q218 q219 q220 q221 q222 q223 q224 q225 q197 q198 q199 q200 q201 q202 q203 q204 q205
    have q236 : v226.cell? ⟨w.heap.size, 0, none⟩ = some (.slice A l c) := X228.out.cell 0
    have q237 : v226.cell? ⟨w.heap.size + 1, 0, none⟩ = some (.int .i64 fh) := X229.out.cell 0
    have q238 : v226.cell? ⟨w.heap.size + 1, 1, none⟩ = some (.int .i64 fd) := X229.out.cell 1
    have q239 : v226.cell? ⟨w.heap.size + 1, 2, none⟩ = some (.int .i64 fk) := X229.out.cell 2
    have q240 : v226.cell? ⟨w.heap.size + 1 + 1, 0, none⟩ = some (.int .i64 bm) := X230.out.cell 0
    have q241 : v226.cell? ⟨v94.heap.size, 0, none⟩ = some (.int .i64 xn) := X231.out.cell 0
    have q242 : v226.cell? ⟨v94.heap.size, 1, none⟩ = some (.int .i64 xd) := X231.out.cell 1
    have q243 : v226.cell? ⟨v120.heap.size, 0, none⟩ = some (.int .i64 xn) := X232.out.cell 0
    have q244 : v226.cell? ⟨v120.heap.size, 1, none⟩ = some (.int .i64 xd) := X232.out.cell 1
    have q245 : v226.cell? ⟨v188.heap.size, 0, none⟩ = some (.int .i64 yn) := X233.out.cell 0
    have q246 : v226.cell? ⟨v188.heap.size, 1, none⟩ = some (.int .i64 yd) := X233.out.cell 1
    have LT247 := Lib.hid X230.out.lt
    have X248 := Lib.hid (X228.out.alloc (.cells #[.int .i64 yn, .int .i64 yd] 23))
    have X249 := Lib.hid (X229.out.alloc (.cells #[.int .i64 yn, .int .i64 yd] 23))
    have X250 := Lib.hid (X230.out.alloc (.cells #[.int .i64 yn, .int .i64 yd] 23))
    have X251 := Lib.hid (X231.out.alloc (.cells #[.int .i64 yn, .int .i64 yd] 23))
    have X252 := Lib.hid (X232.out.alloc (.cells #[.int .i64 yn, .int .i64 yd] 23))
    have X253 := Lib.hid (X233.out.alloc (.cells #[.int .i64 yn, .int .i64 yd] 23))
    have C254 := Lib.hid (C234.out.later ((Below.refl v226.heap.size v226).alloc (Nat.le_refl _) (.cells #[.int .i64 yn, .int .i64 yd] 23)))
    have B255 := Lib.hid (B235.out.alloc B235.out.size (.cells #[.int .i64 yn, .int .i64 yd] 23))
    have X256 := Lib.hid (Box.made v226 23 #[.int .i64 yn, .int .i64 yd])
    have q257 : (v226.alloc (.cells #[.int .i64 yn, .int .i64 yd] 23)).cell? ⟨w.heap.size, 0, none⟩ = some (.slice A l c) := X248.out.cell 0
    have q258 : (v226.alloc (.cells #[.int .i64 yn, .int .i64 yd] 23)).cell? ⟨w.heap.size + 1, 0, none⟩ = some (.int .i64 fh) := X249.out.cell 0
    have q259 : (v226.alloc (.cells #[.int .i64 yn, .int .i64 yd] 23)).cell? ⟨w.heap.size + 1, 1, none⟩ = some (.int .i64 fd) := X249.out.cell 1
    have q260 : (v226.alloc (.cells #[.int .i64 yn, .int .i64 yd] 23)).cell? ⟨w.heap.size + 1, 2, none⟩ = some (.int .i64 fk) := X249.out.cell 2
    have q261 : (v226.alloc (.cells #[.int .i64 yn, .int .i64 yd] 23)).cell? ⟨w.heap.size + 1 + 1, 0, none⟩ = some (.int .i64 bm) := X250.out.cell 0
    have q262 : (v226.alloc (.cells #[.int .i64 yn, .int .i64 yd] 23)).cell? ⟨v94.heap.size, 0, none⟩ = some (.int .i64 xn) := X251.out.cell 0
    have q263 : (v226.alloc (.cells #[.int .i64 yn, .int .i64 yd] 23)).cell? ⟨v94.heap.size, 1, none⟩ = some (.int .i64 xd) := X251.out.cell 1
    have q264 : (v226.alloc (.cells #[.int .i64 yn, .int .i64 yd] 23)).cell? ⟨v120.heap.size, 0, none⟩ = some (.int .i64 xn) := X252.out.cell 0
    have q265 : (v226.alloc (.cells #[.int .i64 yn, .int .i64 yd] 23)).cell? ⟨v120.heap.size, 1, none⟩ = some (.int .i64 xd) := X252.out.cell 1
    have q266 : (v226.alloc (.cells #[.int .i64 yn, .int .i64 yd] 23)).cell? ⟨v188.heap.size, 0, none⟩ = some (.int .i64 yn) := X253.out.cell 0
    have q267 : (v226.alloc (.cells #[.int .i64 yn, .int .i64 yd] 23)).cell? ⟨v188.heap.size, 1, none⟩ = some (.int .i64 yd) := X253.out.cell 1
    have q268 : (v226.alloc (.cells #[.int .i64 yn, .int .i64 yd] 23)).cell? ⟨v226.heap.size, 0, none⟩ = some (.int .i64 yn) := X256.out.cell 0
    have q269 : (v226.alloc (.cells #[.int .i64 yn, .int .i64 yd] 23)).cell? ⟨v226.heap.size, 1, none⟩ = some (.int .i64 yd) := X256.out.cell 1
    go_wp2_with fail
    go_ret
    exact ⟨ret_bool (by simp), B255.out⟩

end Go.Proofs.Ytmmfmanjajefcaa

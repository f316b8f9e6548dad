/- Layer 7: the law on the play of the runner and where it may stand. -/
import Derived.Test.YtmmfmanjajefcaaHT5
set_option linter.all false
namespace Go.Proofs.Ytmmfmanjajefcaa
open Go.RowKit

set_option maxRecDepth 100000 in
set_option maxHeartbeats 8000000 in
theorem GearsPlays_c (ms : List Mh) (s t : Int) (v : Value) (w : World) (h : IsTr w w.heap.size v ms) : Calls Try.prog 6 #[v, .int .i64 s, .int .i64 t] w fun e w' => e = .returned (.bool true) ∧ Below w.heap.size w w' := by
  have HT := Lib.hid h
  obtain ⟨sv, rfl, A, c, rfl, -, -⟩ := h
  obtain ⟨l, hn⟩ : ∃ n, ms.length = n := ⟨_, rfl⟩
  have HN := Lib.hid hn
  rw [hn] at HT ⊢
  clear hn
  go_enter Try.func6, Try.ntmps6
  go_wp2_with fail
  obtain ⟨W1, hW2⟩ : ∃ Wzz, (w.alloc (.cells #[.slice A l c] 35)) = Wzz := ⟨_, rfl⟩
  have B3 := Lib.hid (show Below w.heap.size w W1 by rw [← hW2]; exact ((Below.refl w.heap.size w).alloc (Nat.le_refl _) _))
  have X4 := Lib.hid (show Box W1 (w.heap.size) 35 #[.slice A l c] by rw [← hW2]; exact Box.made w 35 #[.slice A l c])
  have C5 := Lib.hid (HT.out.later B3.out)
  have SZ6 := Lib.hid (show W1.heap.size = w.heap.size + 1 by rw [← hW2]; simp)
  rw [hW2]
  clear hW2
  have q7 : W1.cell? ⟨w.heap.size, 0, none⟩ = some (.slice A l c) := X4.out.cell 0
  go_wp2_with fail
  refine (awake_c _).mono ?_; rintro e v8 ⟨rfl, hb9⟩
  have X10 := Lib.hid (X4.out.later hb9)
  have C11 := Lib.hid (C5.out.later hb9)
  have B12 := Lib.hid (B3.out.trans (hb9.mono B3.out.size))
  clear hb9
  clear q7
  have q13 : v8.cell? ⟨w.heap.size, 0, none⟩ = some (.slice A l c) := X10.out.cell 0
  go_wp2_with fail
  refine (short_c ms _ _ C11.out).mono ?_; rintro e v14 ⟨rfl, hb15⟩
  have X16 := Lib.hid (X10.out.later hb15)
  have C17 := Lib.hid (C11.out.later hb15)
  have B18 := Lib.hid (B12.out.trans (hb15.mono B12.out.size))
  clear hb15
  rw [HN.out]
  clear q13
  have q19 : v14.cell? ⟨w.heap.size, 0, none⟩ = some (.slice A l c) := X16.out.cell 0
  rcases Nat.lt_or_ge 100 l with hl | hl
  · have e1 : decide (l ≤ 100) = false := by simp; omega
    clear hl
    go_wp2_with fail
    go_ret
    exact ⟨rfl, B18.out⟩
  · have e1 : decide (l ≤ 100) = true := by simp; omega
    have HL := Lib.hid (show ms.length ≤ 100 by rw [HN.out]; exact hl)
    clear hl
    obtain ⟨⟨pn, pd, pe⟩, hp9⟩ : ∃ X9, playR ms = X9 := ⟨_, rfl⟩
    have HP := Lib.hid hp9
    clear hp9
    go_wp2_with fail
    refine (Play_c ms _ _ C17.out).mono ?_; rintro e v20 ⟨rfl, hb21⟩
    have X22 := Lib.hid (X16.out.later hb21)
    have C23 := Lib.hid (C17.out.later hb21)
    have B24 := Lib.hid (B18.out.trans (hb21.mono B18.out.size))
    clear hb21
    rw [HP.out]
    clear q19
    have q25 : v20.cell? ⟨w.heap.size, 0, none⟩ = some (.slice A l c) := X22.out.cell 0
    have X26 := Lib.hid (X22.out.alloc (.cells #[.int .i64 pn, .int .i64 pd] 23))
    have C27 := Lib.hid (C23.out.later ((Below.refl v20.heap.size v20).alloc (Nat.le_refl _) (.cells #[.int .i64 pn, .int .i64 pd] 23)))
    have B28 := Lib.hid (B24.out.alloc B24.out.size (.cells #[.int .i64 pn, .int .i64 pd] 23))
    have X29 := Lib.hid (Box.made v20 23 #[.int .i64 pn, .int .i64 pd])
    have q30 : (v20.alloc (.cells #[.int .i64 pn, .int .i64 pd] 23)).cell? ⟨w.heap.size, 0, none⟩ = some (.slice A l c) := X26.out.cell 0
    have q31 : (v20.alloc (.cells #[.int .i64 pn, .int .i64 pd] 23)).cell? ⟨v20.heap.size, 0, none⟩ = some (.int .i64 pn) := X29.out.cell 0
    have q32 : (v20.alloc (.cells #[.int .i64 pn, .int .i64 pd] 23)).cell? ⟨v20.heap.size, 1, none⟩ = some (.int .i64 pd) := X29.out.cell 1
    go_wp2_with fail
    refine (rPlay_c ms _ _ C27.out HL.out).mono ?_; rintro e v33 ⟨rfl, hb34⟩
    have X35 := Lib.hid (X26.out.later hb34)
    have X36 := Lib.hid (X29.out.later hb34)
    have C37 := Lib.hid (C27.out.later hb34)
    have B38 := Lib.hid (B28.out.trans (hb34.mono B28.out.size))
    clear hb34
    rw [HP.out]
    clear q30 q31 q32 q25
    have q39 : v33.cell? ⟨w.heap.size, 0, none⟩ = some (.slice A l c) := X35.out.cell 0
    have q40 : v33.cell? ⟨v20.heap.size, 0, none⟩ = some (.int .i64 pn) := X36.out.cell 0
    have q41 : v33.cell? ⟨v20.heap.size, 1, none⟩ = some (.int .i64 pd) := X36.out.cell 1
    have X42 := Lib.hid (X35.out.alloc (.cells #[.int .i64 pn, .int .i64 pd] 23))
    have X43 := Lib.hid (X36.out.alloc (.cells #[.int .i64 pn, .int .i64 pd] 23))
    have C44 := Lib.hid (C37.out.later ((Below.refl v33.heap.size v33).alloc (Nat.le_refl _) (.cells #[.int .i64 pn, .int .i64 pd] 23)))
    have B45 := Lib.hid (B38.out.alloc B38.out.size (.cells #[.int .i64 pn, .int .i64 pd] 23))
    have X46 := Lib.hid (Box.made v33 23 #[.int .i64 pn, .int .i64 pd])
    have q47 : (v33.alloc (.cells #[.int .i64 pn, .int .i64 pd] 23)).cell? ⟨w.heap.size, 0, none⟩ = some (.slice A l c) := X42.out.cell 0
    have q48 : (v33.alloc (.cells #[.int .i64 pn, .int .i64 pd] 23)).cell? ⟨v20.heap.size, 0, none⟩ = some (.int .i64 pn) := X43.out.cell 0
    have q49 : (v33.alloc (.cells #[.int .i64 pn, .int .i64 pd] 23)).cell? ⟨v20.heap.size, 1, none⟩ = some (.int .i64 pd) := X43.out.cell 1
    have q50 : (v33.alloc (.cells #[.int .i64 pn, .int .i64 pd] 23)).cell? ⟨v33.heap.size, 0, none⟩ = some (.int .i64 pn) := X46.out.cell 0
    have q51 : (v33.alloc (.cells #[.int .i64 pn, .int .i64 pd] 23)).cell? ⟨v33.heap.size, 1, none⟩ = some (.int .i64 pd) := X46.out.cell 1
    obtain ⟨⟨lo, hi, we⟩, hw9⟩ : ∃ X9, whR ms s t = X9 := ⟨_, rfl⟩
    have HW := Lib.hid hw9
    clear hw9
    go_wp2_with fail
    refine (Where_c ms s t _ _ C44.out).mono ?_; rintro e v52 ⟨rfl, hb53⟩
    have X54 := Lib.hid (X42.out.later hb53)
    have X55 := Lib.hid (X43.out.later hb53)
    have X56 := Lib.hid (X46.out.later hb53)
    have C57 := Lib.hid (C44.out.later hb53)
    have B58 := Lib.hid (B45.out.trans (hb53.mono B45.out.size))
    clear hb53
    rw [HW.out]
    clear q47 q48 q49 q50 q51 q39 q40 q41
    have q59 : v52.cell? ⟨w.heap.size, 0, none⟩ = some (.slice A l c) := X54.out.cell 0
    have q60 : v52.cell? ⟨v20.heap.size, 0, none⟩ = some (.int .i64 pn) := X55.out.cell 0
    have q61 : v52.cell? ⟨v20.heap.size, 1, none⟩ = some (.int .i64 pd) := X55.out.cell 1
    have q62 : v52.cell? ⟨v33.heap.size, 0, none⟩ = some (.int .i64 pn) := X56.out.cell 0
    have q63 : v52.cell? ⟨v33.heap.size, 1, none⟩ = some (.int .i64 pd) := X56.out.cell 1
    have LT64 := Lib.hid X56.out.lt
    have X65 := Lib.hid (X54.out.alloc (.cells #[.int .i64 lo, .int .i64 hi] 52))
    have X66 := Lib.hid (X55.out.alloc (.cells #[.int .i64 lo, .int .i64 hi] 52))
    have X67 := Lib.hid (X56.out.alloc (.cells #[.int .i64 lo, .int .i64 hi] 52))
    have C68 := Lib.hid (C57.out.later ((Below.refl v52.heap.size v52).alloc (Nat.le_refl _) (.cells #[.int .i64 lo, .int .i64 hi] 52)))
    have B69 := Lib.hid (B58.out.alloc B58.out.size (.cells #[.int .i64 lo, .int .i64 hi] 52))
    have X70 := Lib.hid (Box.made v52 52 #[.int .i64 lo, .int .i64 hi])
    have q71 : (v52.alloc (.cells #[.int .i64 lo, .int .i64 hi] 52)).cell? ⟨w.heap.size, 0, none⟩ = some (.slice A l c) := X65.out.cell 0
    have q72 : (v52.alloc (.cells #[.int .i64 lo, .int .i64 hi] 52)).cell? ⟨v20.heap.size, 0, none⟩ = some (.int .i64 pn) := X66.out.cell 0
    have q73 : (v52.alloc (.cells #[.int .i64 lo, .int .i64 hi] 52)).cell? ⟨v20.heap.size, 1, none⟩ = some (.int .i64 pd) := X66.out.cell 1
    have q74 : (v52.alloc (.cells #[.int .i64 lo, .int .i64 hi] 52)).cell? ⟨v33.heap.size, 0, none⟩ = some (.int .i64 pn) := X67.out.cell 0
    have q75 : (v52.alloc (.cells #[.int .i64 lo, .int .i64 hi] 52)).cell? ⟨v33.heap.size, 1, none⟩ = some (.int .i64 pd) := X67.out.cell 1
    have q76 : (v52.alloc (.cells #[.int .i64 lo, .int .i64 hi] 52)).cell? ⟨v52.heap.size, 0, none⟩ = some (.int .i64 lo) := X70.out.cell 0
    have q77 : (v52.alloc (.cells #[.int .i64 lo, .int .i64 hi] 52)).cell? ⟨v52.heap.size, 1, none⟩ = some (.int .i64 hi) := X70.out.cell 1
    go_wp2_with fail
    refine (rWhere_c ms s t _ _ C68.out HL.out).mono ?_; rintro e v78 ⟨rfl, hb79⟩
    have X80 := Lib.hid (X65.out.later hb79)
    have X81 := Lib.hid (X66.out.later hb79)
    have X82 := Lib.hid (X67.out.later hb79)
    have X83 := Lib.hid (X70.out.later hb79)
    have C84 := Lib.hid (C68.out.later hb79)
    have B85 := Lib.hid (B69.out.trans (hb79.mono B69.out.size))
    clear hb79
    rw [HW.out]
    clear q71 q72 q73 q74 q75 q76 q77 q59 q60 q61 q62 q63
    have q86 : v78.cell? ⟨w.heap.size, 0, none⟩ = some (.slice A l c) := X80.out.cell 0
    have q87 : v78.cell? ⟨v20.heap.size, 0, none⟩ = some (.int .i64 pn) := X81.out.cell 0
    have q88 : v78.cell? ⟨v20.heap.size, 1, none⟩ = some (.int .i64 pd) := X81.out.cell 1
    have q89 : v78.cell? ⟨v33.heap.size, 0, none⟩ = some (.int .i64 pn) := X82.out.cell 0
    have q90 : v78.cell? ⟨v33.heap.size, 1, none⟩ = some (.int .i64 pd) := X82.out.cell 1
    have q91 : v78.cell? ⟨v52.heap.size, 0, none⟩ = some (.int .i64 lo) := X83.out.cell 0
    have q92 : v78.cell? ⟨v52.heap.size, 1, none⟩ = some (.int .i64 hi) := X83.out.cell 1
    have LT93 := Lib.hid X82.out.lt
    have X94 := Lib.hid (X80.out.alloc (.cells #[.int .i64 lo, .int .i64 hi] 52))
    have X95 := Lib.hid (X81.out.alloc (.cells #[.int .i64 lo, .int .i64 hi] 52))
    have X96 := Lib.hid (X82.out.alloc (.cells #[.int .i64 lo, .int .i64 hi] 52))
    have X97 := Lib.hid (X83.out.alloc (.cells #[.int .i64 lo, .int .i64 hi] 52))
    have C98 := Lib.hid (C84.out.later ((Below.refl v78.heap.size v78).alloc (Nat.le_refl _) (.cells #[.int .i64 lo, .int .i64 hi] 52)))
    have B99 := Lib.hid (B85.out.alloc B85.out.size (.cells #[.int .i64 lo, .int .i64 hi] 52))
    have X100 := Lib.hid (Box.made v78 52 #[.int .i64 lo, .int .i64 hi])
    have q101 : (v78.alloc (.cells #[.int .i64 lo, .int .i64 hi] 52)).cell? ⟨w.heap.size, 0, none⟩ = some (.slice A l c) := X94.out.cell 0
    have q102 : (v78.alloc (.cells #[.int .i64 lo, .int .i64 hi] 52)).cell? ⟨v20.heap.size, 0, none⟩ = some (.int .i64 pn) := X95.out.cell 0
    have q103 : (v78.alloc (.cells #[.int .i64 lo, .int .i64 hi] 52)).cell? ⟨v20.heap.size, 1, none⟩ = some (.int .i64 pd) := X95.out.cell 1
    have q104 : (v78.alloc (.cells #[.int .i64 lo, .int .i64 hi] 52)).cell? ⟨v33.heap.size, 0, none⟩ = some (.int .i64 pn) := X96.out.cell 0
    have q105 : (v78.alloc (.cells #[.int .i64 lo, .int .i64 hi] 52)).cell? ⟨v33.heap.size, 1, none⟩ = some (.int .i64 pd) := X96.out.cell 1
    have q106 : (v78.alloc (.cells #[.int .i64 lo, .int .i64 hi] 52)).cell? ⟨v52.heap.size, 0, none⟩ = some (.int .i64 lo) := X97.out.cell 0
    have q107 : (v78.alloc (.cells #[.int .i64 lo, .int .i64 hi] 52)).cell? ⟨v52.heap.size, 1, none⟩ = some (.int .i64 hi) := X97.out.cell 1
    have q108 : (v78.alloc (.cells #[.int .i64 lo, .int .i64 hi] 52)).cell? ⟨v78.heap.size, 0, none⟩ = some (.int .i64 lo) := X100.out.cell 0
    have q109 : (v78.alloc (.cells #[.int .i64 lo, .int .i64 hi] 52)).cell? ⟨v78.heap.size, 1, none⟩ = some (.int .i64 hi) := X100.out.cell 1
    obtain ⟨ae, hae9⟩ : ∃ X9, rnE ms s 0 = X9 := ⟨_, rfl⟩
    have HAE := Lib.hid hae9
    clear hae9
    obtain ⟨xs, hxs9⟩ : ∃ X9, nats (alV ms s) = X9 := ⟨_, rfl⟩
    have HXS := Lib.hid hxs9
    clear hxs9
    go_wp2_with fail
    refine (All_c ms s _ _ C98.out).mono ?_; rintro e v110 ⟨lv, rfl, hI, hb111⟩
    have X112 := Lib.hid (X94.out.later hb111)
    have X113 := Lib.hid (X95.out.later hb111)
    have X114 := Lib.hid (X96.out.later hb111)
    have X115 := Lib.hid (X97.out.later hb111)
    have X116 := Lib.hid (X100.out.later hb111)
    have C117 := Lib.hid (C98.out.later hb111)
    have B118 := Lib.hid (B99.out.trans (hb111.mono B99.out.size))
    clear hb111
    rw [HAE.out]
    rw [HXS.out] at hI
    have HI := Lib.hid hI
    clear hI
    clear q101 q102 q103 q104 q105 q106 q107 q108 q109 q86 q87 q88 q89 q90 q91 q92
    have q119 : v110.cell? ⟨w.heap.size, 0, none⟩ = some (.slice A l c) := X112.out.cell 0
    have q120 : v110.cell? ⟨v20.heap.size, 0, none⟩ = some (.int .i64 pn) := X113.out.cell 0
    have q121 : v110.cell? ⟨v20.heap.size, 1, none⟩ = some (.int .i64 pd) := X113.out.cell 1
    have q122 : v110.cell? ⟨v33.heap.size, 0, none⟩ = some (.int .i64 pn) := X114.out.cell 0
    have q123 : v110.cell? ⟨v33.heap.size, 1, none⟩ = some (.int .i64 pd) := X114.out.cell 1
    have q124 : v110.cell? ⟨v52.heap.size, 0, none⟩ = some (.int .i64 lo) := X115.out.cell 0
    have q125 : v110.cell? ⟨v52.heap.size, 1, none⟩ = some (.int .i64 hi) := X115.out.cell 1
    have q126 : v110.cell? ⟨v78.heap.size, 0, none⟩ = some (.int .i64 lo) := X116.out.cell 0
    have q127 : v110.cell? ⟨v78.heap.size, 1, none⟩ = some (.int .i64 hi) := X116.out.cell 1
    go_wp2_with fail
    refine (rAll_c ms s _ _ C117.out HL.out).mono ?_; rintro e v128 ⟨lv2, rfl, hI2, hb129⟩
    have X130 := Lib.hid (X112.out.later hb129)
    have X131 := Lib.hid (X113.out.later hb129)
    have X132 := Lib.hid (X114.out.later hb129)
    have X133 := Lib.hid (X115.out.later hb129)
    have X134 := Lib.hid (X116.out.later hb129)
    have C135 := Lib.hid (C117.out.later hb129)
    have C136 := Lib.hid (HI.out.later hb129)
    have B137 := Lib.hid (B118.out.trans (hb129.mono B118.out.size))
    clear hb129
    rw [HAE.out]
    rw [HXS.out] at hI2
    have HI2 := Lib.hid hI2
    clear hI2
    clear q119 q120 q121 q122 q123 q124 q125 q126 q127
    have q138 : v128.cell? ⟨w.heap.size, 0, none⟩ = some (.slice A l c) := X130.out.cell 0
    have q139 : v128.cell? ⟨v20.heap.size, 0, none⟩ = some (.int .i64 pn) := X131.out.cell 0
    have q140 : v128.cell? ⟨v20.heap.size, 1, none⟩ = some (.int .i64 pd) := X131.out.cell 1
    have q141 : v128.cell? ⟨v33.heap.size, 0, none⟩ = some (.int .i64 pn) := X132.out.cell 0
    have q142 : v128.cell? ⟨v33.heap.size, 1, none⟩ = some (.int .i64 pd) := X132.out.cell 1
    have q143 : v128.cell? ⟨v52.heap.size, 0, none⟩ = some (.int .i64 lo) := X133.out.cell 0
    have q144 : v128.cell? ⟨v52.heap.size, 1, none⟩ = some (.int .i64 hi) := X133.out.cell 1
    have q145 : v128.cell? ⟨v78.heap.size, 0, none⟩ = some (.int .i64 lo) := X134.out.cell 0
    have q146 : v128.cell? ⟨v78.heap.size, 1, none⟩ = some (.int .i64 hi) := X134.out.cell 1
    go_wp2_with fail
    refine (SameInts_b xs xs true (by simp) _ _ _ C136.out HI2.out).mono ?_; rintro e v147 ⟨rfl, hb148⟩
    have X149 := Lib.hid (X130.out.later hb148)
    have X150 := Lib.hid (X131.out.later hb148)
    have X151 := Lib.hid (X132.out.later hb148)
    have X152 := Lib.hid (X133.out.later hb148)
    have X153 := Lib.hid (X134.out.later hb148)
    have C154 := Lib.hid (C135.out.later hb148)
    have C155 := Lib.hid (C136.out.later hb148)
    have C156 := Lib.hid (HI2.out.later hb148)
    have B157 := Lib.hid (B137.out.trans (hb148.mono B137.out.size))
    clear hb148
    clear q138 q139 q140 q141 q142 q143 q144 q145 q146
    have q158 : v147.cell? ⟨w.heap.size, 0, none⟩ = some (.slice A l c) := X149.out.cell 0
    have q159 : v147.cell? ⟨v20.heap.size, 0, none⟩ = some (.int .i64 pn) := X150.out.cell 0
    have q160 : v147.cell? ⟨v20.heap.size, 1, none⟩ = some (.int .i64 pd) := X150.out.cell 1
    have q161 : v147.cell? ⟨v33.heap.size, 0, none⟩ = some (.int .i64 pn) := X151.out.cell 0
    have q162 : v147.cell? ⟨v33.heap.size, 1, none⟩ = some (.int .i64 pd) := X151.out.cell 1
    have q163 : v147.cell? ⟨v52.heap.size, 0, none⟩ = some (.int .i64 lo) := X152.out.cell 0
    have q164 : v147.cell? ⟨v52.heap.size, 1, none⟩ = some (.int .i64 hi) := X152.out.cell 1
    have q165 : v147.cell? ⟨v78.heap.size, 0, none⟩ = some (.int .i64 lo) := X153.out.cell 0
    have q166 : v147.cell? ⟨v78.heap.size, 1, none⟩ = some (.int .i64 hi) := X153.out.cell 1
    go_wp2_with fail
    go_ret
    exact ⟨ret_bool (by simp), B157.out⟩

end Go.Proofs.Ytmmfmanjajefcaa

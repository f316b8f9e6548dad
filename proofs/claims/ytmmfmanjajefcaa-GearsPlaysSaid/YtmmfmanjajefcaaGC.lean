/- Layer 7: the examples hold. -/
import Derived.Test.YtmmfmanjajefcaaGB
set_option linter.all false
namespace Go.Proofs.Ytmmfmanjajefcaa
open Go.RowKit

theorem Ints.mono7 {w w' : World} {B B' : Nat} {v : Value} {l : List Int} (h : Ints w B v l) (hb : Below B w w') (hB : B ≤ B') : Ints w' B' v l := by
  obtain ⟨h1, A, c, rfl, h2, h3⟩ := h
  refine ⟨h1, A, c, rfl, h2, fun hp => ?_⟩
  obtain ⟨b, off, rfl, hlt, hc⟩ := h3 hp
  exact ⟨b, off, rfl, by omega, fun k hk => keepd (hc k hk) hb hlt⟩
theorem Ints.later {w w' : World} {v : Value} {l : List Int} (h : Ints w w.heap.size v l) (hb : Below w.heap.size w w') : Ints w' w'.heap.size v l := h.mono7 hb hb.size
theorem ints4 (w : World) (a b c d : Int) : Ints (w.alloc (.cells #[.int .i64 a, .int .i64 b, .int .i64 c, .int .i64 d] 3)) (w.alloc (.cells #[.int .i64 a, .int .i64 b, .int .i64 c, .int .i64 d] 3)).heap.size (.slice (some ⟨w.heap.size, 0, none⟩) 4 4) [a, b, c, d] := by
  have X := Box.made w 3 #[.int .i64 a, .int .i64 b, .int .i64 c, .int .i64 d]
  refine ⟨by simp, _, 4, rfl, by simp, fun _ => ⟨w.heap.size, 0, rfl, X.lt, fun k hk => ?_⟩⟩
  have hk4 : k < 4 := hk
  rcases (by omega : k = 0 ∨ k = 1 ∨ k = 2 ∨ k = 3) with rfl | rfl | rfl | rfl
  · exact X.cell 0
  · exact X.cell 1
  · exact X.cell 2
  · exact X.cell 3

set_option maxRecDepth 100000 in
set_option maxHeartbeats 8000000 in
theorem awake_c (w : World) : Calls Try.prog 24 #[] w fun e w' => e = .returned (.bool true) ∧ Below w.heap.size w w' := by
  go_enter Try.func24, Try.ntmps24
  have B1 := Lib.hid (Below.refl w.heap.size w)
  go_wp2_with fail
  refine (train_c _).mono ?_; rintro e v2 ⟨tv1, rfl, htr1, hb3⟩
  have B4 := Lib.hid (B1.out.trans (hb3.mono B1.out.size))
  clear hb3
  have HT1 := Lib.hid htr1
  clear htr1
  go_wp2_with fail
  refine (RatioOf_c exms _ _ HT1.out).mono ?_; rintro e v5 ⟨rfl, hb6⟩
  have B7 := Lib.hid (B4.out.trans (hb6.mono B4.out.size))
  clear hb6
  rw [ex_rt]
  have B8 := Lib.hid (B7.out.alloc B7.out.size (.cells #[.int .i64 15, .int .i64 4] 23))
  have X9 := Lib.hid (Box.made v5 23 #[.int .i64 15, .int .i64 4])
  have q10 : (v5.alloc (.cells #[.int .i64 15, .int .i64 4] 23)).cell? ⟨v5.heap.size, 0, none⟩ = some (.int .i64 15) := X9.out.cell 0
  have q11 : (v5.alloc (.cells #[.int .i64 15, .int .i64 4] 23)).cell? ⟨v5.heap.size, 1, none⟩ = some (.int .i64 4) := X9.out.cell 1
  go_wp2_with fail
  refine (train_c _).mono ?_; rintro e v12 ⟨tv2, rfl, htr, hb13⟩
  have X14 := Lib.hid (X9.out.later hb13)
  have B15 := Lib.hid (B8.out.trans (hb13.mono B8.out.size))
  clear hb13
  obtain ⟨s2, rfl, A2, c2, rfl, hcap, hcell⟩ := htr
  obtain ⟨b2, off2, rfl, hlt2, hcc⟩ := hcell (by decide)
  obtain ⟨y0, y1, y2⟩ := hcc 0 (by decide)
  have y0 : v12.cell? ⟨b2, off2 + 0 * 3, none⟩ = some (.int .i64 12) := y0
  have y1 : v12.cell? ⟨b2, off2 + 0 * 3 + 1, none⟩ = some (.int .i64 8) := y1
  have y2 : v12.cell? ⟨b2, off2 + 0 * 3 + 2, none⟩ = some (.int .i64 100) := y2
  have hl2 : exms.length = 2 := rfl
  rw [hl2]
  simp only [Nat.zero_mul, Nat.add_zero] at y0 y1 y2
  have hfd : ∀ W : World, (Instr.field 35 (.agg #[.slice (some ⟨b2, off2, none⟩) 2 c2]) 0).run Try.prog W = .ok (.slice (some ⟨b2, off2, none⟩) 2 c2) W := fun W => rfl
  clear hcap hcell hcc
  clear q10 q11
  have q16 : v12.cell? ⟨v5.heap.size, 0, none⟩ = some (.int .i64 15) := X14.out.cell 0
  have q17 : v12.cell? ⟨v5.heap.size, 1, none⟩ = some (.int .i64 4) := X14.out.cell 1
  go_wp2_with fail
  refine (Meets_c 12 8 100 5 1 _).mono ?_; rintro e v18 ⟨rfl, hb19⟩
  have X20 := Lib.hid (X14.out.later hb19)
  have B21 := Lib.hid (B15.out.trans (hb19.mono B15.out.size))
  clear hb19
  rw [ex_me.1, ex_me.2]
  clear y0 y1 y2 hl2
  clear q16 q17
  have q22 : v18.cell? ⟨v5.heap.size, 0, none⟩ = some (.int .i64 15) := X20.out.cell 0
  have q23 : v18.cell? ⟨v5.heap.size, 1, none⟩ = some (.int .i64 4) := X20.out.cell 1
  go_wp2_with fail
  refine (train_c _).mono ?_; rintro e v24 ⟨tv3, rfl, htr3, hb25⟩
  have X26 := Lib.hid (X20.out.later hb25)
  have B27 := Lib.hid (B21.out.trans (hb25.mono B21.out.size))
  clear hb25
  have HT3 := Lib.hid htr3
  clear htr3
  clear q22 q23
  have q28 : v24.cell? ⟨v5.heap.size, 0, none⟩ = some (.int .i64 15) := X26.out.cell 0
  have q29 : v24.cell? ⟨v5.heap.size, 1, none⟩ = some (.int .i64 4) := X26.out.cell 1
  go_wp2_with fail
  refine (Stands_c exms 9 _ _ HT3.out).mono ?_; rintro e v30 ⟨lv, rfl, hI, hb31⟩
  have X32 := Lib.hid (X26.out.later hb31)
  have B33 := Lib.hid (B27.out.trans (hb31.mono B27.out.size))
  clear hb31
  rw [ex_st.1]
  rw [ex_st.2] at hI
  have HI := Lib.hid (show Ints v30 v30.heap.size lv [9, 1, 1, 3] from hI)
  clear hI
  clear q28 q29
  have q34 : v30.cell? ⟨v5.heap.size, 0, none⟩ = some (.int .i64 15) := X32.out.cell 0
  have q35 : v30.cell? ⟨v5.heap.size, 1, none⟩ = some (.int .i64 4) := X32.out.cell 1
  go_wp2_with fail
  refine (train_c _).mono ?_; rintro e v36 ⟨tv4, rfl, htr4, hb37⟩
  have X38 := Lib.hid (X32.out.later hb37)
  have C39 := Lib.hid (HI.out.later hb37)
  have B40 := Lib.hid (B33.out.trans (hb37.mono B33.out.size))
  clear hb37
  have HT4 := Lib.hid htr4
  clear htr4
  clear q34 q35
  have q41 : v36.cell? ⟨v5.heap.size, 0, none⟩ = some (.int .i64 15) := X38.out.cell 0
  have q42 : v36.cell? ⟨v5.heap.size, 1, none⟩ = some (.int .i64 4) := X38.out.cell 1
  go_wp2_with fail
  refine (Play_c exms _ _ HT4.out).mono ?_; rintro e v43 ⟨rfl, hb44⟩
  have X45 := Lib.hid (X38.out.later hb44)
  have C46 := Lib.hid (C39.out.later hb44)
  have B47 := Lib.hid (B40.out.trans (hb44.mono B40.out.size))
  clear hb44
  rw [ex_pl]
  clear q41 q42
  have q48 : v43.cell? ⟨v5.heap.size, 0, none⟩ = some (.int .i64 15) := X45.out.cell 0
  have q49 : v43.cell? ⟨v5.heap.size, 1, none⟩ = some (.int .i64 4) := X45.out.cell 1
  clear q48 q49
  have X50 := Lib.hid (X45.out.alloc (.cells #[.int .i64 1, .int .i64 32] 23))
  have C51 := Lib.hid (C46.out.later ((Below.refl v43.heap.size v43).alloc (Nat.le_refl _) (.cells #[.int .i64 1, .int .i64 32] 23)))
  have B52 := Lib.hid (B47.out.alloc B47.out.size (.cells #[.int .i64 1, .int .i64 32] 23))
  have X53 := Lib.hid (Box.made v43 23 #[.int .i64 1, .int .i64 32])
  have q54 : (v43.alloc (.cells #[.int .i64 1, .int .i64 32] 23)).cell? ⟨v5.heap.size, 0, none⟩ = some (.int .i64 15) := X50.out.cell 0
  have q55 : (v43.alloc (.cells #[.int .i64 1, .int .i64 32] 23)).cell? ⟨v5.heap.size, 1, none⟩ = some (.int .i64 4) := X50.out.cell 1
  have q56 : (v43.alloc (.cells #[.int .i64 1, .int .i64 32] 23)).cell? ⟨v43.heap.size, 0, none⟩ = some (.int .i64 1) := X53.out.cell 0
  have q57 : (v43.alloc (.cells #[.int .i64 1, .int .i64 32] 23)).cell? ⟨v43.heap.size, 1, none⟩ = some (.int .i64 32) := X53.out.cell 1
  go_wp2_with fail
  refine (train_c _).mono ?_; rintro e v58 ⟨tv5, rfl, htr5, hb59⟩
  have X60 := Lib.hid (X50.out.later hb59)
  have X61 := Lib.hid (X53.out.later hb59)
  have C62 := Lib.hid (C51.out.later hb59)
  have B63 := Lib.hid (B52.out.trans (hb59.mono B52.out.size))
  clear hb59
  have HT5 := Lib.hid htr5
  clear htr5
  clear q54 q55 q56 q57
  have q64 : v58.cell? ⟨v5.heap.size, 0, none⟩ = some (.int .i64 15) := X60.out.cell 0
  have q65 : v58.cell? ⟨v5.heap.size, 1, none⟩ = some (.int .i64 4) := X60.out.cell 1
  have q66 : v58.cell? ⟨v43.heap.size, 0, none⟩ = some (.int .i64 1) := X61.out.cell 0
  have q67 : v58.cell? ⟨v43.heap.size, 1, none⟩ = some (.int .i64 32) := X61.out.cell 1
  go_wp2_with fail
  refine (Where_c exms 32 4 _ _ HT5.out).mono ?_; rintro e v68 ⟨rfl, hb69⟩
  have X70 := Lib.hid (X60.out.later hb69)
  have X71 := Lib.hid (X61.out.later hb69)
  have C72 := Lib.hid (C62.out.later hb69)
  have B73 := Lib.hid (B63.out.trans (hb69.mono B63.out.size))
  clear hb69
  rw [ex_wh]
  clear q64 q65 q66 q67
  have q74 : v68.cell? ⟨v5.heap.size, 0, none⟩ = some (.int .i64 15) := X70.out.cell 0
  have q75 : v68.cell? ⟨v5.heap.size, 1, none⟩ = some (.int .i64 4) := X70.out.cell 1
  have q76 : v68.cell? ⟨v43.heap.size, 0, none⟩ = some (.int .i64 1) := X71.out.cell 0
  have q77 : v68.cell? ⟨v43.heap.size, 1, none⟩ = some (.int .i64 32) := X71.out.cell 1
  clear q74 q75 q76 q77
  have X78 := Lib.hid (X70.out.alloc (.cells #[.int .i64 39, .int .i64 40] 52))
  have X79 := Lib.hid (X71.out.alloc (.cells #[.int .i64 39, .int .i64 40] 52))
  have C80 := Lib.hid (C72.out.later ((Below.refl v68.heap.size v68).alloc (Nat.le_refl _) (.cells #[.int .i64 39, .int .i64 40] 52)))
  have B81 := Lib.hid (B73.out.alloc B73.out.size (.cells #[.int .i64 39, .int .i64 40] 52))
  have X82 := Lib.hid (Box.made v68 52 #[.int .i64 39, .int .i64 40])
  have q83 : (v68.alloc (.cells #[.int .i64 39, .int .i64 40] 52)).cell? ⟨v5.heap.size, 0, none⟩ = some (.int .i64 15) := X78.out.cell 0
  have q84 : (v68.alloc (.cells #[.int .i64 39, .int .i64 40] 52)).cell? ⟨v5.heap.size, 1, none⟩ = some (.int .i64 4) := X78.out.cell 1
  have q85 : (v68.alloc (.cells #[.int .i64 39, .int .i64 40] 52)).cell? ⟨v43.heap.size, 0, none⟩ = some (.int .i64 1) := X79.out.cell 0
  have q86 : (v68.alloc (.cells #[.int .i64 39, .int .i64 40] 52)).cell? ⟨v43.heap.size, 1, none⟩ = some (.int .i64 32) := X79.out.cell 1
  have q87 : (v68.alloc (.cells #[.int .i64 39, .int .i64 40] 52)).cell? ⟨v68.heap.size, 0, none⟩ = some (.int .i64 39) := X82.out.cell 0
  have q88 : (v68.alloc (.cells #[.int .i64 39, .int .i64 40] 52)).cell? ⟨v68.heap.size, 1, none⟩ = some (.int .i64 40) := X82.out.cell 1
  go_wp2_with fail
  refine (Rings_c 3 10 4 2 _).mono ?_; rintro e v89 ⟨rfl, hb90⟩
  have X91 := Lib.hid (X78.out.later hb90)
  have X92 := Lib.hid (X79.out.later hb90)
  have X93 := Lib.hid (X82.out.later hb90)
  have C94 := Lib.hid (C80.out.later hb90)
  have B95 := Lib.hid (B81.out.trans (hb90.mono B81.out.size))
  clear hb90
  rw [ex_ri.1, ex_ri.2]
  clear q83 q84 q85 q86 q87 q88
  have q96 : v89.cell? ⟨v5.heap.size, 0, none⟩ = some (.int .i64 15) := X91.out.cell 0
  have q97 : v89.cell? ⟨v5.heap.size, 1, none⟩ = some (.int .i64 4) := X91.out.cell 1
  have q98 : v89.cell? ⟨v43.heap.size, 0, none⟩ = some (.int .i64 1) := X92.out.cell 0
  have q99 : v89.cell? ⟨v43.heap.size, 1, none⟩ = some (.int .i64 32) := X92.out.cell 1
  have q100 : v89.cell? ⟨v68.heap.size, 0, none⟩ = some (.int .i64 39) := X93.out.cell 0
  have q101 : v89.cell? ⟨v68.heap.size, 1, none⟩ = some (.int .i64 40) := X93.out.cell 1
  go_wp2_with fail
  refine (train_c _).mono ?_; rintro e v102 ⟨tv6, rfl, htr6, hb103⟩
  have X104 := Lib.hid (X91.out.later hb103)
  have X105 := Lib.hid (X92.out.later hb103)
  have X106 := Lib.hid (X93.out.later hb103)
  have C107 := Lib.hid (C94.out.later hb103)
  have B108 := Lib.hid (B95.out.trans (hb103.mono B95.out.size))
  clear hb103
  have HT6 := Lib.hid htr6
  clear htr6
  clear q96 q97 q98 q99 q100 q101
  have q109 : v102.cell? ⟨v5.heap.size, 0, none⟩ = some (.int .i64 15) := X104.out.cell 0
  have q110 : v102.cell? ⟨v5.heap.size, 1, none⟩ = some (.int .i64 4) := X104.out.cell 1
  have q111 : v102.cell? ⟨v43.heap.size, 0, none⟩ = some (.int .i64 1) := X105.out.cell 0
  have q112 : v102.cell? ⟨v43.heap.size, 1, none⟩ = some (.int .i64 32) := X105.out.cell 1
  have q113 : v102.cell? ⟨v68.heap.size, 0, none⟩ = some (.int .i64 39) := X106.out.cell 0
  have q114 : v102.cell? ⟨v68.heap.size, 1, none⟩ = some (.int .i64 40) := X106.out.cell 1
  go_wp2_with fail
  refine (Time_c exms 10 4 2 2 _ _ HT6.out).mono ?_; rintro e v115 ⟨rfl, hb116⟩
  have X117 := Lib.hid (X104.out.later hb116)
  have X118 := Lib.hid (X105.out.later hb116)
  have X119 := Lib.hid (X106.out.later hb116)
  have C120 := Lib.hid (C107.out.later hb116)
  have B121 := Lib.hid (B108.out.trans (hb116.mono B108.out.size))
  clear hb116
  rw [ex_ti]
  clear q109 q110 q111 q112 q113 q114
  have q122 : v115.cell? ⟨v5.heap.size, 0, none⟩ = some (.int .i64 15) := X117.out.cell 0
  have q123 : v115.cell? ⟨v5.heap.size, 1, none⟩ = some (.int .i64 4) := X117.out.cell 1
  have q124 : v115.cell? ⟨v43.heap.size, 0, none⟩ = some (.int .i64 1) := X118.out.cell 0
  have q125 : v115.cell? ⟨v43.heap.size, 1, none⟩ = some (.int .i64 32) := X118.out.cell 1
  have q126 : v115.cell? ⟨v68.heap.size, 0, none⟩ = some (.int .i64 39) := X119.out.cell 0
  have q127 : v115.cell? ⟨v68.heap.size, 1, none⟩ = some (.int .i64 40) := X119.out.cell 1
  have LT128 := Lib.hid X119.out.lt
  clear q122 q123 q124 q125 q126 q127
  have X129 := Lib.hid (X117.out.alloc (.cells #[.int .i64 4, .int .i64 15] 23))
  have X130 := Lib.hid (X118.out.alloc (.cells #[.int .i64 4, .int .i64 15] 23))
  have X131 := Lib.hid (X119.out.alloc (.cells #[.int .i64 4, .int .i64 15] 23))
  have C132 := Lib.hid (C120.out.later ((Below.refl v115.heap.size v115).alloc (Nat.le_refl _) (.cells #[.int .i64 4, .int .i64 15] 23)))
  have B133 := Lib.hid (B121.out.alloc B121.out.size (.cells #[.int .i64 4, .int .i64 15] 23))
  have X134 := Lib.hid (Box.made v115 23 #[.int .i64 4, .int .i64 15])
  have q135 : (v115.alloc (.cells #[.int .i64 4, .int .i64 15] 23)).cell? ⟨v5.heap.size, 0, none⟩ = some (.int .i64 15) := X129.out.cell 0
  have q136 : (v115.alloc (.cells #[.int .i64 4, .int .i64 15] 23)).cell? ⟨v5.heap.size, 1, none⟩ = some (.int .i64 4) := X129.out.cell 1
  have q137 : (v115.alloc (.cells #[.int .i64 4, .int .i64 15] 23)).cell? ⟨v43.heap.size, 0, none⟩ = some (.int .i64 1) := X130.out.cell 0
  have q138 : (v115.alloc (.cells #[.int .i64 4, .int .i64 15] 23)).cell? ⟨v43.heap.size, 1, none⟩ = some (.int .i64 32) := X130.out.cell 1
  have q139 : (v115.alloc (.cells #[.int .i64 4, .int .i64 15] 23)).cell? ⟨v68.heap.size, 0, none⟩ = some (.int .i64 39) := X131.out.cell 0
  have q140 : (v115.alloc (.cells #[.int .i64 4, .int .i64 15] 23)).cell? ⟨v68.heap.size, 1, none⟩ = some (.int .i64 40) := X131.out.cell 1
  have q141 : (v115.alloc (.cells #[.int .i64 4, .int .i64 15] 23)).cell? ⟨v115.heap.size, 0, none⟩ = some (.int .i64 4) := X134.out.cell 0
  have q142 : (v115.alloc (.cells #[.int .i64 4, .int .i64 15] 23)).cell? ⟨v115.heap.size, 1, none⟩ = some (.int .i64 15) := X134.out.cell 1
  go_wp2_with fail
  refine (train_c _).mono ?_; rintro e v143 ⟨tv7, rfl, htr7, hb144⟩
  have X145 := Lib.hid (X129.out.later hb144)
  have X146 := Lib.hid (X130.out.later hb144)
  have X147 := Lib.hid (X131.out.later hb144)
  have X148 := Lib.hid (X134.out.later hb144)
  have C149 := Lib.hid (C132.out.later hb144)
  have B150 := Lib.hid (B133.out.trans (hb144.mono B133.out.size))
  clear hb144
  have HT7 := Lib.hid htr7
  clear htr7
  clear q135 q136 q137 q138 q139 q140 q141 q142
  have q151 : v143.cell? ⟨v5.heap.size, 0, none⟩ = some (.int .i64 15) := X145.out.cell 0
  have q152 : v143.cell? ⟨v5.heap.size, 1, none⟩ = some (.int .i64 4) := X145.out.cell 1
  have q153 : v143.cell? ⟨v43.heap.size, 0, none⟩ = some (.int .i64 1) := X146.out.cell 0
  have q154 : v143.cell? ⟨v43.heap.size, 1, none⟩ = some (.int .i64 32) := X146.out.cell 1
  have q155 : v143.cell? ⟨v68.heap.size, 0, none⟩ = some (.int .i64 39) := X147.out.cell 0
  have q156 : v143.cell? ⟨v68.heap.size, 1, none⟩ = some (.int .i64 40) := X147.out.cell 1
  have q157 : v143.cell? ⟨v115.heap.size, 0, none⟩ = some (.int .i64 4) := X148.out.cell 0
  have q158 : v143.cell? ⟨v115.heap.size, 1, none⟩ = some (.int .i64 15) := X148.out.cell 1
  go_wp2_with fail
  refine (Period_c exms _ _ HT7.out).mono ?_; rintro e v159 ⟨rfl, hb160⟩
  have X161 := Lib.hid (X145.out.later hb160)
  have X162 := Lib.hid (X146.out.later hb160)
  have X163 := Lib.hid (X147.out.later hb160)
  have X164 := Lib.hid (X148.out.later hb160)
  have C165 := Lib.hid (C149.out.later hb160)
  have B166 := Lib.hid (B150.out.trans (hb160.mono B150.out.size))
  clear hb160
  rw [ex_pr.1, ex_pr.2]
  have e48 : ((48 : Nat) : Int) = 48 := rfl
  rw [e48]
  clear q151 q152 q153 q154 q155 q156 q157 q158
  have q167 : v159.cell? ⟨v5.heap.size, 0, none⟩ = some (.int .i64 15) := X161.out.cell 0
  have q168 : v159.cell? ⟨v5.heap.size, 1, none⟩ = some (.int .i64 4) := X161.out.cell 1
  have q169 : v159.cell? ⟨v43.heap.size, 0, none⟩ = some (.int .i64 1) := X162.out.cell 0
  have q170 : v159.cell? ⟨v43.heap.size, 1, none⟩ = some (.int .i64 32) := X162.out.cell 1
  have q171 : v159.cell? ⟨v68.heap.size, 0, none⟩ = some (.int .i64 39) := X163.out.cell 0
  have q172 : v159.cell? ⟨v68.heap.size, 1, none⟩ = some (.int .i64 40) := X163.out.cell 1
  have q173 : v159.cell? ⟨v115.heap.size, 0, none⟩ = some (.int .i64 4) := X164.out.cell 0
  have q174 : v159.cell? ⟨v115.heap.size, 1, none⟩ = some (.int .i64 15) := X164.out.cell 1
  have I4 := Lib.hid (ints4 v159 9 1 1 3)
  have LT175 := Lib.hid X163.out.lt
  have X176 := Lib.hid (X161.out.alloc (.cells #[.int .i64 9, .int .i64 1, .int .i64 1, .int .i64 3] 3))
  have X177 := Lib.hid (X162.out.alloc (.cells #[.int .i64 9, .int .i64 1, .int .i64 1, .int .i64 3] 3))
  have X178 := Lib.hid (X163.out.alloc (.cells #[.int .i64 9, .int .i64 1, .int .i64 1, .int .i64 3] 3))
  have X179 := Lib.hid (X164.out.alloc (.cells #[.int .i64 9, .int .i64 1, .int .i64 1, .int .i64 3] 3))
  have C180 := Lib.hid (C165.out.later ((Below.refl v159.heap.size v159).alloc (Nat.le_refl _) (.cells #[.int .i64 9, .int .i64 1, .int .i64 1, .int .i64 3] 3)))
  have B181 := Lib.hid (B166.out.alloc B166.out.size (.cells #[.int .i64 9, .int .i64 1, .int .i64 1, .int .i64 3] 3))
  have X182 := Lib.hid (Box.made v159 3 #[.int .i64 9, .int .i64 1, .int .i64 1, .int .i64 3])
  have q183 : (v159.alloc (.cells #[.int .i64 9, .int .i64 1, .int .i64 1, .int .i64 3] 3)).cell? ⟨v5.heap.size, 0, none⟩ = some (.int .i64 15) := X176.out.cell 0
  have q184 : (v159.alloc (.cells #[.int .i64 9, .int .i64 1, .int .i64 1, .int .i64 3] 3)).cell? ⟨v5.heap.size, 1, none⟩ = some (.int .i64 4) := X176.out.cell 1
  have q185 : (v159.alloc (.cells #[.int .i64 9, .int .i64 1, .int .i64 1, .int .i64 3] 3)).cell? ⟨v43.heap.size, 0, none⟩ = some (.int .i64 1) := X177.out.cell 0
  have q186 : (v159.alloc (.cells #[.int .i64 9, .int .i64 1, .int .i64 1, .int .i64 3] 3)).cell? ⟨v43.heap.size, 1, none⟩ = some (.int .i64 32) := X177.out.cell 1
  have q187 : (v159.alloc (.cells #[.int .i64 9, .int .i64 1, .int .i64 1, .int .i64 3] 3)).cell? ⟨v68.heap.size, 0, none⟩ = some (.int .i64 39) := X178.out.cell 0
  have q188 : (v159.alloc (.cells #[.int .i64 9, .int .i64 1, .int .i64 1, .int .i64 3] 3)).cell? ⟨v68.heap.size, 1, none⟩ = some (.int .i64 40) := X178.out.cell 1
  have q189 : (v159.alloc (.cells #[.int .i64 9, .int .i64 1, .int .i64 1, .int .i64 3] 3)).cell? ⟨v115.heap.size, 0, none⟩ = some (.int .i64 4) := X179.out.cell 0
  have q190 : (v159.alloc (.cells #[.int .i64 9, .int .i64 1, .int .i64 1, .int .i64 3] 3)).cell? ⟨v115.heap.size, 1, none⟩ = some (.int .i64 15) := X179.out.cell 1
  have q191 : (v159.alloc (.cells #[.int .i64 9, .int .i64 1, .int .i64 1, .int .i64 3] 3)).cell? ⟨v159.heap.size, 0, none⟩ = some (.int .i64 9) := X182.out.cell 0
  have q192 : (v159.alloc (.cells #[.int .i64 9, .int .i64 1, .int .i64 1, .int .i64 3] 3)).cell? ⟨v159.heap.size, 1, none⟩ = some (.int .i64 1) := X182.out.cell 1
  have q193 : (v159.alloc (.cells #[.int .i64 9, .int .i64 1, .int .i64 1, .int .i64 3] 3)).cell? ⟨v159.heap.size, 2, none⟩ = some (.int .i64 1) := X182.out.cell 2
  have q194 : (v159.alloc (.cells #[.int .i64 9, .int .i64 1, .int .i64 1, .int .i64 3] 3)).cell? ⟨v159.heap.size, 3, none⟩ = some (.int .i64 3) := X182.out.cell 3
  go_wp2_with fail
  refine (SameInts_b [9, 1, 1, 3] [9, 1, 1, 3] true (by decide) _ _ _ C180.out I4.out).mono ?_; rintro e v195 ⟨rfl, hb196⟩
  have X197 := Lib.hid (X176.out.later hb196)
  have X198 := Lib.hid (X177.out.later hb196)
  have X199 := Lib.hid (X178.out.later hb196)
  have X200 := Lib.hid (X179.out.later hb196)
  have X201 := Lib.hid (X182.out.later hb196)
  have C202 := Lib.hid (C180.out.later hb196)
  have B203 := Lib.hid (B181.out.trans (hb196.mono B181.out.size))
  clear hb196
  clear q183 q184 q185 q186 q187 q188 q189 q190 q191 q192 q193 q194 q167 q168 q169 q170 q171 q172 q173 q174
  have q204 : v195.cell? ⟨v5.heap.size, 0, none⟩ = some (.int .i64 15) := X197.out.cell 0
  have q205 : v195.cell? ⟨v5.heap.size, 1, none⟩ = some (.int .i64 4) := X197.out.cell 1
  have q206 : v195.cell? ⟨v43.heap.size, 0, none⟩ = some (.int .i64 1) := X198.out.cell 0
  have q207 : v195.cell? ⟨v43.heap.size, 1, none⟩ = some (.int .i64 32) := X198.out.cell 1
  have q208 : v195.cell? ⟨v68.heap.size, 0, none⟩ = some (.int .i64 39) := X199.out.cell 0
  have q209 : v195.cell? ⟨v68.heap.size, 1, none⟩ = some (.int .i64 40) := X199.out.cell 1
  have q210 : v195.cell? ⟨v115.heap.size, 0, none⟩ = some (.int .i64 4) := X200.out.cell 0
  have q211 : v195.cell? ⟨v115.heap.size, 1, none⟩ = some (.int .i64 15) := X200.out.cell 1
  have q212 : v195.cell? ⟨v159.heap.size, 0, none⟩ = some (.int .i64 9) := X201.out.cell 0
  have q213 : v195.cell? ⟨v159.heap.size, 1, none⟩ = some (.int .i64 1) := X201.out.cell 1
  have q214 : v195.cell? ⟨v159.heap.size, 2, none⟩ = some (.int .i64 1) := X201.out.cell 2
  have q215 : v195.cell? ⟨v159.heap.size, 3, none⟩ = some (.int .i64 3) := X201.out.cell 3
  go_wp2_with fail
  go_ret
  exact ⟨ret_bool (by first | rfl | decide), B203.out⟩

end Go.Proofs.Ytmmfmanjajefcaa

/- Layer 7: the law on ratios. -/
import Derived.Test.YtmmfmanjajefcaaGD
set_option linter.all false
namespace Go.Proofs.Ytmmfmanjajefcaa
open Go.RowKit

set_option maxRecDepth 100000 in
set_option maxHeartbeats 8000000 in
theorem GearsRatios_c (an ad bn bd num den : Int) (hn : Hid (num ≤ 9223372036854775807)) (hd : Hid (den ≤ 9223372036854775807)) (w : World) : Calls Try.prog 3 #[.agg #[.int .i64 an, .int .i64 ad], .agg #[.int .i64 bn, .int .i64 bd], .int .i64 num, .int .i64 den] w fun e w' => e = .returned (.bool true) ∧ Below w.heap.size w w' := by
  go_enter Try.func3, Try.ntmps3
  go_wp2_with fail
  obtain ⟨W1, hW2⟩ : ∃ Wzz, ((w.alloc (.cells #[.int .i64 an, .int .i64 ad] 23)).alloc (.cells #[.int .i64 bn, .int .i64 bd] 23)) = Wzz := ⟨_, rfl⟩
  have B3 := Lib.hid (show Below w.heap.size w W1 by rw [← hW2]; exact (((Below.refl w.heap.size w).alloc (Nat.le_refl _) _).alloc (by first | (simp; done) | (simp; omega)) _))
  have X4 := Lib.hid (show Box W1 (w.heap.size) 23 #[.int .i64 an, .int .i64 ad] by rw [← hW2]; exact Box.alloc (Box.made w 23 #[.int .i64 an, .int .i64 ad]) (.cells #[.int .i64 bn, .int .i64 bd] 23))
  have X5 := Lib.hid (show Box W1 (w.heap.size + 1) 23 #[.int .i64 bn, .int .i64 bd] by
    have hz := Box.made (w.alloc (.cells #[.int .i64 an, .int .i64 ad] 23)) 23 #[.int .i64 bn, .int .i64 bd]
    rw [World.size_alloc] at hz
    rw [← hW2]; exact hz)
  have SZ6 := Lib.hid (show W1.heap.size = w.heap.size + 1 + 1 by rw [← hW2]; simp)
  rw [hW2]
  clear hW2
  have q7 : W1.cell? ⟨w.heap.size, 0, none⟩ = some (.int .i64 an) := X4.out.cell 0
  have q8 : W1.cell? ⟨w.heap.size, 1, none⟩ = some (.int .i64 ad) := X4.out.cell 1
  have q9 : W1.cell? ⟨w.heap.size + 1, 0, none⟩ = some (.int .i64 bn) := X5.out.cell 0
  have q10 : W1.cell? ⟨w.heap.size + 1, 1, none⟩ = some (.int .i64 bd) := X5.out.cell 1
  obtain ⟨⟨xn, xd, xe⟩, hx⟩ : ∃ x, reR num den = x := ⟨_, rfl⟩
  have Hx := Lib.hid hx
  clear hx
  go_wp2_with fail
  refine (Reduce_c num den _ hn.out hd.out).mono ?_; rintro e v11 ⟨rfl, hb12⟩
  have X13 := Lib.hid (X4.out.later hb12)
  have X14 := Lib.hid (X5.out.later hb12)
  have B15 := Lib.hid (B3.out.trans (hb12.mono B3.out.size))
  clear hb12
  rw [Hx.out]
  clear q7 q8 q9 q10
  have q16 : v11.cell? ⟨w.heap.size, 0, none⟩ = some (.int .i64 an) := X13.out.cell 0
  have q17 : v11.cell? ⟨w.heap.size, 1, none⟩ = some (.int .i64 ad) := X13.out.cell 1
  have q18 : v11.cell? ⟨w.heap.size + 1, 0, none⟩ = some (.int .i64 bn) := X14.out.cell 0
  have q19 : v11.cell? ⟨w.heap.size + 1, 1, none⟩ = some (.int .i64 bd) := X14.out.cell 1
  have X20 := Lib.hid (X13.out.alloc (.cells #[.int .i64 xn, .int .i64 xd] 23))
  have X21 := Lib.hid (X14.out.alloc (.cells #[.int .i64 xn, .int .i64 xd] 23))
  have B22 := Lib.hid (B15.out.alloc B15.out.size (.cells #[.int .i64 xn, .int .i64 xd] 23))
  have X23 := Lib.hid (Box.made v11 23 #[.int .i64 xn, .int .i64 xd])
  have q24 : (v11.alloc (.cells #[.int .i64 xn, .int .i64 xd] 23)).cell? ⟨w.heap.size, 0, none⟩ = some (.int .i64 an) := X20.out.cell 0
  have q25 : (v11.alloc (.cells #[.int .i64 xn, .int .i64 xd] 23)).cell? ⟨w.heap.size, 1, none⟩ = some (.int .i64 ad) := X20.out.cell 1
  have q26 : (v11.alloc (.cells #[.int .i64 xn, .int .i64 xd] 23)).cell? ⟨w.heap.size + 1, 0, none⟩ = some (.int .i64 bn) := X21.out.cell 0
  have q27 : (v11.alloc (.cells #[.int .i64 xn, .int .i64 xd] 23)).cell? ⟨w.heap.size + 1, 1, none⟩ = some (.int .i64 bd) := X21.out.cell 1
  have q28 : (v11.alloc (.cells #[.int .i64 xn, .int .i64 xd] 23)).cell? ⟨v11.heap.size, 0, none⟩ = some (.int .i64 xn) := X23.out.cell 0
  have q29 : (v11.alloc (.cells #[.int .i64 xn, .int .i64 xd] 23)).cell? ⟨v11.heap.size, 1, none⟩ = some (.int .i64 xd) := X23.out.cell 1
  go_wp2_with fail
  refine (rReduce_c num den _ hn.out hd.out).mono ?_; rintro e v30 ⟨rfl, hb31⟩
  have X32 := Lib.hid (X20.out.later hb31)
  have X33 := Lib.hid (X21.out.later hb31)
  have X34 := Lib.hid (X23.out.later hb31)
  have B35 := Lib.hid (B22.out.trans (hb31.mono B22.out.size))
  clear hb31
  rw [Hx.out]
  clear q24 q25 q26 q27 q28 q29 q16 q17 q18 q19
  have q36 : v30.cell? ⟨w.heap.size, 0, none⟩ = some (.int .i64 an) := X32.out.cell 0
  have q37 : v30.cell? ⟨w.heap.size, 1, none⟩ = some (.int .i64 ad) := X32.out.cell 1
  have q38 : v30.cell? ⟨w.heap.size + 1, 0, none⟩ = some (.int .i64 bn) := X33.out.cell 0
  have q39 : v30.cell? ⟨w.heap.size + 1, 1, none⟩ = some (.int .i64 bd) := X33.out.cell 1
  have q40 : v30.cell? ⟨v11.heap.size, 0, none⟩ = some (.int .i64 xn) := X34.out.cell 0
  have q41 : v30.cell? ⟨v11.heap.size, 1, none⟩ = some (.int .i64 xd) := X34.out.cell 1
  have LT42 := Lib.hid X34.out.lt
  have X43 := Lib.hid (X32.out.alloc (.cells #[.int .i64 xn, .int .i64 xd] 23))
  have X44 := Lib.hid (X33.out.alloc (.cells #[.int .i64 xn, .int .i64 xd] 23))
  have X45 := Lib.hid (X34.out.alloc (.cells #[.int .i64 xn, .int .i64 xd] 23))
  have B46 := Lib.hid (B35.out.alloc B35.out.size (.cells #[.int .i64 xn, .int .i64 xd] 23))
  have X47 := Lib.hid (Box.made v30 23 #[.int .i64 xn, .int .i64 xd])
  have q48 : (v30.alloc (.cells #[.int .i64 xn, .int .i64 xd] 23)).cell? ⟨w.heap.size, 0, none⟩ = some (.int .i64 an) := X43.out.cell 0
  have q49 : (v30.alloc (.cells #[.int .i64 xn, .int .i64 xd] 23)).cell? ⟨w.heap.size, 1, none⟩ = some (.int .i64 ad) := X43.out.cell 1
  have q50 : (v30.alloc (.cells #[.int .i64 xn, .int .i64 xd] 23)).cell? ⟨w.heap.size + 1, 0, none⟩ = some (.int .i64 bn) := X44.out.cell 0
  have q51 : (v30.alloc (.cells #[.int .i64 xn, .int .i64 xd] 23)).cell? ⟨w.heap.size + 1, 1, none⟩ = some (.int .i64 bd) := X44.out.cell 1
  have q52 : (v30.alloc (.cells #[.int .i64 xn, .int .i64 xd] 23)).cell? ⟨v11.heap.size, 0, none⟩ = some (.int .i64 xn) := X45.out.cell 0
  have q53 : (v30.alloc (.cells #[.int .i64 xn, .int .i64 xd] 23)).cell? ⟨v11.heap.size, 1, none⟩ = some (.int .i64 xd) := X45.out.cell 1
  have q54 : (v30.alloc (.cells #[.int .i64 xn, .int .i64 xd] 23)).cell? ⟨v30.heap.size, 0, none⟩ = some (.int .i64 xn) := X47.out.cell 0
  have q55 : (v30.alloc (.cells #[.int .i64 xn, .int .i64 xd] 23)).cell? ⟨v30.heap.size, 1, none⟩ = some (.int .i64 xd) := X47.out.cell 1
  obtain ⟨⟨mn, md, me⟩, hm⟩ : ∃ x, tmR an ad bn bd = x := ⟨_, rfl⟩
  have Hm := Lib.hid hm
  clear hm
  go_wp2_with fail
  refine (Times_c an ad bn bd _).mono ?_; rintro e v56 ⟨rfl, hb57⟩
  have X58 := Lib.hid (X43.out.later hb57)
  have X59 := Lib.hid (X44.out.later hb57)
  have X60 := Lib.hid (X45.out.later hb57)
  have X61 := Lib.hid (X47.out.later hb57)
  have B62 := Lib.hid (B46.out.trans (hb57.mono B46.out.size))
  clear hb57
  rw [Hm.out]
  clear q48 q49 q50 q51 q52 q53 q54 q55 q36 q37 q38 q39 q40 q41
  have q63 : v56.cell? ⟨w.heap.size, 0, none⟩ = some (.int .i64 an) := X58.out.cell 0
  have q64 : v56.cell? ⟨w.heap.size, 1, none⟩ = some (.int .i64 ad) := X58.out.cell 1
  have q65 : v56.cell? ⟨w.heap.size + 1, 0, none⟩ = some (.int .i64 bn) := X59.out.cell 0
  have q66 : v56.cell? ⟨w.heap.size + 1, 1, none⟩ = some (.int .i64 bd) := X59.out.cell 1
  have q67 : v56.cell? ⟨v11.heap.size, 0, none⟩ = some (.int .i64 xn) := X60.out.cell 0
  have q68 : v56.cell? ⟨v11.heap.size, 1, none⟩ = some (.int .i64 xd) := X60.out.cell 1
  have q69 : v56.cell? ⟨v30.heap.size, 0, none⟩ = some (.int .i64 xn) := X61.out.cell 0
  have q70 : v56.cell? ⟨v30.heap.size, 1, none⟩ = some (.int .i64 xd) := X61.out.cell 1
  have LT71 := Lib.hid X60.out.lt
  have X72 := Lib.hid (X58.out.alloc (.cells #[.int .i64 mn, .int .i64 md] 23))
  have X73 := Lib.hid (X59.out.alloc (.cells #[.int .i64 mn, .int .i64 md] 23))
  have X74 := Lib.hid (X60.out.alloc (.cells #[.int .i64 mn, .int .i64 md] 23))
  have X75 := Lib.hid (X61.out.alloc (.cells #[.int .i64 mn, .int .i64 md] 23))
  have B76 := Lib.hid (B62.out.alloc B62.out.size (.cells #[.int .i64 mn, .int .i64 md] 23))
  have X77 := Lib.hid (Box.made v56 23 #[.int .i64 mn, .int .i64 md])
  have q78 : (v56.alloc (.cells #[.int .i64 mn, .int .i64 md] 23)).cell? ⟨w.heap.size, 0, none⟩ = some (.int .i64 an) := X72.out.cell 0
  have q79 : (v56.alloc (.cells #[.int .i64 mn, .int .i64 md] 23)).cell? ⟨w.heap.size, 1, none⟩ = some (.int .i64 ad) := X72.out.cell 1
  have q80 : (v56.alloc (.cells #[.int .i64 mn, .int .i64 md] 23)).cell? ⟨w.heap.size + 1, 0, none⟩ = some (.int .i64 bn) := X73.out.cell 0
  have q81 : (v56.alloc (.cells #[.int .i64 mn, .int .i64 md] 23)).cell? ⟨w.heap.size + 1, 1, none⟩ = some (.int .i64 bd) := X73.out.cell 1
  have q82 : (v56.alloc (.cells #[.int .i64 mn, .int .i64 md] 23)).cell? ⟨v11.heap.size, 0, none⟩ = some (.int .i64 xn) := X74.out.cell 0
  have q83 : (v56.alloc (.cells #[.int .i64 mn, .int .i64 md] 23)).cell? ⟨v11.heap.size, 1, none⟩ = some (.int .i64 xd) := X74.out.cell 1
  have q84 : (v56.alloc (.cells #[.int .i64 mn, .int .i64 md] 23)).cell? ⟨v30.heap.size, 0, none⟩ = some (.int .i64 xn) := X75.out.cell 0
  have q85 : (v56.alloc (.cells #[.int .i64 mn, .int .i64 md] 23)).cell? ⟨v30.heap.size, 1, none⟩ = some (.int .i64 xd) := X75.out.cell 1
  have q86 : (v56.alloc (.cells #[.int .i64 mn, .int .i64 md] 23)).cell? ⟨v56.heap.size, 0, none⟩ = some (.int .i64 mn) := X77.out.cell 0
  have q87 : (v56.alloc (.cells #[.int .i64 mn, .int .i64 md] 23)).cell? ⟨v56.heap.size, 1, none⟩ = some (.int .i64 md) := X77.out.cell 1
  go_wp2_with fail
  refine (rTimes_c an ad bn bd _).mono ?_; rintro e v88 ⟨rfl, hb89⟩
  have X90 := Lib.hid (X72.out.later hb89)
  have X91 := Lib.hid (X73.out.later hb89)
  have X92 := Lib.hid (X74.out.later hb89)
  have X93 := Lib.hid (X75.out.later hb89)
  have X94 := Lib.hid (X77.out.later hb89)
  have B95 := Lib.hid (B76.out.trans (hb89.mono B76.out.size))
  clear hb89
  rw [Hm.out]
  clear q78 q79 q80 q81 q82 q83 q84 q85 q86 q87 q63 q64 q65 q66 q67 q68 q69 q70
  have q96 : v88.cell? ⟨w.heap.size, 0, none⟩ = some (.int .i64 an) := X90.out.cell 0
  have q97 : v88.cell? ⟨w.heap.size, 1, none⟩ = some (.int .i64 ad) := X90.out.cell 1
  have q98 : v88.cell? ⟨w.heap.size + 1, 0, none⟩ = some (.int .i64 bn) := X91.out.cell 0
  have q99 : v88.cell? ⟨w.heap.size + 1, 1, none⟩ = some (.int .i64 bd) := X91.out.cell 1
  have q100 : v88.cell? ⟨v11.heap.size, 0, none⟩ = some (.int .i64 xn) := X92.out.cell 0
  have q101 : v88.cell? ⟨v11.heap.size, 1, none⟩ = some (.int .i64 xd) := X92.out.cell 1
  have q102 : v88.cell? ⟨v30.heap.size, 0, none⟩ = some (.int .i64 xn) := X93.out.cell 0
  have q103 : v88.cell? ⟨v30.heap.size, 1, none⟩ = some (.int .i64 xd) := X93.out.cell 1
  have q104 : v88.cell? ⟨v56.heap.size, 0, none⟩ = some (.int .i64 mn) := X94.out.cell 0
  have q105 : v88.cell? ⟨v56.heap.size, 1, none⟩ = some (.int .i64 md) := X94.out.cell 1
  have LT106 := Lib.hid X92.out.lt
  have X107 := Lib.hid (X90.out.alloc (.cells #[.int .i64 mn, .int .i64 md] 23))
  have X108 := Lib.hid (X91.out.alloc (.cells #[.int .i64 mn, .int .i64 md] 23))
  have X109 := Lib.hid (X92.out.alloc (.cells #[.int .i64 mn, .int .i64 md] 23))
  have X110 := Lib.hid (X93.out.alloc (.cells #[.int .i64 mn, .int .i64 md] 23))
  have X111 := Lib.hid (X94.out.alloc (.cells #[.int .i64 mn, .int .i64 md] 23))
  have B112 := Lib.hid (B95.out.alloc B95.out.size (.cells #[.int .i64 mn, .int .i64 md] 23))
  have X113 := Lib.hid (Box.made v88 23 #[.int .i64 mn, .int .i64 md])
  have q114 : (v88.alloc (.cells #[.int .i64 mn, .int .i64 md] 23)).cell? ⟨w.heap.size, 0, none⟩ = some (.int .i64 an) := X107.out.cell 0
  have q115 : (v88.alloc (.cells #[.int .i64 mn, .int .i64 md] 23)).cell? ⟨w.heap.size, 1, none⟩ = some (.int .i64 ad) := X107.out.cell 1
  have q116 : (v88.alloc (.cells #[.int .i64 mn, .int .i64 md] 23)).cell? ⟨w.heap.size + 1, 0, none⟩ = some (.int .i64 bn) := X108.out.cell 0
  have q117 : (v88.alloc (.cells #[.int .i64 mn, .int .i64 md] 23)).cell? ⟨w.heap.size + 1, 1, none⟩ = some (.int .i64 bd) := X108.out.cell 1
  have q118 : (v88.alloc (.cells #[.int .i64 mn, .int .i64 md] 23)).cell? ⟨v11.heap.size, 0, none⟩ = some (.int .i64 xn) := X109.out.cell 0
  have q119 : (v88.alloc (.cells #[.int .i64 mn, .int .i64 md] 23)).cell? ⟨v11.heap.size, 1, none⟩ = some (.int .i64 xd) := X109.out.cell 1
  have q120 : (v88.alloc (.cells #[.int .i64 mn, .int .i64 md] 23)).cell? ⟨v30.heap.size, 0, none⟩ = some (.int .i64 xn) := X110.out.cell 0
  have q121 : (v88.alloc (.cells #[.int .i64 mn, .int .i64 md] 23)).cell? ⟨v30.heap.size, 1, none⟩ = some (.int .i64 xd) := X110.out.cell 1
  have q122 : (v88.alloc (.cells #[.int .i64 mn, .int .i64 md] 23)).cell? ⟨v56.heap.size, 0, none⟩ = some (.int .i64 mn) := X111.out.cell 0
  have q123 : (v88.alloc (.cells #[.int .i64 mn, .int .i64 md] 23)).cell? ⟨v56.heap.size, 1, none⟩ = some (.int .i64 md) := X111.out.cell 1
  have q124 : (v88.alloc (.cells #[.int .i64 mn, .int .i64 md] 23)).cell? ⟨v88.heap.size, 0, none⟩ = some (.int .i64 mn) := X113.out.cell 0
  have q125 : (v88.alloc (.cells #[.int .i64 mn, .int .i64 md] 23)).cell? ⟨v88.heap.size, 1, none⟩ = some (.int .i64 md) := X113.out.cell 1
  obtain ⟨⟨pn, pd, pe⟩, hp⟩ : ∃ x, plR an ad bn bd = x := ⟨_, rfl⟩
  have Hp := Lib.hid hp
  clear hp
  go_wp2_with fail
  refine (Plus_c an ad bn bd _).mono ?_; rintro e v126 ⟨rfl, hb127⟩
  have X128 := Lib.hid (X107.out.later hb127)
  have X129 := Lib.hid (X108.out.later hb127)
  have X130 := Lib.hid (X109.out.later hb127)
  have X131 := Lib.hid (X110.out.later hb127)
  have X132 := Lib.hid (X111.out.later hb127)
  have X133 := Lib.hid (X113.out.later hb127)
  have B134 := Lib.hid (B112.out.trans (hb127.mono B112.out.size))
  clear hb127
  rw [Hp.out]
  clear q114 q115 q116 q117 q118 q119 q120 q121 q122 q123 q124 q125 q96 q97 q98 q99 q100 q101 q102 q103 q104 q105
  have q135 : v126.cell? ⟨w.heap.size, 0, none⟩ = some (.int .i64 an) := X128.out.cell 0
  have q136 : v126.cell? ⟨w.heap.size, 1, none⟩ = some (.int .i64 ad) := X128.out.cell 1
  have q137 : v126.cell? ⟨w.heap.size + 1, 0, none⟩ = some (.int .i64 bn) := X129.out.cell 0
  have q138 : v126.cell? ⟨w.heap.size + 1, 1, none⟩ = some (.int .i64 bd) := X129.out.cell 1
  have q139 : v126.cell? ⟨v11.heap.size, 0, none⟩ = some (.int .i64 xn) := X130.out.cell 0
  have q140 : v126.cell? ⟨v11.heap.size, 1, none⟩ = some (.int .i64 xd) := X130.out.cell 1
  have q141 : v126.cell? ⟨v30.heap.size, 0, none⟩ = some (.int .i64 xn) := X131.out.cell 0
  have q142 : v126.cell? ⟨v30.heap.size, 1, none⟩ = some (.int .i64 xd) := X131.out.cell 1
  have q143 : v126.cell? ⟨v56.heap.size, 0, none⟩ = some (.int .i64 mn) := X132.out.cell 0
  have q144 : v126.cell? ⟨v56.heap.size, 1, none⟩ = some (.int .i64 md) := X132.out.cell 1
  have q145 : v126.cell? ⟨v88.heap.size, 0, none⟩ = some (.int .i64 mn) := X133.out.cell 0
  have q146 : v126.cell? ⟨v88.heap.size, 1, none⟩ = some (.int .i64 md) := X133.out.cell 1
  have LT147 := Lib.hid X130.out.lt
  have X148 := Lib.hid (X128.out.alloc (.cells #[.int .i64 pn, .int .i64 pd] 23))
  have X149 := Lib.hid (X129.out.alloc (.cells #[.int .i64 pn, .int .i64 pd] 23))
  have X150 := Lib.hid (X130.out.alloc (.cells #[.int .i64 pn, .int .i64 pd] 23))
  have X151 := Lib.hid (X131.out.alloc (.cells #[.int .i64 pn, .int .i64 pd] 23))
  have X152 := Lib.hid (X132.out.alloc (.cells #[.int .i64 pn, .int .i64 pd] 23))
  have X153 := Lib.hid (X133.out.alloc (.cells #[.int .i64 pn, .int .i64 pd] 23))
  have B154 := Lib.hid (B134.out.alloc B134.out.size (.cells #[.int .i64 pn, .int .i64 pd] 23))
  have X155 := Lib.hid (Box.made v126 23 #[.int .i64 pn, .int .i64 pd])
  have q156 : (v126.alloc (.cells #[.int .i64 pn, .int .i64 pd] 23)).cell? ⟨w.heap.size, 0, none⟩ = some (.int .i64 an) := X148.out.cell 0
  have q157 : (v126.alloc (.cells #[.int .i64 pn, .int .i64 pd] 23)).cell? ⟨w.heap.size, 1, none⟩ = some (.int .i64 ad) := X148.out.cell 1
  have q158 : (v126.alloc (.cells #[.int .i64 pn, .int .i64 pd] 23)).cell? ⟨w.heap.size + 1, 0, none⟩ = some (.int .i64 bn) := X149.out.cell 0
  have q159 : (v126.alloc (.cells #[.int .i64 pn, .int .i64 pd] 23)).cell? ⟨w.heap.size + 1, 1, none⟩ = some (.int .i64 bd) := X149.out.cell 1
  have q160 : (v126.alloc (.cells #[.int .i64 pn, .int .i64 pd] 23)).cell? ⟨v11.heap.size, 0, none⟩ = some (.int .i64 xn) := X150.out.cell 0
  have q161 : (v126.alloc (.cells #[.int .i64 pn, .int .i64 pd] 23)).cell? ⟨v11.heap.size, 1, none⟩ = some (.int .i64 xd) := X150.out.cell 1
  have q162 : (v126.alloc (.cells #[.int .i64 pn, .int .i64 pd] 23)).cell? ⟨v30.heap.size, 0, none⟩ = some (.int .i64 xn) := X151.out.cell 0
  have q163 : (v126.alloc (.cells #[.int .i64 pn, .int .i64 pd] 23)).cell? ⟨v30.heap.size, 1, none⟩ = some (.int .i64 xd) := X151.out.cell 1
  have q164 : (v126.alloc (.cells #[.int .i64 pn, .int .i64 pd] 23)).cell? ⟨v56.heap.size, 0, none⟩ = some (.int .i64 mn) := X152.out.cell 0
  have q165 : (v126.alloc (.cells #[.int .i64 pn, .int .i64 pd] 23)).cell? ⟨v56.heap.size, 1, none⟩ = some (.int .i64 md) := X152.out.cell 1
  have q166 : (v126.alloc (.cells #[.int .i64 pn, .int .i64 pd] 23)).cell? ⟨v88.heap.size, 0, none⟩ = some (.int .i64 mn) := X153.out.cell 0
  have q167 : (v126.alloc (.cells #[.int .i64 pn, .int .i64 pd] 23)).cell? ⟨v88.heap.size, 1, none⟩ = some (.int .i64 md) := X153.out.cell 1
  have q168 : (v126.alloc (.cells #[.int .i64 pn, .int .i64 pd] 23)).cell? ⟨v126.heap.size, 0, none⟩ = some (.int .i64 pn) := X155.out.cell 0
  have q169 : (v126.alloc (.cells #[.int .i64 pn, .int .i64 pd] 23)).cell? ⟨v126.heap.size, 1, none⟩ = some (.int .i64 pd) := X155.out.cell 1
  go_wp2_with fail
  refine (rPlus_c an ad bn bd _).mono ?_; rintro e v170 ⟨rfl, hb171⟩
  have X172 := Lib.hid (X148.out.later hb171)
  have X173 := Lib.hid (X149.out.later hb171)
  have X174 := Lib.hid (X150.out.later hb171)
  have X175 := Lib.hid (X151.out.later hb171)
  have X176 := Lib.hid (X152.out.later hb171)
  have X177 := Lib.hid (X153.out.later hb171)
  have X178 := Lib.hid (X155.out.later hb171)
  have B179 := Lib.hid (B154.out.trans (hb171.mono B154.out.size))
  clear hb171
  rw [Hp.out]
  clear q156 q157 q158 q159 q160 q161 q162 q163 q164 q165 q166 q167 q168 q169 q135 q136 q137 q138 q139 q140 q141 q142 q143 q144 q145 q146
  have q180 : v170.cell? ⟨w.heap.size, 0, none⟩ = some (.int .i64 an) := X172.out.cell 0
  have q181 : v170.cell? ⟨w.heap.size, 1, none⟩ = some (.int .i64 ad) := X172.out.cell 1
  have q182 : v170.cell? ⟨w.heap.size + 1, 0, none⟩ = some (.int .i64 bn) := X173.out.cell 0
  have q183 : v170.cell? ⟨w.heap.size + 1, 1, none⟩ = some (.int .i64 bd) := X173.out.cell 1
  have q184 : v170.cell? ⟨v11.heap.size, 0, none⟩ = some (.int .i64 xn) := X174.out.cell 0
  have q185 : v170.cell? ⟨v11.heap.size, 1, none⟩ = some (.int .i64 xd) := X174.out.cell 1
  have q186 : v170.cell? ⟨v30.heap.size, 0, none⟩ = some (.int .i64 xn) := X175.out.cell 0
  have q187 : v170.cell? ⟨v30.heap.size, 1, none⟩ = some (.int .i64 xd) := X175.out.cell 1
  have q188 : v170.cell? ⟨v56.heap.size, 0, none⟩ = some (.int .i64 mn) := X176.out.cell 0
  have q189 : v170.cell? ⟨v56.heap.size, 1, none⟩ = some (.int .i64 md) := X176.out.cell 1
  have q190 : v170.cell? ⟨v88.heap.size, 0, none⟩ = some (.int .i64 mn) := X177.out.cell 0
  have q191 : v170.cell? ⟨v88.heap.size, 1, none⟩ = some (.int .i64 md) := X177.out.cell 1
  have q192 : v170.cell? ⟨v126.heap.size, 0, none⟩ = some (.int .i64 pn) := X178.out.cell 0
  have q193 : v170.cell? ⟨v126.heap.size, 1, none⟩ = some (.int .i64 pd) := X178.out.cell 1
  have LT194 := Lib.hid X174.out.lt
  have X195 := Lib.hid (X172.out.alloc (.cells #[.int .i64 pn, .int .i64 pd] 23))
  have X196 := Lib.hid (X173.out.alloc (.cells #[.int .i64 pn, .int .i64 pd] 23))
  have X197 := Lib.hid (X174.out.alloc (.cells #[.int .i64 pn, .int .i64 pd] 23))
  have X198 := Lib.hid (X175.out.alloc (.cells #[.int .i64 pn, .int .i64 pd] 23))
  have X199 := Lib.hid (X176.out.alloc (.cells #[.int .i64 pn, .int .i64 pd] 23))
  have X200 := Lib.hid (X177.out.alloc (.cells #[.int .i64 pn, .int .i64 pd] 23))
  have X201 := Lib.hid (X178.out.alloc (.cells #[.int .i64 pn, .int .i64 pd] 23))
  have B202 := Lib.hid (B179.out.alloc B179.out.size (.cells #[.int .i64 pn, .int .i64 pd] 23))
  have X203 := Lib.hid (Box.made v170 23 #[.int .i64 pn, .int .i64 pd])
  have q204 : (v170.alloc (.cells #[.int .i64 pn, .int .i64 pd] 23)).cell? ⟨w.heap.size, 0, none⟩ = some (.int .i64 an) := X195.out.cell 0
  have q205 : (v170.alloc (.cells #[.int .i64 pn, .int .i64 pd] 23)).cell? ⟨w.heap.size, 1, none⟩ = some (.int .i64 ad) := X195.out.cell 1
  have q206 : (v170.alloc (.cells #[.int .i64 pn, .int .i64 pd] 23)).cell? ⟨w.heap.size + 1, 0, none⟩ = some (.int .i64 bn) := X196.out.cell 0
  have q207 : (v170.alloc (.cells #[.int .i64 pn, .int .i64 pd] 23)).cell? ⟨w.heap.size + 1, 1, none⟩ = some (.int .i64 bd) := X196.out.cell 1
  have q208 : (v170.alloc (.cells #[.int .i64 pn, .int .i64 pd] 23)).cell? ⟨v11.heap.size, 0, none⟩ = some (.int .i64 xn) := X197.out.cell 0
  have q209 : (v170.alloc (.cells #[.int .i64 pn, .int .i64 pd] 23)).cell? ⟨v11.heap.size, 1, none⟩ = some (.int .i64 xd) := X197.out.cell 1
  have q210 : (v170.alloc (.cells #[.int .i64 pn, .int .i64 pd] 23)).cell? ⟨v30.heap.size, 0, none⟩ = some (.int .i64 xn) := X198.out.cell 0
  have q211 : (v170.alloc (.cells #[.int .i64 pn, .int .i64 pd] 23)).cell? ⟨v30.heap.size, 1, none⟩ = some (.int .i64 xd) := X198.out.cell 1
  have q212 : (v170.alloc (.cells #[.int .i64 pn, .int .i64 pd] 23)).cell? ⟨v56.heap.size, 0, none⟩ = some (.int .i64 mn) := X199.out.cell 0
  have q213 : (v170.alloc (.cells #[.int .i64 pn, .int .i64 pd] 23)).cell? ⟨v56.heap.size, 1, none⟩ = some (.int .i64 md) := X199.out.cell 1
  have q214 : (v170.alloc (.cells #[.int .i64 pn, .int .i64 pd] 23)).cell? ⟨v88.heap.size, 0, none⟩ = some (.int .i64 mn) := X200.out.cell 0
  have q215 : (v170.alloc (.cells #[.int .i64 pn, .int .i64 pd] 23)).cell? ⟨v88.heap.size, 1, none⟩ = some (.int .i64 md) := X200.out.cell 1
  have q216 : (v170.alloc (.cells #[.int .i64 pn, .int .i64 pd] 23)).cell? ⟨v126.heap.size, 0, none⟩ = some (.int .i64 pn) := X201.out.cell 0
  have q217 : (v170.alloc (.cells #[.int .i64 pn, .int .i64 pd] 23)).cell? ⟨v126.heap.size, 1, none⟩ = some (.int .i64 pd) := X201.out.cell 1
  have q218 : (v170.alloc (.cells #[.int .i64 pn, .int .i64 pd] 23)).cell? ⟨v170.heap.size, 0, none⟩ = some (.int .i64 pn) := X203.out.cell 0
  have q219 : (v170.alloc (.cells #[.int .i64 pn, .int .i64 pd] 23)).cell? ⟨v170.heap.size, 1, none⟩ = some (.int .i64 pd) := X203.out.cell 1
  obtain ⟨cn, hcn⟩ : ∃ x, cpN an ad bn bd = x := ⟨_, rfl⟩
  obtain ⟨ce, hce⟩ : ∃ x, cpE an ad bn bd = x := ⟨_, rfl⟩
  have HC := Lib.hid (And.intro hcn hce)
  clear hcn hce
  go_wp2_with fail
  refine (Compare_c an ad bn bd _).mono ?_; rintro e v220 ⟨rfl, hb221⟩
  have X222 := Lib.hid (X195.out.later hb221)
  have X223 := Lib.hid (X196.out.later hb221)
  have X224 := Lib.hid (X197.out.later hb221)
  have X225 := Lib.hid (X198.out.later hb221)
  have X226 := Lib.hid (X199.out.later hb221)
  have X227 := Lib.hid (X200.out.later hb221)
  have X228 := Lib.hid (X201.out.later hb221)
  have X229 := Lib.hid (X203.out.later hb221)
  have B230 := Lib.hid (B202.out.trans (hb221.mono B202.out.size))
  clear hb221
  rw [HC.out.1, HC.out.2]
  clear q204 q205 q206 q207 q208 q209 q210 q211 q212 q213 q214 q215 q216 q217 q218 q219 q180 q181 q182 q183 q184 q185 q186 q187 q188 q189 q190 q191 q192 q193
  have q231 : v220.cell? ⟨w.heap.size, 0, none⟩ = some (.int .i64 an) := X222.out.cell 0
  have q232 : v220.cell? ⟨w.heap.size, 1, none⟩ = some (.int .i64 ad) := X222.out.cell 1
  have q233 : v220.cell? ⟨w.heap.size + 1, 0, none⟩ = some (.int .i64 bn) := X223.out.cell 0
  have q234 : v220.cell? ⟨w.heap.size + 1, 1, none⟩ = some (.int .i64 bd) := X223.out.cell 1
  have q235 : v220.cell? ⟨v11.heap.size, 0, none⟩ = some (.int .i64 xn) := X224.out.cell 0
  have q236 : v220.cell? ⟨v11.heap.size, 1, none⟩ = some (.int .i64 xd) := X224.out.cell 1
  have q237 : v220.cell? ⟨v30.heap.size, 0, none⟩ = some (.int .i64 xn) := X225.out.cell 0
  have q238 : v220.cell? ⟨v30.heap.size, 1, none⟩ = some (.int .i64 xd) := X225.out.cell 1
  have q239 : v220.cell? ⟨v56.heap.size, 0, none⟩ = some (.int .i64 mn) := X226.out.cell 0
  have q240 : v220.cell? ⟨v56.heap.size, 1, none⟩ = some (.int .i64 md) := X226.out.cell 1
  have q241 : v220.cell? ⟨v88.heap.size, 0, none⟩ = some (.int .i64 mn) := X227.out.cell 0
  have q242 : v220.cell? ⟨v88.heap.size, 1, none⟩ = some (.int .i64 md) := X227.out.cell 1
  have q243 : v220.cell? ⟨v126.heap.size, 0, none⟩ = some (.int .i64 pn) := X228.out.cell 0
  have q244 : v220.cell? ⟨v126.heap.size, 1, none⟩ = some (.int .i64 pd) := X228.out.cell 1
  have q245 : v220.cell? ⟨v170.heap.size, 0, none⟩ = some (.int .i64 pn) := X229.out.cell 0
  have q246 : v220.cell? ⟨v170.heap.size, 1, none⟩ = some (.int .i64 pd) := X229.out.cell 1
  go_wp2_with fail
  refine (rCompare_c an ad bn bd _).mono ?_; rintro e v247 ⟨rfl, hb248⟩
  have X249 := Lib.hid (X222.out.later hb248)
  have X250 := Lib.hid (X223.out.later hb248)
  have X251 := Lib.hid (X224.out.later hb248)
  have X252 := Lib.hid (X225.out.later hb248)
  have X253 := Lib.hid (X226.out.later hb248)
  have X254 := Lib.hid (X227.out.later hb248)
  have X255 := Lib.hid (X228.out.later hb248)
  have X256 := Lib.hid (X229.out.later hb248)
  have B257 := Lib.hid (B230.out.trans (hb248.mono B230.out.size))
  clear hb248
  rw [HC.out.1, HC.out.2]
  clear q231 q232 q233 q234 q235 q236 q237 q238 q239 q240 q241 q242 q243 q244 q245 q246
  have q258 : v247.cell? ⟨w.heap.size, 0, none⟩ = some (.int .i64 an) := X249.out.cell 0
  have q259 : v247.cell? ⟨w.heap.size, 1, none⟩ = some (.int .i64 ad) := X249.out.cell 1
  have q260 : v247.cell? ⟨w.heap.size + 1, 0, none⟩ = some (.int .i64 bn) := X250.out.cell 0
  have q261 : v247.cell? ⟨w.heap.size + 1, 1, none⟩ = some (.int .i64 bd) := X250.out.cell 1
  have q262 : v247.cell? ⟨v11.heap.size, 0, none⟩ = some (.int .i64 xn) := X251.out.cell 0
  have q263 : v247.cell? ⟨v11.heap.size, 1, none⟩ = some (.int .i64 xd) := X251.out.cell 1
  have q264 : v247.cell? ⟨v30.heap.size, 0, none⟩ = some (.int .i64 xn) := X252.out.cell 0
  have q265 : v247.cell? ⟨v30.heap.size, 1, none⟩ = some (.int .i64 xd) := X252.out.cell 1
  have q266 : v247.cell? ⟨v56.heap.size, 0, none⟩ = some (.int .i64 mn) := X253.out.cell 0
  have q267 : v247.cell? ⟨v56.heap.size, 1, none⟩ = some (.int .i64 md) := X253.out.cell 1
  have q268 : v247.cell? ⟨v88.heap.size, 0, none⟩ = some (.int .i64 mn) := X254.out.cell 0
  have q269 : v247.cell? ⟨v88.heap.size, 1, none⟩ = some (.int .i64 md) := X254.out.cell 1
  have q270 : v247.cell? ⟨v126.heap.size, 0, none⟩ = some (.int .i64 pn) := X255.out.cell 0
  have q271 : v247.cell? ⟨v126.heap.size, 1, none⟩ = some (.int .i64 pd) := X255.out.cell 1
  have q272 : v247.cell? ⟨v170.heap.size, 0, none⟩ = some (.int .i64 pn) := X256.out.cell 0
  have q273 : v247.cell? ⟨v170.heap.size, 1, none⟩ = some (.int .i64 pd) := X256.out.cell 1
  go_wp2_with fail
  refine ratios9_c an ad xn xd mn md pn pd xe me pe cn ce _ _ _ _ _ _ _ _ _ _ _ _ _ _ _ _ _ _ _ _ _ _ _ _ _ _ _ _ _ _ _ _ _ _ _ _ _ _ _ _ _ _ _ _ _ _ _ _ _ _ _ _ _ _ _ _ _ _ _ _ _ _ _ _ _ _ _ _ _ _ _ _ _ _ _ _ _ _ _ _ _ _ _ _ _ _ _ _ _ _ _ _ _ _ _ _ _ _ _ _ _ _ _ _ _ _ _ _ _ _ _ _ _ X249.out X251.out X252.out X253.out X254.out X255.out X256.out ?_
  intro _ _ _ _ _ _ _ _ _ _ _ _ _ _ _ _ _ _ _ _ _ _ _ _ _ _ _ _ _ _ _ _ _ _ _ _ _ _ _ _ _ _ _ _ _ _ _ _ w14 hb14
  have HB14 := Lib.hid (B257.out.trans (hb14.mono B257.out.size))
  clear hb14
  go_wp2_with fail
  go_ret
  exact ⟨rfl, HB14.out⟩

end Go.Proofs.Ytmmfmanjajefcaa

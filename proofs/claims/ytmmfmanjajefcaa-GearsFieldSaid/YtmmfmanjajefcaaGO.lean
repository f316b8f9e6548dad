/- Layer 7: the law on products and sums. -/
import Derived.Test.YtmmfmanjajefcaaGN
set_option linter.all false
namespace Go.Proofs.Ytmmfmanjajefcaa
open Go.RowKit

set_option maxRecDepth 100000 in
set_option maxHeartbeats 8000000 in
theorem GearsField_c (an ad bn bd cn cd : Int) (w : World) : Calls Try.prog 8 #[.agg #[.int .i64 an, .int .i64 ad], .agg #[.int .i64 bn, .int .i64 bd], .agg #[.int .i64 cn, .int .i64 cd]] w fun e w' => e = .returned (.bool true) ∧ Below w.heap.size w w' := by
  go_enter Try.func8, Try.ntmps8
  go_wp2_with fail
  obtain ⟨W1, hW2⟩ : ∃ Wzz, (((w.alloc (.cells #[.int .i64 an, .int .i64 ad] 23)).alloc (.cells #[.int .i64 bn, .int .i64 bd] 23)).alloc (.cells #[.int .i64 cn, .int .i64 cd] 23)) = Wzz := ⟨_, rfl⟩
  have B3 := Lib.hid (show Below w.heap.size w W1 by rw [← hW2]; exact ((((Below.refl w.heap.size w).alloc (Nat.le_refl _) _).alloc (by first | (simp; done) | (simp; omega)) _).alloc (by first | (simp; done) | (simp; omega)) _))
  have X4 := Lib.hid (show Box W1 (w.heap.size) 23 #[.int .i64 an, .int .i64 ad] by rw [← hW2]; exact Box.alloc (Box.alloc (Box.made w 23 #[.int .i64 an, .int .i64 ad]) (.cells #[.int .i64 bn, .int .i64 bd] 23)) (.cells #[.int .i64 cn, .int .i64 cd] 23))
  have X5 := Lib.hid (show Box W1 (w.heap.size + 1) 23 #[.int .i64 bn, .int .i64 bd] by
    have hz := Box.alloc (Box.made (w.alloc (.cells #[.int .i64 an, .int .i64 ad] 23)) 23 #[.int .i64 bn, .int .i64 bd]) (.cells #[.int .i64 cn, .int .i64 cd] 23)
    rw [World.size_alloc] at hz
    rw [← hW2]; exact hz)
  have X6 := Lib.hid (show Box W1 (w.heap.size + 1 + 1) 23 #[.int .i64 cn, .int .i64 cd] by
    have hz := Box.made ((w.alloc (.cells #[.int .i64 an, .int .i64 ad] 23)).alloc (.cells #[.int .i64 bn, .int .i64 bd] 23)) 23 #[.int .i64 cn, .int .i64 cd]
    rw [World.size_alloc, World.size_alloc] at hz
    rw [← hW2]; exact hz)
  have SZ7 := Lib.hid (show W1.heap.size = w.heap.size + 1 + 1 + 1 by rw [← hW2]; simp)
  rw [hW2]
  clear hW2
  have q8 : W1.cell? ⟨w.heap.size, 0, none⟩ = some (.int .i64 an) := X4.out.cell 0
  have q9 : W1.cell? ⟨w.heap.size, 1, none⟩ = some (.int .i64 ad) := X4.out.cell 1
  have q10 : W1.cell? ⟨w.heap.size + 1, 0, none⟩ = some (.int .i64 bn) := X5.out.cell 0
  have q11 : W1.cell? ⟨w.heap.size + 1, 1, none⟩ = some (.int .i64 bd) := X5.out.cell 1
  have q12 : W1.cell? ⟨w.heap.size + 1 + 1, 0, none⟩ = some (.int .i64 cn) := X6.out.cell 0
  have q13 : W1.cell? ⟨w.heap.size + 1 + 1, 1, none⟩ = some (.int .i64 cd) := X6.out.cell 1
  go_wp2_with fail
  refine (awake_c _).mono ?_; rintro e v14 ⟨rfl, hb15⟩
  have X16 := Lib.hid (X4.out.later hb15)
  have X17 := Lib.hid (X5.out.later hb15)
  have X18 := Lib.hid (X6.out.later hb15)
  have B19 := Lib.hid (B3.out.trans (hb15.mono B3.out.size))
  clear hb15
  clear q8 q9 q10 q11 q12 q13
  have q20 : v14.cell? ⟨w.heap.size, 0, none⟩ = some (.int .i64 an) := X16.out.cell 0
  have q21 : v14.cell? ⟨w.heap.size, 1, none⟩ = some (.int .i64 ad) := X16.out.cell 1
  have q22 : v14.cell? ⟨w.heap.size + 1, 0, none⟩ = some (.int .i64 bn) := X17.out.cell 0
  have q23 : v14.cell? ⟨w.heap.size + 1, 1, none⟩ = some (.int .i64 bd) := X17.out.cell 1
  have q24 : v14.cell? ⟨w.heap.size + 1 + 1, 0, none⟩ = some (.int .i64 cn) := X18.out.cell 0
  have q25 : v14.cell? ⟨w.heap.size + 1 + 1, 1, none⟩ = some (.int .i64 cd) := X18.out.cell 1
  obtain ⟨⟨mn, md, me⟩, hm9⟩ : ∃ X9, tmR an ad bn bd = X9 := ⟨_, rfl⟩
  have Hm := Lib.hid hm9
  clear hm9
  go_wp2_with fail
  refine (Times_c an ad bn bd _).mono ?_; rintro e v26 ⟨rfl, hb27⟩
  have X28 := Lib.hid (X16.out.later hb27)
  have X29 := Lib.hid (X17.out.later hb27)
  have X30 := Lib.hid (X18.out.later hb27)
  have B31 := Lib.hid (B19.out.trans (hb27.mono B19.out.size))
  clear hb27
  rw [Hm.out]
  clear q20 q21 q22 q23 q24 q25
  have q32 : v26.cell? ⟨w.heap.size, 0, none⟩ = some (.int .i64 an) := X28.out.cell 0
  have q33 : v26.cell? ⟨w.heap.size, 1, none⟩ = some (.int .i64 ad) := X28.out.cell 1
  have q34 : v26.cell? ⟨w.heap.size + 1, 0, none⟩ = some (.int .i64 bn) := X29.out.cell 0
  have q35 : v26.cell? ⟨w.heap.size + 1, 1, none⟩ = some (.int .i64 bd) := X29.out.cell 1
  have q36 : v26.cell? ⟨w.heap.size + 1 + 1, 0, none⟩ = some (.int .i64 cn) := X30.out.cell 0
  have q37 : v26.cell? ⟨w.heap.size + 1 + 1, 1, none⟩ = some (.int .i64 cd) := X30.out.cell 1
  have LT38 := Lib.hid X30.out.lt
  have X39 := Lib.hid (X28.out.alloc (.cells #[.int .i64 mn, .int .i64 md] 23))
  have X40 := Lib.hid (X29.out.alloc (.cells #[.int .i64 mn, .int .i64 md] 23))
  have X41 := Lib.hid (X30.out.alloc (.cells #[.int .i64 mn, .int .i64 md] 23))
  have B42 := Lib.hid (B31.out.alloc B31.out.size (.cells #[.int .i64 mn, .int .i64 md] 23))
  have X43 := Lib.hid (Box.made v26 23 #[.int .i64 mn, .int .i64 md])
  have q44 : (v26.alloc (.cells #[.int .i64 mn, .int .i64 md] 23)).cell? ⟨w.heap.size, 0, none⟩ = some (.int .i64 an) := X39.out.cell 0
  have q45 : (v26.alloc (.cells #[.int .i64 mn, .int .i64 md] 23)).cell? ⟨w.heap.size, 1, none⟩ = some (.int .i64 ad) := X39.out.cell 1
  have q46 : (v26.alloc (.cells #[.int .i64 mn, .int .i64 md] 23)).cell? ⟨w.heap.size + 1, 0, none⟩ = some (.int .i64 bn) := X40.out.cell 0
  have q47 : (v26.alloc (.cells #[.int .i64 mn, .int .i64 md] 23)).cell? ⟨w.heap.size + 1, 1, none⟩ = some (.int .i64 bd) := X40.out.cell 1
  have q48 : (v26.alloc (.cells #[.int .i64 mn, .int .i64 md] 23)).cell? ⟨w.heap.size + 1 + 1, 0, none⟩ = some (.int .i64 cn) := X41.out.cell 0
  have q49 : (v26.alloc (.cells #[.int .i64 mn, .int .i64 md] 23)).cell? ⟨w.heap.size + 1 + 1, 1, none⟩ = some (.int .i64 cd) := X41.out.cell 1
  have q50 : (v26.alloc (.cells #[.int .i64 mn, .int .i64 md] 23)).cell? ⟨v26.heap.size, 0, none⟩ = some (.int .i64 mn) := X43.out.cell 0
  have q51 : (v26.alloc (.cells #[.int .i64 mn, .int .i64 md] 23)).cell? ⟨v26.heap.size, 1, none⟩ = some (.int .i64 md) := X43.out.cell 1
  go_wp2_with fail
  refine (Times_c bn bd an ad _).mono ?_; rintro e v52 ⟨rfl, hb53⟩
  have X54 := Lib.hid (X39.out.later hb53)
  have X55 := Lib.hid (X40.out.later hb53)
  have X56 := Lib.hid (X41.out.later hb53)
  have X57 := Lib.hid (X43.out.later hb53)
  have B58 := Lib.hid (B42.out.trans (hb53.mono B42.out.size))
  clear hb53
  rw [tm_comm an ad bn bd, Hm.out]
  clear q44 q45 q46 q47 q48 q49 q50 q51 q32 q33 q34 q35 q36 q37
  have q59 : v52.cell? ⟨w.heap.size, 0, none⟩ = some (.int .i64 an) := X54.out.cell 0
  have q60 : v52.cell? ⟨w.heap.size, 1, none⟩ = some (.int .i64 ad) := X54.out.cell 1
  have q61 : v52.cell? ⟨w.heap.size + 1, 0, none⟩ = some (.int .i64 bn) := X55.out.cell 0
  have q62 : v52.cell? ⟨w.heap.size + 1, 1, none⟩ = some (.int .i64 bd) := X55.out.cell 1
  have q63 : v52.cell? ⟨w.heap.size + 1 + 1, 0, none⟩ = some (.int .i64 cn) := X56.out.cell 0
  have q64 : v52.cell? ⟨w.heap.size + 1 + 1, 1, none⟩ = some (.int .i64 cd) := X56.out.cell 1
  have q65 : v52.cell? ⟨v26.heap.size, 0, none⟩ = some (.int .i64 mn) := X57.out.cell 0
  have q66 : v52.cell? ⟨v26.heap.size, 1, none⟩ = some (.int .i64 md) := X57.out.cell 1
  have LT67 := Lib.hid X56.out.lt
  have X68 := Lib.hid (X54.out.alloc (.cells #[.int .i64 mn, .int .i64 md] 23))
  have X69 := Lib.hid (X55.out.alloc (.cells #[.int .i64 mn, .int .i64 md] 23))
  have X70 := Lib.hid (X56.out.alloc (.cells #[.int .i64 mn, .int .i64 md] 23))
  have X71 := Lib.hid (X57.out.alloc (.cells #[.int .i64 mn, .int .i64 md] 23))
  have B72 := Lib.hid (B58.out.alloc B58.out.size (.cells #[.int .i64 mn, .int .i64 md] 23))
  have X73 := Lib.hid (Box.made v52 23 #[.int .i64 mn, .int .i64 md])
  have q74 : (v52.alloc (.cells #[.int .i64 mn, .int .i64 md] 23)).cell? ⟨w.heap.size, 0, none⟩ = some (.int .i64 an) := X68.out.cell 0
  have q75 : (v52.alloc (.cells #[.int .i64 mn, .int .i64 md] 23)).cell? ⟨w.heap.size, 1, none⟩ = some (.int .i64 ad) := X68.out.cell 1
  have q76 : (v52.alloc (.cells #[.int .i64 mn, .int .i64 md] 23)).cell? ⟨w.heap.size + 1, 0, none⟩ = some (.int .i64 bn) := X69.out.cell 0
  have q77 : (v52.alloc (.cells #[.int .i64 mn, .int .i64 md] 23)).cell? ⟨w.heap.size + 1, 1, none⟩ = some (.int .i64 bd) := X69.out.cell 1
  have q78 : (v52.alloc (.cells #[.int .i64 mn, .int .i64 md] 23)).cell? ⟨w.heap.size + 1 + 1, 0, none⟩ = some (.int .i64 cn) := X70.out.cell 0
  have q79 : (v52.alloc (.cells #[.int .i64 mn, .int .i64 md] 23)).cell? ⟨w.heap.size + 1 + 1, 1, none⟩ = some (.int .i64 cd) := X70.out.cell 1
  have q80 : (v52.alloc (.cells #[.int .i64 mn, .int .i64 md] 23)).cell? ⟨v26.heap.size, 0, none⟩ = some (.int .i64 mn) := X71.out.cell 0
  have q81 : (v52.alloc (.cells #[.int .i64 mn, .int .i64 md] 23)).cell? ⟨v26.heap.size, 1, none⟩ = some (.int .i64 md) := X71.out.cell 1
  have q82 : (v52.alloc (.cells #[.int .i64 mn, .int .i64 md] 23)).cell? ⟨v52.heap.size, 0, none⟩ = some (.int .i64 mn) := X73.out.cell 0
  have q83 : (v52.alloc (.cells #[.int .i64 mn, .int .i64 md] 23)).cell? ⟨v52.heap.size, 1, none⟩ = some (.int .i64 md) := X73.out.cell 1
  obtain ⟨⟨sn, sd, se⟩, hs9⟩ : ∃ X9, plR an ad bn bd = X9 := ⟨_, rfl⟩
  have Hs := Lib.hid hs9
  clear hs9
  go_wp2_with fail
  refine (Plus_c an ad bn bd _).mono ?_; rintro e v84 ⟨rfl, hb85⟩
  have X86 := Lib.hid (X68.out.later hb85)
  have X87 := Lib.hid (X69.out.later hb85)
  have X88 := Lib.hid (X70.out.later hb85)
  have X89 := Lib.hid (X71.out.later hb85)
  have X90 := Lib.hid (X73.out.later hb85)
  have B91 := Lib.hid (B72.out.trans (hb85.mono B72.out.size))
  clear hb85
  rw [Hs.out]
  clear q74 q75 q76 q77 q78 q79 q80 q81 q82 q83 q59 q60 q61 q62 q63 q64 q65 q66
  have q92 : v84.cell? ⟨w.heap.size, 0, none⟩ = some (.int .i64 an) := X86.out.cell 0
  have q93 : v84.cell? ⟨w.heap.size, 1, none⟩ = some (.int .i64 ad) := X86.out.cell 1
  have q94 : v84.cell? ⟨w.heap.size + 1, 0, none⟩ = some (.int .i64 bn) := X87.out.cell 0
  have q95 : v84.cell? ⟨w.heap.size + 1, 1, none⟩ = some (.int .i64 bd) := X87.out.cell 1
  have q96 : v84.cell? ⟨w.heap.size + 1 + 1, 0, none⟩ = some (.int .i64 cn) := X88.out.cell 0
  have q97 : v84.cell? ⟨w.heap.size + 1 + 1, 1, none⟩ = some (.int .i64 cd) := X88.out.cell 1
  have q98 : v84.cell? ⟨v26.heap.size, 0, none⟩ = some (.int .i64 mn) := X89.out.cell 0
  have q99 : v84.cell? ⟨v26.heap.size, 1, none⟩ = some (.int .i64 md) := X89.out.cell 1
  have q100 : v84.cell? ⟨v52.heap.size, 0, none⟩ = some (.int .i64 mn) := X90.out.cell 0
  have q101 : v84.cell? ⟨v52.heap.size, 1, none⟩ = some (.int .i64 md) := X90.out.cell 1
  have LT102 := Lib.hid X88.out.lt
  have X103 := Lib.hid (X86.out.alloc (.cells #[.int .i64 sn, .int .i64 sd] 23))
  have X104 := Lib.hid (X87.out.alloc (.cells #[.int .i64 sn, .int .i64 sd] 23))
  have X105 := Lib.hid (X88.out.alloc (.cells #[.int .i64 sn, .int .i64 sd] 23))
  have X106 := Lib.hid (X89.out.alloc (.cells #[.int .i64 sn, .int .i64 sd] 23))
  have X107 := Lib.hid (X90.out.alloc (.cells #[.int .i64 sn, .int .i64 sd] 23))
  have B108 := Lib.hid (B91.out.alloc B91.out.size (.cells #[.int .i64 sn, .int .i64 sd] 23))
  have X109 := Lib.hid (Box.made v84 23 #[.int .i64 sn, .int .i64 sd])
  have q110 : (v84.alloc (.cells #[.int .i64 sn, .int .i64 sd] 23)).cell? ⟨w.heap.size, 0, none⟩ = some (.int .i64 an) := X103.out.cell 0
  have q111 : (v84.alloc (.cells #[.int .i64 sn, .int .i64 sd] 23)).cell? ⟨w.heap.size, 1, none⟩ = some (.int .i64 ad) := X103.out.cell 1
  have q112 : (v84.alloc (.cells #[.int .i64 sn, .int .i64 sd] 23)).cell? ⟨w.heap.size + 1, 0, none⟩ = some (.int .i64 bn) := X104.out.cell 0
  have q113 : (v84.alloc (.cells #[.int .i64 sn, .int .i64 sd] 23)).cell? ⟨w.heap.size + 1, 1, none⟩ = some (.int .i64 bd) := X104.out.cell 1
  have q114 : (v84.alloc (.cells #[.int .i64 sn, .int .i64 sd] 23)).cell? ⟨w.heap.size + 1 + 1, 0, none⟩ = some (.int .i64 cn) := X105.out.cell 0
  have q115 : (v84.alloc (.cells #[.int .i64 sn, .int .i64 sd] 23)).cell? ⟨w.heap.size + 1 + 1, 1, none⟩ = some (.int .i64 cd) := X105.out.cell 1
  have q116 : (v84.alloc (.cells #[.int .i64 sn, .int .i64 sd] 23)).cell? ⟨v26.heap.size, 0, none⟩ = some (.int .i64 mn) := X106.out.cell 0
  have q117 : (v84.alloc (.cells #[.int .i64 sn, .int .i64 sd] 23)).cell? ⟨v26.heap.size, 1, none⟩ = some (.int .i64 md) := X106.out.cell 1
  have q118 : (v84.alloc (.cells #[.int .i64 sn, .int .i64 sd] 23)).cell? ⟨v52.heap.size, 0, none⟩ = some (.int .i64 mn) := X107.out.cell 0
  have q119 : (v84.alloc (.cells #[.int .i64 sn, .int .i64 sd] 23)).cell? ⟨v52.heap.size, 1, none⟩ = some (.int .i64 md) := X107.out.cell 1
  have q120 : (v84.alloc (.cells #[.int .i64 sn, .int .i64 sd] 23)).cell? ⟨v84.heap.size, 0, none⟩ = some (.int .i64 sn) := X109.out.cell 0
  have q121 : (v84.alloc (.cells #[.int .i64 sn, .int .i64 sd] 23)).cell? ⟨v84.heap.size, 1, none⟩ = some (.int .i64 sd) := X109.out.cell 1
  go_wp2_with fail
  refine (Plus_c bn bd an ad _).mono ?_; rintro e v122 ⟨rfl, hb123⟩
  have X124 := Lib.hid (X103.out.later hb123)
  have X125 := Lib.hid (X104.out.later hb123)
  have X126 := Lib.hid (X105.out.later hb123)
  have X127 := Lib.hid (X106.out.later hb123)
  have X128 := Lib.hid (X107.out.later hb123)
  have X129 := Lib.hid (X109.out.later hb123)
  have B130 := Lib.hid (B108.out.trans (hb123.mono B108.out.size))
  clear hb123
  rw [pl_comm an ad bn bd, Hs.out]
  clear q110 q111 q112 q113 q114 q115 q116 q117 q118 q119 q120 q121 q92 q93 q94 q95 q96 q97 q98 q99 q100 q101
  have q131 : v122.cell? ⟨w.heap.size, 0, none⟩ = some (.int .i64 an) := X124.out.cell 0
  have q132 : v122.cell? ⟨w.heap.size, 1, none⟩ = some (.int .i64 ad) := X124.out.cell 1
  have q133 : v122.cell? ⟨w.heap.size + 1, 0, none⟩ = some (.int .i64 bn) := X125.out.cell 0
  have q134 : v122.cell? ⟨w.heap.size + 1, 1, none⟩ = some (.int .i64 bd) := X125.out.cell 1
  have q135 : v122.cell? ⟨w.heap.size + 1 + 1, 0, none⟩ = some (.int .i64 cn) := X126.out.cell 0
  have q136 : v122.cell? ⟨w.heap.size + 1 + 1, 1, none⟩ = some (.int .i64 cd) := X126.out.cell 1
  have q137 : v122.cell? ⟨v26.heap.size, 0, none⟩ = some (.int .i64 mn) := X127.out.cell 0
  have q138 : v122.cell? ⟨v26.heap.size, 1, none⟩ = some (.int .i64 md) := X127.out.cell 1
  have q139 : v122.cell? ⟨v52.heap.size, 0, none⟩ = some (.int .i64 mn) := X128.out.cell 0
  have q140 : v122.cell? ⟨v52.heap.size, 1, none⟩ = some (.int .i64 md) := X128.out.cell 1
  have q141 : v122.cell? ⟨v84.heap.size, 0, none⟩ = some (.int .i64 sn) := X129.out.cell 0
  have q142 : v122.cell? ⟨v84.heap.size, 1, none⟩ = some (.int .i64 sd) := X129.out.cell 1
  have LT143 := Lib.hid X126.out.lt
  have X144 := Lib.hid (X124.out.alloc (.cells #[.int .i64 sn, .int .i64 sd] 23))
  have X145 := Lib.hid (X125.out.alloc (.cells #[.int .i64 sn, .int .i64 sd] 23))
  have X146 := Lib.hid (X126.out.alloc (.cells #[.int .i64 sn, .int .i64 sd] 23))
  have X147 := Lib.hid (X127.out.alloc (.cells #[.int .i64 sn, .int .i64 sd] 23))
  have X148 := Lib.hid (X128.out.alloc (.cells #[.int .i64 sn, .int .i64 sd] 23))
  have X149 := Lib.hid (X129.out.alloc (.cells #[.int .i64 sn, .int .i64 sd] 23))
  have B150 := Lib.hid (B130.out.alloc B130.out.size (.cells #[.int .i64 sn, .int .i64 sd] 23))
  have X151 := Lib.hid (Box.made v122 23 #[.int .i64 sn, .int .i64 sd])
  have q152 : (v122.alloc (.cells #[.int .i64 sn, .int .i64 sd] 23)).cell? ⟨w.heap.size, 0, none⟩ = some (.int .i64 an) := X144.out.cell 0
  have q153 : (v122.alloc (.cells #[.int .i64 sn, .int .i64 sd] 23)).cell? ⟨w.heap.size, 1, none⟩ = some (.int .i64 ad) := X144.out.cell 1
  have q154 : (v122.alloc (.cells #[.int .i64 sn, .int .i64 sd] 23)).cell? ⟨w.heap.size + 1, 0, none⟩ = some (.int .i64 bn) := X145.out.cell 0
  have q155 : (v122.alloc (.cells #[.int .i64 sn, .int .i64 sd] 23)).cell? ⟨w.heap.size + 1, 1, none⟩ = some (.int .i64 bd) := X145.out.cell 1
  have q156 : (v122.alloc (.cells #[.int .i64 sn, .int .i64 sd] 23)).cell? ⟨w.heap.size + 1 + 1, 0, none⟩ = some (.int .i64 cn) := X146.out.cell 0
  have q157 : (v122.alloc (.cells #[.int .i64 sn, .int .i64 sd] 23)).cell? ⟨w.heap.size + 1 + 1, 1, none⟩ = some (.int .i64 cd) := X146.out.cell 1
  have q158 : (v122.alloc (.cells #[.int .i64 sn, .int .i64 sd] 23)).cell? ⟨v26.heap.size, 0, none⟩ = some (.int .i64 mn) := X147.out.cell 0
  have q159 : (v122.alloc (.cells #[.int .i64 sn, .int .i64 sd] 23)).cell? ⟨v26.heap.size, 1, none⟩ = some (.int .i64 md) := X147.out.cell 1
  have q160 : (v122.alloc (.cells #[.int .i64 sn, .int .i64 sd] 23)).cell? ⟨v52.heap.size, 0, none⟩ = some (.int .i64 mn) := X148.out.cell 0
  have q161 : (v122.alloc (.cells #[.int .i64 sn, .int .i64 sd] 23)).cell? ⟨v52.heap.size, 1, none⟩ = some (.int .i64 md) := X148.out.cell 1
  have q162 : (v122.alloc (.cells #[.int .i64 sn, .int .i64 sd] 23)).cell? ⟨v84.heap.size, 0, none⟩ = some (.int .i64 sn) := X149.out.cell 0
  have q163 : (v122.alloc (.cells #[.int .i64 sn, .int .i64 sd] 23)).cell? ⟨v84.heap.size, 1, none⟩ = some (.int .i64 sd) := X149.out.cell 1
  have q164 : (v122.alloc (.cells #[.int .i64 sn, .int .i64 sd] 23)).cell? ⟨v122.heap.size, 0, none⟩ = some (.int .i64 sn) := X151.out.cell 0
  have q165 : (v122.alloc (.cells #[.int .i64 sn, .int .i64 sd] 23)).cell? ⟨v122.heap.size, 1, none⟩ = some (.int .i64 sd) := X151.out.cell 1
  have e1 : ∀ z : Int, (z != z) = false := fun z => by simp
  go_wp2_with fail
  obtain ⟨⟨kn, kd, ke⟩, hk9⟩ : ∃ X9, tmR bn bd cn cd = X9 := ⟨_, rfl⟩
  have Hk := Lib.hid hk9
  clear hk9
  go_wp2_with fail
  refine (Times_c bn bd cn cd _).mono ?_; rintro e v166 ⟨rfl, hb167⟩
  have X168 := Lib.hid (X144.out.later hb167)
  have X169 := Lib.hid (X145.out.later hb167)
  have X170 := Lib.hid (X146.out.later hb167)
  have X171 := Lib.hid (X147.out.later hb167)
  have X172 := Lib.hid (X148.out.later hb167)
  have X173 := Lib.hid (X149.out.later hb167)
  have X174 := Lib.hid (X151.out.later hb167)
  have B175 := Lib.hid (B150.out.trans (hb167.mono B150.out.size))
  clear hb167
  rw [Hk.out]
  clear q152 q153 q154 q155 q156 q157 q158 q159 q160 q161 q162 q163 q164 q165 q131 q132 q133 q134 q135 q136 q137 q138 q139 q140 q141 q142
  have q176 : v166.cell? ⟨w.heap.size, 0, none⟩ = some (.int .i64 an) := X168.out.cell 0
  have q177 : v166.cell? ⟨w.heap.size, 1, none⟩ = some (.int .i64 ad) := X168.out.cell 1
  have q178 : v166.cell? ⟨w.heap.size + 1, 0, none⟩ = some (.int .i64 bn) := X169.out.cell 0
  have q179 : v166.cell? ⟨w.heap.size + 1, 1, none⟩ = some (.int .i64 bd) := X169.out.cell 1
  have q180 : v166.cell? ⟨w.heap.size + 1 + 1, 0, none⟩ = some (.int .i64 cn) := X170.out.cell 0
  have q181 : v166.cell? ⟨w.heap.size + 1 + 1, 1, none⟩ = some (.int .i64 cd) := X170.out.cell 1
  have q182 : v166.cell? ⟨v26.heap.size, 0, none⟩ = some (.int .i64 mn) := X171.out.cell 0
  have q183 : v166.cell? ⟨v26.heap.size, 1, none⟩ = some (.int .i64 md) := X171.out.cell 1
  have q184 : v166.cell? ⟨v52.heap.size, 0, none⟩ = some (.int .i64 mn) := X172.out.cell 0
  have q185 : v166.cell? ⟨v52.heap.size, 1, none⟩ = some (.int .i64 md) := X172.out.cell 1
  have q186 : v166.cell? ⟨v84.heap.size, 0, none⟩ = some (.int .i64 sn) := X173.out.cell 0
  have q187 : v166.cell? ⟨v84.heap.size, 1, none⟩ = some (.int .i64 sd) := X173.out.cell 1
  have q188 : v166.cell? ⟨v122.heap.size, 0, none⟩ = some (.int .i64 sn) := X174.out.cell 0
  have q189 : v166.cell? ⟨v122.heap.size, 1, none⟩ = some (.int .i64 sd) := X174.out.cell 1
  have LT190 := Lib.hid X170.out.lt
  have X191 := Lib.hid (X168.out.alloc (.cells #[.int .i64 kn, .int .i64 kd] 23))
  have X192 := Lib.hid (X169.out.alloc (.cells #[.int .i64 kn, .int .i64 kd] 23))
  have X193 := Lib.hid (X170.out.alloc (.cells #[.int .i64 kn, .int .i64 kd] 23))
  have X194 := Lib.hid (X171.out.alloc (.cells #[.int .i64 kn, .int .i64 kd] 23))
  have X195 := Lib.hid (X172.out.alloc (.cells #[.int .i64 kn, .int .i64 kd] 23))
  have X196 := Lib.hid (X173.out.alloc (.cells #[.int .i64 kn, .int .i64 kd] 23))
  have X197 := Lib.hid (X174.out.alloc (.cells #[.int .i64 kn, .int .i64 kd] 23))
  have B198 := Lib.hid (B175.out.alloc B175.out.size (.cells #[.int .i64 kn, .int .i64 kd] 23))
  have X199 := Lib.hid (Box.made v166 23 #[.int .i64 kn, .int .i64 kd])
  have q200 : (v166.alloc (.cells #[.int .i64 kn, .int .i64 kd] 23)).cell? ⟨w.heap.size, 0, none⟩ = some (.int .i64 an) := X191.out.cell 0
  have q201 : (v166.alloc (.cells #[.int .i64 kn, .int .i64 kd] 23)).cell? ⟨w.heap.size, 1, none⟩ = some (.int .i64 ad) := X191.out.cell 1
  have q202 : (v166.alloc (.cells #[.int .i64 kn, .int .i64 kd] 23)).cell? ⟨w.heap.size + 1, 0, none⟩ = some (.int .i64 bn) := X192.out.cell 0
  have q203 : (v166.alloc (.cells #[.int .i64 kn, .int .i64 kd] 23)).cell? ⟨w.heap.size + 1, 1, none⟩ = some (.int .i64 bd) := X192.out.cell 1
  have q204 : (v166.alloc (.cells #[.int .i64 kn, .int .i64 kd] 23)).cell? ⟨w.heap.size + 1 + 1, 0, none⟩ = some (.int .i64 cn) := X193.out.cell 0
  have q205 : (v166.alloc (.cells #[.int .i64 kn, .int .i64 kd] 23)).cell? ⟨w.heap.size + 1 + 1, 1, none⟩ = some (.int .i64 cd) := X193.out.cell 1
  have q206 : (v166.alloc (.cells #[.int .i64 kn, .int .i64 kd] 23)).cell? ⟨v26.heap.size, 0, none⟩ = some (.int .i64 mn) := X194.out.cell 0
  have q207 : (v166.alloc (.cells #[.int .i64 kn, .int .i64 kd] 23)).cell? ⟨v26.heap.size, 1, none⟩ = some (.int .i64 md) := X194.out.cell 1
  have q208 : (v166.alloc (.cells #[.int .i64 kn, .int .i64 kd] 23)).cell? ⟨v52.heap.size, 0, none⟩ = some (.int .i64 mn) := X195.out.cell 0
  have q209 : (v166.alloc (.cells #[.int .i64 kn, .int .i64 kd] 23)).cell? ⟨v52.heap.size, 1, none⟩ = some (.int .i64 md) := X195.out.cell 1
  have q210 : (v166.alloc (.cells #[.int .i64 kn, .int .i64 kd] 23)).cell? ⟨v84.heap.size, 0, none⟩ = some (.int .i64 sn) := X196.out.cell 0
  have q211 : (v166.alloc (.cells #[.int .i64 kn, .int .i64 kd] 23)).cell? ⟨v84.heap.size, 1, none⟩ = some (.int .i64 sd) := X196.out.cell 1
  have q212 : (v166.alloc (.cells #[.int .i64 kn, .int .i64 kd] 23)).cell? ⟨v122.heap.size, 0, none⟩ = some (.int .i64 sn) := X197.out.cell 0
  have q213 : (v166.alloc (.cells #[.int .i64 kn, .int .i64 kd] 23)).cell? ⟨v122.heap.size, 1, none⟩ = some (.int .i64 sd) := X197.out.cell 1
  have q214 : (v166.alloc (.cells #[.int .i64 kn, .int .i64 kd] 23)).cell? ⟨v166.heap.size, 0, none⟩ = some (.int .i64 kn) := X199.out.cell 0
  have q215 : (v166.alloc (.cells #[.int .i64 kn, .int .i64 kd] 23)).cell? ⟨v166.heap.size, 1, none⟩ = some (.int .i64 kd) := X199.out.cell 1
  obtain ⟨⟨xn, xd, xe⟩, hx9⟩ : ∃ X9, tmR mn md cn cd = X9 := ⟨_, rfl⟩
  have Hx := Lib.hid hx9
  clear hx9
  go_wp2_with fail
  refine (Times_c mn md cn cd _).mono ?_; rintro e v216 ⟨rfl, hb217⟩
  have X218 := Lib.hid (X191.out.later hb217)
  have X219 := Lib.hid (X192.out.later hb217)
  have X220 := Lib.hid (X193.out.later hb217)
  have X221 := Lib.hid (X194.out.later hb217)
  have X222 := Lib.hid (X195.out.later hb217)
  have X223 := Lib.hid (X196.out.later hb217)
  have X224 := Lib.hid (X197.out.later hb217)
  have X225 := Lib.hid (X199.out.later hb217)
  have B226 := Lib.hid (B198.out.trans (hb217.mono B198.out.size))
  clear hb217
  rw [Hx.out]
  clear q200 q201 q202 q203 q204 q205 q206 q207 q208 q209 q210 q211 q212 q213 q214 q215 q176 q177 q178 q179 q180 q181 q182 q183 q184 q185 q186 q187 q188 q189
  have q227 : v216.cell? ⟨w.heap.size, 0, none⟩ = some (.int .i64 an) := X218.out.cell 0
  have q228 : v216.cell? ⟨w.heap.size, 1, none⟩ = some (.int .i64 ad) := X218.out.cell 1
  have q229 : v216.cell? ⟨w.heap.size + 1, 0, none⟩ = some (.int .i64 bn) := X219.out.cell 0
  have q230 : v216.cell? ⟨w.heap.size + 1, 1, none⟩ = some (.int .i64 bd) := X219.out.cell 1
  have q231 : v216.cell? ⟨w.heap.size + 1 + 1, 0, none⟩ = some (.int .i64 cn) := X220.out.cell 0
  have q232 : v216.cell? ⟨w.heap.size + 1 + 1, 1, none⟩ = some (.int .i64 cd) := X220.out.cell 1
  have q233 : v216.cell? ⟨v26.heap.size, 0, none⟩ = some (.int .i64 mn) := X221.out.cell 0
  have q234 : v216.cell? ⟨v26.heap.size, 1, none⟩ = some (.int .i64 md) := X221.out.cell 1
  have q235 : v216.cell? ⟨v52.heap.size, 0, none⟩ = some (.int .i64 mn) := X222.out.cell 0
  have q236 : v216.cell? ⟨v52.heap.size, 1, none⟩ = some (.int .i64 md) := X222.out.cell 1
  have q237 : v216.cell? ⟨v84.heap.size, 0, none⟩ = some (.int .i64 sn) := X223.out.cell 0
  have q238 : v216.cell? ⟨v84.heap.size, 1, none⟩ = some (.int .i64 sd) := X223.out.cell 1
  have q239 : v216.cell? ⟨v122.heap.size, 0, none⟩ = some (.int .i64 sn) := X224.out.cell 0
  have q240 : v216.cell? ⟨v122.heap.size, 1, none⟩ = some (.int .i64 sd) := X224.out.cell 1
  have q241 : v216.cell? ⟨v166.heap.size, 0, none⟩ = some (.int .i64 kn) := X225.out.cell 0
  have q242 : v216.cell? ⟨v166.heap.size, 1, none⟩ = some (.int .i64 kd) := X225.out.cell 1
  have LT243 := Lib.hid X220.out.lt
  have X244 := Lib.hid (X218.out.alloc (.cells #[.int .i64 xn, .int .i64 xd] 23))
  have X245 := Lib.hid (X219.out.alloc (.cells #[.int .i64 xn, .int .i64 xd] 23))
  have X246 := Lib.hid (X220.out.alloc (.cells #[.int .i64 xn, .int .i64 xd] 23))
  have X247 := Lib.hid (X221.out.alloc (.cells #[.int .i64 xn, .int .i64 xd] 23))
  have X248 := Lib.hid (X222.out.alloc (.cells #[.int .i64 xn, .int .i64 xd] 23))
  have X249 := Lib.hid (X223.out.alloc (.cells #[.int .i64 xn, .int .i64 xd] 23))
  have X250 := Lib.hid (X224.out.alloc (.cells #[.int .i64 xn, .int .i64 xd] 23))
  have X251 := Lib.hid (X225.out.alloc (.cells #[.int .i64 xn, .int .i64 xd] 23))
  have B252 := Lib.hid (B226.out.alloc B226.out.size (.cells #[.int .i64 xn, .int .i64 xd] 23))
  have X253 := Lib.hid (Box.made v216 23 #[.int .i64 xn, .int .i64 xd])
  have q254 : (v216.alloc (.cells #[.int .i64 xn, .int .i64 xd] 23)).cell? ⟨w.heap.size, 0, none⟩ = some (.int .i64 an) := X244.out.cell 0
  have q255 : (v216.alloc (.cells #[.int .i64 xn, .int .i64 xd] 23)).cell? ⟨w.heap.size, 1, none⟩ = some (.int .i64 ad) := X244.out.cell 1
  have q256 : (v216.alloc (.cells #[.int .i64 xn, .int .i64 xd] 23)).cell? ⟨w.heap.size + 1, 0, none⟩ = some (.int .i64 bn) := X245.out.cell 0
  have q257 : (v216.alloc (.cells #[.int .i64 xn, .int .i64 xd] 23)).cell? ⟨w.heap.size + 1, 1, none⟩ = some (.int .i64 bd) := X245.out.cell 1
  have q258 : (v216.alloc (.cells #[.int .i64 xn, .int .i64 xd] 23)).cell? ⟨w.heap.size + 1 + 1, 0, none⟩ = some (.int .i64 cn) := X246.out.cell 0
  have q259 : (v216.alloc (.cells #[.int .i64 xn, .int .i64 xd] 23)).cell? ⟨w.heap.size + 1 + 1, 1, none⟩ = some (.int .i64 cd) := X246.out.cell 1
  have q260 : (v216.alloc (.cells #[.int .i64 xn, .int .i64 xd] 23)).cell? ⟨v26.heap.size, 0, none⟩ = some (.int .i64 mn) := X247.out.cell 0
  have q261 : (v216.alloc (.cells #[.int .i64 xn, .int .i64 xd] 23)).cell? ⟨v26.heap.size, 1, none⟩ = some (.int .i64 md) := X247.out.cell 1
  have q262 : (v216.alloc (.cells #[.int .i64 xn, .int .i64 xd] 23)).cell? ⟨v52.heap.size, 0, none⟩ = some (.int .i64 mn) := X248.out.cell 0
  have q263 : (v216.alloc (.cells #[.int .i64 xn, .int .i64 xd] 23)).cell? ⟨v52.heap.size, 1, none⟩ = some (.int .i64 md) := X248.out.cell 1
  have q264 : (v216.alloc (.cells #[.int .i64 xn, .int .i64 xd] 23)).cell? ⟨v84.heap.size, 0, none⟩ = some (.int .i64 sn) := X249.out.cell 0
  have q265 : (v216.alloc (.cells #[.int .i64 xn, .int .i64 xd] 23)).cell? ⟨v84.heap.size, 1, none⟩ = some (.int .i64 sd) := X249.out.cell 1
  have q266 : (v216.alloc (.cells #[.int .i64 xn, .int .i64 xd] 23)).cell? ⟨v122.heap.size, 0, none⟩ = some (.int .i64 sn) := X250.out.cell 0
  have q267 : (v216.alloc (.cells #[.int .i64 xn, .int .i64 xd] 23)).cell? ⟨v122.heap.size, 1, none⟩ = some (.int .i64 sd) := X250.out.cell 1
  have q268 : (v216.alloc (.cells #[.int .i64 xn, .int .i64 xd] 23)).cell? ⟨v166.heap.size, 0, none⟩ = some (.int .i64 kn) := X251.out.cell 0
  have q269 : (v216.alloc (.cells #[.int .i64 xn, .int .i64 xd] 23)).cell? ⟨v166.heap.size, 1, none⟩ = some (.int .i64 kd) := X251.out.cell 1
  have q270 : (v216.alloc (.cells #[.int .i64 xn, .int .i64 xd] 23)).cell? ⟨v216.heap.size, 0, none⟩ = some (.int .i64 xn) := X253.out.cell 0
  have q271 : (v216.alloc (.cells #[.int .i64 xn, .int .i64 xd] 23)).cell? ⟨v216.heap.size, 1, none⟩ = some (.int .i64 xd) := X253.out.cell 1
  obtain ⟨⟨yn, yd, ye⟩, hy9⟩ : ∃ X9, tmR an ad kn kd = X9 := ⟨_, rfl⟩
  have Hy := Lib.hid hy9
  clear hy9
  go_wp2_with fail
  refine (Times_c an ad kn kd _).mono ?_; rintro e v272 ⟨rfl, hb273⟩
  have X274 := Lib.hid (X244.out.later hb273)
  have X275 := Lib.hid (X245.out.later hb273)
  have X276 := Lib.hid (X246.out.later hb273)
  have X277 := Lib.hid (X247.out.later hb273)
  have X278 := Lib.hid (X248.out.later hb273)
  have X279 := Lib.hid (X249.out.later hb273)
  have X280 := Lib.hid (X250.out.later hb273)
  have X281 := Lib.hid (X251.out.later hb273)
  have X282 := Lib.hid (X253.out.later hb273)
  have B283 := Lib.hid (B252.out.trans (hb273.mono B252.out.size))
  clear hb273
  rw [Hy.out]
  clear q254 q255 q256 q257 q258 q259 q260 q261 q262 q263 q264 q265 q266 q267 q268 q269 q270 q271 q227 q228 q229 q230 q231 q232 q233 q234 q235 q236 q237 q238 q239 q240 q241 q242
  have q284 : v272.cell? ⟨w.heap.size, 0, none⟩ = some (.int .i64 an) := X274.out.cell 0
  have q285 : v272.cell? ⟨w.heap.size, 1, none⟩ = some (.int .i64 ad) := X274.out.cell 1
  have q286 : v272.cell? ⟨w.heap.size + 1, 0, none⟩ = some (.int .i64 bn) := X275.out.cell 0
  have q287 : v272.cell? ⟨w.heap.size + 1, 1, none⟩ = some (.int .i64 bd) := X275.out.cell 1
  have q288 : v272.cell? ⟨w.heap.size + 1 + 1, 0, none⟩ = some (.int .i64 cn) := X276.out.cell 0
  have q289 : v272.cell? ⟨w.heap.size + 1 + 1, 1, none⟩ = some (.int .i64 cd) := X276.out.cell 1
  have q290 : v272.cell? ⟨v26.heap.size, 0, none⟩ = some (.int .i64 mn) := X277.out.cell 0
  have q291 : v272.cell? ⟨v26.heap.size, 1, none⟩ = some (.int .i64 md) := X277.out.cell 1
  have q292 : v272.cell? ⟨v52.heap.size, 0, none⟩ = some (.int .i64 mn) := X278.out.cell 0
  have q293 : v272.cell? ⟨v52.heap.size, 1, none⟩ = some (.int .i64 md) := X278.out.cell 1
  have q294 : v272.cell? ⟨v84.heap.size, 0, none⟩ = some (.int .i64 sn) := X279.out.cell 0
  have q295 : v272.cell? ⟨v84.heap.size, 1, none⟩ = some (.int .i64 sd) := X279.out.cell 1
  have q296 : v272.cell? ⟨v122.heap.size, 0, none⟩ = some (.int .i64 sn) := X280.out.cell 0
  have q297 : v272.cell? ⟨v122.heap.size, 1, none⟩ = some (.int .i64 sd) := X280.out.cell 1
  have q298 : v272.cell? ⟨v166.heap.size, 0, none⟩ = some (.int .i64 kn) := X281.out.cell 0
  have q299 : v272.cell? ⟨v166.heap.size, 1, none⟩ = some (.int .i64 kd) := X281.out.cell 1
  have q300 : v272.cell? ⟨v216.heap.size, 0, none⟩ = some (.int .i64 xn) := X282.out.cell 0
  have q301 : v272.cell? ⟨v216.heap.size, 1, none⟩ = some (.int .i64 xd) := X282.out.cell 1
  have LT302 := Lib.hid X276.out.lt
  have X303 := Lib.hid (X274.out.alloc (.cells #[.int .i64 yn, .int .i64 yd] 23))
  have X304 := Lib.hid (X275.out.alloc (.cells #[.int .i64 yn, .int .i64 yd] 23))
  have X305 := Lib.hid (X276.out.alloc (.cells #[.int .i64 yn, .int .i64 yd] 23))
  have X306 := Lib.hid (X277.out.alloc (.cells #[.int .i64 yn, .int .i64 yd] 23))
  have X307 := Lib.hid (X278.out.alloc (.cells #[.int .i64 yn, .int .i64 yd] 23))
  have X308 := Lib.hid (X279.out.alloc (.cells #[.int .i64 yn, .int .i64 yd] 23))
  have X309 := Lib.hid (X280.out.alloc (.cells #[.int .i64 yn, .int .i64 yd] 23))
  have X310 := Lib.hid (X281.out.alloc (.cells #[.int .i64 yn, .int .i64 yd] 23))
  have X311 := Lib.hid (X282.out.alloc (.cells #[.int .i64 yn, .int .i64 yd] 23))
  have B312 := Lib.hid (B283.out.alloc B283.out.size (.cells #[.int .i64 yn, .int .i64 yd] 23))
  have X313 := Lib.hid (Box.made v272 23 #[.int .i64 yn, .int .i64 yd])
  have q314 : (v272.alloc (.cells #[.int .i64 yn, .int .i64 yd] 23)).cell? ⟨w.heap.size, 0, none⟩ = some (.int .i64 an) := X303.out.cell 0
  have q315 : (v272.alloc (.cells #[.int .i64 yn, .int .i64 yd] 23)).cell? ⟨w.heap.size, 1, none⟩ = some (.int .i64 ad) := X303.out.cell 1
  have q316 : (v272.alloc (.cells #[.int .i64 yn, .int .i64 yd] 23)).cell? ⟨w.heap.size + 1, 0, none⟩ = some (.int .i64 bn) := X304.out.cell 0
  have q317 : (v272.alloc (.cells #[.int .i64 yn, .int .i64 yd] 23)).cell? ⟨w.heap.size + 1, 1, none⟩ = some (.int .i64 bd) := X304.out.cell 1
  have q318 : (v272.alloc (.cells #[.int .i64 yn, .int .i64 yd] 23)).cell? ⟨w.heap.size + 1 + 1, 0, none⟩ = some (.int .i64 cn) := X305.out.cell 0
  have q319 : (v272.alloc (.cells #[.int .i64 yn, .int .i64 yd] 23)).cell? ⟨w.heap.size + 1 + 1, 1, none⟩ = some (.int .i64 cd) := X305.out.cell 1
  have q320 : (v272.alloc (.cells #[.int .i64 yn, .int .i64 yd] 23)).cell? ⟨v26.heap.size, 0, none⟩ = some (.int .i64 mn) := X306.out.cell 0
  have q321 : (v272.alloc (.cells #[.int .i64 yn, .int .i64 yd] 23)).cell? ⟨v26.heap.size, 1, none⟩ = some (.int .i64 md) := X306.out.cell 1
  have q322 : (v272.alloc (.cells #[.int .i64 yn, .int .i64 yd] 23)).cell? ⟨v52.heap.size, 0, none⟩ = some (.int .i64 mn) := X307.out.cell 0
  have q323 : (v272.alloc (.cells #[.int .i64 yn, .int .i64 yd] 23)).cell? ⟨v52.heap.size, 1, none⟩ = some (.int .i64 md) := X307.out.cell 1
  have q324 : (v272.alloc (.cells #[.int .i64 yn, .int .i64 yd] 23)).cell? ⟨v84.heap.size, 0, none⟩ = some (.int .i64 sn) := X308.out.cell 0
  have q325 : (v272.alloc (.cells #[.int .i64 yn, .int .i64 yd] 23)).cell? ⟨v84.heap.size, 1, none⟩ = some (.int .i64 sd) := X308.out.cell 1
  have q326 : (v272.alloc (.cells #[.int .i64 yn, .int .i64 yd] 23)).cell? ⟨v122.heap.size, 0, none⟩ = some (.int .i64 sn) := X309.out.cell 0
  have q327 : (v272.alloc (.cells #[.int .i64 yn, .int .i64 yd] 23)).cell? ⟨v122.heap.size, 1, none⟩ = some (.int .i64 sd) := X309.out.cell 1
  have q328 : (v272.alloc (.cells #[.int .i64 yn, .int .i64 yd] 23)).cell? ⟨v166.heap.size, 0, none⟩ = some (.int .i64 kn) := X310.out.cell 0
  have q329 : (v272.alloc (.cells #[.int .i64 yn, .int .i64 yd] 23)).cell? ⟨v166.heap.size, 1, none⟩ = some (.int .i64 kd) := X310.out.cell 1
  have q330 : (v272.alloc (.cells #[.int .i64 yn, .int .i64 yd] 23)).cell? ⟨v216.heap.size, 0, none⟩ = some (.int .i64 xn) := X311.out.cell 0
  have q331 : (v272.alloc (.cells #[.int .i64 yn, .int .i64 yd] 23)).cell? ⟨v216.heap.size, 1, none⟩ = some (.int .i64 xd) := X311.out.cell 1
  have q332 : (v272.alloc (.cells #[.int .i64 yn, .int .i64 yd] 23)).cell? ⟨v272.heap.size, 0, none⟩ = some (.int .i64 yn) := X313.out.cell 0
  have q333 : (v272.alloc (.cells #[.int .i64 yn, .int .i64 yd] 23)).cell? ⟨v272.heap.size, 1, none⟩ = some (.int .i64 yd) := X313.out.cell 1
  have HC1 := Lib.hid (show me = 0 → ke = 0 → xe = 0 → ye = 0 ∧ xn = yn ∧ xd = yd from fun h1 h2 h3 => by
    have ha := tm_assoc (an := an) (ad := ad) (bn := bn) (bd := bd) (cn := cn) (cd := cd) (by rw [Hm.out]; exact h1) (by rw [Hk.out]; exact h2)
    rw [Hk.out, Hm.out] at ha
    have ha2 := Hy.out.symm.trans (ha.trans Hx.out)
    injection ha2 with p1 p2 p3
    exact ⟨by rw [p3]; exact h3, p1.symm, p2.symm⟩)
  iterate 40 (first | (with_reducible show Code.wp _ (Code.region 11 _ _) _ _ _) | go_values | go_skip | go_guarded | go_step | go_upon | go_back | (simp only [Int.not_lt, Int.not_le] at *; go_simp) | go_simp)
  refine field11_c me ke xe ye xn xd yn yd _ _ _ _ _ _ _ _ _ _ _ _ _ _ _ _ _ _ _ _ _ _ _ _ _ _ _ _ _ _ _ _ _ _ _ _ _ _ _ _ _ _ _ _ _ _ _ _ _ _ _ _ _ _ _ _ _ _ _ _ _ _ _ _ _ _ _ _ _ _ _ _ _ _ _ _ _ _ _ _ _ _ _ _ _ _ _ _ _ _ _ _ _ _ _ _ _ _ _ _ _ _ _ _ _ _ _ _ _ _ _ _ _ _ _ _ _ _ _ _ _ _ _ _ _ _ _ _ _ _ _ _ _ _ _ _ _ _ _ _ _ _ _ _ _ _ _ _ _ _ _ _ _ _ _ _ _ _ _ _ _ _ _ _ _ _ _ _ _ _ _ _ _ _ _ _ _ _ _ _ _ _ _ _ _ _ _ _ _ _ _ _ X311.out X313.out HC1.out ?_
  intro _ _ _ _ _ _ _ _ _ _ _ _ _ _ _ _ _ _
  go_wp2_with fail
  obtain ⟨⟨un, ud, ue⟩, hu9⟩ : ∃ X9, plR bn bd cn cd = X9 := ⟨_, rfl⟩
  have Hu := Lib.hid hu9
  clear hu9
  go_wp2_with fail
  refine (Plus_c bn bd cn cd _).mono ?_; rintro e v334 ⟨rfl, hb335⟩
  have X336 := Lib.hid (X303.out.later hb335)
  have X337 := Lib.hid (X304.out.later hb335)
  have X338 := Lib.hid (X305.out.later hb335)
  have X339 := Lib.hid (X306.out.later hb335)
  have X340 := Lib.hid (X307.out.later hb335)
  have X341 := Lib.hid (X308.out.later hb335)
  have X342 := Lib.hid (X309.out.later hb335)
  have X343 := Lib.hid (X310.out.later hb335)
  have X344 := Lib.hid (X311.out.later hb335)
  have X345 := Lib.hid (X313.out.later hb335)
  have B346 := Lib.hid (B312.out.trans (hb335.mono B312.out.size))
  clear hb335
  rw [Hu.out]
  clear q314 q315 q316 q317 q318 q319 q320 q321 q322 q323 q324 q325 q326 q327 q328 q329 q330 q331 q332 q333 q284 q285 q286 q287 q288 q289 q290 q291 q292 q293 q294 q295 q296 q297 q298 q299 q300 q301
  have q347 : v334.cell? ⟨w.heap.size, 0, none⟩ = some (.int .i64 an) := X336.out.cell 0
  have q348 : v334.cell? ⟨w.heap.size, 1, none⟩ = some (.int .i64 ad) := X336.out.cell 1
  have q349 : v334.cell? ⟨w.heap.size + 1, 0, none⟩ = some (.int .i64 bn) := X337.out.cell 0
  have q350 : v334.cell? ⟨w.heap.size + 1, 1, none⟩ = some (.int .i64 bd) := X337.out.cell 1
  have q351 : v334.cell? ⟨w.heap.size + 1 + 1, 0, none⟩ = some (.int .i64 cn) := X338.out.cell 0
  have q352 : v334.cell? ⟨w.heap.size + 1 + 1, 1, none⟩ = some (.int .i64 cd) := X338.out.cell 1
  have q353 : v334.cell? ⟨v26.heap.size, 0, none⟩ = some (.int .i64 mn) := X339.out.cell 0
  have q354 : v334.cell? ⟨v26.heap.size, 1, none⟩ = some (.int .i64 md) := X339.out.cell 1
  have q355 : v334.cell? ⟨v52.heap.size, 0, none⟩ = some (.int .i64 mn) := X340.out.cell 0
  have q356 : v334.cell? ⟨v52.heap.size, 1, none⟩ = some (.int .i64 md) := X340.out.cell 1
  have q357 : v334.cell? ⟨v84.heap.size, 0, none⟩ = some (.int .i64 sn) := X341.out.cell 0
  have q358 : v334.cell? ⟨v84.heap.size, 1, none⟩ = some (.int .i64 sd) := X341.out.cell 1
  have q359 : v334.cell? ⟨v122.heap.size, 0, none⟩ = some (.int .i64 sn) := X342.out.cell 0
  have q360 : v334.cell? ⟨v122.heap.size, 1, none⟩ = some (.int .i64 sd) := X342.out.cell 1
  have q361 : v334.cell? ⟨v166.heap.size, 0, none⟩ = some (.int .i64 kn) := X343.out.cell 0
  have q362 : v334.cell? ⟨v166.heap.size, 1, none⟩ = some (.int .i64 kd) := X343.out.cell 1
  have q363 : v334.cell? ⟨v216.heap.size, 0, none⟩ = some (.int .i64 xn) := X344.out.cell 0
  have q364 : v334.cell? ⟨v216.heap.size, 1, none⟩ = some (.int .i64 xd) := X344.out.cell 1
  have q365 : v334.cell? ⟨v272.heap.size, 0, none⟩ = some (.int .i64 yn) := X345.out.cell 0
  have q366 : v334.cell? ⟨v272.heap.size, 1, none⟩ = some (.int .i64 yd) := X345.out.cell 1
  have LT367 := Lib.hid X338.out.lt
  have X368 := Lib.hid (X336.out.alloc (.cells #[.int .i64 un, .int .i64 ud] 23))
  have X369 := Lib.hid (X337.out.alloc (.cells #[.int .i64 un, .int .i64 ud] 23))
  have X370 := Lib.hid (X338.out.alloc (.cells #[.int .i64 un, .int .i64 ud] 23))
  have X371 := Lib.hid (X339.out.alloc (.cells #[.int .i64 un, .int .i64 ud] 23))
  have X372 := Lib.hid (X340.out.alloc (.cells #[.int .i64 un, .int .i64 ud] 23))
  have X373 := Lib.hid (X341.out.alloc (.cells #[.int .i64 un, .int .i64 ud] 23))
  have X374 := Lib.hid (X342.out.alloc (.cells #[.int .i64 un, .int .i64 ud] 23))
  have X375 := Lib.hid (X343.out.alloc (.cells #[.int .i64 un, .int .i64 ud] 23))
  have X376 := Lib.hid (X344.out.alloc (.cells #[.int .i64 un, .int .i64 ud] 23))
  have X377 := Lib.hid (X345.out.alloc (.cells #[.int .i64 un, .int .i64 ud] 23))
  have B378 := Lib.hid (B346.out.alloc B346.out.size (.cells #[.int .i64 un, .int .i64 ud] 23))
  have X379 := Lib.hid (Box.made v334 23 #[.int .i64 un, .int .i64 ud])
  have q380 : (v334.alloc (.cells #[.int .i64 un, .int .i64 ud] 23)).cell? ⟨w.heap.size, 0, none⟩ = some (.int .i64 an) := X368.out.cell 0
  have q381 : (v334.alloc (.cells #[.int .i64 un, .int .i64 ud] 23)).cell? ⟨w.heap.size, 1, none⟩ = some (.int .i64 ad) := X368.out.cell 1
  have q382 : (v334.alloc (.cells #[.int .i64 un, .int .i64 ud] 23)).cell? ⟨w.heap.size + 1, 0, none⟩ = some (.int .i64 bn) := X369.out.cell 0
  have q383 : (v334.alloc (.cells #[.int .i64 un, .int .i64 ud] 23)).cell? ⟨w.heap.size + 1, 1, none⟩ = some (.int .i64 bd) := X369.out.cell 1
  have q384 : (v334.alloc (.cells #[.int .i64 un, .int .i64 ud] 23)).cell? ⟨w.heap.size + 1 + 1, 0, none⟩ = some (.int .i64 cn) := X370.out.cell 0
  have q385 : (v334.alloc (.cells #[.int .i64 un, .int .i64 ud] 23)).cell? ⟨w.heap.size + 1 + 1, 1, none⟩ = some (.int .i64 cd) := X370.out.cell 1
  have q386 : (v334.alloc (.cells #[.int .i64 un, .int .i64 ud] 23)).cell? ⟨v26.heap.size, 0, none⟩ = some (.int .i64 mn) := X371.out.cell 0
  have q387 : (v334.alloc (.cells #[.int .i64 un, .int .i64 ud] 23)).cell? ⟨v26.heap.size, 1, none⟩ = some (.int .i64 md) := X371.out.cell 1
  have q388 : (v334.alloc (.cells #[.int .i64 un, .int .i64 ud] 23)).cell? ⟨v52.heap.size, 0, none⟩ = some (.int .i64 mn) := X372.out.cell 0
  have q389 : (v334.alloc (.cells #[.int .i64 un, .int .i64 ud] 23)).cell? ⟨v52.heap.size, 1, none⟩ = some (.int .i64 md) := X372.out.cell 1
  have q390 : (v334.alloc (.cells #[.int .i64 un, .int .i64 ud] 23)).cell? ⟨v84.heap.size, 0, none⟩ = some (.int .i64 sn) := X373.out.cell 0
  have q391 : (v334.alloc (.cells #[.int .i64 un, .int .i64 ud] 23)).cell? ⟨v84.heap.size, 1, none⟩ = some (.int .i64 sd) := X373.out.cell 1
  have q392 : (v334.alloc (.cells #[.int .i64 un, .int .i64 ud] 23)).cell? ⟨v122.heap.size, 0, none⟩ = some (.int .i64 sn) := X374.out.cell 0
  have q393 : (v334.alloc (.cells #[.int .i64 un, .int .i64 ud] 23)).cell? ⟨v122.heap.size, 1, none⟩ = some (.int .i64 sd) := X374.out.cell 1
  have q394 : (v334.alloc (.cells #[.int .i64 un, .int .i64 ud] 23)).cell? ⟨v166.heap.size, 0, none⟩ = some (.int .i64 kn) := X375.out.cell 0
  have q395 : (v334.alloc (.cells #[.int .i64 un, .int .i64 ud] 23)).cell? ⟨v166.heap.size, 1, none⟩ = some (.int .i64 kd) := X375.out.cell 1
  have q396 : (v334.alloc (.cells #[.int .i64 un, .int .i64 ud] 23)).cell? ⟨v216.heap.size, 0, none⟩ = some (.int .i64 xn) := X376.out.cell 0
  have q397 : (v334.alloc (.cells #[.int .i64 un, .int .i64 ud] 23)).cell? ⟨v216.heap.size, 1, none⟩ = some (.int .i64 xd) := X376.out.cell 1
  have q398 : (v334.alloc (.cells #[.int .i64 un, .int .i64 ud] 23)).cell? ⟨v272.heap.size, 0, none⟩ = some (.int .i64 yn) := X377.out.cell 0
  have q399 : (v334.alloc (.cells #[.int .i64 un, .int .i64 ud] 23)).cell? ⟨v272.heap.size, 1, none⟩ = some (.int .i64 yd) := X377.out.cell 1
  have q400 : (v334.alloc (.cells #[.int .i64 un, .int .i64 ud] 23)).cell? ⟨v334.heap.size, 0, none⟩ = some (.int .i64 un) := X379.out.cell 0
  have q401 : (v334.alloc (.cells #[.int .i64 un, .int .i64 ud] 23)).cell? ⟨v334.heap.size, 1, none⟩ = some (.int .i64 ud) := X379.out.cell 1
  obtain ⟨⟨vn, vd, ve⟩, hv9⟩ : ∃ X9, plR sn sd cn cd = X9 := ⟨_, rfl⟩
  have Hv := Lib.hid hv9
  clear hv9
  go_wp2_with fail
  refine (Plus_c sn sd cn cd _).mono ?_; rintro e v402 ⟨rfl, hb403⟩
  have X404 := Lib.hid (X368.out.later hb403)
  have X405 := Lib.hid (X369.out.later hb403)
  have X406 := Lib.hid (X370.out.later hb403)
  have X407 := Lib.hid (X371.out.later hb403)
  have X408 := Lib.hid (X372.out.later hb403)
  have X409 := Lib.hid (X373.out.later hb403)
  have X410 := Lib.hid (X374.out.later hb403)
  have X411 := Lib.hid (X375.out.later hb403)
  have X412 := Lib.hid (X376.out.later hb403)
  have X413 := Lib.hid (X377.out.later hb403)
  have X414 := Lib.hid (X379.out.later hb403)
  have B415 := Lib.hid (B378.out.trans (hb403.mono B378.out.size))
  clear hb403
  rw [Hv.out]
  clear q380 q381 q382 q383 q384 q385 q386 q387 q388 q389 q390 q391 q392 q393 q394 q395 q396 q397 q398 q399 q400 q401 q347 q348 q349 q350 q351 q352 q353 q354 q355 q356 q357 q358 q359 q360 q361 q362 q363 q364 q365 q366
  have q416 : v402.cell? ⟨w.heap.size, 0, none⟩ = some (.int .i64 an) := X404.out.cell 0
  have q417 : v402.cell? ⟨w.heap.size, 1, none⟩ = some (.int .i64 ad) := X404.out.cell 1
  have q418 : v402.cell? ⟨w.heap.size + 1, 0, none⟩ = some (.int .i64 bn) := X405.out.cell 0
  have q419 : v402.cell? ⟨w.heap.size + 1, 1, none⟩ = some (.int .i64 bd) := X405.out.cell 1
  have q420 : v402.cell? ⟨w.heap.size + 1 + 1, 0, none⟩ = some (.int .i64 cn) := X406.out.cell 0
  have q421 : v402.cell? ⟨w.heap.size + 1 + 1, 1, none⟩ = some (.int .i64 cd) := X406.out.cell 1
  have q422 : v402.cell? ⟨v26.heap.size, 0, none⟩ = some (.int .i64 mn) := X407.out.cell 0
  have q423 : v402.cell? ⟨v26.heap.size, 1, none⟩ = some (.int .i64 md) := X407.out.cell 1
  have q424 : v402.cell? ⟨v52.heap.size, 0, none⟩ = some (.int .i64 mn) := X408.out.cell 0
  have q425 : v402.cell? ⟨v52.heap.size, 1, none⟩ = some (.int .i64 md) := X408.out.cell 1
  have q426 : v402.cell? ⟨v84.heap.size, 0, none⟩ = some (.int .i64 sn) := X409.out.cell 0
  have q427 : v402.cell? ⟨v84.heap.size, 1, none⟩ = some (.int .i64 sd) := X409.out.cell 1
  have q428 : v402.cell? ⟨v122.heap.size, 0, none⟩ = some (.int .i64 sn) := X410.out.cell 0
  have q429 : v402.cell? ⟨v122.heap.size, 1, none⟩ = some (.int .i64 sd) := X410.out.cell 1
  have q430 : v402.cell? ⟨v166.heap.size, 0, none⟩ = some (.int .i64 kn) := X411.out.cell 0
  have q431 : v402.cell? ⟨v166.heap.size, 1, none⟩ = some (.int .i64 kd) := X411.out.cell 1
  have q432 : v402.cell? ⟨v216.heap.size, 0, none⟩ = some (.int .i64 xn) := X412.out.cell 0
  have q433 : v402.cell? ⟨v216.heap.size, 1, none⟩ = some (.int .i64 xd) := X412.out.cell 1
  have q434 : v402.cell? ⟨v272.heap.size, 0, none⟩ = some (.int .i64 yn) := X413.out.cell 0
  have q435 : v402.cell? ⟨v272.heap.size, 1, none⟩ = some (.int .i64 yd) := X413.out.cell 1
  have q436 : v402.cell? ⟨v334.heap.size, 0, none⟩ = some (.int .i64 un) := X414.out.cell 0
  have q437 : v402.cell? ⟨v334.heap.size, 1, none⟩ = some (.int .i64 ud) := X414.out.cell 1
  have LT438 := Lib.hid X406.out.lt
  have X439 := Lib.hid (X404.out.alloc (.cells #[.int .i64 vn, .int .i64 vd] 23))
  have X440 := Lib.hid (X405.out.alloc (.cells #[.int .i64 vn, .int .i64 vd] 23))
  have X441 := Lib.hid (X406.out.alloc (.cells #[.int .i64 vn, .int .i64 vd] 23))
  have X442 := Lib.hid (X407.out.alloc (.cells #[.int .i64 vn, .int .i64 vd] 23))
  have X443 := Lib.hid (X408.out.alloc (.cells #[.int .i64 vn, .int .i64 vd] 23))
  have X444 := Lib.hid (X409.out.alloc (.cells #[.int .i64 vn, .int .i64 vd] 23))
  have X445 := Lib.hid (X410.out.alloc (.cells #[.int .i64 vn, .int .i64 vd] 23))
  have X446 := Lib.hid (X411.out.alloc (.cells #[.int .i64 vn, .int .i64 vd] 23))
  have X447 := Lib.hid (X412.out.alloc (.cells #[.int .i64 vn, .int .i64 vd] 23))
  have X448 := Lib.hid (X413.out.alloc (.cells #[.int .i64 vn, .int .i64 vd] 23))
  have X449 := Lib.hid (X414.out.alloc (.cells #[.int .i64 vn, .int .i64 vd] 23))
  have B450 := Lib.hid (B415.out.alloc B415.out.size (.cells #[.int .i64 vn, .int .i64 vd] 23))
  have X451 := Lib.hid (Box.made v402 23 #[.int .i64 vn, .int .i64 vd])
  have q452 : (v402.alloc (.cells #[.int .i64 vn, .int .i64 vd] 23)).cell? ⟨w.heap.size, 0, none⟩ = some (.int .i64 an) := X439.out.cell 0
  have q453 : (v402.alloc (.cells #[.int .i64 vn, .int .i64 vd] 23)).cell? ⟨w.heap.size, 1, none⟩ = some (.int .i64 ad) := X439.out.cell 1
  have q454 : (v402.alloc (.cells #[.int .i64 vn, .int .i64 vd] 23)).cell? ⟨w.heap.size + 1, 0, none⟩ = some (.int .i64 bn) := X440.out.cell 0
  have q455 : (v402.alloc (.cells #[.int .i64 vn, .int .i64 vd] 23)).cell? ⟨w.heap.size + 1, 1, none⟩ = some (.int .i64 bd) := X440.out.cell 1
  have q456 : (v402.alloc (.cells #[.int .i64 vn, .int .i64 vd] 23)).cell? ⟨w.heap.size + 1 + 1, 0, none⟩ = some (.int .i64 cn) := X441.out.cell 0
  have q457 : (v402.alloc (.cells #[.int .i64 vn, .int .i64 vd] 23)).cell? ⟨w.heap.size + 1 + 1, 1, none⟩ = some (.int .i64 cd) := X441.out.cell 1
  have q458 : (v402.alloc (.cells #[.int .i64 vn, .int .i64 vd] 23)).cell? ⟨v26.heap.size, 0, none⟩ = some (.int .i64 mn) := X442.out.cell 0
  have q459 : (v402.alloc (.cells #[.int .i64 vn, .int .i64 vd] 23)).cell? ⟨v26.heap.size, 1, none⟩ = some (.int .i64 md) := X442.out.cell 1
  have q460 : (v402.alloc (.cells #[.int .i64 vn, .int .i64 vd] 23)).cell? ⟨v52.heap.size, 0, none⟩ = some (.int .i64 mn) := X443.out.cell 0
  have q461 : (v402.alloc (.cells #[.int .i64 vn, .int .i64 vd] 23)).cell? ⟨v52.heap.size, 1, none⟩ = some (.int .i64 md) := X443.out.cell 1
  have q462 : (v402.alloc (.cells #[.int .i64 vn, .int .i64 vd] 23)).cell? ⟨v84.heap.size, 0, none⟩ = some (.int .i64 sn) := X444.out.cell 0
  have q463 : (v402.alloc (.cells #[.int .i64 vn, .int .i64 vd] 23)).cell? ⟨v84.heap.size, 1, none⟩ = some (.int .i64 sd) := X444.out.cell 1
  have q464 : (v402.alloc (.cells #[.int .i64 vn, .int .i64 vd] 23)).cell? ⟨v122.heap.size, 0, none⟩ = some (.int .i64 sn) := X445.out.cell 0
  have q465 : (v402.alloc (.cells #[.int .i64 vn, .int .i64 vd] 23)).cell? ⟨v122.heap.size, 1, none⟩ = some (.int .i64 sd) := X445.out.cell 1
  have q466 : (v402.alloc (.cells #[.int .i64 vn, .int .i64 vd] 23)).cell? ⟨v166.heap.size, 0, none⟩ = some (.int .i64 kn) := X446.out.cell 0
  have q467 : (v402.alloc (.cells #[.int .i64 vn, .int .i64 vd] 23)).cell? ⟨v166.heap.size, 1, none⟩ = some (.int .i64 kd) := X446.out.cell 1
  have q468 : (v402.alloc (.cells #[.int .i64 vn, .int .i64 vd] 23)).cell? ⟨v216.heap.size, 0, none⟩ = some (.int .i64 xn) := X447.out.cell 0
  have q469 : (v402.alloc (.cells #[.int .i64 vn, .int .i64 vd] 23)).cell? ⟨v216.heap.size, 1, none⟩ = some (.int .i64 xd) := X447.out.cell 1
  have q470 : (v402.alloc (.cells #[.int .i64 vn, .int .i64 vd] 23)).cell? ⟨v272.heap.size, 0, none⟩ = some (.int .i64 yn) := X448.out.cell 0
  have q471 : (v402.alloc (.cells #[.int .i64 vn, .int .i64 vd] 23)).cell? ⟨v272.heap.size, 1, none⟩ = some (.int .i64 yd) := X448.out.cell 1
  have q472 : (v402.alloc (.cells #[.int .i64 vn, .int .i64 vd] 23)).cell? ⟨v334.heap.size, 0, none⟩ = some (.int .i64 un) := X449.out.cell 0
  have q473 : (v402.alloc (.cells #[.int .i64 vn, .int .i64 vd] 23)).cell? ⟨v334.heap.size, 1, none⟩ = some (.int .i64 ud) := X449.out.cell 1
  have q474 : (v402.alloc (.cells #[.int .i64 vn, .int .i64 vd] 23)).cell? ⟨v402.heap.size, 0, none⟩ = some (.int .i64 vn) := X451.out.cell 0
  have q475 : (v402.alloc (.cells #[.int .i64 vn, .int .i64 vd] 23)).cell? ⟨v402.heap.size, 1, none⟩ = some (.int .i64 vd) := X451.out.cell 1
  obtain ⟨⟨wn, wd, we⟩, hw9⟩ : ∃ X9, plR an ad un ud = X9 := ⟨_, rfl⟩
  have Hw := Lib.hid hw9
  clear hw9
  go_wp2_with fail
  refine (Plus_c an ad un ud _).mono ?_; rintro e v476 ⟨rfl, hb477⟩
  have X478 := Lib.hid (X439.out.later hb477)
  have X479 := Lib.hid (X440.out.later hb477)
  have X480 := Lib.hid (X441.out.later hb477)
  have X481 := Lib.hid (X442.out.later hb477)
  have X482 := Lib.hid (X443.out.later hb477)
  have X483 := Lib.hid (X444.out.later hb477)
  have X484 := Lib.hid (X445.out.later hb477)
  have X485 := Lib.hid (X446.out.later hb477)
  have X486 := Lib.hid (X447.out.later hb477)
  have X487 := Lib.hid (X448.out.later hb477)
  have X488 := Lib.hid (X449.out.later hb477)
  have X489 := Lib.hid (X451.out.later hb477)
  have B490 := Lib.hid (B450.out.trans (hb477.mono B450.out.size))
  clear hb477
  rw [Hw.out]
  clear q452 q453 q454 q455 q456 q457 q458 q459 q460 q461 q462 q463 q464 q465 q466 q467 q468 q469 q470 q471 q472 q473 q474 q475 q416 q417 q418 q419 q420 q421 q422 q423 q424 q425 q426 q427 q428 q429 q430 q431 q432 q433 q434 q435 q436 q437
  have q491 : v476.cell? ⟨w.heap.size, 0, none⟩ = some (.int .i64 an) := X478.out.cell 0
  have q492 : v476.cell? ⟨w.heap.size, 1, none⟩ = some (.int .i64 ad) := X478.out.cell 1
  have q493 : v476.cell? ⟨w.heap.size + 1, 0, none⟩ = some (.int .i64 bn) := X479.out.cell 0
  have q494 : v476.cell? ⟨w.heap.size + 1, 1, none⟩ = some (.int .i64 bd) := X479.out.cell 1
  have q495 : v476.cell? ⟨w.heap.size + 1 + 1, 0, none⟩ = some (.int .i64 cn) := X480.out.cell 0
  have q496 : v476.cell? ⟨w.heap.size + 1 + 1, 1, none⟩ = some (.int .i64 cd) := X480.out.cell 1
  have q497 : v476.cell? ⟨v26.heap.size, 0, none⟩ = some (.int .i64 mn) := X481.out.cell 0
  have q498 : v476.cell? ⟨v26.heap.size, 1, none⟩ = some (.int .i64 md) := X481.out.cell 1
  have q499 : v476.cell? ⟨v52.heap.size, 0, none⟩ = some (.int .i64 mn) := X482.out.cell 0
  have q500 : v476.cell? ⟨v52.heap.size, 1, none⟩ = some (.int .i64 md) := X482.out.cell 1
  have q501 : v476.cell? ⟨v84.heap.size, 0, none⟩ = some (.int .i64 sn) := X483.out.cell 0
  have q502 : v476.cell? ⟨v84.heap.size, 1, none⟩ = some (.int .i64 sd) := X483.out.cell 1
  have q503 : v476.cell? ⟨v122.heap.size, 0, none⟩ = some (.int .i64 sn) := X484.out.cell 0
  have q504 : v476.cell? ⟨v122.heap.size, 1, none⟩ = some (.int .i64 sd) := X484.out.cell 1
  have q505 : v476.cell? ⟨v166.heap.size, 0, none⟩ = some (.int .i64 kn) := X485.out.cell 0
  have q506 : v476.cell? ⟨v166.heap.size, 1, none⟩ = some (.int .i64 kd) := X485.out.cell 1
  have q507 : v476.cell? ⟨v216.heap.size, 0, none⟩ = some (.int .i64 xn) := X486.out.cell 0
  have q508 : v476.cell? ⟨v216.heap.size, 1, none⟩ = some (.int .i64 xd) := X486.out.cell 1
  have q509 : v476.cell? ⟨v272.heap.size, 0, none⟩ = some (.int .i64 yn) := X487.out.cell 0
  have q510 : v476.cell? ⟨v272.heap.size, 1, none⟩ = some (.int .i64 yd) := X487.out.cell 1
  have q511 : v476.cell? ⟨v334.heap.size, 0, none⟩ = some (.int .i64 un) := X488.out.cell 0
  have q512 : v476.cell? ⟨v334.heap.size, 1, none⟩ = some (.int .i64 ud) := X488.out.cell 1
  have q513 : v476.cell? ⟨v402.heap.size, 0, none⟩ = some (.int .i64 vn) := X489.out.cell 0
  have q514 : v476.cell? ⟨v402.heap.size, 1, none⟩ = some (.int .i64 vd) := X489.out.cell 1
  have LT515 := Lib.hid X480.out.lt
  have X516 := Lib.hid (X478.out.alloc (.cells #[.int .i64 wn, .int .i64 wd] 23))
  have X517 := Lib.hid (X479.out.alloc (.cells #[.int .i64 wn, .int .i64 wd] 23))
  have X518 := Lib.hid (X480.out.alloc (.cells #[.int .i64 wn, .int .i64 wd] 23))
  have X519 := Lib.hid (X481.out.alloc (.cells #[.int .i64 wn, .int .i64 wd] 23))
  have X520 := Lib.hid (X482.out.alloc (.cells #[.int .i64 wn, .int .i64 wd] 23))
  have X521 := Lib.hid (X483.out.alloc (.cells #[.int .i64 wn, .int .i64 wd] 23))
  have X522 := Lib.hid (X484.out.alloc (.cells #[.int .i64 wn, .int .i64 wd] 23))
  have X523 := Lib.hid (X485.out.alloc (.cells #[.int .i64 wn, .int .i64 wd] 23))
  have X524 := Lib.hid (X486.out.alloc (.cells #[.int .i64 wn, .int .i64 wd] 23))
  have X525 := Lib.hid (X487.out.alloc (.cells #[.int .i64 wn, .int .i64 wd] 23))
  have X526 := Lib.hid (X488.out.alloc (.cells #[.int .i64 wn, .int .i64 wd] 23))
  have X527 := Lib.hid (X489.out.alloc (.cells #[.int .i64 wn, .int .i64 wd] 23))
  have B528 := Lib.hid (B490.out.alloc B490.out.size (.cells #[.int .i64 wn, .int .i64 wd] 23))
  have X529 := Lib.hid (Box.made v476 23 #[.int .i64 wn, .int .i64 wd])
  have q530 : (v476.alloc (.cells #[.int .i64 wn, .int .i64 wd] 23)).cell? ⟨w.heap.size, 0, none⟩ = some (.int .i64 an) := X516.out.cell 0
  have q531 : (v476.alloc (.cells #[.int .i64 wn, .int .i64 wd] 23)).cell? ⟨w.heap.size, 1, none⟩ = some (.int .i64 ad) := X516.out.cell 1
  have q532 : (v476.alloc (.cells #[.int .i64 wn, .int .i64 wd] 23)).cell? ⟨w.heap.size + 1, 0, none⟩ = some (.int .i64 bn) := X517.out.cell 0
  have q533 : (v476.alloc (.cells #[.int .i64 wn, .int .i64 wd] 23)).cell? ⟨w.heap.size + 1, 1, none⟩ = some (.int .i64 bd) := X517.out.cell 1
  have q534 : (v476.alloc (.cells #[.int .i64 wn, .int .i64 wd] 23)).cell? ⟨w.heap.size + 1 + 1, 0, none⟩ = some (.int .i64 cn) := X518.out.cell 0
  have q535 : (v476.alloc (.cells #[.int .i64 wn, .int .i64 wd] 23)).cell? ⟨w.heap.size + 1 + 1, 1, none⟩ = some (.int .i64 cd) := X518.out.cell 1
  have q536 : (v476.alloc (.cells #[.int .i64 wn, .int .i64 wd] 23)).cell? ⟨v26.heap.size, 0, none⟩ = some (.int .i64 mn) := X519.out.cell 0
  have q537 : (v476.alloc (.cells #[.int .i64 wn, .int .i64 wd] 23)).cell? ⟨v26.heap.size, 1, none⟩ = some (.int .i64 md) := X519.out.cell 1
  have q538 : (v476.alloc (.cells #[.int .i64 wn, .int .i64 wd] 23)).cell? ⟨v52.heap.size, 0, none⟩ = some (.int .i64 mn) := X520.out.cell 0
  have q539 : (v476.alloc (.cells #[.int .i64 wn, .int .i64 wd] 23)).cell? ⟨v52.heap.size, 1, none⟩ = some (.int .i64 md) := X520.out.cell 1
  have q540 : (v476.alloc (.cells #[.int .i64 wn, .int .i64 wd] 23)).cell? ⟨v84.heap.size, 0, none⟩ = some (.int .i64 sn) := X521.out.cell 0
  have q541 : (v476.alloc (.cells #[.int .i64 wn, .int .i64 wd] 23)).cell? ⟨v84.heap.size, 1, none⟩ = some (.int .i64 sd) := X521.out.cell 1
  have q542 : (v476.alloc (.cells #[.int .i64 wn, .int .i64 wd] 23)).cell? ⟨v122.heap.size, 0, none⟩ = some (.int .i64 sn) := X522.out.cell 0
  have q543 : (v476.alloc (.cells #[.int .i64 wn, .int .i64 wd] 23)).cell? ⟨v122.heap.size, 1, none⟩ = some (.int .i64 sd) := X522.out.cell 1
  have q544 : (v476.alloc (.cells #[.int .i64 wn, .int .i64 wd] 23)).cell? ⟨v166.heap.size, 0, none⟩ = some (.int .i64 kn) := X523.out.cell 0
  have q545 : (v476.alloc (.cells #[.int .i64 wn, .int .i64 wd] 23)).cell? ⟨v166.heap.size, 1, none⟩ = some (.int .i64 kd) := X523.out.cell 1
  have q546 : (v476.alloc (.cells #[.int .i64 wn, .int .i64 wd] 23)).cell? ⟨v216.heap.size, 0, none⟩ = some (.int .i64 xn) := X524.out.cell 0
  have q547 : (v476.alloc (.cells #[.int .i64 wn, .int .i64 wd] 23)).cell? ⟨v216.heap.size, 1, none⟩ = some (.int .i64 xd) := X524.out.cell 1
  have q548 : (v476.alloc (.cells #[.int .i64 wn, .int .i64 wd] 23)).cell? ⟨v272.heap.size, 0, none⟩ = some (.int .i64 yn) := X525.out.cell 0
  have q549 : (v476.alloc (.cells #[.int .i64 wn, .int .i64 wd] 23)).cell? ⟨v272.heap.size, 1, none⟩ = some (.int .i64 yd) := X525.out.cell 1
  have q550 : (v476.alloc (.cells #[.int .i64 wn, .int .i64 wd] 23)).cell? ⟨v334.heap.size, 0, none⟩ = some (.int .i64 un) := X526.out.cell 0
  have q551 : (v476.alloc (.cells #[.int .i64 wn, .int .i64 wd] 23)).cell? ⟨v334.heap.size, 1, none⟩ = some (.int .i64 ud) := X526.out.cell 1
  have q552 : (v476.alloc (.cells #[.int .i64 wn, .int .i64 wd] 23)).cell? ⟨v402.heap.size, 0, none⟩ = some (.int .i64 vn) := X527.out.cell 0
  have q553 : (v476.alloc (.cells #[.int .i64 wn, .int .i64 wd] 23)).cell? ⟨v402.heap.size, 1, none⟩ = some (.int .i64 vd) := X527.out.cell 1
  have q554 : (v476.alloc (.cells #[.int .i64 wn, .int .i64 wd] 23)).cell? ⟨v476.heap.size, 0, none⟩ = some (.int .i64 wn) := X529.out.cell 0
  have q555 : (v476.alloc (.cells #[.int .i64 wn, .int .i64 wd] 23)).cell? ⟨v476.heap.size, 1, none⟩ = some (.int .i64 wd) := X529.out.cell 1
  have HC2 := Lib.hid (show se = 0 → ue = 0 → ve = 0 → we = 0 ∧ vn = wn ∧ vd = wd from fun h1 h2 h3 => by
    have ha := pl_assoc (an := an) (ad := ad) (bn := bn) (bd := bd) (cn := cn) (cd := cd) (by rw [Hs.out]; exact h1) (by rw [Hu.out]; exact h2)
    rw [Hu.out, Hs.out] at ha
    have ha2 := Hw.out.symm.trans (ha.trans Hv.out)
    injection ha2 with p1 p2 p3
    exact ⟨by rw [p3]; exact h3, p1.symm, p2.symm⟩)
  iterate 40 (first | (with_reducible show Code.wp _ (Code.region 16 _ _) _ _ _) | go_values | go_skip | go_guarded | go_step | go_upon | go_back | (simp only [Int.not_lt, Int.not_le] at *; go_simp) | go_simp)
  refine field16_c se ue ve we vn vd wn wd _ _ _ _ _ _ _ _ _ _ _ _ _ _ _ _ _ _ _ _ _ _ _ _ _ _ _ _ _ _ _ _ _ _ _ _ _ _ _ _ _ _ _ _ _ _ _ _ _ _ _ _ _ _ _ _ _ _ _ _ _ _ _ _ _ _ _ _ _ _ _ _ _ _ _ _ _ _ _ _ _ _ _ _ _ _ _ _ _ _ _ _ _ _ _ _ _ _ _ _ _ _ _ _ _ _ _ _ _ _ _ _ _ _ _ _ _ _ _ _ _ _ _ _ _ _ _ _ _ _ _ _ _ _ _ _ _ _ _ _ _ _ _ _ _ _ _ _ _ _ _ _ _ _ _ _ _ _ _ _ _ _ _ _ _ _ _ _ _ _ _ _ _ _ _ _ _ _ _ _ _ _ _ _ _ _ _ _ _ _ _ _ X527.out X529.out HC2.out ?_
  intro _ _ _ _ _ _ _ _ _ _ _ _ _ _ _ _ _ _
  go_wp2_with fail
  obtain ⟨⟨on, od, oe⟩, ho9⟩ : ∃ X9, tmR an ad cn cd = X9 := ⟨_, rfl⟩
  have Ho := Lib.hid ho9
  clear ho9
  go_wp2_with fail
  refine (Times_c an ad cn cd _).mono ?_; rintro e v556 ⟨rfl, hb557⟩
  have X558 := Lib.hid (X516.out.later hb557)
  have X559 := Lib.hid (X517.out.later hb557)
  have X560 := Lib.hid (X518.out.later hb557)
  have X561 := Lib.hid (X519.out.later hb557)
  have X562 := Lib.hid (X520.out.later hb557)
  have X563 := Lib.hid (X521.out.later hb557)
  have X564 := Lib.hid (X522.out.later hb557)
  have X565 := Lib.hid (X523.out.later hb557)
  have X566 := Lib.hid (X524.out.later hb557)
  have X567 := Lib.hid (X525.out.later hb557)
  have X568 := Lib.hid (X526.out.later hb557)
  have X569 := Lib.hid (X527.out.later hb557)
  have X570 := Lib.hid (X529.out.later hb557)
  have B571 := Lib.hid (B528.out.trans (hb557.mono B528.out.size))
  clear hb557
  rw [Ho.out]
  clear q530 q531 q532 q533 q534 q535 q536 q537 q538 q539 q540 q541 q542 q543 q544 q545 q546 q547 q548 q549 q550 q551 q552 q553 q554 q555 q491 q492 q493 q494 q495 q496 q497 q498 q499 q500 q501 q502 q503 q504 q505 q506 q507 q508 q509 q510 q511 q512 q513 q514
  have q572 : v556.cell? ⟨w.heap.size, 0, none⟩ = some (.int .i64 an) := X558.out.cell 0
  have q573 : v556.cell? ⟨w.heap.size, 1, none⟩ = some (.int .i64 ad) := X558.out.cell 1
  have q574 : v556.cell? ⟨w.heap.size + 1, 0, none⟩ = some (.int .i64 bn) := X559.out.cell 0
  have q575 : v556.cell? ⟨w.heap.size + 1, 1, none⟩ = some (.int .i64 bd) := X559.out.cell 1
  have q576 : v556.cell? ⟨w.heap.size + 1 + 1, 0, none⟩ = some (.int .i64 cn) := X560.out.cell 0
  have q577 : v556.cell? ⟨w.heap.size + 1 + 1, 1, none⟩ = some (.int .i64 cd) := X560.out.cell 1
  have q578 : v556.cell? ⟨v26.heap.size, 0, none⟩ = some (.int .i64 mn) := X561.out.cell 0
  have q579 : v556.cell? ⟨v26.heap.size, 1, none⟩ = some (.int .i64 md) := X561.out.cell 1
  have q580 : v556.cell? ⟨v52.heap.size, 0, none⟩ = some (.int .i64 mn) := X562.out.cell 0
  have q581 : v556.cell? ⟨v52.heap.size, 1, none⟩ = some (.int .i64 md) := X562.out.cell 1
  have q582 : v556.cell? ⟨v84.heap.size, 0, none⟩ = some (.int .i64 sn) := X563.out.cell 0
  have q583 : v556.cell? ⟨v84.heap.size, 1, none⟩ = some (.int .i64 sd) := X563.out.cell 1
  have q584 : v556.cell? ⟨v122.heap.size, 0, none⟩ = some (.int .i64 sn) := X564.out.cell 0
  have q585 : v556.cell? ⟨v122.heap.size, 1, none⟩ = some (.int .i64 sd) := X564.out.cell 1
  have q586 : v556.cell? ⟨v166.heap.size, 0, none⟩ = some (.int .i64 kn) := X565.out.cell 0
  have q587 : v556.cell? ⟨v166.heap.size, 1, none⟩ = some (.int .i64 kd) := X565.out.cell 1
  have q588 : v556.cell? ⟨v216.heap.size, 0, none⟩ = some (.int .i64 xn) := X566.out.cell 0
  have q589 : v556.cell? ⟨v216.heap.size, 1, none⟩ = some (.int .i64 xd) := X566.out.cell 1
  have q590 : v556.cell? ⟨v272.heap.size, 0, none⟩ = some (.int .i64 yn) := X567.out.cell 0
  have q591 : v556.cell? ⟨v272.heap.size, 1, none⟩ = some (.int .i64 yd) := X567.out.cell 1
  have q592 : v556.cell? ⟨v334.heap.size, 0, none⟩ = some (.int .i64 un) := X568.out.cell 0
  have q593 : v556.cell? ⟨v334.heap.size, 1, none⟩ = some (.int .i64 ud) := X568.out.cell 1
  have q594 : v556.cell? ⟨v402.heap.size, 0, none⟩ = some (.int .i64 vn) := X569.out.cell 0
  have q595 : v556.cell? ⟨v402.heap.size, 1, none⟩ = some (.int .i64 vd) := X569.out.cell 1
  have q596 : v556.cell? ⟨v476.heap.size, 0, none⟩ = some (.int .i64 wn) := X570.out.cell 0
  have q597 : v556.cell? ⟨v476.heap.size, 1, none⟩ = some (.int .i64 wd) := X570.out.cell 1
  have LT598 := Lib.hid X560.out.lt
  have X599 := Lib.hid (X558.out.alloc (.cells #[.int .i64 on, .int .i64 od] 23))
  have X600 := Lib.hid (X559.out.alloc (.cells #[.int .i64 on, .int .i64 od] 23))
  have X601 := Lib.hid (X560.out.alloc (.cells #[.int .i64 on, .int .i64 od] 23))
  have X602 := Lib.hid (X561.out.alloc (.cells #[.int .i64 on, .int .i64 od] 23))
  have X603 := Lib.hid (X562.out.alloc (.cells #[.int .i64 on, .int .i64 od] 23))
  have X604 := Lib.hid (X563.out.alloc (.cells #[.int .i64 on, .int .i64 od] 23))
  have X605 := Lib.hid (X564.out.alloc (.cells #[.int .i64 on, .int .i64 od] 23))
  have X606 := Lib.hid (X565.out.alloc (.cells #[.int .i64 on, .int .i64 od] 23))
  have X607 := Lib.hid (X566.out.alloc (.cells #[.int .i64 on, .int .i64 od] 23))
  have X608 := Lib.hid (X567.out.alloc (.cells #[.int .i64 on, .int .i64 od] 23))
  have X609 := Lib.hid (X568.out.alloc (.cells #[.int .i64 on, .int .i64 od] 23))
  have X610 := Lib.hid (X569.out.alloc (.cells #[.int .i64 on, .int .i64 od] 23))
  have X611 := Lib.hid (X570.out.alloc (.cells #[.int .i64 on, .int .i64 od] 23))
  have B612 := Lib.hid (B571.out.alloc B571.out.size (.cells #[.int .i64 on, .int .i64 od] 23))
  have X613 := Lib.hid (Box.made v556 23 #[.int .i64 on, .int .i64 od])
  have q614 : (v556.alloc (.cells #[.int .i64 on, .int .i64 od] 23)).cell? ⟨w.heap.size, 0, none⟩ = some (.int .i64 an) := X599.out.cell 0
  have q615 : (v556.alloc (.cells #[.int .i64 on, .int .i64 od] 23)).cell? ⟨w.heap.size, 1, none⟩ = some (.int .i64 ad) := X599.out.cell 1
  have q616 : (v556.alloc (.cells #[.int .i64 on, .int .i64 od] 23)).cell? ⟨w.heap.size + 1, 0, none⟩ = some (.int .i64 bn) := X600.out.cell 0
  have q617 : (v556.alloc (.cells #[.int .i64 on, .int .i64 od] 23)).cell? ⟨w.heap.size + 1, 1, none⟩ = some (.int .i64 bd) := X600.out.cell 1
  have q618 : (v556.alloc (.cells #[.int .i64 on, .int .i64 od] 23)).cell? ⟨w.heap.size + 1 + 1, 0, none⟩ = some (.int .i64 cn) := X601.out.cell 0
  have q619 : (v556.alloc (.cells #[.int .i64 on, .int .i64 od] 23)).cell? ⟨w.heap.size + 1 + 1, 1, none⟩ = some (.int .i64 cd) := X601.out.cell 1
  have q620 : (v556.alloc (.cells #[.int .i64 on, .int .i64 od] 23)).cell? ⟨v26.heap.size, 0, none⟩ = some (.int .i64 mn) := X602.out.cell 0
  have q621 : (v556.alloc (.cells #[.int .i64 on, .int .i64 od] 23)).cell? ⟨v26.heap.size, 1, none⟩ = some (.int .i64 md) := X602.out.cell 1
  have q622 : (v556.alloc (.cells #[.int .i64 on, .int .i64 od] 23)).cell? ⟨v52.heap.size, 0, none⟩ = some (.int .i64 mn) := X603.out.cell 0
  have q623 : (v556.alloc (.cells #[.int .i64 on, .int .i64 od] 23)).cell? ⟨v52.heap.size, 1, none⟩ = some (.int .i64 md) := X603.out.cell 1
  have q624 : (v556.alloc (.cells #[.int .i64 on, .int .i64 od] 23)).cell? ⟨v84.heap.size, 0, none⟩ = some (.int .i64 sn) := X604.out.cell 0
  have q625 : (v556.alloc (.cells #[.int .i64 on, .int .i64 od] 23)).cell? ⟨v84.heap.size, 1, none⟩ = some (.int .i64 sd) := X604.out.cell 1
  have q626 : (v556.alloc (.cells #[.int .i64 on, .int .i64 od] 23)).cell? ⟨v122.heap.size, 0, none⟩ = some (.int .i64 sn) := X605.out.cell 0
  have q627 : (v556.alloc (.cells #[.int .i64 on, .int .i64 od] 23)).cell? ⟨v122.heap.size, 1, none⟩ = some (.int .i64 sd) := X605.out.cell 1
  have q628 : (v556.alloc (.cells #[.int .i64 on, .int .i64 od] 23)).cell? ⟨v166.heap.size, 0, none⟩ = some (.int .i64 kn) := X606.out.cell 0
  have q629 : (v556.alloc (.cells #[.int .i64 on, .int .i64 od] 23)).cell? ⟨v166.heap.size, 1, none⟩ = some (.int .i64 kd) := X606.out.cell 1
  have q630 : (v556.alloc (.cells #[.int .i64 on, .int .i64 od] 23)).cell? ⟨v216.heap.size, 0, none⟩ = some (.int .i64 xn) := X607.out.cell 0
  have q631 : (v556.alloc (.cells #[.int .i64 on, .int .i64 od] 23)).cell? ⟨v216.heap.size, 1, none⟩ = some (.int .i64 xd) := X607.out.cell 1
  have q632 : (v556.alloc (.cells #[.int .i64 on, .int .i64 od] 23)).cell? ⟨v272.heap.size, 0, none⟩ = some (.int .i64 yn) := X608.out.cell 0
  have q633 : (v556.alloc (.cells #[.int .i64 on, .int .i64 od] 23)).cell? ⟨v272.heap.size, 1, none⟩ = some (.int .i64 yd) := X608.out.cell 1
  have q634 : (v556.alloc (.cells #[.int .i64 on, .int .i64 od] 23)).cell? ⟨v334.heap.size, 0, none⟩ = some (.int .i64 un) := X609.out.cell 0
  have q635 : (v556.alloc (.cells #[.int .i64 on, .int .i64 od] 23)).cell? ⟨v334.heap.size, 1, none⟩ = some (.int .i64 ud) := X609.out.cell 1
  have q636 : (v556.alloc (.cells #[.int .i64 on, .int .i64 od] 23)).cell? ⟨v402.heap.size, 0, none⟩ = some (.int .i64 vn) := X610.out.cell 0
  have q637 : (v556.alloc (.cells #[.int .i64 on, .int .i64 od] 23)).cell? ⟨v402.heap.size, 1, none⟩ = some (.int .i64 vd) := X610.out.cell 1
  have q638 : (v556.alloc (.cells #[.int .i64 on, .int .i64 od] 23)).cell? ⟨v476.heap.size, 0, none⟩ = some (.int .i64 wn) := X611.out.cell 0
  have q639 : (v556.alloc (.cells #[.int .i64 on, .int .i64 od] 23)).cell? ⟨v476.heap.size, 1, none⟩ = some (.int .i64 wd) := X611.out.cell 1
  have q640 : (v556.alloc (.cells #[.int .i64 on, .int .i64 od] 23)).cell? ⟨v556.heap.size, 0, none⟩ = some (.int .i64 on) := X613.out.cell 0
  have q641 : (v556.alloc (.cells #[.int .i64 on, .int .i64 od] 23)).cell? ⟨v556.heap.size, 1, none⟩ = some (.int .i64 od) := X613.out.cell 1
  obtain ⟨⟨pn, pd, pe⟩, hp9⟩ : ∃ X9, plR mn md on od = X9 := ⟨_, rfl⟩
  have Hp := Lib.hid hp9
  clear hp9
  go_wp2_with fail
  refine (Plus_c mn md on od _).mono ?_; rintro e v642 ⟨rfl, hb643⟩
  have X644 := Lib.hid (X599.out.later hb643)
  have X645 := Lib.hid (X600.out.later hb643)
  have X646 := Lib.hid (X601.out.later hb643)
  have X647 := Lib.hid (X602.out.later hb643)
  have X648 := Lib.hid (X603.out.later hb643)
  have X649 := Lib.hid (X604.out.later hb643)
  have X650 := Lib.hid (X605.out.later hb643)
  have X651 := Lib.hid (X606.out.later hb643)
  have X652 := Lib.hid (X607.out.later hb643)
  have X653 := Lib.hid (X608.out.later hb643)
  have X654 := Lib.hid (X609.out.later hb643)
  have X655 := Lib.hid (X610.out.later hb643)
  have X656 := Lib.hid (X611.out.later hb643)
  have X657 := Lib.hid (X613.out.later hb643)
  have B658 := Lib.hid (B612.out.trans (hb643.mono B612.out.size))
  clear hb643
  rw [Hp.out]
  clear q614 q615 q616 q617 q618 q619 q620 q621 q622 q623 q624 q625 q626 q627 q628 q629 q630 q631 q632 q633 q634 q635 q636 q637 q638 q639 q640 q641 q572 q573 q574 q575 q576 q577 q578 q579 q580 q581 q582 q583 q584 q585 q586 q587 q588 q589 q590 q591 q592 q593 q594 q595 q596 q597
  have q659 : v642.cell? ⟨w.heap.size, 0, none⟩ = some (.int .i64 an) := X644.out.cell 0
  have q660 : v642.cell? ⟨w.heap.size, 1, none⟩ = some (.int .i64 ad) := X644.out.cell 1
  have q661 : v642.cell? ⟨w.heap.size + 1, 0, none⟩ = some (.int .i64 bn) := X645.out.cell 0
  have q662 : v642.cell? ⟨w.heap.size + 1, 1, none⟩ = some (.int .i64 bd) := X645.out.cell 1
  have q663 : v642.cell? ⟨w.heap.size + 1 + 1, 0, none⟩ = some (.int .i64 cn) := X646.out.cell 0
  have q664 : v642.cell? ⟨w.heap.size + 1 + 1, 1, none⟩ = some (.int .i64 cd) := X646.out.cell 1
  have q665 : v642.cell? ⟨v26.heap.size, 0, none⟩ = some (.int .i64 mn) := X647.out.cell 0
  have q666 : v642.cell? ⟨v26.heap.size, 1, none⟩ = some (.int .i64 md) := X647.out.cell 1
  have q667 : v642.cell? ⟨v52.heap.size, 0, none⟩ = some (.int .i64 mn) := X648.out.cell 0
  have q668 : v642.cell? ⟨v52.heap.size, 1, none⟩ = some (.int .i64 md) := X648.out.cell 1
  have q669 : v642.cell? ⟨v84.heap.size, 0, none⟩ = some (.int .i64 sn) := X649.out.cell 0
  have q670 : v642.cell? ⟨v84.heap.size, 1, none⟩ = some (.int .i64 sd) := X649.out.cell 1
  have q671 : v642.cell? ⟨v122.heap.size, 0, none⟩ = some (.int .i64 sn) := X650.out.cell 0
  have q672 : v642.cell? ⟨v122.heap.size, 1, none⟩ = some (.int .i64 sd) := X650.out.cell 1
  have q673 : v642.cell? ⟨v166.heap.size, 0, none⟩ = some (.int .i64 kn) := X651.out.cell 0
  have q674 : v642.cell? ⟨v166.heap.size, 1, none⟩ = some (.int .i64 kd) := X651.out.cell 1
  have q675 : v642.cell? ⟨v216.heap.size, 0, none⟩ = some (.int .i64 xn) := X652.out.cell 0
  have q676 : v642.cell? ⟨v216.heap.size, 1, none⟩ = some (.int .i64 xd) := X652.out.cell 1
  have q677 : v642.cell? ⟨v272.heap.size, 0, none⟩ = some (.int .i64 yn) := X653.out.cell 0
  have q678 : v642.cell? ⟨v272.heap.size, 1, none⟩ = some (.int .i64 yd) := X653.out.cell 1
  have q679 : v642.cell? ⟨v334.heap.size, 0, none⟩ = some (.int .i64 un) := X654.out.cell 0
  have q680 : v642.cell? ⟨v334.heap.size, 1, none⟩ = some (.int .i64 ud) := X654.out.cell 1
  have q681 : v642.cell? ⟨v402.heap.size, 0, none⟩ = some (.int .i64 vn) := X655.out.cell 0
  have q682 : v642.cell? ⟨v402.heap.size, 1, none⟩ = some (.int .i64 vd) := X655.out.cell 1
  have q683 : v642.cell? ⟨v476.heap.size, 0, none⟩ = some (.int .i64 wn) := X656.out.cell 0
  have q684 : v642.cell? ⟨v476.heap.size, 1, none⟩ = some (.int .i64 wd) := X656.out.cell 1
  have q685 : v642.cell? ⟨v556.heap.size, 0, none⟩ = some (.int .i64 on) := X657.out.cell 0
  have q686 : v642.cell? ⟨v556.heap.size, 1, none⟩ = some (.int .i64 od) := X657.out.cell 1
  have LT687 := Lib.hid X646.out.lt
  have X688 := Lib.hid (X644.out.alloc (.cells #[.int .i64 pn, .int .i64 pd] 23))
  have X689 := Lib.hid (X645.out.alloc (.cells #[.int .i64 pn, .int .i64 pd] 23))
  have X690 := Lib.hid (X646.out.alloc (.cells #[.int .i64 pn, .int .i64 pd] 23))
  have X691 := Lib.hid (X647.out.alloc (.cells #[.int .i64 pn, .int .i64 pd] 23))
  have X692 := Lib.hid (X648.out.alloc (.cells #[.int .i64 pn, .int .i64 pd] 23))
  have X693 := Lib.hid (X649.out.alloc (.cells #[.int .i64 pn, .int .i64 pd] 23))
  have X694 := Lib.hid (X650.out.alloc (.cells #[.int .i64 pn, .int .i64 pd] 23))
  have X695 := Lib.hid (X651.out.alloc (.cells #[.int .i64 pn, .int .i64 pd] 23))
  have X696 := Lib.hid (X652.out.alloc (.cells #[.int .i64 pn, .int .i64 pd] 23))
  have X697 := Lib.hid (X653.out.alloc (.cells #[.int .i64 pn, .int .i64 pd] 23))
  have X698 := Lib.hid (X654.out.alloc (.cells #[.int .i64 pn, .int .i64 pd] 23))
  have X699 := Lib.hid (X655.out.alloc (.cells #[.int .i64 pn, .int .i64 pd] 23))
  have X700 := Lib.hid (X656.out.alloc (.cells #[.int .i64 pn, .int .i64 pd] 23))
  have X701 := Lib.hid (X657.out.alloc (.cells #[.int .i64 pn, .int .i64 pd] 23))
  have B702 := Lib.hid (B658.out.alloc B658.out.size (.cells #[.int .i64 pn, .int .i64 pd] 23))
  have X703 := Lib.hid (Box.made v642 23 #[.int .i64 pn, .int .i64 pd])
  have q704 : (v642.alloc (.cells #[.int .i64 pn, .int .i64 pd] 23)).cell? ⟨w.heap.size, 0, none⟩ = some (.int .i64 an) := X688.out.cell 0
  have q705 : (v642.alloc (.cells #[.int .i64 pn, .int .i64 pd] 23)).cell? ⟨w.heap.size, 1, none⟩ = some (.int .i64 ad) := X688.out.cell 1
  have q706 : (v642.alloc (.cells #[.int .i64 pn, .int .i64 pd] 23)).cell? ⟨w.heap.size + 1, 0, none⟩ = some (.int .i64 bn) := X689.out.cell 0
  have q707 : (v642.alloc (.cells #[.int .i64 pn, .int .i64 pd] 23)).cell? ⟨w.heap.size + 1, 1, none⟩ = some (.int .i64 bd) := X689.out.cell 1
  have q708 : (v642.alloc (.cells #[.int .i64 pn, .int .i64 pd] 23)).cell? ⟨w.heap.size + 1 + 1, 0, none⟩ = some (.int .i64 cn) := X690.out.cell 0
  have q709 : (v642.alloc (.cells #[.int .i64 pn, .int .i64 pd] 23)).cell? ⟨w.heap.size + 1 + 1, 1, none⟩ = some (.int .i64 cd) := X690.out.cell 1
  have q710 : (v642.alloc (.cells #[.int .i64 pn, .int .i64 pd] 23)).cell? ⟨v26.heap.size, 0, none⟩ = some (.int .i64 mn) := X691.out.cell 0
  have q711 : (v642.alloc (.cells #[.int .i64 pn, .int .i64 pd] 23)).cell? ⟨v26.heap.size, 1, none⟩ = some (.int .i64 md) := X691.out.cell 1
  have q712 : (v642.alloc (.cells #[.int .i64 pn, .int .i64 pd] 23)).cell? ⟨v52.heap.size, 0, none⟩ = some (.int .i64 mn) := X692.out.cell 0
  have q713 : (v642.alloc (.cells #[.int .i64 pn, .int .i64 pd] 23)).cell? ⟨v52.heap.size, 1, none⟩ = some (.int .i64 md) := X692.out.cell 1
  have q714 : (v642.alloc (.cells #[.int .i64 pn, .int .i64 pd] 23)).cell? ⟨v84.heap.size, 0, none⟩ = some (.int .i64 sn) := X693.out.cell 0
  have q715 : (v642.alloc (.cells #[.int .i64 pn, .int .i64 pd] 23)).cell? ⟨v84.heap.size, 1, none⟩ = some (.int .i64 sd) := X693.out.cell 1
  have q716 : (v642.alloc (.cells #[.int .i64 pn, .int .i64 pd] 23)).cell? ⟨v122.heap.size, 0, none⟩ = some (.int .i64 sn) := X694.out.cell 0
  have q717 : (v642.alloc (.cells #[.int .i64 pn, .int .i64 pd] 23)).cell? ⟨v122.heap.size, 1, none⟩ = some (.int .i64 sd) := X694.out.cell 1
  have q718 : (v642.alloc (.cells #[.int .i64 pn, .int .i64 pd] 23)).cell? ⟨v166.heap.size, 0, none⟩ = some (.int .i64 kn) := X695.out.cell 0
  have q719 : (v642.alloc (.cells #[.int .i64 pn, .int .i64 pd] 23)).cell? ⟨v166.heap.size, 1, none⟩ = some (.int .i64 kd) := X695.out.cell 1
  have q720 : (v642.alloc (.cells #[.int .i64 pn, .int .i64 pd] 23)).cell? ⟨v216.heap.size, 0, none⟩ = some (.int .i64 xn) := X696.out.cell 0
  have q721 : (v642.alloc (.cells #[.int .i64 pn, .int .i64 pd] 23)).cell? ⟨v216.heap.size, 1, none⟩ = some (.int .i64 xd) := X696.out.cell 1
  have q722 : (v642.alloc (.cells #[.int .i64 pn, .int .i64 pd] 23)).cell? ⟨v272.heap.size, 0, none⟩ = some (.int .i64 yn) := X697.out.cell 0
  have q723 : (v642.alloc (.cells #[.int .i64 pn, .int .i64 pd] 23)).cell? ⟨v272.heap.size, 1, none⟩ = some (.int .i64 yd) := X697.out.cell 1
  have q724 : (v642.alloc (.cells #[.int .i64 pn, .int .i64 pd] 23)).cell? ⟨v334.heap.size, 0, none⟩ = some (.int .i64 un) := X698.out.cell 0
  have q725 : (v642.alloc (.cells #[.int .i64 pn, .int .i64 pd] 23)).cell? ⟨v334.heap.size, 1, none⟩ = some (.int .i64 ud) := X698.out.cell 1
  have q726 : (v642.alloc (.cells #[.int .i64 pn, .int .i64 pd] 23)).cell? ⟨v402.heap.size, 0, none⟩ = some (.int .i64 vn) := X699.out.cell 0
  have q727 : (v642.alloc (.cells #[.int .i64 pn, .int .i64 pd] 23)).cell? ⟨v402.heap.size, 1, none⟩ = some (.int .i64 vd) := X699.out.cell 1
  have q728 : (v642.alloc (.cells #[.int .i64 pn, .int .i64 pd] 23)).cell? ⟨v476.heap.size, 0, none⟩ = some (.int .i64 wn) := X700.out.cell 0
  have q729 : (v642.alloc (.cells #[.int .i64 pn, .int .i64 pd] 23)).cell? ⟨v476.heap.size, 1, none⟩ = some (.int .i64 wd) := X700.out.cell 1
  have q730 : (v642.alloc (.cells #[.int .i64 pn, .int .i64 pd] 23)).cell? ⟨v556.heap.size, 0, none⟩ = some (.int .i64 on) := X701.out.cell 0
  have q731 : (v642.alloc (.cells #[.int .i64 pn, .int .i64 pd] 23)).cell? ⟨v556.heap.size, 1, none⟩ = some (.int .i64 od) := X701.out.cell 1
  have q732 : (v642.alloc (.cells #[.int .i64 pn, .int .i64 pd] 23)).cell? ⟨v642.heap.size, 0, none⟩ = some (.int .i64 pn) := X703.out.cell 0
  have q733 : (v642.alloc (.cells #[.int .i64 pn, .int .i64 pd] 23)).cell? ⟨v642.heap.size, 1, none⟩ = some (.int .i64 pd) := X703.out.cell 1
  obtain ⟨⟨rn, rd, re⟩, hr9⟩ : ∃ X9, tmR an ad un ud = X9 := ⟨_, rfl⟩
  have Hr := Lib.hid hr9
  clear hr9
  go_wp2_with fail
  refine (Times_c an ad un ud _).mono ?_; rintro e v734 ⟨rfl, hb735⟩
  have X736 := Lib.hid (X688.out.later hb735)
  have X737 := Lib.hid (X689.out.later hb735)
  have X738 := Lib.hid (X690.out.later hb735)
  have X739 := Lib.hid (X691.out.later hb735)
  have X740 := Lib.hid (X692.out.later hb735)
  have X741 := Lib.hid (X693.out.later hb735)
  have X742 := Lib.hid (X694.out.later hb735)
  have X743 := Lib.hid (X695.out.later hb735)
  have X744 := Lib.hid (X696.out.later hb735)
  have X745 := Lib.hid (X697.out.later hb735)
  have X746 := Lib.hid (X698.out.later hb735)
  have X747 := Lib.hid (X699.out.later hb735)
  have X748 := Lib.hid (X700.out.later hb735)
  have X749 := Lib.hid (X701.out.later hb735)
  have X750 := Lib.hid (X703.out.later hb735)
  have B751 := Lib.hid (B702.out.trans (hb735.mono B702.out.size))
  clear hb735
  rw [Hr.out]
  clear q704 q705 q706 q707 q708 q709 q710 q711 q712 q713 q714 q715 q716 q717 q718 q719 q720 q721 q722 q723 q724 q725 q726 q727 q728 q729 q730 q731 q732 q733 q659 q660 q661 q662 q663 q664 q665 q666 q667 q668 q669 q670 q671 q672 q673 q674 q675 q676 q677 q678 q679 q680 q681 q682 q683 q684 q685 q686
  have q752 : v734.cell? ⟨w.heap.size, 0, none⟩ = some (.int .i64 an) := X736.out.cell 0
  have q753 : v734.cell? ⟨w.heap.size, 1, none⟩ = some (.int .i64 ad) := X736.out.cell 1
  have q754 : v734.cell? ⟨w.heap.size + 1, 0, none⟩ = some (.int .i64 bn) := X737.out.cell 0
  have q755 : v734.cell? ⟨w.heap.size + 1, 1, none⟩ = some (.int .i64 bd) := X737.out.cell 1
  have q756 : v734.cell? ⟨w.heap.size + 1 + 1, 0, none⟩ = some (.int .i64 cn) := X738.out.cell 0
  have q757 : v734.cell? ⟨w.heap.size + 1 + 1, 1, none⟩ = some (.int .i64 cd) := X738.out.cell 1
  have q758 : v734.cell? ⟨v26.heap.size, 0, none⟩ = some (.int .i64 mn) := X739.out.cell 0
  have q759 : v734.cell? ⟨v26.heap.size, 1, none⟩ = some (.int .i64 md) := X739.out.cell 1
  have q760 : v734.cell? ⟨v52.heap.size, 0, none⟩ = some (.int .i64 mn) := X740.out.cell 0
  have q761 : v734.cell? ⟨v52.heap.size, 1, none⟩ = some (.int .i64 md) := X740.out.cell 1
  have q762 : v734.cell? ⟨v84.heap.size, 0, none⟩ = some (.int .i64 sn) := X741.out.cell 0
  have q763 : v734.cell? ⟨v84.heap.size, 1, none⟩ = some (.int .i64 sd) := X741.out.cell 1
  have q764 : v734.cell? ⟨v122.heap.size, 0, none⟩ = some (.int .i64 sn) := X742.out.cell 0
  have q765 : v734.cell? ⟨v122.heap.size, 1, none⟩ = some (.int .i64 sd) := X742.out.cell 1
  have q766 : v734.cell? ⟨v166.heap.size, 0, none⟩ = some (.int .i64 kn) := X743.out.cell 0
  have q767 : v734.cell? ⟨v166.heap.size, 1, none⟩ = some (.int .i64 kd) := X743.out.cell 1
  have q768 : v734.cell? ⟨v216.heap.size, 0, none⟩ = some (.int .i64 xn) := X744.out.cell 0
  have q769 : v734.cell? ⟨v216.heap.size, 1, none⟩ = some (.int .i64 xd) := X744.out.cell 1
  have q770 : v734.cell? ⟨v272.heap.size, 0, none⟩ = some (.int .i64 yn) := X745.out.cell 0
  have q771 : v734.cell? ⟨v272.heap.size, 1, none⟩ = some (.int .i64 yd) := X745.out.cell 1
  have q772 : v734.cell? ⟨v334.heap.size, 0, none⟩ = some (.int .i64 un) := X746.out.cell 0
  have q773 : v734.cell? ⟨v334.heap.size, 1, none⟩ = some (.int .i64 ud) := X746.out.cell 1
  have q774 : v734.cell? ⟨v402.heap.size, 0, none⟩ = some (.int .i64 vn) := X747.out.cell 0
  have q775 : v734.cell? ⟨v402.heap.size, 1, none⟩ = some (.int .i64 vd) := X747.out.cell 1
  have q776 : v734.cell? ⟨v476.heap.size, 0, none⟩ = some (.int .i64 wn) := X748.out.cell 0
  have q777 : v734.cell? ⟨v476.heap.size, 1, none⟩ = some (.int .i64 wd) := X748.out.cell 1
  have q778 : v734.cell? ⟨v556.heap.size, 0, none⟩ = some (.int .i64 on) := X749.out.cell 0
  have q779 : v734.cell? ⟨v556.heap.size, 1, none⟩ = some (.int .i64 od) := X749.out.cell 1
  have q780 : v734.cell? ⟨v642.heap.size, 0, none⟩ = some (.int .i64 pn) := X750.out.cell 0
  have q781 : v734.cell? ⟨v642.heap.size, 1, none⟩ = some (.int .i64 pd) := X750.out.cell 1
  have LT782 := Lib.hid X738.out.lt
  have X783 := Lib.hid (X736.out.alloc (.cells #[.int .i64 rn, .int .i64 rd] 23))
  have X784 := Lib.hid (X737.out.alloc (.cells #[.int .i64 rn, .int .i64 rd] 23))
  have X785 := Lib.hid (X738.out.alloc (.cells #[.int .i64 rn, .int .i64 rd] 23))
  have X786 := Lib.hid (X739.out.alloc (.cells #[.int .i64 rn, .int .i64 rd] 23))
  have X787 := Lib.hid (X740.out.alloc (.cells #[.int .i64 rn, .int .i64 rd] 23))
  have X788 := Lib.hid (X741.out.alloc (.cells #[.int .i64 rn, .int .i64 rd] 23))
  have X789 := Lib.hid (X742.out.alloc (.cells #[.int .i64 rn, .int .i64 rd] 23))
  have X790 := Lib.hid (X743.out.alloc (.cells #[.int .i64 rn, .int .i64 rd] 23))
  have X791 := Lib.hid (X744.out.alloc (.cells #[.int .i64 rn, .int .i64 rd] 23))
  have X792 := Lib.hid (X745.out.alloc (.cells #[.int .i64 rn, .int .i64 rd] 23))
  have X793 := Lib.hid (X746.out.alloc (.cells #[.int .i64 rn, .int .i64 rd] 23))
  have X794 := Lib.hid (X747.out.alloc (.cells #[.int .i64 rn, .int .i64 rd] 23))
  have X795 := Lib.hid (X748.out.alloc (.cells #[.int .i64 rn, .int .i64 rd] 23))
  have X796 := Lib.hid (X749.out.alloc (.cells #[.int .i64 rn, .int .i64 rd] 23))
  have X797 := Lib.hid (X750.out.alloc (.cells #[.int .i64 rn, .int .i64 rd] 23))
  have B798 := Lib.hid (B751.out.alloc B751.out.size (.cells #[.int .i64 rn, .int .i64 rd] 23))
  have X799 := Lib.hid (Box.made v734 23 #[.int .i64 rn, .int .i64 rd])
  have q800 : (v734.alloc (.cells #[.int .i64 rn, .int .i64 rd] 23)).cell? ⟨w.heap.size, 0, none⟩ = some (.int .i64 an) := X783.out.cell 0
  have q801 : (v734.alloc (.cells #[.int .i64 rn, .int .i64 rd] 23)).cell? ⟨w.heap.size, 1, none⟩ = some (.int .i64 ad) := X783.out.cell 1
  have q802 : (v734.alloc (.cells #[.int .i64 rn, .int .i64 rd] 23)).cell? ⟨w.heap.size + 1, 0, none⟩ = some (.int .i64 bn) := X784.out.cell 0
  have q803 : (v734.alloc (.cells #[.int .i64 rn, .int .i64 rd] 23)).cell? ⟨w.heap.size + 1, 1, none⟩ = some (.int .i64 bd) := X784.out.cell 1
  have q804 : (v734.alloc (.cells #[.int .i64 rn, .int .i64 rd] 23)).cell? ⟨w.heap.size + 1 + 1, 0, none⟩ = some (.int .i64 cn) := X785.out.cell 0
  have q805 : (v734.alloc (.cells #[.int .i64 rn, .int .i64 rd] 23)).cell? ⟨w.heap.size + 1 + 1, 1, none⟩ = some (.int .i64 cd) := X785.out.cell 1
  have q806 : (v734.alloc (.cells #[.int .i64 rn, .int .i64 rd] 23)).cell? ⟨v26.heap.size, 0, none⟩ = some (.int .i64 mn) := X786.out.cell 0
  have q807 : (v734.alloc (.cells #[.int .i64 rn, .int .i64 rd] 23)).cell? ⟨v26.heap.size, 1, none⟩ = some (.int .i64 md) := X786.out.cell 1
  have q808 : (v734.alloc (.cells #[.int .i64 rn, .int .i64 rd] 23)).cell? ⟨v52.heap.size, 0, none⟩ = some (.int .i64 mn) := X787.out.cell 0
  have q809 : (v734.alloc (.cells #[.int .i64 rn, .int .i64 rd] 23)).cell? ⟨v52.heap.size, 1, none⟩ = some (.int .i64 md) := X787.out.cell 1
  have q810 : (v734.alloc (.cells #[.int .i64 rn, .int .i64 rd] 23)).cell? ⟨v84.heap.size, 0, none⟩ = some (.int .i64 sn) := X788.out.cell 0
  have q811 : (v734.alloc (.cells #[.int .i64 rn, .int .i64 rd] 23)).cell? ⟨v84.heap.size, 1, none⟩ = some (.int .i64 sd) := X788.out.cell 1
  have q812 : (v734.alloc (.cells #[.int .i64 rn, .int .i64 rd] 23)).cell? ⟨v122.heap.size, 0, none⟩ = some (.int .i64 sn) := X789.out.cell 0
  have q813 : (v734.alloc (.cells #[.int .i64 rn, .int .i64 rd] 23)).cell? ⟨v122.heap.size, 1, none⟩ = some (.int .i64 sd) := X789.out.cell 1
  have q814 : (v734.alloc (.cells #[.int .i64 rn, .int .i64 rd] 23)).cell? ⟨v166.heap.size, 0, none⟩ = some (.int .i64 kn) := X790.out.cell 0
  have q815 : (v734.alloc (.cells #[.int .i64 rn, .int .i64 rd] 23)).cell? ⟨v166.heap.size, 1, none⟩ = some (.int .i64 kd) := X790.out.cell 1
  have q816 : (v734.alloc (.cells #[.int .i64 rn, .int .i64 rd] 23)).cell? ⟨v216.heap.size, 0, none⟩ = some (.int .i64 xn) := X791.out.cell 0
  have q817 : (v734.alloc (.cells #[.int .i64 rn, .int .i64 rd] 23)).cell? ⟨v216.heap.size, 1, none⟩ = some (.int .i64 xd) := X791.out.cell 1
  have q818 : (v734.alloc (.cells #[.int .i64 rn, .int .i64 rd] 23)).cell? ⟨v272.heap.size, 0, none⟩ = some (.int .i64 yn) := X792.out.cell 0
  have q819 : (v734.alloc (.cells #[.int .i64 rn, .int .i64 rd] 23)).cell? ⟨v272.heap.size, 1, none⟩ = some (.int .i64 yd) := X792.out.cell 1
  have q820 : (v734.alloc (.cells #[.int .i64 rn, .int .i64 rd] 23)).cell? ⟨v334.heap.size, 0, none⟩ = some (.int .i64 un) := X793.out.cell 0
  have q821 : (v734.alloc (.cells #[.int .i64 rn, .int .i64 rd] 23)).cell? ⟨v334.heap.size, 1, none⟩ = some (.int .i64 ud) := X793.out.cell 1
  have q822 : (v734.alloc (.cells #[.int .i64 rn, .int .i64 rd] 23)).cell? ⟨v402.heap.size, 0, none⟩ = some (.int .i64 vn) := X794.out.cell 0
  have q823 : (v734.alloc (.cells #[.int .i64 rn, .int .i64 rd] 23)).cell? ⟨v402.heap.size, 1, none⟩ = some (.int .i64 vd) := X794.out.cell 1
  have q824 : (v734.alloc (.cells #[.int .i64 rn, .int .i64 rd] 23)).cell? ⟨v476.heap.size, 0, none⟩ = some (.int .i64 wn) := X795.out.cell 0
  have q825 : (v734.alloc (.cells #[.int .i64 rn, .int .i64 rd] 23)).cell? ⟨v476.heap.size, 1, none⟩ = some (.int .i64 wd) := X795.out.cell 1
  have q826 : (v734.alloc (.cells #[.int .i64 rn, .int .i64 rd] 23)).cell? ⟨v556.heap.size, 0, none⟩ = some (.int .i64 on) := X796.out.cell 0
  have q827 : (v734.alloc (.cells #[.int .i64 rn, .int .i64 rd] 23)).cell? ⟨v556.heap.size, 1, none⟩ = some (.int .i64 od) := X796.out.cell 1
  have q828 : (v734.alloc (.cells #[.int .i64 rn, .int .i64 rd] 23)).cell? ⟨v642.heap.size, 0, none⟩ = some (.int .i64 pn) := X797.out.cell 0
  have q829 : (v734.alloc (.cells #[.int .i64 rn, .int .i64 rd] 23)).cell? ⟨v642.heap.size, 1, none⟩ = some (.int .i64 pd) := X797.out.cell 1
  have q830 : (v734.alloc (.cells #[.int .i64 rn, .int .i64 rd] 23)).cell? ⟨v734.heap.size, 0, none⟩ = some (.int .i64 rn) := X799.out.cell 0
  have q831 : (v734.alloc (.cells #[.int .i64 rn, .int .i64 rd] 23)).cell? ⟨v734.heap.size, 1, none⟩ = some (.int .i64 rd) := X799.out.cell 1
  have HC3 := Lib.hid (show ue = 0 → me = 0 → oe = 0 → pe = 0 → re = 0 ∧ pn = rn ∧ pd = rd from fun h1 h2 h3 h4 => by
    have ha := tm_dist (an := an) (ad := ad) (bn := bn) (bd := bd) (cn := cn) (cd := cd) (by rw [Hu.out]; exact h1) (by rw [Hm.out]; exact h2) (by rw [Ho.out]; exact h3)
    rw [Hu.out, Hm.out, Ho.out] at ha
    have ha2 := Hr.out.symm.trans (ha.trans Hp.out)
    injection ha2 with p1 p2 p3
    exact ⟨by rw [p3]; exact h4, p1.symm, p2.symm⟩)
  by_cases hue : ue = 0; rotate_left
  · have e2 : (ue == 0) = false := by simpa using hue
    have e3 : decide (ue = 0) = false := by simpa using hue
    clear hue
    go_wp2_with fail
    go_ret
    exact ⟨rfl, B798.out⟩
  · have G1 := Lib.hid hue
    subst hue
    by_cases hme : me = 0; rotate_left
    · have e2 : (me == 0) = false := by simpa using hme
      have e3 : decide (me = 0) = false := by simpa using hme
      clear hme
      go_wp2_with fail
      go_ret
      exact ⟨rfl, B798.out⟩
    · have G2 := Lib.hid hme
      subst hme
      by_cases hoe : oe = 0; rotate_left
      · have e2 : (oe == 0) = false := by simpa using hoe
        have e3 : decide (oe = 0) = false := by simpa using hoe
        clear hoe
        go_wp2_with fail
        go_ret
        exact ⟨rfl, B798.out⟩
      · have G3 := Lib.hid hoe
        subst hoe
        by_cases hpe : pe = 0; rotate_left
        · have e2 : (pe == 0) = false := by simpa using hpe
          have e3 : decide (pe = 0) = false := by simpa using hpe
          clear hpe
          go_wp2_with fail
          go_ret
          exact ⟨rfl, B798.out⟩
        · subst hpe
          obtain ⟨rfl, rfl, rfl⟩ := HC3.out rfl rfl rfl rfl
          go_wp2_with fail
          go_ret
          exact ⟨ret_bool (by simp), B798.out⟩

end Go.Proofs.Ytmmfmanjajefcaa

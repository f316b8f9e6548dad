/- Layer 7: the law on comparisons. -/
import Derived.Test.YtmmfmanjajefcaaGU
set_option linter.all false
namespace Go.Proofs.Ytmmfmanjajefcaa
open Go.RowKit

set_option maxRecDepth 100000 in
set_option maxHeartbeats 8000000 in
theorem GearsOrder_c (an ad bn bd cn cd : Int) (w : World) : Calls Try.prog 9 #[.agg #[.int .i64 an, .int .i64 ad], .agg #[.int .i64 bn, .int .i64 bd], .agg #[.int .i64 cn, .int .i64 cd]] w fun e w' => e = .returned (.bool true) ∧ Below w.heap.size w w' := by
  go_enter Try.func9, Try.ntmps9
  go_wp2_with fail
  obtain ⟨W1, hW2⟩ : ∃ Wzz, (((w.alloc (.cells #[.int .i64 an, .int .i64 ad] 23)).alloc (.cells #[.int .i64 bn, .int .i64 bd] 23)).alloc (.cells #[.int .i64 cn, .int .i64 cd] 23)) = Wzz := ⟨_, rfl⟩
  have B3 := Lib.hid (show Below w.heap.size w W1 by rw [← hW2]; exact ((((Below.refl w.heap.size w).alloc (Nat.le_refl _) _).alloc (by first | (simp; done) | (simp; omega)) _).alloc (by first | (simp; done) | (simp; omega)) _))
  have X4 := Lib.hid (show Box W1 (w.heap.size) 23 #[.int .i64 an, .int .i64 ad] by rw [← hW2]; exact Box.alloc (Box.alloc (Box.made w 23 #[.int .i64 an, .int .i64 ad]) (.cells #[.int .i64 bn, .int .i64 bd] 23)) (.cells #[.int .i64 cn, .int .i64 cd] 23))
  have X5 := Lib.hid (show Box W1 (w.heap.size + 1) 23 #[.int .i64 bn, .int .i64 bd] by
    have hz := Box.alloc (Box.made (w.alloc (.cells #[.int .i64 an, .int .i64 ad] 23)) 23 #[.int .i64 bn, .int .i64 bd]) (.cells #[.int .i64 cn, .int .i64 cd] 23)
    rw [World.size_alloc] at hz
    rw [← hW2]; exact hz)
  have X6 := Lib.hid (show Box W1 (w.heap.size + 1 + 1) 23 #[.int .i64 cn, .int .i64 cd] by
    have hz := Box.made ((w.alloc (.cells #[.int .i64 an, .int .i64 ad] 23)).alloc (.cells #[.int .i64 bn, .int .i64 bd] 23)) 23 #[.int .i64 cn, .int .i64 cd]
    rw [World.size_alloc, World.size_alloc] at hz
    rw [← hW2]; exact hz)
  have SZ7 := Lib.hid (show W1.heap.size = w.heap.size + 1 + 1 + 1 by rw [← hW2]; simp)
  rw [hW2]
  clear hW2
  have q8 : W1.cell? ⟨w.heap.size, 0, none⟩ = some (.int .i64 an) := X4.out.cell 0
  have q9 : W1.cell? ⟨w.heap.size, 1, none⟩ = some (.int .i64 ad) := X4.out.cell 1
  have q10 : W1.cell? ⟨w.heap.size + 1, 0, none⟩ = some (.int .i64 bn) := X5.out.cell 0
  have q11 : W1.cell? ⟨w.heap.size + 1, 1, none⟩ = some (.int .i64 bd) := X5.out.cell 1
  have q12 : W1.cell? ⟨w.heap.size + 1 + 1, 0, none⟩ = some (.int .i64 cn) := X6.out.cell 0
  have q13 : W1.cell? ⟨w.heap.size + 1 + 1, 1, none⟩ = some (.int .i64 cd) := X6.out.cell 1
  go_wp2_with fail
  refine (awake_c _).mono ?_; rintro e v14 ⟨rfl, hb15⟩
  have X16 := Lib.hid (X4.out.later hb15)
  have X17 := Lib.hid (X5.out.later hb15)
  have X18 := Lib.hid (X6.out.later hb15)
  have B19 := Lib.hid (B3.out.trans (hb15.mono B3.out.size))
  clear hb15
  clear q8 q9 q10 q11 q12 q13
  have q20 : v14.cell? ⟨w.heap.size, 0, none⟩ = some (.int .i64 an) := X16.out.cell 0
  have q21 : v14.cell? ⟨w.heap.size, 1, none⟩ = some (.int .i64 ad) := X16.out.cell 1
  have q22 : v14.cell? ⟨w.heap.size + 1, 0, none⟩ = some (.int .i64 bn) := X17.out.cell 0
  have q23 : v14.cell? ⟨w.heap.size + 1, 1, none⟩ = some (.int .i64 bd) := X17.out.cell 1
  have q24 : v14.cell? ⟨w.heap.size + 1 + 1, 0, none⟩ = some (.int .i64 cn) := X18.out.cell 0
  have q25 : v14.cell? ⟨w.heap.size + 1 + 1, 1, none⟩ = some (.int .i64 cd) := X18.out.cell 1
  obtain ⟨n, hn9⟩ : ∃ X9, cpN an ad bn bd = X9 := ⟨_, rfl⟩
  have HN := Lib.hid hn9
  clear hn9
  obtain ⟨e, he9⟩ : ∃ X9, cpE an ad bn bd = X9 := ⟨_, rfl⟩
  have HE := Lib.hid he9
  clear he9
  obtain ⟨m, hm9⟩ : ∃ X9, cpN bn bd an ad = X9 := ⟨_, rfl⟩
  have HM := Lib.hid hm9
  clear hm9
  go_wp2_with fail
  refine (Compare_c an ad bn bd _).mono ?_; rintro e v26 ⟨rfl, hb27⟩
  have X28 := Lib.hid (X16.out.later hb27)
  have X29 := Lib.hid (X17.out.later hb27)
  have X30 := Lib.hid (X18.out.later hb27)
  have B31 := Lib.hid (B19.out.trans (hb27.mono B19.out.size))
  clear hb27
  rw [HN.out, HE.out]
  clear q20 q21 q22 q23 q24 q25
  have q32 : v26.cell? ⟨w.heap.size, 0, none⟩ = some (.int .i64 an) := X28.out.cell 0
  have q33 : v26.cell? ⟨w.heap.size, 1, none⟩ = some (.int .i64 ad) := X28.out.cell 1
  have q34 : v26.cell? ⟨w.heap.size + 1, 0, none⟩ = some (.int .i64 bn) := X29.out.cell 0
  have q35 : v26.cell? ⟨w.heap.size + 1, 1, none⟩ = some (.int .i64 bd) := X29.out.cell 1
  have q36 : v26.cell? ⟨w.heap.size + 1 + 1, 0, none⟩ = some (.int .i64 cn) := X30.out.cell 0
  have q37 : v26.cell? ⟨w.heap.size + 1 + 1, 1, none⟩ = some (.int .i64 cd) := X30.out.cell 1
  have HE2 := Lib.hid (show cpE bn bd an ad = e by rw [cp_e_swap, HE.out])
  go_wp2_with fail
  refine (Compare_c bn bd an ad _).mono ?_; rintro e v38 ⟨rfl, hb39⟩
  have X40 := Lib.hid (X28.out.later hb39)
  have X41 := Lib.hid (X29.out.later hb39)
  have X42 := Lib.hid (X30.out.later hb39)
  have B43 := Lib.hid (B31.out.trans (hb39.mono B31.out.size))
  clear hb39
  rw [HM.out, HE2.out]
  clear q32 q33 q34 q35 q36 q37
  have q44 : v38.cell? ⟨w.heap.size, 0, none⟩ = some (.int .i64 an) := X40.out.cell 0
  have q45 : v38.cell? ⟨w.heap.size, 1, none⟩ = some (.int .i64 ad) := X40.out.cell 1
  have q46 : v38.cell? ⟨w.heap.size + 1, 0, none⟩ = some (.int .i64 bn) := X41.out.cell 0
  have q47 : v38.cell? ⟨w.heap.size + 1, 1, none⟩ = some (.int .i64 bd) := X41.out.cell 1
  have q48 : v38.cell? ⟨w.heap.size + 1 + 1, 0, none⟩ = some (.int .i64 cn) := X42.out.cell 0
  have q49 : v38.cell? ⟨w.heap.size + 1 + 1, 1, none⟩ = some (.int .i64 cd) := X42.out.cell 1
  by_cases he0 : e = 0; rotate_left
  · have hz := cp_no (an := an) (ad := ad) (bn := bn) (bd := bd) (by rw [HE.out]; exact he0)
    obtain rfl : n = 0 := by rw [← HN.out]; exact hz.1
    have e2 : (e != 0) = true := by simpa using he0
    have e3 : (e == e) = true := by simp
    clear hz he0
    go_wp2_with fail
    go_ret
    exact ⟨ret_bool (by simp), B43.out⟩
  · have hnm : n = -m := by rw [← HN.out, ← HM.out]; exact cp_swap _ _ _ _
    have hq := cp_eq (an := an) (ad := ad) (bn := bn) (bd := bd) (by rw [HE.out]; exact he0)
    rw [HN.out] at hq
    have hb : -1 ≤ n ∧ n ≤ 1 := by
      rw [← HN.out]
      unfold cpN sgn
      repeat' split
      all_goals omega
    have WM := Lib.hid (show IntKind.i64.wrap (-m) = n by rw [← hnm]; exact wrap_id (by omega) (by omega))
    have HQ := Lib.hid hq
    subst he0
    clear hnm hq hb
    iterate 40 (first | (with_reducible show Code.wp _ (Code.region 6 _ _) _ _ _) | go_values | go_skip | go_guarded | go_step | go_upon | go_back | (simp only [Int.not_lt, Int.not_le] at *; go_simp) | go_simp)
    refine order6_c an ad bn bd n m _ _ _ _ _ _ _ _ _ _ _ _ _ _ _ _ _ _ _ _ _ _ _ _ _ _ _ _ _ _ _ _ _ _ _ _ _ _ _ _ _ _ _ _ _ _ _ _ _ _ _ _ _ _ _ _ _ _ _ _ _ _ _ _ _ _ _ _ _ _ _ _ _ _ _ _ _ _ _ _ _ _ _ _ _ _ _ _ _ _ _ _ _ _ _ _ _ _ _ _ _ _ _ _ _ _ _ _ _ _ _ _ _ _ _ _ _ _ _ _ _ _ _ _ _ _ _ _ _ _ _ X40.out X41.out WM.out HQ.out ?_
    intro _ _ _ _ _ _ _ _ _ _ _ _ _ _ _
    go_wp2_with fail
    obtain ⟨⟨xn, xd, xe⟩, hx9⟩ : ∃ X9, plR an ad cn cd = X9 := ⟨_, rfl⟩
    have HX := Lib.hid hx9
    clear hx9
    refine (Plus_c an ad cn cd _).mono ?_; rintro e v50 ⟨rfl, hb51⟩
    have X52 := Lib.hid (X40.out.later hb51)
    have X53 := Lib.hid (X41.out.later hb51)
    have X54 := Lib.hid (X42.out.later hb51)
    have B55 := Lib.hid (B43.out.trans (hb51.mono B43.out.size))
    clear hb51
    rw [HX.out]
    clear q44 q45 q46 q47 q48 q49
    have q56 : v50.cell? ⟨w.heap.size, 0, none⟩ = some (.int .i64 an) := X52.out.cell 0
    have q57 : v50.cell? ⟨w.heap.size, 1, none⟩ = some (.int .i64 ad) := X52.out.cell 1
    have q58 : v50.cell? ⟨w.heap.size + 1, 0, none⟩ = some (.int .i64 bn) := X53.out.cell 0
    have q59 : v50.cell? ⟨w.heap.size + 1, 1, none⟩ = some (.int .i64 bd) := X53.out.cell 1
    have q60 : v50.cell? ⟨w.heap.size + 1 + 1, 0, none⟩ = some (.int .i64 cn) := X54.out.cell 0
    have q61 : v50.cell? ⟨w.heap.size + 1 + 1, 1, none⟩ = some (.int .i64 cd) := X54.out.cell 1
    have LT62 := Lib.hid X52.out.lt
    have LT63 := Lib.hid X53.out.lt
    have LT64 := Lib.hid X54.out.lt
    have X65 := Lib.hid (X52.out.alloc (.cells #[.int .i64 xn, .int .i64 xd] 23))
    have X66 := Lib.hid (X53.out.alloc (.cells #[.int .i64 xn, .int .i64 xd] 23))
    have X67 := Lib.hid (X54.out.alloc (.cells #[.int .i64 xn, .int .i64 xd] 23))
    have B68 := Lib.hid (B55.out.alloc B55.out.size (.cells #[.int .i64 xn, .int .i64 xd] 23))
    have X69 := Lib.hid (Box.made v50 23 #[.int .i64 xn, .int .i64 xd])
    have q70 : (v50.alloc (.cells #[.int .i64 xn, .int .i64 xd] 23)).cell? ⟨w.heap.size, 0, none⟩ = some (.int .i64 an) := X65.out.cell 0
    have q71 : (v50.alloc (.cells #[.int .i64 xn, .int .i64 xd] 23)).cell? ⟨w.heap.size, 1, none⟩ = some (.int .i64 ad) := X65.out.cell 1
    have q72 : (v50.alloc (.cells #[.int .i64 xn, .int .i64 xd] 23)).cell? ⟨w.heap.size + 1, 0, none⟩ = some (.int .i64 bn) := X66.out.cell 0
    have q73 : (v50.alloc (.cells #[.int .i64 xn, .int .i64 xd] 23)).cell? ⟨w.heap.size + 1, 1, none⟩ = some (.int .i64 bd) := X66.out.cell 1
    have q74 : (v50.alloc (.cells #[.int .i64 xn, .int .i64 xd] 23)).cell? ⟨w.heap.size + 1 + 1, 0, none⟩ = some (.int .i64 cn) := X67.out.cell 0
    have q75 : (v50.alloc (.cells #[.int .i64 xn, .int .i64 xd] 23)).cell? ⟨w.heap.size + 1 + 1, 1, none⟩ = some (.int .i64 cd) := X67.out.cell 1
    have q76 : (v50.alloc (.cells #[.int .i64 xn, .int .i64 xd] 23)).cell? ⟨v50.heap.size, 0, none⟩ = some (.int .i64 xn) := X69.out.cell 0
    have q77 : (v50.alloc (.cells #[.int .i64 xn, .int .i64 xd] 23)).cell? ⟨v50.heap.size, 1, none⟩ = some (.int .i64 xd) := X69.out.cell 1
    have fz78 : ∀ o, (v50.alloc (.cells #[.int .i64 xn, .int .i64 xd] 23)).frozen? ⟨v50.heap.size, o, none⟩ = false := fun o => X69.out.free o
    obtain ⟨⟨yn, yd, ye⟩, hy9⟩ : ∃ X9, plR bn bd cn cd = X9 := ⟨_, rfl⟩
    have HY := Lib.hid hy9
    clear hy9
    go_wp2_with fail
    refine (Plus_c bn bd cn cd _).mono ?_; rintro e v79 ⟨rfl, hb80⟩
    have X81 := Lib.hid (X65.out.later hb80)
    have X82 := Lib.hid (X66.out.later hb80)
    have X83 := Lib.hid (X67.out.later hb80)
    have X84 := Lib.hid (X69.out.later hb80)
    have B85 := Lib.hid (B68.out.trans (hb80.mono B68.out.size))
    clear hb80
    rw [HY.out]
    clear q70 q71 q72 q73 q74 q75 q76 q77 fz78 q56 q57 q58 q59 q60 q61
    have q86 : v79.cell? ⟨w.heap.size, 0, none⟩ = some (.int .i64 an) := X81.out.cell 0
    have q87 : v79.cell? ⟨w.heap.size, 1, none⟩ = some (.int .i64 ad) := X81.out.cell 1
    have q88 : v79.cell? ⟨w.heap.size + 1, 0, none⟩ = some (.int .i64 bn) := X82.out.cell 0
    have q89 : v79.cell? ⟨w.heap.size + 1, 1, none⟩ = some (.int .i64 bd) := X82.out.cell 1
    have q90 : v79.cell? ⟨w.heap.size + 1 + 1, 0, none⟩ = some (.int .i64 cn) := X83.out.cell 0
    have q91 : v79.cell? ⟨w.heap.size + 1 + 1, 1, none⟩ = some (.int .i64 cd) := X83.out.cell 1
    have q92 : v79.cell? ⟨v50.heap.size, 0, none⟩ = some (.int .i64 xn) := X84.out.cell 0
    have q93 : v79.cell? ⟨v50.heap.size, 1, none⟩ = some (.int .i64 xd) := X84.out.cell 1
    have fz94 : ∀ o, v79.frozen? ⟨v50.heap.size, o, none⟩ = false := fun o => X84.out.free o
    have LT95 := Lib.hid X81.out.lt
    have LT96 := Lib.hid X82.out.lt
    have LT97 := Lib.hid X83.out.lt
    have LT98 := Lib.hid X84.out.lt
    have X99 := Lib.hid (X81.out.alloc (.cells #[.int .i64 yn, .int .i64 yd] 23))
    have X100 := Lib.hid (X82.out.alloc (.cells #[.int .i64 yn, .int .i64 yd] 23))
    have X101 := Lib.hid (X83.out.alloc (.cells #[.int .i64 yn, .int .i64 yd] 23))
    have X102 := Lib.hid (X84.out.alloc (.cells #[.int .i64 yn, .int .i64 yd] 23))
    have B103 := Lib.hid (B85.out.alloc B85.out.size (.cells #[.int .i64 yn, .int .i64 yd] 23))
    have X104 := Lib.hid (Box.made v79 23 #[.int .i64 yn, .int .i64 yd])
    have q105 : (v79.alloc (.cells #[.int .i64 yn, .int .i64 yd] 23)).cell? ⟨w.heap.size, 0, none⟩ = some (.int .i64 an) := X99.out.cell 0
    have q106 : (v79.alloc (.cells #[.int .i64 yn, .int .i64 yd] 23)).cell? ⟨w.heap.size, 1, none⟩ = some (.int .i64 ad) := X99.out.cell 1
    have q107 : (v79.alloc (.cells #[.int .i64 yn, .int .i64 yd] 23)).cell? ⟨w.heap.size + 1, 0, none⟩ = some (.int .i64 bn) := X100.out.cell 0
    have q108 : (v79.alloc (.cells #[.int .i64 yn, .int .i64 yd] 23)).cell? ⟨w.heap.size + 1, 1, none⟩ = some (.int .i64 bd) := X100.out.cell 1
    have q109 : (v79.alloc (.cells #[.int .i64 yn, .int .i64 yd] 23)).cell? ⟨w.heap.size + 1 + 1, 0, none⟩ = some (.int .i64 cn) := X101.out.cell 0
    have q110 : (v79.alloc (.cells #[.int .i64 yn, .int .i64 yd] 23)).cell? ⟨w.heap.size + 1 + 1, 1, none⟩ = some (.int .i64 cd) := X101.out.cell 1
    have q111 : (v79.alloc (.cells #[.int .i64 yn, .int .i64 yd] 23)).cell? ⟨v50.heap.size, 0, none⟩ = some (.int .i64 xn) := X102.out.cell 0
    have q112 : (v79.alloc (.cells #[.int .i64 yn, .int .i64 yd] 23)).cell? ⟨v50.heap.size, 1, none⟩ = some (.int .i64 xd) := X102.out.cell 1
    have fz113 : ∀ o, (v79.alloc (.cells #[.int .i64 yn, .int .i64 yd] 23)).frozen? ⟨v50.heap.size, o, none⟩ = false := fun o => X102.out.free o
    have q114 : (v79.alloc (.cells #[.int .i64 yn, .int .i64 yd] 23)).cell? ⟨v79.heap.size, 0, none⟩ = some (.int .i64 yn) := X104.out.cell 0
    have q115 : (v79.alloc (.cells #[.int .i64 yn, .int .i64 yd] 23)).cell? ⟨v79.heap.size, 1, none⟩ = some (.int .i64 yd) := X104.out.cell 1
    have fz116 : ∀ o, (v79.alloc (.cells #[.int .i64 yn, .int .i64 yd] 23)).frozen? ⟨v79.heap.size, o, none⟩ = false := fun o => X104.out.free o
    by_cases hx0 : xe = 0; rotate_left
    · have e2 : (xe == 0) = false := by simpa using hx0
      have e3 : decide (xe = 0) = false := by simpa using hx0
      clear hx0
      obtain ⟨⟨un, ud, ue⟩, hu9⟩ : ∃ X9, tmR an ad cn cd = X9 := ⟨_, rfl⟩
      have HU := Lib.hid hu9
      clear hu9
      go_wp2_with fail
      refine (Times_c an ad cn cd _).mono ?_; rintro e v117 ⟨rfl, hb118⟩
      have X119 := Lib.hid (X99.out.later hb118)
      have X120 := Lib.hid (X100.out.later hb118)
      have X121 := Lib.hid (X101.out.later hb118)
      have X122 := Lib.hid (X102.out.later hb118)
      have X123 := Lib.hid (X104.out.later hb118)
      have B124 := Lib.hid (B103.out.trans (hb118.mono B103.out.size))
      clear hb118
      rw [HU.out]
      clear q105 q106 q107 q108 q109 q110 q111 q112 fz113 q114 q115 fz116 q86 q87 q88 q89 q90 q91 q92 q93 fz94
      have q125 : v117.cell? ⟨w.heap.size, 0, none⟩ = some (.int .i64 an) := X119.out.cell 0
      have q126 : v117.cell? ⟨w.heap.size, 1, none⟩ = some (.int .i64 ad) := X119.out.cell 1
      have q127 : v117.cell? ⟨w.heap.size + 1, 0, none⟩ = some (.int .i64 bn) := X120.out.cell 0
      have q128 : v117.cell? ⟨w.heap.size + 1, 1, none⟩ = some (.int .i64 bd) := X120.out.cell 1
      have q129 : v117.cell? ⟨w.heap.size + 1 + 1, 0, none⟩ = some (.int .i64 cn) := X121.out.cell 0
      have q130 : v117.cell? ⟨w.heap.size + 1 + 1, 1, none⟩ = some (.int .i64 cd) := X121.out.cell 1
      have q131 : v117.cell? ⟨v50.heap.size, 0, none⟩ = some (.int .i64 xn) := X122.out.cell 0
      have q132 : v117.cell? ⟨v50.heap.size, 1, none⟩ = some (.int .i64 xd) := X122.out.cell 1
      have fz133 : ∀ o, v117.frozen? ⟨v50.heap.size, o, none⟩ = false := fun o => X122.out.free o
      have q134 : v117.cell? ⟨v79.heap.size, 0, none⟩ = some (.int .i64 yn) := X123.out.cell 0
      have q135 : v117.cell? ⟨v79.heap.size, 1, none⟩ = some (.int .i64 yd) := X123.out.cell 1
      have fz136 : ∀ o, v117.frozen? ⟨v79.heap.size, o, none⟩ = false := fun o => X123.out.free o
      have X137 := Lib.hid ((X119.out.far (p := ⟨v50.heap.size, 0, none⟩) ((by have := LT62.out; have := LT63.out; have := LT64.out; have := LT95.out; have := LT96.out; have := LT97.out; have := LT98.out; show _ ≠ v50.heap.size; omega)) (.int .i64 un)).far (p := ⟨v50.heap.size, 1, none⟩) ((by have := LT62.out; have := LT63.out; have := LT64.out; have := LT95.out; have := LT96.out; have := LT97.out; have := LT98.out; show _ ≠ v50.heap.size; omega)) (.int .i64 ud))
      have X138 := Lib.hid ((X120.out.far (p := ⟨v50.heap.size, 0, none⟩) ((by have := LT62.out; have := LT63.out; have := LT64.out; have := LT95.out; have := LT96.out; have := LT97.out; have := LT98.out; show _ ≠ v50.heap.size; omega)) (.int .i64 un)).far (p := ⟨v50.heap.size, 1, none⟩) ((by have := LT62.out; have := LT63.out; have := LT64.out; have := LT95.out; have := LT96.out; have := LT97.out; have := LT98.out; show _ ≠ v50.heap.size; omega)) (.int .i64 ud))
      have X139 := Lib.hid ((X121.out.far (p := ⟨v50.heap.size, 0, none⟩) ((by have := LT62.out; have := LT63.out; have := LT64.out; have := LT95.out; have := LT96.out; have := LT97.out; have := LT98.out; show _ ≠ v50.heap.size; omega)) (.int .i64 un)).far (p := ⟨v50.heap.size, 1, none⟩) ((by have := LT62.out; have := LT63.out; have := LT64.out; have := LT95.out; have := LT96.out; have := LT97.out; have := LT98.out; show _ ≠ v50.heap.size; omega)) (.int .i64 ud))
      have X140 := Lib.hid ((X122.out.put 0 (.int .i64 un)).put 1 (.int .i64 ud))
      have X141 := Lib.hid ((X123.out.far (p := ⟨v50.heap.size, 0, none⟩) ((by have := LT62.out; have := LT63.out; have := LT64.out; have := LT95.out; have := LT96.out; have := LT97.out; have := LT98.out; show _ ≠ v50.heap.size; omega)) (.int .i64 un)).far (p := ⟨v50.heap.size, 1, none⟩) ((by have := LT62.out; have := LT63.out; have := LT64.out; have := LT95.out; have := LT96.out; have := LT97.out; have := LT98.out; show _ ≠ v50.heap.size; omega)) (.int .i64 ud))
      have B142 := Lib.hid ((B124.out.setCell (p := ⟨v50.heap.size, 0, none⟩) ((by have := LT62.out; have := LT63.out; have := LT64.out; have := LT95.out; have := LT96.out; have := LT97.out; have := LT98.out; show w.heap.size ≤ v50.heap.size; omega)) (.int .i64 un)).setCell (p := ⟨v50.heap.size, 1, none⟩) ((by have := LT62.out; have := LT63.out; have := LT64.out; have := LT95.out; have := LT96.out; have := LT97.out; have := LT98.out; show w.heap.size ≤ v50.heap.size; omega)) (.int .i64 ud))
      have q143 : ((v117.setCell ⟨v50.heap.size, 0, none⟩ (.int .i64 un)).setCell ⟨v50.heap.size, 1, none⟩ (.int .i64 ud)).cell? ⟨w.heap.size, 0, none⟩ = some (.int .i64 an) := X137.out.cell 0
      have q144 : ((v117.setCell ⟨v50.heap.size, 0, none⟩ (.int .i64 un)).setCell ⟨v50.heap.size, 1, none⟩ (.int .i64 ud)).cell? ⟨w.heap.size, 1, none⟩ = some (.int .i64 ad) := X137.out.cell 1
      have q145 : ((v117.setCell ⟨v50.heap.size, 0, none⟩ (.int .i64 un)).setCell ⟨v50.heap.size, 1, none⟩ (.int .i64 ud)).cell? ⟨w.heap.size + 1, 0, none⟩ = some (.int .i64 bn) := X138.out.cell 0
      have q146 : ((v117.setCell ⟨v50.heap.size, 0, none⟩ (.int .i64 un)).setCell ⟨v50.heap.size, 1, none⟩ (.int .i64 ud)).cell? ⟨w.heap.size + 1, 1, none⟩ = some (.int .i64 bd) := X138.out.cell 1
      have q147 : ((v117.setCell ⟨v50.heap.size, 0, none⟩ (.int .i64 un)).setCell ⟨v50.heap.size, 1, none⟩ (.int .i64 ud)).cell? ⟨w.heap.size + 1 + 1, 0, none⟩ = some (.int .i64 cn) := X139.out.cell 0
      have q148 : ((v117.setCell ⟨v50.heap.size, 0, none⟩ (.int .i64 un)).setCell ⟨v50.heap.size, 1, none⟩ (.int .i64 ud)).cell? ⟨w.heap.size + 1 + 1, 1, none⟩ = some (.int .i64 cd) := X139.out.cell 1
      have q149 : ((v117.setCell ⟨v50.heap.size, 0, none⟩ (.int .i64 un)).setCell ⟨v50.heap.size, 1, none⟩ (.int .i64 ud)).cell? ⟨v50.heap.size, 0, none⟩ = some (.int .i64 un) := X140.out.cell 0
      have q150 : ((v117.setCell ⟨v50.heap.size, 0, none⟩ (.int .i64 un)).setCell ⟨v50.heap.size, 1, none⟩ (.int .i64 ud)).cell? ⟨v50.heap.size, 1, none⟩ = some (.int .i64 ud) := X140.out.cell 1
      have fz151 : ∀ o, ((v117.setCell ⟨v50.heap.size, 0, none⟩ (.int .i64 un)).setCell ⟨v50.heap.size, 1, none⟩ (.int .i64 ud)).frozen? ⟨v50.heap.size, o, none⟩ = false := fun o => X140.out.free o
      have q152 : ((v117.setCell ⟨v50.heap.size, 0, none⟩ (.int .i64 un)).setCell ⟨v50.heap.size, 1, none⟩ (.int .i64 ud)).cell? ⟨v79.heap.size, 0, none⟩ = some (.int .i64 yn) := X141.out.cell 0
      have q153 : ((v117.setCell ⟨v50.heap.size, 0, none⟩ (.int .i64 un)).setCell ⟨v50.heap.size, 1, none⟩ (.int .i64 ud)).cell? ⟨v79.heap.size, 1, none⟩ = some (.int .i64 yd) := X141.out.cell 1
      have fz154 : ∀ o, ((v117.setCell ⟨v50.heap.size, 0, none⟩ (.int .i64 un)).setCell ⟨v50.heap.size, 1, none⟩ (.int .i64 ud)).frozen? ⟨v79.heap.size, o, none⟩ = false := fun o => X141.out.free o
      obtain ⟨⟨vn, vd, ve⟩, hv9⟩ : ∃ X9, tmR bn bd cn cd = X9 := ⟨_, rfl⟩
      have HV := Lib.hid hv9
      clear hv9
      go_wp2_with fail
      refine (Times_c bn bd cn cd _).mono ?_; rintro e v155 ⟨rfl, hb156⟩
      have X157 := Lib.hid (X137.out.later hb156)
      have X158 := Lib.hid (X138.out.later hb156)
      have X159 := Lib.hid (X139.out.later hb156)
      have X160 := Lib.hid (X140.out.later hb156)
      have X161 := Lib.hid (X141.out.later hb156)
      have B162 := Lib.hid (B142.out.trans (hb156.mono B142.out.size))
      clear hb156
      rw [HV.out]
      clear q143 q144 q145 q146 q147 q148 q149 q150 fz151 q152 q153 fz154 q125 q126 q127 q128 q129 q130 q131 q132 fz133 q134 q135 fz136
      have q163 : v155.cell? ⟨w.heap.size, 0, none⟩ = some (.int .i64 an) := X157.out.cell 0
      have q164 : v155.cell? ⟨w.heap.size, 1, none⟩ = some (.int .i64 ad) := X157.out.cell 1
      have q165 : v155.cell? ⟨w.heap.size + 1, 0, none⟩ = some (.int .i64 bn) := X158.out.cell 0
      have q166 : v155.cell? ⟨w.heap.size + 1, 1, none⟩ = some (.int .i64 bd) := X158.out.cell 1
      have q167 : v155.cell? ⟨w.heap.size + 1 + 1, 0, none⟩ = some (.int .i64 cn) := X159.out.cell 0
      have q168 : v155.cell? ⟨w.heap.size + 1 + 1, 1, none⟩ = some (.int .i64 cd) := X159.out.cell 1
      have q169 : v155.cell? ⟨v50.heap.size, 0, none⟩ = some (.int .i64 un) := X160.out.cell 0
      have q170 : v155.cell? ⟨v50.heap.size, 1, none⟩ = some (.int .i64 ud) := X160.out.cell 1
      have fz171 : ∀ o, v155.frozen? ⟨v50.heap.size, o, none⟩ = false := fun o => X160.out.free o
      have q172 : v155.cell? ⟨v79.heap.size, 0, none⟩ = some (.int .i64 yn) := X161.out.cell 0
      have q173 : v155.cell? ⟨v79.heap.size, 1, none⟩ = some (.int .i64 yd) := X161.out.cell 1
      have fz174 : ∀ o, v155.frozen? ⟨v79.heap.size, o, none⟩ = false := fun o => X161.out.free o
      have X175 := Lib.hid ((X157.out.far (p := ⟨v79.heap.size, 0, none⟩) ((by have := LT62.out; have := LT63.out; have := LT64.out; have := LT95.out; have := LT96.out; have := LT97.out; have := LT98.out; show _ ≠ v79.heap.size; omega)) (.int .i64 vn)).far (p := ⟨v79.heap.size, 1, none⟩) ((by have := LT62.out; have := LT63.out; have := LT64.out; have := LT95.out; have := LT96.out; have := LT97.out; have := LT98.out; show _ ≠ v79.heap.size; omega)) (.int .i64 vd))
      have X176 := Lib.hid ((X158.out.far (p := ⟨v79.heap.size, 0, none⟩) ((by have := LT62.out; have := LT63.out; have := LT64.out; have := LT95.out; have := LT96.out; have := LT97.out; have := LT98.out; show _ ≠ v79.heap.size; omega)) (.int .i64 vn)).far (p := ⟨v79.heap.size, 1, none⟩) ((by have := LT62.out; have := LT63.out; have := LT64.out; have := LT95.out; have := LT96.out; have := LT97.out; have := LT98.out; show _ ≠ v79.heap.size; omega)) (.int .i64 vd))
      have X177 := Lib.hid ((X159.out.far (p := ⟨v79.heap.size, 0, none⟩) ((by have := LT62.out; have := LT63.out; have := LT64.out; have := LT95.out; have := LT96.out; have := LT97.out; have := LT98.out; show _ ≠ v79.heap.size; omega)) (.int .i64 vn)).far (p := ⟨v79.heap.size, 1, none⟩) ((by have := LT62.out; have := LT63.out; have := LT64.out; have := LT95.out; have := LT96.out; have := LT97.out; have := LT98.out; show _ ≠ v79.heap.size; omega)) (.int .i64 vd))
      have X178 := Lib.hid ((X160.out.far (p := ⟨v79.heap.size, 0, none⟩) ((by have := LT62.out; have := LT63.out; have := LT64.out; have := LT95.out; have := LT96.out; have := LT97.out; have := LT98.out; show _ ≠ v79.heap.size; omega)) (.int .i64 vn)).far (p := ⟨v79.heap.size, 1, none⟩) ((by have := LT62.out; have := LT63.out; have := LT64.out; have := LT95.out; have := LT96.out; have := LT97.out; have := LT98.out; show _ ≠ v79.heap.size; omega)) (.int .i64 vd))
      have X179 := Lib.hid ((X161.out.put 0 (.int .i64 vn)).put 1 (.int .i64 vd))
      have B180 := Lib.hid ((B162.out.setCell (p := ⟨v79.heap.size, 0, none⟩) ((by have := LT62.out; have := LT63.out; have := LT64.out; have := LT95.out; have := LT96.out; have := LT97.out; have := LT98.out; show w.heap.size ≤ v79.heap.size; omega)) (.int .i64 vn)).setCell (p := ⟨v79.heap.size, 1, none⟩) ((by have := LT62.out; have := LT63.out; have := LT64.out; have := LT95.out; have := LT96.out; have := LT97.out; have := LT98.out; show w.heap.size ≤ v79.heap.size; omega)) (.int .i64 vd))
      have q181 : ((v155.setCell ⟨v79.heap.size, 0, none⟩ (.int .i64 vn)).setCell ⟨v79.heap.size, 1, none⟩ (.int .i64 vd)).cell? ⟨w.heap.size, 0, none⟩ = some (.int .i64 an) := X175.out.cell 0
      have q182 : ((v155.setCell ⟨v79.heap.size, 0, none⟩ (.int .i64 vn)).setCell ⟨v79.heap.size, 1, none⟩ (.int .i64 vd)).cell? ⟨w.heap.size, 1, none⟩ = some (.int .i64 ad) := X175.out.cell 1
      have q183 : ((v155.setCell ⟨v79.heap.size, 0, none⟩ (.int .i64 vn)).setCell ⟨v79.heap.size, 1, none⟩ (.int .i64 vd)).cell? ⟨w.heap.size + 1, 0, none⟩ = some (.int .i64 bn) := X176.out.cell 0
      have q184 : ((v155.setCell ⟨v79.heap.size, 0, none⟩ (.int .i64 vn)).setCell ⟨v79.heap.size, 1, none⟩ (.int .i64 vd)).cell? ⟨w.heap.size + 1, 1, none⟩ = some (.int .i64 bd) := X176.out.cell 1
      have q185 : ((v155.setCell ⟨v79.heap.size, 0, none⟩ (.int .i64 vn)).setCell ⟨v79.heap.size, 1, none⟩ (.int .i64 vd)).cell? ⟨w.heap.size + 1 + 1, 0, none⟩ = some (.int .i64 cn) := X177.out.cell 0
      have q186 : ((v155.setCell ⟨v79.heap.size, 0, none⟩ (.int .i64 vn)).setCell ⟨v79.heap.size, 1, none⟩ (.int .i64 vd)).cell? ⟨w.heap.size + 1 + 1, 1, none⟩ = some (.int .i64 cd) := X177.out.cell 1
      have q187 : ((v155.setCell ⟨v79.heap.size, 0, none⟩ (.int .i64 vn)).setCell ⟨v79.heap.size, 1, none⟩ (.int .i64 vd)).cell? ⟨v50.heap.size, 0, none⟩ = some (.int .i64 un) := X178.out.cell 0
      have q188 : ((v155.setCell ⟨v79.heap.size, 0, none⟩ (.int .i64 vn)).setCell ⟨v79.heap.size, 1, none⟩ (.int .i64 vd)).cell? ⟨v50.heap.size, 1, none⟩ = some (.int .i64 ud) := X178.out.cell 1
      have fz189 : ∀ o, ((v155.setCell ⟨v79.heap.size, 0, none⟩ (.int .i64 vn)).setCell ⟨v79.heap.size, 1, none⟩ (.int .i64 vd)).frozen? ⟨v50.heap.size, o, none⟩ = false := fun o => X178.out.free o
      have q190 : ((v155.setCell ⟨v79.heap.size, 0, none⟩ (.int .i64 vn)).setCell ⟨v79.heap.size, 1, none⟩ (.int .i64 vd)).cell? ⟨v79.heap.size, 0, none⟩ = some (.int .i64 vn) := X179.out.cell 0
      have q191 : ((v155.setCell ⟨v79.heap.size, 0, none⟩ (.int .i64 vn)).setCell ⟨v79.heap.size, 1, none⟩ (.int .i64 vd)).cell? ⟨v79.heap.size, 1, none⟩ = some (.int .i64 vd) := X179.out.cell 1
      have fz192 : ∀ o, ((v155.setCell ⟨v79.heap.size, 0, none⟩ (.int .i64 vn)).setCell ⟨v79.heap.size, 1, none⟩ (.int .i64 vd)).frozen? ⟨v79.heap.size, o, none⟩ = false := fun o => X179.out.free o
      by_cases hu0 : ue = 0; rotate_left
      · have e2 : (ue == 0) = false := by simpa using hu0
        have e3 : decide (ue = 0) = false := by simpa using hu0
        clear hu0
        go_wp2_with fail
        go_ret
        exact ⟨ret_bool (by simp), B180.out⟩
      · by_cases hv0 : ve = 0; rotate_left
        · subst hu0
          have e2 : (ve == 0) = false := by simpa using hv0
          have e3 : decide (ve = 0) = false := by simpa using hv0
          clear hv0
          go_wp2_with fail
          go_ret
          exact ⟨ret_bool (by simp), B180.out⟩
        · by_cases hc0 : 0 < cn; rotate_left
          · subst hu0 hv0
            have e2 : decide (0 < cn) = false := by simpa using hc0
            clear hc0
            go_wp2_with fail
            go_ret
            exact ⟨ret_bool (by simp), B180.out⟩
          · have e4 : decide (0 < cn) = true := by simpa using hc0
            have HM1 := Lib.hid (show cpN un ud vn vd = n ∧ cpE un ud vn vd = 0 by
              have hh := cp_mul (an := an) (ad := ad) (bn := bn) (bd := bd) (cn := cn) (cd := cd) (by rw [HU.out]; exact hu0) (by rw [HV.out]; exact hv0) hc0
              rw [HU.out, HV.out, HN.out] at hh
              exact hh)
            subst hu0 hv0
            clear hc0
            go_wp2_with fail
            refine (Compare_c un ud vn vd _).mono ?_; rintro e v193 ⟨rfl, hb194⟩
            have X195 := Lib.hid (X175.out.later hb194)
            have X196 := Lib.hid (X176.out.later hb194)
            have X197 := Lib.hid (X177.out.later hb194)
            have X198 := Lib.hid (X178.out.later hb194)
            have X199 := Lib.hid (X179.out.later hb194)
            have B200 := Lib.hid (B180.out.trans (hb194.mono B180.out.size))
            clear hb194
            rw [HM1.out.1, HM1.out.2]
            clear q181 q182 q183 q184 q185 q186 q187 q188 fz189 q190 q191 fz192 q163 q164 q165 q166 q167 q168 q169 q170 fz171 q172 q173 fz174
            have q201 : v193.cell? ⟨w.heap.size, 0, none⟩ = some (.int .i64 an) := X195.out.cell 0
            have q202 : v193.cell? ⟨w.heap.size, 1, none⟩ = some (.int .i64 ad) := X195.out.cell 1
            have q203 : v193.cell? ⟨w.heap.size + 1, 0, none⟩ = some (.int .i64 bn) := X196.out.cell 0
            have q204 : v193.cell? ⟨w.heap.size + 1, 1, none⟩ = some (.int .i64 bd) := X196.out.cell 1
            have q205 : v193.cell? ⟨w.heap.size + 1 + 1, 0, none⟩ = some (.int .i64 cn) := X197.out.cell 0
            have q206 : v193.cell? ⟨w.heap.size + 1 + 1, 1, none⟩ = some (.int .i64 cd) := X197.out.cell 1
            have q207 : v193.cell? ⟨v50.heap.size, 0, none⟩ = some (.int .i64 un) := X198.out.cell 0
            have q208 : v193.cell? ⟨v50.heap.size, 1, none⟩ = some (.int .i64 ud) := X198.out.cell 1
            have fz209 : ∀ o, v193.frozen? ⟨v50.heap.size, o, none⟩ = false := fun o => X198.out.free o
            have q210 : v193.cell? ⟨v79.heap.size, 0, none⟩ = some (.int .i64 vn) := X199.out.cell 0
            have q211 : v193.cell? ⟨v79.heap.size, 1, none⟩ = some (.int .i64 vd) := X199.out.cell 1
            have fz212 : ∀ o, v193.frozen? ⟨v79.heap.size, o, none⟩ = false := fun o => X199.out.free o
            go_wp2_with fail
            go_ret
            exact ⟨ret_bool (by simp), B200.out⟩
    · have HX0 := Lib.hid hx0
      subst hx0
      by_cases hy0 : ye = 0; rotate_left
      · have e2 : (ye == 0) = false := by simpa using hy0
        have e3 : decide (ye = 0) = false := by simpa using hy0
        clear hy0
        obtain ⟨⟨un, ud, ue⟩, hu9⟩ : ∃ X9, tmR an ad cn cd = X9 := ⟨_, rfl⟩
        have HU := Lib.hid hu9
        clear hu9
        go_wp2_with fail
        refine (Times_c an ad cn cd _).mono ?_; rintro e v213 ⟨rfl, hb214⟩
        have X215 := Lib.hid (X99.out.later hb214)
        have X216 := Lib.hid (X100.out.later hb214)
        have X217 := Lib.hid (X101.out.later hb214)
        have X218 := Lib.hid (X102.out.later hb214)
        have X219 := Lib.hid (X104.out.later hb214)
        have B220 := Lib.hid (B103.out.trans (hb214.mono B103.out.size))
        clear hb214
        rw [HU.out]
        clear q105 q106 q107 q108 q109 q110 q111 q112 fz113 q114 q115 fz116 q86 q87 q88 q89 q90 q91 q92 q93 fz94
        have q221 : v213.cell? ⟨w.heap.size, 0, none⟩ = some (.int .i64 an) := X215.out.cell 0
        have q222 : v213.cell? ⟨w.heap.size, 1, none⟩ = some (.int .i64 ad) := X215.out.cell 1
        have q223 : v213.cell? ⟨w.heap.size + 1, 0, none⟩ = some (.int .i64 bn) := X216.out.cell 0
        have q224 : v213.cell? ⟨w.heap.size + 1, 1, none⟩ = some (.int .i64 bd) := X216.out.cell 1
        have q225 : v213.cell? ⟨w.heap.size + 1 + 1, 0, none⟩ = some (.int .i64 cn) := X217.out.cell 0
        have q226 : v213.cell? ⟨w.heap.size + 1 + 1, 1, none⟩ = some (.int .i64 cd) := X217.out.cell 1
        have q227 : v213.cell? ⟨v50.heap.size, 0, none⟩ = some (.int .i64 xn) := X218.out.cell 0
        have q228 : v213.cell? ⟨v50.heap.size, 1, none⟩ = some (.int .i64 xd) := X218.out.cell 1
        have fz229 : ∀ o, v213.frozen? ⟨v50.heap.size, o, none⟩ = false := fun o => X218.out.free o
        have q230 : v213.cell? ⟨v79.heap.size, 0, none⟩ = some (.int .i64 yn) := X219.out.cell 0
        have q231 : v213.cell? ⟨v79.heap.size, 1, none⟩ = some (.int .i64 yd) := X219.out.cell 1
        have fz232 : ∀ o, v213.frozen? ⟨v79.heap.size, o, none⟩ = false := fun o => X219.out.free o
        have X233 := Lib.hid ((X215.out.far (p := ⟨v50.heap.size, 0, none⟩) ((by have := LT62.out; have := LT63.out; have := LT64.out; have := LT95.out; have := LT96.out; have := LT97.out; have := LT98.out; show _ ≠ v50.heap.size; omega)) (.int .i64 un)).far (p := ⟨v50.heap.size, 1, none⟩) ((by have := LT62.out; have := LT63.out; have := LT64.out; have := LT95.out; have := LT96.out; have := LT97.out; have := LT98.out; show _ ≠ v50.heap.size; omega)) (.int .i64 ud))
        have X234 := Lib.hid ((X216.out.far (p := ⟨v50.heap.size, 0, none⟩) ((by have := LT62.out; have := LT63.out; have := LT64.out; have := LT95.out; have := LT96.out; have := LT97.out; have := LT98.out; show _ ≠ v50.heap.size; omega)) (.int .i64 un)).far (p := ⟨v50.heap.size, 1, none⟩) ((by have := LT62.out; have := LT63.out; have := LT64.out; have := LT95.out; have := LT96.out; have := LT97.out; have := LT98.out; show _ ≠ v50.heap.size; omega)) (.int .i64 ud))
        have X235 := Lib.hid ((X217.out.far (p := ⟨v50.heap.size, 0, none⟩) ((by have := LT62.out; have := LT63.out; have := LT64.out; have := LT95.out; have := LT96.out; have := LT97.out; have := LT98.out; show _ ≠ v50.heap.size; omega)) (.int .i64 un)).far (p := ⟨v50.heap.size, 1, none⟩) ((by have := LT62.out; have := LT63.out; have := LT64.out; have := LT95.out; have := LT96.out; have := LT97.out; have := LT98.out; show _ ≠ v50.heap.size; omega)) (.int .i64 ud))
        have X236 := Lib.hid ((X218.out.put 0 (.int .i64 un)).put 1 (.int .i64 ud))
        have X237 := Lib.hid ((X219.out.far (p := ⟨v50.heap.size, 0, none⟩) ((by have := LT62.out; have := LT63.out; have := LT64.out; have := LT95.out; have := LT96.out; have := LT97.out; have := LT98.out; show _ ≠ v50.heap.size; omega)) (.int .i64 un)).far (p := ⟨v50.heap.size, 1, none⟩) ((by have := LT62.out; have := LT63.out; have := LT64.out; have := LT95.out; have := LT96.out; have := LT97.out; have := LT98.out; show _ ≠ v50.heap.size; omega)) (.int .i64 ud))
        have B238 := Lib.hid ((B220.out.setCell (p := ⟨v50.heap.size, 0, none⟩) ((by have := LT62.out; have := LT63.out; have := LT64.out; have := LT95.out; have := LT96.out; have := LT97.out; have := LT98.out; show w.heap.size ≤ v50.heap.size; omega)) (.int .i64 un)).setCell (p := ⟨v50.heap.size, 1, none⟩) ((by have := LT62.out; have := LT63.out; have := LT64.out; have := LT95.out; have := LT96.out; have := LT97.out; have := LT98.out; show w.heap.size ≤ v50.heap.size; omega)) (.int .i64 ud))
        have q239 : ((v213.setCell ⟨v50.heap.size, 0, none⟩ (.int .i64 un)).setCell ⟨v50.heap.size, 1, none⟩ (.int .i64 ud)).cell? ⟨w.heap.size, 0, none⟩ = some (.int .i64 an) := X233.out.cell 0
        have q240 : ((v213.setCell ⟨v50.heap.size, 0, none⟩ (.int .i64 un)).setCell ⟨v50.heap.size, 1, none⟩ (.int .i64 ud)).cell? ⟨w.heap.size, 1, none⟩ = some (.int .i64 ad) := X233.out.cell 1
        have q241 : ((v213.setCell ⟨v50.heap.size, 0, none⟩ (.int .i64 un)).setCell ⟨v50.heap.size, 1, none⟩ (.int .i64 ud)).cell? ⟨w.heap.size + 1, 0, none⟩ = some (.int .i64 bn) := X234.out.cell 0
        have q242 : ((v213.setCell ⟨v50.heap.size, 0, none⟩ (.int .i64 un)).setCell ⟨v50.heap.size, 1, none⟩ (.int .i64 ud)).cell? ⟨w.heap.size + 1, 1, none⟩ = some (.int .i64 bd) := X234.out.cell 1
        have q243 : ((v213.setCell ⟨v50.heap.size, 0, none⟩ (.int .i64 un)).setCell ⟨v50.heap.size, 1, none⟩ (.int .i64 ud)).cell? ⟨w.heap.size + 1 + 1, 0, none⟩ = some (.int .i64 cn) := X235.out.cell 0
        have q244 : ((v213.setCell ⟨v50.heap.size, 0, none⟩ (.int .i64 un)).setCell ⟨v50.heap.size, 1, none⟩ (.int .i64 ud)).cell? ⟨w.heap.size + 1 + 1, 1, none⟩ = some (.int .i64 cd) := X235.out.cell 1
        have q245 : ((v213.setCell ⟨v50.heap.size, 0, none⟩ (.int .i64 un)).setCell ⟨v50.heap.size, 1, none⟩ (.int .i64 ud)).cell? ⟨v50.heap.size, 0, none⟩ = some (.int .i64 un) := X236.out.cell 0
        have q246 : ((v213.setCell ⟨v50.heap.size, 0, none⟩ (.int .i64 un)).setCell ⟨v50.heap.size, 1, none⟩ (.int .i64 ud)).cell? ⟨v50.heap.size, 1, none⟩ = some (.int .i64 ud) := X236.out.cell 1
        have fz247 : ∀ o, ((v213.setCell ⟨v50.heap.size, 0, none⟩ (.int .i64 un)).setCell ⟨v50.heap.size, 1, none⟩ (.int .i64 ud)).frozen? ⟨v50.heap.size, o, none⟩ = false := fun o => X236.out.free o
        have q248 : ((v213.setCell ⟨v50.heap.size, 0, none⟩ (.int .i64 un)).setCell ⟨v50.heap.size, 1, none⟩ (.int .i64 ud)).cell? ⟨v79.heap.size, 0, none⟩ = some (.int .i64 yn) := X237.out.cell 0
        have q249 : ((v213.setCell ⟨v50.heap.size, 0, none⟩ (.int .i64 un)).setCell ⟨v50.heap.size, 1, none⟩ (.int .i64 ud)).cell? ⟨v79.heap.size, 1, none⟩ = some (.int .i64 yd) := X237.out.cell 1
        have fz250 : ∀ o, ((v213.setCell ⟨v50.heap.size, 0, none⟩ (.int .i64 un)).setCell ⟨v50.heap.size, 1, none⟩ (.int .i64 ud)).frozen? ⟨v79.heap.size, o, none⟩ = false := fun o => X237.out.free o
        obtain ⟨⟨vn, vd, ve⟩, hv9⟩ : ∃ X9, tmR bn bd cn cd = X9 := ⟨_, rfl⟩
        have HV := Lib.hid hv9
        clear hv9
        go_wp2_with fail
        refine (Times_c bn bd cn cd _).mono ?_; rintro e v251 ⟨rfl, hb252⟩
        have X253 := Lib.hid (X233.out.later hb252)
        have X254 := Lib.hid (X234.out.later hb252)
        have X255 := Lib.hid (X235.out.later hb252)
        have X256 := Lib.hid (X236.out.later hb252)
        have X257 := Lib.hid (X237.out.later hb252)
        have B258 := Lib.hid (B238.out.trans (hb252.mono B238.out.size))
        clear hb252
        rw [HV.out]
        clear q239 q240 q241 q242 q243 q244 q245 q246 fz247 q248 q249 fz250 q221 q222 q223 q224 q225 q226 q227 q228 fz229 q230 q231 fz232
        have q259 : v251.cell? ⟨w.heap.size, 0, none⟩ = some (.int .i64 an) := X253.out.cell 0
        have q260 : v251.cell? ⟨w.heap.size, 1, none⟩ = some (.int .i64 ad) := X253.out.cell 1
        have q261 : v251.cell? ⟨w.heap.size + 1, 0, none⟩ = some (.int .i64 bn) := X254.out.cell 0
        have q262 : v251.cell? ⟨w.heap.size + 1, 1, none⟩ = some (.int .i64 bd) := X254.out.cell 1
        have q263 : v251.cell? ⟨w.heap.size + 1 + 1, 0, none⟩ = some (.int .i64 cn) := X255.out.cell 0
        have q264 : v251.cell? ⟨w.heap.size + 1 + 1, 1, none⟩ = some (.int .i64 cd) := X255.out.cell 1
        have q265 : v251.cell? ⟨v50.heap.size, 0, none⟩ = some (.int .i64 un) := X256.out.cell 0
        have q266 : v251.cell? ⟨v50.heap.size, 1, none⟩ = some (.int .i64 ud) := X256.out.cell 1
        have fz267 : ∀ o, v251.frozen? ⟨v50.heap.size, o, none⟩ = false := fun o => X256.out.free o
        have q268 : v251.cell? ⟨v79.heap.size, 0, none⟩ = some (.int .i64 yn) := X257.out.cell 0
        have q269 : v251.cell? ⟨v79.heap.size, 1, none⟩ = some (.int .i64 yd) := X257.out.cell 1
        have fz270 : ∀ o, v251.frozen? ⟨v79.heap.size, o, none⟩ = false := fun o => X257.out.free o
        have X271 := Lib.hid ((X253.out.far (p := ⟨v79.heap.size, 0, none⟩) ((by have := LT62.out; have := LT63.out; have := LT64.out; have := LT95.out; have := LT96.out; have := LT97.out; have := LT98.out; show _ ≠ v79.heap.size; omega)) (.int .i64 vn)).far (p := ⟨v79.heap.size, 1, none⟩) ((by have := LT62.out; have := LT63.out; have := LT64.out; have := LT95.out; have := LT96.out; have := LT97.out; have := LT98.out; show _ ≠ v79.heap.size; omega)) (.int .i64 vd))
        have X272 := Lib.hid ((X254.out.far (p := ⟨v79.heap.size, 0, none⟩) ((by have := LT62.out; have := LT63.out; have := LT64.out; have := LT95.out; have := LT96.out; have := LT97.out; have := LT98.out; show _ ≠ v79.heap.size; omega)) (.int .i64 vn)).far (p := ⟨v79.heap.size, 1, none⟩) ((by have := LT62.out; have := LT63.out; have := LT64.out; have := LT95.out; have := LT96.out; have := LT97.out; have := LT98.out; show _ ≠ v79.heap.size; omega)) (.int .i64 vd))
        have X273 := Lib.hid ((X255.out.far (p := ⟨v79.heap.size, 0, none⟩) ((by have := LT62.out; have := LT63.out; have := LT64.out; have := LT95.out; have := LT96.out; have := LT97.out; have := LT98.out; show _ ≠ v79.heap.size; omega)) (.int .i64 vn)).far (p := ⟨v79.heap.size, 1, none⟩) ((by have := LT62.out; have := LT63.out; have := LT64.out; have := LT95.out; have := LT96.out; have := LT97.out; have := LT98.out; show _ ≠ v79.heap.size; omega)) (.int .i64 vd))
        have X274 := Lib.hid ((X256.out.far (p := ⟨v79.heap.size, 0, none⟩) ((by have := LT62.out; have := LT63.out; have := LT64.out; have := LT95.out; have := LT96.out; have := LT97.out; have := LT98.out; show _ ≠ v79.heap.size; omega)) (.int .i64 vn)).far (p := ⟨v79.heap.size, 1, none⟩) ((by have := LT62.out; have := LT63.out; have := LT64.out; have := LT95.out; have := LT96.out; have := LT97.out; have := LT98.out; show _ ≠ v79.heap.size; omega)) (.int .i64 vd))
        have X275 := Lib.hid ((X257.out.put 0 (.int .i64 vn)).put 1 (.int .i64 vd))
        have B276 := Lib.hid ((B258.out.setCell (p := ⟨v79.heap.size, 0, none⟩) ((by have := LT62.out; have := LT63.out; have := LT64.out; have := LT95.out; have := LT96.out; have := LT97.out; have := LT98.out; show w.heap.size ≤ v79.heap.size; omega)) (.int .i64 vn)).setCell (p := ⟨v79.heap.size, 1, none⟩) ((by have := LT62.out; have := LT63.out; have := LT64.out; have := LT95.out; have := LT96.out; have := LT97.out; have := LT98.out; show w.heap.size ≤ v79.heap.size; omega)) (.int .i64 vd))
        have q277 : ((v251.setCell ⟨v79.heap.size, 0, none⟩ (.int .i64 vn)).setCell ⟨v79.heap.size, 1, none⟩ (.int .i64 vd)).cell? ⟨w.heap.size, 0, none⟩ = some (.int .i64 an) := X271.out.cell 0
        have q278 : ((v251.setCell ⟨v79.heap.size, 0, none⟩ (.int .i64 vn)).setCell ⟨v79.heap.size, 1, none⟩ (.int .i64 vd)).cell? ⟨w.heap.size, 1, none⟩ = some (.int .i64 ad) := X271.out.cell 1
        have q279 : ((v251.setCell ⟨v79.heap.size, 0, none⟩ (.int .i64 vn)).setCell ⟨v79.heap.size, 1, none⟩ (.int .i64 vd)).cell? ⟨w.heap.size + 1, 0, none⟩ = some (.int .i64 bn) := X272.out.cell 0
        have q280 : ((v251.setCell ⟨v79.heap.size, 0, none⟩ (.int .i64 vn)).setCell ⟨v79.heap.size, 1, none⟩ (.int .i64 vd)).cell? ⟨w.heap.size + 1, 1, none⟩ = some (.int .i64 bd) := X272.out.cell 1
        have q281 : ((v251.setCell ⟨v79.heap.size, 0, none⟩ (.int .i64 vn)).setCell ⟨v79.heap.size, 1, none⟩ (.int .i64 vd)).cell? ⟨w.heap.size + 1 + 1, 0, none⟩ = some (.int .i64 cn) := X273.out.cell 0
        have q282 : ((v251.setCell ⟨v79.heap.size, 0, none⟩ (.int .i64 vn)).setCell ⟨v79.heap.size, 1, none⟩ (.int .i64 vd)).cell? ⟨w.heap.size + 1 + 1, 1, none⟩ = some (.int .i64 cd) := X273.out.cell 1
        have q283 : ((v251.setCell ⟨v79.heap.size, 0, none⟩ (.int .i64 vn)).setCell ⟨v79.heap.size, 1, none⟩ (.int .i64 vd)).cell? ⟨v50.heap.size, 0, none⟩ = some (.int .i64 un) := X274.out.cell 0
        have q284 : ((v251.setCell ⟨v79.heap.size, 0, none⟩ (.int .i64 vn)).setCell ⟨v79.heap.size, 1, none⟩ (.int .i64 vd)).cell? ⟨v50.heap.size, 1, none⟩ = some (.int .i64 ud) := X274.out.cell 1
        have fz285 : ∀ o, ((v251.setCell ⟨v79.heap.size, 0, none⟩ (.int .i64 vn)).setCell ⟨v79.heap.size, 1, none⟩ (.int .i64 vd)).frozen? ⟨v50.heap.size, o, none⟩ = false := fun o => X274.out.free o
        have q286 : ((v251.setCell ⟨v79.heap.size, 0, none⟩ (.int .i64 vn)).setCell ⟨v79.heap.size, 1, none⟩ (.int .i64 vd)).cell? ⟨v79.heap.size, 0, none⟩ = some (.int .i64 vn) := X275.out.cell 0
        have q287 : ((v251.setCell ⟨v79.heap.size, 0, none⟩ (.int .i64 vn)).setCell ⟨v79.heap.size, 1, none⟩ (.int .i64 vd)).cell? ⟨v79.heap.size, 1, none⟩ = some (.int .i64 vd) := X275.out.cell 1
        have fz288 : ∀ o, ((v251.setCell ⟨v79.heap.size, 0, none⟩ (.int .i64 vn)).setCell ⟨v79.heap.size, 1, none⟩ (.int .i64 vd)).frozen? ⟨v79.heap.size, o, none⟩ = false := fun o => X275.out.free o
        by_cases hu0 : ue = 0; rotate_left
        · have e2 : (ue == 0) = false := by simpa using hu0
          have e3 : decide (ue = 0) = false := by simpa using hu0
          clear hu0
          go_wp2_with fail
          go_ret
          exact ⟨ret_bool (by simp), B276.out⟩
        · by_cases hv0 : ve = 0; rotate_left
          · subst hu0
            have e2 : (ve == 0) = false := by simpa using hv0
            have e3 : decide (ve = 0) = false := by simpa using hv0
            clear hv0
            go_wp2_with fail
            go_ret
            exact ⟨ret_bool (by simp), B276.out⟩
          · by_cases hc0 : 0 < cn; rotate_left
            · subst hu0 hv0
              have e2 : decide (0 < cn) = false := by simpa using hc0
              clear hc0
              go_wp2_with fail
              go_ret
              exact ⟨ret_bool (by simp), B276.out⟩
            · have e4 : decide (0 < cn) = true := by simpa using hc0
              have HM1 := Lib.hid (show cpN un ud vn vd = n ∧ cpE un ud vn vd = 0 by
                have hh := cp_mul (an := an) (ad := ad) (bn := bn) (bd := bd) (cn := cn) (cd := cd) (by rw [HU.out]; exact hu0) (by rw [HV.out]; exact hv0) hc0
                rw [HU.out, HV.out, HN.out] at hh
                exact hh)
              subst hu0 hv0
              clear hc0
              go_wp2_with fail
              refine (Compare_c un ud vn vd _).mono ?_; rintro e v289 ⟨rfl, hb290⟩
              have X291 := Lib.hid (X271.out.later hb290)
              have X292 := Lib.hid (X272.out.later hb290)
              have X293 := Lib.hid (X273.out.later hb290)
              have X294 := Lib.hid (X274.out.later hb290)
              have X295 := Lib.hid (X275.out.later hb290)
              have B296 := Lib.hid (B276.out.trans (hb290.mono B276.out.size))
              clear hb290
              rw [HM1.out.1, HM1.out.2]
              clear q277 q278 q279 q280 q281 q282 q283 q284 fz285 q286 q287 fz288 q259 q260 q261 q262 q263 q264 q265 q266 fz267 q268 q269 fz270
              have q297 : v289.cell? ⟨w.heap.size, 0, none⟩ = some (.int .i64 an) := X291.out.cell 0
              have q298 : v289.cell? ⟨w.heap.size, 1, none⟩ = some (.int .i64 ad) := X291.out.cell 1
              have q299 : v289.cell? ⟨w.heap.size + 1, 0, none⟩ = some (.int .i64 bn) := X292.out.cell 0
              have q300 : v289.cell? ⟨w.heap.size + 1, 1, none⟩ = some (.int .i64 bd) := X292.out.cell 1
              have q301 : v289.cell? ⟨w.heap.size + 1 + 1, 0, none⟩ = some (.int .i64 cn) := X293.out.cell 0
              have q302 : v289.cell? ⟨w.heap.size + 1 + 1, 1, none⟩ = some (.int .i64 cd) := X293.out.cell 1
              have q303 : v289.cell? ⟨v50.heap.size, 0, none⟩ = some (.int .i64 un) := X294.out.cell 0
              have q304 : v289.cell? ⟨v50.heap.size, 1, none⟩ = some (.int .i64 ud) := X294.out.cell 1
              have fz305 : ∀ o, v289.frozen? ⟨v50.heap.size, o, none⟩ = false := fun o => X294.out.free o
              have q306 : v289.cell? ⟨v79.heap.size, 0, none⟩ = some (.int .i64 vn) := X295.out.cell 0
              have q307 : v289.cell? ⟨v79.heap.size, 1, none⟩ = some (.int .i64 vd) := X295.out.cell 1
              have fz308 : ∀ o, v289.frozen? ⟨v79.heap.size, o, none⟩ = false := fun o => X295.out.free o
              go_wp2_with fail
              go_ret
              exact ⟨ret_bool (by simp), B296.out⟩
      · have HA1 := Lib.hid (show cpN xn xd yn yd = n ∧ cpE xn xd yn yd = 0 by
          have hh := cp_add (an := an) (ad := ad) (bn := bn) (bd := bd) (cn := cn) (cd := cd) (by rw [HX.out]) (by rw [HY.out]; exact hy0)
          rw [HX.out, HY.out, HN.out] at hh
          exact hh)
        subst hy0
        go_wp2_with fail
        refine (Compare_c xn xd yn yd _).mono ?_; rintro e v309 ⟨rfl, hb310⟩
        have X311 := Lib.hid (X99.out.later hb310)
        have X312 := Lib.hid (X100.out.later hb310)
        have X313 := Lib.hid (X101.out.later hb310)
        have X314 := Lib.hid (X102.out.later hb310)
        have X315 := Lib.hid (X104.out.later hb310)
        have B316 := Lib.hid (B103.out.trans (hb310.mono B103.out.size))
        clear hb310
        rw [HA1.out.1, HA1.out.2]
        have e9 : (n != n) = false := by simp
        clear q105 q106 q107 q108 q109 q110 q111 q112 fz113 q114 q115 fz116 q86 q87 q88 q89 q90 q91 q92 q93 fz94
        have q317 : v309.cell? ⟨w.heap.size, 0, none⟩ = some (.int .i64 an) := X311.out.cell 0
        have q318 : v309.cell? ⟨w.heap.size, 1, none⟩ = some (.int .i64 ad) := X311.out.cell 1
        have q319 : v309.cell? ⟨w.heap.size + 1, 0, none⟩ = some (.int .i64 bn) := X312.out.cell 0
        have q320 : v309.cell? ⟨w.heap.size + 1, 1, none⟩ = some (.int .i64 bd) := X312.out.cell 1
        have q321 : v309.cell? ⟨w.heap.size + 1 + 1, 0, none⟩ = some (.int .i64 cn) := X313.out.cell 0
        have q322 : v309.cell? ⟨w.heap.size + 1 + 1, 1, none⟩ = some (.int .i64 cd) := X313.out.cell 1
        have q323 : v309.cell? ⟨v50.heap.size, 0, none⟩ = some (.int .i64 xn) := X314.out.cell 0
        have q324 : v309.cell? ⟨v50.heap.size, 1, none⟩ = some (.int .i64 xd) := X314.out.cell 1
        have fz325 : ∀ o, v309.frozen? ⟨v50.heap.size, o, none⟩ = false := fun o => X314.out.free o
        have q326 : v309.cell? ⟨v79.heap.size, 0, none⟩ = some (.int .i64 yn) := X315.out.cell 0
        have q327 : v309.cell? ⟨v79.heap.size, 1, none⟩ = some (.int .i64 yd) := X315.out.cell 1
        have fz328 : ∀ o, v309.frozen? ⟨v79.heap.size, o, none⟩ = false := fun o => X315.out.free o
        obtain ⟨⟨un, ud, ue⟩, hu9⟩ : ∃ X9, tmR an ad cn cd = X9 := ⟨_, rfl⟩
        have HU := Lib.hid hu9
        clear hu9
        go_wp2_with fail
        refine (Times_c an ad cn cd _).mono ?_; rintro e v329 ⟨rfl, hb330⟩
        have X331 := Lib.hid (X311.out.later hb330)
        have X332 := Lib.hid (X312.out.later hb330)
        have X333 := Lib.hid (X313.out.later hb330)
        have X334 := Lib.hid (X314.out.later hb330)
        have X335 := Lib.hid (X315.out.later hb330)
        have B336 := Lib.hid (B316.out.trans (hb330.mono B316.out.size))
        clear hb330
        rw [HU.out]
        clear q317 q318 q319 q320 q321 q322 q323 q324 fz325 q326 q327 fz328
        have q337 : v329.cell? ⟨w.heap.size, 0, none⟩ = some (.int .i64 an) := X331.out.cell 0
        have q338 : v329.cell? ⟨w.heap.size, 1, none⟩ = some (.int .i64 ad) := X331.out.cell 1
        have q339 : v329.cell? ⟨w.heap.size + 1, 0, none⟩ = some (.int .i64 bn) := X332.out.cell 0
        have q340 : v329.cell? ⟨w.heap.size + 1, 1, none⟩ = some (.int .i64 bd) := X332.out.cell 1
        have q341 : v329.cell? ⟨w.heap.size + 1 + 1, 0, none⟩ = some (.int .i64 cn) := X333.out.cell 0
        have q342 : v329.cell? ⟨w.heap.size + 1 + 1, 1, none⟩ = some (.int .i64 cd) := X333.out.cell 1
        have q343 : v329.cell? ⟨v50.heap.size, 0, none⟩ = some (.int .i64 xn) := X334.out.cell 0
        have q344 : v329.cell? ⟨v50.heap.size, 1, none⟩ = some (.int .i64 xd) := X334.out.cell 1
        have fz345 : ∀ o, v329.frozen? ⟨v50.heap.size, o, none⟩ = false := fun o => X334.out.free o
        have q346 : v329.cell? ⟨v79.heap.size, 0, none⟩ = some (.int .i64 yn) := X335.out.cell 0
        have q347 : v329.cell? ⟨v79.heap.size, 1, none⟩ = some (.int .i64 yd) := X335.out.cell 1
        have fz348 : ∀ o, v329.frozen? ⟨v79.heap.size, o, none⟩ = false := fun o => X335.out.free o
        have X349 := Lib.hid ((X331.out.far (p := ⟨v50.heap.size, 0, none⟩) ((by have := LT62.out; have := LT63.out; have := LT64.out; have := LT95.out; have := LT96.out; have := LT97.out; have := LT98.out; show _ ≠ v50.heap.size; omega)) (.int .i64 un)).far (p := ⟨v50.heap.size, 1, none⟩) ((by have := LT62.out; have := LT63.out; have := LT64.out; have := LT95.out; have := LT96.out; have := LT97.out; have := LT98.out; show _ ≠ v50.heap.size; omega)) (.int .i64 ud))
        have X350 := Lib.hid ((X332.out.far (p := ⟨v50.heap.size, 0, none⟩) ((by have := LT62.out; have := LT63.out; have := LT64.out; have := LT95.out; have := LT96.out; have := LT97.out; have := LT98.out; show _ ≠ v50.heap.size; omega)) (.int .i64 un)).far (p := ⟨v50.heap.size, 1, none⟩) ((by have := LT62.out; have := LT63.out; have := LT64.out; have := LT95.out; have := LT96.out; have := LT97.out; have := LT98.out; show _ ≠ v50.heap.size; omega)) (.int .i64 ud))
        have X351 := Lib.hid ((X333.out.far (p := ⟨v50.heap.size, 0, none⟩) ((by have := LT62.out; have := LT63.out; have := LT64.out; have := LT95.out; have := LT96.out; have := LT97.out; have := LT98.out; show _ ≠ v50.heap.size; omega)) (.int .i64 un)).far (p := ⟨v50.heap.size, 1, none⟩) ((by have := LT62.out; have := LT63.out; have := LT64.out; have := LT95.out; have := LT96.out; have := LT97.out; have := LT98.out; show _ ≠ v50.heap.size; omega)) (.int .i64 ud))
        have X352 := Lib.hid ((X334.out.put 0 (.int .i64 un)).put 1 (.int .i64 ud))
        have X353 := Lib.hid ((X335.out.far (p := ⟨v50.heap.size, 0, none⟩) ((by have := LT62.out; have := LT63.out; have := LT64.out; have := LT95.out; have := LT96.out; have := LT97.out; have := LT98.out; show _ ≠ v50.heap.size; omega)) (.int .i64 un)).far (p := ⟨v50.heap.size, 1, none⟩) ((by have := LT62.out; have := LT63.out; have := LT64.out; have := LT95.out; have := LT96.out; have := LT97.out; have := LT98.out; show _ ≠ v50.heap.size; omega)) (.int .i64 ud))
        have B354 := Lib.hid ((B336.out.setCell (p := ⟨v50.heap.size, 0, none⟩) ((by have := LT62.out; have := LT63.out; have := LT64.out; have := LT95.out; have := LT96.out; have := LT97.out; have := LT98.out; show w.heap.size ≤ v50.heap.size; omega)) (.int .i64 un)).setCell (p := ⟨v50.heap.size, 1, none⟩) ((by have := LT62.out; have := LT63.out; have := LT64.out; have := LT95.out; have := LT96.out; have := LT97.out; have := LT98.out; show w.heap.size ≤ v50.heap.size; omega)) (.int .i64 ud))
        have q355 : ((v329.setCell ⟨v50.heap.size, 0, none⟩ (.int .i64 un)).setCell ⟨v50.heap.size, 1, none⟩ (.int .i64 ud)).cell? ⟨w.heap.size, 0, none⟩ = some (.int .i64 an) := X349.out.cell 0
        have q356 : ((v329.setCell ⟨v50.heap.size, 0, none⟩ (.int .i64 un)).setCell ⟨v50.heap.size, 1, none⟩ (.int .i64 ud)).cell? ⟨w.heap.size, 1, none⟩ = some (.int .i64 ad) := X349.out.cell 1
        have q357 : ((v329.setCell ⟨v50.heap.size, 0, none⟩ (.int .i64 un)).setCell ⟨v50.heap.size, 1, none⟩ (.int .i64 ud)).cell? ⟨w.heap.size + 1, 0, none⟩ = some (.int .i64 bn) := X350.out.cell 0
        have q358 : ((v329.setCell ⟨v50.heap.size, 0, none⟩ (.int .i64 un)).setCell ⟨v50.heap.size, 1, none⟩ (.int .i64 ud)).cell? ⟨w.heap.size + 1, 1, none⟩ = some (.int .i64 bd) := X350.out.cell 1
        have q359 : ((v329.setCell ⟨v50.heap.size, 0, none⟩ (.int .i64 un)).setCell ⟨v50.heap.size, 1, none⟩ (.int .i64 ud)).cell? ⟨w.heap.size + 1 + 1, 0, none⟩ = some (.int .i64 cn) := X351.out.cell 0
        have q360 : ((v329.setCell ⟨v50.heap.size, 0, none⟩ (.int .i64 un)).setCell ⟨v50.heap.size, 1, none⟩ (.int .i64 ud)).cell? ⟨w.heap.size + 1 + 1, 1, none⟩ = some (.int .i64 cd) := X351.out.cell 1
        have q361 : ((v329.setCell ⟨v50.heap.size, 0, none⟩ (.int .i64 un)).setCell ⟨v50.heap.size, 1, none⟩ (.int .i64 ud)).cell? ⟨v50.heap.size, 0, none⟩ = some (.int .i64 un) := X352.out.cell 0
        have q362 : ((v329.setCell ⟨v50.heap.size, 0, none⟩ (.int .i64 un)).setCell ⟨v50.heap.size, 1, none⟩ (.int .i64 ud)).cell? ⟨v50.heap.size, 1, none⟩ = some (.int .i64 ud) := X352.out.cell 1
        have fz363 : ∀ o, ((v329.setCell ⟨v50.heap.size, 0, none⟩ (.int .i64 un)).setCell ⟨v50.heap.size, 1, none⟩ (.int .i64 ud)).frozen? ⟨v50.heap.size, o, none⟩ = false := fun o => X352.out.free o
        have q364 : ((v329.setCell ⟨v50.heap.size, 0, none⟩ (.int .i64 un)).setCell ⟨v50.heap.size, 1, none⟩ (.int .i64 ud)).cell? ⟨v79.heap.size, 0, none⟩ = some (.int .i64 yn) := X353.out.cell 0
        have q365 : ((v329.setCell ⟨v50.heap.size, 0, none⟩ (.int .i64 un)).setCell ⟨v50.heap.size, 1, none⟩ (.int .i64 ud)).cell? ⟨v79.heap.size, 1, none⟩ = some (.int .i64 yd) := X353.out.cell 1
        have fz366 : ∀ o, ((v329.setCell ⟨v50.heap.size, 0, none⟩ (.int .i64 un)).setCell ⟨v50.heap.size, 1, none⟩ (.int .i64 ud)).frozen? ⟨v79.heap.size, o, none⟩ = false := fun o => X353.out.free o
        obtain ⟨⟨vn, vd, ve⟩, hv9⟩ : ∃ X9, tmR bn bd cn cd = X9 := ⟨_, rfl⟩
        have HV := Lib.hid hv9
        clear hv9
        go_wp2_with fail
        refine (Times_c bn bd cn cd _).mono ?_; rintro e v367 ⟨rfl, hb368⟩
        have X369 := Lib.hid (X349.out.later hb368)
        have X370 := Lib.hid (X350.out.later hb368)
        have X371 := Lib.hid (X351.out.later hb368)
        have X372 := Lib.hid (X352.out.later hb368)
        have X373 := Lib.hid (X353.out.later hb368)
        have B374 := Lib.hid (B354.out.trans (hb368.mono B354.out.size))
        clear hb368
        rw [HV.out]
        clear q355 q356 q357 q358 q359 q360 q361 q362 fz363 q364 q365 fz366 q337 q338 q339 q340 q341 q342 q343 q344 fz345 q346 q347 fz348
        have q375 : v367.cell? ⟨w.heap.size, 0, none⟩ = some (.int .i64 an) := X369.out.cell 0
        have q376 : v367.cell? ⟨w.heap.size, 1, none⟩ = some (.int .i64 ad) := X369.out.cell 1
        have q377 : v367.cell? ⟨w.heap.size + 1, 0, none⟩ = some (.int .i64 bn) := X370.out.cell 0
        have q378 : v367.cell? ⟨w.heap.size + 1, 1, none⟩ = some (.int .i64 bd) := X370.out.cell 1
        have q379 : v367.cell? ⟨w.heap.size + 1 + 1, 0, none⟩ = some (.int .i64 cn) := X371.out.cell 0
        have q380 : v367.cell? ⟨w.heap.size + 1 + 1, 1, none⟩ = some (.int .i64 cd) := X371.out.cell 1
        have q381 : v367.cell? ⟨v50.heap.size, 0, none⟩ = some (.int .i64 un) := X372.out.cell 0
        have q382 : v367.cell? ⟨v50.heap.size, 1, none⟩ = some (.int .i64 ud) := X372.out.cell 1
        have fz383 : ∀ o, v367.frozen? ⟨v50.heap.size, o, none⟩ = false := fun o => X372.out.free o
        have q384 : v367.cell? ⟨v79.heap.size, 0, none⟩ = some (.int .i64 yn) := X373.out.cell 0
        have q385 : v367.cell? ⟨v79.heap.size, 1, none⟩ = some (.int .i64 yd) := X373.out.cell 1
        have fz386 : ∀ o, v367.frozen? ⟨v79.heap.size, o, none⟩ = false := fun o => X373.out.free o
        have X387 := Lib.hid ((X369.out.far (p := ⟨v79.heap.size, 0, none⟩) ((by have := LT62.out; have := LT63.out; have := LT64.out; have := LT95.out; have := LT96.out; have := LT97.out; have := LT98.out; show _ ≠ v79.heap.size; omega)) (.int .i64 vn)).far (p := ⟨v79.heap.size, 1, none⟩) ((by have := LT62.out; have := LT63.out; have := LT64.out; have := LT95.out; have := LT96.out; have := LT97.out; have := LT98.out; show _ ≠ v79.heap.size; omega)) (.int .i64 vd))
        have X388 := Lib.hid ((X370.out.far (p := ⟨v79.heap.size, 0, none⟩) ((by have := LT62.out; have := LT63.out; have := LT64.out; have := LT95.out; have := LT96.out; have := LT97.out; have := LT98.out; show _ ≠ v79.heap.size; omega)) (.int .i64 vn)).far (p := ⟨v79.heap.size, 1, none⟩) ((by have := LT62.out; have := LT63.out; have := LT64.out; have := LT95.out; have := LT96.out; have := LT97.out; have := LT98.out; show _ ≠ v79.heap.size; omega)) (.int .i64 vd))
        have X389 := Lib.hid ((X371.out.far (p := ⟨v79.heap.size, 0, none⟩) ((by have := LT62.out; have := LT63.out; have := LT64.out; have := LT95.out; have := LT96.out; have := LT97.out; have := LT98.out; show _ ≠ v79.heap.size; omega)) (.int .i64 vn)).far (p := ⟨v79.heap.size, 1, none⟩) ((by have := LT62.out; have := LT63.out; have := LT64.out; have := LT95.out; have := LT96.out; have := LT97.out; have := LT98.out; show _ ≠ v79.heap.size; omega)) (.int .i64 vd))
        have X390 := Lib.hid ((X372.out.far (p := ⟨v79.heap.size, 0, none⟩) ((by have := LT62.out; have := LT63.out; have := LT64.out; have := LT95.out; have := LT96.out; have := LT97.out; have := LT98.out; show _ ≠ v79.heap.size; omega)) (.int .i64 vn)).far (p := ⟨v79.heap.size, 1, none⟩) ((by have := LT62.out; have := LT63.out; have := LT64.out; have := LT95.out; have := LT96.out; have := LT97.out; have := LT98.out; show _ ≠ v79.heap.size; omega)) (.int .i64 vd))
        have X391 := Lib.hid ((X373.out.put 0 (.int .i64 vn)).put 1 (.int .i64 vd))
        have B392 := Lib.hid ((B374.out.setCell (p := ⟨v79.heap.size, 0, none⟩) ((by have := LT62.out; have := LT63.out; have := LT64.out; have := LT95.out; have := LT96.out; have := LT97.out; have := LT98.out; show w.heap.size ≤ v79.heap.size; omega)) (.int .i64 vn)).setCell (p := ⟨v79.heap.size, 1, none⟩) ((by have := LT62.out; have := LT63.out; have := LT64.out; have := LT95.out; have := LT96.out; have := LT97.out; have := LT98.out; show w.heap.size ≤ v79.heap.size; omega)) (.int .i64 vd))
        have q393 : ((v367.setCell ⟨v79.heap.size, 0, none⟩ (.int .i64 vn)).setCell ⟨v79.heap.size, 1, none⟩ (.int .i64 vd)).cell? ⟨w.heap.size, 0, none⟩ = some (.int .i64 an) := X387.out.cell 0
        have q394 : ((v367.setCell ⟨v79.heap.size, 0, none⟩ (.int .i64 vn)).setCell ⟨v79.heap.size, 1, none⟩ (.int .i64 vd)).cell? ⟨w.heap.size, 1, none⟩ = some (.int .i64 ad) := X387.out.cell 1
        have q395 : ((v367.setCell ⟨v79.heap.size, 0, none⟩ (.int .i64 vn)).setCell ⟨v79.heap.size, 1, none⟩ (.int .i64 vd)).cell? ⟨w.heap.size + 1, 0, none⟩ = some (.int .i64 bn) := X388.out.cell 0
        have q396 : ((v367.setCell ⟨v79.heap.size, 0, none⟩ (.int .i64 vn)).setCell ⟨v79.heap.size, 1, none⟩ (.int .i64 vd)).cell? ⟨w.heap.size + 1, 1, none⟩ = some (.int .i64 bd) := X388.out.cell 1
        have q397 : ((v367.setCell ⟨v79.heap.size, 0, none⟩ (.int .i64 vn)).setCell ⟨v79.heap.size, 1, none⟩ (.int .i64 vd)).cell? ⟨w.heap.size + 1 + 1, 0, none⟩ = some (.int .i64 cn) := X389.out.cell 0
        have q398 : ((v367.setCell ⟨v79.heap.size, 0, none⟩ (.int .i64 vn)).setCell ⟨v79.heap.size, 1, none⟩ (.int .i64 vd)).cell? ⟨w.heap.size + 1 + 1, 1, none⟩ = some (.int .i64 cd) := X389.out.cell 1
        have q399 : ((v367.setCell ⟨v79.heap.size, 0, none⟩ (.int .i64 vn)).setCell ⟨v79.heap.size, 1, none⟩ (.int .i64 vd)).cell? ⟨v50.heap.size, 0, none⟩ = some (.int .i64 un) := X390.out.cell 0
        have q400 : ((v367.setCell ⟨v79.heap.size, 0, none⟩ (.int .i64 vn)).setCell ⟨v79.heap.size, 1, none⟩ (.int .i64 vd)).cell? ⟨v50.heap.size, 1, none⟩ = some (.int .i64 ud) := X390.out.cell 1
        have fz401 : ∀ o, ((v367.setCell ⟨v79.heap.size, 0, none⟩ (.int .i64 vn)).setCell ⟨v79.heap.size, 1, none⟩ (.int .i64 vd)).frozen? ⟨v50.heap.size, o, none⟩ = false := fun o => X390.out.free o
        have q402 : ((v367.setCell ⟨v79.heap.size, 0, none⟩ (.int .i64 vn)).setCell ⟨v79.heap.size, 1, none⟩ (.int .i64 vd)).cell? ⟨v79.heap.size, 0, none⟩ = some (.int .i64 vn) := X391.out.cell 0
        have q403 : ((v367.setCell ⟨v79.heap.size, 0, none⟩ (.int .i64 vn)).setCell ⟨v79.heap.size, 1, none⟩ (.int .i64 vd)).cell? ⟨v79.heap.size, 1, none⟩ = some (.int .i64 vd) := X391.out.cell 1
        have fz404 : ∀ o, ((v367.setCell ⟨v79.heap.size, 0, none⟩ (.int .i64 vn)).setCell ⟨v79.heap.size, 1, none⟩ (.int .i64 vd)).frozen? ⟨v79.heap.size, o, none⟩ = false := fun o => X391.out.free o
        by_cases hu0 : ue = 0; rotate_left
        · have e2 : (ue == 0) = false := by simpa using hu0
          have e3 : decide (ue = 0) = false := by simpa using hu0
          clear hu0
          go_wp2_with fail
          go_ret
          exact ⟨ret_bool (by simp), B392.out⟩
        · by_cases hv0 : ve = 0; rotate_left
          · subst hu0
            have e2 : (ve == 0) = false := by simpa using hv0
            have e3 : decide (ve = 0) = false := by simpa using hv0
            clear hv0
            go_wp2_with fail
            go_ret
            exact ⟨ret_bool (by simp), B392.out⟩
          · by_cases hc0 : 0 < cn; rotate_left
            · subst hu0 hv0
              have e2 : decide (0 < cn) = false := by simpa using hc0
              clear hc0
              go_wp2_with fail
              go_ret
              exact ⟨ret_bool (by simp), B392.out⟩
            · have e4 : decide (0 < cn) = true := by simpa using hc0
              have HM1 := Lib.hid (show cpN un ud vn vd = n ∧ cpE un ud vn vd = 0 by
                have hh := cp_mul (an := an) (ad := ad) (bn := bn) (bd := bd) (cn := cn) (cd := cd) (by rw [HU.out]; exact hu0) (by rw [HV.out]; exact hv0) hc0
                rw [HU.out, HV.out, HN.out] at hh
                exact hh)
              subst hu0 hv0
              clear hc0
              go_wp2_with fail
              refine (Compare_c un ud vn vd _).mono ?_; rintro e v405 ⟨rfl, hb406⟩
              have X407 := Lib.hid (X387.out.later hb406)
              have X408 := Lib.hid (X388.out.later hb406)
              have X409 := Lib.hid (X389.out.later hb406)
              have X410 := Lib.hid (X390.out.later hb406)
              have X411 := Lib.hid (X391.out.later hb406)
              have B412 := Lib.hid (B392.out.trans (hb406.mono B392.out.size))
              clear hb406
              rw [HM1.out.1, HM1.out.2]
              clear q393 q394 q395 q396 q397 q398 q399 q400 fz401 q402 q403 fz404 q375 q376 q377 q378 q379 q380 q381 q382 fz383 q384 q385 fz386
              have q413 : v405.cell? ⟨w.heap.size, 0, none⟩ = some (.int .i64 an) := X407.out.cell 0
              have q414 : v405.cell? ⟨w.heap.size, 1, none⟩ = some (.int .i64 ad) := X407.out.cell 1
              have q415 : v405.cell? ⟨w.heap.size + 1, 0, none⟩ = some (.int .i64 bn) := X408.out.cell 0
              have q416 : v405.cell? ⟨w.heap.size + 1, 1, none⟩ = some (.int .i64 bd) := X408.out.cell 1
              have q417 : v405.cell? ⟨w.heap.size + 1 + 1, 0, none⟩ = some (.int .i64 cn) := X409.out.cell 0
              have q418 : v405.cell? ⟨w.heap.size + 1 + 1, 1, none⟩ = some (.int .i64 cd) := X409.out.cell 1
              have q419 : v405.cell? ⟨v50.heap.size, 0, none⟩ = some (.int .i64 un) := X410.out.cell 0
              have q420 : v405.cell? ⟨v50.heap.size, 1, none⟩ = some (.int .i64 ud) := X410.out.cell 1
              have fz421 : ∀ o, v405.frozen? ⟨v50.heap.size, o, none⟩ = false := fun o => X410.out.free o
              have q422 : v405.cell? ⟨v79.heap.size, 0, none⟩ = some (.int .i64 vn) := X411.out.cell 0
              have q423 : v405.cell? ⟨v79.heap.size, 1, none⟩ = some (.int .i64 vd) := X411.out.cell 1
              have fz424 : ∀ o, v405.frozen? ⟨v79.heap.size, o, none⟩ = false := fun o => X411.out.free o
              go_wp2_with fail
              go_ret
              exact ⟨ret_bool (by simp), B412.out⟩

end Go.Proofs.Ytmmfmanjajefcaa

/- Layer 3: sorts, sizes, and the law on checks. -/
import Derived.Test.YtikfiallhmhicaaGreatD1
import Derived.Test.YtikfiallhmhicaaGreatD3
import Derived.Test.YtikfiallhmhicaaGreatI1
set_option linter.all false
namespace Go.Proofs.YtikfiallhmhicaaGreat
open Go.RowKit


def sortB (id a b c d : Int) : Bool := decide (1 ≤ id) && spB a b 255 && spB c d 4095
set_option maxRecDepth 100000 in
set_option maxHeartbeats 8000000 in
theorem ValidSort_c (id a b c d : Int) (w : World) : Calls Tryz.prog 8 #[.agg #[.int .i64 id, .int .i64 a, .int .i64 b, .int .i64 c, .int .i64 d]] w fun e w' => e = .returned (.bool (sortB id a b c d)) ∧ Below w.heap.size w w' := by
  have HS := Lib.hid (show sortB id a b c d = (decide (1 ≤ id) && spB a b 255 && spB c d 4095) from rfl)
  by_cases h1 : 1 ≤ id; rotate_left
  · have d1 : decide (1 ≤ id) = false := decide_eq_false h1
    have HR := Lib.hid (show sortB id a b c d = false by rw [HS.out, d1]; rfl)
    clear h1
    go_enter Tryz.func8, Tryz.ntmps8
    go_wp2_with fail
    obtain ⟨W1, hW2⟩ : ∃ Wzz, (w.alloc (.cells #[.int .i64 id, .int .i64 a, .int .i64 b, .int .i64 c, .int .i64 d] 25)) = Wzz := ⟨_, rfl⟩
    have B3 := Lib.hid (show Below w.heap.size w W1 by rw [← hW2]; exact ((Below.refl w.heap.size w).alloc (Nat.le_refl _) _))
    have X4 := Lib.hid (show Box W1 (w.heap.size) 25 #[.int .i64 id, .int .i64 a, .int .i64 b, .int .i64 c, .int .i64 d] by rw [← hW2]; exact Box.made w 25 #[.int .i64 id, .int .i64 a, .int .i64 b, .int .i64 c, .int .i64 d])
    have SZ5 := Lib.hid (show W1.heap.size = w.heap.size + 1 by rw [← hW2]; simp)
    rw [hW2]
    clear hW2
    have q6 : W1.cell? ⟨w.heap.size, 0, none⟩ = some (.int .i64 id) := X4.out.cell 0
    have q7 : W1.cell? ⟨w.heap.size, 1, none⟩ = some (.int .i64 a) := X4.out.cell 1
    have q8 : W1.cell? ⟨w.heap.size, 2, none⟩ = some (.int .i64 b) := X4.out.cell 2
    have q9 : W1.cell? ⟨w.heap.size, 3, none⟩ = some (.int .i64 c) := X4.out.cell 3
    have q10 : W1.cell? ⟨w.heap.size, 4, none⟩ = some (.int .i64 d) := X4.out.cell 4
    try go_wp2_with fail
    go_ret
    exact ⟨ret_bool HR.out.symm, B3.out⟩
  have d1 : decide (1 ≤ id) = true := decide_eq_true h1
  clear h1
  go_enter Tryz.func8, Tryz.ntmps8
  go_wp2_with fail
  obtain ⟨W11, hW12⟩ : ∃ Wzz, (w.alloc (.cells #[.int .i64 id, .int .i64 a, .int .i64 b, .int .i64 c, .int .i64 d] 25)) = Wzz := ⟨_, rfl⟩
  have B13 := Lib.hid (show Below w.heap.size w W11 by rw [← hW12]; exact ((Below.refl w.heap.size w).alloc (Nat.le_refl _) _))
  have X14 := Lib.hid (show Box W11 (w.heap.size) 25 #[.int .i64 id, .int .i64 a, .int .i64 b, .int .i64 c, .int .i64 d] by rw [← hW12]; exact Box.made w 25 #[.int .i64 id, .int .i64 a, .int .i64 b, .int .i64 c, .int .i64 d])
  have SZ15 := Lib.hid (show W11.heap.size = w.heap.size + 1 by rw [← hW12]; simp)
  rw [hW12]
  clear hW12
  have q16 : W11.cell? ⟨w.heap.size, 0, none⟩ = some (.int .i64 id) := X14.out.cell 0
  have q17 : W11.cell? ⟨w.heap.size, 1, none⟩ = some (.int .i64 a) := X14.out.cell 1
  have q18 : W11.cell? ⟨w.heap.size, 2, none⟩ = some (.int .i64 b) := X14.out.cell 2
  have q19 : W11.cell? ⟨w.heap.size, 3, none⟩ = some (.int .i64 c) := X14.out.cell 3
  have q20 : W11.cell? ⟨w.heap.size, 4, none⟩ = some (.int .i64 d) := X14.out.cell 4
  go_wp2_with fail
  refine (isSpan_c a b 255 _).mono ?_; rintro e v21 ⟨rfl, hb22⟩
  have X23 := Lib.hid (X14.out.later hb22)
  have B24 := Lib.hid (B13.out.trans (hb22.mono B13.out.size))
  clear hb22
  clear q16 q17 q18 q19 q20
  have q25 : v21.cell? ⟨w.heap.size, 0, none⟩ = some (.int .i64 id) := X23.out.cell 0
  have q26 : v21.cell? ⟨w.heap.size, 1, none⟩ = some (.int .i64 a) := X23.out.cell 1
  have q27 : v21.cell? ⟨w.heap.size, 2, none⟩ = some (.int .i64 b) := X23.out.cell 2
  have q28 : v21.cell? ⟨w.heap.size, 3, none⟩ = some (.int .i64 c) := X23.out.cell 3
  have q29 : v21.cell? ⟨w.heap.size, 4, none⟩ = some (.int .i64 d) := X23.out.cell 4
  cases h2 : spB a b 255
  · have HR := Lib.hid (show sortB id a b c d = false by rw [HS.out, h2]; simp)
    clear h2
    go_wp2_with fail
    go_ret
    exact ⟨ret_bool HR.out.symm, B24.out⟩
  · have H2 := Lib.hid h2
    clear h2
    go_wp2_with fail
    refine (isSpan_c c d 4095 _).mono ?_; rintro e v30 ⟨rfl, hb31⟩
    have X32 := Lib.hid (X23.out.later hb31)
    have B33 := Lib.hid (B24.out.trans (hb31.mono B24.out.size))
    clear hb31
    clear q25 q26 q27 q28 q29
    have q34 : v30.cell? ⟨w.heap.size, 0, none⟩ = some (.int .i64 id) := X32.out.cell 0
    have q35 : v30.cell? ⟨w.heap.size, 1, none⟩ = some (.int .i64 a) := X32.out.cell 1
    have q36 : v30.cell? ⟨w.heap.size, 2, none⟩ = some (.int .i64 b) := X32.out.cell 2
    have q37 : v30.cell? ⟨w.heap.size, 3, none⟩ = some (.int .i64 c) := X32.out.cell 3
    have q38 : v30.cell? ⟨w.heap.size, 4, none⟩ = some (.int .i64 d) := X32.out.cell 4
    have HR := Lib.hid (show sortB id a b c d = spB c d 4095 by rw [HS.out, H2.out, d1]; rfl)
    obtain ⟨z, hz⟩ : ∃ z, spB c d 4095 = z := ⟨_, rfl⟩
    rw [hz] at HR ⊢
    clear hz
    go_wp2_with fail
    go_ret
    exact ⟨ret_bool HR.out.symm, B33.out⟩

set_option maxRecDepth 100000 in
set_option maxHeartbeats 8000000 in
theorem rSizes_c (a b : Int) (w : World) : Calls Tryz.prog 31 #[.agg #[.int .i64 a, .int .i64 b]] w fun e w' => e = .returned (.bool (spB a b 4095)) ∧ Below w.heap.size w w' := by
  have HF := Lib.hid (fun (h : ¬ (1 ≤ a ∧ a ≤ b ∧ b ≤ 4095)) => show spB a b 4095 = false by
    cases hq : spB a b 4095
    · rfl
    · unfold spB at hq; rw [Bool.and_eq_true, Bool.and_eq_true, decide_eq_true_iff, decide_eq_true_iff, decide_eq_true_iff] at hq; exact absurd ⟨hq.1.1, hq.1.2, hq.2⟩ h)
  by_cases g0 : 1 ≤ a; rotate_left
  · have d0 : decide (1 ≤ a) = false := decide_eq_false g0
    have HR := Lib.hid (HF.out (by omega))
    clear g0
    go_enter Tryz.func31, Tryz.ntmps31
    go_wp2_with fail
    obtain ⟨W39, hW40⟩ : ∃ Wzz, (w.alloc (.cells #[.int .i64 a, .int .i64 b] 23)) = Wzz := ⟨_, rfl⟩
    have B41 := Lib.hid (show Below w.heap.size w W39 by rw [← hW40]; exact ((Below.refl w.heap.size w).alloc (Nat.le_refl _) _))
    have X42 := Lib.hid (show Box W39 (w.heap.size) 23 #[.int .i64 a, .int .i64 b] by rw [← hW40]; exact Box.made w 23 #[.int .i64 a, .int .i64 b])
    have SZ43 := Lib.hid (show W39.heap.size = w.heap.size + 1 by rw [← hW40]; simp)
    rw [hW40]
    clear hW40
    have q44 : W39.cell? ⟨w.heap.size, 0, none⟩ = some (.int .i64 a) := X42.out.cell 0
    have q45 : W39.cell? ⟨w.heap.size, 1, none⟩ = some (.int .i64 b) := X42.out.cell 1
    try go_wp2_with fail
    go_ret
    exact ⟨ret_bool HR.out.symm, B41.out⟩
  have d0 : decide (1 ≤ a) = true := decide_eq_true g0
  by_cases g1 : a ≤ b; rotate_left
  · have d1 : decide (a ≤ b) = false := decide_eq_false g1
    have HR := Lib.hid (HF.out (by omega))
    clear g0 g1
    go_enter Tryz.func31, Tryz.ntmps31
    go_wp2_with fail
    obtain ⟨W46, hW47⟩ : ∃ Wzz, (w.alloc (.cells #[.int .i64 a, .int .i64 b] 23)) = Wzz := ⟨_, rfl⟩
    have B48 := Lib.hid (show Below w.heap.size w W46 by rw [← hW47]; exact ((Below.refl w.heap.size w).alloc (Nat.le_refl _) _))
    have X49 := Lib.hid (show Box W46 (w.heap.size) 23 #[.int .i64 a, .int .i64 b] by rw [← hW47]; exact Box.made w 23 #[.int .i64 a, .int .i64 b])
    have SZ50 := Lib.hid (show W46.heap.size = w.heap.size + 1 by rw [← hW47]; simp)
    rw [hW47]
    clear hW47
    have q51 : W46.cell? ⟨w.heap.size, 0, none⟩ = some (.int .i64 a) := X49.out.cell 0
    have q52 : W46.cell? ⟨w.heap.size, 1, none⟩ = some (.int .i64 b) := X49.out.cell 1
    try go_wp2_with fail
    go_ret
    exact ⟨ret_bool HR.out.symm, B48.out⟩
  have d1 : decide (a ≤ b) = true := decide_eq_true g1
  by_cases g2 : b ≤ 4095; rotate_left
  · have d2 : decide (b ≤ 4095) = false := decide_eq_false g2
    have HR := Lib.hid (HF.out (by omega))
    clear g0 g1 g2
    go_enter Tryz.func31, Tryz.ntmps31
    go_wp2_with fail
    obtain ⟨W53, hW54⟩ : ∃ Wzz, (w.alloc (.cells #[.int .i64 a, .int .i64 b] 23)) = Wzz := ⟨_, rfl⟩
    have B55 := Lib.hid (show Below w.heap.size w W53 by rw [← hW54]; exact ((Below.refl w.heap.size w).alloc (Nat.le_refl _) _))
    have X56 := Lib.hid (show Box W53 (w.heap.size) 23 #[.int .i64 a, .int .i64 b] by rw [← hW54]; exact Box.made w 23 #[.int .i64 a, .int .i64 b])
    have SZ57 := Lib.hid (show W53.heap.size = w.heap.size + 1 by rw [← hW54]; simp)
    rw [hW54]
    clear hW54
    have q58 : W53.cell? ⟨w.heap.size, 0, none⟩ = some (.int .i64 a) := X56.out.cell 0
    have q59 : W53.cell? ⟨w.heap.size, 1, none⟩ = some (.int .i64 b) := X56.out.cell 1
    try go_wp2_with fail
    go_ret
    exact ⟨ret_bool HR.out.symm, B55.out⟩
  have d2 : decide (b ≤ 4095) = true := decide_eq_true g2
  have HR := Lib.hid (show spB a b 4095 = true by unfold spB; rw [d0, d1, d2]; rfl)
  clear g0 g1 g2
  go_enter Tryz.func31, Tryz.ntmps31
  go_wp2_with fail
  obtain ⟨W60, hW61⟩ : ∃ Wzz, (w.alloc (.cells #[.int .i64 a, .int .i64 b] 23)) = Wzz := ⟨_, rfl⟩
  have B62 := Lib.hid (show Below w.heap.size w W60 by rw [← hW61]; exact ((Below.refl w.heap.size w).alloc (Nat.le_refl _) _))
  have X63 := Lib.hid (show Box W60 (w.heap.size) 23 #[.int .i64 a, .int .i64 b] by rw [← hW61]; exact Box.made w 23 #[.int .i64 a, .int .i64 b])
  have SZ64 := Lib.hid (show W60.heap.size = w.heap.size + 1 by rw [← hW61]; simp)
  rw [hW61]
  clear hW61
  have q65 : W60.cell? ⟨w.heap.size, 0, none⟩ = some (.int .i64 a) := X63.out.cell 0
  have q66 : W60.cell? ⟨w.heap.size, 1, none⟩ = some (.int .i64 b) := X63.out.cell 1
  try go_wp2_with fail
  go_ret
  exact ⟨ret_bool HR.out.symm, B62.out⟩

set_option maxRecDepth 100000 in
set_option maxHeartbeats 8000000 in
theorem rValidSort_c (id a b c d : Int) (w : World) : Calls Tryz.prog 9 #[.agg #[.int .i64 id, .int .i64 a, .int .i64 b, .int .i64 c, .int .i64 d]] w fun e w' => e = .returned (.bool (sortB id a b c d)) ∧ Below w.heap.size w w' := by
  have HF := Lib.hid (fun (h : ¬ (1 ≤ id ∧ 1 ≤ a ∧ a ≤ b ∧ b ≤ 255)) => show sortB id a b c d = false by
    cases hq : sortB id a b c d
    · rfl
    · unfold sortB spB at hq; simp only [Bool.and_eq_true, decide_eq_true_iff] at hq; exact absurd ⟨hq.1.1, hq.1.2.1.1, hq.1.2.1.2, hq.1.2.2⟩ h)
  by_cases g0 : 1 ≤ id; rotate_left
  · have d0 : decide (1 ≤ id) = false := decide_eq_false g0
    have HR := Lib.hid (HF.out (by omega))
    clear g0
    go_enter Tryz.func9, Tryz.ntmps9
    go_wp2_with fail
    obtain ⟨W67, hW68⟩ : ∃ Wzz, (w.alloc (.cells #[.int .i64 id, .int .i64 a, .int .i64 b, .int .i64 c, .int .i64 d] 25)) = Wzz := ⟨_, rfl⟩
    have B69 := Lib.hid (show Below w.heap.size w W67 by rw [← hW68]; exact ((Below.refl w.heap.size w).alloc (Nat.le_refl _) _))
    have X70 := Lib.hid (show Box W67 (w.heap.size) 25 #[.int .i64 id, .int .i64 a, .int .i64 b, .int .i64 c, .int .i64 d] by rw [← hW68]; exact Box.made w 25 #[.int .i64 id, .int .i64 a, .int .i64 b, .int .i64 c, .int .i64 d])
    have SZ71 := Lib.hid (show W67.heap.size = w.heap.size + 1 by rw [← hW68]; simp)
    rw [hW68]
    clear hW68
    have q72 : W67.cell? ⟨w.heap.size, 0, none⟩ = some (.int .i64 id) := X70.out.cell 0
    have q73 : W67.cell? ⟨w.heap.size, 1, none⟩ = some (.int .i64 a) := X70.out.cell 1
    have q74 : W67.cell? ⟨w.heap.size, 2, none⟩ = some (.int .i64 b) := X70.out.cell 2
    have q75 : W67.cell? ⟨w.heap.size, 3, none⟩ = some (.int .i64 c) := X70.out.cell 3
    have q76 : W67.cell? ⟨w.heap.size, 4, none⟩ = some (.int .i64 d) := X70.out.cell 4
    try go_wp2_with fail
    go_ret
    exact ⟨ret_bool HR.out.symm, B69.out⟩
  have d0 : decide (1 ≤ id) = true := decide_eq_true g0
  by_cases g1 : 1 ≤ a; rotate_left
  · have d1 : decide (1 ≤ a) = false := decide_eq_false g1
    have HR := Lib.hid (HF.out (by omega))
    clear g0 g1
    go_enter Tryz.func9, Tryz.ntmps9
    go_wp2_with fail
    obtain ⟨W77, hW78⟩ : ∃ Wzz, (w.alloc (.cells #[.int .i64 id, .int .i64 a, .int .i64 b, .int .i64 c, .int .i64 d] 25)) = Wzz := ⟨_, rfl⟩
    have B79 := Lib.hid (show Below w.heap.size w W77 by rw [← hW78]; exact ((Below.refl w.heap.size w).alloc (Nat.le_refl _) _))
    have X80 := Lib.hid (show Box W77 (w.heap.size) 25 #[.int .i64 id, .int .i64 a, .int .i64 b, .int .i64 c, .int .i64 d] by rw [← hW78]; exact Box.made w 25 #[.int .i64 id, .int .i64 a, .int .i64 b, .int .i64 c, .int .i64 d])
    have SZ81 := Lib.hid (show W77.heap.size = w.heap.size + 1 by rw [← hW78]; simp)
    rw [hW78]
    clear hW78
    have q82 : W77.cell? ⟨w.heap.size, 0, none⟩ = some (.int .i64 id) := X80.out.cell 0
    have q83 : W77.cell? ⟨w.heap.size, 1, none⟩ = some (.int .i64 a) := X80.out.cell 1
    have q84 : W77.cell? ⟨w.heap.size, 2, none⟩ = some (.int .i64 b) := X80.out.cell 2
    have q85 : W77.cell? ⟨w.heap.size, 3, none⟩ = some (.int .i64 c) := X80.out.cell 3
    have q86 : W77.cell? ⟨w.heap.size, 4, none⟩ = some (.int .i64 d) := X80.out.cell 4
    try go_wp2_with fail
    go_ret
    exact ⟨ret_bool HR.out.symm, B79.out⟩
  have d1 : decide (1 ≤ a) = true := decide_eq_true g1
  by_cases g2 : a ≤ b; rotate_left
  · have d2 : decide (a ≤ b) = false := decide_eq_false g2
    have HR := Lib.hid (HF.out (by omega))
    clear g0 g1 g2
    go_enter Tryz.func9, Tryz.ntmps9
    go_wp2_with fail
    obtain ⟨W87, hW88⟩ : ∃ Wzz, (w.alloc (.cells #[.int .i64 id, .int .i64 a, .int .i64 b, .int .i64 c, .int .i64 d] 25)) = Wzz := ⟨_, rfl⟩
    have B89 := Lib.hid (show Below w.heap.size w W87 by rw [← hW88]; exact ((Below.refl w.heap.size w).alloc (Nat.le_refl _) _))
    have X90 := Lib.hid (show Box W87 (w.heap.size) 25 #[.int .i64 id, .int .i64 a, .int .i64 b, .int .i64 c, .int .i64 d] by rw [← hW88]; exact Box.made w 25 #[.int .i64 id, .int .i64 a, .int .i64 b, .int .i64 c, .int .i64 d])
    have SZ91 := Lib.hid (show W87.heap.size = w.heap.size + 1 by rw [← hW88]; simp)
    rw [hW88]
    clear hW88
    have q92 : W87.cell? ⟨w.heap.size, 0, none⟩ = some (.int .i64 id) := X90.out.cell 0
    have q93 : W87.cell? ⟨w.heap.size, 1, none⟩ = some (.int .i64 a) := X90.out.cell 1
    have q94 : W87.cell? ⟨w.heap.size, 2, none⟩ = some (.int .i64 b) := X90.out.cell 2
    have q95 : W87.cell? ⟨w.heap.size, 3, none⟩ = some (.int .i64 c) := X90.out.cell 3
    have q96 : W87.cell? ⟨w.heap.size, 4, none⟩ = some (.int .i64 d) := X90.out.cell 4
    try go_wp2_with fail
    go_ret
    exact ⟨ret_bool HR.out.symm, B89.out⟩
  have d2 : decide (a ≤ b) = true := decide_eq_true g2
  by_cases g3 : b ≤ 255; rotate_left
  · have d3 : decide (b ≤ 255) = false := decide_eq_false g3
    have HR := Lib.hid (HF.out (by omega))
    clear g0 g1 g2 g3
    go_enter Tryz.func9, Tryz.ntmps9
    go_wp2_with fail
    obtain ⟨W97, hW98⟩ : ∃ Wzz, (w.alloc (.cells #[.int .i64 id, .int .i64 a, .int .i64 b, .int .i64 c, .int .i64 d] 25)) = Wzz := ⟨_, rfl⟩
    have B99 := Lib.hid (show Below w.heap.size w W97 by rw [← hW98]; exact ((Below.refl w.heap.size w).alloc (Nat.le_refl _) _))
    have X100 := Lib.hid (show Box W97 (w.heap.size) 25 #[.int .i64 id, .int .i64 a, .int .i64 b, .int .i64 c, .int .i64 d] by rw [← hW98]; exact Box.made w 25 #[.int .i64 id, .int .i64 a, .int .i64 b, .int .i64 c, .int .i64 d])
    have SZ101 := Lib.hid (show W97.heap.size = w.heap.size + 1 by rw [← hW98]; simp)
    rw [hW98]
    clear hW98
    have q102 : W97.cell? ⟨w.heap.size, 0, none⟩ = some (.int .i64 id) := X100.out.cell 0
    have q103 : W97.cell? ⟨w.heap.size, 1, none⟩ = some (.int .i64 a) := X100.out.cell 1
    have q104 : W97.cell? ⟨w.heap.size, 2, none⟩ = some (.int .i64 b) := X100.out.cell 2
    have q105 : W97.cell? ⟨w.heap.size, 3, none⟩ = some (.int .i64 c) := X100.out.cell 3
    have q106 : W97.cell? ⟨w.heap.size, 4, none⟩ = some (.int .i64 d) := X100.out.cell 4
    try go_wp2_with fail
    go_ret
    exact ⟨ret_bool HR.out.symm, B99.out⟩
  have d3 : decide (b ≤ 255) = true := decide_eq_true g3
  have HR := Lib.hid (show sortB id a b c d = spB c d 4095 by unfold sortB; rw [show spB a b 255 = true by unfold spB; rw [d1, d2, d3]; rfl, d0]; rfl)
  clear g0 g1 g2 g3
  go_enter Tryz.func9, Tryz.ntmps9
  go_wp2_with fail
  obtain ⟨W107, hW108⟩ : ∃ Wzz, (w.alloc (.cells #[.int .i64 id, .int .i64 a, .int .i64 b, .int .i64 c, .int .i64 d] 25)) = Wzz := ⟨_, rfl⟩
  have B109 := Lib.hid (show Below w.heap.size w W107 by rw [← hW108]; exact ((Below.refl w.heap.size w).alloc (Nat.le_refl _) _))
  have X110 := Lib.hid (show Box W107 (w.heap.size) 25 #[.int .i64 id, .int .i64 a, .int .i64 b, .int .i64 c, .int .i64 d] by rw [← hW108]; exact Box.made w 25 #[.int .i64 id, .int .i64 a, .int .i64 b, .int .i64 c, .int .i64 d])
  have SZ111 := Lib.hid (show W107.heap.size = w.heap.size + 1 by rw [← hW108]; simp)
  rw [hW108]
  clear hW108
  have q112 : W107.cell? ⟨w.heap.size, 0, none⟩ = some (.int .i64 id) := X110.out.cell 0
  have q113 : W107.cell? ⟨w.heap.size, 1, none⟩ = some (.int .i64 a) := X110.out.cell 1
  have q114 : W107.cell? ⟨w.heap.size, 2, none⟩ = some (.int .i64 b) := X110.out.cell 2
  have q115 : W107.cell? ⟨w.heap.size, 3, none⟩ = some (.int .i64 c) := X110.out.cell 3
  have q116 : W107.cell? ⟨w.heap.size, 4, none⟩ = some (.int .i64 d) := X110.out.cell 4
  go_wp2_with fail
  refine (rSizes_c c d _).mono ?_; rintro e v117 ⟨rfl, hb118⟩
  have X119 := Lib.hid (X110.out.later hb118)
  have B120 := Lib.hid (B109.out.trans (hb118.mono B109.out.size))
  clear hb118
  clear q112 q113 q114 q115 q116
  have q121 : v117.cell? ⟨w.heap.size, 0, none⟩ = some (.int .i64 id) := X119.out.cell 0
  have q122 : v117.cell? ⟨w.heap.size, 1, none⟩ = some (.int .i64 a) := X119.out.cell 1
  have q123 : v117.cell? ⟨w.heap.size, 2, none⟩ = some (.int .i64 b) := X119.out.cell 2
  have q124 : v117.cell? ⟨w.heap.size, 3, none⟩ = some (.int .i64 c) := X119.out.cell 3
  have q125 : v117.cell? ⟨w.heap.size, 4, none⟩ = some (.int .i64 d) := X119.out.cell 4
  obtain ⟨z, hz⟩ : ∃ z, spB c d 4095 = z := ⟨_, rfl⟩
  rw [hz] at HR ⊢
  clear hz
  go_wp2_with fail
  go_ret
  exact ⟨ret_bool HR.out.symm, B120.out⟩

set_option maxRecDepth 100000 in
set_option maxHeartbeats 8000000 in
theorem rhalved_c (s t : Int) (w : World) (h : szOk s t = true) : Calls Tryz.prog 29 #[.int .i64 s, .int .i64 t] w fun e w' => e = .returned (.int .i64 (hvN t.toNat s)) ∧ w = w' := by
  obtain ⟨⟨s1, s2⟩, t1, t2⟩ := szOk_iff.1 h
  obtain ⟨T, rfl⟩ : ∃ T : Nat, t = (T : Int) := ⟨t.toNat, by omega⟩
  clear h
  rw [Int.toNat_natCast]
  have HT := Lib.hid (show T ≤ 70000 by omega)
  have HS := Lib.hid (And.intro s1 s2)
  clear s1 s2 t1 t2
  go_enter Tryz.func29, Tryz.ntmps29
  go_wp2_with fail
  go_loopw [0, 5] (fun sv iv wr => ∃ (k : Nat) (x : Int), k ≤ T ∧ sv = .int .i64 x ∧ iv = .int .i64 (k : Int) ∧ 1 ≤ x ∧ x ≤ 4095 ∧ hvN (T - k) x = hvN T s ∧ w = wr) (fun _ iv _ => T - (intOf iv).toNat)
  case atStart => exact ⟨0, s, Nat.zero_le _, rfl, rfl, HS.out.1, HS.out.2, rfl, rfl⟩
  case round =>
    obtain ⟨k, x, hk, rfl, rfl, x1, x2, hx, rfl⟩ := hrel
    have HK := Lib.hid hk
    have HX := Lib.hid hx
    have K2 : k ≤ 70000 := by have := HT.out; omega
    clear hk hx
    by_cases hk0 : k < T
    · have d0 : decide ((k : Int) < (T : Int)) = true := by simpa using hk0
      have HK0 := Lib.hid hk0
      have HTK := Lib.hid (show T - k = T - (k + 1) + 1 by omega)
      clear hk0
      by_cases hx1 : 1 < x
      · have d1 : decide (1 < x) = true := by simpa using hx1
        have w1 : IntKind.i64.wrap (x + 1) = x + 1 := wrap_id (by omega) (by omega)
        have HN := Lib.hid (show hvN (T - (k + 1)) ((x + 1) / 2) = hvN T s by rw [← HX.out, HTK.out, hvN_up, if_pos hx1])
        have HQ := Lib.hid (show 1 ≤ (x + 1) / 2 ∧ (x + 1) / 2 ≤ 4095 by omega)
        go_wp2_with fail
        go_roundw
        case rel => exact ⟨k + 1, (x + 1) / 2, by have := HK0.out; omega, by go_num, by go_num, HQ.out.1, HQ.out.2, HN.out, by first | trivial | rfl⟩
        case measure => have := HK0.out; simp [intOf]; omega
      · have d1 : decide (1 < x) = false := by simpa using hx1
        have HN := Lib.hid (show x = hvN T s by rw [← HX.out, HTK.out, hvN_up, if_neg hx1])
        go_wp2_with fail
        go_ret
        first | exact ⟨ret_int HN.out, rfl⟩ | exact ⟨ret_int HN.out, trivial⟩
    · obtain rfl : k = T := by have := HK.out; omega
      have d0 : decide ((k : Int) < (k : Int)) = false := by simp
      have HN := Lib.hid (show x = hvN k s by rw [← HX.out, Nat.sub_self]; rfl)
      clear hk0
      go_wp2_with fail
      go_ret
      first | exact ⟨ret_int HN.out, rfl⟩ | exact ⟨ret_int HN.out, trivial⟩

set_option maxRecDepth 100000 in
set_option maxHeartbeats 8000000 in
theorem rHalved_c (s t : Int) (w : World) : Calls Tryz.prog 7 #[.int .i64 s, .int .i64 t] w fun e w' => e = .returned (.tuple #[.int .i64 (hvV s t), .int .i64 (hvE s t)]) ∧ Below w.heap.size w w' := by
  cases h1 : inB s 1 4095
  · have HV := Lib.hid (show hvV s t = 0 ∧ hvE s t = 1 by unfold hvV hvE szOk; rw [h1]; exact ⟨rfl, rfl⟩)
    have H1 := Lib.hid h1
    clear h1
    rw [HV.out.1, HV.out.2]
    go_enter Tryz.func7, Tryz.ntmps7
    go_wp2_with fail
    refine (rwithin_b s 1 4095 false H1.out w).mono ?_; rintro e w1 ⟨rfl, rfl⟩
    go_wp2_with fail
    go_ret2
    exact ⟨rfl, Below.refl _ _⟩
  have H1 := Lib.hid h1
  cases h2 : inB t 0 70000
  · have HV := Lib.hid (show hvV s t = 0 ∧ hvE s t = 1 by unfold hvV hvE szOk; rw [h1, h2]; exact ⟨rfl, rfl⟩)
    have H2 := Lib.hid h2
    rw [HV.out.1, HV.out.2]
    clear h1 h2
    go_enter Tryz.func7, Tryz.ntmps7
    go_wp2_with fail
    refine (rwithin_b s 1 4095 true H1.out w).mono ?_; rintro e w1 ⟨rfl, rfl⟩
    go_wp2_with fail
    refine (rwithin_b t 0 70000 false H2.out w).mono ?_; rintro e w1 ⟨rfl, rfl⟩
    go_wp2_with fail
    go_ret2
    exact ⟨rfl, Below.refl _ _⟩
  · have HZ := Lib.hid (show szOk s t = true by unfold szOk; rw [h1, h2]; rfl)
    have HV := Lib.hid (show hvV s t = hvN t.toNat s ∧ hvE s t = 0 by unfold hvV hvE; rw [HZ.out]; exact ⟨rfl, rfl⟩)
    have H2 := Lib.hid h2
    rw [HV.out.1, HV.out.2]
    clear h1 h2
    go_enter Tryz.func7, Tryz.ntmps7
    go_wp2_with fail
    refine (rwithin_b s 1 4095 true H1.out w).mono ?_; rintro e w1 ⟨rfl, rfl⟩
    go_wp2_with fail
    refine (rwithin_b t 0 70000 true H2.out w).mono ?_; rintro e w1 ⟨rfl, rfl⟩
    go_wp2_with fail
    refine (rhalved_c s t w HZ.out).mono ?_; rintro e w2 ⟨rfl, rfl⟩
    go_wp2_with fail
    go_ret2
    exact ⟨rfl, Below.refl _ _⟩

set_option maxRecDepth 100000 in
set_option maxHeartbeats 8000000 in
theorem GrainChecks_c (id a b c d : Int) (m : Ml) (lg : List Int) (fh fd fk size times : Int) (vm vl : Value) (w : World) (hm : IsMill w w.heap.size vm m) (hl : Ints w w.heap.size vl lg) : Calls Tryz.prog 3 #[.agg #[.int .i64 id, .int .i64 a, .int .i64 b, .int .i64 c, .int .i64 d], vm, vl, feedV fh fd fk, .int .i64 size, .int .i64 times] w fun e w' => e = .returned (.bool true) ∧ Below w.heap.size w w' := by
  obtain ⟨s0, r0, d0, g0, hmv, -, -, i3, i4⟩ := _root_.id hm
  subst hmv
  obtain ⟨-, DA, dc, rfl, -, -⟩ := i3
  obtain ⟨-, GA, gc, rfl, -, -⟩ := i4
  have HL0 := Lib.hid hl
  obtain ⟨-, LA, lc, rfl, -, -⟩ := hl
  have HM0 := Lib.hid hm
  clear hm
  unfold millV at *
  obtain ⟨dn, hdn⟩ : ∃ n, m.pr.drive.length = n := ⟨_, rfl⟩
  obtain ⟨gn, hgn⟩ : ∃ n, m.gap.length = n := ⟨_, rfl⟩
  obtain ⟨ln, hln⟩ : ∃ n, lg.length = n := ⟨_, rfl⟩
  rw [hdn, hgn] at HM0 ⊢
  rw [hln] at HL0 ⊢
  clear hdn hgn hln
  go_enter Tryz.func3, Tryz.ntmps3
  go_wp2_with fail
  obtain ⟨W126, hW127⟩ : ∃ Wzz, (((w.alloc (.cells #[.int .i64 id, .int .i64 a, .int .i64 b, .int .i64 c, .int .i64 d] 25)).alloc (.cells #[.int .i64 m.pr.bed.eye, .int .i64 m.pr.bed.rings, .int .i64 m.pr.bed.sectors, s0, .int .i64 m.pr.run.eye, .int .i64 m.pr.run.rings, .int .i64 m.pr.run.sectors, r0, .slice DA dn dc, .slice GA gn gc] 33)).alloc (.cells #[.int .i64 fh, .int .i64 fd, .int .i64 fk] 35)) = Wzz := ⟨_, rfl⟩
  have B128 := Lib.hid (show Below w.heap.size w W126 by rw [← hW127]; exact ((((Below.refl w.heap.size w).alloc (Nat.le_refl _) _).alloc (by first | (simp; done) | (simp; omega)) _).alloc (by first | (simp; done) | (simp; omega)) _))
  have X129 := Lib.hid (show Box W126 (w.heap.size) 25 #[.int .i64 id, .int .i64 a, .int .i64 b, .int .i64 c, .int .i64 d] by rw [← hW127]; exact Box.alloc (Box.alloc (Box.made w 25 #[.int .i64 id, .int .i64 a, .int .i64 b, .int .i64 c, .int .i64 d]) (.cells #[.int .i64 m.pr.bed.eye, .int .i64 m.pr.bed.rings, .int .i64 m.pr.bed.sectors, s0, .int .i64 m.pr.run.eye, .int .i64 m.pr.run.rings, .int .i64 m.pr.run.sectors, r0, .slice DA dn dc, .slice GA gn gc] 33)) (.cells #[.int .i64 fh, .int .i64 fd, .int .i64 fk] 35))
  have X130 := Lib.hid (show Box W126 (w.heap.size + 1) 33 #[.int .i64 m.pr.bed.eye, .int .i64 m.pr.bed.rings, .int .i64 m.pr.bed.sectors, s0, .int .i64 m.pr.run.eye, .int .i64 m.pr.run.rings, .int .i64 m.pr.run.sectors, r0, .slice DA dn dc, .slice GA gn gc] by
    have hz := Box.alloc (Box.made (w.alloc (.cells #[.int .i64 id, .int .i64 a, .int .i64 b, .int .i64 c, .int .i64 d] 25)) 33 #[.int .i64 m.pr.bed.eye, .int .i64 m.pr.bed.rings, .int .i64 m.pr.bed.sectors, s0, .int .i64 m.pr.run.eye, .int .i64 m.pr.run.rings, .int .i64 m.pr.run.sectors, r0, .slice DA dn dc, .slice GA gn gc]) (.cells #[.int .i64 fh, .int .i64 fd, .int .i64 fk] 35)
    rw [World.size_alloc] at hz
    rw [← hW127]; exact hz)
  have X131 := Lib.hid (show Box W126 (w.heap.size + 1 + 1) 35 #[.int .i64 fh, .int .i64 fd, .int .i64 fk] by
    have hz := Box.made ((w.alloc (.cells #[.int .i64 id, .int .i64 a, .int .i64 b, .int .i64 c, .int .i64 d] 25)).alloc (.cells #[.int .i64 m.pr.bed.eye, .int .i64 m.pr.bed.rings, .int .i64 m.pr.bed.sectors, s0, .int .i64 m.pr.run.eye, .int .i64 m.pr.run.rings, .int .i64 m.pr.run.sectors, r0, .slice DA dn dc, .slice GA gn gc] 33)) 35 #[.int .i64 fh, .int .i64 fd, .int .i64 fk]
    rw [World.size_alloc, World.size_alloc] at hz
    rw [← hW127]; exact hz)
  have C132 := Lib.hid (HM0.out.later B128.out)
  have C133 := Lib.hid (HL0.out.later B128.out)
  have SZ134 := Lib.hid (show W126.heap.size = w.heap.size + 1 + 1 + 1 by rw [← hW127]; simp)
  rw [hW127]
  clear hW127
  have q135 : W126.cell? ⟨w.heap.size, 0, none⟩ = some (.int .i64 id) := X129.out.cell 0
  have q136 : W126.cell? ⟨w.heap.size, 1, none⟩ = some (.int .i64 a) := X129.out.cell 1
  have q137 : W126.cell? ⟨w.heap.size, 2, none⟩ = some (.int .i64 b) := X129.out.cell 2
  have q138 : W126.cell? ⟨w.heap.size, 3, none⟩ = some (.int .i64 c) := X129.out.cell 3
  have q139 : W126.cell? ⟨w.heap.size, 4, none⟩ = some (.int .i64 d) := X129.out.cell 4
  have q140 : W126.cell? ⟨w.heap.size + 1, 0, none⟩ = some (.int .i64 m.pr.bed.eye) := X130.out.cell 0
  have q141 : W126.cell? ⟨w.heap.size + 1, 1, none⟩ = some (.int .i64 m.pr.bed.rings) := X130.out.cell 1
  have q142 : W126.cell? ⟨w.heap.size + 1, 2, none⟩ = some (.int .i64 m.pr.bed.sectors) := X130.out.cell 2
  have q143 : W126.cell? ⟨w.heap.size + 1, 3, none⟩ = some (s0) := X130.out.cell 3
  have q144 : W126.cell? ⟨w.heap.size + 1, 4, none⟩ = some (.int .i64 m.pr.run.eye) := X130.out.cell 4
  have q145 : W126.cell? ⟨w.heap.size + 1, 5, none⟩ = some (.int .i64 m.pr.run.rings) := X130.out.cell 5
  have q146 : W126.cell? ⟨w.heap.size + 1, 6, none⟩ = some (.int .i64 m.pr.run.sectors) := X130.out.cell 6
  have q147 : W126.cell? ⟨w.heap.size + 1, 7, none⟩ = some (r0) := X130.out.cell 7
  have q148 : W126.cell? ⟨w.heap.size + 1, 8, none⟩ = some (.slice DA dn dc) := X130.out.cell 8
  have q149 : W126.cell? ⟨w.heap.size + 1, 9, none⟩ = some (.slice GA gn gc) := X130.out.cell 9
  have q150 : W126.cell? ⟨w.heap.size + 1 + 1, 0, none⟩ = some (.int .i64 fh) := X131.out.cell 0
  have q151 : W126.cell? ⟨w.heap.size + 1 + 1, 1, none⟩ = some (.int .i64 fd) := X131.out.cell 1
  have q152 : W126.cell? ⟨w.heap.size + 1 + 1, 2, none⟩ = some (.int .i64 fk) := X131.out.cell 2
  go_wp2_with fail
  refine (awake_c _).mono ?_; rintro e v153 ⟨rfl, hb154⟩
  have X155 := Lib.hid (X129.out.later hb154)
  have X156 := Lib.hid (X130.out.later hb154)
  have X157 := Lib.hid (X131.out.later hb154)
  have C158 := Lib.hid (C132.out.later hb154)
  have C159 := Lib.hid (C133.out.later hb154)
  have B160 := Lib.hid (B128.out.trans (hb154.mono B128.out.size))
  clear hb154
  clear q135 q136 q137 q138 q139 q140 q141 q142 q143 q144 q145 q146 q147 q148 q149 q150 q151 q152
  have q161 : v153.cell? ⟨w.heap.size, 0, none⟩ = some (.int .i64 id) := X155.out.cell 0
  have q162 : v153.cell? ⟨w.heap.size, 1, none⟩ = some (.int .i64 a) := X155.out.cell 1
  have q163 : v153.cell? ⟨w.heap.size, 2, none⟩ = some (.int .i64 b) := X155.out.cell 2
  have q164 : v153.cell? ⟨w.heap.size, 3, none⟩ = some (.int .i64 c) := X155.out.cell 3
  have q165 : v153.cell? ⟨w.heap.size, 4, none⟩ = some (.int .i64 d) := X155.out.cell 4
  have q166 : v153.cell? ⟨w.heap.size + 1, 0, none⟩ = some (.int .i64 m.pr.bed.eye) := X156.out.cell 0
  have q167 : v153.cell? ⟨w.heap.size + 1, 1, none⟩ = some (.int .i64 m.pr.bed.rings) := X156.out.cell 1
  have q168 : v153.cell? ⟨w.heap.size + 1, 2, none⟩ = some (.int .i64 m.pr.bed.sectors) := X156.out.cell 2
  have q169 : v153.cell? ⟨w.heap.size + 1, 3, none⟩ = some (s0) := X156.out.cell 3
  have q170 : v153.cell? ⟨w.heap.size + 1, 4, none⟩ = some (.int .i64 m.pr.run.eye) := X156.out.cell 4
  have q171 : v153.cell? ⟨w.heap.size + 1, 5, none⟩ = some (.int .i64 m.pr.run.rings) := X156.out.cell 5
  have q172 : v153.cell? ⟨w.heap.size + 1, 6, none⟩ = some (.int .i64 m.pr.run.sectors) := X156.out.cell 6
  have q173 : v153.cell? ⟨w.heap.size + 1, 7, none⟩ = some (r0) := X156.out.cell 7
  have q174 : v153.cell? ⟨w.heap.size + 1, 8, none⟩ = some (.slice DA dn dc) := X156.out.cell 8
  have q175 : v153.cell? ⟨w.heap.size + 1, 9, none⟩ = some (.slice GA gn gc) := X156.out.cell 9
  have q176 : v153.cell? ⟨w.heap.size + 1 + 1, 0, none⟩ = some (.int .i64 fh) := X157.out.cell 0
  have q177 : v153.cell? ⟨w.heap.size + 1 + 1, 1, none⟩ = some (.int .i64 fd) := X157.out.cell 1
  have q178 : v153.cell? ⟨w.heap.size + 1 + 1, 2, none⟩ = some (.int .i64 fk) := X157.out.cell 2
  by_cases c1 : 100 < ln
  · have d1 : decide ((100 : Int) < (ln : Int)) = true := by simp; omega
    have d1' : decide (100 < ln) = true := by simp; omega
    clear c1
    go_wp2_with fail
    go_ret
    exact ⟨rfl, B160.out⟩
  · have d1 : decide ((100 : Int) < (ln : Int)) = false := by simp; omega
    have d1' : decide (100 < ln) = false := by simp; omega
    clear c1
    by_cases c2 : 3000 < gn
    · have d2 : decide ((3000 : Int) < (gn : Int)) = true := by simp; omega
      have d2' : decide (3000 < gn) = true := by simp; omega
      clear c2
      go_wp2_with fail
      go_ret
      exact ⟨rfl, B160.out⟩
    · have d2 : decide ((3000 : Int) < (gn : Int)) = false := by simp; omega
      have d2' : decide (3000 < gn) = false := by simp; omega
      clear c2
      by_cases c3 : 20 < dn
      · have d3 : decide ((20 : Int) < (dn : Int)) = true := by simp; omega
        have d3' : decide (20 < dn) = true := by simp; omega
        clear c3
        go_wp2_with fail
        go_ret
        exact ⟨rfl, B160.out⟩
      · have d3 : decide ((20 : Int) < (dn : Int)) = false := by simp; omega
        have d3' : decide (20 < dn) = false := by simp; omega
        clear c3
        obtain ⟨V, hv9⟩ : ∃ X9, hvV size times = X9 := ⟨_, rfl⟩
        have HV := Lib.hid hv9
        clear hv9
        obtain ⟨E, he9⟩ : ∃ X9, hvE size times = X9 := ⟨_, rfl⟩
        have HE := Lib.hid he9
        clear he9
        obtain ⟨SB, hsb9⟩ : ∃ X9, sortB id a b c d = X9 := ⟨_, rfl⟩
        have HSB := Lib.hid hsb9
        clear hsb9
        obtain ⟨CM, hcm9⟩ : ∃ X9, ckM m = X9 := ⟨_, rfl⟩
        have HCM := Lib.hid hcm9
        clear hcm9
        obtain ⟨GB, hgb9⟩ : ∃ X9, gradesB lg = X9 := ⟨_, rfl⟩
        have HGB := Lib.hid hgb9
        clear hgb9
        obtain ⟨FB, hfb9⟩ : ∃ X9, feedB fh fd fk = X9 := ⟨_, rfl⟩
        have HFB := Lib.hid hfb9
        clear hfb9
        go_wp2_with fail
        refine (Halved_c size times _).mono ?_; rintro e v179 ⟨rfl, hb180⟩
        have X181 := Lib.hid (X155.out.later hb180)
        have X182 := Lib.hid (X156.out.later hb180)
        have X183 := Lib.hid (X157.out.later hb180)
        have C184 := Lib.hid (C158.out.later hb180)
        have C185 := Lib.hid (C159.out.later hb180)
        have B186 := Lib.hid (B160.out.trans (hb180.mono B160.out.size))
        clear hb180
        rw [HV.out, HE.out]
        clear q161 q162 q163 q164 q165 q166 q167 q168 q169 q170 q171 q172 q173 q174 q175 q176 q177 q178
        have q187 : v179.cell? ⟨w.heap.size, 0, none⟩ = some (.int .i64 id) := X181.out.cell 0
        have q188 : v179.cell? ⟨w.heap.size, 1, none⟩ = some (.int .i64 a) := X181.out.cell 1
        have q189 : v179.cell? ⟨w.heap.size, 2, none⟩ = some (.int .i64 b) := X181.out.cell 2
        have q190 : v179.cell? ⟨w.heap.size, 3, none⟩ = some (.int .i64 c) := X181.out.cell 3
        have q191 : v179.cell? ⟨w.heap.size, 4, none⟩ = some (.int .i64 d) := X181.out.cell 4
        have q192 : v179.cell? ⟨w.heap.size + 1, 0, none⟩ = some (.int .i64 m.pr.bed.eye) := X182.out.cell 0
        have q193 : v179.cell? ⟨w.heap.size + 1, 1, none⟩ = some (.int .i64 m.pr.bed.rings) := X182.out.cell 1
        have q194 : v179.cell? ⟨w.heap.size + 1, 2, none⟩ = some (.int .i64 m.pr.bed.sectors) := X182.out.cell 2
        have q195 : v179.cell? ⟨w.heap.size + 1, 3, none⟩ = some (s0) := X182.out.cell 3
        have q196 : v179.cell? ⟨w.heap.size + 1, 4, none⟩ = some (.int .i64 m.pr.run.eye) := X182.out.cell 4
        have q197 : v179.cell? ⟨w.heap.size + 1, 5, none⟩ = some (.int .i64 m.pr.run.rings) := X182.out.cell 5
        have q198 : v179.cell? ⟨w.heap.size + 1, 6, none⟩ = some (.int .i64 m.pr.run.sectors) := X182.out.cell 6
        have q199 : v179.cell? ⟨w.heap.size + 1, 7, none⟩ = some (r0) := X182.out.cell 7
        have q200 : v179.cell? ⟨w.heap.size + 1, 8, none⟩ = some (.slice DA dn dc) := X182.out.cell 8
        have q201 : v179.cell? ⟨w.heap.size + 1, 9, none⟩ = some (.slice GA gn gc) := X182.out.cell 9
        have q202 : v179.cell? ⟨w.heap.size + 1 + 1, 0, none⟩ = some (.int .i64 fh) := X183.out.cell 0
        have q203 : v179.cell? ⟨w.heap.size + 1 + 1, 1, none⟩ = some (.int .i64 fd) := X183.out.cell 1
        have q204 : v179.cell? ⟨w.heap.size + 1 + 1, 2, none⟩ = some (.int .i64 fk) := X183.out.cell 2
        go_wp2_with fail
        refine (rHalved_c size times _).mono ?_; rintro e v205 ⟨rfl, hb206⟩
        have X207 := Lib.hid (X181.out.later hb206)
        have X208 := Lib.hid (X182.out.later hb206)
        have X209 := Lib.hid (X183.out.later hb206)
        have C210 := Lib.hid (C184.out.later hb206)
        have C211 := Lib.hid (C185.out.later hb206)
        have B212 := Lib.hid (B186.out.trans (hb206.mono B186.out.size))
        clear hb206
        rw [HV.out, HE.out]
        clear q187 q188 q189 q190 q191 q192 q193 q194 q195 q196 q197 q198 q199 q200 q201 q202 q203 q204
        have q213 : v205.cell? ⟨w.heap.size, 0, none⟩ = some (.int .i64 id) := X207.out.cell 0
        have q214 : v205.cell? ⟨w.heap.size, 1, none⟩ = some (.int .i64 a) := X207.out.cell 1
        have q215 : v205.cell? ⟨w.heap.size, 2, none⟩ = some (.int .i64 b) := X207.out.cell 2
        have q216 : v205.cell? ⟨w.heap.size, 3, none⟩ = some (.int .i64 c) := X207.out.cell 3
        have q217 : v205.cell? ⟨w.heap.size, 4, none⟩ = some (.int .i64 d) := X207.out.cell 4
        have q218 : v205.cell? ⟨w.heap.size + 1, 0, none⟩ = some (.int .i64 m.pr.bed.eye) := X208.out.cell 0
        have q219 : v205.cell? ⟨w.heap.size + 1, 1, none⟩ = some (.int .i64 m.pr.bed.rings) := X208.out.cell 1
        have q220 : v205.cell? ⟨w.heap.size + 1, 2, none⟩ = some (.int .i64 m.pr.bed.sectors) := X208.out.cell 2
        have q221 : v205.cell? ⟨w.heap.size + 1, 3, none⟩ = some (s0) := X208.out.cell 3
        have q222 : v205.cell? ⟨w.heap.size + 1, 4, none⟩ = some (.int .i64 m.pr.run.eye) := X208.out.cell 4
        have q223 : v205.cell? ⟨w.heap.size + 1, 5, none⟩ = some (.int .i64 m.pr.run.rings) := X208.out.cell 5
        have q224 : v205.cell? ⟨w.heap.size + 1, 6, none⟩ = some (.int .i64 m.pr.run.sectors) := X208.out.cell 6
        have q225 : v205.cell? ⟨w.heap.size + 1, 7, none⟩ = some (r0) := X208.out.cell 7
        have q226 : v205.cell? ⟨w.heap.size + 1, 8, none⟩ = some (.slice DA dn dc) := X208.out.cell 8
        have q227 : v205.cell? ⟨w.heap.size + 1, 9, none⟩ = some (.slice GA gn gc) := X208.out.cell 9
        have q228 : v205.cell? ⟨w.heap.size + 1 + 1, 0, none⟩ = some (.int .i64 fh) := X209.out.cell 0
        have q229 : v205.cell? ⟨w.heap.size + 1 + 1, 1, none⟩ = some (.int .i64 fd) := X209.out.cell 1
        have q230 : v205.cell? ⟨w.heap.size + 1 + 1, 2, none⟩ = some (.int .i64 fk) := X209.out.cell 2
        have e0 : ∀ z : Int, (z == z) = true := fun z => by simp
        have e1 : ∀ z : Bool, (z == z) = true := fun z => by simp
        have e2 : (SB == SB) = true := e1 _
        have e3 : (GB == GB) = true := e1 _
        have e4 : (FB == FB) = true := e1 _
        go_wp2_with fail
        have hdr267 : Below (v205).heap.size (v205) (v205).drew := (Below.refl _ _).drew
        have lt249 := X207.out.lt
        have lt250 := X207.out.lt
        have lt251 := X207.out.lt
        have lt252 := X207.out.lt
        have lt253 := X207.out.lt
        have lt254 := X208.out.lt
        have lt255 := X208.out.lt
        have lt256 := X208.out.lt
        have lt257 := X208.out.lt
        have lt258 := X208.out.lt
        have lt259 := X208.out.lt
        have lt260 := X208.out.lt
        have lt261 := X208.out.lt
        have lt262 := X208.out.lt
        have lt263 := X208.out.lt
        have lt264 := X209.out.lt
        have lt265 := X209.out.lt
        have lt266 := X209.out.lt
        have hcall268 : ∀ X Y : World, (fun Wz => Wz.cell? ⟨w.heap.size, 0, none⟩ = some (.int .i64 id) ∧ Wz.cell? ⟨w.heap.size, 1, none⟩ = some (.int .i64 a) ∧ Wz.cell? ⟨w.heap.size, 2, none⟩ = some (.int .i64 b) ∧ Wz.cell? ⟨w.heap.size, 3, none⟩ = some (.int .i64 c) ∧ Wz.cell? ⟨w.heap.size, 4, none⟩ = some (.int .i64 d) ∧ Wz.cell? ⟨w.heap.size + 1, 0, none⟩ = some (.int .i64 m.pr.bed.eye) ∧ Wz.cell? ⟨w.heap.size + 1, 1, none⟩ = some (.int .i64 m.pr.bed.rings) ∧ Wz.cell? ⟨w.heap.size + 1, 2, none⟩ = some (.int .i64 m.pr.bed.sectors) ∧ Wz.cell? ⟨w.heap.size + 1, 3, none⟩ = some (s0) ∧ Wz.cell? ⟨w.heap.size + 1, 4, none⟩ = some (.int .i64 m.pr.run.eye) ∧ Wz.cell? ⟨w.heap.size + 1, 5, none⟩ = some (.int .i64 m.pr.run.rings) ∧ Wz.cell? ⟨w.heap.size + 1, 6, none⟩ = some (.int .i64 m.pr.run.sectors) ∧ Wz.cell? ⟨w.heap.size + 1, 7, none⟩ = some (r0) ∧ Wz.cell? ⟨w.heap.size + 1, 8, none⟩ = some (.slice DA dn dc) ∧ Wz.cell? ⟨w.heap.size + 1, 9, none⟩ = some (.slice GA gn gc) ∧ Wz.cell? ⟨w.heap.size + 1 + 1, 0, none⟩ = some (.int .i64 fh) ∧ Wz.cell? ⟨w.heap.size + 1 + 1, 1, none⟩ = some (.int .i64 fd) ∧ Wz.cell? ⟨w.heap.size + 1 + 1, 2, none⟩ = some (.int .i64 fk) ∧ (v205).heap.size ≤ Wz.heap.size) X → Below X.heap.size X Y → (fun Wz => Wz.cell? ⟨w.heap.size, 0, none⟩ = some (.int .i64 id) ∧ Wz.cell? ⟨w.heap.size, 1, none⟩ = some (.int .i64 a) ∧ Wz.cell? ⟨w.heap.size, 2, none⟩ = some (.int .i64 b) ∧ Wz.cell? ⟨w.heap.size, 3, none⟩ = some (.int .i64 c) ∧ Wz.cell? ⟨w.heap.size, 4, none⟩ = some (.int .i64 d) ∧ Wz.cell? ⟨w.heap.size + 1, 0, none⟩ = some (.int .i64 m.pr.bed.eye) ∧ Wz.cell? ⟨w.heap.size + 1, 1, none⟩ = some (.int .i64 m.pr.bed.rings) ∧ Wz.cell? ⟨w.heap.size + 1, 2, none⟩ = some (.int .i64 m.pr.bed.sectors) ∧ Wz.cell? ⟨w.heap.size + 1, 3, none⟩ = some (s0) ∧ Wz.cell? ⟨w.heap.size + 1, 4, none⟩ = some (.int .i64 m.pr.run.eye) ∧ Wz.cell? ⟨w.heap.size + 1, 5, none⟩ = some (.int .i64 m.pr.run.rings) ∧ Wz.cell? ⟨w.heap.size + 1, 6, none⟩ = some (.int .i64 m.pr.run.sectors) ∧ Wz.cell? ⟨w.heap.size + 1, 7, none⟩ = some (r0) ∧ Wz.cell? ⟨w.heap.size + 1, 8, none⟩ = some (.slice DA dn dc) ∧ Wz.cell? ⟨w.heap.size + 1, 9, none⟩ = some (.slice GA gn gc) ∧ Wz.cell? ⟨w.heap.size + 1 + 1, 0, none⟩ = some (.int .i64 fh) ∧ Wz.cell? ⟨w.heap.size + 1 + 1, 1, none⟩ = some (.int .i64 fd) ∧ Wz.cell? ⟨w.heap.size + 1 + 1, 2, none⟩ = some (.int .i64 fk) ∧ (v205).heap.size ≤ Wz.heap.size) Y := by
          rintro X Y ⟨z231, z232, z233, z234, z235, z236, z237, z238, z239, z240, z241, z242, z243, z244, z245, z246, z247, z248, xs⟩ hb
          have hb2 := Below.mono (B' := (v205).heap.size) hb xs
          exact ⟨keepd z231 hb2 lt249, keepd z232 hb2 lt250, keepd z233 hb2 lt251, keepd z234 hb2 lt252, keepd z235 hb2 lt253, keepd z236 hb2 lt254, keepd z237 hb2 lt255, keepd z238 hb2 lt256, keepd z239 hb2 lt257, keepd z240 hb2 lt258, keepd z241 hb2 lt259, keepd z242 hb2 lt260, keepd z243 hb2 lt261, keepd z244 hb2 lt262, keepd z245 hb2 lt263, keepd z246 hb2 lt264, keepd z247 hb2 lt265, keepd z248 hb2 lt266, Nat.le_trans xs hb.size⟩
        have hini269 : (fun Wz => Wz.cell? ⟨w.heap.size, 0, none⟩ = some (.int .i64 id) ∧ Wz.cell? ⟨w.heap.size, 1, none⟩ = some (.int .i64 a) ∧ Wz.cell? ⟨w.heap.size, 2, none⟩ = some (.int .i64 b) ∧ Wz.cell? ⟨w.heap.size, 3, none⟩ = some (.int .i64 c) ∧ Wz.cell? ⟨w.heap.size, 4, none⟩ = some (.int .i64 d) ∧ Wz.cell? ⟨w.heap.size + 1, 0, none⟩ = some (.int .i64 m.pr.bed.eye) ∧ Wz.cell? ⟨w.heap.size + 1, 1, none⟩ = some (.int .i64 m.pr.bed.rings) ∧ Wz.cell? ⟨w.heap.size + 1, 2, none⟩ = some (.int .i64 m.pr.bed.sectors) ∧ Wz.cell? ⟨w.heap.size + 1, 3, none⟩ = some (s0) ∧ Wz.cell? ⟨w.heap.size + 1, 4, none⟩ = some (.int .i64 m.pr.run.eye) ∧ Wz.cell? ⟨w.heap.size + 1, 5, none⟩ = some (.int .i64 m.pr.run.rings) ∧ Wz.cell? ⟨w.heap.size + 1, 6, none⟩ = some (.int .i64 m.pr.run.sectors) ∧ Wz.cell? ⟨w.heap.size + 1, 7, none⟩ = some (r0) ∧ Wz.cell? ⟨w.heap.size + 1, 8, none⟩ = some (.slice DA dn dc) ∧ Wz.cell? ⟨w.heap.size + 1, 9, none⟩ = some (.slice GA gn gc) ∧ Wz.cell? ⟨w.heap.size + 1 + 1, 0, none⟩ = some (.int .i64 fh) ∧ Wz.cell? ⟨w.heap.size + 1 + 1, 1, none⟩ = some (.int .i64 fd) ∧ Wz.cell? ⟨w.heap.size + 1 + 1, 2, none⟩ = some (.int .i64 fk) ∧ (v205).heap.size ≤ Wz.heap.size) (v205).drew := ⟨keepd (X207.out.cell 0) hdr267 lt249, keepd (X207.out.cell 1) hdr267 lt250, keepd (X207.out.cell 2) hdr267 lt251, keepd (X207.out.cell 3) hdr267 lt252, keepd (X207.out.cell 4) hdr267 lt253, keepd (X208.out.cell 0) hdr267 lt254, keepd (X208.out.cell 1) hdr267 lt255, keepd (X208.out.cell 2) hdr267 lt256, keepd (X208.out.cell 3) hdr267 lt257, keepd (X208.out.cell 4) hdr267 lt258, keepd (X208.out.cell 5) hdr267 lt259, keepd (X208.out.cell 6) hdr267 lt260, keepd (X208.out.cell 7) hdr267 lt261, keepd (X208.out.cell 8) hdr267 lt262, keepd (X208.out.cell 9) hdr267 lt263, keepd (X209.out.cell 0) hdr267 lt264, keepd (X209.out.cell 1) hdr267 lt265, keepd (X209.out.cell 2) hdr267 lt266, Nat.le_refl _⟩
        have Hcall268 := Lib.hid hcall268
        have Hini269 := Lib.hid hini269
        clear hcall268 hini269 lt249 lt250 lt251 lt252 lt253 lt254 lt255 lt256 lt257 lt258 lt259 lt260 lt261 lt262 lt263 lt264 lt265 lt266
        clear q213 q214 q215 q216 q217 q218 q219 q220 q221 q222 q223 q224 q225 q226 q227 q228 q229 q230
        refine wp_region_noPanic ?_
        refine wp_region_held_drew (S := (fun Wz => Wz.cell? ⟨w.heap.size, 0, none⟩ = some (.int .i64 id) ∧ Wz.cell? ⟨w.heap.size, 1, none⟩ = some (.int .i64 a) ∧ Wz.cell? ⟨w.heap.size, 2, none⟩ = some (.int .i64 b) ∧ Wz.cell? ⟨w.heap.size, 3, none⟩ = some (.int .i64 c) ∧ Wz.cell? ⟨w.heap.size, 4, none⟩ = some (.int .i64 d) ∧ Wz.cell? ⟨w.heap.size + 1, 0, none⟩ = some (.int .i64 m.pr.bed.eye) ∧ Wz.cell? ⟨w.heap.size + 1, 1, none⟩ = some (.int .i64 m.pr.bed.rings) ∧ Wz.cell? ⟨w.heap.size + 1, 2, none⟩ = some (.int .i64 m.pr.bed.sectors) ∧ Wz.cell? ⟨w.heap.size + 1, 3, none⟩ = some (s0) ∧ Wz.cell? ⟨w.heap.size + 1, 4, none⟩ = some (.int .i64 m.pr.run.eye) ∧ Wz.cell? ⟨w.heap.size + 1, 5, none⟩ = some (.int .i64 m.pr.run.rings) ∧ Wz.cell? ⟨w.heap.size + 1, 6, none⟩ = some (.int .i64 m.pr.run.sectors) ∧ Wz.cell? ⟨w.heap.size + 1, 7, none⟩ = some (r0) ∧ Wz.cell? ⟨w.heap.size + 1, 8, none⟩ = some (.slice DA dn dc) ∧ Wz.cell? ⟨w.heap.size + 1, 9, none⟩ = some (.slice GA gn gc) ∧ Wz.cell? ⟨w.heap.size + 1 + 1, 0, none⟩ = some (.int .i64 fh) ∧ Wz.cell? ⟨w.heap.size + 1 + 1, 1, none⟩ = some (.int .i64 fd) ∧ Wz.cell? ⟨w.heap.size + 1 + 1, 2, none⟩ = some (.int .i64 fk) ∧ (v205).heap.size ≤ Wz.heap.size)) (by kernel_rfl) Hini269.out (fun hHeld => ?_)
        obtain ⟨W271, hW272⟩ : ∃ Wzz, (v205).drew = Wzz := ⟨_, rfl⟩
        rw [hW272] at hHeld hdr267 ⊢
        clear hW272
        have X273 := Lib.hid (X207.out.later hdr267)
        have X274 := Lib.hid (X208.out.later hdr267)
        have X275 := Lib.hid (X209.out.later hdr267)
        have C276 := Lib.hid (C210.out.later hdr267)
        have C277 := Lib.hid (C211.out.later hdr267)
        have B278 := Lib.hid (B212.out.trans (hdr267.mono B212.out.size))
        clear hdr267
        refine wpAnyH_take (i := 0) (oi := { dst := some 48, op := Op.move (Operand.tmp 13), type := 4, pos := "law.go:71", after := #[], guard := none }) (v := ?vh279) rfl ?hsh279 ?hfh279 ?hrh279 ?hQh279 ?hyh279 (by assumption) ?resth279
        case hsh279 => kernel_rfl
        case hfh279 => kernel_rfl
        case hrh279 => kernel_rfl
        case hQh279 => exact fun _ _ _ h => h
        case hyh279 => (refine Or.inl ⟨by rfl, ?_⟩; intro w hSw; (try dsimp only at hSw); go_simp; try with_reducible rfl)
        try simp only [Act.put, List.setIfInBounds_toArray, List.set_cons_zero, List.set_cons_succ]
        refine wpAnyH_take (i := 1) (oi := { dst := some 49, op := Op.move (Operand.tmp 48), type := 4, pos := "law.go:71", after := #[{ on := 0, ground := Ground.data }], guard := none }) (v := ?vh280) rfl ?hsh280 ?hfh280 ?hrh280 ?hQh280 ?hyh280 (by assumption) ?resth280
        case hsh280 => kernel_rfl
        case hfh280 => kernel_rfl
        case hrh280 => kernel_rfl
        case hQh280 => exact fun _ _ _ h => h
        case hyh280 => (refine Or.inl ⟨by rfl, ?_⟩; intro w hSw; (try dsimp only at hSw); go_simp; try with_reducible rfl)
        try simp only [Act.put, List.setIfInBounds_toArray, List.set_cons_zero, List.set_cons_succ]
        refine wpAnyH_take (i := 2) (oi := { dst := some 50, op := Op.move (Operand.tmp 14), type := 3, pos := "law.go:71", after := #[{ on := 1, ground := Ground.guard }], guard := some (1, true) }) (v := ?vh281) rfl ?hsh281 ?hfh281 ?hrh281 ?hQh281 ?hyh281 (by assumption) ?resth281
        case hsh281 => kernel_rfl
        case hfh281 => kernel_rfl
        case hrh281 => kernel_rfl
        case hQh281 => exact fun _ _ _ h => h
        case hyh281 => (refine Or.inl ⟨by rfl, ?_⟩; intro w hSw; (try dsimp only at hSw); go_simp; try with_reducible rfl)
        try simp only [Act.put, List.setIfInBounds_toArray, List.set_cons_zero, List.set_cons_succ]
        refine wpAnyH_take (i := 3) (oi := { dst := some 51, op := Op.move (Operand.tmp 16), type := 3, pos := "law.go:71", after := #[{ on := 1, ground := Ground.guard }], guard := some (1, true) }) (v := ?vh282) rfl ?hsh282 ?hfh282 ?hrh282 ?hQh282 ?hyh282 (by assumption) ?resth282
        case hsh282 => kernel_rfl
        case hfh282 => kernel_rfl
        case hrh282 => kernel_rfl
        case hQh282 => exact fun _ _ _ h => h
        case hyh282 => (refine Or.inl ⟨by rfl, ?_⟩; intro w hSw; (try dsimp only at hSw); go_simp; try with_reducible rfl)
        try simp only [Act.put, List.setIfInBounds_toArray, List.set_cons_zero, List.set_cons_succ]
        refine wpAnyH_take (i := 4) (oi := { dst := some 52, op := Op.binOp BinOp.eql 3 (Operand.tmp 50) (Operand.tmp 51) 3, type := 4, pos := "law.go:71", after := #[{ on := 2, ground := Ground.data }, { on := 3, ground := Ground.data }, { on := 1, ground := Ground.guard }], guard := some (1, true) }) (v := ?vh283) rfl ?hsh283 ?hfh283 ?hrh283 ?hQh283 ?hyh283 (by assumption) ?resth283
        case hsh283 => kernel_rfl
        case hfh283 => kernel_rfl
        case hrh283 => kernel_rfl
        case hQh283 => exact fun _ _ _ h => h
        case hyh283 => (refine Or.inl ⟨by rfl, ?_⟩; intro w hSw; (try dsimp only at hSw); go_simp; try with_reducible rfl)
        try simp only [Act.put, List.setIfInBounds_toArray, List.set_cons_zero, List.set_cons_succ]
        refine wpAnyH_take (i := 5) (oi := { dst := some 53, op := Op.pick (Operand.tmp 49) (Operand.tmp 52) (Operand.const (Value.bool false)), type := 4, pos := "law.go:71", after := #[{ on := 1, ground := Ground.data }, { on := 4, ground := Ground.data }], guard := none }) (v := ?vh284) rfl ?hsh284 ?hfh284 ?hrh284 ?hQh284 ?hyh284 (by assumption) ?resth284
        case hsh284 => kernel_rfl
        case hfh284 => kernel_rfl
        case hrh284 => kernel_rfl
        case hQh284 => exact fun _ _ _ h => h
        case hyh284 => (refine Or.inl ⟨by rfl, ?_⟩; intro w hSw; (try dsimp only at hSw); go_simp; try with_reducible rfl)
        try simp only [Act.put, List.setIfInBounds_toArray, List.set_cons_zero, List.set_cons_succ]
        refine wpAnyH_take (i := 6) (oi := { dst := some 54, op := Op.move (Operand.tmp 53), type := 4, pos := "law.go:71", after := #[{ on := 5, ground := Ground.data }, { on := 1, ground := Ground.chain }], guard := none }) (v := ?vh285) rfl ?hsh285 ?hfh285 ?hrh285 ?hQh285 ?hyh285 (by assumption) ?resth285
        case hsh285 => kernel_rfl
        case hfh285 => kernel_rfl
        case hrh285 => kernel_rfl
        case hQh285 => exact fun _ _ _ h => h
        case hyh285 => (refine Or.inl ⟨by rfl, ?_⟩; intro w hSw; (try dsimp only at hSw); go_simp; try with_reducible rfl)
        try simp only [Act.put, List.setIfInBounds_toArray, List.set_cons_zero, List.set_cons_succ]
        refine wpAnyH_take (i := 7) (oi := { dst := some 55, op := Op.move (Operand.tmp 15), type := 37, pos := "law.go:71", after := #[{ on := 6, ground := Ground.guard }], guard := some (6, true) }) (v := ?vh286) rfl ?hsh286 ?hfh286 ?hrh286 ?hQh286 ?hyh286 (by assumption) ?resth286
        case hsh286 => kernel_rfl
        case hfh286 => kernel_rfl
        case hrh286 => kernel_rfl
        case hQh286 => exact fun _ _ _ h => h
        case hyh286 => (refine Or.inl ⟨by rfl, ?_⟩; intro w hSw; (try dsimp only at hSw); go_simp; try with_reducible rfl)
        try simp only [Act.put, List.setIfInBounds_toArray, List.set_cons_zero, List.set_cons_succ]
        refine wpAnyH_take (i := 8) (oi := { dst := some 56, op := Op.move (Operand.tmp 17), type := 37, pos := "law.go:71", after := #[{ on := 6, ground := Ground.guard }], guard := some (6, true) }) (v := ?vh287) rfl ?hsh287 ?hfh287 ?hrh287 ?hQh287 ?hyh287 (by assumption) ?resth287
        case hsh287 => kernel_rfl
        case hfh287 => kernel_rfl
        case hrh287 => kernel_rfl
        case hQh287 => exact fun _ _ _ h => h
        case hyh287 => (refine Or.inl ⟨by rfl, ?_⟩; intro w hSw; (try dsimp only at hSw); go_simp; try with_reducible rfl)
        try simp only [Act.put, List.setIfInBounds_toArray, List.set_cons_zero, List.set_cons_succ]
        refine wpAnyH_take (i := 9) (oi := { dst := some 57, op := Op.binOp BinOp.eql 37 (Operand.tmp 55) (Operand.tmp 56) 37, type := 4, pos := "law.go:71", after := #[{ on := 7, ground := Ground.data }, { on := 8, ground := Ground.data }, { on := 6, ground := Ground.guard }], guard := some (6, true) }) (v := ?vh288) rfl ?hsh288 ?hfh288 ?hrh288 ?hQh288 ?hyh288 (by assumption) ?resth288
        case hsh288 => kernel_rfl
        case hfh288 => kernel_rfl
        case hrh288 => kernel_rfl
        case hQh288 => exact fun _ _ _ h => h
        case hyh288 => (refine Or.inl ⟨by rfl, ?_⟩; intro w hSw; (try dsimp only at hSw); go_simp; try with_reducible rfl)
        try simp only [Act.put, List.setIfInBounds_toArray, List.set_cons_zero, List.set_cons_succ]
        refine wpAnyH_take (i := 10) (oi := { dst := some 58, op := Op.pick (Operand.tmp 54) (Operand.tmp 57) (Operand.const (Value.bool false)), type := 4, pos := "law.go:71", after := #[{ on := 6, ground := Ground.data }, { on := 9, ground := Ground.data }], guard := none }) (v := ?vh289) rfl ?hsh289 ?hfh289 ?hrh289 ?hQh289 ?hyh289 (by assumption) ?resth289
        case hsh289 => kernel_rfl
        case hfh289 => kernel_rfl
        case hrh289 => kernel_rfl
        case hQh289 => exact fun _ _ _ h => h
        case hyh289 => (refine Or.inl ⟨by rfl, ?_⟩; intro w hSw; (try dsimp only at hSw); go_simp; try with_reducible rfl)
        try simp only [Act.put, List.setIfInBounds_toArray, List.set_cons_zero, List.set_cons_succ]
        refine wpAnyH_take (i := 11) (oi := { dst := some 59, op := Op.move (Operand.tmp 58), type := 4, pos := "law.go:71", after := #[{ on := 10, ground := Ground.data }, { on := 6, ground := Ground.chain }], guard := none }) (v := ?vh290) rfl ?hsh290 ?hfh290 ?hrh290 ?hQh290 ?hyh290 (by assumption) ?resth290
        case hsh290 => kernel_rfl
        case hfh290 => kernel_rfl
        case hrh290 => kernel_rfl
        case hQh290 => exact fun _ _ _ h => h
        case hyh290 => (refine Or.inl ⟨by rfl, ?_⟩; intro w hSw; (try dsimp only at hSw); go_simp; try with_reducible rfl)
        try simp only [Act.put, List.setIfInBounds_toArray, List.set_cons_zero, List.set_cons_succ]
        refine wpAnyH_take (i := 12) (oi := { dst := some 60, op := Op.load 25 (Operand.tmp 6), type := 25, pos := "law.go:71", after := #[{ on := 11, ground := Ground.guard }], guard := some (11, true) }) (v := ?vh291) rfl ?hsh291 ?hfh291 ?hrh291 ?hQh291 ?hyh291 (by assumption) ?resth291
        case hsh291 => kernel_rfl
        case hfh291 => kernel_rfl
        case hrh291 => kernel_rfl
        case hQh291 => exact fun _ _ _ h => h
        case hyh291 => (refine Or.inl ⟨by rfl, ?_⟩; intro w hSw; (try dsimp only at hSw); go_simp; try with_reducible rfl)
        try simp only [Act.put, List.setIfInBounds_toArray, List.set_cons_zero, List.set_cons_succ]
        refine wpAnyH_take (i := 14) (oi := { dst := some 62, op := Op.load 25 (Operand.tmp 6), type := 25, pos := "law.go:71", after := #[{ on := 11, ground := Ground.guard }], guard := some (11, true) }) (v := ?vh292) rfl ?hsh292 ?hfh292 ?hrh292 ?hQh292 ?hyh292 (by assumption) ?resth292
        case hsh292 => kernel_rfl
        case hfh292 => kernel_rfl
        case hrh292 => kernel_rfl
        case hQh292 => exact fun _ _ _ h => h
        case hyh292 => (refine Or.inl ⟨by rfl, ?_⟩; intro w hSw; (try dsimp only at hSw); go_simp; try with_reducible rfl)
        try simp only [Act.put, List.setIfInBounds_toArray, List.set_cons_zero, List.set_cons_succ]
        refine wpAnyH_ready (rs := [13]) (by kernel_rfl) (by simp) ?_
        refine AllReadyH.cons (o := _) (by rfl) (fun K hK => ?_) AllReadyH.nil
        go_simp
        go_at_call 8
        refine (ValidSort_c id a b c d _).mono ?_; rintro e v293 ⟨rfl, hb294⟩
        have X295 := Lib.hid (X273.out.later hb294)
        have X296 := Lib.hid (X274.out.later hb294)
        have X297 := Lib.hid (X275.out.later hb294)
        have C298 := Lib.hid (C276.out.later hb294)
        have C299 := Lib.hid (C277.out.later hb294)
        have B300 := Lib.hid (B278.out.trans (hb294.mono B278.out.size))
        clear X273 X274 X275 C276 C277 B278
        rw [HSB.out]
        go_wp2_with fail
        refine hK.out _ _ (Hcall268.out _ _ hHeld (by assumption)) (fun hHeld301 => ?_)
        clear hK K hHeld
        clear hb294
        have hHeld := hHeld301
        clear hHeld301
        try simp only [Act.put, List.setIfInBounds_toArray, List.set_cons_zero, List.set_cons_succ]
        refine wpAnyH_ready (rs := [15]) (by kernel_rfl) (by simp) ?_
        refine AllReadyH.cons (o := _) (by rfl) (fun K hK => ?_) AllReadyH.nil
        go_simp
        go_at_call 9
        refine (rValidSort_c id a b c d _).mono ?_; rintro e v302 ⟨rfl, hb303⟩
        have X304 := Lib.hid (X295.out.later hb303)
        have X305 := Lib.hid (X296.out.later hb303)
        have X306 := Lib.hid (X297.out.later hb303)
        have C307 := Lib.hid (C298.out.later hb303)
        have C308 := Lib.hid (C299.out.later hb303)
        have B309 := Lib.hid (B300.out.trans (hb303.mono B300.out.size))
        clear X295 X296 X297 C298 C299 B300
        rw [HSB.out]
        go_wp2_with fail
        refine hK.out _ _ (Hcall268.out _ _ hHeld (by assumption)) (fun hHeld310 => ?_)
        clear hK K hHeld
        clear hb303
        have hHeld := hHeld310
        clear hHeld310
        try simp only [Act.put, List.setIfInBounds_toArray, List.set_cons_zero, List.set_cons_succ]
        refine wpAnyH_take (i := 16) (oi := { dst := some 64, op := Op.binOp BinOp.eql 4 (Operand.tmp 61) (Operand.tmp 63) 4, type := 4, pos := "law.go:71", after := #[{ on := 13, ground := Ground.data }, { on := 15, ground := Ground.data }, { on := 11, ground := Ground.guard }], guard := some (11, true) }) (v := ?vh311) rfl ?hsh311 ?hfh311 ?hrh311 ?hQh311 ?hyh311 (by assumption) ?resth311
        case hsh311 => kernel_rfl
        case hfh311 => kernel_rfl
        case hrh311 => kernel_rfl
        case hQh311 => exact fun _ _ _ h => h
        case hyh311 => (refine Or.inl ⟨by rfl, ?_⟩; intro w hSw; (try dsimp only at hSw); go_simp; try with_reducible rfl)
        try simp only [Act.put, List.setIfInBounds_toArray, List.set_cons_zero, List.set_cons_succ]
        refine wpAnyH_take (i := 17) (oi := { dst := some 65, op := Op.pick (Operand.tmp 59) (Operand.tmp 64) (Operand.const (Value.bool false)), type := 4, pos := "law.go:71", after := #[{ on := 11, ground := Ground.data }, { on := 16, ground := Ground.data }], guard := none }) (v := ?vh312) rfl ?hsh312 ?hfh312 ?hrh312 ?hQh312 ?hyh312 (by assumption) ?resth312
        case hsh312 => kernel_rfl
        case hfh312 => kernel_rfl
        case hrh312 => kernel_rfl
        case hQh312 => exact fun _ _ _ h => h
        case hyh312 => (refine Or.inl ⟨by rfl, ?_⟩; intro w hSw; (try dsimp only at hSw); go_simp; try with_reducible rfl)
        try simp only [Act.put, List.setIfInBounds_toArray, List.set_cons_zero, List.set_cons_succ]
        refine wpAnyH_take (i := 18) (oi := { dst := some 66, op := Op.move (Operand.tmp 65), type := 4, pos := "law.go:71", after := #[{ on := 17, ground := Ground.data }, { on := 15, ground := Ground.chain }], guard := none }) (v := ?vh313) rfl ?hsh313 ?hfh313 ?hrh313 ?hQh313 ?hyh313 (by assumption) ?resth313
        case hsh313 => kernel_rfl
        case hfh313 => kernel_rfl
        case hrh313 => kernel_rfl
        case hQh313 => exact fun _ _ _ h => h
        case hyh313 => (refine Or.inl ⟨by rfl, ?_⟩; intro w hSw; (try dsimp only at hSw); go_simp; try with_reducible rfl)
        try simp only [Act.put, List.setIfInBounds_toArray, List.set_cons_zero, List.set_cons_succ]
        refine wpAnyH_take (i := 19) (oi := { dst := some 67, op := Op.load 33 (Operand.tmp 7), type := 33, pos := "law.go:71", after := #[{ on := 18, ground := Ground.guard }], guard := some (18, true) }) (v := ?vh314) rfl ?hsh314 ?hfh314 ?hrh314 ?hQh314 ?hyh314 (by assumption) ?resth314
        case hsh314 => kernel_rfl
        case hfh314 => kernel_rfl
        case hrh314 => kernel_rfl
        case hQh314 => exact fun _ _ _ h => h
        case hyh314 => (refine Or.inl ⟨by rfl, ?_⟩; intro w hSw; (try dsimp only at hSw); go_simp; try with_reducible rfl)
        try simp only [Act.put, List.setIfInBounds_toArray, List.set_cons_zero, List.set_cons_succ]
        refine wpAnyH_take (i := 21) (oi := { dst := some 69, op := Op.load 33 (Operand.tmp 7), type := 33, pos := "law.go:71", after := #[{ on := 18, ground := Ground.guard }], guard := some (18, true) }) (v := ?vh315) rfl ?hsh315 ?hfh315 ?hrh315 ?hQh315 ?hyh315 (by assumption) ?resth315
        case hsh315 => kernel_rfl
        case hfh315 => kernel_rfl
        case hrh315 => kernel_rfl
        case hQh315 => exact fun _ _ _ h => h
        case hyh315 => (refine Or.inl ⟨by rfl, ?_⟩; intro w hSw; (try dsimp only at hSw); go_simp; try with_reducible rfl)
        try simp only [Act.put, List.setIfInBounds_toArray, List.set_cons_zero, List.set_cons_succ]
        refine wpAnyH_ready (rs := [20]) (by kernel_rfl) (by simp) ?_
        refine AllReadyH.cons (o := _) (by rfl) (fun K hK => ?_) AllReadyH.nil
        go_simp
        go_at_call 10
        refine (CheckMill_c m _ _ C307.out).mono ?_; rintro e v316 ⟨rfl, hb317⟩
        have X318 := Lib.hid (X304.out.later hb317)
        have X319 := Lib.hid (X305.out.later hb317)
        have X320 := Lib.hid (X306.out.later hb317)
        have C321 := Lib.hid (C307.out.later hb317)
        have C322 := Lib.hid (C308.out.later hb317)
        have B323 := Lib.hid (B309.out.trans (hb317.mono B309.out.size))
        clear X304 X305 X306 C307 C308 B309
        rw [HCM.out]
        go_wp2_with fail
        refine hK.out _ _ (Hcall268.out _ _ hHeld (by assumption)) (fun hHeld324 => ?_)
        clear hK K hHeld
        clear hb317
        have hHeld := hHeld324
        clear hHeld324
        try simp only [Act.put, List.setIfInBounds_toArray, List.set_cons_zero, List.set_cons_succ]
        refine wpAnyH_ready (rs := [22]) (by kernel_rfl) (by simp) ?_
        refine AllReadyH.cons (o := _) (by rfl) (fun K hK => ?_) AllReadyH.nil
        go_simp
        go_at_call 11
        refine (rCheckMill_c m _ _ C321.out).mono ?_; rintro e v325 ⟨rfl, hb326⟩
        have X327 := Lib.hid (X318.out.later hb326)
        have X328 := Lib.hid (X319.out.later hb326)
        have X329 := Lib.hid (X320.out.later hb326)
        have C330 := Lib.hid (C321.out.later hb326)
        have C331 := Lib.hid (C322.out.later hb326)
        have B332 := Lib.hid (B323.out.trans (hb326.mono B323.out.size))
        clear X318 X319 X320 C321 C322 B323
        rw [HCM.out]
        go_wp2_with fail
        refine hK.out _ _ (Hcall268.out _ _ hHeld (by assumption)) (fun hHeld333 => ?_)
        clear hK K hHeld
        clear hb326
        have hHeld := hHeld333
        clear hHeld333
        try simp only [Act.put, List.setIfInBounds_toArray, List.set_cons_zero, List.set_cons_succ]
        refine wpAnyH_take (i := 23) (oi := { dst := some 71, op := Op.binOp BinOp.eql 37 (Operand.tmp 68) (Operand.tmp 70) 37, type := 4, pos := "law.go:71", after := #[{ on := 20, ground := Ground.data }, { on := 22, ground := Ground.data }, { on := 18, ground := Ground.guard }], guard := some (18, true) }) (v := ?vh334) rfl ?hsh334 ?hfh334 ?hrh334 ?hQh334 ?hyh334 (by assumption) ?resth334
        case hsh334 => kernel_rfl
        case hfh334 => kernel_rfl
        case hrh334 => kernel_rfl
        case hQh334 => exact fun _ _ _ h => h
        case hyh334 => (refine Or.inl ⟨by rfl, ?_⟩; intro w hSw; (try dsimp only at hSw); go_simp; try with_reducible rfl)
        try simp only [Act.put, List.setIfInBounds_toArray, List.set_cons_zero, List.set_cons_succ]
        refine wpAnyH_take (i := 24) (oi := { dst := some 72, op := Op.pick (Operand.tmp 66) (Operand.tmp 71) (Operand.const (Value.bool false)), type := 4, pos := "law.go:71", after := #[{ on := 18, ground := Ground.data }, { on := 23, ground := Ground.data }], guard := none }) (v := ?vh335) rfl ?hsh335 ?hfh335 ?hrh335 ?hQh335 ?hyh335 (by assumption) ?resth335
        case hsh335 => kernel_rfl
        case hfh335 => kernel_rfl
        case hrh335 => kernel_rfl
        case hQh335 => exact fun _ _ _ h => h
        case hyh335 => (refine Or.inl ⟨by rfl, ?_⟩; intro w hSw; (try dsimp only at hSw); go_simp; try with_reducible rfl)
        try simp only [Act.put, List.setIfInBounds_toArray, List.set_cons_zero, List.set_cons_succ]
        refine wpAnyH_take (i := 25) (oi := { dst := some 73, op := Op.move (Operand.tmp 72), type := 4, pos := "law.go:71", after := #[{ on := 24, ground := Ground.data }, { on := 22, ground := Ground.chain }], guard := none }) (v := ?vh336) rfl ?hsh336 ?hfh336 ?hrh336 ?hQh336 ?hyh336 (by assumption) ?resth336
        case hsh336 => kernel_rfl
        case hfh336 => kernel_rfl
        case hrh336 => kernel_rfl
        case hQh336 => exact fun _ _ _ h => h
        case hyh336 => (refine Or.inl ⟨by rfl, ?_⟩; intro w hSw; (try dsimp only at hSw); go_simp; try with_reducible rfl)
        try simp only [Act.put, List.setIfInBounds_toArray, List.set_cons_zero, List.set_cons_succ]
        refine wpAnyH_take (i := 26) (oi := { dst := some 74, op := Op.move (Operand.tmp 2), type := 26, pos := "law.go:71", after := #[{ on := 25, ground := Ground.guard }], guard := some (25, true) }) (v := ?vh337) rfl ?hsh337 ?hfh337 ?hrh337 ?hQh337 ?hyh337 (by assumption) ?resth337
        case hsh337 => kernel_rfl
        case hfh337 => kernel_rfl
        case hrh337 => kernel_rfl
        case hQh337 => exact fun _ _ _ h => h
        case hyh337 => (refine Or.inl ⟨by rfl, ?_⟩; intro w hSw; (try dsimp only at hSw); go_simp; try with_reducible rfl)
        try simp only [Act.put, List.setIfInBounds_toArray, List.set_cons_zero, List.set_cons_succ]
        refine wpAnyH_take (i := 28) (oi := { dst := some 76, op := Op.move (Operand.tmp 2), type := 26, pos := "law.go:71", after := #[{ on := 25, ground := Ground.guard }], guard := some (25, true) }) (v := ?vh338) rfl ?hsh338 ?hfh338 ?hrh338 ?hQh338 ?hyh338 (by assumption) ?resth338
        case hsh338 => kernel_rfl
        case hfh338 => kernel_rfl
        case hrh338 => kernel_rfl
        case hQh338 => exact fun _ _ _ h => h
        case hyh338 => (refine Or.inl ⟨by rfl, ?_⟩; intro w hSw; (try dsimp only at hSw); go_simp; try with_reducible rfl)
        try simp only [Act.put, List.setIfInBounds_toArray, List.set_cons_zero, List.set_cons_succ]
        refine wpAnyH_ready (rs := [27]) (by kernel_rfl) (by simp) ?_
        refine AllReadyH.cons (o := _) (by rfl) (fun K hK => ?_) AllReadyH.nil
        go_simp
        go_at_call 12
        refine (ValidGrades_c lg _ _ C331.out).mono ?_; rintro e v339 ⟨rfl, hb340⟩
        have X341 := Lib.hid (X327.out.later hb340)
        have X342 := Lib.hid (X328.out.later hb340)
        have X343 := Lib.hid (X329.out.later hb340)
        have C344 := Lib.hid (C330.out.later hb340)
        have C345 := Lib.hid (C331.out.later hb340)
        have B346 := Lib.hid (B332.out.trans (hb340.mono B332.out.size))
        clear X327 X328 X329 C330 C331 B332
        rw [HGB.out]
        go_wp2_with fail
        refine hK.out _ _ (Hcall268.out _ _ hHeld (by assumption)) (fun hHeld347 => ?_)
        clear hK K hHeld
        clear hb340
        have hHeld := hHeld347
        clear hHeld347
        try simp only [Act.put, List.setIfInBounds_toArray, List.set_cons_zero, List.set_cons_succ]
        refine wpAnyH_ready (rs := [29]) (by kernel_rfl) (by simp) ?_
        refine AllReadyH.cons (o := _) (by rfl) (fun K hK => ?_) AllReadyH.nil
        go_simp
        go_at_call 13
        refine (rValidGrades_c lg _ _ C345.out).mono ?_; rintro e v348 ⟨rfl, hb349⟩
        have X350 := Lib.hid (X341.out.later hb349)
        have X351 := Lib.hid (X342.out.later hb349)
        have X352 := Lib.hid (X343.out.later hb349)
        have C353 := Lib.hid (C344.out.later hb349)
        have C354 := Lib.hid (C345.out.later hb349)
        have B355 := Lib.hid (B346.out.trans (hb349.mono B346.out.size))
        clear X341 X342 X343 C344 C345 B346
        rw [HGB.out]
        go_wp2_with fail
        refine hK.out _ _ (Hcall268.out _ _ hHeld (by assumption)) (fun hHeld356 => ?_)
        clear hK K hHeld
        clear hb349
        have hHeld := hHeld356
        clear hHeld356
        try simp only [Act.put, List.setIfInBounds_toArray, List.set_cons_zero, List.set_cons_succ]
        refine wpAnyH_take (i := 30) (oi := { dst := some 78, op := Op.binOp BinOp.eql 4 (Operand.tmp 75) (Operand.tmp 77) 4, type := 4, pos := "law.go:71", after := #[{ on := 27, ground := Ground.data }, { on := 29, ground := Ground.data }, { on := 25, ground := Ground.guard }], guard := some (25, true) }) (v := ?vh357) rfl ?hsh357 ?hfh357 ?hrh357 ?hQh357 ?hyh357 (by assumption) ?resth357
        case hsh357 => kernel_rfl
        case hfh357 => kernel_rfl
        case hrh357 => kernel_rfl
        case hQh357 => exact fun _ _ _ h => h
        case hyh357 => (refine Or.inl ⟨by rfl, ?_⟩; intro w hSw; (try dsimp only at hSw); go_simp; try with_reducible rfl)
        try simp only [Act.put, List.setIfInBounds_toArray, List.set_cons_zero, List.set_cons_succ]
        refine wpAnyH_take (i := 31) (oi := { dst := some 79, op := Op.pick (Operand.tmp 73) (Operand.tmp 78) (Operand.const (Value.bool false)), type := 4, pos := "law.go:71", after := #[{ on := 25, ground := Ground.data }, { on := 30, ground := Ground.data }], guard := none }) (v := ?vh358) rfl ?hsh358 ?hfh358 ?hrh358 ?hQh358 ?hyh358 (by assumption) ?resth358
        case hsh358 => kernel_rfl
        case hfh358 => kernel_rfl
        case hrh358 => kernel_rfl
        case hQh358 => exact fun _ _ _ h => h
        case hyh358 => (refine Or.inl ⟨by rfl, ?_⟩; intro w hSw; (try dsimp only at hSw); go_simp; try with_reducible rfl)
        try simp only [Act.put, List.setIfInBounds_toArray, List.set_cons_zero, List.set_cons_succ]
        refine wpAnyH_take (i := 32) (oi := { dst := some 80, op := Op.move (Operand.tmp 79), type := 4, pos := "law.go:71", after := #[{ on := 31, ground := Ground.data }, { on := 29, ground := Ground.chain }], guard := none }) (v := ?vh359) rfl ?hsh359 ?hfh359 ?hrh359 ?hQh359 ?hyh359 (by assumption) ?resth359
        case hsh359 => kernel_rfl
        case hfh359 => kernel_rfl
        case hrh359 => kernel_rfl
        case hQh359 => exact fun _ _ _ h => h
        case hyh359 => (refine Or.inl ⟨by rfl, ?_⟩; intro w hSw; (try dsimp only at hSw); go_simp; try with_reducible rfl)
        try simp only [Act.put, List.setIfInBounds_toArray, List.set_cons_zero, List.set_cons_succ]
        refine wpAnyH_take (i := 33) (oi := { dst := some 81, op := Op.load 35 (Operand.tmp 9), type := 35, pos := "law.go:71", after := #[{ on := 32, ground := Ground.guard }], guard := some (32, true) }) (v := ?vh360) rfl ?hsh360 ?hfh360 ?hrh360 ?hQh360 ?hyh360 (by assumption) ?resth360
        case hsh360 => kernel_rfl
        case hfh360 => kernel_rfl
        case hrh360 => kernel_rfl
        case hQh360 => exact fun _ _ _ h => h
        case hyh360 => (refine Or.inl ⟨by rfl, ?_⟩; intro w hSw; (try dsimp only at hSw); go_simp; try with_reducible rfl)
        try simp only [Act.put, List.setIfInBounds_toArray, List.set_cons_zero, List.set_cons_succ]
        refine wpAnyH_take (i := 35) (oi := { dst := some 83, op := Op.load 35 (Operand.tmp 9), type := 35, pos := "law.go:71", after := #[{ on := 32, ground := Ground.guard }], guard := some (32, true) }) (v := ?vh361) rfl ?hsh361 ?hfh361 ?hrh361 ?hQh361 ?hyh361 (by assumption) ?resth361
        case hsh361 => kernel_rfl
        case hfh361 => kernel_rfl
        case hrh361 => kernel_rfl
        case hQh361 => exact fun _ _ _ h => h
        case hyh361 => (refine Or.inl ⟨by rfl, ?_⟩; intro w hSw; (try dsimp only at hSw); go_simp; try with_reducible rfl)
        try simp only [Act.put, List.setIfInBounds_toArray, List.set_cons_zero, List.set_cons_succ]
        refine wpAnyH_ready (rs := [34]) (by kernel_rfl) (by simp) ?_
        refine AllReadyH.cons (o := _) (by rfl) (fun K hK => ?_) AllReadyH.nil
        go_simp
        go_at_call 14
        refine (ValidFeed_c fh fd fk _).mono ?_; rintro e v362 ⟨rfl, hb363⟩
        have X364 := Lib.hid (X350.out.later hb363)
        have X365 := Lib.hid (X351.out.later hb363)
        have X366 := Lib.hid (X352.out.later hb363)
        have C367 := Lib.hid (C353.out.later hb363)
        have C368 := Lib.hid (C354.out.later hb363)
        have B369 := Lib.hid (B355.out.trans (hb363.mono B355.out.size))
        clear X350 X351 X352 C353 C354 B355
        rw [HFB.out]
        go_wp2_with fail
        refine hK.out _ _ (Hcall268.out _ _ hHeld (by assumption)) (fun hHeld370 => ?_)
        clear hK K hHeld
        clear hb363
        have hHeld := hHeld370
        clear hHeld370
        try simp only [Act.put, List.setIfInBounds_toArray, List.set_cons_zero, List.set_cons_succ]
        refine wpAnyH_ready (rs := [36]) (by kernel_rfl) (by simp) ?_
        refine AllReadyH.cons (o := _) (by rfl) (fun K hK => ?_) AllReadyH.nil
        go_simp
        go_at_call 15
        refine (rValidFeed_c fh fd fk _).mono ?_; rintro e v371 ⟨rfl, hb372⟩
        have X373 := Lib.hid (X364.out.later hb372)
        have X374 := Lib.hid (X365.out.later hb372)
        have X375 := Lib.hid (X366.out.later hb372)
        have C376 := Lib.hid (C367.out.later hb372)
        have C377 := Lib.hid (C368.out.later hb372)
        have B378 := Lib.hid (B369.out.trans (hb372.mono B369.out.size))
        clear X364 X365 X366 C367 C368 B369
        rw [HFB.out]
        go_wp2_with fail
        refine hK.out _ _ (Hcall268.out _ _ hHeld (by assumption)) (fun hHeld379 => ?_)
        clear hK K hHeld
        clear hb372
        have hHeld := hHeld379
        clear hHeld379
        try simp only [Act.put, List.setIfInBounds_toArray, List.set_cons_zero, List.set_cons_succ]
        refine wpAnyH_take (i := 37) (oi := { dst := some 85, op := Op.binOp BinOp.eql 4 (Operand.tmp 82) (Operand.tmp 84) 4, type := 4, pos := "law.go:71", after := #[{ on := 34, ground := Ground.data }, { on := 36, ground := Ground.data }, { on := 32, ground := Ground.guard }], guard := some (32, true) }) (v := ?vh380) rfl ?hsh380 ?hfh380 ?hrh380 ?hQh380 ?hyh380 (by assumption) ?resth380
        case hsh380 => kernel_rfl
        case hfh380 => kernel_rfl
        case hrh380 => kernel_rfl
        case hQh380 => exact fun _ _ _ h => h
        case hyh380 => (refine Or.inl ⟨by rfl, ?_⟩; intro w hSw; (try dsimp only at hSw); go_simp; try with_reducible rfl)
        try simp only [Act.put, List.setIfInBounds_toArray, List.set_cons_zero, List.set_cons_succ]
        refine wpAnyH_take (i := 38) (oi := { dst := some 86, op := Op.pick (Operand.tmp 80) (Operand.tmp 85) (Operand.const (Value.bool false)), type := 4, pos := "law.go:71", after := #[{ on := 32, ground := Ground.data }, { on := 37, ground := Ground.data }], guard := none }) (v := ?vh381) rfl ?hsh381 ?hfh381 ?hrh381 ?hQh381 ?hyh381 (by assumption) ?resth381
        case hsh381 => kernel_rfl
        case hfh381 => kernel_rfl
        case hrh381 => kernel_rfl
        case hQh381 => exact fun _ _ _ h => h
        case hyh381 => (refine Or.inl ⟨by rfl, ?_⟩; intro w hSw; (try dsimp only at hSw); go_simp; try with_reducible rfl)
        try simp only [Act.put, List.setIfInBounds_toArray, List.set_cons_zero, List.set_cons_succ]
        refine wpAnyH_take (i := 39) (oi := { dst := some 12, op := Op.assign (Operand.tmp 86), type := 4, pos := "law.go:71", after := #[{ on := 38, ground := Ground.data }, { on := 36, ground := Ground.chain }, { on := 0, ground := Ground.phase }, { on := 1, ground := Ground.phase }, { on := 2, ground := Ground.phase }, { on := 3, ground := Ground.phase }, { on := 4, ground := Ground.phase }, { on := 5, ground := Ground.phase }, { on := 6, ground := Ground.phase }, { on := 7, ground := Ground.phase }, { on := 8, ground := Ground.phase }, { on := 9, ground := Ground.phase }, { on := 10, ground := Ground.phase }, { on := 11, ground := Ground.phase }, { on := 12, ground := Ground.phase }, { on := 13, ground := Ground.phase }, { on := 14, ground := Ground.phase }, { on := 15, ground := Ground.phase }, { on := 16, ground := Ground.phase }, { on := 17, ground := Ground.phase }, { on := 18, ground := Ground.phase }, { on := 19, ground := Ground.phase }, { on := 20, ground := Ground.phase }, { on := 21, ground := Ground.phase }, { on := 22, ground := Ground.phase }, { on := 23, ground := Ground.phase }, { on := 24, ground := Ground.phase }, { on := 25, ground := Ground.phase }, { on := 26, ground := Ground.phase }, { on := 27, ground := Ground.phase }, { on := 28, ground := Ground.phase }, { on := 29, ground := Ground.phase }, { on := 30, ground := Ground.phase }, { on := 31, ground := Ground.phase }, { on := 32, ground := Ground.phase }, { on := 33, ground := Ground.phase }, { on := 34, ground := Ground.phase }, { on := 35, ground := Ground.phase }, { on := 36, ground := Ground.phase }, { on := 37, ground := Ground.phase }, { on := 38, ground := Ground.phase }], guard := none }) (v := ?vh382) rfl ?hsh382 ?hfh382 ?hrh382 ?hQh382 ?hyh382 (by assumption) ?resth382
        case hsh382 => kernel_rfl
        case hfh382 => kernel_rfl
        case hrh382 => kernel_rfl
        case hQh382 => exact fun _ _ _ h => h
        case hyh382 => (refine Or.inl ⟨by rfl, ?_⟩; intro w hSw; (try dsimp only at hSw); go_simp; try with_reducible rfl)
        try simp only [Act.put, List.setIfInBounds_toArray, List.set_cons_zero, List.set_cons_succ]
        refine wpAnyH_done (by kernel_rfl) ?_ _
        refine NoPanic.normal ?_
        clear hHeld Hcall268 Hini269
        have q383 : v371.cell? ⟨w.heap.size, 0, none⟩ = some (.int .i64 id) := X373.out.cell 0
        have q384 : v371.cell? ⟨w.heap.size, 1, none⟩ = some (.int .i64 a) := X373.out.cell 1
        have q385 : v371.cell? ⟨w.heap.size, 2, none⟩ = some (.int .i64 b) := X373.out.cell 2
        have q386 : v371.cell? ⟨w.heap.size, 3, none⟩ = some (.int .i64 c) := X373.out.cell 3
        have q387 : v371.cell? ⟨w.heap.size, 4, none⟩ = some (.int .i64 d) := X373.out.cell 4
        have q388 : v371.cell? ⟨w.heap.size + 1, 0, none⟩ = some (.int .i64 m.pr.bed.eye) := X374.out.cell 0
        have q389 : v371.cell? ⟨w.heap.size + 1, 1, none⟩ = some (.int .i64 m.pr.bed.rings) := X374.out.cell 1
        have q390 : v371.cell? ⟨w.heap.size + 1, 2, none⟩ = some (.int .i64 m.pr.bed.sectors) := X374.out.cell 2
        have q391 : v371.cell? ⟨w.heap.size + 1, 3, none⟩ = some (s0) := X374.out.cell 3
        have q392 : v371.cell? ⟨w.heap.size + 1, 4, none⟩ = some (.int .i64 m.pr.run.eye) := X374.out.cell 4
        have q393 : v371.cell? ⟨w.heap.size + 1, 5, none⟩ = some (.int .i64 m.pr.run.rings) := X374.out.cell 5
        have q394 : v371.cell? ⟨w.heap.size + 1, 6, none⟩ = some (.int .i64 m.pr.run.sectors) := X374.out.cell 6
        have q395 : v371.cell? ⟨w.heap.size + 1, 7, none⟩ = some (r0) := X374.out.cell 7
        have q396 : v371.cell? ⟨w.heap.size + 1, 8, none⟩ = some (.slice DA dn dc) := X374.out.cell 8
        have q397 : v371.cell? ⟨w.heap.size + 1, 9, none⟩ = some (.slice GA gn gc) := X374.out.cell 9
        have q398 : v371.cell? ⟨w.heap.size + 1 + 1, 0, none⟩ = some (.int .i64 fh) := X375.out.cell 0
        have q399 : v371.cell? ⟨w.heap.size + 1 + 1, 1, none⟩ = some (.int .i64 fd) := X375.out.cell 1
        have q400 : v371.cell? ⟨w.heap.size + 1 + 1, 2, none⟩ = some (.int .i64 fk) := X375.out.cell 2
        go_wp2_with fail
        go_ret
        exact ⟨rfl, B378.out⟩

end Go.Proofs.YtikfiallhmhicaaGreat

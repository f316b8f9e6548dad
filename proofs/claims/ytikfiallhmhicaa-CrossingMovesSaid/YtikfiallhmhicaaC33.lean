/- Layer 2: what both sides answer, with all errors; which pairs are small; the law on counts. -/
import Derived.Test.YtikfiallhmhicaaC32
import Derived.Test.YtikfiallhmhicaaT20
set_option linter.all false
namespace Go.Proofs.Ytikfiallhmhicaa
open Go.RowKit


def stR (p : Pr) : Int := if ckE p = 0 then stN p else 0
def nuR (p : Pr) (s : St3) : Int := if asE p s = 0 then numI p s else 0
def soB (p : Pr) (i : Int) : Bool := decide (ckE p = 0) && decide (0 ≤ i ∧ i < stN p)
def soR (p : Pr) (i : Int) : St3 := if soB p i then stateI p i else st0
def soE (p : Pr) (i : Int) : Int := if ckE p = 0 then (if 0 ≤ i ∧ i < stN p then 0 else 1) else ckE p
theorem States_c (p : Pr)  (v : Value) (w : World) (h : IsPair w w.heap.size v p) : Calls Try.prog 8 #[v] w fun e w' => e = .returned (.tuple #[.int .i64 (stR p), .int .i64 (ckE p)]) ∧ Below w.heap.size w w' := by
  unfold stR
  by_cases h0 : ckE p = 0
  · rw [if_pos h0, h0]; exact States_ok p v w h h0
  · rw [if_neg h0]; exact States_bad p v w h h0
theorem Number_c (p : Pr) (a b t : Int) (v : Value) (w : World) (h : IsPair w w.heap.size v p) : Calls Try.prog 10 #[v, .agg #[.int .i64 a, .int .i64 b, .int .i64 t]] w fun e w' => e = .returned (.tuple #[.int .i64 (nuR p ⟨a, b, t⟩), .int .i64 (asE p ⟨a, b, t⟩)]) ∧ Below w.heap.size w w' := by
  unfold nuR
  by_cases h0 : asE p ⟨a, b, t⟩ = 0
  · rw [if_pos h0, h0]; exact Number_ok p a b t v w h h0
  · rw [if_neg h0]; exact Number_bad p a b t v w h h0
theorem StateOf_c (p : Pr) (i : Int) (v : Value) (w : World) (h : IsPair w w.heap.size v p) : Calls Try.prog 12 #[v, .int .i64 i] w fun e w' => e = .returned (.tuple #[stV (soR p i), .int .i64 (soE p i)]) ∧ Below w.heap.size w w' := by
  unfold soR soE soB
  by_cases h0 : ckE p = 0
  · by_cases hi : 0 ≤ i ∧ i < stN p
    · simp only [h0, hi, decide_true, Bool.and_self, if_true, and_self]; exact StateOf_ok p i v w h h0 hi
    · simp only [h0, hi, decide_true, decide_false, Bool.and_false, if_true, if_false, Bool.false_eq_true]; exact StateOf_none p i v w h h0 hi
  · simp only [h0, decide_false, Bool.false_and, if_false, Bool.false_eq_true]; exact StateOf_bad p i v w h h0
theorem kStates_c (p : Pr)  (v : Value) (w : World) (h : IsPair w w.heap.size v p) : Calls Try.prog 9 #[v] w fun e w' => e = .returned (.tuple #[.int .i64 (stR p), .int .i64 (ckE p)]) ∧ Below w.heap.size w w' := by
  unfold stR
  by_cases h0 : ckE p = 0
  · rw [if_pos h0, h0]; exact kStates_ok p v w h h0
  · rw [if_neg h0]; exact kStates_bad p v w h h0
theorem kNumber_c (p : Pr) (a b t : Int) (v : Value) (w : World) (h : IsPair w w.heap.size v p) : Calls Try.prog 11 #[v, .agg #[.int .i64 a, .int .i64 b, .int .i64 t]] w fun e w' => e = .returned (.tuple #[.int .i64 (nuR p ⟨a, b, t⟩), .int .i64 (asE p ⟨a, b, t⟩)]) ∧ Below w.heap.size w w' := by
  unfold nuR
  by_cases h0 : asE p ⟨a, b, t⟩ = 0
  · rw [if_pos h0, h0]; exact kNumber_ok p a b t v w h h0
  · rw [if_neg h0]; exact kNumber_bad p a b t v w h h0
theorem kStateOf_c (p : Pr) (i : Int) (v : Value) (w : World) (h : IsPair w w.heap.size v p) : Calls Try.prog 13 #[v, .int .i64 i] w fun e w' => e = .returned (.tuple #[stV (soR p i), .int .i64 (soE p i)]) ∧ Below w.heap.size w w' := by
  unfold soR soE soB
  by_cases h0 : ckE p = 0
  · by_cases hi : 0 ≤ i ∧ i < stN p
    · simp only [h0, hi, decide_true, Bool.and_self, if_true, and_self]; exact kStateOf_ok p i v w h h0 hi
    · simp only [h0, hi, decide_true, decide_false, Bool.and_false, if_true, if_false, Bool.false_eq_true]; exact kStateOf_none p i v w h h0 hi
  · simp only [h0, decide_false, Bool.false_and, if_false, Bool.false_eq_true]; exact kStateOf_bad p i v w h h0
set_option maxRecDepth 100000 in
set_option maxHeartbeats 8000000 in
theorem small_c (p : Pr) (v : Value) (w : World) (h : IsPair w w.heap.size v p) : Calls Try.prog 7 #[v] w fun e w' => (∃ b : Bool, e = .returned (.bool b)) ∧ Below w.heap.size w w' := by
  obtain ⟨s, r, d, hpv, i1, i2, i3⟩ := id h
  subst hpv
  obtain ⟨⟨e1, R1, S1, k1⟩, ⟨e2, R2, S2, k2⟩, dr⟩ := p
  obtain ⟨SA, sn, sc, rfl⟩ : ∃ A n c, s = .slice A n c := by obtain ⟨-, A, c, rfl, -⟩ := i1; exact ⟨_, _, _, rfl⟩
  obtain ⟨RA, rn, rc, rfl⟩ : ∃ A n c, r = .slice A n c := by obtain ⟨-, A, c, rfl, -⟩ := i2; exact ⟨_, _, _, rfl⟩
  unfold pairV at *
  dsimp only at *
  obtain ⟨n, hn⟩ : ∃ n, dr.length = n := ⟨_, rfl⟩
  have HDL := Lib.hid hn
  obtain ⟨DA, dc, rfl⟩ : ∃ A c, d = .slice A n c := by obtain ⟨-, A, c, rfl, -⟩ := i3; exact ⟨A, c, by rw [hn]⟩
  clear hn
  have HD0 := Lib.hid i3
  have HP0 := Lib.hid h
  clear h i1 i2 i3
  by_cases c1 : 3000 < sn
  · have d1 : decide ((3000 : Int) < (sn : Int)) = true := by simp; omega
    have d1' : decide (3000 < sn) = true := by simp; omega
    go_enter Try.func7, Try.ntmps7
    go_wp2_with fail
    obtain ⟨W1, hW2⟩ : ∃ Wzz, (w.alloc (.cells #[.int .i64 e1, .int .i64 R1, .int .i64 S1, .slice SA sn sc, .int .i64 e2, .int .i64 R2, .int .i64 S2, .slice RA rn rc, .slice DA n dc] 27)) = Wzz := ⟨_, rfl⟩
    have B3 := Lib.hid (show Below w.heap.size w W1 by rw [← hW2]; exact ((Below.refl w.heap.size w).alloc (Nat.le_refl _) _))
    have X4 := Lib.hid (show Box W1 (w.heap.size) 27 #[.int .i64 e1, .int .i64 R1, .int .i64 S1, .slice SA sn sc, .int .i64 e2, .int .i64 R2, .int .i64 S2, .slice RA rn rc, .slice DA n dc] by rw [← hW2]; exact Box.made w 27 #[.int .i64 e1, .int .i64 R1, .int .i64 S1, .slice SA sn sc, .int .i64 e2, .int .i64 R2, .int .i64 S2, .slice RA rn rc, .slice DA n dc])
    have C5 := Lib.hid (HD0.out.later B3.out)
    have C6 := Lib.hid (HP0.out.later B3.out)
    have SZ7 := Lib.hid (show W1.heap.size = w.heap.size + 1 by rw [← hW2]; simp)
    rw [hW2]
    clear hW2
    have q8 : W1.cell? ⟨w.heap.size, 0, none⟩ = some (.int .i64 e1) := X4.out.cell 0
    have q9 : W1.cell? ⟨w.heap.size, 1, none⟩ = some (.int .i64 R1) := X4.out.cell 1
    have q10 : W1.cell? ⟨w.heap.size, 2, none⟩ = some (.int .i64 S1) := X4.out.cell 2
    have q11 : W1.cell? ⟨w.heap.size, 3, none⟩ = some (.slice SA sn sc) := X4.out.cell 3
    have q12 : W1.cell? ⟨w.heap.size, 4, none⟩ = some (.int .i64 e2) := X4.out.cell 4
    have q13 : W1.cell? ⟨w.heap.size, 5, none⟩ = some (.int .i64 R2) := X4.out.cell 5
    have q14 : W1.cell? ⟨w.heap.size, 6, none⟩ = some (.int .i64 S2) := X4.out.cell 6
    have q15 : W1.cell? ⟨w.heap.size, 7, none⟩ = some (.slice RA rn rc) := X4.out.cell 7
    have q16 : W1.cell? ⟨w.heap.size, 8, none⟩ = some (.slice DA n dc) := X4.out.cell 8
    try go_wp2_with fail
    go_ret
    exact ⟨⟨_, rfl⟩, B3.out⟩
  have d1 : decide ((3000 : Int) < (sn : Int)) = false := by simp; omega
  have d1' : decide (3000 < sn) = false := by simp; omega
  clear c1
  by_cases c2 : 3000 < rn
  · have d2 : decide ((3000 : Int) < (rn : Int)) = true := by simp; omega
    have d2' : decide (3000 < rn) = true := by simp; omega
    go_enter Try.func7, Try.ntmps7
    go_wp2_with fail
    obtain ⟨W17, hW18⟩ : ∃ Wzz, (w.alloc (.cells #[.int .i64 e1, .int .i64 R1, .int .i64 S1, .slice SA sn sc, .int .i64 e2, .int .i64 R2, .int .i64 S2, .slice RA rn rc, .slice DA n dc] 27)) = Wzz := ⟨_, rfl⟩
    have B19 := Lib.hid (show Below w.heap.size w W17 by rw [← hW18]; exact ((Below.refl w.heap.size w).alloc (Nat.le_refl _) _))
    have X20 := Lib.hid (show Box W17 (w.heap.size) 27 #[.int .i64 e1, .int .i64 R1, .int .i64 S1, .slice SA sn sc, .int .i64 e2, .int .i64 R2, .int .i64 S2, .slice RA rn rc, .slice DA n dc] by rw [← hW18]; exact Box.made w 27 #[.int .i64 e1, .int .i64 R1, .int .i64 S1, .slice SA sn sc, .int .i64 e2, .int .i64 R2, .int .i64 S2, .slice RA rn rc, .slice DA n dc])
    have C21 := Lib.hid (HD0.out.later B19.out)
    have C22 := Lib.hid (HP0.out.later B19.out)
    have SZ23 := Lib.hid (show W17.heap.size = w.heap.size + 1 by rw [← hW18]; simp)
    rw [hW18]
    clear hW18
    have q24 : W17.cell? ⟨w.heap.size, 0, none⟩ = some (.int .i64 e1) := X20.out.cell 0
    have q25 : W17.cell? ⟨w.heap.size, 1, none⟩ = some (.int .i64 R1) := X20.out.cell 1
    have q26 : W17.cell? ⟨w.heap.size, 2, none⟩ = some (.int .i64 S1) := X20.out.cell 2
    have q27 : W17.cell? ⟨w.heap.size, 3, none⟩ = some (.slice SA sn sc) := X20.out.cell 3
    have q28 : W17.cell? ⟨w.heap.size, 4, none⟩ = some (.int .i64 e2) := X20.out.cell 4
    have q29 : W17.cell? ⟨w.heap.size, 5, none⟩ = some (.int .i64 R2) := X20.out.cell 5
    have q30 : W17.cell? ⟨w.heap.size, 6, none⟩ = some (.int .i64 S2) := X20.out.cell 6
    have q31 : W17.cell? ⟨w.heap.size, 7, none⟩ = some (.slice RA rn rc) := X20.out.cell 7
    have q32 : W17.cell? ⟨w.heap.size, 8, none⟩ = some (.slice DA n dc) := X20.out.cell 8
    try go_wp2_with fail
    go_ret
    exact ⟨⟨_, rfl⟩, B19.out⟩
  have d2 : decide ((3000 : Int) < (rn : Int)) = false := by simp; omega
  have d2' : decide (3000 < rn) = false := by simp; omega
  clear c2
  by_cases c3 : 20 < n
  · have d3 : decide ((20 : Int) < (n : Int)) = true := by simp; omega
    have d3' : decide (20 < n) = true := by simp; omega
    go_enter Try.func7, Try.ntmps7
    go_wp2_with fail
    obtain ⟨W33, hW34⟩ : ∃ Wzz, (w.alloc (.cells #[.int .i64 e1, .int .i64 R1, .int .i64 S1, .slice SA sn sc, .int .i64 e2, .int .i64 R2, .int .i64 S2, .slice RA rn rc, .slice DA n dc] 27)) = Wzz := ⟨_, rfl⟩
    have B35 := Lib.hid (show Below w.heap.size w W33 by rw [← hW34]; exact ((Below.refl w.heap.size w).alloc (Nat.le_refl _) _))
    have X36 := Lib.hid (show Box W33 (w.heap.size) 27 #[.int .i64 e1, .int .i64 R1, .int .i64 S1, .slice SA sn sc, .int .i64 e2, .int .i64 R2, .int .i64 S2, .slice RA rn rc, .slice DA n dc] by rw [← hW34]; exact Box.made w 27 #[.int .i64 e1, .int .i64 R1, .int .i64 S1, .slice SA sn sc, .int .i64 e2, .int .i64 R2, .int .i64 S2, .slice RA rn rc, .slice DA n dc])
    have C37 := Lib.hid (HD0.out.later B35.out)
    have C38 := Lib.hid (HP0.out.later B35.out)
    have SZ39 := Lib.hid (show W33.heap.size = w.heap.size + 1 by rw [← hW34]; simp)
    rw [hW34]
    clear hW34
    have q40 : W33.cell? ⟨w.heap.size, 0, none⟩ = some (.int .i64 e1) := X36.out.cell 0
    have q41 : W33.cell? ⟨w.heap.size, 1, none⟩ = some (.int .i64 R1) := X36.out.cell 1
    have q42 : W33.cell? ⟨w.heap.size, 2, none⟩ = some (.int .i64 S1) := X36.out.cell 2
    have q43 : W33.cell? ⟨w.heap.size, 3, none⟩ = some (.slice SA sn sc) := X36.out.cell 3
    have q44 : W33.cell? ⟨w.heap.size, 4, none⟩ = some (.int .i64 e2) := X36.out.cell 4
    have q45 : W33.cell? ⟨w.heap.size, 5, none⟩ = some (.int .i64 R2) := X36.out.cell 5
    have q46 : W33.cell? ⟨w.heap.size, 6, none⟩ = some (.int .i64 S2) := X36.out.cell 6
    have q47 : W33.cell? ⟨w.heap.size, 7, none⟩ = some (.slice RA rn rc) := X36.out.cell 7
    have q48 : W33.cell? ⟨w.heap.size, 8, none⟩ = some (.slice DA n dc) := X36.out.cell 8
    try go_wp2_with fail
    go_ret
    exact ⟨⟨_, rfl⟩, B35.out⟩
  have d3 : decide ((20 : Int) < (n : Int)) = false := by simp; omega
  have d3' : decide (20 < n) = false := by simp; omega
  have hn20 : n ≤ 20 := by omega
  clear c3
  go_enter Try.func7, Try.ntmps7
  go_wp2_with fail
  obtain ⟨W49, hW50⟩ : ∃ Wzz, (w.alloc (.cells #[.int .i64 e1, .int .i64 R1, .int .i64 S1, .slice SA sn sc, .int .i64 e2, .int .i64 R2, .int .i64 S2, .slice RA rn rc, .slice DA n dc] 27)) = Wzz := ⟨_, rfl⟩
  have B51 := Lib.hid (show Below w.heap.size w W49 by rw [← hW50]; exact ((Below.refl w.heap.size w).alloc (Nat.le_refl _) _))
  have X52 := Lib.hid (show Box W49 (w.heap.size) 27 #[.int .i64 e1, .int .i64 R1, .int .i64 S1, .slice SA sn sc, .int .i64 e2, .int .i64 R2, .int .i64 S2, .slice RA rn rc, .slice DA n dc] by rw [← hW50]; exact Box.made w 27 #[.int .i64 e1, .int .i64 R1, .int .i64 S1, .slice SA sn sc, .int .i64 e2, .int .i64 R2, .int .i64 S2, .slice RA rn rc, .slice DA n dc])
  have C53 := Lib.hid (HD0.out.later B51.out)
  have C54 := Lib.hid (HP0.out.later B51.out)
  have SZ55 := Lib.hid (show W49.heap.size = w.heap.size + 1 by rw [← hW50]; simp)
  rw [hW50]
  clear hW50
  have q56 : W49.cell? ⟨w.heap.size, 0, none⟩ = some (.int .i64 e1) := X52.out.cell 0
  have q57 : W49.cell? ⟨w.heap.size, 1, none⟩ = some (.int .i64 R1) := X52.out.cell 1
  have q58 : W49.cell? ⟨w.heap.size, 2, none⟩ = some (.int .i64 S1) := X52.out.cell 2
  have q59 : W49.cell? ⟨w.heap.size, 3, none⟩ = some (.slice SA sn sc) := X52.out.cell 3
  have q60 : W49.cell? ⟨w.heap.size, 4, none⟩ = some (.int .i64 e2) := X52.out.cell 4
  have q61 : W49.cell? ⟨w.heap.size, 5, none⟩ = some (.int .i64 R2) := X52.out.cell 5
  have q62 : W49.cell? ⟨w.heap.size, 6, none⟩ = some (.int .i64 S2) := X52.out.cell 6
  have q63 : W49.cell? ⟨w.heap.size, 7, none⟩ = some (.slice RA rn rc) := X52.out.cell 7
  have q64 : W49.cell? ⟨w.heap.size, 8, none⟩ = some (.slice DA n dc) := X52.out.cell 8
  go_loopw [3] (fun i wr => ∃ k : Nat, k ≤ n ∧ i = .int .i64 (k : Int) ∧ Below W49.heap.size W49 wr) (fun i _ => n - (intOf i).toNat)
  case atStart => exact ⟨0, Nat.zero_le _, rfl, Below.refl _ _⟩
  case round =>
    obtain ⟨k, hk, rfl, hbr⟩ := hrel
    have HBR := Lib.hid hbr
    have HDR := Lib.hid (C53.out.later hbr)
    have HPR := Lib.hid (C54.out.later hbr)
    have HBX := Lib.hid (X52.out.later hbr)
    have g0 : wr.cell? ⟨w.heap.size, 0, none⟩ = some (.int .i64 e1) := HBX.out.cell 0
    have g1 : wr.cell? ⟨w.heap.size, 1, none⟩ = some (.int .i64 R1) := HBX.out.cell 1
    have g2 : wr.cell? ⟨w.heap.size, 2, none⟩ = some (.int .i64 S1) := HBX.out.cell 2
    have g3 : wr.cell? ⟨w.heap.size, 3, none⟩ = some (.slice SA sn sc) := HBX.out.cell 3
    have g4 : wr.cell? ⟨w.heap.size, 4, none⟩ = some (.int .i64 e2) := HBX.out.cell 4
    have g5 : wr.cell? ⟨w.heap.size, 5, none⟩ = some (.int .i64 R2) := HBX.out.cell 5
    have g6 : wr.cell? ⟨w.heap.size, 6, none⟩ = some (.int .i64 S2) := HBX.out.cell 6
    have g7 : wr.cell? ⟨w.heap.size, 7, none⟩ = some (.slice RA rn rc) := HBX.out.cell 7
    have g8 : wr.cell? ⟨w.heap.size, 8, none⟩ = some (.slice DA n dc) := HBX.out.cell 8
    clear hbr
    by_cases hlt : k < n
    · have hdk : decide ((k : Int) < (n : Int)) = true := by simpa using hlt
      have i0 : (0 : Int) ≤ (k : Int) := Int.natCast_nonneg _
      have i1 : (k : Int) < (n : Int) := by omega
      obtain ⟨b, off, c', sl, hv, hbB, x1, hms⟩ := HDR.out.at (k := k) (by rw [HDL.out]; exact hlt)
      rw [HDL.out] at hv
      cases hv
      obtain ⟨-, LA, lc, rfl, -⟩ := hms
      have HLT := Lib.hid hlt
      obtain ⟨ll, hll⟩ : ∃ ll, (nthL dr k).length = ll := ⟨_, rfl⟩
      rw [hll] at x1
      clear hbB hlt hll
      by_cases c5 : 10 < ll
      · have d5 : decide ((10 : Int) < (ll : Int)) = true := by simp; omega
        have d5' : decide (10 < ll) = true := by simp; omega
        clear c5
        go_wp2_with fail
        go_ret
        exact ⟨⟨_, rfl⟩, B51.out.trans (HBR.out.mono B51.out.size)⟩
      · have d5 : decide ((10 : Int) < (ll : Int)) = false := by simp; omega
        have d5' : decide (10 < ll) = false := by simp; omega
        clear c5
        go_wp2_with fail
        go_roundw
        case rel => exact ⟨k + 1, by have := HLT.out; omega, by go_num, HBR.out⟩
        case measure => have := HLT.out; simp [intOf]; omega
    · obtain rfl : k = n := by omega
      have hdk : decide ((k : Int) < (k : Int)) = false := by simp
      clear hlt
      go_wp2_with fail
      refine (kStates_c ⟨⟨e1, R1, S1, k1⟩, ⟨e2, R2, S2, k2⟩, dr⟩ _ wr HPR.out).mono ?_; rintro e w3 ⟨rfl, hb3⟩
      have HB3 := Lib.hid (B51.out.trans ((HBR.out.trans (hb3.mono HBR.out.size)).mono B51.out.size))
      clear hb3 g0 g1 g2 g3 g4 g5 g6 g7 g8
      obtain ⟨N, hN⟩ : ∃ N, stR ⟨⟨e1, R1, S1, k1⟩, ⟨e2, R2, S2, k2⟩, dr⟩ = N := ⟨_, rfl⟩
      obtain ⟨E, hE⟩ : ∃ E, ckE ⟨⟨e1, R1, S1, k1⟩, ⟨e2, R2, S2, k2⟩, dr⟩ = E := ⟨_, rfl⟩
      rw [hN, hE]
      clear hN hE
      go_wp2_with fail
      all_goals go_ret
      all_goals exact ⟨⟨_, rfl⟩, HB3.out⟩

set_option maxRecDepth 100000 in
set_option maxHeartbeats 8000000 in
theorem CrossingCounts_c (p : Pr) (a b t : Int) (i : Int) (v : Value) (w : World) (h : IsPair w w.heap.size v p) : Calls Try.prog 3 #[v, .agg #[.int .i64 a, .int .i64 b, .int .i64 t], .int .i64 i] w fun e w' => e = .returned (.bool true) ∧ Below w.heap.size w w' := by
  obtain ⟨s, r, d, hpv, -, -, -⟩ := id h
  subst hpv
  have HP0 := Lib.hid h
  clear h
  unfold pairV at *
  go_enter Try.func3, Try.ntmps3
  go_wp2_with fail
  obtain ⟨W65, hW66⟩ : ∃ Wzz, ((w.alloc (.cells #[.int .i64 p.bed.eye, .int .i64 p.bed.rings, .int .i64 p.bed.sectors, s, .int .i64 p.run.eye, .int .i64 p.run.rings, .int .i64 p.run.sectors, r, d] 27)).alloc (.cells #[.int .i64 a, .int .i64 b, .int .i64 t] 29)) = Wzz := ⟨_, rfl⟩
  have B67 := Lib.hid (show Below w.heap.size w W65 by rw [← hW66]; exact (((Below.refl w.heap.size w).alloc (Nat.le_refl _) _).alloc (by first | (simp; done) | (simp; omega)) _))
  have X68 := Lib.hid (show Box W65 (w.heap.size) 27 #[.int .i64 p.bed.eye, .int .i64 p.bed.rings, .int .i64 p.bed.sectors, s, .int .i64 p.run.eye, .int .i64 p.run.rings, .int .i64 p.run.sectors, r, d] by rw [← hW66]; exact Box.alloc (Box.made w 27 #[.int .i64 p.bed.eye, .int .i64 p.bed.rings, .int .i64 p.bed.sectors, s, .int .i64 p.run.eye, .int .i64 p.run.rings, .int .i64 p.run.sectors, r, d]) (.cells #[.int .i64 a, .int .i64 b, .int .i64 t] 29))
  have X69 := Lib.hid (show Box W65 (w.heap.size + 1) 29 #[.int .i64 a, .int .i64 b, .int .i64 t] by
    have hz := Box.made (w.alloc (.cells #[.int .i64 p.bed.eye, .int .i64 p.bed.rings, .int .i64 p.bed.sectors, s, .int .i64 p.run.eye, .int .i64 p.run.rings, .int .i64 p.run.sectors, r, d] 27)) 29 #[.int .i64 a, .int .i64 b, .int .i64 t]
    rw [World.size_alloc] at hz
    rw [← hW66]; exact hz)
  have C70 := Lib.hid (HP0.out.later B67.out)
  have SZ71 := Lib.hid (show W65.heap.size = w.heap.size + 1 + 1 by rw [← hW66]; simp)
  rw [hW66]
  clear hW66
  have q72 : W65.cell? ⟨w.heap.size, 0, none⟩ = some (.int .i64 p.bed.eye) := X68.out.cell 0
  have q73 : W65.cell? ⟨w.heap.size, 1, none⟩ = some (.int .i64 p.bed.rings) := X68.out.cell 1
  have q74 : W65.cell? ⟨w.heap.size, 2, none⟩ = some (.int .i64 p.bed.sectors) := X68.out.cell 2
  have q75 : W65.cell? ⟨w.heap.size, 3, none⟩ = some (s) := X68.out.cell 3
  have q76 : W65.cell? ⟨w.heap.size, 4, none⟩ = some (.int .i64 p.run.eye) := X68.out.cell 4
  have q77 : W65.cell? ⟨w.heap.size, 5, none⟩ = some (.int .i64 p.run.rings) := X68.out.cell 5
  have q78 : W65.cell? ⟨w.heap.size, 6, none⟩ = some (.int .i64 p.run.sectors) := X68.out.cell 6
  have q79 : W65.cell? ⟨w.heap.size, 7, none⟩ = some (r) := X68.out.cell 7
  have q80 : W65.cell? ⟨w.heap.size, 8, none⟩ = some (d) := X68.out.cell 8
  have q81 : W65.cell? ⟨w.heap.size + 1, 0, none⟩ = some (.int .i64 a) := X69.out.cell 0
  have q82 : W65.cell? ⟨w.heap.size + 1, 1, none⟩ = some (.int .i64 b) := X69.out.cell 1
  have q83 : W65.cell? ⟨w.heap.size + 1, 2, none⟩ = some (.int .i64 t) := X69.out.cell 2
  go_wp2_with fail
  refine (awake_c _).mono ?_; rintro e v84 ⟨rfl, hb85⟩
  have X86 := Lib.hid (X68.out.later hb85)
  have X87 := Lib.hid (X69.out.later hb85)
  have C88 := Lib.hid (C70.out.later hb85)
  have B89 := Lib.hid (B67.out.trans (hb85.mono B67.out.size))
  clear hb85
  clear q72 q73 q74 q75 q76 q77 q78 q79 q80 q81 q82 q83
  have q90 : v84.cell? ⟨w.heap.size, 0, none⟩ = some (.int .i64 p.bed.eye) := X86.out.cell 0
  have q91 : v84.cell? ⟨w.heap.size, 1, none⟩ = some (.int .i64 p.bed.rings) := X86.out.cell 1
  have q92 : v84.cell? ⟨w.heap.size, 2, none⟩ = some (.int .i64 p.bed.sectors) := X86.out.cell 2
  have q93 : v84.cell? ⟨w.heap.size, 3, none⟩ = some (s) := X86.out.cell 3
  have q94 : v84.cell? ⟨w.heap.size, 4, none⟩ = some (.int .i64 p.run.eye) := X86.out.cell 4
  have q95 : v84.cell? ⟨w.heap.size, 5, none⟩ = some (.int .i64 p.run.rings) := X86.out.cell 5
  have q96 : v84.cell? ⟨w.heap.size, 6, none⟩ = some (.int .i64 p.run.sectors) := X86.out.cell 6
  have q97 : v84.cell? ⟨w.heap.size, 7, none⟩ = some (r) := X86.out.cell 7
  have q98 : v84.cell? ⟨w.heap.size, 8, none⟩ = some (d) := X86.out.cell 8
  have q99 : v84.cell? ⟨w.heap.size + 1, 0, none⟩ = some (.int .i64 a) := X87.out.cell 0
  have q100 : v84.cell? ⟨w.heap.size + 1, 1, none⟩ = some (.int .i64 b) := X87.out.cell 1
  have q101 : v84.cell? ⟨w.heap.size + 1, 2, none⟩ = some (.int .i64 t) := X87.out.cell 2
  go_wp2_with fail
  refine (small_c p _ _ C88.out).mono ?_; rintro e v102 ⟨⟨sm, rfl⟩, hb103⟩
  have X104 := Lib.hid (X86.out.later hb103)
  have X105 := Lib.hid (X87.out.later hb103)
  have C106 := Lib.hid (C88.out.later hb103)
  have B107 := Lib.hid (B89.out.trans (hb103.mono B89.out.size))
  clear hb103
  clear q90 q91 q92 q93 q94 q95 q96 q97 q98 q99 q100 q101
  have q108 : v102.cell? ⟨w.heap.size, 0, none⟩ = some (.int .i64 p.bed.eye) := X104.out.cell 0
  have q109 : v102.cell? ⟨w.heap.size, 1, none⟩ = some (.int .i64 p.bed.rings) := X104.out.cell 1
  have q110 : v102.cell? ⟨w.heap.size, 2, none⟩ = some (.int .i64 p.bed.sectors) := X104.out.cell 2
  have q111 : v102.cell? ⟨w.heap.size, 3, none⟩ = some (s) := X104.out.cell 3
  have q112 : v102.cell? ⟨w.heap.size, 4, none⟩ = some (.int .i64 p.run.eye) := X104.out.cell 4
  have q113 : v102.cell? ⟨w.heap.size, 5, none⟩ = some (.int .i64 p.run.rings) := X104.out.cell 5
  have q114 : v102.cell? ⟨w.heap.size, 6, none⟩ = some (.int .i64 p.run.sectors) := X104.out.cell 6
  have q115 : v102.cell? ⟨w.heap.size, 7, none⟩ = some (r) := X104.out.cell 7
  have q116 : v102.cell? ⟨w.heap.size, 8, none⟩ = some (d) := X104.out.cell 8
  have q117 : v102.cell? ⟨w.heap.size + 1, 0, none⟩ = some (.int .i64 a) := X105.out.cell 0
  have q118 : v102.cell? ⟨w.heap.size + 1, 1, none⟩ = some (.int .i64 b) := X105.out.cell 1
  have q119 : v102.cell? ⟨w.heap.size + 1, 2, none⟩ = some (.int .i64 t) := X105.out.cell 2
  cases sm
  · go_wp2_with fail
    go_ret
    exact ⟨rfl, B107.out⟩
  · obtain ⟨N, hn9⟩ : ∃ X9, stR p = X9 := ⟨_, rfl⟩
    have HN := Lib.hid hn9
    clear hn9
    obtain ⟨E, he9⟩ : ∃ X9, ckE p = X9 := ⟨_, rfl⟩
    have HE := Lib.hid he9
    clear he9
    obtain ⟨M, hm9⟩ : ∃ X9, nuR p ⟨a, b, t⟩ = X9 := ⟨_, rfl⟩
    have HM := Lib.hid hm9
    clear hm9
    obtain ⟨F, hf9⟩ : ∃ X9, asE p ⟨a, b, t⟩ = X9 := ⟨_, rfl⟩
    have HF := Lib.hid hf9
    clear hf9
    obtain ⟨G, hg9⟩ : ∃ X9, soE p i = X9 := ⟨_, rfl⟩
    have HG := Lib.hid hg9
    clear hg9
    obtain ⟨⟨sx, sy, sz⟩, hs9⟩ : ∃ X9, soR p i = X9 := ⟨_, rfl⟩
    have HS := Lib.hid hs9
    clear hs9
    go_wp2_with fail
    refine (States_c p _ _ C106.out).mono ?_; rintro e v120 ⟨rfl, hb121⟩
    have X122 := Lib.hid (X104.out.later hb121)
    have X123 := Lib.hid (X105.out.later hb121)
    have C124 := Lib.hid (C106.out.later hb121)
    have B125 := Lib.hid (B107.out.trans (hb121.mono B107.out.size))
    clear hb121
    rw [HN.out, HE.out]
    clear q108 q109 q110 q111 q112 q113 q114 q115 q116 q117 q118 q119
    have q126 : v120.cell? ⟨w.heap.size, 0, none⟩ = some (.int .i64 p.bed.eye) := X122.out.cell 0
    have q127 : v120.cell? ⟨w.heap.size, 1, none⟩ = some (.int .i64 p.bed.rings) := X122.out.cell 1
    have q128 : v120.cell? ⟨w.heap.size, 2, none⟩ = some (.int .i64 p.bed.sectors) := X122.out.cell 2
    have q129 : v120.cell? ⟨w.heap.size, 3, none⟩ = some (s) := X122.out.cell 3
    have q130 : v120.cell? ⟨w.heap.size, 4, none⟩ = some (.int .i64 p.run.eye) := X122.out.cell 4
    have q131 : v120.cell? ⟨w.heap.size, 5, none⟩ = some (.int .i64 p.run.rings) := X122.out.cell 5
    have q132 : v120.cell? ⟨w.heap.size, 6, none⟩ = some (.int .i64 p.run.sectors) := X122.out.cell 6
    have q133 : v120.cell? ⟨w.heap.size, 7, none⟩ = some (r) := X122.out.cell 7
    have q134 : v120.cell? ⟨w.heap.size, 8, none⟩ = some (d) := X122.out.cell 8
    have q135 : v120.cell? ⟨w.heap.size + 1, 0, none⟩ = some (.int .i64 a) := X123.out.cell 0
    have q136 : v120.cell? ⟨w.heap.size + 1, 1, none⟩ = some (.int .i64 b) := X123.out.cell 1
    have q137 : v120.cell? ⟨w.heap.size + 1, 2, none⟩ = some (.int .i64 t) := X123.out.cell 2
    go_wp2_with fail
    refine (kStates_c p _ _ C124.out).mono ?_; rintro e v138 ⟨rfl, hb139⟩
    have X140 := Lib.hid (X122.out.later hb139)
    have X141 := Lib.hid (X123.out.later hb139)
    have C142 := Lib.hid (C124.out.later hb139)
    have B143 := Lib.hid (B125.out.trans (hb139.mono B125.out.size))
    clear hb139
    rw [HN.out, HE.out]
    clear q126 q127 q128 q129 q130 q131 q132 q133 q134 q135 q136 q137
    have q144 : v138.cell? ⟨w.heap.size, 0, none⟩ = some (.int .i64 p.bed.eye) := X140.out.cell 0
    have q145 : v138.cell? ⟨w.heap.size, 1, none⟩ = some (.int .i64 p.bed.rings) := X140.out.cell 1
    have q146 : v138.cell? ⟨w.heap.size, 2, none⟩ = some (.int .i64 p.bed.sectors) := X140.out.cell 2
    have q147 : v138.cell? ⟨w.heap.size, 3, none⟩ = some (s) := X140.out.cell 3
    have q148 : v138.cell? ⟨w.heap.size, 4, none⟩ = some (.int .i64 p.run.eye) := X140.out.cell 4
    have q149 : v138.cell? ⟨w.heap.size, 5, none⟩ = some (.int .i64 p.run.rings) := X140.out.cell 5
    have q150 : v138.cell? ⟨w.heap.size, 6, none⟩ = some (.int .i64 p.run.sectors) := X140.out.cell 6
    have q151 : v138.cell? ⟨w.heap.size, 7, none⟩ = some (r) := X140.out.cell 7
    have q152 : v138.cell? ⟨w.heap.size, 8, none⟩ = some (d) := X140.out.cell 8
    have q153 : v138.cell? ⟨w.heap.size + 1, 0, none⟩ = some (.int .i64 a) := X141.out.cell 0
    have q154 : v138.cell? ⟨w.heap.size + 1, 1, none⟩ = some (.int .i64 b) := X141.out.cell 1
    have q155 : v138.cell? ⟨w.heap.size + 1, 2, none⟩ = some (.int .i64 t) := X141.out.cell 2
    go_wp2_with fail
    refine (Number_c p a b t _ _ C142.out).mono ?_; rintro e v156 ⟨rfl, hb157⟩
    have X158 := Lib.hid (X140.out.later hb157)
    have X159 := Lib.hid (X141.out.later hb157)
    have C160 := Lib.hid (C142.out.later hb157)
    have B161 := Lib.hid (B143.out.trans (hb157.mono B143.out.size))
    clear hb157
    rw [HM.out, HF.out]
    clear q144 q145 q146 q147 q148 q149 q150 q151 q152 q153 q154 q155
    have q162 : v156.cell? ⟨w.heap.size, 0, none⟩ = some (.int .i64 p.bed.eye) := X158.out.cell 0
    have q163 : v156.cell? ⟨w.heap.size, 1, none⟩ = some (.int .i64 p.bed.rings) := X158.out.cell 1
    have q164 : v156.cell? ⟨w.heap.size, 2, none⟩ = some (.int .i64 p.bed.sectors) := X158.out.cell 2
    have q165 : v156.cell? ⟨w.heap.size, 3, none⟩ = some (s) := X158.out.cell 3
    have q166 : v156.cell? ⟨w.heap.size, 4, none⟩ = some (.int .i64 p.run.eye) := X158.out.cell 4
    have q167 : v156.cell? ⟨w.heap.size, 5, none⟩ = some (.int .i64 p.run.rings) := X158.out.cell 5
    have q168 : v156.cell? ⟨w.heap.size, 6, none⟩ = some (.int .i64 p.run.sectors) := X158.out.cell 6
    have q169 : v156.cell? ⟨w.heap.size, 7, none⟩ = some (r) := X158.out.cell 7
    have q170 : v156.cell? ⟨w.heap.size, 8, none⟩ = some (d) := X158.out.cell 8
    have q171 : v156.cell? ⟨w.heap.size + 1, 0, none⟩ = some (.int .i64 a) := X159.out.cell 0
    have q172 : v156.cell? ⟨w.heap.size + 1, 1, none⟩ = some (.int .i64 b) := X159.out.cell 1
    have q173 : v156.cell? ⟨w.heap.size + 1, 2, none⟩ = some (.int .i64 t) := X159.out.cell 2
    go_wp2_with fail
    refine (kNumber_c p a b t _ _ C160.out).mono ?_; rintro e v174 ⟨rfl, hb175⟩
    have X176 := Lib.hid (X158.out.later hb175)
    have X177 := Lib.hid (X159.out.later hb175)
    have C178 := Lib.hid (C160.out.later hb175)
    have B179 := Lib.hid (B161.out.trans (hb175.mono B161.out.size))
    clear hb175
    rw [HM.out, HF.out]
    clear q162 q163 q164 q165 q166 q167 q168 q169 q170 q171 q172 q173
    have q180 : v174.cell? ⟨w.heap.size, 0, none⟩ = some (.int .i64 p.bed.eye) := X176.out.cell 0
    have q181 : v174.cell? ⟨w.heap.size, 1, none⟩ = some (.int .i64 p.bed.rings) := X176.out.cell 1
    have q182 : v174.cell? ⟨w.heap.size, 2, none⟩ = some (.int .i64 p.bed.sectors) := X176.out.cell 2
    have q183 : v174.cell? ⟨w.heap.size, 3, none⟩ = some (s) := X176.out.cell 3
    have q184 : v174.cell? ⟨w.heap.size, 4, none⟩ = some (.int .i64 p.run.eye) := X176.out.cell 4
    have q185 : v174.cell? ⟨w.heap.size, 5, none⟩ = some (.int .i64 p.run.rings) := X176.out.cell 5
    have q186 : v174.cell? ⟨w.heap.size, 6, none⟩ = some (.int .i64 p.run.sectors) := X176.out.cell 6
    have q187 : v174.cell? ⟨w.heap.size, 7, none⟩ = some (r) := X176.out.cell 7
    have q188 : v174.cell? ⟨w.heap.size, 8, none⟩ = some (d) := X176.out.cell 8
    have q189 : v174.cell? ⟨w.heap.size + 1, 0, none⟩ = some (.int .i64 a) := X177.out.cell 0
    have q190 : v174.cell? ⟨w.heap.size + 1, 1, none⟩ = some (.int .i64 b) := X177.out.cell 1
    have q191 : v174.cell? ⟨w.heap.size + 1, 2, none⟩ = some (.int .i64 t) := X177.out.cell 2
    go_wp2_with fail
    refine (StateOf_c p i _ _ C178.out).mono ?_; rintro e v192 ⟨rfl, hb193⟩
    have X194 := Lib.hid (X176.out.later hb193)
    have X195 := Lib.hid (X177.out.later hb193)
    have C196 := Lib.hid (C178.out.later hb193)
    have B197 := Lib.hid (B179.out.trans (hb193.mono B179.out.size))
    clear hb193
    rw [HS.out, HG.out]
    unfold stV
    dsimp only
    clear q180 q181 q182 q183 q184 q185 q186 q187 q188 q189 q190 q191
    have q198 : v192.cell? ⟨w.heap.size, 0, none⟩ = some (.int .i64 p.bed.eye) := X194.out.cell 0
    have q199 : v192.cell? ⟨w.heap.size, 1, none⟩ = some (.int .i64 p.bed.rings) := X194.out.cell 1
    have q200 : v192.cell? ⟨w.heap.size, 2, none⟩ = some (.int .i64 p.bed.sectors) := X194.out.cell 2
    have q201 : v192.cell? ⟨w.heap.size, 3, none⟩ = some (s) := X194.out.cell 3
    have q202 : v192.cell? ⟨w.heap.size, 4, none⟩ = some (.int .i64 p.run.eye) := X194.out.cell 4
    have q203 : v192.cell? ⟨w.heap.size, 5, none⟩ = some (.int .i64 p.run.rings) := X194.out.cell 5
    have q204 : v192.cell? ⟨w.heap.size, 6, none⟩ = some (.int .i64 p.run.sectors) := X194.out.cell 6
    have q205 : v192.cell? ⟨w.heap.size, 7, none⟩ = some (r) := X194.out.cell 7
    have q206 : v192.cell? ⟨w.heap.size, 8, none⟩ = some (d) := X194.out.cell 8
    have q207 : v192.cell? ⟨w.heap.size + 1, 0, none⟩ = some (.int .i64 a) := X195.out.cell 0
    have q208 : v192.cell? ⟨w.heap.size + 1, 1, none⟩ = some (.int .i64 b) := X195.out.cell 1
    have q209 : v192.cell? ⟨w.heap.size + 1, 2, none⟩ = some (.int .i64 t) := X195.out.cell 2
    have X210 := Lib.hid (X194.out.alloc (.cells #[.int .i64 sx, .int .i64 sy, .int .i64 sz] 29))
    have X211 := Lib.hid (X195.out.alloc (.cells #[.int .i64 sx, .int .i64 sy, .int .i64 sz] 29))
    have C212 := Lib.hid (C196.out.later ((Below.refl v192.heap.size v192).alloc (Nat.le_refl _) (.cells #[.int .i64 sx, .int .i64 sy, .int .i64 sz] 29)))
    have B213 := Lib.hid (B197.out.alloc B197.out.size (.cells #[.int .i64 sx, .int .i64 sy, .int .i64 sz] 29))
    have X214 := Lib.hid (Box.made v192 29 #[.int .i64 sx, .int .i64 sy, .int .i64 sz])
    have q215 : (v192.alloc (.cells #[.int .i64 sx, .int .i64 sy, .int .i64 sz] 29)).cell? ⟨w.heap.size, 0, none⟩ = some (.int .i64 p.bed.eye) := X210.out.cell 0
    have q216 : (v192.alloc (.cells #[.int .i64 sx, .int .i64 sy, .int .i64 sz] 29)).cell? ⟨w.heap.size, 1, none⟩ = some (.int .i64 p.bed.rings) := X210.out.cell 1
    have q217 : (v192.alloc (.cells #[.int .i64 sx, .int .i64 sy, .int .i64 sz] 29)).cell? ⟨w.heap.size, 2, none⟩ = some (.int .i64 p.bed.sectors) := X210.out.cell 2
    have q218 : (v192.alloc (.cells #[.int .i64 sx, .int .i64 sy, .int .i64 sz] 29)).cell? ⟨w.heap.size, 3, none⟩ = some (s) := X210.out.cell 3
    have q219 : (v192.alloc (.cells #[.int .i64 sx, .int .i64 sy, .int .i64 sz] 29)).cell? ⟨w.heap.size, 4, none⟩ = some (.int .i64 p.run.eye) := X210.out.cell 4
    have q220 : (v192.alloc (.cells #[.int .i64 sx, .int .i64 sy, .int .i64 sz] 29)).cell? ⟨w.heap.size, 5, none⟩ = some (.int .i64 p.run.rings) := X210.out.cell 5
    have q221 : (v192.alloc (.cells #[.int .i64 sx, .int .i64 sy, .int .i64 sz] 29)).cell? ⟨w.heap.size, 6, none⟩ = some (.int .i64 p.run.sectors) := X210.out.cell 6
    have q222 : (v192.alloc (.cells #[.int .i64 sx, .int .i64 sy, .int .i64 sz] 29)).cell? ⟨w.heap.size, 7, none⟩ = some (r) := X210.out.cell 7
    have q223 : (v192.alloc (.cells #[.int .i64 sx, .int .i64 sy, .int .i64 sz] 29)).cell? ⟨w.heap.size, 8, none⟩ = some (d) := X210.out.cell 8
    have q224 : (v192.alloc (.cells #[.int .i64 sx, .int .i64 sy, .int .i64 sz] 29)).cell? ⟨w.heap.size + 1, 0, none⟩ = some (.int .i64 a) := X211.out.cell 0
    have q225 : (v192.alloc (.cells #[.int .i64 sx, .int .i64 sy, .int .i64 sz] 29)).cell? ⟨w.heap.size + 1, 1, none⟩ = some (.int .i64 b) := X211.out.cell 1
    have q226 : (v192.alloc (.cells #[.int .i64 sx, .int .i64 sy, .int .i64 sz] 29)).cell? ⟨w.heap.size + 1, 2, none⟩ = some (.int .i64 t) := X211.out.cell 2
    have q227 : (v192.alloc (.cells #[.int .i64 sx, .int .i64 sy, .int .i64 sz] 29)).cell? ⟨v192.heap.size, 0, none⟩ = some (.int .i64 sx) := X214.out.cell 0
    have q228 : (v192.alloc (.cells #[.int .i64 sx, .int .i64 sy, .int .i64 sz] 29)).cell? ⟨v192.heap.size, 1, none⟩ = some (.int .i64 sy) := X214.out.cell 1
    have q229 : (v192.alloc (.cells #[.int .i64 sx, .int .i64 sy, .int .i64 sz] 29)).cell? ⟨v192.heap.size, 2, none⟩ = some (.int .i64 sz) := X214.out.cell 2
    go_wp2_with fail
    refine (kStateOf_c p i _ _ C212.out).mono ?_; rintro e v230 ⟨rfl, hb231⟩
    have X232 := Lib.hid (X210.out.later hb231)
    have X233 := Lib.hid (X211.out.later hb231)
    have X234 := Lib.hid (X214.out.later hb231)
    have C235 := Lib.hid (C212.out.later hb231)
    have B236 := Lib.hid (B213.out.trans (hb231.mono B213.out.size))
    clear hb231
    rw [HS.out, HG.out]
    unfold stV
    dsimp only
    clear q215 q216 q217 q218 q219 q220 q221 q222 q223 q224 q225 q226 q227 q228 q229 q198 q199 q200 q201 q202 q203 q204 q205 q206 q207 q208 q209
    have q237 : v230.cell? ⟨w.heap.size, 0, none⟩ = some (.int .i64 p.bed.eye) := X232.out.cell 0
    have q238 : v230.cell? ⟨w.heap.size, 1, none⟩ = some (.int .i64 p.bed.rings) := X232.out.cell 1
    have q239 : v230.cell? ⟨w.heap.size, 2, none⟩ = some (.int .i64 p.bed.sectors) := X232.out.cell 2
    have q240 : v230.cell? ⟨w.heap.size, 3, none⟩ = some (s) := X232.out.cell 3
    have q241 : v230.cell? ⟨w.heap.size, 4, none⟩ = some (.int .i64 p.run.eye) := X232.out.cell 4
    have q242 : v230.cell? ⟨w.heap.size, 5, none⟩ = some (.int .i64 p.run.rings) := X232.out.cell 5
    have q243 : v230.cell? ⟨w.heap.size, 6, none⟩ = some (.int .i64 p.run.sectors) := X232.out.cell 6
    have q244 : v230.cell? ⟨w.heap.size, 7, none⟩ = some (r) := X232.out.cell 7
    have q245 : v230.cell? ⟨w.heap.size, 8, none⟩ = some (d) := X232.out.cell 8
    have q246 : v230.cell? ⟨w.heap.size + 1, 0, none⟩ = some (.int .i64 a) := X233.out.cell 0
    have q247 : v230.cell? ⟨w.heap.size + 1, 1, none⟩ = some (.int .i64 b) := X233.out.cell 1
    have q248 : v230.cell? ⟨w.heap.size + 1, 2, none⟩ = some (.int .i64 t) := X233.out.cell 2
    have q249 : v230.cell? ⟨v192.heap.size, 0, none⟩ = some (.int .i64 sx) := X234.out.cell 0
    have q250 : v230.cell? ⟨v192.heap.size, 1, none⟩ = some (.int .i64 sy) := X234.out.cell 1
    have q251 : v230.cell? ⟨v192.heap.size, 2, none⟩ = some (.int .i64 sz) := X234.out.cell 2
    have LT252 := Lib.hid X234.out.lt
    have X253 := Lib.hid (X232.out.alloc (.cells #[.int .i64 sx, .int .i64 sy, .int .i64 sz] 29))
    have X254 := Lib.hid (X233.out.alloc (.cells #[.int .i64 sx, .int .i64 sy, .int .i64 sz] 29))
    have X255 := Lib.hid (X234.out.alloc (.cells #[.int .i64 sx, .int .i64 sy, .int .i64 sz] 29))
    have C256 := Lib.hid (C235.out.later ((Below.refl v230.heap.size v230).alloc (Nat.le_refl _) (.cells #[.int .i64 sx, .int .i64 sy, .int .i64 sz] 29)))
    have B257 := Lib.hid (B236.out.alloc B236.out.size (.cells #[.int .i64 sx, .int .i64 sy, .int .i64 sz] 29))
    have X258 := Lib.hid (Box.made v230 29 #[.int .i64 sx, .int .i64 sy, .int .i64 sz])
    have q259 : (v230.alloc (.cells #[.int .i64 sx, .int .i64 sy, .int .i64 sz] 29)).cell? ⟨w.heap.size, 0, none⟩ = some (.int .i64 p.bed.eye) := X253.out.cell 0
    have q260 : (v230.alloc (.cells #[.int .i64 sx, .int .i64 sy, .int .i64 sz] 29)).cell? ⟨w.heap.size, 1, none⟩ = some (.int .i64 p.bed.rings) := X253.out.cell 1
    have q261 : (v230.alloc (.cells #[.int .i64 sx, .int .i64 sy, .int .i64 sz] 29)).cell? ⟨w.heap.size, 2, none⟩ = some (.int .i64 p.bed.sectors) := X253.out.cell 2
    have q262 : (v230.alloc (.cells #[.int .i64 sx, .int .i64 sy, .int .i64 sz] 29)).cell? ⟨w.heap.size, 3, none⟩ = some (s) := X253.out.cell 3
    have q263 : (v230.alloc (.cells #[.int .i64 sx, .int .i64 sy, .int .i64 sz] 29)).cell? ⟨w.heap.size, 4, none⟩ = some (.int .i64 p.run.eye) := X253.out.cell 4
    have q264 : (v230.alloc (.cells #[.int .i64 sx, .int .i64 sy, .int .i64 sz] 29)).cell? ⟨w.heap.size, 5, none⟩ = some (.int .i64 p.run.rings) := X253.out.cell 5
    have q265 : (v230.alloc (.cells #[.int .i64 sx, .int .i64 sy, .int .i64 sz] 29)).cell? ⟨w.heap.size, 6, none⟩ = some (.int .i64 p.run.sectors) := X253.out.cell 6
    have q266 : (v230.alloc (.cells #[.int .i64 sx, .int .i64 sy, .int .i64 sz] 29)).cell? ⟨w.heap.size, 7, none⟩ = some (r) := X253.out.cell 7
    have q267 : (v230.alloc (.cells #[.int .i64 sx, .int .i64 sy, .int .i64 sz] 29)).cell? ⟨w.heap.size, 8, none⟩ = some (d) := X253.out.cell 8
    have q268 : (v230.alloc (.cells #[.int .i64 sx, .int .i64 sy, .int .i64 sz] 29)).cell? ⟨w.heap.size + 1, 0, none⟩ = some (.int .i64 a) := X254.out.cell 0
    have q269 : (v230.alloc (.cells #[.int .i64 sx, .int .i64 sy, .int .i64 sz] 29)).cell? ⟨w.heap.size + 1, 1, none⟩ = some (.int .i64 b) := X254.out.cell 1
    have q270 : (v230.alloc (.cells #[.int .i64 sx, .int .i64 sy, .int .i64 sz] 29)).cell? ⟨w.heap.size + 1, 2, none⟩ = some (.int .i64 t) := X254.out.cell 2
    have q271 : (v230.alloc (.cells #[.int .i64 sx, .int .i64 sy, .int .i64 sz] 29)).cell? ⟨v192.heap.size, 0, none⟩ = some (.int .i64 sx) := X255.out.cell 0
    have q272 : (v230.alloc (.cells #[.int .i64 sx, .int .i64 sy, .int .i64 sz] 29)).cell? ⟨v192.heap.size, 1, none⟩ = some (.int .i64 sy) := X255.out.cell 1
    have q273 : (v230.alloc (.cells #[.int .i64 sx, .int .i64 sy, .int .i64 sz] 29)).cell? ⟨v192.heap.size, 2, none⟩ = some (.int .i64 sz) := X255.out.cell 2
    have q274 : (v230.alloc (.cells #[.int .i64 sx, .int .i64 sy, .int .i64 sz] 29)).cell? ⟨v230.heap.size, 0, none⟩ = some (.int .i64 sx) := X258.out.cell 0
    have q275 : (v230.alloc (.cells #[.int .i64 sx, .int .i64 sy, .int .i64 sz] 29)).cell? ⟨v230.heap.size, 1, none⟩ = some (.int .i64 sy) := X258.out.cell 1
    have q276 : (v230.alloc (.cells #[.int .i64 sx, .int .i64 sy, .int .i64 sz] 29)).cell? ⟨v230.heap.size, 2, none⟩ = some (.int .i64 sz) := X258.out.cell 2
    have e0 : ∀ z : Int, (z == z) = true := fun z => by simp
    have hS : ∀ w : World, (binOp .eql 29 (.agg #[.int .i64 sx, .int .i64 sy, .int .i64 sz]) (.agg #[.int .i64 sx, .int .i64 sy, .int .i64 sz])).run Try.prog w = .ok (.bool true) w := fun w => by rw [eqState .eql (.inl rfl)]; simp [eqS]
    go_wp2_with fail
    have hdr313 : Below ((v230.alloc (.cells #[.int .i64 sx, .int .i64 sy, .int .i64 sz] 29))).heap.size ((v230.alloc (.cells #[.int .i64 sx, .int .i64 sy, .int .i64 sz] 29))) ((v230.alloc (.cells #[.int .i64 sx, .int .i64 sy, .int .i64 sz] 29))).drew := (Below.refl _ _).drew
    have lt295 := X253.out.lt
    have lt296 := X253.out.lt
    have lt297 := X253.out.lt
    have lt298 := X253.out.lt
    have lt299 := X253.out.lt
    have lt300 := X253.out.lt
    have lt301 := X253.out.lt
    have lt302 := X253.out.lt
    have lt303 := X253.out.lt
    have lt304 := X254.out.lt
    have lt305 := X254.out.lt
    have lt306 := X254.out.lt
    have lt307 := X255.out.lt
    have lt308 := X255.out.lt
    have lt309 := X255.out.lt
    have lt310 := X258.out.lt
    have lt311 := X258.out.lt
    have lt312 := X258.out.lt
    have hcall314 : ∀ X Y : World, (fun Wz => Wz.cell? ⟨w.heap.size, 0, none⟩ = some (.int .i64 p.bed.eye) ∧ Wz.cell? ⟨w.heap.size, 1, none⟩ = some (.int .i64 p.bed.rings) ∧ Wz.cell? ⟨w.heap.size, 2, none⟩ = some (.int .i64 p.bed.sectors) ∧ Wz.cell? ⟨w.heap.size, 3, none⟩ = some (s) ∧ Wz.cell? ⟨w.heap.size, 4, none⟩ = some (.int .i64 p.run.eye) ∧ Wz.cell? ⟨w.heap.size, 5, none⟩ = some (.int .i64 p.run.rings) ∧ Wz.cell? ⟨w.heap.size, 6, none⟩ = some (.int .i64 p.run.sectors) ∧ Wz.cell? ⟨w.heap.size, 7, none⟩ = some (r) ∧ Wz.cell? ⟨w.heap.size, 8, none⟩ = some (d) ∧ Wz.cell? ⟨w.heap.size + 1, 0, none⟩ = some (.int .i64 a) ∧ Wz.cell? ⟨w.heap.size + 1, 1, none⟩ = some (.int .i64 b) ∧ Wz.cell? ⟨w.heap.size + 1, 2, none⟩ = some (.int .i64 t) ∧ Wz.cell? ⟨v192.heap.size, 0, none⟩ = some (.int .i64 sx) ∧ Wz.cell? ⟨v192.heap.size, 1, none⟩ = some (.int .i64 sy) ∧ Wz.cell? ⟨v192.heap.size, 2, none⟩ = some (.int .i64 sz) ∧ Wz.cell? ⟨v230.heap.size, 0, none⟩ = some (.int .i64 sx) ∧ Wz.cell? ⟨v230.heap.size, 1, none⟩ = some (.int .i64 sy) ∧ Wz.cell? ⟨v230.heap.size, 2, none⟩ = some (.int .i64 sz) ∧ ((v230.alloc (.cells #[.int .i64 sx, .int .i64 sy, .int .i64 sz] 29))).heap.size ≤ Wz.heap.size) X → Below X.heap.size X Y → (fun Wz => Wz.cell? ⟨w.heap.size, 0, none⟩ = some (.int .i64 p.bed.eye) ∧ Wz.cell? ⟨w.heap.size, 1, none⟩ = some (.int .i64 p.bed.rings) ∧ Wz.cell? ⟨w.heap.size, 2, none⟩ = some (.int .i64 p.bed.sectors) ∧ Wz.cell? ⟨w.heap.size, 3, none⟩ = some (s) ∧ Wz.cell? ⟨w.heap.size, 4, none⟩ = some (.int .i64 p.run.eye) ∧ Wz.cell? ⟨w.heap.size, 5, none⟩ = some (.int .i64 p.run.rings) ∧ Wz.cell? ⟨w.heap.size, 6, none⟩ = some (.int .i64 p.run.sectors) ∧ Wz.cell? ⟨w.heap.size, 7, none⟩ = some (r) ∧ Wz.cell? ⟨w.heap.size, 8, none⟩ = some (d) ∧ Wz.cell? ⟨w.heap.size + 1, 0, none⟩ = some (.int .i64 a) ∧ Wz.cell? ⟨w.heap.size + 1, 1, none⟩ = some (.int .i64 b) ∧ Wz.cell? ⟨w.heap.size + 1, 2, none⟩ = some (.int .i64 t) ∧ Wz.cell? ⟨v192.heap.size, 0, none⟩ = some (.int .i64 sx) ∧ Wz.cell? ⟨v192.heap.size, 1, none⟩ = some (.int .i64 sy) ∧ Wz.cell? ⟨v192.heap.size, 2, none⟩ = some (.int .i64 sz) ∧ Wz.cell? ⟨v230.heap.size, 0, none⟩ = some (.int .i64 sx) ∧ Wz.cell? ⟨v230.heap.size, 1, none⟩ = some (.int .i64 sy) ∧ Wz.cell? ⟨v230.heap.size, 2, none⟩ = some (.int .i64 sz) ∧ ((v230.alloc (.cells #[.int .i64 sx, .int .i64 sy, .int .i64 sz] 29))).heap.size ≤ Wz.heap.size) Y := by
      rintro X Y ⟨z277, z278, z279, z280, z281, z282, z283, z284, z285, z286, z287, z288, z289, z290, z291, z292, z293, z294, xs⟩ hb
      have hb2 := Below.mono (B' := ((v230.alloc (.cells #[.int .i64 sx, .int .i64 sy, .int .i64 sz] 29))).heap.size) hb xs
      exact ⟨keepd z277 hb2 lt295, keepd z278 hb2 lt296, keepd z279 hb2 lt297, keepd z280 hb2 lt298, keepd z281 hb2 lt299, keepd z282 hb2 lt300, keepd z283 hb2 lt301, keepd z284 hb2 lt302, keepd z285 hb2 lt303, keepd z286 hb2 lt304, keepd z287 hb2 lt305, keepd z288 hb2 lt306, keepd z289 hb2 lt307, keepd z290 hb2 lt308, keepd z291 hb2 lt309, keepd z292 hb2 lt310, keepd z293 hb2 lt311, keepd z294 hb2 lt312, Nat.le_trans xs hb.size⟩
    have hini315 : (fun Wz => Wz.cell? ⟨w.heap.size, 0, none⟩ = some (.int .i64 p.bed.eye) ∧ Wz.cell? ⟨w.heap.size, 1, none⟩ = some (.int .i64 p.bed.rings) ∧ Wz.cell? ⟨w.heap.size, 2, none⟩ = some (.int .i64 p.bed.sectors) ∧ Wz.cell? ⟨w.heap.size, 3, none⟩ = some (s) ∧ Wz.cell? ⟨w.heap.size, 4, none⟩ = some (.int .i64 p.run.eye) ∧ Wz.cell? ⟨w.heap.size, 5, none⟩ = some (.int .i64 p.run.rings) ∧ Wz.cell? ⟨w.heap.size, 6, none⟩ = some (.int .i64 p.run.sectors) ∧ Wz.cell? ⟨w.heap.size, 7, none⟩ = some (r) ∧ Wz.cell? ⟨w.heap.size, 8, none⟩ = some (d) ∧ Wz.cell? ⟨w.heap.size + 1, 0, none⟩ = some (.int .i64 a) ∧ Wz.cell? ⟨w.heap.size + 1, 1, none⟩ = some (.int .i64 b) ∧ Wz.cell? ⟨w.heap.size + 1, 2, none⟩ = some (.int .i64 t) ∧ Wz.cell? ⟨v192.heap.size, 0, none⟩ = some (.int .i64 sx) ∧ Wz.cell? ⟨v192.heap.size, 1, none⟩ = some (.int .i64 sy) ∧ Wz.cell? ⟨v192.heap.size, 2, none⟩ = some (.int .i64 sz) ∧ Wz.cell? ⟨v230.heap.size, 0, none⟩ = some (.int .i64 sx) ∧ Wz.cell? ⟨v230.heap.size, 1, none⟩ = some (.int .i64 sy) ∧ Wz.cell? ⟨v230.heap.size, 2, none⟩ = some (.int .i64 sz) ∧ ((v230.alloc (.cells #[.int .i64 sx, .int .i64 sy, .int .i64 sz] 29))).heap.size ≤ Wz.heap.size) ((v230.alloc (.cells #[.int .i64 sx, .int .i64 sy, .int .i64 sz] 29))).drew := ⟨keepd (X253.out.cell 0) hdr313 lt295, keepd (X253.out.cell 1) hdr313 lt296, keepd (X253.out.cell 2) hdr313 lt297, keepd (X253.out.cell 3) hdr313 lt298, keepd (X253.out.cell 4) hdr313 lt299, keepd (X253.out.cell 5) hdr313 lt300, keepd (X253.out.cell 6) hdr313 lt301, keepd (X253.out.cell 7) hdr313 lt302, keepd (X253.out.cell 8) hdr313 lt303, keepd (X254.out.cell 0) hdr313 lt304, keepd (X254.out.cell 1) hdr313 lt305, keepd (X254.out.cell 2) hdr313 lt306, keepd (X255.out.cell 0) hdr313 lt307, keepd (X255.out.cell 1) hdr313 lt308, keepd (X255.out.cell 2) hdr313 lt309, keepd (X258.out.cell 0) hdr313 lt310, keepd (X258.out.cell 1) hdr313 lt311, keepd (X258.out.cell 2) hdr313 lt312, Nat.le_refl _⟩
    have Hcall314 := Lib.hid hcall314
    have Hini315 := Lib.hid hini315
    clear hcall314 hini315 lt295 lt296 lt297 lt298 lt299 lt300 lt301 lt302 lt303 lt304 lt305 lt306 lt307 lt308 lt309 lt310 lt311 lt312
    clear q259 q260 q261 q262 q263 q264 q265 q266 q267 q268 q269 q270 q271 q272 q273 q274 q275 q276 q237 q238 q239 q240 q241 q242 q243 q244 q245 q246 q247 q248 q249 q250 q251
    refine wp_region_noPanic ?_
    refine wp_region_held_drew (S := (fun Wz => Wz.cell? ⟨w.heap.size, 0, none⟩ = some (.int .i64 p.bed.eye) ∧ Wz.cell? ⟨w.heap.size, 1, none⟩ = some (.int .i64 p.bed.rings) ∧ Wz.cell? ⟨w.heap.size, 2, none⟩ = some (.int .i64 p.bed.sectors) ∧ Wz.cell? ⟨w.heap.size, 3, none⟩ = some (s) ∧ Wz.cell? ⟨w.heap.size, 4, none⟩ = some (.int .i64 p.run.eye) ∧ Wz.cell? ⟨w.heap.size, 5, none⟩ = some (.int .i64 p.run.rings) ∧ Wz.cell? ⟨w.heap.size, 6, none⟩ = some (.int .i64 p.run.sectors) ∧ Wz.cell? ⟨w.heap.size, 7, none⟩ = some (r) ∧ Wz.cell? ⟨w.heap.size, 8, none⟩ = some (d) ∧ Wz.cell? ⟨w.heap.size + 1, 0, none⟩ = some (.int .i64 a) ∧ Wz.cell? ⟨w.heap.size + 1, 1, none⟩ = some (.int .i64 b) ∧ Wz.cell? ⟨w.heap.size + 1, 2, none⟩ = some (.int .i64 t) ∧ Wz.cell? ⟨v192.heap.size, 0, none⟩ = some (.int .i64 sx) ∧ Wz.cell? ⟨v192.heap.size, 1, none⟩ = some (.int .i64 sy) ∧ Wz.cell? ⟨v192.heap.size, 2, none⟩ = some (.int .i64 sz) ∧ Wz.cell? ⟨v230.heap.size, 0, none⟩ = some (.int .i64 sx) ∧ Wz.cell? ⟨v230.heap.size, 1, none⟩ = some (.int .i64 sy) ∧ Wz.cell? ⟨v230.heap.size, 2, none⟩ = some (.int .i64 sz) ∧ ((v230.alloc (.cells #[.int .i64 sx, .int .i64 sy, .int .i64 sz] 29))).heap.size ≤ Wz.heap.size)) (by kernel_rfl) Hini315.out (fun hHeld => ?_)
    obtain ⟨W317, hW318⟩ : ∃ Wzz, ((v230.alloc (.cells #[.int .i64 sx, .int .i64 sy, .int .i64 sz] 29))).drew = Wzz := ⟨_, rfl⟩
    rw [hW318] at hHeld hdr313 ⊢
    clear hW318
    have X319 := Lib.hid (X253.out.later hdr313)
    have X320 := Lib.hid (X254.out.later hdr313)
    have X321 := Lib.hid (X255.out.later hdr313)
    have X322 := Lib.hid (X258.out.later hdr313)
    have C323 := Lib.hid (C256.out.later hdr313)
    have B324 := Lib.hid (B257.out.trans (hdr313.mono B257.out.size))
    clear hdr313
    refine wpAnyH_take (i := 0) (oi := { dst := some 59, op := Op.move (Operand.tmp 7), type := 4, pos := "law.go:62", after := #[], guard := none }) (v := ?vh325) rfl ?hsh325 ?hfh325 ?hrh325 ?hQh325 ?hyh325 (by assumption) ?resth325
    case hsh325 => kernel_rfl
    case hfh325 => kernel_rfl
    case hrh325 => kernel_rfl
    case hQh325 => exact fun _ _ _ h => h
    case hyh325 => (refine Or.inl ⟨by rfl, ?_⟩; intro w hSw; (try dsimp only at hSw); go_simp; try with_reducible rfl)
    try simp only [Act.put, List.setIfInBounds_toArray, List.set_cons_zero, List.set_cons_succ]
    refine wpAnyH_take (i := 1) (oi := { dst := some 60, op := Op.move (Operand.tmp 59), type := 4, pos := "law.go:62", after := #[{ on := 0, ground := Ground.data }], guard := none }) (v := ?vh326) rfl ?hsh326 ?hfh326 ?hrh326 ?hQh326 ?hyh326 (by assumption) ?resth326
    case hsh326 => kernel_rfl
    case hfh326 => kernel_rfl
    case hrh326 => kernel_rfl
    case hQh326 => exact fun _ _ _ h => h
    case hyh326 => (refine Or.inl ⟨by rfl, ?_⟩; intro w hSw; (try dsimp only at hSw); go_simp; try with_reducible rfl)
    try simp only [Act.put, List.setIfInBounds_toArray, List.set_cons_zero, List.set_cons_succ]
    refine wpAnyH_take (i := 2) (oi := { dst := some 61, op := Op.load 27 (Operand.tmp 3), type := 27, pos := "law.go:62", after := #[{ on := 1, ground := Ground.guard }], guard := some (1, true) }) (v := ?vh327) rfl ?hsh327 ?hfh327 ?hrh327 ?hQh327 ?hyh327 (by assumption) ?resth327
    case hsh327 => kernel_rfl
    case hfh327 => kernel_rfl
    case hrh327 => kernel_rfl
    case hQh327 => exact fun _ _ _ h => h
    case hyh327 => (refine Or.inl ⟨by rfl, ?_⟩; intro w hSw; (try dsimp only at hSw); go_simp; try with_reducible rfl)
    try simp only [Act.put, List.setIfInBounds_toArray, List.set_cons_zero, List.set_cons_succ]
    refine wpAnyH_take (i := 4) (oi := { dst := some 63, op := Op.load 27 (Operand.tmp 3), type := 27, pos := "law.go:62", after := #[{ on := 1, ground := Ground.guard }], guard := some (1, true) }) (v := ?vh328) rfl ?hsh328 ?hfh328 ?hrh328 ?hQh328 ?hyh328 (by assumption) ?resth328
    case hsh328 => kernel_rfl
    case hfh328 => kernel_rfl
    case hrh328 => kernel_rfl
    case hQh328 => exact fun _ _ _ h => h
    case hyh328 => (refine Or.inl ⟨by rfl, ?_⟩; intro w hSw; (try dsimp only at hSw); go_simp; try with_reducible rfl)
    try simp only [Act.put, List.setIfInBounds_toArray, List.set_cons_zero, List.set_cons_succ]
    refine wpAnyH_ready (rs := [3]) (by kernel_rfl) (by simp) ?_
    refine AllReadyH.cons (o := _) (by rfl) (fun K hK => ?_) AllReadyH.nil
    go_simp
    go_at_call 14
    refine (Check_c p _ _ C323.out trivial).mono ?_; rintro e v329 ⟨rfl, hb330⟩
    have X331 := Lib.hid (X319.out.later hb330)
    have X332 := Lib.hid (X320.out.later hb330)
    have X333 := Lib.hid (X321.out.later hb330)
    have X334 := Lib.hid (X322.out.later hb330)
    have C335 := Lib.hid (C323.out.later hb330)
    have B336 := Lib.hid (B324.out.trans (hb330.mono B324.out.size))
    clear X319 X320 X321 X322 C323 B324
    rw [HE.out]
    go_wp2_with fail
    refine hK.out _ _ (Hcall314.out _ _ hHeld (by assumption)) (fun hHeld337 => ?_)
    clear hK K hHeld
    clear hb330
    have hHeld := hHeld337
    clear hHeld337
    try simp only [Act.put, List.setIfInBounds_toArray, List.set_cons_zero, List.set_cons_succ]
    refine wpAnyH_ready (rs := [5]) (by kernel_rfl) (by simp) ?_
    refine AllReadyH.cons (o := _) (by rfl) (fun K hK => ?_) AllReadyH.nil
    go_simp
    go_at_call 15
    refine (kCheck_c p _ _ C335.out).mono ?_; rintro e v338 ⟨rfl, hb339⟩
    have X340 := Lib.hid (X331.out.later hb339)
    have X341 := Lib.hid (X332.out.later hb339)
    have X342 := Lib.hid (X333.out.later hb339)
    have X343 := Lib.hid (X334.out.later hb339)
    have C344 := Lib.hid (C335.out.later hb339)
    have B345 := Lib.hid (B336.out.trans (hb339.mono B336.out.size))
    clear X331 X332 X333 X334 C335 B336
    rw [HE.out]
    go_wp2_with fail
    refine hK.out _ _ (Hcall314.out _ _ hHeld (by assumption)) (fun hHeld346 => ?_)
    clear hK K hHeld
    clear hb339
    have hHeld := hHeld346
    clear hHeld346
    try simp only [Act.put, List.setIfInBounds_toArray, List.set_cons_zero, List.set_cons_succ]
    refine wpAnyH_take (i := 6) (oi := { dst := some 65, op := Op.binOp BinOp.eql 32 (Operand.tmp 62) (Operand.tmp 64) 32, type := 4, pos := "law.go:62", after := #[{ on := 3, ground := Ground.data }, { on := 5, ground := Ground.data }, { on := 1, ground := Ground.guard }], guard := some (1, true) }) (v := ?vh347) rfl ?hsh347 ?hfh347 ?hrh347 ?hQh347 ?hyh347 (by assumption) ?resth347
    case hsh347 => kernel_rfl
    case hfh347 => kernel_rfl
    case hrh347 => kernel_rfl
    case hQh347 => exact fun _ _ _ h => h
    case hyh347 => (refine Or.inl ⟨by rfl, ?_⟩; intro w hSw; (try dsimp only at hSw); go_simp; try with_reducible rfl)
    try simp only [Act.put, List.setIfInBounds_toArray, List.set_cons_zero, List.set_cons_succ]
    refine wpAnyH_take (i := 7) (oi := { dst := some 66, op := Op.pick (Operand.tmp 60) (Operand.tmp 65) (Operand.const (Value.bool false)), type := 4, pos := "law.go:62", after := #[{ on := 1, ground := Ground.data }, { on := 6, ground := Ground.data }], guard := none }) (v := ?vh348) rfl ?hsh348 ?hfh348 ?hrh348 ?hQh348 ?hyh348 (by assumption) ?resth348
    case hsh348 => kernel_rfl
    case hfh348 => kernel_rfl
    case hrh348 => kernel_rfl
    case hQh348 => exact fun _ _ _ h => h
    case hyh348 => (refine Or.inl ⟨by rfl, ?_⟩; intro w hSw; (try dsimp only at hSw); go_simp; try with_reducible rfl)
    try simp only [Act.put, List.setIfInBounds_toArray, List.set_cons_zero, List.set_cons_succ]
    refine wpAnyH_take (i := 8) (oi := { dst := some 67, op := Op.move (Operand.tmp 66), type := 4, pos := "law.go:62", after := #[{ on := 7, ground := Ground.data }, { on := 5, ground := Ground.chain }], guard := none }) (v := ?vh349) rfl ?hsh349 ?hfh349 ?hrh349 ?hQh349 ?hyh349 (by assumption) ?resth349
    case hsh349 => kernel_rfl
    case hfh349 => kernel_rfl
    case hrh349 => kernel_rfl
    case hQh349 => exact fun _ _ _ h => h
    case hyh349 => (refine Or.inl ⟨by rfl, ?_⟩; intro w hSw; (try dsimp only at hSw); go_simp; try with_reducible rfl)
    try simp only [Act.put, List.setIfInBounds_toArray, List.set_cons_zero, List.set_cons_succ]
    refine wpAnyH_take (i := 9) (oi := { dst := some 68, op := Op.move (Operand.tmp 8), type := 3, pos := "law.go:62", after := #[{ on := 8, ground := Ground.guard }], guard := some (8, true) }) (v := ?vh350) rfl ?hsh350 ?hfh350 ?hrh350 ?hQh350 ?hyh350 (by assumption) ?resth350
    case hsh350 => kernel_rfl
    case hfh350 => kernel_rfl
    case hrh350 => kernel_rfl
    case hQh350 => exact fun _ _ _ h => h
    case hyh350 => (refine Or.inl ⟨by rfl, ?_⟩; intro w hSw; (try dsimp only at hSw); go_simp; try with_reducible rfl)
    try simp only [Act.put, List.setIfInBounds_toArray, List.set_cons_zero, List.set_cons_succ]
    refine wpAnyH_take (i := 10) (oi := { dst := some 69, op := Op.move (Operand.tmp 10), type := 3, pos := "law.go:62", after := #[{ on := 8, ground := Ground.guard }], guard := some (8, true) }) (v := ?vh351) rfl ?hsh351 ?hfh351 ?hrh351 ?hQh351 ?hyh351 (by assumption) ?resth351
    case hsh351 => kernel_rfl
    case hfh351 => kernel_rfl
    case hrh351 => kernel_rfl
    case hQh351 => exact fun _ _ _ h => h
    case hyh351 => (refine Or.inl ⟨by rfl, ?_⟩; intro w hSw; (try dsimp only at hSw); go_simp; try with_reducible rfl)
    try simp only [Act.put, List.setIfInBounds_toArray, List.set_cons_zero, List.set_cons_succ]
    refine wpAnyH_take (i := 11) (oi := { dst := some 70, op := Op.binOp BinOp.eql 3 (Operand.tmp 68) (Operand.tmp 69) 3, type := 4, pos := "law.go:62", after := #[{ on := 9, ground := Ground.data }, { on := 10, ground := Ground.data }, { on := 8, ground := Ground.guard }], guard := some (8, true) }) (v := ?vh352) rfl ?hsh352 ?hfh352 ?hrh352 ?hQh352 ?hyh352 (by assumption) ?resth352
    case hsh352 => kernel_rfl
    case hfh352 => kernel_rfl
    case hrh352 => kernel_rfl
    case hQh352 => exact fun _ _ _ h => h
    case hyh352 => (refine Or.inl ⟨by rfl, ?_⟩; intro w hSw; (try dsimp only at hSw); go_simp; try with_reducible rfl)
    try simp only [Act.put, List.setIfInBounds_toArray, List.set_cons_zero, List.set_cons_succ]
    refine wpAnyH_take (i := 12) (oi := { dst := some 71, op := Op.pick (Operand.tmp 67) (Operand.tmp 70) (Operand.const (Value.bool false)), type := 4, pos := "law.go:62", after := #[{ on := 8, ground := Ground.data }, { on := 11, ground := Ground.data }], guard := none }) (v := ?vh353) rfl ?hsh353 ?hfh353 ?hrh353 ?hQh353 ?hyh353 (by assumption) ?resth353
    case hsh353 => kernel_rfl
    case hfh353 => kernel_rfl
    case hrh353 => kernel_rfl
    case hQh353 => exact fun _ _ _ h => h
    case hyh353 => (refine Or.inl ⟨by rfl, ?_⟩; intro w hSw; (try dsimp only at hSw); go_simp; try with_reducible rfl)
    try simp only [Act.put, List.setIfInBounds_toArray, List.set_cons_zero, List.set_cons_succ]
    refine wpAnyH_take (i := 13) (oi := { dst := some 72, op := Op.move (Operand.tmp 71), type := 4, pos := "law.go:62", after := #[{ on := 12, ground := Ground.data }, { on := 8, ground := Ground.chain }], guard := none }) (v := ?vh354) rfl ?hsh354 ?hfh354 ?hrh354 ?hQh354 ?hyh354 (by assumption) ?resth354
    case hsh354 => kernel_rfl
    case hfh354 => kernel_rfl
    case hrh354 => kernel_rfl
    case hQh354 => exact fun _ _ _ h => h
    case hyh354 => (refine Or.inl ⟨by rfl, ?_⟩; intro w hSw; (try dsimp only at hSw); go_simp; try with_reducible rfl)
    try simp only [Act.put, List.setIfInBounds_toArray, List.set_cons_zero, List.set_cons_succ]
    refine wpAnyH_take (i := 14) (oi := { dst := some 73, op := Op.move (Operand.tmp 9), type := 32, pos := "law.go:62", after := #[{ on := 13, ground := Ground.guard }], guard := some (13, true) }) (v := ?vh355) rfl ?hsh355 ?hfh355 ?hrh355 ?hQh355 ?hyh355 (by assumption) ?resth355
    case hsh355 => kernel_rfl
    case hfh355 => kernel_rfl
    case hrh355 => kernel_rfl
    case hQh355 => exact fun _ _ _ h => h
    case hyh355 => (refine Or.inl ⟨by rfl, ?_⟩; intro w hSw; (try dsimp only at hSw); go_simp; try with_reducible rfl)
    try simp only [Act.put, List.setIfInBounds_toArray, List.set_cons_zero, List.set_cons_succ]
    refine wpAnyH_take (i := 15) (oi := { dst := some 74, op := Op.move (Operand.tmp 11), type := 32, pos := "law.go:62", after := #[{ on := 13, ground := Ground.guard }], guard := some (13, true) }) (v := ?vh356) rfl ?hsh356 ?hfh356 ?hrh356 ?hQh356 ?hyh356 (by assumption) ?resth356
    case hsh356 => kernel_rfl
    case hfh356 => kernel_rfl
    case hrh356 => kernel_rfl
    case hQh356 => exact fun _ _ _ h => h
    case hyh356 => (refine Or.inl ⟨by rfl, ?_⟩; intro w hSw; (try dsimp only at hSw); go_simp; try with_reducible rfl)
    try simp only [Act.put, List.setIfInBounds_toArray, List.set_cons_zero, List.set_cons_succ]
    refine wpAnyH_take (i := 16) (oi := { dst := some 75, op := Op.binOp BinOp.eql 32 (Operand.tmp 73) (Operand.tmp 74) 32, type := 4, pos := "law.go:62", after := #[{ on := 14, ground := Ground.data }, { on := 15, ground := Ground.data }, { on := 13, ground := Ground.guard }], guard := some (13, true) }) (v := ?vh357) rfl ?hsh357 ?hfh357 ?hrh357 ?hQh357 ?hyh357 (by assumption) ?resth357
    case hsh357 => kernel_rfl
    case hfh357 => kernel_rfl
    case hrh357 => kernel_rfl
    case hQh357 => exact fun _ _ _ h => h
    case hyh357 => (refine Or.inl ⟨by rfl, ?_⟩; intro w hSw; (try dsimp only at hSw); go_simp; try with_reducible rfl)
    try simp only [Act.put, List.setIfInBounds_toArray, List.set_cons_zero, List.set_cons_succ]
    refine wpAnyH_take (i := 17) (oi := { dst := some 76, op := Op.pick (Operand.tmp 72) (Operand.tmp 75) (Operand.const (Value.bool false)), type := 4, pos := "law.go:62", after := #[{ on := 13, ground := Ground.data }, { on := 16, ground := Ground.data }], guard := none }) (v := ?vh358) rfl ?hsh358 ?hfh358 ?hrh358 ?hQh358 ?hyh358 (by assumption) ?resth358
    case hsh358 => kernel_rfl
    case hfh358 => kernel_rfl
    case hrh358 => kernel_rfl
    case hQh358 => exact fun _ _ _ h => h
    case hyh358 => (refine Or.inl ⟨by rfl, ?_⟩; intro w hSw; (try dsimp only at hSw); go_simp; try with_reducible rfl)
    try simp only [Act.put, List.setIfInBounds_toArray, List.set_cons_zero, List.set_cons_succ]
    refine wpAnyH_take (i := 18) (oi := { dst := some 77, op := Op.move (Operand.tmp 76), type := 4, pos := "law.go:62", after := #[{ on := 17, ground := Ground.data }, { on := 13, ground := Ground.chain }], guard := none }) (v := ?vh359) rfl ?hsh359 ?hfh359 ?hrh359 ?hQh359 ?hyh359 (by assumption) ?resth359
    case hsh359 => kernel_rfl
    case hfh359 => kernel_rfl
    case hrh359 => kernel_rfl
    case hQh359 => exact fun _ _ _ h => h
    case hyh359 => (refine Or.inl ⟨by rfl, ?_⟩; intro w hSw; (try dsimp only at hSw); go_simp; try with_reducible rfl)
    try simp only [Act.put, List.setIfInBounds_toArray, List.set_cons_zero, List.set_cons_succ]
    refine wpAnyH_take (i := 19) (oi := { dst := some 78, op := Op.move (Operand.tmp 12), type := 3, pos := "law.go:62", after := #[{ on := 18, ground := Ground.guard }], guard := some (18, true) }) (v := ?vh360) rfl ?hsh360 ?hfh360 ?hrh360 ?hQh360 ?hyh360 (by assumption) ?resth360
    case hsh360 => kernel_rfl
    case hfh360 => kernel_rfl
    case hrh360 => kernel_rfl
    case hQh360 => exact fun _ _ _ h => h
    case hyh360 => (refine Or.inl ⟨by rfl, ?_⟩; intro w hSw; (try dsimp only at hSw); go_simp; try with_reducible rfl)
    try simp only [Act.put, List.setIfInBounds_toArray, List.set_cons_zero, List.set_cons_succ]
    refine wpAnyH_take (i := 20) (oi := { dst := some 79, op := Op.move (Operand.tmp 14), type := 3, pos := "law.go:62", after := #[{ on := 18, ground := Ground.guard }], guard := some (18, true) }) (v := ?vh361) rfl ?hsh361 ?hfh361 ?hrh361 ?hQh361 ?hyh361 (by assumption) ?resth361
    case hsh361 => kernel_rfl
    case hfh361 => kernel_rfl
    case hrh361 => kernel_rfl
    case hQh361 => exact fun _ _ _ h => h
    case hyh361 => (refine Or.inl ⟨by rfl, ?_⟩; intro w hSw; (try dsimp only at hSw); go_simp; try with_reducible rfl)
    try simp only [Act.put, List.setIfInBounds_toArray, List.set_cons_zero, List.set_cons_succ]
    refine wpAnyH_take (i := 21) (oi := { dst := some 80, op := Op.binOp BinOp.eql 3 (Operand.tmp 78) (Operand.tmp 79) 3, type := 4, pos := "law.go:62", after := #[{ on := 19, ground := Ground.data }, { on := 20, ground := Ground.data }, { on := 18, ground := Ground.guard }], guard := some (18, true) }) (v := ?vh362) rfl ?hsh362 ?hfh362 ?hrh362 ?hQh362 ?hyh362 (by assumption) ?resth362
    case hsh362 => kernel_rfl
    case hfh362 => kernel_rfl
    case hrh362 => kernel_rfl
    case hQh362 => exact fun _ _ _ h => h
    case hyh362 => (refine Or.inl ⟨by rfl, ?_⟩; intro w hSw; (try dsimp only at hSw); go_simp; try with_reducible rfl)
    try simp only [Act.put, List.setIfInBounds_toArray, List.set_cons_zero, List.set_cons_succ]
    refine wpAnyH_take (i := 22) (oi := { dst := some 81, op := Op.pick (Operand.tmp 77) (Operand.tmp 80) (Operand.const (Value.bool false)), type := 4, pos := "law.go:62", after := #[{ on := 18, ground := Ground.data }, { on := 21, ground := Ground.data }], guard := none }) (v := ?vh363) rfl ?hsh363 ?hfh363 ?hrh363 ?hQh363 ?hyh363 (by assumption) ?resth363
    case hsh363 => kernel_rfl
    case hfh363 => kernel_rfl
    case hrh363 => kernel_rfl
    case hQh363 => exact fun _ _ _ h => h
    case hyh363 => (refine Or.inl ⟨by rfl, ?_⟩; intro w hSw; (try dsimp only at hSw); go_simp; try with_reducible rfl)
    try simp only [Act.put, List.setIfInBounds_toArray, List.set_cons_zero, List.set_cons_succ]
    refine wpAnyH_take (i := 23) (oi := { dst := some 82, op := Op.move (Operand.tmp 81), type := 4, pos := "law.go:62", after := #[{ on := 22, ground := Ground.data }, { on := 18, ground := Ground.chain }], guard := none }) (v := ?vh364) rfl ?hsh364 ?hfh364 ?hrh364 ?hQh364 ?hyh364 (by assumption) ?resth364
    case hsh364 => kernel_rfl
    case hfh364 => kernel_rfl
    case hrh364 => kernel_rfl
    case hQh364 => exact fun _ _ _ h => h
    case hyh364 => (refine Or.inl ⟨by rfl, ?_⟩; intro w hSw; (try dsimp only at hSw); go_simp; try with_reducible rfl)
    try simp only [Act.put, List.setIfInBounds_toArray, List.set_cons_zero, List.set_cons_succ]
    refine wpAnyH_take (i := 24) (oi := { dst := some 83, op := Op.move (Operand.tmp 13), type := 32, pos := "law.go:62", after := #[{ on := 23, ground := Ground.guard }], guard := some (23, true) }) (v := ?vh365) rfl ?hsh365 ?hfh365 ?hrh365 ?hQh365 ?hyh365 (by assumption) ?resth365
    case hsh365 => kernel_rfl
    case hfh365 => kernel_rfl
    case hrh365 => kernel_rfl
    case hQh365 => exact fun _ _ _ h => h
    case hyh365 => (refine Or.inl ⟨by rfl, ?_⟩; intro w hSw; (try dsimp only at hSw); go_simp; try with_reducible rfl)
    try simp only [Act.put, List.setIfInBounds_toArray, List.set_cons_zero, List.set_cons_succ]
    refine wpAnyH_take (i := 25) (oi := { dst := some 84, op := Op.move (Operand.tmp 15), type := 32, pos := "law.go:62", after := #[{ on := 23, ground := Ground.guard }], guard := some (23, true) }) (v := ?vh366) rfl ?hsh366 ?hfh366 ?hrh366 ?hQh366 ?hyh366 (by assumption) ?resth366
    case hsh366 => kernel_rfl
    case hfh366 => kernel_rfl
    case hrh366 => kernel_rfl
    case hQh366 => exact fun _ _ _ h => h
    case hyh366 => (refine Or.inl ⟨by rfl, ?_⟩; intro w hSw; (try dsimp only at hSw); go_simp; try with_reducible rfl)
    try simp only [Act.put, List.setIfInBounds_toArray, List.set_cons_zero, List.set_cons_succ]
    refine wpAnyH_take (i := 26) (oi := { dst := some 85, op := Op.binOp BinOp.eql 32 (Operand.tmp 83) (Operand.tmp 84) 32, type := 4, pos := "law.go:62", after := #[{ on := 24, ground := Ground.data }, { on := 25, ground := Ground.data }, { on := 23, ground := Ground.guard }], guard := some (23, true) }) (v := ?vh367) rfl ?hsh367 ?hfh367 ?hrh367 ?hQh367 ?hyh367 (by assumption) ?resth367
    case hsh367 => kernel_rfl
    case hfh367 => kernel_rfl
    case hrh367 => kernel_rfl
    case hQh367 => exact fun _ _ _ h => h
    case hyh367 => (refine Or.inl ⟨by rfl, ?_⟩; intro w hSw; (try dsimp only at hSw); go_simp; try with_reducible rfl)
    try simp only [Act.put, List.setIfInBounds_toArray, List.set_cons_zero, List.set_cons_succ]
    refine wpAnyH_take (i := 27) (oi := { dst := some 86, op := Op.pick (Operand.tmp 82) (Operand.tmp 85) (Operand.const (Value.bool false)), type := 4, pos := "law.go:62", after := #[{ on := 23, ground := Ground.data }, { on := 26, ground := Ground.data }], guard := none }) (v := ?vh368) rfl ?hsh368 ?hfh368 ?hrh368 ?hQh368 ?hyh368 (by assumption) ?resth368
    case hsh368 => kernel_rfl
    case hfh368 => kernel_rfl
    case hrh368 => kernel_rfl
    case hQh368 => exact fun _ _ _ h => h
    case hyh368 => (refine Or.inl ⟨by rfl, ?_⟩; intro w hSw; (try dsimp only at hSw); go_simp; try with_reducible rfl)
    try simp only [Act.put, List.setIfInBounds_toArray, List.set_cons_zero, List.set_cons_succ]
    refine wpAnyH_take (i := 28) (oi := { dst := some 87, op := Op.move (Operand.tmp 86), type := 4, pos := "law.go:62", after := #[{ on := 27, ground := Ground.data }, { on := 23, ground := Ground.chain }], guard := none }) (v := ?vh369) rfl ?hsh369 ?hfh369 ?hrh369 ?hQh369 ?hyh369 (by assumption) ?resth369
    case hsh369 => kernel_rfl
    case hfh369 => kernel_rfl
    case hrh369 => kernel_rfl
    case hQh369 => exact fun _ _ _ h => h
    case hyh369 => (refine Or.inl ⟨by rfl, ?_⟩; intro w hSw; (try dsimp only at hSw); go_simp; try with_reducible rfl)
    try simp only [Act.put, List.setIfInBounds_toArray, List.set_cons_zero, List.set_cons_succ]
    refine wpAnyH_take (i := 29) (oi := { dst := some 88, op := Op.load 29 (Operand.tmp 16), type := 29, pos := "law.go:62", after := #[{ on := 28, ground := Ground.guard }], guard := some (28, true) }) (v := ?vh370) rfl ?hsh370 ?hfh370 ?hrh370 ?hQh370 ?hyh370 (by assumption) ?resth370
    case hsh370 => kernel_rfl
    case hfh370 => kernel_rfl
    case hrh370 => kernel_rfl
    case hQh370 => exact fun _ _ _ h => h
    case hyh370 => (refine Or.inl ⟨by rfl, ?_⟩; intro w hSw; (try dsimp only at hSw); go_simp; try with_reducible rfl)
    try simp only [Act.put, List.setIfInBounds_toArray, List.set_cons_zero, List.set_cons_succ]
    refine wpAnyH_take (i := 30) (oi := { dst := some 89, op := Op.load 29 (Operand.tmp 18), type := 29, pos := "law.go:62", after := #[{ on := 28, ground := Ground.guard }], guard := some (28, true) }) (v := ?vh371) rfl ?hsh371 ?hfh371 ?hrh371 ?hQh371 ?hyh371 (by assumption) ?resth371
    case hsh371 => kernel_rfl
    case hfh371 => kernel_rfl
    case hrh371 => kernel_rfl
    case hQh371 => exact fun _ _ _ h => h
    case hyh371 => (refine Or.inl ⟨by rfl, ?_⟩; intro w hSw; (try dsimp only at hSw); go_simp; try with_reducible rfl)
    try simp only [Act.put, List.setIfInBounds_toArray, List.set_cons_zero, List.set_cons_succ]
    refine wpAnyH_take (i := 31) (oi := { dst := some 90, op := Op.binOp BinOp.eql 29 (Operand.tmp 88) (Operand.tmp 89) 29, type := 4, pos := "law.go:62", after := #[{ on := 29, ground := Ground.data }, { on := 30, ground := Ground.data }, { on := 28, ground := Ground.guard }], guard := some (28, true) }) (v := ?vh372) rfl ?hsh372 ?hfh372 ?hrh372 ?hQh372 ?hyh372 (by assumption) ?resth372
    case hsh372 => kernel_rfl
    case hfh372 => kernel_rfl
    case hrh372 => kernel_rfl
    case hQh372 => exact fun _ _ _ h => h
    case hyh372 => (refine Or.inl ⟨by rfl, ?_⟩; intro w hSw; (try dsimp only at hSw); go_simp; try with_reducible rfl)
    try simp only [Act.put, List.setIfInBounds_toArray, List.set_cons_zero, List.set_cons_succ]
    refine wpAnyH_take (i := 32) (oi := { dst := some 91, op := Op.pick (Operand.tmp 87) (Operand.tmp 90) (Operand.const (Value.bool false)), type := 4, pos := "law.go:62", after := #[{ on := 28, ground := Ground.data }, { on := 31, ground := Ground.data }], guard := none }) (v := ?vh373) rfl ?hsh373 ?hfh373 ?hrh373 ?hQh373 ?hyh373 (by assumption) ?resth373
    case hsh373 => kernel_rfl
    case hfh373 => kernel_rfl
    case hrh373 => kernel_rfl
    case hQh373 => exact fun _ _ _ h => h
    case hyh373 => (refine Or.inl ⟨by rfl, ?_⟩; intro w hSw; (try dsimp only at hSw); go_simp; try with_reducible rfl)
    try simp only [Act.put, List.setIfInBounds_toArray, List.set_cons_zero, List.set_cons_succ]
    refine wpAnyH_take (i := 33) (oi := { dst := some 92, op := Op.move (Operand.tmp 91), type := 4, pos := "law.go:62", after := #[{ on := 32, ground := Ground.data }, { on := 28, ground := Ground.chain }], guard := none }) (v := ?vh374) rfl ?hsh374 ?hfh374 ?hrh374 ?hQh374 ?hyh374 (by assumption) ?resth374
    case hsh374 => kernel_rfl
    case hfh374 => kernel_rfl
    case hrh374 => kernel_rfl
    case hQh374 => exact fun _ _ _ h => h
    case hyh374 => (refine Or.inl ⟨by rfl, ?_⟩; intro w hSw; (try dsimp only at hSw); go_simp; try with_reducible rfl)
    try simp only [Act.put, List.setIfInBounds_toArray, List.set_cons_zero, List.set_cons_succ]
    refine wpAnyH_take (i := 34) (oi := { dst := some 93, op := Op.move (Operand.tmp 17), type := 32, pos := "law.go:62", after := #[{ on := 33, ground := Ground.guard }], guard := some (33, true) }) (v := ?vh375) rfl ?hsh375 ?hfh375 ?hrh375 ?hQh375 ?hyh375 (by assumption) ?resth375
    case hsh375 => kernel_rfl
    case hfh375 => kernel_rfl
    case hrh375 => kernel_rfl
    case hQh375 => exact fun _ _ _ h => h
    case hyh375 => (refine Or.inl ⟨by rfl, ?_⟩; intro w hSw; (try dsimp only at hSw); go_simp; try with_reducible rfl)
    try simp only [Act.put, List.setIfInBounds_toArray, List.set_cons_zero, List.set_cons_succ]
    refine wpAnyH_take (i := 35) (oi := { dst := some 94, op := Op.move (Operand.tmp 19), type := 32, pos := "law.go:62", after := #[{ on := 33, ground := Ground.guard }], guard := some (33, true) }) (v := ?vh376) rfl ?hsh376 ?hfh376 ?hrh376 ?hQh376 ?hyh376 (by assumption) ?resth376
    case hsh376 => kernel_rfl
    case hfh376 => kernel_rfl
    case hrh376 => kernel_rfl
    case hQh376 => exact fun _ _ _ h => h
    case hyh376 => (refine Or.inl ⟨by rfl, ?_⟩; intro w hSw; (try dsimp only at hSw); go_simp; try with_reducible rfl)
    try simp only [Act.put, List.setIfInBounds_toArray, List.set_cons_zero, List.set_cons_succ]
    refine wpAnyH_take (i := 36) (oi := { dst := some 95, op := Op.binOp BinOp.eql 32 (Operand.tmp 93) (Operand.tmp 94) 32, type := 4, pos := "law.go:62", after := #[{ on := 34, ground := Ground.data }, { on := 35, ground := Ground.data }, { on := 33, ground := Ground.guard }], guard := some (33, true) }) (v := ?vh377) rfl ?hsh377 ?hfh377 ?hrh377 ?hQh377 ?hyh377 (by assumption) ?resth377
    case hsh377 => kernel_rfl
    case hfh377 => kernel_rfl
    case hrh377 => kernel_rfl
    case hQh377 => exact fun _ _ _ h => h
    case hyh377 => (refine Or.inl ⟨by rfl, ?_⟩; intro w hSw; (try dsimp only at hSw); go_simp; try with_reducible rfl)
    try simp only [Act.put, List.setIfInBounds_toArray, List.set_cons_zero, List.set_cons_succ]
    refine wpAnyH_take (i := 37) (oi := { dst := some 96, op := Op.pick (Operand.tmp 92) (Operand.tmp 95) (Operand.const (Value.bool false)), type := 4, pos := "law.go:62", after := #[{ on := 33, ground := Ground.data }, { on := 36, ground := Ground.data }], guard := none }) (v := ?vh378) rfl ?hsh378 ?hfh378 ?hrh378 ?hQh378 ?hyh378 (by assumption) ?resth378
    case hsh378 => kernel_rfl
    case hfh378 => kernel_rfl
    case hrh378 => kernel_rfl
    case hQh378 => exact fun _ _ _ h => h
    case hyh378 => (refine Or.inl ⟨by rfl, ?_⟩; intro w hSw; (try dsimp only at hSw); go_simp; try with_reducible rfl)
    try simp only [Act.put, List.setIfInBounds_toArray, List.set_cons_zero, List.set_cons_succ]
    refine wpAnyH_take (i := 38) (oi := { dst := some 6, op := Op.assign (Operand.tmp 96), type := 4, pos := "law.go:62", after := #[{ on := 37, ground := Ground.data }, { on := 33, ground := Ground.chain }, { on := 0, ground := Ground.phase }, { on := 1, ground := Ground.phase }, { on := 2, ground := Ground.phase }, { on := 3, ground := Ground.phase }, { on := 4, ground := Ground.phase }, { on := 5, ground := Ground.phase }, { on := 6, ground := Ground.phase }, { on := 7, ground := Ground.phase }, { on := 8, ground := Ground.phase }, { on := 9, ground := Ground.phase }, { on := 10, ground := Ground.phase }, { on := 11, ground := Ground.phase }, { on := 12, ground := Ground.phase }, { on := 13, ground := Ground.phase }, { on := 14, ground := Ground.phase }, { on := 15, ground := Ground.phase }, { on := 16, ground := Ground.phase }, { on := 17, ground := Ground.phase }, { on := 18, ground := Ground.phase }, { on := 19, ground := Ground.phase }, { on := 20, ground := Ground.phase }, { on := 21, ground := Ground.phase }, { on := 22, ground := Ground.phase }, { on := 23, ground := Ground.phase }, { on := 24, ground := Ground.phase }, { on := 25, ground := Ground.phase }, { on := 26, ground := Ground.phase }, { on := 27, ground := Ground.phase }, { on := 28, ground := Ground.phase }, { on := 29, ground := Ground.phase }, { on := 30, ground := Ground.phase }, { on := 31, ground := Ground.phase }, { on := 32, ground := Ground.phase }, { on := 33, ground := Ground.phase }, { on := 34, ground := Ground.phase }, { on := 35, ground := Ground.phase }, { on := 36, ground := Ground.phase }, { on := 37, ground := Ground.phase }], guard := none }) (v := ?vh379) rfl ?hsh379 ?hfh379 ?hrh379 ?hQh379 ?hyh379 (by assumption) ?resth379
    case hsh379 => kernel_rfl
    case hfh379 => kernel_rfl
    case hrh379 => kernel_rfl
    case hQh379 => exact fun _ _ _ h => h
    case hyh379 => (refine Or.inl ⟨by rfl, ?_⟩; intro w hSw; (try dsimp only at hSw); go_simp; try with_reducible rfl)
    try simp only [Act.put, List.setIfInBounds_toArray, List.set_cons_zero, List.set_cons_succ]
    refine wpAnyH_done (by kernel_rfl) ?_ _
    refine NoPanic.normal ?_
    clear hHeld Hcall314 Hini315
    have q380 : v338.cell? ⟨w.heap.size, 0, none⟩ = some (.int .i64 p.bed.eye) := X340.out.cell 0
    have q381 : v338.cell? ⟨w.heap.size, 1, none⟩ = some (.int .i64 p.bed.rings) := X340.out.cell 1
    have q382 : v338.cell? ⟨w.heap.size, 2, none⟩ = some (.int .i64 p.bed.sectors) := X340.out.cell 2
    have q383 : v338.cell? ⟨w.heap.size, 3, none⟩ = some (s) := X340.out.cell 3
    have q384 : v338.cell? ⟨w.heap.size, 4, none⟩ = some (.int .i64 p.run.eye) := X340.out.cell 4
    have q385 : v338.cell? ⟨w.heap.size, 5, none⟩ = some (.int .i64 p.run.rings) := X340.out.cell 5
    have q386 : v338.cell? ⟨w.heap.size, 6, none⟩ = some (.int .i64 p.run.sectors) := X340.out.cell 6
    have q387 : v338.cell? ⟨w.heap.size, 7, none⟩ = some (r) := X340.out.cell 7
    have q388 : v338.cell? ⟨w.heap.size, 8, none⟩ = some (d) := X340.out.cell 8
    have q389 : v338.cell? ⟨w.heap.size + 1, 0, none⟩ = some (.int .i64 a) := X341.out.cell 0
    have q390 : v338.cell? ⟨w.heap.size + 1, 1, none⟩ = some (.int .i64 b) := X341.out.cell 1
    have q391 : v338.cell? ⟨w.heap.size + 1, 2, none⟩ = some (.int .i64 t) := X341.out.cell 2
    have q392 : v338.cell? ⟨v192.heap.size, 0, none⟩ = some (.int .i64 sx) := X342.out.cell 0
    have q393 : v338.cell? ⟨v192.heap.size, 1, none⟩ = some (.int .i64 sy) := X342.out.cell 1
    have q394 : v338.cell? ⟨v192.heap.size, 2, none⟩ = some (.int .i64 sz) := X342.out.cell 2
    have q395 : v338.cell? ⟨v230.heap.size, 0, none⟩ = some (.int .i64 sx) := X343.out.cell 0
    have q396 : v338.cell? ⟨v230.heap.size, 1, none⟩ = some (.int .i64 sy) := X343.out.cell 1
    have q397 : v338.cell? ⟨v230.heap.size, 2, none⟩ = some (.int .i64 sz) := X343.out.cell 2
    go_wp2_with fail
    go_ret
    exact ⟨rfl, B345.out⟩

end Go.Proofs.Ytikfiallhmhicaa

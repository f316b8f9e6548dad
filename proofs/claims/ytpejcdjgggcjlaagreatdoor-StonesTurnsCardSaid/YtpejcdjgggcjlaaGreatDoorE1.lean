/- awake: the examples at the head of the statements hold. -/
import Derived.Test.YtpejcdjgggcjlaaGreatDoorC15
import Derived.Test.YtpejcdjgggcjlaaGreatDoorC11
import Derived.Test.YtpejcdjgggcjlaaGreatDoorA8
import Derived.Test.YtpejcdjgggcjlaaGreatDoorB4
namespace Go.Proofs.YtpejcdjgggcjlaaGreatDoor
open Go.RowKit

theorem sampV : validB sampF = true := by decide +kernel
theorem sampArea : areaOf sampF 0 = 19 := by decide +kernel
theorem sampKind : ckKind sampF 0 = 0 := by decide +kernel
theorem sampReg : regL sampF = [[0, 2, 3, 4, 7], [1, 5, 6]] := by decide +kernel
theorem sampTurn : (turnF sampF 1).kinds = [0, 0, 1, 0, 0, 0, 1, 2] := by decide +kernel
theorem sampNorm : (normF sampF).kinds = [0, 0, 0, 1, 2, 0, 0, 1] := by decide +kernel

def sampP : Pt := { eye := 1, rings := 3, harps := 2, wide := 3, fs := [⟨0, 1, 1, 1, 1, 0⟩] }
theorem sampPat : patB sampP = true := by decide +kernel
theorem sampDress : (dressF sampP).kinds = [0, 0, 0, 0, 0, 0, 0, 1, 0, 0, 1, 0, 1, 0, 0, 1, 0, 0] := by decide +kernel

/-- what the examples lean on: a variable of the library's is an int -/
def ML (w : World) : Prop := (∃ m : Int, w.cell? ⟨0, 0, none⟩ = some (.int .i64 m)) ∧ 0 < w.heap.size
theorem ML.later {w w' : World} (h : ML w) (hb : Below w.heap.size w w') : ML w' := by
  obtain ⟨⟨m, h1⟩, h2⟩ := h
  exact ⟨⟨m, (hb.cell (p := ⟨0, 0, none⟩) h2).trans h1⟩, Nat.lt_of_lt_of_le h2 hb.size⟩

/-- a slice literal of numbers -/
theorem ints_box {W : World} {b B : Nat} {l : List Int} (h : Box W b 3 (ints l).toArray) (hB : b < B) (hl : l.length * 8 ≤ 140737488351232) : Ints W B (.slice (some ⟨b, 0, none⟩) l.length l.length) l := by
  refine ⟨hl, _, _, rfl, Nat.le_refl _, fun _ => ⟨b, 0, rfl, hB, fun k hk => ?_⟩⟩
  rw [Nat.zero_add, h.cell k]
  unfold ints nth
  simp [hk]
/-- a slice literal of slices -/
theorem lists_box2 {W : World} {b B : Nat} {s1 s2 : Value} {r1 r2 : List Int} (h : Box W b 22 #[s1, s2]) (hB : b < B) (h1 : Ints W B s1 r1) (h2 : Ints W B s2 r2) : Lists W B (.slice (some ⟨b, 0, none⟩) 2 2) [r1, r2] := by
  refine ⟨by simp, _, _, rfl, Nat.le_refl _, fun _ => ⟨b, 0, rfl, hB, fun k hk => ?_⟩⟩
  rcases k with _ | _ | k
  · exact ⟨s1, h.cell 0, h1⟩
  · exact ⟨s2, h.cell 1, h2⟩
  · simp at hk
    omega

set_option maxRecDepth 100000 in
set_option maxHeartbeats 4000000 in
theorem awake_c (w : World) (hml : ML w) : Calls Tryz.prog 7 #[] w fun e w' => e = .returned (.bool true) ∧ Below w.heap.size w w' := by
  have hV := sampV
  go_enter Tryz.func7, Tryz.ntmps7
  go_wp2_with fail
  refine (sample_c _).mono ?_; rintro e w1 ⟨A1, n1, c1, rfl, hI1, -, hb1⟩
  go_wp2_with fail
  refine (Area_c sampF _ 0 w1 (IsFace.mk hI1)).mono ?_; rintro e w2 ⟨rfl, hb2⟩
  rw [sampArea, sampKind]
  have hc2 := chain hb1 hb2
  clear hb1 hb2 hI1
  go_wp2_with fail
  refine (sample_c _).mono ?_; rintro e w3 ⟨A3, n3, c3, rfl, hI3, -, hb3⟩
  go_wp2_with fail
  refine (Regions_c sampF _ w3 (IsFace.mk hI3)).mono ?_; rintro e w4 ⟨A4, n4, c4, rfl, hL4, hb4⟩
  rw [if_pos hV, sampReg] at hL4
  rw [if_pos hV]
  have hc4 := chain (chain hc2 hb3) hb4
  clear hb3 hb4 hI3 hc2
  go_wp2_with fail
  refine (sample_c _).mono ?_; rintro e w5 ⟨A5, n5, c5, rfl, hI5, -, hb5⟩
  go_wp2_with fail
  refine (Turn_c sampF _ 1 w5 (IsFace.mk hI5)).mono ?_; rintro e w6 ⟨A6, n6, c6, rfl, hI6, -, hb6⟩
  rw [if_pos hV] at hI6
  rw [if_pos hV, if_pos hV]
  have hc6 := chain (chain hc4 hb5) hb6
  have hL6 := (hL4.mono hb5 hb5.size).mono hb6 hb6.size
  clear hb5 hb6 hI5 hc4 hL4
  go_wp2_with fail
  have bT := Box.made w6 24 #[.int .i64 sampF.eye, .int .i64 sampF.rings, .int .i64 sampF.sectors, .slice A6 n6 c6]
  refine (sample_c _).mono ?_; rintro e w7 ⟨A7, n7, c7, rfl, hI7, -, hb7⟩
  have hk7 : Below w6.heap.size w6 w7 := boxed hb7
  have bT7 := bT.later hb7
  clear bT hb7
  go_wp2_with fail
  refine (Normal_c sampF _ w7 (IsFace.mk hI7)).mono ?_; rintro e w8 ⟨A8, n8, c8, rfl, hI8, -, hb8⟩
  rw [if_pos hV] at hI8
  rw [if_pos hV, if_pos hV]
  have hk8 := chain hk7 hb8
  have bT8 := bT7.later hb8
  clear hk7 hb8 bT7 hI7
  go_wp2_with fail
  have bN := Box.made w8 24 #[.int .i64 (normF sampF).eye, .int .i64 (normF sampF).rings, .int .i64 (normF sampF).sectors, .slice A8 n8 c8]
  have bP := Box.made (w8.alloc (.cells #[.int .i64 (normF sampF).eye, .int .i64 (normF sampF).rings, .int .i64 (normF sampF).sectors, .slice A8 n8 c8] 24)) 59 #[.int .i64 0, .int .i64 1, .int .i64 1, .int .i64 1, .int .i64 1, .int .i64 0]
  have hPt : IsPt ((w8.alloc (.cells #[.int .i64 (normF sampF).eye, .int .i64 (normF sampF).rings, .int .i64 (normF sampF).sectors, .slice A8 n8 c8] 24)).alloc (.cells #[.int .i64 0, .int .i64 1, .int .i64 1, .int .i64 1, .int .i64 1, .int .i64 0] 59)) (w8.heap.size + 1 + 1)
      (.agg #[.int .i64 1, .int .i64 3, .int .i64 2, .int .i64 3, .slice (some ⟨w8.heap.size + 1, 0, none⟩) 1 1]) sampP := by
    rw [World.size_alloc] at bP
    refine ⟨_, rfl, by decide, _, 1, rfl, by decide, fun _ => ⟨_, 0, rfl, by omega, fun k hk => ?_⟩⟩
    obtain rfl : k = 0 := by have : k < 1 := hk; omega
    exact ⟨bP.cell 0, bP.cell 1, bP.cell 2, bP.cell 3, bP.cell 4, bP.cell 5, by decide⟩
  have hA9 : Below w8.heap.size w8 ((w8.alloc (.cells #[.int .i64 (normF sampF).eye, .int .i64 (normF sampF).rings, .int .i64 (normF sampF).sectors, .slice A8 n8 c8] 24)).alloc (.cells #[.int .i64 0, .int .i64 1, .int .i64 1, .int .i64 1, .int .i64 1, .int .i64 0] 59)) := ((Below.refl _ _).alloc (Nat.le_refl _) _).alloc (by simp) _
  have bN9 := bN.alloc (.cells #[.int .i64 0, .int .i64 1, .int .i64 1, .int .i64 1, .int .i64 1, .int .i64 0] 59)
  have hs9 : ((w8.alloc (.cells #[.int .i64 (normF sampF).eye, .int .i64 (normF sampF).rings, .int .i64 (normF sampF).sectors, .slice A8 n8 c8] 24)).alloc (.cells #[.int .i64 0, .int .i64 1, .int .i64 1, .int .i64 1, .int .i64 1, .int .i64 0] 59)).heap.size = w8.heap.size + 1 + 1 := by simp
  obtain ⟨V9, hV9⟩ : ∃ V9, (w8.alloc (.cells #[.int .i64 (normF sampF).eye, .int .i64 (normF sampF).rings, .int .i64 (normF sampF).sectors, .slice A8 n8 c8] 24)).alloc (.cells #[.int .i64 0, .int .i64 1, .int .i64 1, .int .i64 1, .int .i64 1, .int .i64 0] 59) = V9 := ⟨_, rfl⟩
  rw [hV9] at hPt hA9 bN9 hs9 ⊢
  clear hV9 bP bN
  rw [← hs9] at hPt
  have Hs9 := Lib.hid hs9
  clear hs9
  refine (Dress_c sampP _ V9 hPt).mono ?_; rintro e w10 ⟨A10, n10, c10, rfl, hI10, -, hb10⟩
  rw [if_pos sampPat] at hI10
  rw [if_pos sampPat, if_pos sampPat]
  have hk10 := chain hA9 hb10
  have bT10 := bT8.later hk10
  have bN10 := bN9.later hb10
  clear bT8 bN9 hA9 hb10 hPt
  go_wp2_with fail
  have bD := Box.made w10 24 #[.int .i64 (dressF sampP).eye, .int .i64 (dressF sampP).rings, .int .i64 (dressF sampP).sectors, .slice A10 n10 c10]
  obtain ⟨⟨m, hm⟩, h0⟩ := ((((hml.later hc6).later hk8).later hk10).later ((Below.refl _ _).alloc (Nat.le_refl _) (.cells #[.int .i64 (dressF sampP).eye, .int .i64 (dressF sampP).rings, .int .i64 (dressF sampP).sectors, .slice A10 n10 c10] 24)))
  refine (Parse_txt m _ hm h0).mono ?_; rintro e w11 ⟨rfl, hb11⟩
  have hk11 : Below w10.heap.size w10 w11 := boxed hb11
  have bD11 := bD.later hb11
  have bT11 := bT10.later hk11
  have bN11 := bN10.later hk11
  clear bT10 bN10 bD hb11 hm h0
  go_wp2_with fail
  have hcV : Below w.heap.size w w11 := chain (chain (chain hc6 hk8) hk10) hk11
  have hL11 := ((hL6.mono hk8 hk8.size).mono hk10 hk10.size).mono hk11 hk11.size
  have hT11 := ((hI6.mono hk8 hk8.size).mono hk10 hk10.size).mono hk11 hk11.size
  have hN11 := (hI8.mono hk10 hk10.size).mono hk11 hk11.size
  have hD11 := hI10.mono hk11 hk11.size
  clear hml hc6 hk8 hk10 hk11 hL6 hI6 hI8 hI10
  have x1 := (Box.made (w11.alloc (.cells #[.int .i64 0, .int .i64 0, .int .i64 0, .slice none 0 0] 24)) 3 #[.int .i64 0, .int .i64 2, .int .i64 3, .int .i64 4, .int .i64 7])
  have x2 := (Box.made ((w11.alloc (.cells #[.int .i64 0, .int .i64 0, .int .i64 0, .slice none 0 0] 24)).alloc (.cells #[.int .i64 0, .int .i64 2, .int .i64 3, .int .i64 4, .int .i64 7] 3)) 3 #[.int .i64 1, .int .i64 5, .int .i64 6])
  have x3 := (Box.made (((w11.alloc (.cells #[.int .i64 0, .int .i64 0, .int .i64 0, .slice none 0 0] 24)).alloc (.cells #[.int .i64 0, .int .i64 2, .int .i64 3, .int .i64 4, .int .i64 7] 3)).alloc (.cells #[.int .i64 1, .int .i64 5, .int .i64 6] 3)) 22 #[.slice (some ⟨w11.heap.size + 1, 0, none⟩) 5 5, .slice (some ⟨w11.heap.size + 1 + 1, 0, none⟩) 3 3])
  have x1' := (x1.alloc (.cells #[.int .i64 1, .int .i64 5, .int .i64 6] 3)).alloc (.cells #[.slice (some ⟨w11.heap.size + 1, 0, none⟩) 5 5, .slice (some ⟨w11.heap.size + 1 + 1, 0, none⟩) 3 3] 22)
  have x2' := x2.alloc (.cells #[.slice (some ⟨w11.heap.size + 1, 0, none⟩) 5 5, .slice (some ⟨w11.heap.size + 1 + 1, 0, none⟩) 3 3] 22)
  have hA12 : Below w11.heap.size w11 ((((w11.alloc (.cells #[.int .i64 0, .int .i64 0, .int .i64 0, .slice none 0 0] 24)).alloc (.cells #[.int .i64 0, .int .i64 2, .int .i64 3, .int .i64 4, .int .i64 7] 3)).alloc (.cells #[.int .i64 1, .int .i64 5, .int .i64 6] 3)).alloc (.cells #[.slice (some ⟨w11.heap.size + 1, 0, none⟩) 5 5, .slice (some ⟨w11.heap.size + 1 + 1, 0, none⟩) 3 3] 22)) :=
    ((((Below.refl _ _).alloc (Nat.le_refl _) _).alloc (by simp) _).alloc (by simp; omega) _).alloc (by simp; omega) _
  clear x1 x2
  have hsz : ((((w11.alloc (.cells #[.int .i64 0, .int .i64 0, .int .i64 0, .slice none 0 0] 24)).alloc (.cells #[.int .i64 0, .int .i64 2, .int .i64 3, .int .i64 4, .int .i64 7] 3)).alloc (.cells #[.int .i64 1, .int .i64 5, .int .i64 6] 3)).alloc (.cells #[.slice (some ⟨w11.heap.size + 1, 0, none⟩) 5 5, .slice (some ⟨w11.heap.size + 1 + 1, 0, none⟩) 3 3] 22)).heap.size = w11.heap.size + 1 + 1 + 1 + 1 := by simp
  generalize ((((w11.alloc (.cells #[.int .i64 0, .int .i64 0, .int .i64 0, .slice none 0 0] 24)).alloc (.cells #[.int .i64 0, .int .i64 2, .int .i64 3, .int .i64 4, .int .i64 7] 3)).alloc (.cells #[.int .i64 1, .int .i64 5, .int .i64 6] 3)).alloc (.cells #[.slice (some ⟨w11.heap.size + 1, 0, none⟩) 5 5, .slice (some ⟨w11.heap.size + 1 + 1, 0, none⟩) 3 3] 22)) = V12 at x1' x2' x3 hA12 hsz ⊢
  simp only [World.size_alloc] at x1' x2' x3
  have hr := lists_box2 (B := V12.heap.size) x3 (by omega) (ints_box (l := [0, 2, 3, 4, 7]) x1' (by omega) (by simp)) (ints_box (l := [1, 5, 6]) x2' (by omega) (by simp))
  refine (sameLists_c _ _ _ _ V12 (hL11.mono hA12 hA12.size) hr).mono ?_; rintro e w12 ⟨rfl, hb12⟩
  rw [decide_eq_true (rfl : ([[0, 2, 3, 4, 7], [1, 5, 6]] : List (List Int)) = [[0, 2, 3, 4, 7], [1, 5, 6]])]
  have hk12 := chain hA12 hb12
  have hc12 := chain hcV hk12
  have bT12 := bT11.later hk12
  have bN12 := bN11.later hk12
  have bD12 := bD11.later hk12
  have hT12 := hT11.mono hk12 hk12.size
  have hN12 := hN11.mono hk12 hk12.size
  have hD12 := hD11.mono hk12 hk12.size
  clear x1' x2' x3 hr hA12 hsz hL11 hT11 hN11 hD11 hb12 hk12 bT11 bN11 bD11 hcV
  have g : w12.cell? ⟨w6.heap.size, 3, none⟩ = some (.slice A6 n6 c6) := bT12.cell 3
  go_wp2_with fail
  have y := Box.made w12 3 #[.int .i64 0, .int .i64 0, .int .i64 1, .int .i64 0, .int .i64 0, .int .i64 0, .int .i64 1, .int .i64 2]
  refine (sameInts_c _ [0, 0, 1, 0, 0, 0, 1, 2] _ _ _ (hT12.box _) (ints_box (l := [0, 0, 1, 0, 0, 0, 1, 2]) y (by simp) (by simp))).mono ?_; rintro e w13 ⟨rfl, hb13⟩
  rw [sampTurn, decide_eq_true (rfl : ([0, 0, 1, 0, 0, 0, 1, 2] : List Int) = [0, 0, 1, 0, 0, 0, 1, 2])]
  have hk13 : Below w12.heap.size w12 w13 := boxed hb13
  have hc13 := chain hc12 hk13
  have bN13 := bN12.later hk13
  have bD13 := bD12.later hk13
  have hN13 := hN12.mono hk13 hk13.size
  have hD13 := hD12.mono hk13 hk13.size
  clear y hb13 hk13 g
  have g : w13.cell? ⟨w8.heap.size, 3, none⟩ = some (.slice A8 n8 c8) := bN13.cell 3
  go_wp2_with fail
  have y := Box.made w13 3 #[.int .i64 0, .int .i64 0, .int .i64 0, .int .i64 1, .int .i64 2, .int .i64 0, .int .i64 0, .int .i64 1]
  refine (sameInts_c _ [0, 0, 0, 1, 2, 0, 0, 1] _ _ _ (hN13.box _) (ints_box (l := [0, 0, 0, 1, 2, 0, 0, 1]) y (by simp) (by simp))).mono ?_; rintro e w14 ⟨rfl, hb14⟩
  rw [sampNorm, decide_eq_true (rfl : ([0, 0, 0, 1, 2, 0, 0, 1] : List Int) = [0, 0, 0, 1, 2, 0, 0, 1])]
  have hk14 : Below w13.heap.size w13 w14 := boxed hb14
  have hc14 := chain hc13 hk14
  have bD14 := bD13.later hk14
  have hD14 := hD13.mono hk14 hk14.size
  clear y hb14 hk14 g
  have g : w14.cell? ⟨w10.heap.size, 3, none⟩ = some (.slice A10 n10 c10) := bD14.cell 3
  go_wp2_with fail
  have y := Box.made w14 3 #[.int .i64 0, .int .i64 0, .int .i64 0, .int .i64 0, .int .i64 0, .int .i64 0, .int .i64 0, .int .i64 1, .int .i64 0, .int .i64 0, .int .i64 1, .int .i64 0, .int .i64 1, .int .i64 0, .int .i64 0, .int .i64 1, .int .i64 0, .int .i64 0]
  refine (sameInts_c _ [0, 0, 0, 0, 0, 0, 0, 1, 0, 0, 1, 0, 1, 0, 0, 1, 0, 0] _ _ _ (hD14.box _) (ints_box (l := [0, 0, 0, 0, 0, 0, 0, 1, 0, 0, 1, 0, 1, 0, 0, 1, 0, 0]) y (by simp) (by simp))).mono ?_; rintro e w15 ⟨rfl, hb15⟩
  rw [sampDress, decide_eq_true (rfl : ([0, 0, 0, 0, 0, 0, 0, 1, 0, 0, 1, 0, 1, 0, 0, 1, 0, 0] : List Int) = [0, 0, 0, 0, 0, 0, 0, 1, 0, 0, 1, 0, 1, 0, 0, 1, 0, 0])]
  have hk15 : Below w14.heap.size w14 w15 := boxed hb15
  have hc15 := chain hc14 hk15
  clear y hb15 hk15 g
  go_wp2_with fail
  go_ret
  exact ⟨rfl, hc15⟩

end Go.Proofs.YtpejcdjgggcjlaaGreatDoor

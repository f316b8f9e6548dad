/- Layer 2: a pair laid together. -/
import Derived.Test.YtikfiallhmhicaaGreatC23
import Derived.Laws.CopyOwn
set_option linter.all false
namespace Go.Proofs.YtikfiallhmhicaaGreat
open Go.RowKit


def chCells (R S : Int) (s r : Value) (d0 d1 d2 d3 d4 d5 d6 d7 d8 : Value) : Array Value := #[.int .i64 R, .int .i64 S, s, r, d0, d1, d2, d3, d4, d5, d6, d7, d8]
/-- a pair laid together, at a block -/
def IsChart (w : World) (g : Nat) (p : Pr) : Prop :=
  ∃ s r d0 d1 d2 d3 d4 d5 d6 d7 d8, Box w g 149 (chCells p.bed.rings p.bed.sectors s r d0 d1 d2 d3 d4 d5 d6 d7 d8) ∧ Ints w w.heap.size s p.bed.kinds ∧ Ints w w.heap.size r p.run.kinds ∧
    ∀ k d, k < 9 → (chCells p.bed.rings p.bed.sectors s r d0 d1 d2 d3 d4 d5 d6 d7 d8)[4 + k]? = some d → Moves w w.heap.size d (nthL p.drive k)
theorem IsChart.later {w w1 : World} {g : Nat} {p : Pr} (h : IsChart w g p) (hb : Below w.heap.size w w1) : IsChart w1 g p := by
  obtain ⟨s, r, d0, d1, d2, d3, d4, d5, d6, d7, d8, h1, h2, h3, h4⟩ := h
  exact ⟨s, r, d0, d1, d2, d3, d4, d5, d6, d7, d8, h1.later hb, h2.later hb, h3.later hb, fun k d hk hd => (h4 k d hk hd).later hb⟩
theorem IsChart.rings {w : World} {g : Nat} {p : Pr} (h : IsChart w g p) : w.cell? ⟨g, 0, none⟩ = some (.int .i64 p.bed.rings) ∧ w.cell? ⟨g, 1, none⟩ = some (.int .i64 p.bed.sectors) ∧ g < w.heap.size := by
  obtain ⟨s, r, d0, d1, d2, d3, d4, d5, d6, d7, d8, h1, -⟩ := h
  exact ⟨h1.cell 0, h1.cell 1, h1.lt⟩
theorem ckE_bd {p : Pr} (h : ckE p = 0) : (1 ≤ p.bed.rings ∧ p.bed.rings ≤ 24) ∧ (2 ≤ p.bed.sectors ∧ p.bed.sectors ≤ 96) ∧ p.run.rings = p.bed.rings ∧ p.run.sectors = p.bed.sectors ∧ stN p ≤ 65536 ∧ p.drive.length = 9 ∧ (p.bed.kinds.length : Int) = p.bed.rings * p.bed.sectors ∧ (p.run.kinds.length : Int) = p.bed.rings * p.bed.sectors := by
  obtain ⟨h1, h2, h3⟩ := ckE_zero h
  obtain ⟨f1, f2, -, f3, f4⟩ := fitB_parts h1
  obtain ⟨⟨-, a1, a2⟩, b1, -⟩ := validB_parts f1
  obtain ⟨-, b2, -⟩ := validB_parts f2
  unfold drvB at h2
  rw [Bool.and_eq_true, decide_eq_true_iff] at h2
  exact ⟨a1, a2, f3.symm, f4.symm, h3, h2.1, b1, by rw [b2, f3, f4]⟩
theorem stN_bd {R S : Int} (h1 : 1 ≤ R ∧ R ≤ 24) (h2 : 2 ≤ S ∧ S ≤ 96) : 0 ≤ R * S ∧ R * S ≤ 2304 ∧ 0 ≤ R * S * S ∧ R * S * S ≤ 221184 := by
  obtain ⟨m1, m2⟩ := mul_bd (a := R) (b := S) (m := 24) (n := 96) (by omega) (by omega) (by omega) (by omega)
  obtain ⟨m3, m4⟩ := mul_bd (a := R * S) (b := S) (m := 2304) (n := 96) (by omega) (by omega) (by omega) (by omega)
  exact ⟨m1, by omega, m3, by omega⟩

set_option maxRecDepth 100000 in
set_option maxHeartbeats 4000000 in
theorem states_c (R S : Int) (g : Nat) (w : World) (c0 : w.cell? ⟨g, 0, none⟩ = some (.int .i64 R)) (c1 : w.cell? ⟨g, 1, none⟩ = some (.int .i64 S)) (h1 : 1 ≤ R ∧ R ≤ 24) (h2 : 2 ≤ S ∧ S ≤ 96) :
    Calls Tryz.prog 67 #[.pointer (some ⟨g, 0, none⟩)] w fun e w' => e = .returned (.int .i64 (R * S * S)) ∧ Below w.heap.size w w' := by
  obtain ⟨m1, m2, m3, m4⟩ := stN_bd h1 h2
  have w1 : IntKind.i64.wrap (R * S) = R * S := wrap_id (by omega) (by omega)
  have w2 : IntKind.i64.wrap (R * S * S) = R * S * S := wrap_id (by omega) (by omega)
  clear m1 m2 m3 m4 h1 h2
  obtain ⟨x, hx⟩ : ∃ x, R * S = x := ⟨_, rfl⟩
  obtain ⟨y, hy⟩ : ∃ y, x * S = y := ⟨_, rfl⟩
  have HY := Lib.hid (show R * S * S = y by rw [hx, hy])
  have p1 : IntKind.i64.wrap (R * S) = x := by rw [w1, hx]
  have p2 : IntKind.i64.wrap (x * S) = y := by rw [hx, hy] at w2; rw [hy, w2]
  clear w1 w2 hx hy
  go_enter Tryz.func67, Tryz.ntmps67
  go_wp2_with fail
  go_quiet (fail)
  go_wp2_with fail
  go_ret
  exact ⟨ret_int HY.out.symm, below_drewN _ _⟩
set_option maxRecDepth 100000 in
set_option maxHeartbeats 8000000 in
theorem chartOf_bad (p : Pr) (v : Value) (w : World) (h : IsPair w w.heap.size v p) (h0 : ckE p ≠ 0) : Calls Tryz.prog 66 #[v] w fun e w' => e = .returned (.tuple #[.pointer none, .int .i64 (ckE p)]) ∧ Below w.heap.size w w' := by
  obtain ⟨s, r, d, rfl, hs, hr, hd⟩ := h
  obtain ⟨SA, sn, sc, rfl⟩ : ∃ A n c, s = .slice A n c := by obtain ⟨-, A, c, rfl, -⟩ := hs; exact ⟨_, _, _, rfl⟩
  obtain ⟨RA, rn, rc, rfl⟩ : ∃ A n c, r = .slice A n c := by obtain ⟨-, A, c, rfl, -⟩ := hr; exact ⟨_, _, _, rfl⟩
  have HF0 := Lib.hid (show FaceAt w (.agg #[.int .i64 p.bed.eye, .int .i64 p.bed.rings, .int .i64 p.bed.sectors, .slice SA sn sc]) p.bed from ⟨_, rfl, hs⟩)
  have HG0 := Lib.hid (show FaceAt w (.agg #[.int .i64 p.run.eye, .int .i64 p.run.rings, .int .i64 p.run.sectors, .slice RA rn rc]) p.run from ⟨_, rfl, hr⟩)
  have HD0 := Lib.hid hd
  have HE := Lib.hid h0
  clear hs hr hd h0
  unfold pairV
  go_enter Tryz.func66, Tryz.ntmps66
  go_wp2_with fail
  obtain ⟨W1, hW2⟩ : ∃ Wzz, (w.alloc (.cells #[.int .i64 p.bed.eye, .int .i64 p.bed.rings, .int .i64 p.bed.sectors, .slice SA sn sc, .int .i64 p.run.eye, .int .i64 p.run.rings, .int .i64 p.run.sectors, .slice RA rn rc, d] 31)) = Wzz := ⟨_, rfl⟩
  have B3 := Lib.hid (show Below w.heap.size w W1 by rw [← hW2]; exact ((Below.refl w.heap.size w).alloc (Nat.le_refl _) _))
  have X4 := Lib.hid (show Box W1 (w.heap.size) 31 #[.int .i64 p.bed.eye, .int .i64 p.bed.rings, .int .i64 p.bed.sectors, .slice SA sn sc, .int .i64 p.run.eye, .int .i64 p.run.rings, .int .i64 p.run.sectors, .slice RA rn rc, d] by rw [← hW2]; exact Box.made w 31 #[.int .i64 p.bed.eye, .int .i64 p.bed.rings, .int .i64 p.bed.sectors, .slice SA sn sc, .int .i64 p.run.eye, .int .i64 p.run.rings, .int .i64 p.run.sectors, .slice RA rn rc, d])
  have C5 := Lib.hid (HF0.out.later B3.out)
  have C6 := Lib.hid (HG0.out.later B3.out)
  have C7 := Lib.hid (HD0.out.later B3.out)
  have SZ8 := Lib.hid (show W1.heap.size = w.heap.size + 1 by rw [← hW2]; simp)
  rw [hW2]
  clear hW2
  have q9 : W1.cell? ⟨w.heap.size, 0, none⟩ = some (.int .i64 p.bed.eye) := X4.out.cell 0
  have q10 : W1.cell? ⟨w.heap.size, 1, none⟩ = some (.int .i64 p.bed.rings) := X4.out.cell 1
  have q11 : W1.cell? ⟨w.heap.size, 2, none⟩ = some (.int .i64 p.bed.sectors) := X4.out.cell 2
  have q12 : W1.cell? ⟨w.heap.size, 3, none⟩ = some (.slice SA sn sc) := X4.out.cell 3
  have q13 : W1.cell? ⟨w.heap.size, 4, none⟩ = some (.int .i64 p.run.eye) := X4.out.cell 4
  have q14 : W1.cell? ⟨w.heap.size, 5, none⟩ = some (.int .i64 p.run.rings) := X4.out.cell 5
  have q15 : W1.cell? ⟨w.heap.size, 6, none⟩ = some (.int .i64 p.run.sectors) := X4.out.cell 6
  have q16 : W1.cell? ⟨w.heap.size, 7, none⟩ = some (.slice RA rn rc) := X4.out.cell 7
  have q17 : W1.cell? ⟨w.heap.size, 8, none⟩ = some (d) := X4.out.cell 8
  go_wp2_with fail
  refine (fits_c p.bed p.run _ _ _ C5.out C6.out).mono ?_; rintro e v18 ⟨rfl, hb19⟩
  have X20 := Lib.hid (X4.out.later hb19)
  have C21 := Lib.hid (C5.out.later hb19)
  have C22 := Lib.hid (C6.out.later hb19)
  have C23 := Lib.hid (C7.out.later hb19)
  have B24 := Lib.hid (B3.out.trans (hb19.mono B3.out.size))
  clear hb19
  clear q9 q10 q11 q12 q13 q14 q15 q16 q17
  have q25 : v18.cell? ⟨w.heap.size, 0, none⟩ = some (.int .i64 p.bed.eye) := X20.out.cell 0
  have q26 : v18.cell? ⟨w.heap.size, 1, none⟩ = some (.int .i64 p.bed.rings) := X20.out.cell 1
  have q27 : v18.cell? ⟨w.heap.size, 2, none⟩ = some (.int .i64 p.bed.sectors) := X20.out.cell 2
  have q28 : v18.cell? ⟨w.heap.size, 3, none⟩ = some (.slice SA sn sc) := X20.out.cell 3
  have q29 : v18.cell? ⟨w.heap.size, 4, none⟩ = some (.int .i64 p.run.eye) := X20.out.cell 4
  have q30 : v18.cell? ⟨w.heap.size, 5, none⟩ = some (.int .i64 p.run.rings) := X20.out.cell 5
  have q31 : v18.cell? ⟨w.heap.size, 6, none⟩ = some (.int .i64 p.run.sectors) := X20.out.cell 6
  have q32 : v18.cell? ⟨w.heap.size, 7, none⟩ = some (.slice RA rn rc) := X20.out.cell 7
  have q33 : v18.cell? ⟨w.heap.size, 8, none⟩ = some (d) := X20.out.cell 8
  cases h1 : fitB ⟨p.bed, p.run, []⟩
  · have HR := Lib.hid (show ckE p = 20 by unfold ckE; rw [show fitB p = false from h1]; rfl)
    clear h1
    go_wp2_with fail
    go_ret2
    exact ⟨by rw [HR.out]; rfl, B24.out⟩
  · have H1 := Lib.hid (show fitB p = true from h1)
    clear h1
    go_wp2_with fail
    refine (validDrive_c p.drive _ _ C23.out).mono ?_; rintro e v34 ⟨rfl, hb35⟩
    have X36 := Lib.hid (X20.out.later hb35)
    have C37 := Lib.hid (C21.out.later hb35)
    have C38 := Lib.hid (C22.out.later hb35)
    have C39 := Lib.hid (C23.out.later hb35)
    have B40 := Lib.hid (B24.out.trans (hb35.mono B24.out.size))
    clear hb35
    clear q25 q26 q27 q28 q29 q30 q31 q32 q33
    have q41 : v34.cell? ⟨w.heap.size, 0, none⟩ = some (.int .i64 p.bed.eye) := X36.out.cell 0
    have q42 : v34.cell? ⟨w.heap.size, 1, none⟩ = some (.int .i64 p.bed.rings) := X36.out.cell 1
    have q43 : v34.cell? ⟨w.heap.size, 2, none⟩ = some (.int .i64 p.bed.sectors) := X36.out.cell 2
    have q44 : v34.cell? ⟨w.heap.size, 3, none⟩ = some (.slice SA sn sc) := X36.out.cell 3
    have q45 : v34.cell? ⟨w.heap.size, 4, none⟩ = some (.int .i64 p.run.eye) := X36.out.cell 4
    have q46 : v34.cell? ⟨w.heap.size, 5, none⟩ = some (.int .i64 p.run.rings) := X36.out.cell 5
    have q47 : v34.cell? ⟨w.heap.size, 6, none⟩ = some (.int .i64 p.run.sectors) := X36.out.cell 6
    have q48 : v34.cell? ⟨w.heap.size, 7, none⟩ = some (.slice RA rn rc) := X36.out.cell 7
    have q49 : v34.cell? ⟨w.heap.size, 8, none⟩ = some (d) := X36.out.cell 8
    cases h2 : drvB p.drive
    · have HR := Lib.hid (show ckE p = 20 by unfold ckE; rw [h2, Bool.and_false]; rfl)
      clear h2
      go_wp2_with fail
      go_ret2
      exact ⟨by rw [HR.out]; rfl, B40.out⟩
    · have HC := Lib.hid (show ckE p = if stN p ≤ 65536 then 0 else 2 by unfold ckE; rw [h2, H1.out]; rfl)
      clear h2
      obtain ⟨f1, -, -⟩ := fitB_parts H1.out
      obtain ⟨⟨-, a1, a2⟩, -⟩ := validB_parts f1
      have A1 := Lib.hid a1
      have A2 := Lib.hid a2
      clear f1 a1 a2
      go_wp2_with fail
      obtain ⟨W50, hW51⟩ : ∃ Wzz, v34.alloc (.cells #[.int .i64 p.bed.rings, .int .i64 p.bed.sectors, .slice SA sn sc, .slice RA rn rc, .slice none 0 0, .slice none 0 0, .slice none 0 0, .slice none 0 0, .slice none 0 0, .slice none 0 0, .slice none 0 0, .slice none 0 0, .slice none 0 0] 149) = Wzz := ⟨_, rfl⟩
      have t52 := X36.out.alloc (.cells #[.int .i64 p.bed.rings, .int .i64 p.bed.sectors, .slice SA sn sc, .slice RA rn rc, .slice none 0 0, .slice none 0 0, .slice none 0 0, .slice none 0 0, .slice none 0 0, .slice none 0 0, .slice none 0 0, .slice none 0 0, .slice none 0 0] 149)
      rw [hW51] at t52
      have X53 := Lib.hid t52
      clear t52
      have t54 := C37.out.later ((Below.refl v34.heap.size v34).alloc (Nat.le_refl _) (.cells #[.int .i64 p.bed.rings, .int .i64 p.bed.sectors, .slice SA sn sc, .slice RA rn rc, .slice none 0 0, .slice none 0 0, .slice none 0 0, .slice none 0 0, .slice none 0 0, .slice none 0 0, .slice none 0 0, .slice none 0 0, .slice none 0 0] 149))
      rw [hW51] at t54
      have C55 := Lib.hid t54
      clear t54
      have t56 := C38.out.later ((Below.refl v34.heap.size v34).alloc (Nat.le_refl _) (.cells #[.int .i64 p.bed.rings, .int .i64 p.bed.sectors, .slice SA sn sc, .slice RA rn rc, .slice none 0 0, .slice none 0 0, .slice none 0 0, .slice none 0 0, .slice none 0 0, .slice none 0 0, .slice none 0 0, .slice none 0 0, .slice none 0 0] 149))
      rw [hW51] at t56
      have C57 := Lib.hid t56
      clear t56
      have t58 := C39.out.later ((Below.refl v34.heap.size v34).alloc (Nat.le_refl _) (.cells #[.int .i64 p.bed.rings, .int .i64 p.bed.sectors, .slice SA sn sc, .slice RA rn rc, .slice none 0 0, .slice none 0 0, .slice none 0 0, .slice none 0 0, .slice none 0 0, .slice none 0 0, .slice none 0 0, .slice none 0 0, .slice none 0 0] 149))
      rw [hW51] at t58
      have C59 := Lib.hid t58
      clear t58
      have t60 := B40.out.alloc B40.out.size (.cells #[.int .i64 p.bed.rings, .int .i64 p.bed.sectors, .slice SA sn sc, .slice RA rn rc, .slice none 0 0, .slice none 0 0, .slice none 0 0, .slice none 0 0, .slice none 0 0, .slice none 0 0, .slice none 0 0, .slice none 0 0, .slice none 0 0] 149)
      rw [hW51] at t60
      have B61 := Lib.hid t60
      clear t60
      have X62 := Lib.hid (show Box W50 v34.heap.size 149 #[.int .i64 p.bed.rings, .int .i64 p.bed.sectors, .slice SA sn sc, .slice RA rn rc, .slice none 0 0, .slice none 0 0, .slice none 0 0, .slice none 0 0, .slice none 0 0, .slice none 0 0, .slice none 0 0, .slice none 0 0, .slice none 0 0] by rw [← hW51]; exact Box.made v34 _ _)
      rw [hW51]
      clear hW51
      clear q41 q42 q43 q44 q45 q46 q47 q48 q49
      have q63 : W50.cell? ⟨w.heap.size, 0, none⟩ = some (.int .i64 p.bed.eye) := X53.out.cell 0
      have q64 : W50.cell? ⟨w.heap.size, 1, none⟩ = some (.int .i64 p.bed.rings) := X53.out.cell 1
      have q65 : W50.cell? ⟨w.heap.size, 2, none⟩ = some (.int .i64 p.bed.sectors) := X53.out.cell 2
      have q66 : W50.cell? ⟨w.heap.size, 3, none⟩ = some (.slice SA sn sc) := X53.out.cell 3
      have q67 : W50.cell? ⟨w.heap.size, 4, none⟩ = some (.int .i64 p.run.eye) := X53.out.cell 4
      have q68 : W50.cell? ⟨w.heap.size, 5, none⟩ = some (.int .i64 p.run.rings) := X53.out.cell 5
      have q69 : W50.cell? ⟨w.heap.size, 6, none⟩ = some (.int .i64 p.run.sectors) := X53.out.cell 6
      have q70 : W50.cell? ⟨w.heap.size, 7, none⟩ = some (.slice RA rn rc) := X53.out.cell 7
      have q71 : W50.cell? ⟨w.heap.size, 8, none⟩ = some (d) := X53.out.cell 8
      have q72 : W50.cell? ⟨v34.heap.size, 0, none⟩ = some (.int .i64 p.bed.rings) := X62.out.cell 0
      have q73 : W50.cell? ⟨v34.heap.size, 1, none⟩ = some (.int .i64 p.bed.sectors) := X62.out.cell 1
      have q74 : W50.cell? ⟨v34.heap.size, 2, none⟩ = some (.slice SA sn sc) := X62.out.cell 2
      have q75 : W50.cell? ⟨v34.heap.size, 3, none⟩ = some (.slice RA rn rc) := X62.out.cell 3
      have q76 : W50.cell? ⟨v34.heap.size, 4, none⟩ = some (.slice none 0 0) := X62.out.cell 4
      have q77 : W50.cell? ⟨v34.heap.size, 5, none⟩ = some (.slice none 0 0) := X62.out.cell 5
      have q78 : W50.cell? ⟨v34.heap.size, 6, none⟩ = some (.slice none 0 0) := X62.out.cell 6
      have q79 : W50.cell? ⟨v34.heap.size, 7, none⟩ = some (.slice none 0 0) := X62.out.cell 7
      have q80 : W50.cell? ⟨v34.heap.size, 8, none⟩ = some (.slice none 0 0) := X62.out.cell 8
      have q81 : W50.cell? ⟨v34.heap.size, 9, none⟩ = some (.slice none 0 0) := X62.out.cell 9
      have q82 : W50.cell? ⟨v34.heap.size, 10, none⟩ = some (.slice none 0 0) := X62.out.cell 10
      have q83 : W50.cell? ⟨v34.heap.size, 11, none⟩ = some (.slice none 0 0) := X62.out.cell 11
      have q84 : W50.cell? ⟨v34.heap.size, 12, none⟩ = some (.slice none 0 0) := X62.out.cell 12
      go_wp2_with fail
      refine (states_c p.bed.rings p.bed.sectors _ _ (X62.out.cell 0) (X62.out.cell 1) A1.out A2.out).mono ?_; rintro e v85 ⟨rfl, hb86⟩
      have X87 := Lib.hid (X53.out.later hb86)
      have X88 := Lib.hid (X62.out.later hb86)
      have C89 := Lib.hid (C55.out.later hb86)
      have C90 := Lib.hid (C57.out.later hb86)
      have C91 := Lib.hid (C59.out.later hb86)
      have B92 := Lib.hid (B61.out.trans (hb86.mono B61.out.size))
      clear hb86
      clear q63 q64 q65 q66 q67 q68 q69 q70 q71 q72 q73 q74 q75 q76 q77 q78 q79 q80 q81 q82 q83 q84
      have q93 : v85.cell? ⟨w.heap.size, 0, none⟩ = some (.int .i64 p.bed.eye) := X87.out.cell 0
      have q94 : v85.cell? ⟨w.heap.size, 1, none⟩ = some (.int .i64 p.bed.rings) := X87.out.cell 1
      have q95 : v85.cell? ⟨w.heap.size, 2, none⟩ = some (.int .i64 p.bed.sectors) := X87.out.cell 2
      have q96 : v85.cell? ⟨w.heap.size, 3, none⟩ = some (.slice SA sn sc) := X87.out.cell 3
      have q97 : v85.cell? ⟨w.heap.size, 4, none⟩ = some (.int .i64 p.run.eye) := X87.out.cell 4
      have q98 : v85.cell? ⟨w.heap.size, 5, none⟩ = some (.int .i64 p.run.rings) := X87.out.cell 5
      have q99 : v85.cell? ⟨w.heap.size, 6, none⟩ = some (.int .i64 p.run.sectors) := X87.out.cell 6
      have q100 : v85.cell? ⟨w.heap.size, 7, none⟩ = some (.slice RA rn rc) := X87.out.cell 7
      have q101 : v85.cell? ⟨w.heap.size, 8, none⟩ = some (d) := X87.out.cell 8
      have q102 : v85.cell? ⟨v34.heap.size, 0, none⟩ = some (.int .i64 p.bed.rings) := X88.out.cell 0
      have q103 : v85.cell? ⟨v34.heap.size, 1, none⟩ = some (.int .i64 p.bed.sectors) := X88.out.cell 1
      have q104 : v85.cell? ⟨v34.heap.size, 2, none⟩ = some (.slice SA sn sc) := X88.out.cell 2
      have q105 : v85.cell? ⟨v34.heap.size, 3, none⟩ = some (.slice RA rn rc) := X88.out.cell 3
      have q106 : v85.cell? ⟨v34.heap.size, 4, none⟩ = some (.slice none 0 0) := X88.out.cell 4
      have q107 : v85.cell? ⟨v34.heap.size, 5, none⟩ = some (.slice none 0 0) := X88.out.cell 5
      have q108 : v85.cell? ⟨v34.heap.size, 6, none⟩ = some (.slice none 0 0) := X88.out.cell 6
      have q109 : v85.cell? ⟨v34.heap.size, 7, none⟩ = some (.slice none 0 0) := X88.out.cell 7
      have q110 : v85.cell? ⟨v34.heap.size, 8, none⟩ = some (.slice none 0 0) := X88.out.cell 8
      have q111 : v85.cell? ⟨v34.heap.size, 9, none⟩ = some (.slice none 0 0) := X88.out.cell 9
      have q112 : v85.cell? ⟨v34.heap.size, 10, none⟩ = some (.slice none 0 0) := X88.out.cell 10
      have q113 : v85.cell? ⟨v34.heap.size, 11, none⟩ = some (.slice none 0 0) := X88.out.cell 11
      have q114 : v85.cell? ⟨v34.heap.size, 12, none⟩ = some (.slice none 0 0) := X88.out.cell 12
      obtain ⟨N, hN⟩ : ∃ N, p.bed.rings * p.bed.sectors * p.bed.sectors = N := ⟨_, rfl⟩
      have HN := Lib.hid (show stN p = N from hN)
      rw [hN]
      clear hN
      have hN : 65536 < N := by
        rcases Int.lt_or_le 65536 N with h | h
        · exact h
        · exact absurd (by rw [HC.out, if_pos (by rw [HN.out]; exact h)]) HE.out
      have HR := Lib.hid (show ckE p = 2 by rw [HC.out, HN.out, if_neg (by omega)])
      have e1 : decide (65536 < N) = true := by simpa using hN
      clear hN
      go_wp2_with fail
      go_ret2
      exact ⟨by rw [HR.out]; rfl, B92.out⟩

set_option maxRecDepth 100000 in
set_option maxHeartbeats 8000000 in
theorem chartOf_ok (p : Pr) (v : Value) (w : World) (h : IsPair w w.heap.size v p) (h0 : ckE p = 0) : Calls Tryz.prog 66 #[v] w fun e w' => (∃ g, e = .returned (.tuple #[.pointer (some ⟨g, 0, none⟩), .int .i64 0]) ∧ w.heap.size ≤ g ∧ IsChart w' g p) ∧ Below w.heap.size w w' := by
  obtain ⟨s, r, d, rfl, hs, hr, hd⟩ := h
  obtain ⟨SA, sn, sc, rfl⟩ : ∃ A n c, s = .slice A n c := by obtain ⟨-, A, c, rfl, -⟩ := hs; exact ⟨_, _, _, rfl⟩
  obtain ⟨RA, rn, rc, rfl⟩ : ∃ A n c, r = .slice A n c := by obtain ⟨-, A, c, rfl, -⟩ := hr; exact ⟨_, _, _, rfl⟩
  have HF0 := Lib.hid (show FaceAt w (.agg #[.int .i64 p.bed.eye, .int .i64 p.bed.rings, .int .i64 p.bed.sectors, .slice SA sn sc]) p.bed from ⟨_, rfl, hs⟩)
  have HG0 := Lib.hid (show FaceAt w (.agg #[.int .i64 p.run.eye, .int .i64 p.run.rings, .int .i64 p.run.sectors, .slice RA rn rc]) p.run from ⟨_, rfl, hr⟩)
  have HD0 := Lib.hid hd
  have HE := Lib.hid h0
  have HS0 := Lib.hid hs
  have HRr0 := Lib.hid hr
  obtain ⟨z1, z2, -, -, z3, z4, -, -⟩ := ckE_bd h0
  have A1 := Lib.hid z1
  have A2 := Lib.hid z2
  have HST := Lib.hid z3
  have HL := Lib.hid z4
  obtain ⟨z5, z6, -⟩ := ckE_zero h0
  have HFB := Lib.hid z5
  have HDB := Lib.hid z6
  clear z1 z2 z3 z4 z5 z6 hs hr hd h0
  unfold pairV
  go_enter Tryz.func66, Tryz.ntmps66
  go_wp2_with fail
  obtain ⟨W115, hW116⟩ : ∃ Wzz, (w.alloc (.cells #[.int .i64 p.bed.eye, .int .i64 p.bed.rings, .int .i64 p.bed.sectors, .slice SA sn sc, .int .i64 p.run.eye, .int .i64 p.run.rings, .int .i64 p.run.sectors, .slice RA rn rc, d] 31)) = Wzz := ⟨_, rfl⟩
  have B117 := Lib.hid (show Below w.heap.size w W115 by rw [← hW116]; exact ((Below.refl w.heap.size w).alloc (Nat.le_refl _) _))
  have X118 := Lib.hid (show Box W115 (w.heap.size) 31 #[.int .i64 p.bed.eye, .int .i64 p.bed.rings, .int .i64 p.bed.sectors, .slice SA sn sc, .int .i64 p.run.eye, .int .i64 p.run.rings, .int .i64 p.run.sectors, .slice RA rn rc, d] by rw [← hW116]; exact Box.made w 31 #[.int .i64 p.bed.eye, .int .i64 p.bed.rings, .int .i64 p.bed.sectors, .slice SA sn sc, .int .i64 p.run.eye, .int .i64 p.run.rings, .int .i64 p.run.sectors, .slice RA rn rc, d])
  have C119 := Lib.hid (HF0.out.later B117.out)
  have C120 := Lib.hid (HG0.out.later B117.out)
  have C121 := Lib.hid (HD0.out.later B117.out)
  have C122 := Lib.hid (HS0.out.later B117.out)
  have C123 := Lib.hid (HRr0.out.later B117.out)
  have SZ124 := Lib.hid (show W115.heap.size = w.heap.size + 1 by rw [← hW116]; simp)
  rw [hW116]
  clear hW116
  have q125 : W115.cell? ⟨w.heap.size, 0, none⟩ = some (.int .i64 p.bed.eye) := X118.out.cell 0
  have q126 : W115.cell? ⟨w.heap.size, 1, none⟩ = some (.int .i64 p.bed.rings) := X118.out.cell 1
  have q127 : W115.cell? ⟨w.heap.size, 2, none⟩ = some (.int .i64 p.bed.sectors) := X118.out.cell 2
  have q128 : W115.cell? ⟨w.heap.size, 3, none⟩ = some (.slice SA sn sc) := X118.out.cell 3
  have q129 : W115.cell? ⟨w.heap.size, 4, none⟩ = some (.int .i64 p.run.eye) := X118.out.cell 4
  have q130 : W115.cell? ⟨w.heap.size, 5, none⟩ = some (.int .i64 p.run.rings) := X118.out.cell 5
  have q131 : W115.cell? ⟨w.heap.size, 6, none⟩ = some (.int .i64 p.run.sectors) := X118.out.cell 6
  have q132 : W115.cell? ⟨w.heap.size, 7, none⟩ = some (.slice RA rn rc) := X118.out.cell 7
  have q133 : W115.cell? ⟨w.heap.size, 8, none⟩ = some (d) := X118.out.cell 8
  go_wp2_with fail
  refine (fits_c p.bed p.run _ _ _ C119.out C120.out).mono ?_; rintro e v134 ⟨rfl, hb135⟩
  have X136 := Lib.hid (X118.out.later hb135)
  have C137 := Lib.hid (C119.out.later hb135)
  have C138 := Lib.hid (C120.out.later hb135)
  have C139 := Lib.hid (C121.out.later hb135)
  have C140 := Lib.hid (C122.out.later hb135)
  have C141 := Lib.hid (C123.out.later hb135)
  have B142 := Lib.hid (B117.out.trans (hb135.mono B117.out.size))
  clear hb135
  rw [show fitB ⟨p.bed, p.run, []⟩ = true from HFB.out]
  clear q125 q126 q127 q128 q129 q130 q131 q132 q133
  have q143 : v134.cell? ⟨w.heap.size, 0, none⟩ = some (.int .i64 p.bed.eye) := X136.out.cell 0
  have q144 : v134.cell? ⟨w.heap.size, 1, none⟩ = some (.int .i64 p.bed.rings) := X136.out.cell 1
  have q145 : v134.cell? ⟨w.heap.size, 2, none⟩ = some (.int .i64 p.bed.sectors) := X136.out.cell 2
  have q146 : v134.cell? ⟨w.heap.size, 3, none⟩ = some (.slice SA sn sc) := X136.out.cell 3
  have q147 : v134.cell? ⟨w.heap.size, 4, none⟩ = some (.int .i64 p.run.eye) := X136.out.cell 4
  have q148 : v134.cell? ⟨w.heap.size, 5, none⟩ = some (.int .i64 p.run.rings) := X136.out.cell 5
  have q149 : v134.cell? ⟨w.heap.size, 6, none⟩ = some (.int .i64 p.run.sectors) := X136.out.cell 6
  have q150 : v134.cell? ⟨w.heap.size, 7, none⟩ = some (.slice RA rn rc) := X136.out.cell 7
  have q151 : v134.cell? ⟨w.heap.size, 8, none⟩ = some (d) := X136.out.cell 8
  go_wp2_with fail
  refine (validDrive_c p.drive _ _ C139.out).mono ?_; rintro e v152 ⟨rfl, hb153⟩
  have X154 := Lib.hid (X136.out.later hb153)
  have C155 := Lib.hid (C137.out.later hb153)
  have C156 := Lib.hid (C138.out.later hb153)
  have C157 := Lib.hid (C139.out.later hb153)
  have C158 := Lib.hid (C140.out.later hb153)
  have C159 := Lib.hid (C141.out.later hb153)
  have B160 := Lib.hid (B142.out.trans (hb153.mono B142.out.size))
  clear hb153
  rw [HDB.out]
  clear q143 q144 q145 q146 q147 q148 q149 q150 q151
  have q161 : v152.cell? ⟨w.heap.size, 0, none⟩ = some (.int .i64 p.bed.eye) := X154.out.cell 0
  have q162 : v152.cell? ⟨w.heap.size, 1, none⟩ = some (.int .i64 p.bed.rings) := X154.out.cell 1
  have q163 : v152.cell? ⟨w.heap.size, 2, none⟩ = some (.int .i64 p.bed.sectors) := X154.out.cell 2
  have q164 : v152.cell? ⟨w.heap.size, 3, none⟩ = some (.slice SA sn sc) := X154.out.cell 3
  have q165 : v152.cell? ⟨w.heap.size, 4, none⟩ = some (.int .i64 p.run.eye) := X154.out.cell 4
  have q166 : v152.cell? ⟨w.heap.size, 5, none⟩ = some (.int .i64 p.run.rings) := X154.out.cell 5
  have q167 : v152.cell? ⟨w.heap.size, 6, none⟩ = some (.int .i64 p.run.sectors) := X154.out.cell 6
  have q168 : v152.cell? ⟨w.heap.size, 7, none⟩ = some (.slice RA rn rc) := X154.out.cell 7
  have q169 : v152.cell? ⟨w.heap.size, 8, none⟩ = some (d) := X154.out.cell 8
  have HBLE := Lib.hid B160.out.size
  go_wp2_with fail
  obtain ⟨W170, hW171⟩ : ∃ Wzz, v152.alloc (.cells #[.int .i64 p.bed.rings, .int .i64 p.bed.sectors, .slice SA sn sc, .slice RA rn rc, .slice none 0 0, .slice none 0 0, .slice none 0 0, .slice none 0 0, .slice none 0 0, .slice none 0 0, .slice none 0 0, .slice none 0 0, .slice none 0 0] 149) = Wzz := ⟨_, rfl⟩
  have t172 := X154.out.alloc (.cells #[.int .i64 p.bed.rings, .int .i64 p.bed.sectors, .slice SA sn sc, .slice RA rn rc, .slice none 0 0, .slice none 0 0, .slice none 0 0, .slice none 0 0, .slice none 0 0, .slice none 0 0, .slice none 0 0, .slice none 0 0, .slice none 0 0] 149)
  rw [hW171] at t172
  have X173 := Lib.hid t172
  clear t172
  have t174 := C155.out.later ((Below.refl v152.heap.size v152).alloc (Nat.le_refl _) (.cells #[.int .i64 p.bed.rings, .int .i64 p.bed.sectors, .slice SA sn sc, .slice RA rn rc, .slice none 0 0, .slice none 0 0, .slice none 0 0, .slice none 0 0, .slice none 0 0, .slice none 0 0, .slice none 0 0, .slice none 0 0, .slice none 0 0] 149))
  rw [hW171] at t174
  have C175 := Lib.hid t174
  clear t174
  have t176 := C156.out.later ((Below.refl v152.heap.size v152).alloc (Nat.le_refl _) (.cells #[.int .i64 p.bed.rings, .int .i64 p.bed.sectors, .slice SA sn sc, .slice RA rn rc, .slice none 0 0, .slice none 0 0, .slice none 0 0, .slice none 0 0, .slice none 0 0, .slice none 0 0, .slice none 0 0, .slice none 0 0, .slice none 0 0] 149))
  rw [hW171] at t176
  have C177 := Lib.hid t176
  clear t176
  have t178 := C157.out.later ((Below.refl v152.heap.size v152).alloc (Nat.le_refl _) (.cells #[.int .i64 p.bed.rings, .int .i64 p.bed.sectors, .slice SA sn sc, .slice RA rn rc, .slice none 0 0, .slice none 0 0, .slice none 0 0, .slice none 0 0, .slice none 0 0, .slice none 0 0, .slice none 0 0, .slice none 0 0, .slice none 0 0] 149))
  rw [hW171] at t178
  have C179 := Lib.hid t178
  clear t178
  have t180 := C158.out.later ((Below.refl v152.heap.size v152).alloc (Nat.le_refl _) (.cells #[.int .i64 p.bed.rings, .int .i64 p.bed.sectors, .slice SA sn sc, .slice RA rn rc, .slice none 0 0, .slice none 0 0, .slice none 0 0, .slice none 0 0, .slice none 0 0, .slice none 0 0, .slice none 0 0, .slice none 0 0, .slice none 0 0] 149))
  rw [hW171] at t180
  have C181 := Lib.hid t180
  clear t180
  have t182 := C159.out.later ((Below.refl v152.heap.size v152).alloc (Nat.le_refl _) (.cells #[.int .i64 p.bed.rings, .int .i64 p.bed.sectors, .slice SA sn sc, .slice RA rn rc, .slice none 0 0, .slice none 0 0, .slice none 0 0, .slice none 0 0, .slice none 0 0, .slice none 0 0, .slice none 0 0, .slice none 0 0, .slice none 0 0] 149))
  rw [hW171] at t182
  have C183 := Lib.hid t182
  clear t182
  have t184 := B160.out.alloc B160.out.size (.cells #[.int .i64 p.bed.rings, .int .i64 p.bed.sectors, .slice SA sn sc, .slice RA rn rc, .slice none 0 0, .slice none 0 0, .slice none 0 0, .slice none 0 0, .slice none 0 0, .slice none 0 0, .slice none 0 0, .slice none 0 0, .slice none 0 0] 149)
  rw [hW171] at t184
  have B185 := Lib.hid t184
  clear t184
  have X186 := Lib.hid (show Box W170 v152.heap.size 149 #[.int .i64 p.bed.rings, .int .i64 p.bed.sectors, .slice SA sn sc, .slice RA rn rc, .slice none 0 0, .slice none 0 0, .slice none 0 0, .slice none 0 0, .slice none 0 0, .slice none 0 0, .slice none 0 0, .slice none 0 0, .slice none 0 0] by rw [← hW171]; exact Box.made v152 _ _)
  rw [hW171]
  clear hW171
  clear q161 q162 q163 q164 q165 q166 q167 q168 q169
  have q187 : W170.cell? ⟨w.heap.size, 0, none⟩ = some (.int .i64 p.bed.eye) := X173.out.cell 0
  have q188 : W170.cell? ⟨w.heap.size, 1, none⟩ = some (.int .i64 p.bed.rings) := X173.out.cell 1
  have q189 : W170.cell? ⟨w.heap.size, 2, none⟩ = some (.int .i64 p.bed.sectors) := X173.out.cell 2
  have q190 : W170.cell? ⟨w.heap.size, 3, none⟩ = some (.slice SA sn sc) := X173.out.cell 3
  have q191 : W170.cell? ⟨w.heap.size, 4, none⟩ = some (.int .i64 p.run.eye) := X173.out.cell 4
  have q192 : W170.cell? ⟨w.heap.size, 5, none⟩ = some (.int .i64 p.run.rings) := X173.out.cell 5
  have q193 : W170.cell? ⟨w.heap.size, 6, none⟩ = some (.int .i64 p.run.sectors) := X173.out.cell 6
  have q194 : W170.cell? ⟨w.heap.size, 7, none⟩ = some (.slice RA rn rc) := X173.out.cell 7
  have q195 : W170.cell? ⟨w.heap.size, 8, none⟩ = some (d) := X173.out.cell 8
  have q196 : W170.cell? ⟨v152.heap.size, 0, none⟩ = some (.int .i64 p.bed.rings) := X186.out.cell 0
  have q197 : W170.cell? ⟨v152.heap.size, 1, none⟩ = some (.int .i64 p.bed.sectors) := X186.out.cell 1
  have q198 : W170.cell? ⟨v152.heap.size, 2, none⟩ = some (.slice SA sn sc) := X186.out.cell 2
  have q199 : W170.cell? ⟨v152.heap.size, 3, none⟩ = some (.slice RA rn rc) := X186.out.cell 3
  have q200 : W170.cell? ⟨v152.heap.size, 4, none⟩ = some (.slice none 0 0) := X186.out.cell 4
  have q201 : W170.cell? ⟨v152.heap.size, 5, none⟩ = some (.slice none 0 0) := X186.out.cell 5
  have q202 : W170.cell? ⟨v152.heap.size, 6, none⟩ = some (.slice none 0 0) := X186.out.cell 6
  have q203 : W170.cell? ⟨v152.heap.size, 7, none⟩ = some (.slice none 0 0) := X186.out.cell 7
  have q204 : W170.cell? ⟨v152.heap.size, 8, none⟩ = some (.slice none 0 0) := X186.out.cell 8
  have q205 : W170.cell? ⟨v152.heap.size, 9, none⟩ = some (.slice none 0 0) := X186.out.cell 9
  have q206 : W170.cell? ⟨v152.heap.size, 10, none⟩ = some (.slice none 0 0) := X186.out.cell 10
  have q207 : W170.cell? ⟨v152.heap.size, 11, none⟩ = some (.slice none 0 0) := X186.out.cell 11
  have q208 : W170.cell? ⟨v152.heap.size, 12, none⟩ = some (.slice none 0 0) := X186.out.cell 12
  go_wp2_with fail
  refine (states_c p.bed.rings p.bed.sectors _ _ (X186.out.cell 0) (X186.out.cell 1) A1.out A2.out).mono ?_; rintro e v209 ⟨rfl, hb210⟩
  have X211 := Lib.hid (X173.out.later hb210)
  have X212 := Lib.hid (X186.out.later hb210)
  have C213 := Lib.hid (C175.out.later hb210)
  have C214 := Lib.hid (C177.out.later hb210)
  have C215 := Lib.hid (C179.out.later hb210)
  have C216 := Lib.hid (C181.out.later hb210)
  have C217 := Lib.hid (C183.out.later hb210)
  have B218 := Lib.hid (B185.out.trans (hb210.mono B185.out.size))
  clear hb210
  obtain ⟨N, hN⟩ : ∃ N, p.bed.rings * p.bed.sectors * p.bed.sectors = N := ⟨_, rfl⟩
  have HN := Lib.hid (show N ≤ 65536 by rw [← hN]; exact HST.out)
  rw [hN]
  clear hN
  have e1 : decide (65536 < N) = false := by have := HN.out; simp; omega
  clear q187 q188 q189 q190 q191 q192 q193 q194 q195 q196 q197 q198 q199 q200 q201 q202 q203 q204 q205 q206 q207 q208
  have q219 : v209.cell? ⟨w.heap.size, 0, none⟩ = some (.int .i64 p.bed.eye) := X211.out.cell 0
  have q220 : v209.cell? ⟨w.heap.size, 1, none⟩ = some (.int .i64 p.bed.rings) := X211.out.cell 1
  have q221 : v209.cell? ⟨w.heap.size, 2, none⟩ = some (.int .i64 p.bed.sectors) := X211.out.cell 2
  have q222 : v209.cell? ⟨w.heap.size, 3, none⟩ = some (.slice SA sn sc) := X211.out.cell 3
  have q223 : v209.cell? ⟨w.heap.size, 4, none⟩ = some (.int .i64 p.run.eye) := X211.out.cell 4
  have q224 : v209.cell? ⟨w.heap.size, 5, none⟩ = some (.int .i64 p.run.rings) := X211.out.cell 5
  have q225 : v209.cell? ⟨w.heap.size, 6, none⟩ = some (.int .i64 p.run.sectors) := X211.out.cell 6
  have q226 : v209.cell? ⟨w.heap.size, 7, none⟩ = some (.slice RA rn rc) := X211.out.cell 7
  have q227 : v209.cell? ⟨w.heap.size, 8, none⟩ = some (d) := X211.out.cell 8
  have q228 : v209.cell? ⟨v152.heap.size, 0, none⟩ = some (.int .i64 p.bed.rings) := X212.out.cell 0
  have q229 : v209.cell? ⟨v152.heap.size, 1, none⟩ = some (.int .i64 p.bed.sectors) := X212.out.cell 1
  have q230 : v209.cell? ⟨v152.heap.size, 2, none⟩ = some (.slice SA sn sc) := X212.out.cell 2
  have q231 : v209.cell? ⟨v152.heap.size, 3, none⟩ = some (.slice RA rn rc) := X212.out.cell 3
  have q232 : v209.cell? ⟨v152.heap.size, 4, none⟩ = some (.slice none 0 0) := X212.out.cell 4
  have q233 : v209.cell? ⟨v152.heap.size, 5, none⟩ = some (.slice none 0 0) := X212.out.cell 5
  have q234 : v209.cell? ⟨v152.heap.size, 6, none⟩ = some (.slice none 0 0) := X212.out.cell 6
  have q235 : v209.cell? ⟨v152.heap.size, 7, none⟩ = some (.slice none 0 0) := X212.out.cell 7
  have q236 : v209.cell? ⟨v152.heap.size, 8, none⟩ = some (.slice none 0 0) := X212.out.cell 8
  have q237 : v209.cell? ⟨v152.heap.size, 9, none⟩ = some (.slice none 0 0) := X212.out.cell 9
  have q238 : v209.cell? ⟨v152.heap.size, 10, none⟩ = some (.slice none 0 0) := X212.out.cell 10
  have q239 : v209.cell? ⟨v152.heap.size, 11, none⟩ = some (.slice none 0 0) := X212.out.cell 11
  have q240 : v209.cell? ⟨v152.heap.size, 12, none⟩ = some (.slice none 0 0) := X212.out.cell 12
  have HBW := Lib.hid B218.out.drew
  obtain ⟨b, off, cd, s0, hv, hbB, -, -⟩ := HD0.out.at (k := 0) (by rw [HL.out]; omega)
  rw [HL.out] at hv
  subst hv
  have hc : ∀ k, k < 9 → ∃ x, w.cell? ⟨b, off + k, none⟩ = some x ∧ Moves w w.heap.size x (nthL p.drive k) := fun k hk => by
    obtain ⟨b', off', c', s', hv', hb', hx, hm⟩ := HD0.out.at (k := k) (by rw [HL.out]; exact hk)
    rw [HL.out] at hv'
    cases hv'
    exact ⟨s', hx, hm⟩
  obtain ⟨d0, x0, m0⟩ := hc 0 (by omega)
  obtain ⟨d1, x1, m1⟩ := hc 1 (by omega)
  obtain ⟨d2, x2, m2⟩ := hc 2 (by omega)
  obtain ⟨d3, x3, m3⟩ := hc 3 (by omega)
  obtain ⟨d4, x4, m4⟩ := hc 4 (by omega)
  obtain ⟨d5, x5, m5⟩ := hc 5 (by omega)
  obtain ⟨d6, x6, m6⟩ := hc 6 (by omega)
  obtain ⟨d7, x7, m7⟩ := hc 7 (by omega)
  obtain ⟨d8, x8, m8⟩ := hc 8 (by omega)
  clear hc
  have HMS := Lib.hid (show ∀ k x, k < 9 → [d0, d1, d2, d3, d4, d5, d6, d7, d8][k]? = some x → Moves w w.heap.size x (nthL p.drive k) from fun k x hk hx => by
    match k, hk with
    | 0, _ => cases hx; exact m0
    | 1, _ => cases hx; exact m1
    | 2, _ => cases hx; exact m2
    | 3, _ => cases hx; exact m3
    | 4, _ => cases hx; exact m4
    | 5, _ => cases hx; exact m5
    | 6, _ => cases hx; exact m6
    | 7, _ => cases hx; exact m7
    | 8, _ => cases hx; exact m8)
  have hsrc : ∀ j v, [d0, d1, d2, d3, d4, d5, d6, d7, d8][j]? = some v → v209.drew.cell? ((⟨b, off, none⟩ : Addr).add j) = some v := fun j v hv => by
    have e2 : (⟨b, off, none⟩ : Addr).add j = ⟨b, off + j, none⟩ := by rcases j with _ | j <;> simp [Addr.add]
    rw [e2]
    have hj : j < 9 := by have := (List.getElem?_eq_some_iff.1 hv).1; simpa using this
    match j, hj with
    | 0, _ => cases hv; exact keepd x0 HBW.out hbB
    | 1, _ => cases hv; exact keepd x1 HBW.out hbB
    | 2, _ => cases hv; exact keepd x2 HBW.out hbB
    | 3, _ => cases hv; exact keepd x3 HBW.out hbB
    | 4, _ => cases hv; exact keepd x4 HBW.out hbB
    | 5, _ => cases hv; exact keepd x5 HBW.out hbB
    | 6, _ => cases hv; exact keepd x6 HBW.out hbB
    | 7, _ => cases hv; exact keepd x7 HBW.out hbB
    | 8, _ => cases hv; exact keepd x8 HBW.out hbB
  have h1c : ∀ v ∈ [d0, d1, d2, d3, d4, d5, d6, d7, d8], v.oneCell' = true := fun v hv => by
    obtain ⟨j, hj, rfl⟩ := List.getElem_of_mem hv
    obtain ⟨-, A, c, e, -⟩ := HMS.out j _ (by simpa using hj) (List.getElem?_eq_getElem hj)
    rw [e]; rfl
  have HSRC := Lib.hid hsrc
  have H1C := Lib.hid h1c
  clear x0 x1 x2 x3 x4 x5 x6 x7 x8 m0 m1 m2 m3 m4 m5 m6 m7 m8 hsrc h1c hbB
  go_wp2_with fail
  go_region_law (refine step_copy_splice rfl (.tmp 37) (.tmp 39) 29 29 rfl 51 Tryz.underlying29 (by kernel_rfl) _ _ _ _ _ _ rfl rfl v152.heap.size 4 [.int .i64 p.bed.rings, .int .i64 p.bed.sectors, .slice SA sn sc, .slice RA rn rc, .slice none 0 0, .slice none 0 0, .slice none 0 0, .slice none 0 0, .slice none 0 0, .slice none 0 0, .slice none 0 0, .slice none 0 0, .slice none 0 0] 149 X212.out [d0, d1, d2, d3, d4, d5, d6, d7, d8] rfl (fun _ => ⟨rfl, _, rfl, HSRC.out⟩) (by simp) H1C.out v152.heap.size v209 (Below.refl _ _).drew (Nat.le_refl _) ?_; intro w4 hg4 hb4)
  go_wp2_with fail
  go_ret2
  have hbt : Below w.heap.size w w4 := B218.out.trans (hb4.mono (B' := w.heap.size) HBLE.out)
  refine ⟨⟨v152.heap.size, rfl, HBLE.out, ?_⟩, hbt⟩
  refine ⟨.slice SA sn sc, .slice RA rn rc, d0, d1, d2, d3, d4, d5, d6, d7, d8, hg4.out, HS0.out.mono hbt hbt.size, HRr0.out.mono hbt hbt.size, fun k x hk hx => ?_⟩
  refine (HMS.out k x hk ?_).mono hbt hbt.size
  match k, hk with
  | 0, _ => exact hx
  | 1, _ => exact hx
  | 2, _ => exact hx
  | 3, _ => exact hx
  | 4, _ => exact hx
  | 5, _ => exact hx
  | 6, _ => exact hx
  | 7, _ => exact hx
  | 8, _ => exact hx

end Go.Proofs.YtikfiallhmhicaaGreat

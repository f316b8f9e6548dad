/- Layer 2: what the package answers: checks, numbers, states, cells, moves. -/
import Derived.Test.YtikfiallhmhicaaGreatC26
import Derived.Test.YtikfiallhmhicaaGreatC28
set_option linter.all false
namespace Go.Proofs.YtikfiallhmhicaaGreat
open Go.RowKit

set_option maxRecDepth 100000 in
set_option maxHeartbeats 8000000 in
theorem Check_c (p : Pr)  (v : Value) (w : World) (h : IsPair w w.heap.size v p) (h0 : True) : Calls Tryz.prog 32 #[v] w fun e w' => e = .returned (.int .i64 (ckE p)) ∧ Below w.heap.size w w' := by
  obtain ⟨s, r, d, hpv, -, -, -⟩ := id h
  subst hpv
  have HP0 := Lib.hid h
  have HE := Lib.hid h0
  clear h h0
  unfold pairV at *
  go_enter Tryz.func32, Tryz.ntmps32
  go_wp2_with fail
  obtain ⟨W1, hW2⟩ : ∃ Wzz, (w.alloc (.cells #[.int .i64 p.bed.eye, .int .i64 p.bed.rings, .int .i64 p.bed.sectors, s, .int .i64 p.run.eye, .int .i64 p.run.rings, .int .i64 p.run.sectors, r, d] 31)) = Wzz := ⟨_, rfl⟩
  have B3 := Lib.hid (show Below w.heap.size w W1 by rw [← hW2]; exact ((Below.refl w.heap.size w).alloc (Nat.le_refl _) _))
  have X4 := Lib.hid (show Box W1 (w.heap.size) 31 #[.int .i64 p.bed.eye, .int .i64 p.bed.rings, .int .i64 p.bed.sectors, s, .int .i64 p.run.eye, .int .i64 p.run.rings, .int .i64 p.run.sectors, r, d] by rw [← hW2]; exact Box.made w 31 #[.int .i64 p.bed.eye, .int .i64 p.bed.rings, .int .i64 p.bed.sectors, s, .int .i64 p.run.eye, .int .i64 p.run.rings, .int .i64 p.run.sectors, r, d])
  have C5 := Lib.hid (HP0.out.later B3.out)
  have SZ6 := Lib.hid (show W1.heap.size = w.heap.size + 1 by rw [← hW2]; simp)
  rw [hW2]
  clear hW2
  have q7 : W1.cell? ⟨w.heap.size, 0, none⟩ = some (.int .i64 p.bed.eye) := X4.out.cell 0
  have q8 : W1.cell? ⟨w.heap.size, 1, none⟩ = some (.int .i64 p.bed.rings) := X4.out.cell 1
  have q9 : W1.cell? ⟨w.heap.size, 2, none⟩ = some (.int .i64 p.bed.sectors) := X4.out.cell 2
  have q10 : W1.cell? ⟨w.heap.size, 3, none⟩ = some (s) := X4.out.cell 3
  have q11 : W1.cell? ⟨w.heap.size, 4, none⟩ = some (.int .i64 p.run.eye) := X4.out.cell 4
  have q12 : W1.cell? ⟨w.heap.size, 5, none⟩ = some (.int .i64 p.run.rings) := X4.out.cell 5
  have q13 : W1.cell? ⟨w.heap.size, 6, none⟩ = some (.int .i64 p.run.sectors) := X4.out.cell 6
  have q14 : W1.cell? ⟨w.heap.size, 7, none⟩ = some (r) := X4.out.cell 7
  have q15 : W1.cell? ⟨w.heap.size, 8, none⟩ = some (d) := X4.out.cell 8
  by_cases h1 : ckE p = 0; rotate_left
  · go_wp2_with fail
    refine (chartOf_bad p _ _ C5.out h1).mono ?_; rintro e v16 ⟨rfl, hb17⟩
    have X18 := Lib.hid (X4.out.later hb17)
    have C19 := Lib.hid (C5.out.later hb17)
    have B20 := Lib.hid (B3.out.trans (hb17.mono B3.out.size))
    clear hb17
    clear q7 q8 q9 q10 q11 q12 q13 q14 q15
    have q21 : v16.cell? ⟨w.heap.size, 0, none⟩ = some (.int .i64 p.bed.eye) := X18.out.cell 0
    have q22 : v16.cell? ⟨w.heap.size, 1, none⟩ = some (.int .i64 p.bed.rings) := X18.out.cell 1
    have q23 : v16.cell? ⟨w.heap.size, 2, none⟩ = some (.int .i64 p.bed.sectors) := X18.out.cell 2
    have q24 : v16.cell? ⟨w.heap.size, 3, none⟩ = some (s) := X18.out.cell 3
    have q25 : v16.cell? ⟨w.heap.size, 4, none⟩ = some (.int .i64 p.run.eye) := X18.out.cell 4
    have q26 : v16.cell? ⟨w.heap.size, 5, none⟩ = some (.int .i64 p.run.rings) := X18.out.cell 5
    have q27 : v16.cell? ⟨w.heap.size, 6, none⟩ = some (.int .i64 p.run.sectors) := X18.out.cell 6
    have q28 : v16.cell? ⟨w.heap.size, 7, none⟩ = some (r) := X18.out.cell 7
    have q29 : v16.cell? ⟨w.heap.size, 8, none⟩ = some (d) := X18.out.cell 8
    clear h1
    go_wp2_with fail
    go_ret
    exact ⟨rfl, B20.out⟩
  · go_wp2_with fail
    refine (chartOf_ok p _ _ C5.out h1).mono ?_; rintro e v30 ⟨⟨g, rfl, hg, hch⟩, hb31⟩
    have X32 := Lib.hid (X4.out.later hb31)
    have C33 := Lib.hid (C5.out.later hb31)
    have B34 := Lib.hid (B3.out.trans (hb31.mono B3.out.size))
    clear hb31
    clear hch hg
    clear q7 q8 q9 q10 q11 q12 q13 q14 q15
    have q35 : v30.cell? ⟨w.heap.size, 0, none⟩ = some (.int .i64 p.bed.eye) := X32.out.cell 0
    have q36 : v30.cell? ⟨w.heap.size, 1, none⟩ = some (.int .i64 p.bed.rings) := X32.out.cell 1
    have q37 : v30.cell? ⟨w.heap.size, 2, none⟩ = some (.int .i64 p.bed.sectors) := X32.out.cell 2
    have q38 : v30.cell? ⟨w.heap.size, 3, none⟩ = some (s) := X32.out.cell 3
    have q39 : v30.cell? ⟨w.heap.size, 4, none⟩ = some (.int .i64 p.run.eye) := X32.out.cell 4
    have q40 : v30.cell? ⟨w.heap.size, 5, none⟩ = some (.int .i64 p.run.rings) := X32.out.cell 5
    have q41 : v30.cell? ⟨w.heap.size, 6, none⟩ = some (.int .i64 p.run.sectors) := X32.out.cell 6
    have q42 : v30.cell? ⟨w.heap.size, 7, none⟩ = some (r) := X32.out.cell 7
    have q43 : v30.cell? ⟨w.heap.size, 8, none⟩ = some (d) := X32.out.cell 8
    have H1 := Lib.hid h1
    clear h1
    go_wp2_with fail
    go_ret
    exact ⟨by rw [H1.out]; rfl, B34.out⟩

set_option maxRecDepth 100000 in
set_option maxHeartbeats 8000000 in
theorem States_bad (p : Pr)  (v : Value) (w : World) (h : IsPair w w.heap.size v p) (h0 : ckE p ≠ 0) : Calls Tryz.prog 33 #[v] w fun e w' => e = .returned (.tuple #[.int .i64 0, .int .i64 (ckE p)]) ∧ Below w.heap.size w w' := by
  obtain ⟨s, r, d, hpv, -, -, -⟩ := id h
  subst hpv
  have HP0 := Lib.hid h
  have HE := Lib.hid h0
  clear h h0
  unfold pairV at *
  have hne : (ckE p != 0) = true := by simpa using HE.out
  have hne2 : decide (ckE p = 0) = false := by simpa using HE.out
  go_enter Tryz.func33, Tryz.ntmps33
  go_wp2_with fail
  obtain ⟨W44, hW45⟩ : ∃ Wzz, (w.alloc (.cells #[.int .i64 p.bed.eye, .int .i64 p.bed.rings, .int .i64 p.bed.sectors, s, .int .i64 p.run.eye, .int .i64 p.run.rings, .int .i64 p.run.sectors, r, d] 31)) = Wzz := ⟨_, rfl⟩
  have B46 := Lib.hid (show Below w.heap.size w W44 by rw [← hW45]; exact ((Below.refl w.heap.size w).alloc (Nat.le_refl _) _))
  have X47 := Lib.hid (show Box W44 (w.heap.size) 31 #[.int .i64 p.bed.eye, .int .i64 p.bed.rings, .int .i64 p.bed.sectors, s, .int .i64 p.run.eye, .int .i64 p.run.rings, .int .i64 p.run.sectors, r, d] by rw [← hW45]; exact Box.made w 31 #[.int .i64 p.bed.eye, .int .i64 p.bed.rings, .int .i64 p.bed.sectors, s, .int .i64 p.run.eye, .int .i64 p.run.rings, .int .i64 p.run.sectors, r, d])
  have C48 := Lib.hid (HP0.out.later B46.out)
  have SZ49 := Lib.hid (show W44.heap.size = w.heap.size + 1 by rw [← hW45]; simp)
  rw [hW45]
  clear hW45
  have q50 : W44.cell? ⟨w.heap.size, 0, none⟩ = some (.int .i64 p.bed.eye) := X47.out.cell 0
  have q51 : W44.cell? ⟨w.heap.size, 1, none⟩ = some (.int .i64 p.bed.rings) := X47.out.cell 1
  have q52 : W44.cell? ⟨w.heap.size, 2, none⟩ = some (.int .i64 p.bed.sectors) := X47.out.cell 2
  have q53 : W44.cell? ⟨w.heap.size, 3, none⟩ = some (s) := X47.out.cell 3
  have q54 : W44.cell? ⟨w.heap.size, 4, none⟩ = some (.int .i64 p.run.eye) := X47.out.cell 4
  have q55 : W44.cell? ⟨w.heap.size, 5, none⟩ = some (.int .i64 p.run.rings) := X47.out.cell 5
  have q56 : W44.cell? ⟨w.heap.size, 6, none⟩ = some (.int .i64 p.run.sectors) := X47.out.cell 6
  have q57 : W44.cell? ⟨w.heap.size, 7, none⟩ = some (r) := X47.out.cell 7
  have q58 : W44.cell? ⟨w.heap.size, 8, none⟩ = some (d) := X47.out.cell 8
  go_wp2_with fail
  refine (chartOf_bad p _ _ C48.out HE.out).mono ?_; rintro e v59 ⟨rfl, hb60⟩
  have X61 := Lib.hid (X47.out.later hb60)
  have C62 := Lib.hid (C48.out.later hb60)
  have B63 := Lib.hid (B46.out.trans (hb60.mono B46.out.size))
  clear hb60
  clear q50 q51 q52 q53 q54 q55 q56 q57 q58
  have q64 : v59.cell? ⟨w.heap.size, 0, none⟩ = some (.int .i64 p.bed.eye) := X61.out.cell 0
  have q65 : v59.cell? ⟨w.heap.size, 1, none⟩ = some (.int .i64 p.bed.rings) := X61.out.cell 1
  have q66 : v59.cell? ⟨w.heap.size, 2, none⟩ = some (.int .i64 p.bed.sectors) := X61.out.cell 2
  have q67 : v59.cell? ⟨w.heap.size, 3, none⟩ = some (s) := X61.out.cell 3
  have q68 : v59.cell? ⟨w.heap.size, 4, none⟩ = some (.int .i64 p.run.eye) := X61.out.cell 4
  have q69 : v59.cell? ⟨w.heap.size, 5, none⟩ = some (.int .i64 p.run.rings) := X61.out.cell 5
  have q70 : v59.cell? ⟨w.heap.size, 6, none⟩ = some (.int .i64 p.run.sectors) := X61.out.cell 6
  have q71 : v59.cell? ⟨w.heap.size, 7, none⟩ = some (r) := X61.out.cell 7
  have q72 : v59.cell? ⟨w.heap.size, 8, none⟩ = some (d) := X61.out.cell 8
  go_wp2_with fail
  go_ret2
  exact ⟨rfl, B63.out⟩

set_option maxRecDepth 100000 in
set_option maxHeartbeats 8000000 in
theorem States_ok (p : Pr)  (v : Value) (w : World) (h : IsPair w w.heap.size v p) (h0 : ckE p = 0) : Calls Tryz.prog 33 #[v] w fun e w' => e = .returned (.tuple #[.int .i64 (stN p), .int .i64 0]) ∧ Below w.heap.size w w' := by
  obtain ⟨s, r, d, hpv, -, -, -⟩ := id h
  subst hpv
  have HP0 := Lib.hid h
  have HE := Lib.hid h0
  clear h h0
  unfold pairV at *
  go_enter Tryz.func33, Tryz.ntmps33
  go_wp2_with fail
  obtain ⟨W73, hW74⟩ : ∃ Wzz, (w.alloc (.cells #[.int .i64 p.bed.eye, .int .i64 p.bed.rings, .int .i64 p.bed.sectors, s, .int .i64 p.run.eye, .int .i64 p.run.rings, .int .i64 p.run.sectors, r, d] 31)) = Wzz := ⟨_, rfl⟩
  have B75 := Lib.hid (show Below w.heap.size w W73 by rw [← hW74]; exact ((Below.refl w.heap.size w).alloc (Nat.le_refl _) _))
  have X76 := Lib.hid (show Box W73 (w.heap.size) 31 #[.int .i64 p.bed.eye, .int .i64 p.bed.rings, .int .i64 p.bed.sectors, s, .int .i64 p.run.eye, .int .i64 p.run.rings, .int .i64 p.run.sectors, r, d] by rw [← hW74]; exact Box.made w 31 #[.int .i64 p.bed.eye, .int .i64 p.bed.rings, .int .i64 p.bed.sectors, s, .int .i64 p.run.eye, .int .i64 p.run.rings, .int .i64 p.run.sectors, r, d])
  have C77 := Lib.hid (HP0.out.later B75.out)
  have SZ78 := Lib.hid (show W73.heap.size = w.heap.size + 1 by rw [← hW74]; simp)
  rw [hW74]
  clear hW74
  have q79 : W73.cell? ⟨w.heap.size, 0, none⟩ = some (.int .i64 p.bed.eye) := X76.out.cell 0
  have q80 : W73.cell? ⟨w.heap.size, 1, none⟩ = some (.int .i64 p.bed.rings) := X76.out.cell 1
  have q81 : W73.cell? ⟨w.heap.size, 2, none⟩ = some (.int .i64 p.bed.sectors) := X76.out.cell 2
  have q82 : W73.cell? ⟨w.heap.size, 3, none⟩ = some (s) := X76.out.cell 3
  have q83 : W73.cell? ⟨w.heap.size, 4, none⟩ = some (.int .i64 p.run.eye) := X76.out.cell 4
  have q84 : W73.cell? ⟨w.heap.size, 5, none⟩ = some (.int .i64 p.run.rings) := X76.out.cell 5
  have q85 : W73.cell? ⟨w.heap.size, 6, none⟩ = some (.int .i64 p.run.sectors) := X76.out.cell 6
  have q86 : W73.cell? ⟨w.heap.size, 7, none⟩ = some (r) := X76.out.cell 7
  have q87 : W73.cell? ⟨w.heap.size, 8, none⟩ = some (d) := X76.out.cell 8
  go_wp2_with fail
  refine (chartOf_ok p _ _ C77.out HE.out).mono ?_; rintro e v88 ⟨⟨g, rfl, hg, hch⟩, hb89⟩
  have X90 := Lib.hid (X76.out.later hb89)
  have C91 := Lib.hid (C77.out.later hb89)
  have B92 := Lib.hid (B75.out.trans (hb89.mono B75.out.size))
  clear hb89
  have HCH := Lib.hid hch
  have HGL := Lib.hid hg
  clear hch hg
  clear q79 q80 q81 q82 q83 q84 q85 q86 q87
  have q93 : v88.cell? ⟨w.heap.size, 0, none⟩ = some (.int .i64 p.bed.eye) := X90.out.cell 0
  have q94 : v88.cell? ⟨w.heap.size, 1, none⟩ = some (.int .i64 p.bed.rings) := X90.out.cell 1
  have q95 : v88.cell? ⟨w.heap.size, 2, none⟩ = some (.int .i64 p.bed.sectors) := X90.out.cell 2
  have q96 : v88.cell? ⟨w.heap.size, 3, none⟩ = some (s) := X90.out.cell 3
  have q97 : v88.cell? ⟨w.heap.size, 4, none⟩ = some (.int .i64 p.run.eye) := X90.out.cell 4
  have q98 : v88.cell? ⟨w.heap.size, 5, none⟩ = some (.int .i64 p.run.rings) := X90.out.cell 5
  have q99 : v88.cell? ⟨w.heap.size, 6, none⟩ = some (.int .i64 p.run.sectors) := X90.out.cell 6
  have q100 : v88.cell? ⟨w.heap.size, 7, none⟩ = some (r) := X90.out.cell 7
  have q101 : v88.cell? ⟨w.heap.size, 8, none⟩ = some (d) := X90.out.cell 8
  go_wp2_with fail
  refine (states_c p.bed.rings p.bed.sectors g _ HCH.out.rings.1 HCH.out.rings.2.1 (ckE_bd HE.out).1 (ckE_bd HE.out).2.1).mono ?_; rintro e v102 ⟨rfl, hb103⟩
  have X104 := Lib.hid (X90.out.later hb103)
  have C105 := Lib.hid (C91.out.later hb103)
  have C106 := Lib.hid (HCH.out.later hb103)
  have B107 := Lib.hid (B92.out.trans (hb103.mono B92.out.size))
  clear hb103
  clear q93 q94 q95 q96 q97 q98 q99 q100 q101
  have q108 : v102.cell? ⟨w.heap.size, 0, none⟩ = some (.int .i64 p.bed.eye) := X104.out.cell 0
  have q109 : v102.cell? ⟨w.heap.size, 1, none⟩ = some (.int .i64 p.bed.rings) := X104.out.cell 1
  have q110 : v102.cell? ⟨w.heap.size, 2, none⟩ = some (.int .i64 p.bed.sectors) := X104.out.cell 2
  have q111 : v102.cell? ⟨w.heap.size, 3, none⟩ = some (s) := X104.out.cell 3
  have q112 : v102.cell? ⟨w.heap.size, 4, none⟩ = some (.int .i64 p.run.eye) := X104.out.cell 4
  have q113 : v102.cell? ⟨w.heap.size, 5, none⟩ = some (.int .i64 p.run.rings) := X104.out.cell 5
  have q114 : v102.cell? ⟨w.heap.size, 6, none⟩ = some (.int .i64 p.run.sectors) := X104.out.cell 6
  have q115 : v102.cell? ⟨w.heap.size, 7, none⟩ = some (r) := X104.out.cell 7
  have q116 : v102.cell? ⟨w.heap.size, 8, none⟩ = some (d) := X104.out.cell 8
  go_wp2_with fail
  go_ret2
  exact ⟨rfl, B107.out⟩


theorem asE_bad {p : Pr} {s : St3} (h : ckE p ≠ 0) : asE p s = ckE p := by unfold asE; rw [if_neg h]
theorem asE_ok {p : Pr} {s : St3} (h : ckE p = 0) : asE p s = if hasB p s then 0 else 21 := by unfold asE; rw [if_pos h]
theorem asE_zero {p : Pr} {s : St3} (h : asE p s = 0) : ckE p = 0 ∧ hasB p s = true := by
  unfold asE at h
  split at h
  · split at h
    · exact ⟨by assumption, by assumption⟩
    · omega
  · contradiction
set_option maxRecDepth 100000 in
set_option maxHeartbeats 8000000 in
theorem chartAt_bad (p : Pr) (a b t : Int) (v : Value) (w : World) (h : IsPair w w.heap.size v p) (h0 : asE p ⟨a, b, t⟩ ≠ 0) : Calls Tryz.prog 107 #[v, .agg #[.int .i64 a, .int .i64 b, .int .i64 t]] w fun e w' => e = .returned (.tuple #[.pointer none, .int .i64 (asE p ⟨a, b, t⟩)]) ∧ Below w.heap.size w w' := by
  obtain ⟨s, r, d, hpv, -, -, -⟩ := id h
  subst hpv
  have HP0 := Lib.hid h
  have HE := Lib.hid h0
  clear h h0
  unfold pairV at *
  go_enter Tryz.func107, Tryz.ntmps107
  go_wp2_with fail
  obtain ⟨W117, hW118⟩ : ∃ Wzz, ((w.alloc (.cells #[.int .i64 p.bed.eye, .int .i64 p.bed.rings, .int .i64 p.bed.sectors, s, .int .i64 p.run.eye, .int .i64 p.run.rings, .int .i64 p.run.sectors, r, d] 31)).alloc (.cells #[.int .i64 a, .int .i64 b, .int .i64 t] 46)) = Wzz := ⟨_, rfl⟩
  have B119 := Lib.hid (show Below w.heap.size w W117 by rw [← hW118]; exact (((Below.refl w.heap.size w).alloc (Nat.le_refl _) _).alloc (by first | (simp; done) | (simp; omega)) _))
  have X120 := Lib.hid (show Box W117 (w.heap.size) 31 #[.int .i64 p.bed.eye, .int .i64 p.bed.rings, .int .i64 p.bed.sectors, s, .int .i64 p.run.eye, .int .i64 p.run.rings, .int .i64 p.run.sectors, r, d] by rw [← hW118]; exact Box.alloc (Box.made w 31 #[.int .i64 p.bed.eye, .int .i64 p.bed.rings, .int .i64 p.bed.sectors, s, .int .i64 p.run.eye, .int .i64 p.run.rings, .int .i64 p.run.sectors, r, d]) (.cells #[.int .i64 a, .int .i64 b, .int .i64 t] 46))
  have X121 := Lib.hid (show Box W117 (w.heap.size + 1) 46 #[.int .i64 a, .int .i64 b, .int .i64 t] by
    have hz := Box.made (w.alloc (.cells #[.int .i64 p.bed.eye, .int .i64 p.bed.rings, .int .i64 p.bed.sectors, s, .int .i64 p.run.eye, .int .i64 p.run.rings, .int .i64 p.run.sectors, r, d] 31)) 46 #[.int .i64 a, .int .i64 b, .int .i64 t]
    rw [World.size_alloc] at hz
    rw [← hW118]; exact hz)
  have C122 := Lib.hid (HP0.out.later B119.out)
  have SZ123 := Lib.hid (show W117.heap.size = w.heap.size + 1 + 1 by rw [← hW118]; simp)
  rw [hW118]
  clear hW118
  have q124 : W117.cell? ⟨w.heap.size, 0, none⟩ = some (.int .i64 p.bed.eye) := X120.out.cell 0
  have q125 : W117.cell? ⟨w.heap.size, 1, none⟩ = some (.int .i64 p.bed.rings) := X120.out.cell 1
  have q126 : W117.cell? ⟨w.heap.size, 2, none⟩ = some (.int .i64 p.bed.sectors) := X120.out.cell 2
  have q127 : W117.cell? ⟨w.heap.size, 3, none⟩ = some (s) := X120.out.cell 3
  have q128 : W117.cell? ⟨w.heap.size, 4, none⟩ = some (.int .i64 p.run.eye) := X120.out.cell 4
  have q129 : W117.cell? ⟨w.heap.size, 5, none⟩ = some (.int .i64 p.run.rings) := X120.out.cell 5
  have q130 : W117.cell? ⟨w.heap.size, 6, none⟩ = some (.int .i64 p.run.sectors) := X120.out.cell 6
  have q131 : W117.cell? ⟨w.heap.size, 7, none⟩ = some (r) := X120.out.cell 7
  have q132 : W117.cell? ⟨w.heap.size, 8, none⟩ = some (d) := X120.out.cell 8
  have q133 : W117.cell? ⟨w.heap.size + 1, 0, none⟩ = some (.int .i64 a) := X121.out.cell 0
  have q134 : W117.cell? ⟨w.heap.size + 1, 1, none⟩ = some (.int .i64 b) := X121.out.cell 1
  have q135 : W117.cell? ⟨w.heap.size + 1, 2, none⟩ = some (.int .i64 t) := X121.out.cell 2
  by_cases h1 : ckE p = 0; rotate_left
  · go_wp2_with fail
    refine (chartOf_bad p _ _ C122.out h1).mono ?_; rintro e v136 ⟨rfl, hb137⟩
    have X138 := Lib.hid (X120.out.later hb137)
    have X139 := Lib.hid (X121.out.later hb137)
    have C140 := Lib.hid (C122.out.later hb137)
    have B141 := Lib.hid (B119.out.trans (hb137.mono B119.out.size))
    clear hb137
    clear q124 q125 q126 q127 q128 q129 q130 q131 q132 q133 q134 q135
    have q142 : v136.cell? ⟨w.heap.size, 0, none⟩ = some (.int .i64 p.bed.eye) := X138.out.cell 0
    have q143 : v136.cell? ⟨w.heap.size, 1, none⟩ = some (.int .i64 p.bed.rings) := X138.out.cell 1
    have q144 : v136.cell? ⟨w.heap.size, 2, none⟩ = some (.int .i64 p.bed.sectors) := X138.out.cell 2
    have q145 : v136.cell? ⟨w.heap.size, 3, none⟩ = some (s) := X138.out.cell 3
    have q146 : v136.cell? ⟨w.heap.size, 4, none⟩ = some (.int .i64 p.run.eye) := X138.out.cell 4
    have q147 : v136.cell? ⟨w.heap.size, 5, none⟩ = some (.int .i64 p.run.rings) := X138.out.cell 5
    have q148 : v136.cell? ⟨w.heap.size, 6, none⟩ = some (.int .i64 p.run.sectors) := X138.out.cell 6
    have q149 : v136.cell? ⟨w.heap.size, 7, none⟩ = some (r) := X138.out.cell 7
    have q150 : v136.cell? ⟨w.heap.size, 8, none⟩ = some (d) := X138.out.cell 8
    have q151 : v136.cell? ⟨w.heap.size + 1, 0, none⟩ = some (.int .i64 a) := X139.out.cell 0
    have q152 : v136.cell? ⟨w.heap.size + 1, 1, none⟩ = some (.int .i64 b) := X139.out.cell 1
    have q153 : v136.cell? ⟨w.heap.size + 1, 2, none⟩ = some (.int .i64 t) := X139.out.cell 2
    have H1 := Lib.hid (asE_bad (s := ⟨a, b, t⟩) h1)
    have hne : (ckE p != 0) = true := by simpa using h1
    have hne2 : decide (ckE p = 0) = false := by simpa using h1
    clear h1
    go_wp2_with fail
    go_ret2
    exact ⟨by rw [H1.out]; rfl, B141.out⟩
  · go_wp2_with fail
    refine (chartOf_ok p _ _ C122.out h1).mono ?_; rintro e v154 ⟨⟨g, rfl, hg, hch⟩, hb155⟩
    have X156 := Lib.hid (X120.out.later hb155)
    have X157 := Lib.hid (X121.out.later hb155)
    have C158 := Lib.hid (C122.out.later hb155)
    have B159 := Lib.hid (B119.out.trans (hb155.mono B119.out.size))
    clear hb155
    have HCH := Lib.hid hch
    clear hch hg
    clear q124 q125 q126 q127 q128 q129 q130 q131 q132 q133 q134 q135
    have q160 : v154.cell? ⟨w.heap.size, 0, none⟩ = some (.int .i64 p.bed.eye) := X156.out.cell 0
    have q161 : v154.cell? ⟨w.heap.size, 1, none⟩ = some (.int .i64 p.bed.rings) := X156.out.cell 1
    have q162 : v154.cell? ⟨w.heap.size, 2, none⟩ = some (.int .i64 p.bed.sectors) := X156.out.cell 2
    have q163 : v154.cell? ⟨w.heap.size, 3, none⟩ = some (s) := X156.out.cell 3
    have q164 : v154.cell? ⟨w.heap.size, 4, none⟩ = some (.int .i64 p.run.eye) := X156.out.cell 4
    have q165 : v154.cell? ⟨w.heap.size, 5, none⟩ = some (.int .i64 p.run.rings) := X156.out.cell 5
    have q166 : v154.cell? ⟨w.heap.size, 6, none⟩ = some (.int .i64 p.run.sectors) := X156.out.cell 6
    have q167 : v154.cell? ⟨w.heap.size, 7, none⟩ = some (r) := X156.out.cell 7
    have q168 : v154.cell? ⟨w.heap.size, 8, none⟩ = some (d) := X156.out.cell 8
    have q169 : v154.cell? ⟨w.heap.size + 1, 0, none⟩ = some (.int .i64 a) := X157.out.cell 0
    have q170 : v154.cell? ⟨w.heap.size + 1, 1, none⟩ = some (.int .i64 b) := X157.out.cell 1
    have q171 : v154.cell? ⟨w.heap.size + 1, 2, none⟩ = some (.int .i64 t) := X157.out.cell 2
    have hb : hasB p ⟨a, b, t⟩ = false := by
      cases hq : hasB p ⟨a, b, t⟩
      · rfl
      · exact absurd (by rw [asE_ok h1, hq]; rfl) HE.out
    have H1 := Lib.hid (show asE p ⟨a, b, t⟩ = 21 by rw [asE_ok h1, hb]; rfl)
    have HHB := Lib.hid hb
    clear h1 hb
    go_wp2_with fail
    refine (has_c p a b t g _ HCH.out).mono ?_; rintro e v172 ⟨rfl, hb173⟩
    have X174 := Lib.hid (X156.out.later hb173)
    have X175 := Lib.hid (X157.out.later hb173)
    have C176 := Lib.hid (C158.out.later hb173)
    have C177 := Lib.hid (HCH.out.later hb173)
    have B178 := Lib.hid (B159.out.trans (hb173.mono B159.out.size))
    clear hb173
    rw [HHB.out]
    clear q160 q161 q162 q163 q164 q165 q166 q167 q168 q169 q170 q171
    have q179 : v172.cell? ⟨w.heap.size, 0, none⟩ = some (.int .i64 p.bed.eye) := X174.out.cell 0
    have q180 : v172.cell? ⟨w.heap.size, 1, none⟩ = some (.int .i64 p.bed.rings) := X174.out.cell 1
    have q181 : v172.cell? ⟨w.heap.size, 2, none⟩ = some (.int .i64 p.bed.sectors) := X174.out.cell 2
    have q182 : v172.cell? ⟨w.heap.size, 3, none⟩ = some (s) := X174.out.cell 3
    have q183 : v172.cell? ⟨w.heap.size, 4, none⟩ = some (.int .i64 p.run.eye) := X174.out.cell 4
    have q184 : v172.cell? ⟨w.heap.size, 5, none⟩ = some (.int .i64 p.run.rings) := X174.out.cell 5
    have q185 : v172.cell? ⟨w.heap.size, 6, none⟩ = some (.int .i64 p.run.sectors) := X174.out.cell 6
    have q186 : v172.cell? ⟨w.heap.size, 7, none⟩ = some (r) := X174.out.cell 7
    have q187 : v172.cell? ⟨w.heap.size, 8, none⟩ = some (d) := X174.out.cell 8
    have q188 : v172.cell? ⟨w.heap.size + 1, 0, none⟩ = some (.int .i64 a) := X175.out.cell 0
    have q189 : v172.cell? ⟨w.heap.size + 1, 1, none⟩ = some (.int .i64 b) := X175.out.cell 1
    have q190 : v172.cell? ⟨w.heap.size + 1, 2, none⟩ = some (.int .i64 t) := X175.out.cell 2
    go_wp2_with fail
    go_ret2
    exact ⟨by rw [H1.out]; rfl, B178.out⟩

set_option maxRecDepth 100000 in
set_option maxHeartbeats 8000000 in
theorem chartAt_ok (p : Pr) (a b t : Int) (v : Value) (w : World) (h : IsPair w w.heap.size v p) (h0 : asE p ⟨a, b, t⟩ = 0) : Calls Tryz.prog 107 #[v, .agg #[.int .i64 a, .int .i64 b, .int .i64 t]] w fun e w' => (∃ g, e = .returned (.tuple #[.pointer (some ⟨g, 0, none⟩), .int .i64 0]) ∧ w.heap.size ≤ g ∧ IsChart w' g p) ∧ Below w.heap.size w w' := by
  obtain ⟨s, r, d, hpv, -, -, -⟩ := id h
  subst hpv
  have HP0 := Lib.hid h
  have HE := Lib.hid h0
  clear h h0
  unfold pairV at *
  go_enter Tryz.func107, Tryz.ntmps107
  go_wp2_with fail
  obtain ⟨W191, hW192⟩ : ∃ Wzz, ((w.alloc (.cells #[.int .i64 p.bed.eye, .int .i64 p.bed.rings, .int .i64 p.bed.sectors, s, .int .i64 p.run.eye, .int .i64 p.run.rings, .int .i64 p.run.sectors, r, d] 31)).alloc (.cells #[.int .i64 a, .int .i64 b, .int .i64 t] 46)) = Wzz := ⟨_, rfl⟩
  have B193 := Lib.hid (show Below w.heap.size w W191 by rw [← hW192]; exact (((Below.refl w.heap.size w).alloc (Nat.le_refl _) _).alloc (by first | (simp; done) | (simp; omega)) _))
  have X194 := Lib.hid (show Box W191 (w.heap.size) 31 #[.int .i64 p.bed.eye, .int .i64 p.bed.rings, .int .i64 p.bed.sectors, s, .int .i64 p.run.eye, .int .i64 p.run.rings, .int .i64 p.run.sectors, r, d] by rw [← hW192]; exact Box.alloc (Box.made w 31 #[.int .i64 p.bed.eye, .int .i64 p.bed.rings, .int .i64 p.bed.sectors, s, .int .i64 p.run.eye, .int .i64 p.run.rings, .int .i64 p.run.sectors, r, d]) (.cells #[.int .i64 a, .int .i64 b, .int .i64 t] 46))
  have X195 := Lib.hid (show Box W191 (w.heap.size + 1) 46 #[.int .i64 a, .int .i64 b, .int .i64 t] by
    have hz := Box.made (w.alloc (.cells #[.int .i64 p.bed.eye, .int .i64 p.bed.rings, .int .i64 p.bed.sectors, s, .int .i64 p.run.eye, .int .i64 p.run.rings, .int .i64 p.run.sectors, r, d] 31)) 46 #[.int .i64 a, .int .i64 b, .int .i64 t]
    rw [World.size_alloc] at hz
    rw [← hW192]; exact hz)
  have C196 := Lib.hid (HP0.out.later B193.out)
  have SZ197 := Lib.hid (show W191.heap.size = w.heap.size + 1 + 1 by rw [← hW192]; simp)
  rw [hW192]
  clear hW192
  have q198 : W191.cell? ⟨w.heap.size, 0, none⟩ = some (.int .i64 p.bed.eye) := X194.out.cell 0
  have q199 : W191.cell? ⟨w.heap.size, 1, none⟩ = some (.int .i64 p.bed.rings) := X194.out.cell 1
  have q200 : W191.cell? ⟨w.heap.size, 2, none⟩ = some (.int .i64 p.bed.sectors) := X194.out.cell 2
  have q201 : W191.cell? ⟨w.heap.size, 3, none⟩ = some (s) := X194.out.cell 3
  have q202 : W191.cell? ⟨w.heap.size, 4, none⟩ = some (.int .i64 p.run.eye) := X194.out.cell 4
  have q203 : W191.cell? ⟨w.heap.size, 5, none⟩ = some (.int .i64 p.run.rings) := X194.out.cell 5
  have q204 : W191.cell? ⟨w.heap.size, 6, none⟩ = some (.int .i64 p.run.sectors) := X194.out.cell 6
  have q205 : W191.cell? ⟨w.heap.size, 7, none⟩ = some (r) := X194.out.cell 7
  have q206 : W191.cell? ⟨w.heap.size, 8, none⟩ = some (d) := X194.out.cell 8
  have q207 : W191.cell? ⟨w.heap.size + 1, 0, none⟩ = some (.int .i64 a) := X195.out.cell 0
  have q208 : W191.cell? ⟨w.heap.size + 1, 1, none⟩ = some (.int .i64 b) := X195.out.cell 1
  have q209 : W191.cell? ⟨w.heap.size + 1, 2, none⟩ = some (.int .i64 t) := X195.out.cell 2
  go_wp2_with fail
  refine (chartOf_ok p _ _ C196.out (asE_zero HE.out).1).mono ?_; rintro e v210 ⟨⟨g, rfl, hg, hch⟩, hb211⟩
  have X212 := Lib.hid (X194.out.later hb211)
  have X213 := Lib.hid (X195.out.later hb211)
  have C214 := Lib.hid (C196.out.later hb211)
  have B215 := Lib.hid (B193.out.trans (hb211.mono B193.out.size))
  clear hb211
  have HCH := Lib.hid hch
  have HGL := Lib.hid hg
  clear hch hg
  clear q198 q199 q200 q201 q202 q203 q204 q205 q206 q207 q208 q209
  have q216 : v210.cell? ⟨w.heap.size, 0, none⟩ = some (.int .i64 p.bed.eye) := X212.out.cell 0
  have q217 : v210.cell? ⟨w.heap.size, 1, none⟩ = some (.int .i64 p.bed.rings) := X212.out.cell 1
  have q218 : v210.cell? ⟨w.heap.size, 2, none⟩ = some (.int .i64 p.bed.sectors) := X212.out.cell 2
  have q219 : v210.cell? ⟨w.heap.size, 3, none⟩ = some (s) := X212.out.cell 3
  have q220 : v210.cell? ⟨w.heap.size, 4, none⟩ = some (.int .i64 p.run.eye) := X212.out.cell 4
  have q221 : v210.cell? ⟨w.heap.size, 5, none⟩ = some (.int .i64 p.run.rings) := X212.out.cell 5
  have q222 : v210.cell? ⟨w.heap.size, 6, none⟩ = some (.int .i64 p.run.sectors) := X212.out.cell 6
  have q223 : v210.cell? ⟨w.heap.size, 7, none⟩ = some (r) := X212.out.cell 7
  have q224 : v210.cell? ⟨w.heap.size, 8, none⟩ = some (d) := X212.out.cell 8
  have q225 : v210.cell? ⟨w.heap.size + 1, 0, none⟩ = some (.int .i64 a) := X213.out.cell 0
  have q226 : v210.cell? ⟨w.heap.size + 1, 1, none⟩ = some (.int .i64 b) := X213.out.cell 1
  have q227 : v210.cell? ⟨w.heap.size + 1, 2, none⟩ = some (.int .i64 t) := X213.out.cell 2
  go_wp2_with fail
  refine (has_c p a b t g _ HCH.out).mono ?_; rintro e v228 ⟨rfl, hb229⟩
  have X230 := Lib.hid (X212.out.later hb229)
  have X231 := Lib.hid (X213.out.later hb229)
  have C232 := Lib.hid (C214.out.later hb229)
  have C233 := Lib.hid (HCH.out.later hb229)
  have B234 := Lib.hid (B215.out.trans (hb229.mono B215.out.size))
  clear hb229
  rw [(asE_zero HE.out).2]
  clear q216 q217 q218 q219 q220 q221 q222 q223 q224 q225 q226 q227
  have q235 : v228.cell? ⟨w.heap.size, 0, none⟩ = some (.int .i64 p.bed.eye) := X230.out.cell 0
  have q236 : v228.cell? ⟨w.heap.size, 1, none⟩ = some (.int .i64 p.bed.rings) := X230.out.cell 1
  have q237 : v228.cell? ⟨w.heap.size, 2, none⟩ = some (.int .i64 p.bed.sectors) := X230.out.cell 2
  have q238 : v228.cell? ⟨w.heap.size, 3, none⟩ = some (s) := X230.out.cell 3
  have q239 : v228.cell? ⟨w.heap.size, 4, none⟩ = some (.int .i64 p.run.eye) := X230.out.cell 4
  have q240 : v228.cell? ⟨w.heap.size, 5, none⟩ = some (.int .i64 p.run.rings) := X230.out.cell 5
  have q241 : v228.cell? ⟨w.heap.size, 6, none⟩ = some (.int .i64 p.run.sectors) := X230.out.cell 6
  have q242 : v228.cell? ⟨w.heap.size, 7, none⟩ = some (r) := X230.out.cell 7
  have q243 : v228.cell? ⟨w.heap.size, 8, none⟩ = some (d) := X230.out.cell 8
  have q244 : v228.cell? ⟨w.heap.size + 1, 0, none⟩ = some (.int .i64 a) := X231.out.cell 0
  have q245 : v228.cell? ⟨w.heap.size + 1, 1, none⟩ = some (.int .i64 b) := X231.out.cell 1
  have q246 : v228.cell? ⟨w.heap.size + 1, 2, none⟩ = some (.int .i64 t) := X231.out.cell 2
  go_wp2_with fail
  go_ret2
  exact ⟨⟨g, rfl, by have := HGL.out; have := SZ197.out; omega, C233.out⟩, B234.out⟩

set_option maxRecDepth 100000 in
set_option maxHeartbeats 8000000 in
theorem Number_bad (p : Pr) (a b t : Int) (v : Value) (w : World) (h : IsPair w w.heap.size v p) (h0 : asE p ⟨a, b, t⟩ ≠ 0) : Calls Tryz.prog 93 #[v, .agg #[.int .i64 a, .int .i64 b, .int .i64 t]] w fun e w' => e = .returned (.tuple #[.int .i64 0, .int .i64 (asE p ⟨a, b, t⟩)]) ∧ Below w.heap.size w w' := by
  obtain ⟨s, r, d, hpv, -, -, -⟩ := id h
  subst hpv
  have HP0 := Lib.hid h
  have HE := Lib.hid h0
  clear h h0
  unfold pairV at *
  have hne : (asE p ⟨a, b, t⟩ != 0) = true := by simpa using HE.out
  have hne2 : decide (asE p ⟨a, b, t⟩ = 0) = false := by simpa using HE.out
  go_enter Tryz.func93, Tryz.ntmps93
  go_wp2_with fail
  obtain ⟨W247, hW248⟩ : ∃ Wzz, ((w.alloc (.cells #[.int .i64 p.bed.eye, .int .i64 p.bed.rings, .int .i64 p.bed.sectors, s, .int .i64 p.run.eye, .int .i64 p.run.rings, .int .i64 p.run.sectors, r, d] 31)).alloc (.cells #[.int .i64 a, .int .i64 b, .int .i64 t] 46)) = Wzz := ⟨_, rfl⟩
  have B249 := Lib.hid (show Below w.heap.size w W247 by rw [← hW248]; exact (((Below.refl w.heap.size w).alloc (Nat.le_refl _) _).alloc (by first | (simp; done) | (simp; omega)) _))
  have X250 := Lib.hid (show Box W247 (w.heap.size) 31 #[.int .i64 p.bed.eye, .int .i64 p.bed.rings, .int .i64 p.bed.sectors, s, .int .i64 p.run.eye, .int .i64 p.run.rings, .int .i64 p.run.sectors, r, d] by rw [← hW248]; exact Box.alloc (Box.made w 31 #[.int .i64 p.bed.eye, .int .i64 p.bed.rings, .int .i64 p.bed.sectors, s, .int .i64 p.run.eye, .int .i64 p.run.rings, .int .i64 p.run.sectors, r, d]) (.cells #[.int .i64 a, .int .i64 b, .int .i64 t] 46))
  have X251 := Lib.hid (show Box W247 (w.heap.size + 1) 46 #[.int .i64 a, .int .i64 b, .int .i64 t] by
    have hz := Box.made (w.alloc (.cells #[.int .i64 p.bed.eye, .int .i64 p.bed.rings, .int .i64 p.bed.sectors, s, .int .i64 p.run.eye, .int .i64 p.run.rings, .int .i64 p.run.sectors, r, d] 31)) 46 #[.int .i64 a, .int .i64 b, .int .i64 t]
    rw [World.size_alloc] at hz
    rw [← hW248]; exact hz)
  have C252 := Lib.hid (HP0.out.later B249.out)
  have SZ253 := Lib.hid (show W247.heap.size = w.heap.size + 1 + 1 by rw [← hW248]; simp)
  rw [hW248]
  clear hW248
  have q254 : W247.cell? ⟨w.heap.size, 0, none⟩ = some (.int .i64 p.bed.eye) := X250.out.cell 0
  have q255 : W247.cell? ⟨w.heap.size, 1, none⟩ = some (.int .i64 p.bed.rings) := X250.out.cell 1
  have q256 : W247.cell? ⟨w.heap.size, 2, none⟩ = some (.int .i64 p.bed.sectors) := X250.out.cell 2
  have q257 : W247.cell? ⟨w.heap.size, 3, none⟩ = some (s) := X250.out.cell 3
  have q258 : W247.cell? ⟨w.heap.size, 4, none⟩ = some (.int .i64 p.run.eye) := X250.out.cell 4
  have q259 : W247.cell? ⟨w.heap.size, 5, none⟩ = some (.int .i64 p.run.rings) := X250.out.cell 5
  have q260 : W247.cell? ⟨w.heap.size, 6, none⟩ = some (.int .i64 p.run.sectors) := X250.out.cell 6
  have q261 : W247.cell? ⟨w.heap.size, 7, none⟩ = some (r) := X250.out.cell 7
  have q262 : W247.cell? ⟨w.heap.size, 8, none⟩ = some (d) := X250.out.cell 8
  have q263 : W247.cell? ⟨w.heap.size + 1, 0, none⟩ = some (.int .i64 a) := X251.out.cell 0
  have q264 : W247.cell? ⟨w.heap.size + 1, 1, none⟩ = some (.int .i64 b) := X251.out.cell 1
  have q265 : W247.cell? ⟨w.heap.size + 1, 2, none⟩ = some (.int .i64 t) := X251.out.cell 2
  go_wp2_with fail
  refine (chartAt_bad p a b t _ _ C252.out HE.out).mono ?_; rintro e v266 ⟨rfl, hb267⟩
  have X268 := Lib.hid (X250.out.later hb267)
  have X269 := Lib.hid (X251.out.later hb267)
  have C270 := Lib.hid (C252.out.later hb267)
  have B271 := Lib.hid (B249.out.trans (hb267.mono B249.out.size))
  clear hb267
  clear q254 q255 q256 q257 q258 q259 q260 q261 q262 q263 q264 q265
  have q272 : v266.cell? ⟨w.heap.size, 0, none⟩ = some (.int .i64 p.bed.eye) := X268.out.cell 0
  have q273 : v266.cell? ⟨w.heap.size, 1, none⟩ = some (.int .i64 p.bed.rings) := X268.out.cell 1
  have q274 : v266.cell? ⟨w.heap.size, 2, none⟩ = some (.int .i64 p.bed.sectors) := X268.out.cell 2
  have q275 : v266.cell? ⟨w.heap.size, 3, none⟩ = some (s) := X268.out.cell 3
  have q276 : v266.cell? ⟨w.heap.size, 4, none⟩ = some (.int .i64 p.run.eye) := X268.out.cell 4
  have q277 : v266.cell? ⟨w.heap.size, 5, none⟩ = some (.int .i64 p.run.rings) := X268.out.cell 5
  have q278 : v266.cell? ⟨w.heap.size, 6, none⟩ = some (.int .i64 p.run.sectors) := X268.out.cell 6
  have q279 : v266.cell? ⟨w.heap.size, 7, none⟩ = some (r) := X268.out.cell 7
  have q280 : v266.cell? ⟨w.heap.size, 8, none⟩ = some (d) := X268.out.cell 8
  have q281 : v266.cell? ⟨w.heap.size + 1, 0, none⟩ = some (.int .i64 a) := X269.out.cell 0
  have q282 : v266.cell? ⟨w.heap.size + 1, 1, none⟩ = some (.int .i64 b) := X269.out.cell 1
  have q283 : v266.cell? ⟨w.heap.size + 1, 2, none⟩ = some (.int .i64 t) := X269.out.cell 2
  go_wp2_with fail
  go_ret2
  exact ⟨rfl, B271.out⟩

set_option maxRecDepth 100000 in
set_option maxHeartbeats 8000000 in
theorem Number_ok (p : Pr) (a b t : Int) (v : Value) (w : World) (h : IsPair w w.heap.size v p) (h0 : asE p ⟨a, b, t⟩ = 0) : Calls Tryz.prog 93 #[v, .agg #[.int .i64 a, .int .i64 b, .int .i64 t]] w fun e w' => e = .returned (.tuple #[.int .i64 (numI p ⟨a, b, t⟩), .int .i64 0]) ∧ Below w.heap.size w w' := by
  obtain ⟨s, r, d, hpv, -, -, -⟩ := id h
  subst hpv
  have HP0 := Lib.hid h
  have HE := Lib.hid h0
  clear h h0
  unfold pairV at *
  go_enter Tryz.func93, Tryz.ntmps93
  go_wp2_with fail
  obtain ⟨W284, hW285⟩ : ∃ Wzz, ((w.alloc (.cells #[.int .i64 p.bed.eye, .int .i64 p.bed.rings, .int .i64 p.bed.sectors, s, .int .i64 p.run.eye, .int .i64 p.run.rings, .int .i64 p.run.sectors, r, d] 31)).alloc (.cells #[.int .i64 a, .int .i64 b, .int .i64 t] 46)) = Wzz := ⟨_, rfl⟩
  have B286 := Lib.hid (show Below w.heap.size w W284 by rw [← hW285]; exact (((Below.refl w.heap.size w).alloc (Nat.le_refl _) _).alloc (by first | (simp; done) | (simp; omega)) _))
  have X287 := Lib.hid (show Box W284 (w.heap.size) 31 #[.int .i64 p.bed.eye, .int .i64 p.bed.rings, .int .i64 p.bed.sectors, s, .int .i64 p.run.eye, .int .i64 p.run.rings, .int .i64 p.run.sectors, r, d] by rw [← hW285]; exact Box.alloc (Box.made w 31 #[.int .i64 p.bed.eye, .int .i64 p.bed.rings, .int .i64 p.bed.sectors, s, .int .i64 p.run.eye, .int .i64 p.run.rings, .int .i64 p.run.sectors, r, d]) (.cells #[.int .i64 a, .int .i64 b, .int .i64 t] 46))
  have X288 := Lib.hid (show Box W284 (w.heap.size + 1) 46 #[.int .i64 a, .int .i64 b, .int .i64 t] by
    have hz := Box.made (w.alloc (.cells #[.int .i64 p.bed.eye, .int .i64 p.bed.rings, .int .i64 p.bed.sectors, s, .int .i64 p.run.eye, .int .i64 p.run.rings, .int .i64 p.run.sectors, r, d] 31)) 46 #[.int .i64 a, .int .i64 b, .int .i64 t]
    rw [World.size_alloc] at hz
    rw [← hW285]; exact hz)
  have C289 := Lib.hid (HP0.out.later B286.out)
  have SZ290 := Lib.hid (show W284.heap.size = w.heap.size + 1 + 1 by rw [← hW285]; simp)
  rw [hW285]
  clear hW285
  have q291 : W284.cell? ⟨w.heap.size, 0, none⟩ = some (.int .i64 p.bed.eye) := X287.out.cell 0
  have q292 : W284.cell? ⟨w.heap.size, 1, none⟩ = some (.int .i64 p.bed.rings) := X287.out.cell 1
  have q293 : W284.cell? ⟨w.heap.size, 2, none⟩ = some (.int .i64 p.bed.sectors) := X287.out.cell 2
  have q294 : W284.cell? ⟨w.heap.size, 3, none⟩ = some (s) := X287.out.cell 3
  have q295 : W284.cell? ⟨w.heap.size, 4, none⟩ = some (.int .i64 p.run.eye) := X287.out.cell 4
  have q296 : W284.cell? ⟨w.heap.size, 5, none⟩ = some (.int .i64 p.run.rings) := X287.out.cell 5
  have q297 : W284.cell? ⟨w.heap.size, 6, none⟩ = some (.int .i64 p.run.sectors) := X287.out.cell 6
  have q298 : W284.cell? ⟨w.heap.size, 7, none⟩ = some (r) := X287.out.cell 7
  have q299 : W284.cell? ⟨w.heap.size, 8, none⟩ = some (d) := X287.out.cell 8
  have q300 : W284.cell? ⟨w.heap.size + 1, 0, none⟩ = some (.int .i64 a) := X288.out.cell 0
  have q301 : W284.cell? ⟨w.heap.size + 1, 1, none⟩ = some (.int .i64 b) := X288.out.cell 1
  have q302 : W284.cell? ⟨w.heap.size + 1, 2, none⟩ = some (.int .i64 t) := X288.out.cell 2
  go_wp2_with fail
  refine (chartAt_ok p a b t _ _ C289.out HE.out).mono ?_; rintro e v303 ⟨⟨g, rfl, hg, hch⟩, hb304⟩
  have X305 := Lib.hid (X287.out.later hb304)
  have X306 := Lib.hid (X288.out.later hb304)
  have C307 := Lib.hid (C289.out.later hb304)
  have B308 := Lib.hid (B286.out.trans (hb304.mono B286.out.size))
  clear hb304
  have HCH := Lib.hid hch
  clear hch hg
  clear q291 q292 q293 q294 q295 q296 q297 q298 q299 q300 q301 q302
  have q309 : v303.cell? ⟨w.heap.size, 0, none⟩ = some (.int .i64 p.bed.eye) := X305.out.cell 0
  have q310 : v303.cell? ⟨w.heap.size, 1, none⟩ = some (.int .i64 p.bed.rings) := X305.out.cell 1
  have q311 : v303.cell? ⟨w.heap.size, 2, none⟩ = some (.int .i64 p.bed.sectors) := X305.out.cell 2
  have q312 : v303.cell? ⟨w.heap.size, 3, none⟩ = some (s) := X305.out.cell 3
  have q313 : v303.cell? ⟨w.heap.size, 4, none⟩ = some (.int .i64 p.run.eye) := X305.out.cell 4
  have q314 : v303.cell? ⟨w.heap.size, 5, none⟩ = some (.int .i64 p.run.rings) := X305.out.cell 5
  have q315 : v303.cell? ⟨w.heap.size, 6, none⟩ = some (.int .i64 p.run.sectors) := X305.out.cell 6
  have q316 : v303.cell? ⟨w.heap.size, 7, none⟩ = some (r) := X305.out.cell 7
  have q317 : v303.cell? ⟨w.heap.size, 8, none⟩ = some (d) := X305.out.cell 8
  have q318 : v303.cell? ⟨w.heap.size + 1, 0, none⟩ = some (.int .i64 a) := X306.out.cell 0
  have q319 : v303.cell? ⟨w.heap.size + 1, 1, none⟩ = some (.int .i64 b) := X306.out.cell 1
  have q320 : v303.cell? ⟨w.heap.size + 1, 2, none⟩ = some (.int .i64 t) := X306.out.cell 2
  go_wp2_with fail
  refine (number_c p a b t g _ HCH.out (asE_zero HE.out).1 (asE_zero HE.out).2).mono ?_; rintro e v321 ⟨rfl, hb322⟩
  have X323 := Lib.hid (X305.out.later hb322)
  have X324 := Lib.hid (X306.out.later hb322)
  have C325 := Lib.hid (C307.out.later hb322)
  have C326 := Lib.hid (HCH.out.later hb322)
  have B327 := Lib.hid (B308.out.trans (hb322.mono B308.out.size))
  clear hb322
  clear q309 q310 q311 q312 q313 q314 q315 q316 q317 q318 q319 q320
  have q328 : v321.cell? ⟨w.heap.size, 0, none⟩ = some (.int .i64 p.bed.eye) := X323.out.cell 0
  have q329 : v321.cell? ⟨w.heap.size, 1, none⟩ = some (.int .i64 p.bed.rings) := X323.out.cell 1
  have q330 : v321.cell? ⟨w.heap.size, 2, none⟩ = some (.int .i64 p.bed.sectors) := X323.out.cell 2
  have q331 : v321.cell? ⟨w.heap.size, 3, none⟩ = some (s) := X323.out.cell 3
  have q332 : v321.cell? ⟨w.heap.size, 4, none⟩ = some (.int .i64 p.run.eye) := X323.out.cell 4
  have q333 : v321.cell? ⟨w.heap.size, 5, none⟩ = some (.int .i64 p.run.rings) := X323.out.cell 5
  have q334 : v321.cell? ⟨w.heap.size, 6, none⟩ = some (.int .i64 p.run.sectors) := X323.out.cell 6
  have q335 : v321.cell? ⟨w.heap.size, 7, none⟩ = some (r) := X323.out.cell 7
  have q336 : v321.cell? ⟨w.heap.size, 8, none⟩ = some (d) := X323.out.cell 8
  have q337 : v321.cell? ⟨w.heap.size + 1, 0, none⟩ = some (.int .i64 a) := X324.out.cell 0
  have q338 : v321.cell? ⟨w.heap.size + 1, 1, none⟩ = some (.int .i64 b) := X324.out.cell 1
  have q339 : v321.cell? ⟨w.heap.size + 1, 2, none⟩ = some (.int .i64 t) := X324.out.cell 2
  go_wp2_with fail
  go_ret2
  exact ⟨rfl, B327.out⟩

theorem listB_parts {l : List Mv} (h : listB l = true) : (1 ≤ l.length ∧ l.length ≤ 3) ∧ ∀ k, k < l.length → okAt l k = true := by
  unfold listB at h
  rw [Bool.and_eq_true, inB_iff] at h
  exact ⟨by omega, fun k hk => okTo_at h.2 hk⟩
theorem movesL_ok {p : Pr} {s : St3} (h0 : ckE p = 0) (hs : hasB p s = true) : listB (movesL p s) = true := by
  obtain ⟨-, h2, -⟩ := ckE_zero h0
  unfold drvB at h2
  rw [Bool.and_eq_true, decide_eq_true_iff] at h2
  obtain ⟨-, -, -, -, -, -, -, -, q1, q2⟩ := over_bd h0 hs
  cases hq : listB (movesL p s)
  · rw [show p.drive.all listB = false from nthL_false (k := (3 * bedK p s + runK p s).toNat) (by omega) hq] at h2
    cases h2.2
  · rfl
end Go.Proofs.YtikfiallhmhicaaGreat

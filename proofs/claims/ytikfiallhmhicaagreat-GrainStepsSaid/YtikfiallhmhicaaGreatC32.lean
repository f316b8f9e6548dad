/- Layer 2: the specification: states and their numbers. -/
import Derived.Test.YtikfiallhmhicaaGreatC31
set_option linter.all false
namespace Go.Proofs.YtikfiallhmhicaaGreat
open Go.RowKit

set_option maxRecDepth 100000 in
set_option maxHeartbeats 8000000 in
theorem kStates_bad (p : Pr)  (v : Value) (w : World) (h : IsPair w w.heap.size v p) (h0 : ckE p ≠ 0) : Calls Tryz.prog 35 #[v] w fun e w' => e = .returned (.tuple #[.int .i64 0, .int .i64 (ckE p)]) ∧ Below w.heap.size w w' := by
  obtain ⟨s, r, d, hpv, -, -, -⟩ := id h
  subst hpv
  have HP0 := Lib.hid h
  have HE := Lib.hid h0
  clear h h0
  unfold pairV at *
  have hne : (ckE p != 0) = true := by simpa using HE.out
  have hne2 : decide (ckE p = 0) = false := by simpa using HE.out
  go_enter Tryz.func35, Tryz.ntmps35
  go_wp2_with fail
  obtain ⟨W80, hW81⟩ : ∃ Wzz, (w.alloc (.cells #[.int .i64 p.bed.eye, .int .i64 p.bed.rings, .int .i64 p.bed.sectors, s, .int .i64 p.run.eye, .int .i64 p.run.rings, .int .i64 p.run.sectors, r, d] 31)) = Wzz := ⟨_, rfl⟩
  have B82 := Lib.hid (show Below w.heap.size w W80 by rw [← hW81]; exact ((Below.refl w.heap.size w).alloc (Nat.le_refl _) _))
  have X83 := Lib.hid (show Box W80 (w.heap.size) 31 #[.int .i64 p.bed.eye, .int .i64 p.bed.rings, .int .i64 p.bed.sectors, s, .int .i64 p.run.eye, .int .i64 p.run.rings, .int .i64 p.run.sectors, r, d] by rw [← hW81]; exact Box.made w 31 #[.int .i64 p.bed.eye, .int .i64 p.bed.rings, .int .i64 p.bed.sectors, s, .int .i64 p.run.eye, .int .i64 p.run.rings, .int .i64 p.run.sectors, r, d])
  have C84 := Lib.hid (HP0.out.later B82.out)
  have SZ85 := Lib.hid (show W80.heap.size = w.heap.size + 1 by rw [← hW81]; simp)
  rw [hW81]
  clear hW81
  have q86 : W80.cell? ⟨w.heap.size, 0, none⟩ = some (.int .i64 p.bed.eye) := X83.out.cell 0
  have q87 : W80.cell? ⟨w.heap.size, 1, none⟩ = some (.int .i64 p.bed.rings) := X83.out.cell 1
  have q88 : W80.cell? ⟨w.heap.size, 2, none⟩ = some (.int .i64 p.bed.sectors) := X83.out.cell 2
  have q89 : W80.cell? ⟨w.heap.size, 3, none⟩ = some (s) := X83.out.cell 3
  have q90 : W80.cell? ⟨w.heap.size, 4, none⟩ = some (.int .i64 p.run.eye) := X83.out.cell 4
  have q91 : W80.cell? ⟨w.heap.size, 5, none⟩ = some (.int .i64 p.run.rings) := X83.out.cell 5
  have q92 : W80.cell? ⟨w.heap.size, 6, none⟩ = some (.int .i64 p.run.sectors) := X83.out.cell 6
  have q93 : W80.cell? ⟨w.heap.size, 7, none⟩ = some (r) := X83.out.cell 7
  have q94 : W80.cell? ⟨w.heap.size, 8, none⟩ = some (d) := X83.out.cell 8
  go_wp2_with fail
  refine (kCheck_c p _ _ C84.out).mono ?_; rintro e v95 ⟨rfl, hb96⟩
  have X97 := Lib.hid (X83.out.later hb96)
  have C98 := Lib.hid (C84.out.later hb96)
  have B99 := Lib.hid (B82.out.trans (hb96.mono B82.out.size))
  clear hb96
  clear q86 q87 q88 q89 q90 q91 q92 q93 q94
  have q100 : v95.cell? ⟨w.heap.size, 0, none⟩ = some (.int .i64 p.bed.eye) := X97.out.cell 0
  have q101 : v95.cell? ⟨w.heap.size, 1, none⟩ = some (.int .i64 p.bed.rings) := X97.out.cell 1
  have q102 : v95.cell? ⟨w.heap.size, 2, none⟩ = some (.int .i64 p.bed.sectors) := X97.out.cell 2
  have q103 : v95.cell? ⟨w.heap.size, 3, none⟩ = some (s) := X97.out.cell 3
  have q104 : v95.cell? ⟨w.heap.size, 4, none⟩ = some (.int .i64 p.run.eye) := X97.out.cell 4
  have q105 : v95.cell? ⟨w.heap.size, 5, none⟩ = some (.int .i64 p.run.rings) := X97.out.cell 5
  have q106 : v95.cell? ⟨w.heap.size, 6, none⟩ = some (.int .i64 p.run.sectors) := X97.out.cell 6
  have q107 : v95.cell? ⟨w.heap.size, 7, none⟩ = some (r) := X97.out.cell 7
  have q108 : v95.cell? ⟨w.heap.size, 8, none⟩ = some (d) := X97.out.cell 8
  go_wp2_with fail
  go_ret2
  exact ⟨rfl, B99.out⟩

set_option maxRecDepth 100000 in
set_option maxHeartbeats 8000000 in
theorem kStates_ok (p : Pr)  (v : Value) (w : World) (h : IsPair w w.heap.size v p) (h0 : ckE p = 0) : Calls Tryz.prog 35 #[v] w fun e w' => e = .returned (.tuple #[.int .i64 (stN p), .int .i64 0]) ∧ Below w.heap.size w w' := by
  obtain ⟨s, r, d, hpv, -, -, -⟩ := id h
  subst hpv
  have HP0 := Lib.hid h
  have HE := Lib.hid h0
  clear h h0
  unfold pairV at *
  go_enter Tryz.func35, Tryz.ntmps35
  go_wp2_with fail
  obtain ⟨W109, hW110⟩ : ∃ Wzz, (w.alloc (.cells #[.int .i64 p.bed.eye, .int .i64 p.bed.rings, .int .i64 p.bed.sectors, s, .int .i64 p.run.eye, .int .i64 p.run.rings, .int .i64 p.run.sectors, r, d] 31)) = Wzz := ⟨_, rfl⟩
  have B111 := Lib.hid (show Below w.heap.size w W109 by rw [← hW110]; exact ((Below.refl w.heap.size w).alloc (Nat.le_refl _) _))
  have X112 := Lib.hid (show Box W109 (w.heap.size) 31 #[.int .i64 p.bed.eye, .int .i64 p.bed.rings, .int .i64 p.bed.sectors, s, .int .i64 p.run.eye, .int .i64 p.run.rings, .int .i64 p.run.sectors, r, d] by rw [← hW110]; exact Box.made w 31 #[.int .i64 p.bed.eye, .int .i64 p.bed.rings, .int .i64 p.bed.sectors, s, .int .i64 p.run.eye, .int .i64 p.run.rings, .int .i64 p.run.sectors, r, d])
  have C113 := Lib.hid (HP0.out.later B111.out)
  have SZ114 := Lib.hid (show W109.heap.size = w.heap.size + 1 by rw [← hW110]; simp)
  rw [hW110]
  clear hW110
  have q115 : W109.cell? ⟨w.heap.size, 0, none⟩ = some (.int .i64 p.bed.eye) := X112.out.cell 0
  have q116 : W109.cell? ⟨w.heap.size, 1, none⟩ = some (.int .i64 p.bed.rings) := X112.out.cell 1
  have q117 : W109.cell? ⟨w.heap.size, 2, none⟩ = some (.int .i64 p.bed.sectors) := X112.out.cell 2
  have q118 : W109.cell? ⟨w.heap.size, 3, none⟩ = some (s) := X112.out.cell 3
  have q119 : W109.cell? ⟨w.heap.size, 4, none⟩ = some (.int .i64 p.run.eye) := X112.out.cell 4
  have q120 : W109.cell? ⟨w.heap.size, 5, none⟩ = some (.int .i64 p.run.rings) := X112.out.cell 5
  have q121 : W109.cell? ⟨w.heap.size, 6, none⟩ = some (.int .i64 p.run.sectors) := X112.out.cell 6
  have q122 : W109.cell? ⟨w.heap.size, 7, none⟩ = some (r) := X112.out.cell 7
  have q123 : W109.cell? ⟨w.heap.size, 8, none⟩ = some (d) := X112.out.cell 8
  go_wp2_with fail
  refine (kCheck_c p _ _ C113.out).mono ?_; rintro e v124 ⟨rfl, hb125⟩
  have X126 := Lib.hid (X112.out.later hb125)
  have C127 := Lib.hid (C113.out.later hb125)
  have B128 := Lib.hid (B111.out.trans (hb125.mono B111.out.size))
  clear hb125
  rw [HE.out]
  clear q115 q116 q117 q118 q119 q120 q121 q122 q123
  have q129 : v124.cell? ⟨w.heap.size, 0, none⟩ = some (.int .i64 p.bed.eye) := X126.out.cell 0
  have q130 : v124.cell? ⟨w.heap.size, 1, none⟩ = some (.int .i64 p.bed.rings) := X126.out.cell 1
  have q131 : v124.cell? ⟨w.heap.size, 2, none⟩ = some (.int .i64 p.bed.sectors) := X126.out.cell 2
  have q132 : v124.cell? ⟨w.heap.size, 3, none⟩ = some (s) := X126.out.cell 3
  have q133 : v124.cell? ⟨w.heap.size, 4, none⟩ = some (.int .i64 p.run.eye) := X126.out.cell 4
  have q134 : v124.cell? ⟨w.heap.size, 5, none⟩ = some (.int .i64 p.run.rings) := X126.out.cell 5
  have q135 : v124.cell? ⟨w.heap.size, 6, none⟩ = some (.int .i64 p.run.sectors) := X126.out.cell 6
  have q136 : v124.cell? ⟨w.heap.size, 7, none⟩ = some (r) := X126.out.cell 7
  have q137 : v124.cell? ⟨w.heap.size, 8, none⟩ = some (d) := X126.out.cell 8
  go_wp2_with fail
  refine (kcount_c p _ _ C127.out (ckE_bd HE.out).1 (ckE_bd HE.out).2.1).mono ?_; rintro e v138 ⟨rfl, hb139⟩
  have X140 := Lib.hid (X126.out.later hb139)
  have C141 := Lib.hid (C127.out.later hb139)
  have B142 := Lib.hid (B128.out.trans (hb139.mono B128.out.size))
  clear hb139
  clear q129 q130 q131 q132 q133 q134 q135 q136 q137
  have q143 : v138.cell? ⟨w.heap.size, 0, none⟩ = some (.int .i64 p.bed.eye) := X140.out.cell 0
  have q144 : v138.cell? ⟨w.heap.size, 1, none⟩ = some (.int .i64 p.bed.rings) := X140.out.cell 1
  have q145 : v138.cell? ⟨w.heap.size, 2, none⟩ = some (.int .i64 p.bed.sectors) := X140.out.cell 2
  have q146 : v138.cell? ⟨w.heap.size, 3, none⟩ = some (s) := X140.out.cell 3
  have q147 : v138.cell? ⟨w.heap.size, 4, none⟩ = some (.int .i64 p.run.eye) := X140.out.cell 4
  have q148 : v138.cell? ⟨w.heap.size, 5, none⟩ = some (.int .i64 p.run.rings) := X140.out.cell 5
  have q149 : v138.cell? ⟨w.heap.size, 6, none⟩ = some (.int .i64 p.run.sectors) := X140.out.cell 6
  have q150 : v138.cell? ⟨w.heap.size, 7, none⟩ = some (r) := X140.out.cell 7
  have q151 : v138.cell? ⟨w.heap.size, 8, none⟩ = some (d) := X140.out.cell 8
  go_wp2_with fail
  go_ret2
  exact ⟨rfl, B142.out⟩

end Go.Proofs.YtikfiallhmhicaaGreat

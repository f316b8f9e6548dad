/- Layer 7: where the runner stands at most and at least. -/
import Derived.Test.YtmmfmanjajefcaaLV
set_option linter.all false
namespace Go.Proofs.Ytmmfmanjajefcaa
open Go.RowKit

/-- the sectors of the runner without any lag, and with all of it -/
def fmN (P S D : Nat) : Nat := P * S / D
def hmI (P S D n d : Nat) : Int := ((P * S / D : Nat) : Int) - ((n * S / d : Nat) : Int) - (if P * S % D * d < n * S % d * D then 1 else 0)

set_option maxRecDepth 100000 in
set_option maxHeartbeats 4000000 in
theorem foremost_c (P N D n d S : Nat) (w : World) (hP : P ≤ 1000000000000000) (hS : S ≤ 96) (hD : 0 < D) : Calls Try.prog 80 #[.agg #[.int .i64 (N : Int), .int .i64 (D : Int), .int .i64 (n : Int), .int .i64 (d : Int), .int .i64 (S : Int)], .int .i64 (P : Int)] w fun e w' => e = .returned (.int .i64 ((fmN P S D : Nat) : Int)) ∧ Below w.heap.size w w' := by
  obtain ⟨x, hx⟩ : ∃ x, P * S = x := ⟨_, rfl⟩
  have bx : x ≤ 1000000000000000 * 96 := by rw [← hx]; exact Nat.mul_le_mul hP hS
  obtain ⟨q, hq⟩ : ∃ q, x / D = q := ⟨_, rfl⟩
  have bq : q ≤ x := by rw [← hq]; exact Nat.div_le_self _ _
  have m1 : IntKind.i64.wrap ((P : Int) * (S : Int)) = (x : Int) := by rw [show (P : Int) * (S : Int) = ((P * S : Nat) : Int) by simp, hx]; exact wrap_id (by omega) (by omega)
  have q1 : (x : Int) / (D : Int) = (q : Int) := by rw [← hq]; simp
  have w1 : IntKind.i64.wrap (q : Int) = (q : Int) := wrap_id (by omega) (by omega)
  have z1 : decide ((D : Int) = 0) = false := by simp; omega
  have z2 : decide (D = 0) = false := by simp; omega
  have d0 : (0 : Int) < (D : Int) := by omega
  have HR := Lib.hid (show fmN P S D = q by unfold fmN; rw [hx, hq])
  clear hP hS hD hx hq bx bq
  go_enter Try.func80, Try.ntmps80
  go_wp2_with fail
  obtain ⟨W1, hW2⟩ : ∃ Wzz, (w.alloc (.cells #[.int .i64 (N : Int), .int .i64 (D : Int), .int .i64 (n : Int), .int .i64 (d : Int), .int .i64 (S : Int)] 94)) = Wzz := ⟨_, rfl⟩
  have B3 := Lib.hid (show Below w.heap.size w W1 by rw [← hW2]; exact ((Below.refl w.heap.size w).alloc (Nat.le_refl _) _))
  have X4 := Lib.hid (show Box W1 (w.heap.size) 94 #[.int .i64 (N : Int), .int .i64 (D : Int), .int .i64 (n : Int), .int .i64 (d : Int), .int .i64 (S : Int)] by rw [← hW2]; exact Box.made w 94 #[.int .i64 (N : Int), .int .i64 (D : Int), .int .i64 (n : Int), .int .i64 (d : Int), .int .i64 (S : Int)])
  have SZ5 := Lib.hid (show W1.heap.size = w.heap.size + 1 by rw [← hW2]; simp)
  rw [hW2]
  clear hW2
  have q6 : W1.cell? ⟨w.heap.size, 0, none⟩ = some (.int .i64 (N : Int)) := X4.out.cell 0
  have q7 : W1.cell? ⟨w.heap.size, 1, none⟩ = some (.int .i64 (D : Int)) := X4.out.cell 1
  have q8 : W1.cell? ⟨w.heap.size, 2, none⟩ = some (.int .i64 (n : Int)) := X4.out.cell 2
  have q9 : W1.cell? ⟨w.heap.size, 3, none⟩ = some (.int .i64 (d : Int)) := X4.out.cell 3
  have q10 : W1.cell? ⟨w.heap.size, 4, none⟩ = some (.int .i64 (S : Int)) := X4.out.cell 4
  go_wp2_with fail
  go_ret
  exact ⟨ret_int (by first | (rw [HR.out]; done) | (rw [HR.out]; exact q1)), B3.out⟩

set_option maxRecDepth 100000 in
set_option maxHeartbeats 4000000 in
theorem hindmost_c (P N D n d S : Nat) (w : World) (hP : P ≤ 1000000000000000) (hS : S ≤ 96) (hn : n ≤ 1000000000) (hD : 0 < D) (hD2 : D ≤ 1000000000) (hd : 0 < d) (hd2 : d ≤ 1000000000) : Calls Try.prog 79 #[.agg #[.int .i64 (N : Int), .int .i64 (D : Int), .int .i64 (n : Int), .int .i64 (d : Int), .int .i64 (S : Int)], .int .i64 (P : Int)] w fun e w' => e = .returned (.int .i64 (hmI P S D n d)) ∧ Below w.heap.size w w' := by
  obtain ⟨x, hx⟩ : ∃ x, P * S = x := ⟨_, rfl⟩
  have bx : x ≤ 1000000000000000 * 96 := by rw [← hx]; exact Nat.mul_le_mul hP hS
  obtain ⟨y, hy⟩ : ∃ y, n * S = y := ⟨_, rfl⟩
  have by1 : y ≤ 1000000000 * 96 := by rw [← hy]; exact Nat.mul_le_mul hn hS
  obtain ⟨q, hq⟩ : ∃ q, x / D = q := ⟨_, rfl⟩
  have bq : q ≤ x := by rw [← hq]; exact Nat.div_le_self _ _
  obtain ⟨p, hp⟩ : ∃ p, y / d = p := ⟨_, rfl⟩
  have bp : p ≤ y := by rw [← hp]; exact Nat.div_le_self _ _
  obtain ⟨r, hr⟩ : ∃ r, x % D = r := ⟨_, rfl⟩
  have br : r < D := by rw [← hr]; exact Nat.mod_lt _ hD
  obtain ⟨s, hs⟩ : ∃ s, y % d = s := ⟨_, rfl⟩
  have bs : s < d := by rw [← hs]; exact Nat.mod_lt _ hd
  obtain ⟨u, hu⟩ : ∃ u, r * d = u := ⟨_, rfl⟩
  have bu : u ≤ 1000000000 * 1000000000 := by rw [← hu]; exact Nat.mul_le_mul (by omega) hd2
  obtain ⟨v, hv⟩ : ∃ v, s * D = v := ⟨_, rfl⟩
  have bv : v ≤ 1000000000 * 1000000000 := by rw [← hv]; exact Nat.mul_le_mul (by omega) hD2
  have m1 : IntKind.i64.wrap ((P : Int) * (S : Int)) = (x : Int) := by rw [show (P : Int) * (S : Int) = ((P * S : Nat) : Int) by simp, hx]; exact wrap_id (by omega) (by omega)
  have m2 : IntKind.i64.wrap ((n : Int) * (S : Int)) = (y : Int) := by rw [show (n : Int) * (S : Int) = ((n * S : Nat) : Int) by simp, hy]; exact wrap_id (by omega) (by omega)
  have m3 : IntKind.i64.wrap ((r : Int) * (d : Int)) = (u : Int) := by rw [show (r : Int) * (d : Int) = ((r * d : Nat) : Int) by simp, hu]; exact wrap_id (by omega) (by omega)
  have m4 : IntKind.i64.wrap ((s : Int) * (D : Int)) = (v : Int) := by rw [show (s : Int) * (D : Int) = ((s * D : Nat) : Int) by simp, hv]; exact wrap_id (by omega) (by omega)
  have q1 : (x : Int) / (D : Int) = (q : Int) := by rw [← hq]; simp
  have q2 : (y : Int) / (d : Int) = (p : Int) := by rw [← hp]; simp
  have q3 : (x : Int) % (D : Int) = (r : Int) := by rw [← hr]; simp
  have q4 : (y : Int) % (d : Int) = (s : Int) := by rw [← hs]; simp
  have w1 : IntKind.i64.wrap (q : Int) = (q : Int) := wrap_id (by omega) (by omega)
  have w2 : IntKind.i64.wrap (p : Int) = (p : Int) := wrap_id (by omega) (by omega)
  have w3 : IntKind.i64.wrap (r : Int) = (r : Int) := wrap_id (by omega) (by omega)
  have w4 : IntKind.i64.wrap (s : Int) = (s : Int) := wrap_id (by omega) (by omega)
  have w5 : IntKind.i64.wrap ((q : Int) - (p : Int)) = (q : Int) - (p : Int) := wrap_id (by omega) (by omega)
  have w6 : IntKind.i64.wrap ((q : Int) - (p : Int) - 1) = (q : Int) - (p : Int) - 1 := wrap_id (by omega) (by omega)
  have z1 : decide ((D : Int) = 0) = false := by simp; omega
  have z2 : decide (D = 0) = false := by simp; omega
  have z3 : decide ((d : Int) = 0) = false := by simp; omega
  have z4 : decide (d = 0) = false := by simp; omega
  have d0 : (0 : Int) < (D : Int) := by omega
  have d1 : (0 : Int) < (d : Int) := by omega
  have HR := Lib.hid (show hmI P S D n d = (q : Int) - (p : Int) - (if u < v then 1 else 0) by unfold hmI; rw [hx, hy, hq, hp, hr, hs, hu, hv])
  have HS := Lib.hid (show IntKind.i64.wrap (u : Int) = (u : Int) ∧ IntKind.i64.wrap (v : Int) = (v : Int) from ⟨wrap_id (by omega) (by omega), wrap_id (by omega) (by omega)⟩)
  clear hP hS hn hD hd hD2 hd2 hx hy hq hp hr hs hu hv bx by1 bq bp br bs bu bv
  go_enter Try.func79, Try.ntmps79
  go_wp2_with fail
  obtain ⟨W11, hW12⟩ : ∃ Wzz, (w.alloc (.cells #[.int .i64 (N : Int), .int .i64 (D : Int), .int .i64 (n : Int), .int .i64 (d : Int), .int .i64 (S : Int)] 94)) = Wzz := ⟨_, rfl⟩
  have B13 := Lib.hid (show Below w.heap.size w W11 by rw [← hW12]; exact ((Below.refl w.heap.size w).alloc (Nat.le_refl _) _))
  have X14 := Lib.hid (show Box W11 (w.heap.size) 94 #[.int .i64 (N : Int), .int .i64 (D : Int), .int .i64 (n : Int), .int .i64 (d : Int), .int .i64 (S : Int)] by rw [← hW12]; exact Box.made w 94 #[.int .i64 (N : Int), .int .i64 (D : Int), .int .i64 (n : Int), .int .i64 (d : Int), .int .i64 (S : Int)])
  have SZ15 := Lib.hid (show W11.heap.size = w.heap.size + 1 by rw [← hW12]; simp)
  rw [hW12]
  clear hW12
  have q16 : W11.cell? ⟨w.heap.size, 0, none⟩ = some (.int .i64 (N : Int)) := X14.out.cell 0
  have q17 : W11.cell? ⟨w.heap.size, 1, none⟩ = some (.int .i64 (D : Int)) := X14.out.cell 1
  have q18 : W11.cell? ⟨w.heap.size, 2, none⟩ = some (.int .i64 (n : Int)) := X14.out.cell 2
  have q19 : W11.cell? ⟨w.heap.size, 3, none⟩ = some (.int .i64 (d : Int)) := X14.out.cell 3
  have q20 : W11.cell? ⟨w.heap.size, 4, none⟩ = some (.int .i64 (S : Int)) := X14.out.cell 4
  go_wp2_with fail
  go_quiet (fail)
  obtain ⟨W21, hW22⟩ : ∃ Wzz, W11.drewN nq = Wzz := ⟨_, rfl⟩
  have X23 := Lib.hid (show Box W21 (w.heap.size) 94 #[.int .i64 (N : Int), .int .i64 (D : Int), .int .i64 (n : Int), .int .i64 (d : Int), .int .i64 (S : Int)] by rw [← hW22]; exact X14.out)
  have B24 := Lib.hid (show Below w.heap.size w W21 by rw [← hW22]; exact B13.out.trans (below_drewN _ _))
  rw [hW22]
  clear hW22
  clear q16 q17 q18 q19 q20
  have q25 : W21.cell? ⟨w.heap.size, 0, none⟩ = some (.int .i64 (N : Int)) := X23.out.cell 0
  have q26 : W21.cell? ⟨w.heap.size, 1, none⟩ = some (.int .i64 (D : Int)) := X23.out.cell 1
  have q27 : W21.cell? ⟨w.heap.size, 2, none⟩ = some (.int .i64 (n : Int)) := X23.out.cell 2
  have q28 : W21.cell? ⟨w.heap.size, 3, none⟩ = some (.int .i64 (d : Int)) := X23.out.cell 3
  have q29 : W21.cell? ⟨w.heap.size, 4, none⟩ = some (.int .i64 (S : Int)) := X23.out.cell 4
  go_wp2_with fail
  go_quiet (fail)
  obtain ⟨W30, hW31⟩ : ∃ Wzz, W21.drewN nq = Wzz := ⟨_, rfl⟩
  have X32 := Lib.hid (show Box W30 (w.heap.size) 94 #[.int .i64 (N : Int), .int .i64 (D : Int), .int .i64 (n : Int), .int .i64 (d : Int), .int .i64 (S : Int)] by rw [← hW31]; exact X23.out)
  have B33 := Lib.hid (show Below w.heap.size w W30 by rw [← hW31]; exact B24.out.trans (below_drewN _ _))
  rw [hW31]
  clear hW31
  clear q25 q26 q27 q28 q29
  have q34 : W30.cell? ⟨w.heap.size, 0, none⟩ = some (.int .i64 (N : Int)) := X32.out.cell 0
  have q35 : W30.cell? ⟨w.heap.size, 1, none⟩ = some (.int .i64 (D : Int)) := X32.out.cell 1
  have q36 : W30.cell? ⟨w.heap.size, 2, none⟩ = some (.int .i64 (n : Int)) := X32.out.cell 2
  have q37 : W30.cell? ⟨w.heap.size, 3, none⟩ = some (.int .i64 (d : Int)) := X32.out.cell 3
  have q38 : W30.cell? ⟨w.heap.size, 4, none⟩ = some (.int .i64 (S : Int)) := X32.out.cell 4
  have HB0 := Lib.hid B33.out
  by_cases huv : u < v
  · have e1 : decide ((u : Int) < (v : Int)) = true := by simpa using huv
    have e2 : decide (u < v) = true := by simpa using huv
    have HR2 := Lib.hid (show hmI P S D n d = (q : Int) - (p : Int) - 1 by rw [HR.out, if_pos huv])
    clear huv
    go_wp2_with fail
    go_quiet (fail)
    go_wp2_with fail
    go_ret
    exact ⟨ret_int (by rw [HR2.out]), HB0.out.trans (below_drewN _ _)⟩
  · have e1 : decide ((u : Int) < (v : Int)) = false := by simpa using huv
    have e2 : decide (u < v) = false := by simpa using huv
    have HR2 := Lib.hid (show hmI P S D n d = (q : Int) - (p : Int) by rw [HR.out, if_neg huv]; omega)
    clear huv
    go_wp2_with fail
    go_quiet (fail)
    go_wp2_with fail
    go_ret
    exact ⟨ret_int (by rw [HR2.out]), HB0.out.trans (below_drewN _ _)⟩

end Go.Proofs.Ytmmfmanjajefcaa

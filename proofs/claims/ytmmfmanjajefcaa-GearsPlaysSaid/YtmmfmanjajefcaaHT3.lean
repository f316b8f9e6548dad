/- Layer 7: where the runner may stand, as the specification has it. Layer 7: the runner, as the specification has it. Layer 7: where the runner may stand, as the specification has it: whole. -/
import Derived.Test.YtmmfmanjajefcaaHU0
set_option linter.all false
namespace Go.Proofs.Ytmmfmanjajefcaa
open Go.RowKit

theorem endSo {fn : Func} {t : Nat} {w wr : World} {g : Nat} {a b : Int} {v : Value} {tmps : Array Value} {z0 z1 : Value} (hfn : fn.results = #[.cell t 52]) (ht : tmps[t]? = some (.pointer (some ⟨g, 0, none⟩))) (hr : v = .agg #[.int .i64 a, .int .i64 b])
    (hb : Box wr g 52 #[z0, z1]) (hg : w.heap.size ≤ g) (hbel : Below w.heap.size w wr) :
    bodyPost Try.prog fn (fun e w' => e = .returned v ∧ Below w.heap.size w w') Exit.ret { tmps, defers := [] } ((wr.setCell ⟨g, 0, none⟩ (.int .i64 a)).setCell ⟨g, 1, none⟩ (.int .i64 b)) := by
  subst hr
  have hb2 := (hb.put 0 (.int .i64 a)).put 1 (.int .i64 b)
  obtain ⟨W, hW⟩ : ∃ W, (wr.setCell ⟨g, 0, none⟩ (.int .i64 a)).setCell ⟨g, 1, none⟩ (.int .i64 b) = W := ⟨_, rfl⟩
  have hbw := (hbel.setCell (p := ⟨g, 0, none⟩) hg (.int .i64 a)).setCell (p := ⟨g, 1, none⟩) hg (.int .i64 b)
  rw [hW] at hb2 hbw ⊢
  have q0 : W.cell? ⟨g, 0, none⟩ = some (.int .i64 a) := hb2.cell 0
  have q1 : W.cell? ⟨g, 1, none⟩ = some (.int .i64 b) := hb2.cell 1
  exact bodyPost_ret (v := .agg #[.int .i64 a, .int .i64 b]) (by simp [results, hfn, go_sem, ht, q0, q1]) rfl ⟨rfl, hbw⟩

set_option maxRecDepth 100000 in
set_option maxHeartbeats 8000000 in
theorem span_c (N D n d S T : Nat) (w : World) (hN : N ≤ 1000000000) (hT : T ≤ 1000000) (hS : S ≤ 96) (hn : n ≤ 1000000000) (hD : 0 < D) (hD2 : D ≤ 1000000000) (hd : 0 < d) (hd2 : d ≤ 1000000000) : Calls Try.prog 82 #[.agg #[.int .i64 (N : Int), .int .i64 (D : Int)], .agg #[.int .i64 (n : Int), .int .i64 (d : Int)], .int .i64 (S : Int), .int .i64 (T : Int)] w fun e w' => e = .returned (.agg #[.int .i64 (hmI (T * N) S D n d), .int .i64 ((fmN (T * N) S D : Nat) : Int)]) ∧ Below w.heap.size w w' := by
  obtain ⟨P, hP⟩ : ∃ P, T * N = P := ⟨_, rfl⟩
  have bP : P ≤ 1000000000000000 := by rw [← hP]; exact Nat.mul_le_mul hT hN
  obtain ⟨x, hx⟩ : ∃ x, P * S = x := ⟨_, rfl⟩
  have bx : x ≤ 1000000000000000 * 96 := by rw [← hx]; exact Nat.mul_le_mul bP hS
  obtain ⟨y, hy⟩ : ∃ y, n * S = y := ⟨_, rfl⟩
  have by1 : y ≤ 96000000000 := by rw [← hy]; exact Nat.le_trans (Nat.mul_le_mul hn hS) (by decide)
  obtain ⟨q, hq⟩ : ∃ q, x / D = q := ⟨_, rfl⟩
  have bq : q ≤ x := by rw [← hq]; exact Nat.div_le_self _ _
  obtain ⟨p, hp⟩ : ∃ p, y / d = p := ⟨_, rfl⟩
  have bp : p ≤ y := by rw [← hp]; exact Nat.div_le_self _ _
  obtain ⟨r, hr⟩ : ∃ r, x % D = r := ⟨_, rfl⟩
  have br : r < D := by rw [← hr]; exact Nat.mod_lt _ hD
  obtain ⟨s, hs⟩ : ∃ s, y % d = s := ⟨_, rfl⟩
  have bs : s < d := by rw [← hs]; exact Nat.mod_lt _ hd
  obtain ⟨u, hu⟩ : ∃ u, r * d = u := ⟨_, rfl⟩
  have bu : u ≤ 1000000000000000000 := by rw [← hu]; exact Nat.le_trans (Nat.mul_le_mul (Nat.le_of_lt (Nat.lt_of_lt_of_le br hD2)) hd2) (by decide)
  obtain ⟨v, hv⟩ : ∃ v, s * D = v := ⟨_, rfl⟩
  have bv : v ≤ 1000000000000000000 := by rw [← hv]; exact Nat.le_trans (Nat.mul_le_mul (Nat.le_of_lt (Nat.lt_of_lt_of_le bs hd2)) hD2) (by decide)
  obtain ⟨e, he⟩ : ∃ e : Int, (q : Int) - (p : Int) = e := ⟨_, rfl⟩
  have m0 : IntKind.i64.wrap ((T : Int) * (N : Int)) = (P : Int) := by rw [show (T : Int) * (N : Int) = ((T * N : Nat) : Int) by simp, hP]; exact wrap_id (by omega) (by omega)
  have m1 : IntKind.i64.wrap ((P : Int) * (S : Int)) = (x : Int) := by rw [show (P : Int) * (S : Int) = ((P * S : Nat) : Int) by simp, hx]; exact wrap_id (by omega) (by omega)
  have m2 : IntKind.i64.wrap ((n : Int) * (S : Int)) = (y : Int) := by rw [show (n : Int) * (S : Int) = ((n * S : Nat) : Int) by simp, hy]; exact wrap_id (by omega) (by omega)
  have m3 : IntKind.i64.wrap ((r : Int) * (d : Int)) = (u : Int) := by rw [show (r : Int) * (d : Int) = ((r * d : Nat) : Int) by simp, hu]; exact wrap_id (by omega) (by omega)
  have m4 : IntKind.i64.wrap ((s : Int) * (D : Int)) = (v : Int) := by rw [show (s : Int) * (D : Int) = ((s * D : Nat) : Int) by simp, hv]; exact wrap_id (by omega) (by omega)
  have q1 : (x : Int) / (D : Int) = (q : Int) := by rw [← hq]; simp
  have q2 : (y : Int) / (d : Int) = (p : Int) := by rw [← hp]; simp
  have q3 : (x : Int) % (D : Int) = (r : Int) := by rw [← hr]; simp
  have q4 : (y : Int) % (d : Int) = (s : Int) := by rw [← hs]; simp
  have w1 : IntKind.i64.wrap (q : Int) = (q : Int) := wrap_id (by omega) (by omega)
  have w2 : IntKind.i64.wrap (p : Int) = (p : Int) := wrap_id (by omega) (by omega)
  have w3 : IntKind.i64.wrap (r : Int) = (r : Int) := wrap_id (by omega) (by omega)
  have w4 : IntKind.i64.wrap (s : Int) = (s : Int) := wrap_id (by omega) (by omega)
  have w5 : IntKind.i64.wrap ((q : Int) - (p : Int)) = e := by rw [he]; exact wrap_id (by omega) (by omega)
  have w6 : IntKind.i64.wrap (e - 1) = e - 1 := wrap_id (by omega) (by omega)
  have z1 : decide ((D : Int) = 0) = false := by simp; omega
  have z2 : decide (D = 0) = false := by simp; omega
  have z3 : decide ((d : Int) = 0) = false := by simp; omega
  have z4 : decide (d = 0) = false := by simp; omega
  have d0 : (0 : Int) < (D : Int) := by omega
  have d1 : (0 : Int) < (d : Int) := by omega
  have HFM := Lib.hid (show fmN (T * N) S D = q by unfold fmN; rw [hP, hx, hq])
  have HHM := Lib.hid (show hmI (T * N) S D n d = e - (if u < v then 1 else 0) by unfold hmI; rw [hP, hx, hy, hq, hp, hr, hs, hu, hv, he])
  have HA1 := Lib.hid (And.intro m0 (And.intro m1 m2))
  have HA2 := Lib.hid (And.intro q1 (And.intro q2 (And.intro w1 (And.intro w2 (And.intro w5 (And.intro z1 (And.intro z2 (And.intro z3 (And.intro z4 (And.intro d0 d1))))))))))
  have HA3 := Lib.hid (And.intro m3 (And.intro m4 (And.intro q3 (And.intro q4 (And.intro w3 w4)))))
  have HW6 := Lib.hid w6
  clear hN hT hS hn hD hd hD2 hd2 hP hx hy hq hp hr hs hu hv he bP bx by1 bq bp br bs bu bv m3 m4 q1 q2 q3 q4 w1 w2 w3 w4 w5 w6 z1 z2 z3 z4 d0 d1
  go_enter Try.func82, Try.ntmps82
  go_wp2_with fail
  obtain ⟨W1, hW2⟩ : ∃ Wzz, (((w.alloc (.cells #[.int .i64 (N : Int), .int .i64 (D : Int)] 23)).alloc (.cells #[.int .i64 (n : Int), .int .i64 (d : Int)] 23)).alloc (.cells #[.int .i64 0, .int .i64 0] 52)) = Wzz := ⟨_, rfl⟩
  have B3 := Lib.hid (show Below w.heap.size w W1 by rw [← hW2]; exact ((((Below.refl w.heap.size w).alloc (Nat.le_refl _) _).alloc (by first | (simp; done) | (simp; omega)) _).alloc (by first | (simp; done) | (simp; omega)) _))
  have X4 := Lib.hid (show Box W1 (w.heap.size) 23 #[.int .i64 (N : Int), .int .i64 (D : Int)] by rw [← hW2]; exact Box.alloc (Box.alloc (Box.made w 23 #[.int .i64 (N : Int), .int .i64 (D : Int)]) (.cells #[.int .i64 (n : Int), .int .i64 (d : Int)] 23)) (.cells #[.int .i64 0, .int .i64 0] 52))
  have X5 := Lib.hid (show Box W1 (w.heap.size + 1) 23 #[.int .i64 (n : Int), .int .i64 (d : Int)] by
    have hz := Box.alloc (Box.made (w.alloc (.cells #[.int .i64 (N : Int), .int .i64 (D : Int)] 23)) 23 #[.int .i64 (n : Int), .int .i64 (d : Int)]) (.cells #[.int .i64 0, .int .i64 0] 52)
    rw [World.size_alloc] at hz
    rw [← hW2]; exact hz)
  have X6 := Lib.hid (show Box W1 (w.heap.size + 1 + 1) 52 #[.int .i64 0, .int .i64 0] by
    have hz := Box.made ((w.alloc (.cells #[.int .i64 (N : Int), .int .i64 (D : Int)] 23)).alloc (.cells #[.int .i64 (n : Int), .int .i64 (d : Int)] 23)) 52 #[.int .i64 0, .int .i64 0]
    rw [World.size_alloc, World.size_alloc] at hz
    rw [← hW2]; exact hz)
  have SZ7 := Lib.hid (show W1.heap.size = w.heap.size + 1 + 1 + 1 by rw [← hW2]; simp)
  rw [hW2]
  clear hW2
  have q8 : W1.cell? ⟨w.heap.size, 0, none⟩ = some (.int .i64 (N : Int)) := X4.out.cell 0
  have q9 : W1.cell? ⟨w.heap.size, 1, none⟩ = some (.int .i64 (D : Int)) := X4.out.cell 1
  have q10 : W1.cell? ⟨w.heap.size + 1, 0, none⟩ = some (.int .i64 (n : Int)) := X5.out.cell 0
  have q11 : W1.cell? ⟨w.heap.size + 1, 1, none⟩ = some (.int .i64 (d : Int)) := X5.out.cell 1
  have q12 : W1.cell? ⟨w.heap.size + 1 + 1, 0, none⟩ = some (.int .i64 0) := X6.out.cell 0
  have q13 : W1.cell? ⟨w.heap.size + 1 + 1, 1, none⟩ = some (.int .i64 0) := X6.out.cell 1
  go_wp2_with fail
  clear m0 m1 m2
  obtain ⟨q1, q2, w1, w2, w5, z1, z2, z3, z4, d0, d1⟩ := HA2.out
  have k0 : ∀ o : Obj, (W1.alloc o).cell? ⟨w.heap.size, 0, none⟩ = some (.int .i64 (N : Int)) := fun o => (X4.out.alloc o).cell 0
  have k1 : ∀ o : Obj, (W1.alloc o).cell? ⟨w.heap.size, 1, none⟩ = some (.int .i64 (D : Int)) := fun o => (X4.out.alloc o).cell 1
  have k2 : ∀ o : Obj, (W1.alloc o).cell? ⟨w.heap.size + 1, 0, none⟩ = some (.int .i64 (n : Int)) := fun o => (X5.out.alloc o).cell 0
  have k3 : ∀ o : Obj, (W1.alloc o).cell? ⟨w.heap.size + 1, 1, none⟩ = some (.int .i64 (d : Int)) := fun o => (X5.out.alloc o).cell 1
  go_region
  clear k0 k1 k2 k3 q1 q2 w1 w2 w5 z1 z2 z3 z4
  obtain ⟨W2, hW2⟩ : ∃ Wzz, (W1.alloc (.cells #[.int .i64 e, .int .i64 (q : Int)] 52)).drew = Wzz := ⟨_, rfl⟩
  have hb : Below W1.heap.size W1 W2 := by rw [← hW2]; exact ((Below.refl _ _).alloc (Nat.le_refl _) _).drew
  have XO := Lib.hid (show Box W2 W1.heap.size 52 #[.int .i64 e, .int .i64 (q : Int)] by rw [← hW2]; exact Box.made W1 _ _)
  have HLV := Lib.hid (show w.heap.size + 1 + 1 < W1.heap.size from X6.out.lt)
  have X14 := Lib.hid (X4.out.later hb)
  have X15 := Lib.hid (X5.out.later hb)
  have X16 := Lib.hid (X6.out.later hb)
  have B17 := Lib.hid (B3.out.trans (hb.mono B3.out.size))
  rw [hW2]
  clear hW2 hb
  clear q8 q9 q10 q11 q12 q13
  have q18 : W2.cell? ⟨w.heap.size, 0, none⟩ = some (.int .i64 (N : Int)) := X14.out.cell 0
  have q19 : W2.cell? ⟨w.heap.size, 1, none⟩ = some (.int .i64 (D : Int)) := X14.out.cell 1
  have q20 : W2.cell? ⟨w.heap.size + 1, 0, none⟩ = some (.int .i64 (n : Int)) := X15.out.cell 0
  have q21 : W2.cell? ⟨w.heap.size + 1, 1, none⟩ = some (.int .i64 (d : Int)) := X15.out.cell 1
  have q22 : W2.cell? ⟨w.heap.size + 1 + 1, 0, none⟩ = some (.int .i64 0) := X16.out.cell 0
  have q23 : W2.cell? ⟨w.heap.size + 1 + 1, 1, none⟩ = some (.int .i64 0) := X16.out.cell 1
  have fz24 : ∀ o, W2.frozen? ⟨w.heap.size + 1 + 1, o, none⟩ = false := fun o => X16.out.free o
  have q25 : W2.cell? ⟨W1.heap.size, 0, none⟩ = some (.int .i64 e) := XO.out.cell 0
  have q26 : W2.cell? ⟨W1.heap.size, 1, none⟩ = some (.int .i64 (q : Int)) := XO.out.cell 1
  have fz27 : ∀ o, W2.frozen? ⟨W1.heap.size, o, none⟩ = false := fun o => XO.out.free o
  obtain ⟨m3, m4, q3, q4, w3, w4⟩ := HA3.out
  go_wp2_with fail
  go_quiet (fail)
  obtain ⟨W28, hW29⟩ : ∃ Wzz, (W2).drewN nq = Wzz := ⟨_, rfl⟩
  have hb30 : Below (W2).heap.size (W2) W28 := by rw [← hW29]; exact below_drewN _ _
  have X31 := Lib.hid (X14.out.later hb30)
  have X32 := Lib.hid (X15.out.later hb30)
  have X33 := Lib.hid (X16.out.later hb30)
  have X34 := Lib.hid (XO.out.later hb30)
  have B35 := Lib.hid (B17.out.trans (hb30.mono B17.out.size))
  have HBQ := Lib.hid hb30
  rw [hW29]
  clear hb30 hW29
  clear q18 q19 q20 q21 q22 q23 fz24 q25 q26 fz27
  have q36 : W28.cell? ⟨w.heap.size, 0, none⟩ = some (.int .i64 (N : Int)) := X31.out.cell 0
  have q37 : W28.cell? ⟨w.heap.size, 1, none⟩ = some (.int .i64 (D : Int)) := X31.out.cell 1
  have q38 : W28.cell? ⟨w.heap.size + 1, 0, none⟩ = some (.int .i64 (n : Int)) := X32.out.cell 0
  have q39 : W28.cell? ⟨w.heap.size + 1, 1, none⟩ = some (.int .i64 (d : Int)) := X32.out.cell 1
  have q40 : W28.cell? ⟨w.heap.size + 1 + 1, 0, none⟩ = some (.int .i64 0) := X33.out.cell 0
  have q41 : W28.cell? ⟨w.heap.size + 1 + 1, 1, none⟩ = some (.int .i64 0) := X33.out.cell 1
  have fz42 : ∀ o, W28.frozen? ⟨w.heap.size + 1 + 1, o, none⟩ = false := fun o => X33.out.free o
  have q43 : W28.cell? ⟨W1.heap.size, 0, none⟩ = some (.int .i64 e) := X34.out.cell 0
  have q44 : W28.cell? ⟨W1.heap.size, 1, none⟩ = some (.int .i64 (q : Int)) := X34.out.cell 1
  have fz45 : ∀ o, W28.frozen? ⟨W1.heap.size, o, none⟩ = false := fun o => X34.out.free o
  clear m3 m4 q3 q4 w3 w4 d0 d1
  by_cases huv : u < v
  · have c1 : decide ((u : Int) < (v : Int)) = true := decide_eq_true (by omega)
    have c2 : decide (u < v) = true := decide_eq_true huv
    have HR := Lib.hid (show (Value.agg #[.int .i64 (hmI (T * N) S D n d), .int .i64 ((fmN (T * N) S D : Nat) : Int)]) = .agg #[.int .i64 (e - 1), .int .i64 (q : Int)] by rw [HHM.out, HFM.out, if_pos huv])
    have w6 := HW6.out
    have XO1 := Lib.hid (X34.out.put 0 (.int .i64 (e - 1)))
    have XR1 := Lib.hid (X33.out.far (p := ⟨W1.heap.size, 0, none⟩) (show w.heap.size + 1 + 1 ≠ W1.heap.size from (by have := HLV.out; omega)) (.int .i64 (e - 1)))
    have B1 := Lib.hid (B35.out.setCell (p := ⟨W1.heap.size, 0, none⟩) (show w.heap.size ≤ W1.heap.size by have := HLV.out; omega) (.int .i64 (e - 1)))
    have y0 : (W28.setCell ⟨W1.heap.size, 0, none⟩ (.int .i64 (e - 1))).cell? ⟨W1.heap.size, 0, none⟩ = some (.int .i64 (e - 1)) := XO1.out.cell 0
    have y1 : (W28.setCell ⟨W1.heap.size, 0, none⟩ (.int .i64 (e - 1))).cell? ⟨W1.heap.size, 1, none⟩ = some (.int .i64 (q : Int)) := XO1.out.cell 1
    have y2 : (W28.setCell ⟨W1.heap.size, 0, none⟩ (.int .i64 (e - 1))).cell? ⟨w.heap.size + 1 + 1, 0, none⟩ = some (.int .i64 0) := XR1.out.cell 0
    have y3 : (W28.setCell ⟨W1.heap.size, 0, none⟩ (.int .i64 (e - 1))).cell? ⟨w.heap.size + 1 + 1, 1, none⟩ = some (.int .i64 0) := XR1.out.cell 1
    have y4 : ∀ o, (W28.setCell ⟨W1.heap.size, 0, none⟩ (.int .i64 (e - 1))).frozen? ⟨w.heap.size + 1 + 1, o, none⟩ = false := fun o => XR1.out.free o
    go_wp2_with fail
    exact endSo Try.results82 (by rfl) HR.out XR1.out (by omega) B1.out
  · have c1 : decide ((u : Int) < (v : Int)) = false := decide_eq_false (by omega)
    have c2 : decide (u < v) = false := decide_eq_false huv
    have HR := Lib.hid (show (Value.agg #[.int .i64 (hmI (T * N) S D n d), .int .i64 ((fmN (T * N) S D : Nat) : Int)]) = .agg #[.int .i64 e, .int .i64 (q : Int)] by rw [HHM.out, HFM.out, if_neg huv, Int.sub_zero])
    go_wp2_with fail
    exact endSo Try.results82 (by rfl) HR.out X33.out (by omega) B35.out

end Go.Proofs.Ytmmfmanjajefcaa

set_option linter.all false
namespace Go.Proofs.Ytmmfmanjajefcaa
open Go.RowKit

theorem endRR {fn : Func} {t s u : Nat} {w wr : World} {g h : Nat} {a b c d er : Int} {v : Value} {tmps : Array Value} {z0 z1 z2 z3 : Value} (hfn : fn.results = #[.cell t 23, .cell s 23, .tmp u]) (ht : tmps[t]? = some (.pointer (some ⟨g, 0, none⟩))) (hs : tmps[s]? = some (.pointer (some ⟨h, 0, none⟩))) (hu : tmps[u]? = some (.int .i64 er)) (hr : v = .tuple #[.agg #[.int .i64 a, .int .i64 b], .agg #[.int .i64 c, .int .i64 d], .int .i64 er])
    (hb : Box wr g 23 #[z0, z1]) (hc : Box wr h 23 #[z2, z3]) (hg : w.heap.size ≤ g) (hh : w.heap.size ≤ h) (hgh : g ≠ h) (hbel : Below w.heap.size w wr) {Q : Ending → World → Prop} (hQ : ∀ W, Below w.heap.size w W → Q (.returned v) W) :
    bodyPost Try.prog fn Q Exit.ret { tmps, defers := [] } ((((wr.setCell ⟨g, 0, none⟩ (.int .i64 a)).setCell ⟨g, 1, none⟩ (.int .i64 b)).setCell ⟨h, 0, none⟩ (.int .i64 c)).setCell ⟨h, 1, none⟩ (.int .i64 d)) := by
  subst hr
  obtain ⟨W, hW⟩ : ∃ W, (((wr.setCell ⟨g, 0, none⟩ (.int .i64 a)).setCell ⟨g, 1, none⟩ (.int .i64 b)).setCell ⟨h, 0, none⟩ (.int .i64 c)).setCell ⟨h, 1, none⟩ (.int .i64 d) = W := ⟨_, rfl⟩
  have h1 := (((hb.put 0 (.int .i64 a)).put 1 (.int .i64 b)).far (p := ⟨h, 0, none⟩) hgh (.int .i64 c)).far (p := ⟨h, 1, none⟩) hgh (.int .i64 d)
  have h2 := (((hc.far (p := ⟨g, 0, none⟩) (Ne.symm hgh) (.int .i64 a)).far (p := ⟨g, 1, none⟩) (Ne.symm hgh) (.int .i64 b)).put 0 (.int .i64 c)).put 1 (.int .i64 d)
  have hbw := (((hbel.setCell (p := ⟨g, 0, none⟩) hg (.int .i64 a)).setCell (p := ⟨g, 1, none⟩) hg (.int .i64 b)).setCell (p := ⟨h, 0, none⟩) hh (.int .i64 c)).setCell (p := ⟨h, 1, none⟩) hh (.int .i64 d)
  rw [hW] at h1 h2 hbw ⊢
  have q0 : W.cell? ⟨g, 0, none⟩ = some (.int .i64 a) := h1.cell 0
  have q1 : W.cell? ⟨g, 1, none⟩ = some (.int .i64 b) := h1.cell 1
  have q2 : W.cell? ⟨h, 0, none⟩ = some (.int .i64 c) := h2.cell 0
  have q3 : W.cell? ⟨h, 1, none⟩ = some (.int .i64 d) := h2.cell 1
  exact bodyPost_ret (v := .tuple #[.agg #[.int .i64 a, .int .i64 b], .agg #[.int .i64 c, .int .i64 d], .int .i64 er]) (by simp [results, hfn, go_sem, ht, hs, hu, q0, q1, q2, q3]) rfl (hQ W hbw)
theorem rn_cases {ms : List Mh} (hv : trB ms = true) (s : Int) : (inB s 2 96 = false ∧ rnE ms s 0 = 1) ∨ (inB s 2 96 = true ∧ trnR ms ms.length = ⟨0, 0, 2⟩ ∧ rnE ms s 0 = 2) ∨
    (inB s 2 96 = true ∧ ∃ N D : Nat, trnR ms ms.length = ⟨(N : Int), (D : Int), 0⟩ ∧ playR ms = ⟨0, 0, 2⟩ ∧ rnE ms s 0 = 2) ∨ (inB s 2 96 = true ∧ rnE ms s 0 = 0 ∧ ∃ N D n d S : Nat, RunOk ms s 0 N D n d S 0) := by
  have h0 : inB 0 0 1000000 = true := by decide
  cases hs : inB s 2 96
  · left; refine ⟨rfl, ?_⟩; unfold rnE; rw [hv, hs]; rfl
  right
  rcases trn_two hv ms.length with ⟨h1, h2⟩ | ⟨h1, h2, -⟩
  · left; refine ⟨rfl, h2, ?_⟩; unfold rnE; rw [hv, hs, h0]; simp [h1]
  right
  rcases play_two hv with ⟨k1, k2⟩ | ⟨k1, k2, -⟩
  · left; refine ⟨rfl, _, _, h2, k2, ?_⟩; unfold rnE; rw [hv, hs, h0]; simp [h1, k2]
  right
  have he : rnE ms s 0 = 0 := by unfold rnE; rw [hv, hs, h0]; simp [h1, k1]
  refine ⟨rfl, he, ?_⟩
  obtain ⟨N, D, n, d, S, T, hr⟩ := rn_zero he
  have hT : T = 0 := by have := hr.tee; omega
  subst hT
  exact ⟨N, D, n, d, S, hr⟩
/-- what the specification's runner answers -/
def RnPost (w : World) (ms : List Mh) (s : Int) (e : Ending) (w' : World) : Prop :=
  ((rnE ms s 0 ≠ 0 ∧ e = .returned (.tuple #[.agg #[.int .i64 0, .int .i64 0], .agg #[.int .i64 0, .int .i64 0], .int .i64 (rnE ms s 0)])) ∨
   (rnE ms s 0 = 0 ∧ ∃ N D n d S : Nat, RunOk ms s 0 N D n d S 0 ∧ e = .returned (.tuple #[.agg #[.int .i64 (N : Int), .int .i64 (D : Int)], .agg #[.int .i64 (n : Int), .int .i64 (d : Int)], .int .i64 0]))) ∧ Below w.heap.size w w'

set_option maxRecDepth 100000 in
set_option maxHeartbeats 8000000 in
theorem rrunner_c (ms : List Mh) (s : Int) (v : Value) (w : World) (h : IsTr w w.heap.size v ms) (hv : trB ms = true) (hl : ms.length ≤ 100) : Calls Try.prog 81 #[v, .int .i64 s] w (RnPost w ms s) := by
  have HT := Lib.hid h
  have HV := Lib.hid hv
  have HL := Lib.hid hl
  clear hv hl
  obtain ⟨sv, rfl, A, c, rfl, -, -⟩ := h
  obtain ⟨l, hn⟩ : ∃ n, ms.length = n := ⟨_, rfl⟩
  have HN := Lib.hid hn
  rw [hn] at HT ⊢
  clear hn
  go_enter Try.func81, Try.ntmps81
  go_wp2_with fail
  obtain ⟨W1, hW2⟩ : ∃ Wzz, (((w.alloc (.cells #[.slice A l c] 35)).alloc (.cells #[.int .i64 0, .int .i64 0] 23)).alloc (.cells #[.int .i64 0, .int .i64 0] 23)) = Wzz := ⟨_, rfl⟩
  have B3 := Lib.hid (show Below w.heap.size w W1 by rw [← hW2]; exact ((((Below.refl w.heap.size w).alloc (Nat.le_refl _) _).alloc (by first | (simp; done) | (simp; omega)) _).alloc (by first | (simp; done) | (simp; omega)) _))
  have X4 := Lib.hid (show Box W1 (w.heap.size) 35 #[.slice A l c] by rw [← hW2]; exact Box.alloc (Box.alloc (Box.made w 35 #[.slice A l c]) (.cells #[.int .i64 0, .int .i64 0] 23)) (.cells #[.int .i64 0, .int .i64 0] 23))
  have X5 := Lib.hid (show Box W1 (w.heap.size + 1) 23 #[.int .i64 0, .int .i64 0] by
    have hz := Box.alloc (Box.made (w.alloc (.cells #[.slice A l c] 35)) 23 #[.int .i64 0, .int .i64 0]) (.cells #[.int .i64 0, .int .i64 0] 23)
    rw [World.size_alloc] at hz
    rw [← hW2]; exact hz)
  have X6 := Lib.hid (show Box W1 (w.heap.size + 1 + 1) 23 #[.int .i64 0, .int .i64 0] by
    have hz := Box.made ((w.alloc (.cells #[.slice A l c] 35)).alloc (.cells #[.int .i64 0, .int .i64 0] 23)) 23 #[.int .i64 0, .int .i64 0]
    rw [World.size_alloc, World.size_alloc] at hz
    rw [← hW2]; exact hz)
  have C7 := Lib.hid (HT.out.later B3.out)
  have SZ8 := Lib.hid (show W1.heap.size = w.heap.size + 1 + 1 + 1 by rw [← hW2]; simp)
  rw [hW2]
  clear hW2
  have q9 : W1.cell? ⟨w.heap.size, 0, none⟩ = some (.slice A l c) := X4.out.cell 0
  have q10 : W1.cell? ⟨w.heap.size + 1, 0, none⟩ = some (.int .i64 0) := X5.out.cell 0
  have q11 : W1.cell? ⟨w.heap.size + 1, 1, none⟩ = some (.int .i64 0) := X5.out.cell 1
  have fz12 : ∀ o, W1.frozen? ⟨w.heap.size + 1, o, none⟩ = false := fun o => X5.out.free o
  have q13 : W1.cell? ⟨w.heap.size + 1 + 1, 0, none⟩ = some (.int .i64 0) := X6.out.cell 0
  have q14 : W1.cell? ⟨w.heap.size + 1 + 1, 1, none⟩ = some (.int .i64 0) := X6.out.cell 1
  have fz15 : ∀ o, W1.frozen? ⟨w.heap.size + 1 + 1, o, none⟩ = false := fun o => X6.out.free o
  go_wp2_with fail
  refine (within_c s 2 96 _).mono ?_; rintro e v16 ⟨rfl, rfl⟩
  rcases rn_cases HV.out s with ⟨h1, h2⟩ | ⟨h1, h2, h3⟩ | ⟨h1, N, D, h2, h3, h4⟩ | ⟨h1, h2, N, D, n, d, S, h3⟩
  · have HE := Lib.hid h2
    rw [h1]
    clear h1 h2
    go_wp2_with fail
    exact endRR Try.results81 rfl rfl rfl rfl X5.out X6.out (by omega) (by omega) (by omega) B3.out (fun W hW => ⟨.inl ⟨by rw [HE.out]; decide, by rw [HE.out]⟩, hW⟩)
  · have HE := Lib.hid h3
    have HTR := Lib.hid (show trnR ms l = ⟨0, 0, 2⟩ by rw [← HN.out]; exact h2)
    rw [h1]
    clear h1 h2 h3
    go_wp2_with fail
    refine (rturns_c ms l _ _ C7.out HV.out (Nat.le_of_eq HN.out.symm)).mono ?_; rintro e v17 ⟨rfl, hb18⟩
    have X19 := Lib.hid (X4.out.later hb18)
    have X20 := Lib.hid (X5.out.later hb18)
    have X21 := Lib.hid (X6.out.later hb18)
    have C22 := Lib.hid (C7.out.later hb18)
    have B23 := Lib.hid (B3.out.trans (hb18.mono B3.out.size))
    clear hb18
    rw [HTR.out]
    clear q9 q10 q11 fz12 q13 q14 fz15
    have q24 : v17.cell? ⟨w.heap.size, 0, none⟩ = some (.slice A l c) := X19.out.cell 0
    have q25 : v17.cell? ⟨w.heap.size + 1, 0, none⟩ = some (.int .i64 0) := X20.out.cell 0
    have q26 : v17.cell? ⟨w.heap.size + 1, 1, none⟩ = some (.int .i64 0) := X20.out.cell 1
    have fz27 : ∀ o, v17.frozen? ⟨w.heap.size + 1, o, none⟩ = false := fun o => X20.out.free o
    have q28 : v17.cell? ⟨w.heap.size + 1 + 1, 0, none⟩ = some (.int .i64 0) := X21.out.cell 0
    have q29 : v17.cell? ⟨w.heap.size + 1 + 1, 1, none⟩ = some (.int .i64 0) := X21.out.cell 1
    have fz30 : ∀ o, v17.frozen? ⟨w.heap.size + 1 + 1, o, none⟩ = false := fun o => X21.out.free o
    have LT31 := Lib.hid X21.out.lt
    have X32 := Lib.hid (X19.out.alloc (.cells #[.int .i64 0, .int .i64 0] 23))
    have X33 := Lib.hid (X20.out.alloc (.cells #[.int .i64 0, .int .i64 0] 23))
    have X34 := Lib.hid (X21.out.alloc (.cells #[.int .i64 0, .int .i64 0] 23))
    have C35 := Lib.hid (C22.out.later ((Below.refl v17.heap.size v17).alloc (Nat.le_refl _) (.cells #[.int .i64 0, .int .i64 0] 23)))
    have B36 := Lib.hid (B23.out.alloc B23.out.size (.cells #[.int .i64 0, .int .i64 0] 23))
    have X37 := Lib.hid (Box.made v17 23 #[.int .i64 0, .int .i64 0])
    have q38 : (v17.alloc (.cells #[.int .i64 0, .int .i64 0] 23)).cell? ⟨w.heap.size, 0, none⟩ = some (.slice A l c) := X32.out.cell 0
    have q39 : (v17.alloc (.cells #[.int .i64 0, .int .i64 0] 23)).cell? ⟨w.heap.size + 1, 0, none⟩ = some (.int .i64 0) := X33.out.cell 0
    have q40 : (v17.alloc (.cells #[.int .i64 0, .int .i64 0] 23)).cell? ⟨w.heap.size + 1, 1, none⟩ = some (.int .i64 0) := X33.out.cell 1
    have fz41 : ∀ o, (v17.alloc (.cells #[.int .i64 0, .int .i64 0] 23)).frozen? ⟨w.heap.size + 1, o, none⟩ = false := fun o => X33.out.free o
    have q42 : (v17.alloc (.cells #[.int .i64 0, .int .i64 0] 23)).cell? ⟨w.heap.size + 1 + 1, 0, none⟩ = some (.int .i64 0) := X34.out.cell 0
    have q43 : (v17.alloc (.cells #[.int .i64 0, .int .i64 0] 23)).cell? ⟨w.heap.size + 1 + 1, 1, none⟩ = some (.int .i64 0) := X34.out.cell 1
    have fz44 : ∀ o, (v17.alloc (.cells #[.int .i64 0, .int .i64 0] 23)).frozen? ⟨w.heap.size + 1 + 1, o, none⟩ = false := fun o => X34.out.free o
    have q45 : (v17.alloc (.cells #[.int .i64 0, .int .i64 0] 23)).cell? ⟨v17.heap.size, 0, none⟩ = some (.int .i64 0) := X37.out.cell 0
    have q46 : (v17.alloc (.cells #[.int .i64 0, .int .i64 0] 23)).cell? ⟨v17.heap.size, 1, none⟩ = some (.int .i64 0) := X37.out.cell 1
    go_wp2_with fail
    exact endRR Try.results81 rfl rfl rfl rfl X33.out X34.out (by omega) (by omega) (by omega) B36.out (fun W hW => ⟨.inl ⟨by rw [HE.out]; decide, by rw [HE.out]⟩, hW⟩)
  · have HE := Lib.hid h4
    have HTR := Lib.hid (show trnR ms l = ⟨(N : Int), (D : Int), 0⟩ by rw [← HN.out]; exact h2)
    have HPL := Lib.hid h3
    rw [h1]
    clear h1 h2 h3 h4
    go_wp2_with fail
    refine (rturns_c ms l _ _ C7.out HV.out (Nat.le_of_eq HN.out.symm)).mono ?_; rintro e v47 ⟨rfl, hb48⟩
    have X49 := Lib.hid (X4.out.later hb48)
    have X50 := Lib.hid (X5.out.later hb48)
    have X51 := Lib.hid (X6.out.later hb48)
    have C52 := Lib.hid (C7.out.later hb48)
    have B53 := Lib.hid (B3.out.trans (hb48.mono B3.out.size))
    clear hb48
    rw [HTR.out]
    clear q9 q10 q11 fz12 q13 q14 fz15
    have q54 : v47.cell? ⟨w.heap.size, 0, none⟩ = some (.slice A l c) := X49.out.cell 0
    have q55 : v47.cell? ⟨w.heap.size + 1, 0, none⟩ = some (.int .i64 0) := X50.out.cell 0
    have q56 : v47.cell? ⟨w.heap.size + 1, 1, none⟩ = some (.int .i64 0) := X50.out.cell 1
    have fz57 : ∀ o, v47.frozen? ⟨w.heap.size + 1, o, none⟩ = false := fun o => X50.out.free o
    have q58 : v47.cell? ⟨w.heap.size + 1 + 1, 0, none⟩ = some (.int .i64 0) := X51.out.cell 0
    have q59 : v47.cell? ⟨w.heap.size + 1 + 1, 1, none⟩ = some (.int .i64 0) := X51.out.cell 1
    have fz60 : ∀ o, v47.frozen? ⟨w.heap.size + 1 + 1, o, none⟩ = false := fun o => X51.out.free o
    have LT61 := Lib.hid X51.out.lt
    have X62 := Lib.hid (X49.out.alloc (.cells #[.int .i64 (N : Int), .int .i64 (D : Int)] 23))
    have X63 := Lib.hid (X50.out.alloc (.cells #[.int .i64 (N : Int), .int .i64 (D : Int)] 23))
    have X64 := Lib.hid (X51.out.alloc (.cells #[.int .i64 (N : Int), .int .i64 (D : Int)] 23))
    have C65 := Lib.hid (C52.out.later ((Below.refl v47.heap.size v47).alloc (Nat.le_refl _) (.cells #[.int .i64 (N : Int), .int .i64 (D : Int)] 23)))
    have B66 := Lib.hid (B53.out.alloc B53.out.size (.cells #[.int .i64 (N : Int), .int .i64 (D : Int)] 23))
    have X67 := Lib.hid (Box.made v47 23 #[.int .i64 (N : Int), .int .i64 (D : Int)])
    have q68 : (v47.alloc (.cells #[.int .i64 (N : Int), .int .i64 (D : Int)] 23)).cell? ⟨w.heap.size, 0, none⟩ = some (.slice A l c) := X62.out.cell 0
    have q69 : (v47.alloc (.cells #[.int .i64 (N : Int), .int .i64 (D : Int)] 23)).cell? ⟨w.heap.size + 1, 0, none⟩ = some (.int .i64 0) := X63.out.cell 0
    have q70 : (v47.alloc (.cells #[.int .i64 (N : Int), .int .i64 (D : Int)] 23)).cell? ⟨w.heap.size + 1, 1, none⟩ = some (.int .i64 0) := X63.out.cell 1
    have fz71 : ∀ o, (v47.alloc (.cells #[.int .i64 (N : Int), .int .i64 (D : Int)] 23)).frozen? ⟨w.heap.size + 1, o, none⟩ = false := fun o => X63.out.free o
    have q72 : (v47.alloc (.cells #[.int .i64 (N : Int), .int .i64 (D : Int)] 23)).cell? ⟨w.heap.size + 1 + 1, 0, none⟩ = some (.int .i64 0) := X64.out.cell 0
    have q73 : (v47.alloc (.cells #[.int .i64 (N : Int), .int .i64 (D : Int)] 23)).cell? ⟨w.heap.size + 1 + 1, 1, none⟩ = some (.int .i64 0) := X64.out.cell 1
    have fz74 : ∀ o, (v47.alloc (.cells #[.int .i64 (N : Int), .int .i64 (D : Int)] 23)).frozen? ⟨w.heap.size + 1 + 1, o, none⟩ = false := fun o => X64.out.free o
    have q75 : (v47.alloc (.cells #[.int .i64 (N : Int), .int .i64 (D : Int)] 23)).cell? ⟨v47.heap.size, 0, none⟩ = some (.int .i64 (N : Int)) := X67.out.cell 0
    have q76 : (v47.alloc (.cells #[.int .i64 (N : Int), .int .i64 (D : Int)] 23)).cell? ⟨v47.heap.size, 1, none⟩ = some (.int .i64 (D : Int)) := X67.out.cell 1
    go_wp2_with fail
    refine (rPlay_c ms _ _ C65.out HL.out).mono ?_; rintro e v77 ⟨rfl, hb78⟩
    have X79 := Lib.hid (X62.out.later hb78)
    have X80 := Lib.hid (X63.out.later hb78)
    have X81 := Lib.hid (X64.out.later hb78)
    have X82 := Lib.hid (X67.out.later hb78)
    have C83 := Lib.hid (C65.out.later hb78)
    have B84 := Lib.hid (B66.out.trans (hb78.mono B66.out.size))
    clear hb78
    rw [HPL.out]
    clear q68 q69 q70 fz71 q72 q73 fz74 q75 q76 q54 q55 q56 fz57 q58 q59 fz60
    have q85 : v77.cell? ⟨w.heap.size, 0, none⟩ = some (.slice A l c) := X79.out.cell 0
    have q86 : v77.cell? ⟨w.heap.size + 1, 0, none⟩ = some (.int .i64 0) := X80.out.cell 0
    have q87 : v77.cell? ⟨w.heap.size + 1, 1, none⟩ = some (.int .i64 0) := X80.out.cell 1
    have fz88 : ∀ o, v77.frozen? ⟨w.heap.size + 1, o, none⟩ = false := fun o => X80.out.free o
    have q89 : v77.cell? ⟨w.heap.size + 1 + 1, 0, none⟩ = some (.int .i64 0) := X81.out.cell 0
    have q90 : v77.cell? ⟨w.heap.size + 1 + 1, 1, none⟩ = some (.int .i64 0) := X81.out.cell 1
    have fz91 : ∀ o, v77.frozen? ⟨w.heap.size + 1 + 1, o, none⟩ = false := fun o => X81.out.free o
    have q92 : v77.cell? ⟨v47.heap.size, 0, none⟩ = some (.int .i64 (N : Int)) := X82.out.cell 0
    have q93 : v77.cell? ⟨v47.heap.size, 1, none⟩ = some (.int .i64 (D : Int)) := X82.out.cell 1
    have LT94 := Lib.hid X81.out.lt
    have X95 := Lib.hid (X79.out.alloc (.cells #[.int .i64 0, .int .i64 0] 23))
    have X96 := Lib.hid (X80.out.alloc (.cells #[.int .i64 0, .int .i64 0] 23))
    have X97 := Lib.hid (X81.out.alloc (.cells #[.int .i64 0, .int .i64 0] 23))
    have X98 := Lib.hid (X82.out.alloc (.cells #[.int .i64 0, .int .i64 0] 23))
    have C99 := Lib.hid (C83.out.later ((Below.refl v77.heap.size v77).alloc (Nat.le_refl _) (.cells #[.int .i64 0, .int .i64 0] 23)))
    have B100 := Lib.hid (B84.out.alloc B84.out.size (.cells #[.int .i64 0, .int .i64 0] 23))
    have X101 := Lib.hid (Box.made v77 23 #[.int .i64 0, .int .i64 0])
    have q102 : (v77.alloc (.cells #[.int .i64 0, .int .i64 0] 23)).cell? ⟨w.heap.size, 0, none⟩ = some (.slice A l c) := X95.out.cell 0
    have q103 : (v77.alloc (.cells #[.int .i64 0, .int .i64 0] 23)).cell? ⟨w.heap.size + 1, 0, none⟩ = some (.int .i64 0) := X96.out.cell 0
    have q104 : (v77.alloc (.cells #[.int .i64 0, .int .i64 0] 23)).cell? ⟨w.heap.size + 1, 1, none⟩ = some (.int .i64 0) := X96.out.cell 1
    have fz105 : ∀ o, (v77.alloc (.cells #[.int .i64 0, .int .i64 0] 23)).frozen? ⟨w.heap.size + 1, o, none⟩ = false := fun o => X96.out.free o
    have q106 : (v77.alloc (.cells #[.int .i64 0, .int .i64 0] 23)).cell? ⟨w.heap.size + 1 + 1, 0, none⟩ = some (.int .i64 0) := X97.out.cell 0
    have q107 : (v77.alloc (.cells #[.int .i64 0, .int .i64 0] 23)).cell? ⟨w.heap.size + 1 + 1, 1, none⟩ = some (.int .i64 0) := X97.out.cell 1
    have fz108 : ∀ o, (v77.alloc (.cells #[.int .i64 0, .int .i64 0] 23)).frozen? ⟨w.heap.size + 1 + 1, o, none⟩ = false := fun o => X97.out.free o
    have q109 : (v77.alloc (.cells #[.int .i64 0, .int .i64 0] 23)).cell? ⟨v47.heap.size, 0, none⟩ = some (.int .i64 (N : Int)) := X98.out.cell 0
    have q110 : (v77.alloc (.cells #[.int .i64 0, .int .i64 0] 23)).cell? ⟨v47.heap.size, 1, none⟩ = some (.int .i64 (D : Int)) := X98.out.cell 1
    have q111 : (v77.alloc (.cells #[.int .i64 0, .int .i64 0] 23)).cell? ⟨v77.heap.size, 0, none⟩ = some (.int .i64 0) := X101.out.cell 0
    have q112 : (v77.alloc (.cells #[.int .i64 0, .int .i64 0] 23)).cell? ⟨v77.heap.size, 1, none⟩ = some (.int .i64 0) := X101.out.cell 1
    go_wp2_with fail
    exact endRR Try.results81 rfl rfl rfl rfl X96.out X97.out (by omega) (by omega) (by omega) B100.out (fun W hW => ⟨.inl ⟨by rw [HE.out]; decide, by rw [HE.out]⟩, hW⟩)
  · have HE := Lib.hid h2
    have HRO := Lib.hid h3
    have HTR := Lib.hid (show trnR ms l = ⟨(N : Int), (D : Int), 0⟩ by rw [← HN.out]; exact h3.trn)
    have HPL := Lib.hid h3.play
    rw [h1]
    clear h1 h2 h3
    go_wp2_with fail
    refine (rturns_c ms l _ _ C7.out HV.out (Nat.le_of_eq HN.out.symm)).mono ?_; rintro e v113 ⟨rfl, hb114⟩
    have X115 := Lib.hid (X4.out.later hb114)
    have X116 := Lib.hid (X5.out.later hb114)
    have X117 := Lib.hid (X6.out.later hb114)
    have C118 := Lib.hid (C7.out.later hb114)
    have B119 := Lib.hid (B3.out.trans (hb114.mono B3.out.size))
    clear hb114
    rw [HTR.out]
    clear q9 q10 q11 fz12 q13 q14 fz15
    have q120 : v113.cell? ⟨w.heap.size, 0, none⟩ = some (.slice A l c) := X115.out.cell 0
    have q121 : v113.cell? ⟨w.heap.size + 1, 0, none⟩ = some (.int .i64 0) := X116.out.cell 0
    have q122 : v113.cell? ⟨w.heap.size + 1, 1, none⟩ = some (.int .i64 0) := X116.out.cell 1
    have fz123 : ∀ o, v113.frozen? ⟨w.heap.size + 1, o, none⟩ = false := fun o => X116.out.free o
    have q124 : v113.cell? ⟨w.heap.size + 1 + 1, 0, none⟩ = some (.int .i64 0) := X117.out.cell 0
    have q125 : v113.cell? ⟨w.heap.size + 1 + 1, 1, none⟩ = some (.int .i64 0) := X117.out.cell 1
    have fz126 : ∀ o, v113.frozen? ⟨w.heap.size + 1 + 1, o, none⟩ = false := fun o => X117.out.free o
    have LT127 := Lib.hid X117.out.lt
    have X128 := Lib.hid (X115.out.alloc (.cells #[.int .i64 (N : Int), .int .i64 (D : Int)] 23))
    have X129 := Lib.hid (X116.out.alloc (.cells #[.int .i64 (N : Int), .int .i64 (D : Int)] 23))
    have X130 := Lib.hid (X117.out.alloc (.cells #[.int .i64 (N : Int), .int .i64 (D : Int)] 23))
    have C131 := Lib.hid (C118.out.later ((Below.refl v113.heap.size v113).alloc (Nat.le_refl _) (.cells #[.int .i64 (N : Int), .int .i64 (D : Int)] 23)))
    have B132 := Lib.hid (B119.out.alloc B119.out.size (.cells #[.int .i64 (N : Int), .int .i64 (D : Int)] 23))
    have X133 := Lib.hid (Box.made v113 23 #[.int .i64 (N : Int), .int .i64 (D : Int)])
    have q134 : (v113.alloc (.cells #[.int .i64 (N : Int), .int .i64 (D : Int)] 23)).cell? ⟨w.heap.size, 0, none⟩ = some (.slice A l c) := X128.out.cell 0
    have q135 : (v113.alloc (.cells #[.int .i64 (N : Int), .int .i64 (D : Int)] 23)).cell? ⟨w.heap.size + 1, 0, none⟩ = some (.int .i64 0) := X129.out.cell 0
    have q136 : (v113.alloc (.cells #[.int .i64 (N : Int), .int .i64 (D : Int)] 23)).cell? ⟨w.heap.size + 1, 1, none⟩ = some (.int .i64 0) := X129.out.cell 1
    have fz137 : ∀ o, (v113.alloc (.cells #[.int .i64 (N : Int), .int .i64 (D : Int)] 23)).frozen? ⟨w.heap.size + 1, o, none⟩ = false := fun o => X129.out.free o
    have q138 : (v113.alloc (.cells #[.int .i64 (N : Int), .int .i64 (D : Int)] 23)).cell? ⟨w.heap.size + 1 + 1, 0, none⟩ = some (.int .i64 0) := X130.out.cell 0
    have q139 : (v113.alloc (.cells #[.int .i64 (N : Int), .int .i64 (D : Int)] 23)).cell? ⟨w.heap.size + 1 + 1, 1, none⟩ = some (.int .i64 0) := X130.out.cell 1
    have fz140 : ∀ o, (v113.alloc (.cells #[.int .i64 (N : Int), .int .i64 (D : Int)] 23)).frozen? ⟨w.heap.size + 1 + 1, o, none⟩ = false := fun o => X130.out.free o
    have q141 : (v113.alloc (.cells #[.int .i64 (N : Int), .int .i64 (D : Int)] 23)).cell? ⟨v113.heap.size, 0, none⟩ = some (.int .i64 (N : Int)) := X133.out.cell 0
    have q142 : (v113.alloc (.cells #[.int .i64 (N : Int), .int .i64 (D : Int)] 23)).cell? ⟨v113.heap.size, 1, none⟩ = some (.int .i64 (D : Int)) := X133.out.cell 1
    go_wp2_with fail
    refine (rPlay_c ms _ _ C131.out HL.out).mono ?_; rintro e v143 ⟨rfl, hb144⟩
    have X145 := Lib.hid (X128.out.later hb144)
    have X146 := Lib.hid (X129.out.later hb144)
    have X147 := Lib.hid (X130.out.later hb144)
    have X148 := Lib.hid (X133.out.later hb144)
    have C149 := Lib.hid (C131.out.later hb144)
    have B150 := Lib.hid (B132.out.trans (hb144.mono B132.out.size))
    clear hb144
    rw [HPL.out]
    clear q134 q135 q136 fz137 q138 q139 fz140 q141 q142 q120 q121 q122 fz123 q124 q125 fz126
    have q151 : v143.cell? ⟨w.heap.size, 0, none⟩ = some (.slice A l c) := X145.out.cell 0
    have q152 : v143.cell? ⟨w.heap.size + 1, 0, none⟩ = some (.int .i64 0) := X146.out.cell 0
    have q153 : v143.cell? ⟨w.heap.size + 1, 1, none⟩ = some (.int .i64 0) := X146.out.cell 1
    have fz154 : ∀ o, v143.frozen? ⟨w.heap.size + 1, o, none⟩ = false := fun o => X146.out.free o
    have q155 : v143.cell? ⟨w.heap.size + 1 + 1, 0, none⟩ = some (.int .i64 0) := X147.out.cell 0
    have q156 : v143.cell? ⟨w.heap.size + 1 + 1, 1, none⟩ = some (.int .i64 0) := X147.out.cell 1
    have fz157 : ∀ o, v143.frozen? ⟨w.heap.size + 1 + 1, o, none⟩ = false := fun o => X147.out.free o
    have q158 : v143.cell? ⟨v113.heap.size, 0, none⟩ = some (.int .i64 (N : Int)) := X148.out.cell 0
    have q159 : v143.cell? ⟨v113.heap.size, 1, none⟩ = some (.int .i64 (D : Int)) := X148.out.cell 1
    have LP := Lib.hid X147.out.lt
    have LT160 := Lib.hid X147.out.lt
    have X161 := Lib.hid (X145.out.alloc (.cells #[.int .i64 (n : Int), .int .i64 (d : Int)] 23))
    have X162 := Lib.hid (X146.out.alloc (.cells #[.int .i64 (n : Int), .int .i64 (d : Int)] 23))
    have X163 := Lib.hid (X147.out.alloc (.cells #[.int .i64 (n : Int), .int .i64 (d : Int)] 23))
    have X164 := Lib.hid (X148.out.alloc (.cells #[.int .i64 (n : Int), .int .i64 (d : Int)] 23))
    have C165 := Lib.hid (C149.out.later ((Below.refl v143.heap.size v143).alloc (Nat.le_refl _) (.cells #[.int .i64 (n : Int), .int .i64 (d : Int)] 23)))
    have B166 := Lib.hid (B150.out.alloc B150.out.size (.cells #[.int .i64 (n : Int), .int .i64 (d : Int)] 23))
    have X167 := Lib.hid (Box.made v143 23 #[.int .i64 (n : Int), .int .i64 (d : Int)])
    have q168 : (v143.alloc (.cells #[.int .i64 (n : Int), .int .i64 (d : Int)] 23)).cell? ⟨w.heap.size, 0, none⟩ = some (.slice A l c) := X161.out.cell 0
    have q169 : (v143.alloc (.cells #[.int .i64 (n : Int), .int .i64 (d : Int)] 23)).cell? ⟨w.heap.size + 1, 0, none⟩ = some (.int .i64 0) := X162.out.cell 0
    have q170 : (v143.alloc (.cells #[.int .i64 (n : Int), .int .i64 (d : Int)] 23)).cell? ⟨w.heap.size + 1, 1, none⟩ = some (.int .i64 0) := X162.out.cell 1
    have fz171 : ∀ o, (v143.alloc (.cells #[.int .i64 (n : Int), .int .i64 (d : Int)] 23)).frozen? ⟨w.heap.size + 1, o, none⟩ = false := fun o => X162.out.free o
    have q172 : (v143.alloc (.cells #[.int .i64 (n : Int), .int .i64 (d : Int)] 23)).cell? ⟨w.heap.size + 1 + 1, 0, none⟩ = some (.int .i64 0) := X163.out.cell 0
    have q173 : (v143.alloc (.cells #[.int .i64 (n : Int), .int .i64 (d : Int)] 23)).cell? ⟨w.heap.size + 1 + 1, 1, none⟩ = some (.int .i64 0) := X163.out.cell 1
    have fz174 : ∀ o, (v143.alloc (.cells #[.int .i64 (n : Int), .int .i64 (d : Int)] 23)).frozen? ⟨w.heap.size + 1 + 1, o, none⟩ = false := fun o => X163.out.free o
    have q175 : (v143.alloc (.cells #[.int .i64 (n : Int), .int .i64 (d : Int)] 23)).cell? ⟨v113.heap.size, 0, none⟩ = some (.int .i64 (N : Int)) := X164.out.cell 0
    have q176 : (v143.alloc (.cells #[.int .i64 (n : Int), .int .i64 (d : Int)] 23)).cell? ⟨v113.heap.size, 1, none⟩ = some (.int .i64 (D : Int)) := X164.out.cell 1
    have q177 : (v143.alloc (.cells #[.int .i64 (n : Int), .int .i64 (d : Int)] 23)).cell? ⟨v143.heap.size, 0, none⟩ = some (.int .i64 (n : Int)) := X167.out.cell 0
    have q178 : (v143.alloc (.cells #[.int .i64 (n : Int), .int .i64 (d : Int)] 23)).cell? ⟨v143.heap.size, 1, none⟩ = some (.int .i64 (d : Int)) := X167.out.cell 1
    have fz179 : ∀ o, (v143.alloc (.cells #[.int .i64 (n : Int), .int .i64 (d : Int)] 23)).frozen? ⟨v143.heap.size, o, none⟩ = false := fun o => X167.out.free o
    go_wp2_with fail
    have x1 := (X167.out.far (p := ⟨w.heap.size + 1, 0, none⟩) (show v143.heap.size ≠ w.heap.size + 1 by have := LP.out; omega) (.int .i64 (N : Int))).far (p := ⟨w.heap.size + 1, 1, none⟩) (show v143.heap.size ≠ w.heap.size + 1 by have := LP.out; omega) (.int .i64 (D : Int))
    have x2 := (X163.out.far (p := ⟨w.heap.size + 1, 0, none⟩) (show w.heap.size + 1 + 1 ≠ w.heap.size + 1 by omega) (.int .i64 (N : Int))).far (p := ⟨w.heap.size + 1, 1, none⟩) (show w.heap.size + 1 + 1 ≠ w.heap.size + 1 by omega) (.int .i64 (D : Int))
    have y0 : (((v143.alloc (.cells #[.int .i64 (n : Int), .int .i64 (d : Int)] 23)).setCell ⟨w.heap.size + 1, 0, none⟩ (.int .i64 (N : Int))).setCell ⟨w.heap.size + 1, 1, none⟩ (.int .i64 (D : Int))).cell? ⟨v143.heap.size, 0, none⟩ = some (.int .i64 (n : Int)) := x1.cell 0
    have y1 : (((v143.alloc (.cells #[.int .i64 (n : Int), .int .i64 (d : Int)] 23)).setCell ⟨w.heap.size + 1, 0, none⟩ (.int .i64 (N : Int))).setCell ⟨w.heap.size + 1, 1, none⟩ (.int .i64 (D : Int))).cell? ⟨v143.heap.size, 1, none⟩ = some (.int .i64 (d : Int)) := x1.cell 1
    have y2 : (((v143.alloc (.cells #[.int .i64 (n : Int), .int .i64 (d : Int)] 23)).setCell ⟨w.heap.size + 1, 0, none⟩ (.int .i64 (N : Int))).setCell ⟨w.heap.size + 1, 1, none⟩ (.int .i64 (D : Int))).cell? ⟨w.heap.size + 1 + 1, 0, none⟩ = some (.int .i64 0) := x2.cell 0
    have y3 : (((v143.alloc (.cells #[.int .i64 (n : Int), .int .i64 (d : Int)] 23)).setCell ⟨w.heap.size + 1, 0, none⟩ (.int .i64 (N : Int))).setCell ⟨w.heap.size + 1, 1, none⟩ (.int .i64 (D : Int))).cell? ⟨w.heap.size + 1 + 1, 1, none⟩ = some (.int .i64 0) := x2.cell 1
    have y4 : ∀ o, (((v143.alloc (.cells #[.int .i64 (n : Int), .int .i64 (d : Int)] 23)).setCell ⟨w.heap.size + 1, 0, none⟩ (.int .i64 (N : Int))).setCell ⟨w.heap.size + 1, 1, none⟩ (.int .i64 (D : Int))).frozen? ⟨w.heap.size + 1 + 1, o, none⟩ = false := fun o => x2.free o
    clear x1 x2
    go_region
    have f1 := ((((X162.out.put 0 (.int .i64 (N : Int))).put 1 (.int .i64 (D : Int))).far (p := ⟨w.heap.size + 1 + 1, 0, none⟩) (show w.heap.size + 1 ≠ w.heap.size + 1 + 1 by omega) (.int .i64 (n : Int))).far (p := ⟨w.heap.size + 1 + 1, 1, none⟩) (show w.heap.size + 1 ≠ w.heap.size + 1 + 1 by omega) (.int .i64 (d : Int)))
    have f2 := ((((X163.out.far (p := ⟨w.heap.size + 1, 0, none⟩) (show w.heap.size + 1 + 1 ≠ w.heap.size + 1 by omega) (.int .i64 (N : Int))).far (p := ⟨w.heap.size + 1, 1, none⟩) (show w.heap.size + 1 + 1 ≠ w.heap.size + 1 by omega) (.int .i64 (D : Int))).put 0 (.int .i64 (n : Int))).put 1 (.int .i64 (d : Int)))
    have fb := (((((B166.out.setCell (p := ⟨w.heap.size + 1, 0, none⟩) (show w.heap.size ≤ w.heap.size + 1 by omega) (.int .i64 (N : Int))).setCell (p := ⟨w.heap.size + 1, 1, none⟩) (show w.heap.size ≤ w.heap.size + 1 by omega) (.int .i64 (D : Int))).setCell (p := ⟨w.heap.size + 1 + 1, 0, none⟩) (show w.heap.size ≤ w.heap.size + 1 + 1 by omega) (.int .i64 (n : Int))).setCell (p := ⟨w.heap.size + 1 + 1, 1, none⟩) (show w.heap.size ≤ w.heap.size + 1 + 1 by omega) (.int .i64 (d : Int))).drew)
    obtain ⟨WF, hWF⟩ : ∃ Wzz, ((((((v143.alloc (.cells #[.int .i64 (n : Int), .int .i64 (d : Int)] 23)).setCell ⟨w.heap.size + 1, 0, none⟩ (.int .i64 (N : Int))).setCell ⟨w.heap.size + 1, 1, none⟩ (.int .i64 (D : Int))).setCell ⟨w.heap.size + 1 + 1, 0, none⟩ (.int .i64 (n : Int))).setCell ⟨w.heap.size + 1 + 1, 1, none⟩ (.int .i64 (d : Int)))).drew = Wzz := ⟨_, rfl⟩
    have F1 : Box WF (w.heap.size + 1) 23 #[.int .i64 (N : Int), .int .i64 (D : Int)] := by rw [← hWF]; exact f1
    have F2 : Box WF (w.heap.size + 1 + 1) 23 #[.int .i64 (n : Int), .int .i64 (d : Int)] := by rw [← hWF]; exact f2
    rw [hWF] at fb ⊢
    have q0 := F1.cell 0
    have q1 := F1.cell 1
    have q2 := F2.cell 0
    have q3 := F2.cell 1
    have FB := Lib.hid fb
    clear hWF f1 f2 fb y0 y1 y2 y3 y4
    go_wp2_with fail
    exact bodyPost_ret (v := .tuple #[.agg #[.int .i64 (N : Int), .int .i64 (D : Int)], .agg #[.int .i64 (n : Int), .int .i64 (d : Int)], .int .i64 0]) (by simp at q0 q1 q2 q3; simp [results, Try.results81, go_sem, q0, q1, q2, q3]) rfl ⟨.inr ⟨HE.out, N, D, n, d, S, HRO.out, rfl⟩, FB.out⟩

end Go.Proofs.Ytmmfmanjajefcaa

set_option linter.all false
namespace Go.Proofs.Ytmmfmanjajefcaa
open Go.RowKit

theorem as_rn {ms : List Mh} {s t : Int} : (asE ms t ≠ 0 → rnE ms s t = asE ms t) ∧ (asE ms t = 0 → rnE ms s t = rnE ms s 0 ∧ trB ms = true ∧ 0 ≤ t ∧ t ≤ 1000000) := by
  have h0 : inB 0 0 1000000 = true := by decide
  unfold asE rnE
  cases hv : trB ms
  · exact ⟨fun _ => rfl, fun h => by simp at h⟩
  · cases ht : inB t 0 1000000
    · cases hs : inB s 2 96 <;> simp
    · have := inB_iff.1 ht
      simp [h0, this]
theorem run_at {ms : List Mh} {s t : Int} {N D n d S : Nat} (hr : RunOk ms s 0 N D n d S 0) (h0 : 0 ≤ t) (h1 : t ≤ 1000000) : ∃ T : Nat, t = (T : Int) ∧ RunOk ms s t N D n d S T := by
  obtain ⟨T, rfl⟩ := Int.eq_ofNat_of_zero_le h0
  exact ⟨T, rfl, hr.val, hr.sec, rfl, hr.S2, hr.S96, by omega, hr.sh, hr.pl, hr.rt, hr.rp, hr.pos, hr.trn, hr.play⟩

set_option maxRecDepth 100000 in
set_option maxHeartbeats 8000000 in
theorem rWhere_c (ms : List Mh) (s t : Int) (v : Value) (w : World) (h : IsTr w w.heap.size v ms) (hl : ms.length ≤ 100) : Calls Try.prog 46 #[v, .int .i64 s, .int .i64 t] w fun e w' => e = .returned (rrV (whR ms s t)) ∧ Below w.heap.size w w' := by
  have HT := Lib.hid h
  have HL := Lib.hid hl
  clear hl
  obtain ⟨sv, rfl, A, c, rfl, -, -⟩ := h
  obtain ⟨l, hn⟩ : ∃ n, ms.length = n := ⟨_, rfl⟩
  have HN := Lib.hid hn
  rw [hn] at HT ⊢
  clear hn
  go_enter Try.func46, Try.ntmps46
  go_wp2_with fail
  obtain ⟨W1, hW2⟩ : ∃ Wzz, ((w.alloc (.cells #[.slice A l c] 35)).alloc (.cells #[.int .i64 0, .int .i64 0] 52)) = Wzz := ⟨_, rfl⟩
  have B3 := Lib.hid (show Below w.heap.size w W1 by rw [← hW2]; exact (((Below.refl w.heap.size w).alloc (Nat.le_refl _) _).alloc (by first | (simp; done) | (simp; omega)) _))
  have X4 := Lib.hid (show Box W1 (w.heap.size) 35 #[.slice A l c] by rw [← hW2]; exact Box.alloc (Box.made w 35 #[.slice A l c]) (.cells #[.int .i64 0, .int .i64 0] 52))
  have X5 := Lib.hid (show Box W1 (w.heap.size + 1) 52 #[.int .i64 0, .int .i64 0] by
    have hz := Box.made (w.alloc (.cells #[.slice A l c] 35)) 52 #[.int .i64 0, .int .i64 0]
    rw [World.size_alloc] at hz
    rw [← hW2]; exact hz)
  have C6 := Lib.hid (HT.out.later B3.out)
  have SZ7 := Lib.hid (show W1.heap.size = w.heap.size + 1 + 1 by rw [← hW2]; simp)
  rw [hW2]
  clear hW2
  have q8 : W1.cell? ⟨w.heap.size, 0, none⟩ = some (.slice A l c) := X4.out.cell 0
  have q9 : W1.cell? ⟨w.heap.size + 1, 0, none⟩ = some (.int .i64 0) := X5.out.cell 0
  have q10 : W1.cell? ⟨w.heap.size + 1, 1, none⟩ = some (.int .i64 0) := X5.out.cell 1
  have fz11 : ∀ o, W1.frozen? ⟨w.heap.size + 1, o, none⟩ = false := fun o => X5.out.free o
  go_wp2_with fail
  refine (asked_c ms t _ _ C6.out HL.out).mono ?_; rintro e v12 ⟨rfl, hb13⟩
  have X14 := Lib.hid (X4.out.later hb13)
  have X15 := Lib.hid (X5.out.later hb13)
  have C16 := Lib.hid (C6.out.later hb13)
  have B17 := Lib.hid (B3.out.trans (hb13.mono B3.out.size))
  clear hb13
  clear q8 q9 q10 fz11
  have q18 : v12.cell? ⟨w.heap.size, 0, none⟩ = some (.slice A l c) := X14.out.cell 0
  have q19 : v12.cell? ⟨w.heap.size + 1, 0, none⟩ = some (.int .i64 0) := X15.out.cell 0
  have q20 : v12.cell? ⟨w.heap.size + 1, 1, none⟩ = some (.int .i64 0) := X15.out.cell 1
  have fz21 : ∀ o, v12.frozen? ⟨w.heap.size + 1, o, none⟩ = false := fun o => X15.out.free o
  by_cases ha : asE ms t = 0; rotate_left
  · obtain ⟨x, hx⟩ : ∃ x, asE ms t = x := ⟨_, rfl⟩
    have HRX := Lib.hid ((as_rn (s := s)).1 ha)
    rw [hx] at HRX ha ⊢
    have HR := Lib.hid (show whR ms s t = ⟨0, 0, x⟩ by rw [wh_bad (by rw [HRX.out]; exact ha), HRX.out])
    have e1 : (x != 0) = true := by simpa using ha
    have e2 : (x == 0) = false := by simpa using ha
    have e3 : decide (x = 0) = false := by simpa using ha
    clear ha hx
    go_wp2_with fail
    exact endSr Try.results46 (by rfl) (by rfl) HR.out X15.out (by omega) B17.out
  · have HAS := Lib.hid ((as_rn (s := s)).2 ha)
    rw [ha]
    have n1 : ((0 : Int) != 0) = false := by decide
    clear ha
    go_wp2_with fail
    refine (rrunner_c ms s _ _ C16.out HAS.out.2.1 HL.out).mono ?_; rintro e v22 ⟨hpost, hb23⟩
    have X24 := Lib.hid (X14.out.later hb23)
    have X25 := Lib.hid (X15.out.later hb23)
    have C26 := Lib.hid (C16.out.later hb23)
    have B27 := Lib.hid (B17.out.trans (hb23.mono B17.out.size))
    clear hb23
    clear q18 q19 q20 fz21
    have q28 : v22.cell? ⟨w.heap.size, 0, none⟩ = some (.slice A l c) := X24.out.cell 0
    have q29 : v22.cell? ⟨w.heap.size + 1, 0, none⟩ = some (.int .i64 0) := X25.out.cell 0
    have q30 : v22.cell? ⟨w.heap.size + 1, 1, none⟩ = some (.int .i64 0) := X25.out.cell 1
    have fz31 : ∀ o, v22.frozen? ⟨w.heap.size + 1, o, none⟩ = false := fun o => X25.out.free o
    rcases hpost with ⟨h1, rfl⟩ | ⟨h1, N, D, n, d, S, hr, rfl⟩
    · obtain ⟨x, hx⟩ : ∃ x, rnE ms s 0 = x := ⟨_, rfl⟩
      have HRX := Lib.hid (show rnE ms s t = x by rw [HAS.out.1, hx])
      rw [hx] at h1 ⊢
      have HR := Lib.hid (show whR ms s t = ⟨0, 0, x⟩ by rw [wh_bad (by rw [HRX.out]; exact h1), HRX.out])
      have e1 : (x != 0) = true := by simpa using h1
      have e2 : (x == 0) = false := by simpa using h1
      have e3 : decide (x = 0) = false := by simpa using h1
      clear h1 hx
      have X32 := Lib.hid (X24.out.alloc (.cells #[.int .i64 0, .int .i64 0] 23))
      have X33 := Lib.hid (X25.out.alloc (.cells #[.int .i64 0, .int .i64 0] 23))
      have C34 := Lib.hid (C26.out.later ((Below.refl v22.heap.size v22).alloc (Nat.le_refl _) (.cells #[.int .i64 0, .int .i64 0] 23)))
      have B35 := Lib.hid (B27.out.alloc B27.out.size (.cells #[.int .i64 0, .int .i64 0] 23))
      have X36 := Lib.hid (Box.made v22 23 #[.int .i64 0, .int .i64 0])
      have q37 : (v22.alloc (.cells #[.int .i64 0, .int .i64 0] 23)).cell? ⟨w.heap.size, 0, none⟩ = some (.slice A l c) := X32.out.cell 0
      have q38 : (v22.alloc (.cells #[.int .i64 0, .int .i64 0] 23)).cell? ⟨w.heap.size + 1, 0, none⟩ = some (.int .i64 0) := X33.out.cell 0
      have q39 : (v22.alloc (.cells #[.int .i64 0, .int .i64 0] 23)).cell? ⟨w.heap.size + 1, 1, none⟩ = some (.int .i64 0) := X33.out.cell 1
      have fz40 : ∀ o, (v22.alloc (.cells #[.int .i64 0, .int .i64 0] 23)).frozen? ⟨w.heap.size + 1, o, none⟩ = false := fun o => X33.out.free o
      have q41 : (v22.alloc (.cells #[.int .i64 0, .int .i64 0] 23)).cell? ⟨v22.heap.size, 0, none⟩ = some (.int .i64 0) := X36.out.cell 0
      have q42 : (v22.alloc (.cells #[.int .i64 0, .int .i64 0] 23)).cell? ⟨v22.heap.size, 1, none⟩ = some (.int .i64 0) := X36.out.cell 1
      have LT43 := Lib.hid X36.out.lt
      have X44 := Lib.hid (X32.out.alloc (.cells #[.int .i64 0, .int .i64 0] 23))
      have X45 := Lib.hid (X33.out.alloc (.cells #[.int .i64 0, .int .i64 0] 23))
      have X46 := Lib.hid (X36.out.alloc (.cells #[.int .i64 0, .int .i64 0] 23))
      have C47 := Lib.hid (C34.out.later ((Below.refl (v22.alloc (.cells #[.int .i64 0, .int .i64 0] 23)).heap.size (v22.alloc (.cells #[.int .i64 0, .int .i64 0] 23))).alloc (Nat.le_refl _) (.cells #[.int .i64 0, .int .i64 0] 23)))
      have B48 := Lib.hid (B35.out.alloc B35.out.size (.cells #[.int .i64 0, .int .i64 0] 23))
      have X49 := Lib.hid (Box.made (v22.alloc (.cells #[.int .i64 0, .int .i64 0] 23)) 23 #[.int .i64 0, .int .i64 0])
      have q50 : ((v22.alloc (.cells #[.int .i64 0, .int .i64 0] 23)).alloc (.cells #[.int .i64 0, .int .i64 0] 23)).cell? ⟨w.heap.size, 0, none⟩ = some (.slice A l c) := X44.out.cell 0
      have q51 : ((v22.alloc (.cells #[.int .i64 0, .int .i64 0] 23)).alloc (.cells #[.int .i64 0, .int .i64 0] 23)).cell? ⟨w.heap.size + 1, 0, none⟩ = some (.int .i64 0) := X45.out.cell 0
      have q52 : ((v22.alloc (.cells #[.int .i64 0, .int .i64 0] 23)).alloc (.cells #[.int .i64 0, .int .i64 0] 23)).cell? ⟨w.heap.size + 1, 1, none⟩ = some (.int .i64 0) := X45.out.cell 1
      have fz53 : ∀ o, ((v22.alloc (.cells #[.int .i64 0, .int .i64 0] 23)).alloc (.cells #[.int .i64 0, .int .i64 0] 23)).frozen? ⟨w.heap.size + 1, o, none⟩ = false := fun o => X45.out.free o
      have q54 : ((v22.alloc (.cells #[.int .i64 0, .int .i64 0] 23)).alloc (.cells #[.int .i64 0, .int .i64 0] 23)).cell? ⟨v22.heap.size, 0, none⟩ = some (.int .i64 0) := X46.out.cell 0
      have q55 : ((v22.alloc (.cells #[.int .i64 0, .int .i64 0] 23)).alloc (.cells #[.int .i64 0, .int .i64 0] 23)).cell? ⟨v22.heap.size, 1, none⟩ = some (.int .i64 0) := X46.out.cell 1
      have q56 : ((v22.alloc (.cells #[.int .i64 0, .int .i64 0] 23)).alloc (.cells #[.int .i64 0, .int .i64 0] 23)).cell? ⟨(v22.alloc (.cells #[.int .i64 0, .int .i64 0] 23)).heap.size, 0, none⟩ = some (.int .i64 0) := X49.out.cell 0
      have q57 : ((v22.alloc (.cells #[.int .i64 0, .int .i64 0] 23)).alloc (.cells #[.int .i64 0, .int .i64 0] 23)).cell? ⟨(v22.alloc (.cells #[.int .i64 0, .int .i64 0] 23)).heap.size, 1, none⟩ = some (.int .i64 0) := X49.out.cell 1
      go_wp2_with fail
      exact endSr Try.results46 (by rfl) (by rfl) HR.out X45.out (by omega) B48.out
    · obtain ⟨T, hT, hrt⟩ := run_at hr HAS.out.2.2.1 HAS.out.2.2.2
      have HRE := Lib.hid (show rnE ms s t = 0 by rw [HAS.out.1, h1])
      have HOK := Lib.hid hrt
      have HR0 := Lib.hid (show whR ms s t = ⟨hmI (T * N) S D n d, ((fmN (T * N) S D : Nat) : Int), 0⟩ from wh_ok HRE.out hrt)
      obtain rfl : s = (S : Int) := hr.sec
      subst hT
      obtain ⟨lo, hlo⟩ : ∃ x, hmI (T * N) S D n d = x := ⟨_, rfl⟩
      obtain ⟨hi, hhi⟩ : ∃ x : Int, ((fmN (T * N) S D : Nat) : Int) = x := ⟨_, rfl⟩
      rw [hlo, hhi] at HR0
      have HR := HR0
      have HLO := Lib.hid (And.intro hlo hhi)
      clear h1 hr hrt hlo hhi
      have X58 := Lib.hid (X24.out.alloc (.cells #[.int .i64 (N : Int), .int .i64 (D : Int)] 23))
      have X59 := Lib.hid (X25.out.alloc (.cells #[.int .i64 (N : Int), .int .i64 (D : Int)] 23))
      have C60 := Lib.hid (C26.out.later ((Below.refl v22.heap.size v22).alloc (Nat.le_refl _) (.cells #[.int .i64 (N : Int), .int .i64 (D : Int)] 23)))
      have B61 := Lib.hid (B27.out.alloc B27.out.size (.cells #[.int .i64 (N : Int), .int .i64 (D : Int)] 23))
      have X62 := Lib.hid (Box.made v22 23 #[.int .i64 (N : Int), .int .i64 (D : Int)])
      have q63 : (v22.alloc (.cells #[.int .i64 (N : Int), .int .i64 (D : Int)] 23)).cell? ⟨w.heap.size, 0, none⟩ = some (.slice A l c) := X58.out.cell 0
      have q64 : (v22.alloc (.cells #[.int .i64 (N : Int), .int .i64 (D : Int)] 23)).cell? ⟨w.heap.size + 1, 0, none⟩ = some (.int .i64 0) := X59.out.cell 0
      have q65 : (v22.alloc (.cells #[.int .i64 (N : Int), .int .i64 (D : Int)] 23)).cell? ⟨w.heap.size + 1, 1, none⟩ = some (.int .i64 0) := X59.out.cell 1
      have fz66 : ∀ o, (v22.alloc (.cells #[.int .i64 (N : Int), .int .i64 (D : Int)] 23)).frozen? ⟨w.heap.size + 1, o, none⟩ = false := fun o => X59.out.free o
      have q67 : (v22.alloc (.cells #[.int .i64 (N : Int), .int .i64 (D : Int)] 23)).cell? ⟨v22.heap.size, 0, none⟩ = some (.int .i64 (N : Int)) := X62.out.cell 0
      have q68 : (v22.alloc (.cells #[.int .i64 (N : Int), .int .i64 (D : Int)] 23)).cell? ⟨v22.heap.size, 1, none⟩ = some (.int .i64 (D : Int)) := X62.out.cell 1
      have LT69 := Lib.hid X62.out.lt
      have X70 := Lib.hid (X58.out.alloc (.cells #[.int .i64 (n : Int), .int .i64 (d : Int)] 23))
      have X71 := Lib.hid (X59.out.alloc (.cells #[.int .i64 (n : Int), .int .i64 (d : Int)] 23))
      have X72 := Lib.hid (X62.out.alloc (.cells #[.int .i64 (n : Int), .int .i64 (d : Int)] 23))
      have C73 := Lib.hid (C60.out.later ((Below.refl (v22.alloc (.cells #[.int .i64 (N : Int), .int .i64 (D : Int)] 23)).heap.size (v22.alloc (.cells #[.int .i64 (N : Int), .int .i64 (D : Int)] 23))).alloc (Nat.le_refl _) (.cells #[.int .i64 (n : Int), .int .i64 (d : Int)] 23)))
      have B74 := Lib.hid (B61.out.alloc B61.out.size (.cells #[.int .i64 (n : Int), .int .i64 (d : Int)] 23))
      have X75 := Lib.hid (Box.made (v22.alloc (.cells #[.int .i64 (N : Int), .int .i64 (D : Int)] 23)) 23 #[.int .i64 (n : Int), .int .i64 (d : Int)])
      have q76 : ((v22.alloc (.cells #[.int .i64 (N : Int), .int .i64 (D : Int)] 23)).alloc (.cells #[.int .i64 (n : Int), .int .i64 (d : Int)] 23)).cell? ⟨w.heap.size, 0, none⟩ = some (.slice A l c) := X70.out.cell 0
      have q77 : ((v22.alloc (.cells #[.int .i64 (N : Int), .int .i64 (D : Int)] 23)).alloc (.cells #[.int .i64 (n : Int), .int .i64 (d : Int)] 23)).cell? ⟨w.heap.size + 1, 0, none⟩ = some (.int .i64 0) := X71.out.cell 0
      have q78 : ((v22.alloc (.cells #[.int .i64 (N : Int), .int .i64 (D : Int)] 23)).alloc (.cells #[.int .i64 (n : Int), .int .i64 (d : Int)] 23)).cell? ⟨w.heap.size + 1, 1, none⟩ = some (.int .i64 0) := X71.out.cell 1
      have fz79 : ∀ o, ((v22.alloc (.cells #[.int .i64 (N : Int), .int .i64 (D : Int)] 23)).alloc (.cells #[.int .i64 (n : Int), .int .i64 (d : Int)] 23)).frozen? ⟨w.heap.size + 1, o, none⟩ = false := fun o => X71.out.free o
      have q80 : ((v22.alloc (.cells #[.int .i64 (N : Int), .int .i64 (D : Int)] 23)).alloc (.cells #[.int .i64 (n : Int), .int .i64 (d : Int)] 23)).cell? ⟨v22.heap.size, 0, none⟩ = some (.int .i64 (N : Int)) := X72.out.cell 0
      have q81 : ((v22.alloc (.cells #[.int .i64 (N : Int), .int .i64 (D : Int)] 23)).alloc (.cells #[.int .i64 (n : Int), .int .i64 (d : Int)] 23)).cell? ⟨v22.heap.size, 1, none⟩ = some (.int .i64 (D : Int)) := X72.out.cell 1
      have q82 : ((v22.alloc (.cells #[.int .i64 (N : Int), .int .i64 (D : Int)] 23)).alloc (.cells #[.int .i64 (n : Int), .int .i64 (d : Int)] 23)).cell? ⟨(v22.alloc (.cells #[.int .i64 (N : Int), .int .i64 (D : Int)] 23)).heap.size, 0, none⟩ = some (.int .i64 (n : Int)) := X75.out.cell 0
      have q83 : ((v22.alloc (.cells #[.int .i64 (N : Int), .int .i64 (D : Int)] 23)).alloc (.cells #[.int .i64 (n : Int), .int .i64 (d : Int)] 23)).cell? ⟨(v22.alloc (.cells #[.int .i64 (N : Int), .int .i64 (D : Int)] 23)).heap.size, 1, none⟩ = some (.int .i64 (d : Int)) := X75.out.cell 1
      go_wp2_with fail
      refine (span_c N D n d S T _ HOK.out.rt.1 HOK.out.T6 HOK.out.S96 HOK.out.rp.1 HOK.out.rt.2.1 HOK.out.rt.2.2.1 HOK.out.rp.2.1 HOK.out.rp.2.2.1).mono ?_; rintro e v84 ⟨rfl, hb85⟩
      have X86 := Lib.hid (X70.out.later hb85)
      have X87 := Lib.hid (X71.out.later hb85)
      have X88 := Lib.hid (X72.out.later hb85)
      have X89 := Lib.hid (X75.out.later hb85)
      have C90 := Lib.hid (C73.out.later hb85)
      have B91 := Lib.hid (B74.out.trans (hb85.mono B74.out.size))
      clear hb85
      rw [HLO.out.1, HLO.out.2]
      clear q76 q77 q78 fz79 q80 q81 q82 q83 q63 q64 q65 fz66 q67 q68 q28 q29 q30 fz31
      have q92 : v84.cell? ⟨w.heap.size, 0, none⟩ = some (.slice A l c) := X86.out.cell 0
      have q93 : v84.cell? ⟨w.heap.size + 1, 0, none⟩ = some (.int .i64 0) := X87.out.cell 0
      have q94 : v84.cell? ⟨w.heap.size + 1, 1, none⟩ = some (.int .i64 0) := X87.out.cell 1
      have fz95 : ∀ o, v84.frozen? ⟨w.heap.size + 1, o, none⟩ = false := fun o => X87.out.free o
      have q96 : v84.cell? ⟨v22.heap.size, 0, none⟩ = some (.int .i64 (N : Int)) := X88.out.cell 0
      have q97 : v84.cell? ⟨v22.heap.size, 1, none⟩ = some (.int .i64 (D : Int)) := X88.out.cell 1
      have q98 : v84.cell? ⟨(v22.alloc (.cells #[.int .i64 (N : Int), .int .i64 (D : Int)] 23)).heap.size, 0, none⟩ = some (.int .i64 (n : Int)) := X89.out.cell 0
      have q99 : v84.cell? ⟨(v22.alloc (.cells #[.int .i64 (N : Int), .int .i64 (D : Int)] 23)).heap.size, 1, none⟩ = some (.int .i64 (d : Int)) := X89.out.cell 1
      go_wp2_with fail
      exact endSr Try.results46 (by rfl) (by rfl) HR.out X87.out (by omega) B91.out

end Go.Proofs.Ytmmfmanjajefcaa

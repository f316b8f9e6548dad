/- Layer 3: what is wrong with a grain, and whether it is bitten, by the program. -/
import Derived.Test.YtikfiallhmhicaaGreatE1
import Derived.Test.YtikfiallhmhicaaGreatC29
import Derived.Test.YtikfiallhmhicaaGreatI0
set_option linter.all false
namespace Go.Proofs.YtikfiallhmhicaaGreat
open Go.RowKit


/-- what is wrong with a mill, a state and a size -/
def agE (m : Ml) (s : St3) (size : Int) : Int := if ckM m = 0 then (if hasB m.pr s then (if inB size 1 4095 then 0 else 1) else 21) else ckM m
/-- the same of a grain -/
def grE (m : Ml) (s : St3) (size cuts : Int) : Int := if agE m s size = 0 then (if inB cuts 0 70000 then 0 else 1) else agE m s size
theorem agE_zero {m : Ml} {s : St3} {size : Int} (h : agE m s size = 0) : ckM m = 0 ∧ hasB m.pr s = true ∧ inB size 1 4095 = true := by
  unfold agE at h
  split at h
  · split at h
    · split at h
      · exact ⟨by assumption, by assumption, by assumption⟩
      · omega
    · omega
  · contradiction
theorem grE_zero {m : Ml} {s : St3} {size cuts : Int} (h : grE m s size cuts = 0) : agE m s size = 0 ∧ inB cuts 0 70000 = true := by
  unfold grE at h
  split at h
  · split at h
    · exact ⟨by assumption, by assumption⟩
    · omega
  · contradiction
theorem asE_of {m : Ml} {s : St3} (h : ckM m = 0) : asE m.pr s = if hasB m.pr s then 0 else 21 := asE_ok (ckM_zero h).1
theorem grainEnd2 {fn : Func} {t u : Nat} {w wr : World} {g : Nat} {a b c d f : Int} {x v : Value} {tmps : Array Value} (hfn : fn.results = #[.cell t 48, .tmp u]) (ht : tmps[t]? = some (.pointer (some ⟨g, 0, none⟩))) (hu : tmps[u]? = some x)
    (hb : Box wr g 48 #[.int .i64 a, .int .i64 b, .int .i64 c, .int .i64 d, .int .i64 f]) (hbel : Below w.heap.size w wr) (hv : v = .tuple #[.agg #[.int .i64 a, .int .i64 b, .int .i64 c, .int .i64 d, .int .i64 f], x]) :
    bodyPost Tryz.prog fn (fun e w' => e = .returned v ∧ Below w.heap.size w w') Exit.ret { tmps, defers := [] } wr := by
  subst hv
  have q0 : wr.cell? ⟨g, 0, none⟩ = some (.int .i64 a) := hb.cell 0
  have q1 : wr.cell? ⟨g, 1, none⟩ = some (.int .i64 b) := hb.cell 1
  have q2 : wr.cell? ⟨g, 2, none⟩ = some (.int .i64 c) := hb.cell 2
  have q3 : wr.cell? ⟨g, 3, none⟩ = some (.int .i64 d) := hb.cell 3
  have q4 : wr.cell? ⟨g, 4, none⟩ = some (.int .i64 f) := hb.cell 4
  exact bodyPost_ret (v := .tuple #[.agg #[.int .i64 a, .int .i64 b, .int .i64 c, .int .i64 d, .int .i64 f], x]) (by simp [results, hfn, go_sem, ht, hu, q0, q1, q2, q3, q4]) rfl ⟨rfl, hbel⟩
theorem grainEnd3 {fn : Func} {t u q : Nat} {w wr : World} {g : Nat} {a b c d f : Int} {x y v : Value} {tmps : Array Value} (hfn : fn.results = #[.cell t 48, .tmp u, .tmp q]) (ht : tmps[t]? = some (.pointer (some ⟨g, 0, none⟩))) (hu : tmps[u]? = some x) (hq : tmps[q]? = some y)
    (hb : Box wr g 48 #[.int .i64 a, .int .i64 b, .int .i64 c, .int .i64 d, .int .i64 f]) (hbel : Below w.heap.size w wr) (hv : v = .tuple #[.agg #[.int .i64 a, .int .i64 b, .int .i64 c, .int .i64 d, .int .i64 f], x, y]) :
    bodyPost Tryz.prog fn (fun e w' => e = .returned v ∧ Below w.heap.size w w') Exit.ret { tmps, defers := [] } wr := by
  subst hv
  have q0 : wr.cell? ⟨g, 0, none⟩ = some (.int .i64 a) := hb.cell 0
  have q1 : wr.cell? ⟨g, 1, none⟩ = some (.int .i64 b) := hb.cell 1
  have q2 : wr.cell? ⟨g, 2, none⟩ = some (.int .i64 c) := hb.cell 2
  have q3 : wr.cell? ⟨g, 3, none⟩ = some (.int .i64 d) := hb.cell 3
  have q4 : wr.cell? ⟨g, 4, none⟩ = some (.int .i64 f) := hb.cell 4
  exact bodyPost_ret (v := .tuple #[.agg #[.int .i64 a, .int .i64 b, .int .i64 c, .int .i64 d, .int .i64 f], x, y]) (by simp [results, hfn, go_sem, ht, hu, hq, q0, q1, q2, q3, q4]) rfl ⟨rfl, hbel⟩
set_option maxRecDepth 100000 in
set_option maxHeartbeats 8000000 in
theorem chartOf_g (m : Ml) (v : Value) (w : World) (hm : IsMill w w.heap.size v m) : Calls Tryz.prog 46 #[v] w fun e w' => (∃ g, e = .returned (.pointer (some ⟨g, 0, none⟩)) ∧ w.heap.size ≤ g ∧ IsGC w' g m) ∧ Below w.heap.size w w' := by
  obtain ⟨s, r, d, gv, hmv, i1, i2, i3, i4⟩ := _root_.id hm
  subst hmv
  have HM0 := Lib.hid hm
  have HP0 := Lib.hid (show IsPair w w.heap.size (pairV m.pr s r d) m.pr from ⟨s, r, d, rfl, i1, i2, i3⟩)
  obtain ⟨-, GA, gc, rfl, -, -⟩ := i4
  obtain ⟨gn, hgn⟩ : ∃ k, m.gap.length = k := ⟨_, rfl⟩
  rw [hgn] at HM0 ⊢
  clear hgn
  clear hm i1 i2 i3
  unfold millV pairV at *
  clear HP0
  go_enter Tryz.func46, Tryz.ntmps46
  go_wp2_with fail
  obtain ⟨W1, hW2⟩ : ∃ Wzz, (w.alloc (.cells #[.int .i64 m.pr.bed.eye, .int .i64 m.pr.bed.rings, .int .i64 m.pr.bed.sectors, s, .int .i64 m.pr.run.eye, .int .i64 m.pr.run.rings, .int .i64 m.pr.run.sectors, r, d, .slice GA gn gc] 33)) = Wzz := ⟨_, rfl⟩
  have B3 := Lib.hid (show Below w.heap.size w W1 by rw [← hW2]; exact ((Below.refl w.heap.size w).alloc (Nat.le_refl _) _))
  have X4 := Lib.hid (show Box W1 (w.heap.size) 33 #[.int .i64 m.pr.bed.eye, .int .i64 m.pr.bed.rings, .int .i64 m.pr.bed.sectors, s, .int .i64 m.pr.run.eye, .int .i64 m.pr.run.rings, .int .i64 m.pr.run.sectors, r, d, .slice GA gn gc] by rw [← hW2]; exact Box.made w 33 #[.int .i64 m.pr.bed.eye, .int .i64 m.pr.bed.rings, .int .i64 m.pr.bed.sectors, s, .int .i64 m.pr.run.eye, .int .i64 m.pr.run.rings, .int .i64 m.pr.run.sectors, r, d, .slice GA gn gc])
  have C5 := Lib.hid (HM0.out.later B3.out)
  have SZ6 := Lib.hid (show W1.heap.size = w.heap.size + 1 by rw [← hW2]; simp)
  rw [hW2]
  clear hW2
  have q7 : W1.cell? ⟨w.heap.size, 0, none⟩ = some (.int .i64 m.pr.bed.eye) := X4.out.cell 0
  have q8 : W1.cell? ⟨w.heap.size, 1, none⟩ = some (.int .i64 m.pr.bed.rings) := X4.out.cell 1
  have q9 : W1.cell? ⟨w.heap.size, 2, none⟩ = some (.int .i64 m.pr.bed.sectors) := X4.out.cell 2
  have q10 : W1.cell? ⟨w.heap.size, 3, none⟩ = some (s) := X4.out.cell 3
  have q11 : W1.cell? ⟨w.heap.size, 4, none⟩ = some (.int .i64 m.pr.run.eye) := X4.out.cell 4
  have q12 : W1.cell? ⟨w.heap.size, 5, none⟩ = some (.int .i64 m.pr.run.rings) := X4.out.cell 5
  have q13 : W1.cell? ⟨w.heap.size, 6, none⟩ = some (.int .i64 m.pr.run.sectors) := X4.out.cell 6
  have q14 : W1.cell? ⟨w.heap.size, 7, none⟩ = some (r) := X4.out.cell 7
  have q15 : W1.cell? ⟨w.heap.size, 8, none⟩ = some (d) := X4.out.cell 8
  have q16 : W1.cell? ⟨w.heap.size, 9, none⟩ = some (.slice GA gn gc) := X4.out.cell 9
  have X17 := Lib.hid (X4.out.alloc (.cells #[.int .i64 m.pr.bed.eye, .int .i64 m.pr.bed.rings, .int .i64 m.pr.bed.sectors, s, .int .i64 m.pr.run.eye, .int .i64 m.pr.run.rings, .int .i64 m.pr.run.sectors, r, d, .slice GA gn gc] 126))
  have C18 := Lib.hid (C5.out.later ((Below.refl W1.heap.size W1).alloc (Nat.le_refl _) (.cells #[.int .i64 m.pr.bed.eye, .int .i64 m.pr.bed.rings, .int .i64 m.pr.bed.sectors, s, .int .i64 m.pr.run.eye, .int .i64 m.pr.run.rings, .int .i64 m.pr.run.sectors, r, d, .slice GA gn gc] 126)))
  have B19 := Lib.hid (B3.out.alloc B3.out.size (.cells #[.int .i64 m.pr.bed.eye, .int .i64 m.pr.bed.rings, .int .i64 m.pr.bed.sectors, s, .int .i64 m.pr.run.eye, .int .i64 m.pr.run.rings, .int .i64 m.pr.run.sectors, r, d, .slice GA gn gc] 126))
  have X20 := Lib.hid (Box.made W1 126 #[.int .i64 m.pr.bed.eye, .int .i64 m.pr.bed.rings, .int .i64 m.pr.bed.sectors, s, .int .i64 m.pr.run.eye, .int .i64 m.pr.run.rings, .int .i64 m.pr.run.sectors, r, d, .slice GA gn gc])
  have q21 : (W1.alloc (.cells #[.int .i64 m.pr.bed.eye, .int .i64 m.pr.bed.rings, .int .i64 m.pr.bed.sectors, s, .int .i64 m.pr.run.eye, .int .i64 m.pr.run.rings, .int .i64 m.pr.run.sectors, r, d, .slice GA gn gc] 126)).cell? ⟨w.heap.size, 0, none⟩ = some (.int .i64 m.pr.bed.eye) := X17.out.cell 0
  have q22 : (W1.alloc (.cells #[.int .i64 m.pr.bed.eye, .int .i64 m.pr.bed.rings, .int .i64 m.pr.bed.sectors, s, .int .i64 m.pr.run.eye, .int .i64 m.pr.run.rings, .int .i64 m.pr.run.sectors, r, d, .slice GA gn gc] 126)).cell? ⟨w.heap.size, 1, none⟩ = some (.int .i64 m.pr.bed.rings) := X17.out.cell 1
  have q23 : (W1.alloc (.cells #[.int .i64 m.pr.bed.eye, .int .i64 m.pr.bed.rings, .int .i64 m.pr.bed.sectors, s, .int .i64 m.pr.run.eye, .int .i64 m.pr.run.rings, .int .i64 m.pr.run.sectors, r, d, .slice GA gn gc] 126)).cell? ⟨w.heap.size, 2, none⟩ = some (.int .i64 m.pr.bed.sectors) := X17.out.cell 2
  have q24 : (W1.alloc (.cells #[.int .i64 m.pr.bed.eye, .int .i64 m.pr.bed.rings, .int .i64 m.pr.bed.sectors, s, .int .i64 m.pr.run.eye, .int .i64 m.pr.run.rings, .int .i64 m.pr.run.sectors, r, d, .slice GA gn gc] 126)).cell? ⟨w.heap.size, 3, none⟩ = some (s) := X17.out.cell 3
  have q25 : (W1.alloc (.cells #[.int .i64 m.pr.bed.eye, .int .i64 m.pr.bed.rings, .int .i64 m.pr.bed.sectors, s, .int .i64 m.pr.run.eye, .int .i64 m.pr.run.rings, .int .i64 m.pr.run.sectors, r, d, .slice GA gn gc] 126)).cell? ⟨w.heap.size, 4, none⟩ = some (.int .i64 m.pr.run.eye) := X17.out.cell 4
  have q26 : (W1.alloc (.cells #[.int .i64 m.pr.bed.eye, .int .i64 m.pr.bed.rings, .int .i64 m.pr.bed.sectors, s, .int .i64 m.pr.run.eye, .int .i64 m.pr.run.rings, .int .i64 m.pr.run.sectors, r, d, .slice GA gn gc] 126)).cell? ⟨w.heap.size, 5, none⟩ = some (.int .i64 m.pr.run.rings) := X17.out.cell 5
  have q27 : (W1.alloc (.cells #[.int .i64 m.pr.bed.eye, .int .i64 m.pr.bed.rings, .int .i64 m.pr.bed.sectors, s, .int .i64 m.pr.run.eye, .int .i64 m.pr.run.rings, .int .i64 m.pr.run.sectors, r, d, .slice GA gn gc] 126)).cell? ⟨w.heap.size, 6, none⟩ = some (.int .i64 m.pr.run.sectors) := X17.out.cell 6
  have q28 : (W1.alloc (.cells #[.int .i64 m.pr.bed.eye, .int .i64 m.pr.bed.rings, .int .i64 m.pr.bed.sectors, s, .int .i64 m.pr.run.eye, .int .i64 m.pr.run.rings, .int .i64 m.pr.run.sectors, r, d, .slice GA gn gc] 126)).cell? ⟨w.heap.size, 7, none⟩ = some (r) := X17.out.cell 7
  have q29 : (W1.alloc (.cells #[.int .i64 m.pr.bed.eye, .int .i64 m.pr.bed.rings, .int .i64 m.pr.bed.sectors, s, .int .i64 m.pr.run.eye, .int .i64 m.pr.run.rings, .int .i64 m.pr.run.sectors, r, d, .slice GA gn gc] 126)).cell? ⟨w.heap.size, 8, none⟩ = some (d) := X17.out.cell 8
  have q30 : (W1.alloc (.cells #[.int .i64 m.pr.bed.eye, .int .i64 m.pr.bed.rings, .int .i64 m.pr.bed.sectors, s, .int .i64 m.pr.run.eye, .int .i64 m.pr.run.rings, .int .i64 m.pr.run.sectors, r, d, .slice GA gn gc] 126)).cell? ⟨w.heap.size, 9, none⟩ = some (.slice GA gn gc) := X17.out.cell 9
  have q31 : (W1.alloc (.cells #[.int .i64 m.pr.bed.eye, .int .i64 m.pr.bed.rings, .int .i64 m.pr.bed.sectors, s, .int .i64 m.pr.run.eye, .int .i64 m.pr.run.rings, .int .i64 m.pr.run.sectors, r, d, .slice GA gn gc] 126)).cell? ⟨W1.heap.size, 0, none⟩ = some (.int .i64 m.pr.bed.eye) := X20.out.cell 0
  have q32 : (W1.alloc (.cells #[.int .i64 m.pr.bed.eye, .int .i64 m.pr.bed.rings, .int .i64 m.pr.bed.sectors, s, .int .i64 m.pr.run.eye, .int .i64 m.pr.run.rings, .int .i64 m.pr.run.sectors, r, d, .slice GA gn gc] 126)).cell? ⟨W1.heap.size, 1, none⟩ = some (.int .i64 m.pr.bed.rings) := X20.out.cell 1
  have q33 : (W1.alloc (.cells #[.int .i64 m.pr.bed.eye, .int .i64 m.pr.bed.rings, .int .i64 m.pr.bed.sectors, s, .int .i64 m.pr.run.eye, .int .i64 m.pr.run.rings, .int .i64 m.pr.run.sectors, r, d, .slice GA gn gc] 126)).cell? ⟨W1.heap.size, 2, none⟩ = some (.int .i64 m.pr.bed.sectors) := X20.out.cell 2
  have q34 : (W1.alloc (.cells #[.int .i64 m.pr.bed.eye, .int .i64 m.pr.bed.rings, .int .i64 m.pr.bed.sectors, s, .int .i64 m.pr.run.eye, .int .i64 m.pr.run.rings, .int .i64 m.pr.run.sectors, r, d, .slice GA gn gc] 126)).cell? ⟨W1.heap.size, 3, none⟩ = some (s) := X20.out.cell 3
  have q35 : (W1.alloc (.cells #[.int .i64 m.pr.bed.eye, .int .i64 m.pr.bed.rings, .int .i64 m.pr.bed.sectors, s, .int .i64 m.pr.run.eye, .int .i64 m.pr.run.rings, .int .i64 m.pr.run.sectors, r, d, .slice GA gn gc] 126)).cell? ⟨W1.heap.size, 4, none⟩ = some (.int .i64 m.pr.run.eye) := X20.out.cell 4
  have q36 : (W1.alloc (.cells #[.int .i64 m.pr.bed.eye, .int .i64 m.pr.bed.rings, .int .i64 m.pr.bed.sectors, s, .int .i64 m.pr.run.eye, .int .i64 m.pr.run.rings, .int .i64 m.pr.run.sectors, r, d, .slice GA gn gc] 126)).cell? ⟨W1.heap.size, 5, none⟩ = some (.int .i64 m.pr.run.rings) := X20.out.cell 5
  have q37 : (W1.alloc (.cells #[.int .i64 m.pr.bed.eye, .int .i64 m.pr.bed.rings, .int .i64 m.pr.bed.sectors, s, .int .i64 m.pr.run.eye, .int .i64 m.pr.run.rings, .int .i64 m.pr.run.sectors, r, d, .slice GA gn gc] 126)).cell? ⟨W1.heap.size, 6, none⟩ = some (.int .i64 m.pr.run.sectors) := X20.out.cell 6
  have q38 : (W1.alloc (.cells #[.int .i64 m.pr.bed.eye, .int .i64 m.pr.bed.rings, .int .i64 m.pr.bed.sectors, s, .int .i64 m.pr.run.eye, .int .i64 m.pr.run.rings, .int .i64 m.pr.run.sectors, r, d, .slice GA gn gc] 126)).cell? ⟨W1.heap.size, 7, none⟩ = some (r) := X20.out.cell 7
  have q39 : (W1.alloc (.cells #[.int .i64 m.pr.bed.eye, .int .i64 m.pr.bed.rings, .int .i64 m.pr.bed.sectors, s, .int .i64 m.pr.run.eye, .int .i64 m.pr.run.rings, .int .i64 m.pr.run.sectors, r, d, .slice GA gn gc] 126)).cell? ⟨W1.heap.size, 8, none⟩ = some (d) := X20.out.cell 8
  have q40 : (W1.alloc (.cells #[.int .i64 m.pr.bed.eye, .int .i64 m.pr.bed.rings, .int .i64 m.pr.bed.sectors, s, .int .i64 m.pr.run.eye, .int .i64 m.pr.run.rings, .int .i64 m.pr.run.sectors, r, d, .slice GA gn gc] 126)).cell? ⟨W1.heap.size, 9, none⟩ = some (.slice GA gn gc) := X20.out.cell 9
  have HMM := C18.out
  obtain ⟨s', r', d', g', hv', j1, j2, j3, j4⟩ := HMM
  unfold millV at hv'
  cases hv'
  go_wp2_with fail
  go_ret
  exact ⟨⟨_, rfl, by first | (simp; done) | (simp; omega), s, r, d, .slice GA gn gc, (by have hx := X20.out; rw [SZ6.out] at hx; exact hx), j1, j2, j3, j4⟩, B19.out⟩

set_option maxRecDepth 100000 in
set_option maxHeartbeats 8000000 in
theorem checkAt_c (m : Ml) (a b t size : Int) (v : Value) (w : World) (hm : IsMill w w.heap.size v m)  : Calls Tryz.prog 71 #[v, .agg #[.int .i64 a, .int .i64 b, .int .i64 t], .int .i64 size] w fun e w' => e = .returned (.int .i64 (agE m ⟨a, b, t⟩ size)) ∧ Below w.heap.size w w' := by
  obtain ⟨s, r, d, gv, hmv, i1, i2, i3, i4⟩ := _root_.id hm
  subst hmv
  have HM0 := Lib.hid hm
  have HP0 := Lib.hid (show IsPair w w.heap.size (pairV m.pr s r d) m.pr from ⟨s, r, d, rfl, i1, i2, i3⟩)
  clear hm i1 i2 i3 i4
  unfold millV pairV at *
  go_enter Tryz.func71, Tryz.ntmps71
  go_wp2_with fail
  obtain ⟨W41, hW42⟩ : ∃ Wzz, ((w.alloc (.cells #[.int .i64 m.pr.bed.eye, .int .i64 m.pr.bed.rings, .int .i64 m.pr.bed.sectors, s, .int .i64 m.pr.run.eye, .int .i64 m.pr.run.rings, .int .i64 m.pr.run.sectors, r, d, gv] 33)).alloc (.cells #[.int .i64 a, .int .i64 b, .int .i64 t] 46)) = Wzz := ⟨_, rfl⟩
  have B43 := Lib.hid (show Below w.heap.size w W41 by rw [← hW42]; exact (((Below.refl w.heap.size w).alloc (Nat.le_refl _) _).alloc (by first | (simp; done) | (simp; omega)) _))
  have X44 := Lib.hid (show Box W41 (w.heap.size) 33 #[.int .i64 m.pr.bed.eye, .int .i64 m.pr.bed.rings, .int .i64 m.pr.bed.sectors, s, .int .i64 m.pr.run.eye, .int .i64 m.pr.run.rings, .int .i64 m.pr.run.sectors, r, d, gv] by rw [← hW42]; exact Box.alloc (Box.made w 33 #[.int .i64 m.pr.bed.eye, .int .i64 m.pr.bed.rings, .int .i64 m.pr.bed.sectors, s, .int .i64 m.pr.run.eye, .int .i64 m.pr.run.rings, .int .i64 m.pr.run.sectors, r, d, gv]) (.cells #[.int .i64 a, .int .i64 b, .int .i64 t] 46))
  have X45 := Lib.hid (show Box W41 (w.heap.size + 1) 46 #[.int .i64 a, .int .i64 b, .int .i64 t] by
    have hz := Box.made (w.alloc (.cells #[.int .i64 m.pr.bed.eye, .int .i64 m.pr.bed.rings, .int .i64 m.pr.bed.sectors, s, .int .i64 m.pr.run.eye, .int .i64 m.pr.run.rings, .int .i64 m.pr.run.sectors, r, d, gv] 33)) 46 #[.int .i64 a, .int .i64 b, .int .i64 t]
    rw [World.size_alloc] at hz
    rw [← hW42]; exact hz)
  have C46 := Lib.hid (HM0.out.later B43.out)
  have C47 := Lib.hid (HP0.out.later B43.out)
  have SZ48 := Lib.hid (show W41.heap.size = w.heap.size + 1 + 1 by rw [← hW42]; simp)
  rw [hW42]
  clear hW42
  have q49 : W41.cell? ⟨w.heap.size, 0, none⟩ = some (.int .i64 m.pr.bed.eye) := X44.out.cell 0
  have q50 : W41.cell? ⟨w.heap.size, 1, none⟩ = some (.int .i64 m.pr.bed.rings) := X44.out.cell 1
  have q51 : W41.cell? ⟨w.heap.size, 2, none⟩ = some (.int .i64 m.pr.bed.sectors) := X44.out.cell 2
  have q52 : W41.cell? ⟨w.heap.size, 3, none⟩ = some (s) := X44.out.cell 3
  have q53 : W41.cell? ⟨w.heap.size, 4, none⟩ = some (.int .i64 m.pr.run.eye) := X44.out.cell 4
  have q54 : W41.cell? ⟨w.heap.size, 5, none⟩ = some (.int .i64 m.pr.run.rings) := X44.out.cell 5
  have q55 : W41.cell? ⟨w.heap.size, 6, none⟩ = some (.int .i64 m.pr.run.sectors) := X44.out.cell 6
  have q56 : W41.cell? ⟨w.heap.size, 7, none⟩ = some (r) := X44.out.cell 7
  have q57 : W41.cell? ⟨w.heap.size, 8, none⟩ = some (d) := X44.out.cell 8
  have q58 : W41.cell? ⟨w.heap.size, 9, none⟩ = some (gv) := X44.out.cell 9
  have q59 : W41.cell? ⟨w.heap.size + 1, 0, none⟩ = some (.int .i64 a) := X45.out.cell 0
  have q60 : W41.cell? ⟨w.heap.size + 1, 1, none⟩ = some (.int .i64 b) := X45.out.cell 1
  have q61 : W41.cell? ⟨w.heap.size + 1, 2, none⟩ = some (.int .i64 t) := X45.out.cell 2
  go_wp2_with fail
  refine (CheckMill_c m _ _ C46.out).mono ?_; rintro e v62 ⟨rfl, hb63⟩
  have X64 := Lib.hid (X44.out.later hb63)
  have X65 := Lib.hid (X45.out.later hb63)
  have C66 := Lib.hid (C46.out.later hb63)
  have C67 := Lib.hid (C47.out.later hb63)
  have B68 := Lib.hid (B43.out.trans (hb63.mono B43.out.size))
  clear hb63
  clear q49 q50 q51 q52 q53 q54 q55 q56 q57 q58 q59 q60 q61
  have q69 : v62.cell? ⟨w.heap.size, 0, none⟩ = some (.int .i64 m.pr.bed.eye) := X64.out.cell 0
  have q70 : v62.cell? ⟨w.heap.size, 1, none⟩ = some (.int .i64 m.pr.bed.rings) := X64.out.cell 1
  have q71 : v62.cell? ⟨w.heap.size, 2, none⟩ = some (.int .i64 m.pr.bed.sectors) := X64.out.cell 2
  have q72 : v62.cell? ⟨w.heap.size, 3, none⟩ = some (s) := X64.out.cell 3
  have q73 : v62.cell? ⟨w.heap.size, 4, none⟩ = some (.int .i64 m.pr.run.eye) := X64.out.cell 4
  have q74 : v62.cell? ⟨w.heap.size, 5, none⟩ = some (.int .i64 m.pr.run.rings) := X64.out.cell 5
  have q75 : v62.cell? ⟨w.heap.size, 6, none⟩ = some (.int .i64 m.pr.run.sectors) := X64.out.cell 6
  have q76 : v62.cell? ⟨w.heap.size, 7, none⟩ = some (r) := X64.out.cell 7
  have q77 : v62.cell? ⟨w.heap.size, 8, none⟩ = some (d) := X64.out.cell 8
  have q78 : v62.cell? ⟨w.heap.size, 9, none⟩ = some (gv) := X64.out.cell 9
  have q79 : v62.cell? ⟨w.heap.size + 1, 0, none⟩ = some (.int .i64 a) := X65.out.cell 0
  have q80 : v62.cell? ⟨w.heap.size + 1, 1, none⟩ = some (.int .i64 b) := X65.out.cell 1
  have q81 : v62.cell? ⟨w.heap.size + 1, 2, none⟩ = some (.int .i64 t) := X65.out.cell 2
  by_cases hz : ckM m = 0; rotate_left
  · have HR := Lib.hid (show agE m ⟨a, b, t⟩ size = ckM m by unfold agE; rw [if_neg hz])
    have n1 : (ckM m != 0) = true := by simpa using hz
    have n2 : decide (ckM m = 0) = false := by simpa using hz
    clear hz
    go_wp2_with fail
    go_ret
    exact ⟨ret_int HR.out.symm, B68.out⟩
  · have HZ := Lib.hid hz
    rw [hz]
    clear hz
    cases hb : hasB m.pr ⟨a, b, t⟩
    · have HB9 := Lib.hid (show asE m.pr ⟨a, b, t⟩ = 21 by rw [asE_of HZ.out, hb]; rfl)
      have HR := Lib.hid (show agE m ⟨a, b, t⟩ size = 21 by unfold agE; rw [if_pos HZ.out, hb]; rfl)
      clear hb
      go_wp2_with fail
      refine (Number_bad m.pr a b t _ _ C67.out (by rw [HB9.out]; decide)).mono ?_; rintro e v82 ⟨rfl, hb83⟩
      have X84 := Lib.hid (X64.out.later hb83)
      have X85 := Lib.hid (X65.out.later hb83)
      have C86 := Lib.hid (C66.out.later hb83)
      have C87 := Lib.hid (C67.out.later hb83)
      have B88 := Lib.hid (B68.out.trans (hb83.mono B68.out.size))
      clear hb83
      rw [HB9.out]
      clear q69 q70 q71 q72 q73 q74 q75 q76 q77 q78 q79 q80 q81
      have q89 : v82.cell? ⟨w.heap.size, 0, none⟩ = some (.int .i64 m.pr.bed.eye) := X84.out.cell 0
      have q90 : v82.cell? ⟨w.heap.size, 1, none⟩ = some (.int .i64 m.pr.bed.rings) := X84.out.cell 1
      have q91 : v82.cell? ⟨w.heap.size, 2, none⟩ = some (.int .i64 m.pr.bed.sectors) := X84.out.cell 2
      have q92 : v82.cell? ⟨w.heap.size, 3, none⟩ = some (s) := X84.out.cell 3
      have q93 : v82.cell? ⟨w.heap.size, 4, none⟩ = some (.int .i64 m.pr.run.eye) := X84.out.cell 4
      have q94 : v82.cell? ⟨w.heap.size, 5, none⟩ = some (.int .i64 m.pr.run.rings) := X84.out.cell 5
      have q95 : v82.cell? ⟨w.heap.size, 6, none⟩ = some (.int .i64 m.pr.run.sectors) := X84.out.cell 6
      have q96 : v82.cell? ⟨w.heap.size, 7, none⟩ = some (r) := X84.out.cell 7
      have q97 : v82.cell? ⟨w.heap.size, 8, none⟩ = some (d) := X84.out.cell 8
      have q98 : v82.cell? ⟨w.heap.size, 9, none⟩ = some (gv) := X84.out.cell 9
      have q99 : v82.cell? ⟨w.heap.size + 1, 0, none⟩ = some (.int .i64 a) := X85.out.cell 0
      have q100 : v82.cell? ⟨w.heap.size + 1, 1, none⟩ = some (.int .i64 b) := X85.out.cell 1
      have q101 : v82.cell? ⟨w.heap.size + 1, 2, none⟩ = some (.int .i64 t) := X85.out.cell 2
      go_wp2_with fail
      go_ret
      exact ⟨ret_int HR.out.symm, B88.out⟩
    · have HB9 := Lib.hid (show asE m.pr ⟨a, b, t⟩ = 0 by rw [asE_of HZ.out, hb]; rfl)
      have HR9 := Lib.hid (show agE m ⟨a, b, t⟩ size = if inB size 1 4095 then 0 else 1 by unfold agE; rw [if_pos HZ.out, hb]; rfl)
      clear hb
      go_wp2_with fail
      refine (Number_ok m.pr a b t _ _ C67.out HB9.out).mono ?_; rintro e v102 ⟨rfl, hb103⟩
      have X104 := Lib.hid (X64.out.later hb103)
      have X105 := Lib.hid (X65.out.later hb103)
      have C106 := Lib.hid (C66.out.later hb103)
      have C107 := Lib.hid (C67.out.later hb103)
      have B108 := Lib.hid (B68.out.trans (hb103.mono B68.out.size))
      clear hb103
      clear q69 q70 q71 q72 q73 q74 q75 q76 q77 q78 q79 q80 q81
      have q109 : v102.cell? ⟨w.heap.size, 0, none⟩ = some (.int .i64 m.pr.bed.eye) := X104.out.cell 0
      have q110 : v102.cell? ⟨w.heap.size, 1, none⟩ = some (.int .i64 m.pr.bed.rings) := X104.out.cell 1
      have q111 : v102.cell? ⟨w.heap.size, 2, none⟩ = some (.int .i64 m.pr.bed.sectors) := X104.out.cell 2
      have q112 : v102.cell? ⟨w.heap.size, 3, none⟩ = some (s) := X104.out.cell 3
      have q113 : v102.cell? ⟨w.heap.size, 4, none⟩ = some (.int .i64 m.pr.run.eye) := X104.out.cell 4
      have q114 : v102.cell? ⟨w.heap.size, 5, none⟩ = some (.int .i64 m.pr.run.rings) := X104.out.cell 5
      have q115 : v102.cell? ⟨w.heap.size, 6, none⟩ = some (.int .i64 m.pr.run.sectors) := X104.out.cell 6
      have q116 : v102.cell? ⟨w.heap.size, 7, none⟩ = some (r) := X104.out.cell 7
      have q117 : v102.cell? ⟨w.heap.size, 8, none⟩ = some (d) := X104.out.cell 8
      have q118 : v102.cell? ⟨w.heap.size, 9, none⟩ = some (gv) := X104.out.cell 9
      have q119 : v102.cell? ⟨w.heap.size + 1, 0, none⟩ = some (.int .i64 a) := X105.out.cell 0
      have q120 : v102.cell? ⟨w.heap.size + 1, 1, none⟩ = some (.int .i64 b) := X105.out.cell 1
      have q121 : v102.cell? ⟨w.heap.size + 1, 2, none⟩ = some (.int .i64 t) := X105.out.cell 2
      go_wp2_with fail
      refine (isSize_c size _).mono ?_; rintro e v122 ⟨rfl, hb123⟩
      have X124 := Lib.hid (X104.out.later hb123)
      have X125 := Lib.hid (X105.out.later hb123)
      have C126 := Lib.hid (C106.out.later hb123)
      have C127 := Lib.hid (C107.out.later hb123)
      have B128 := Lib.hid (B108.out.trans (hb123.mono B108.out.size))
      clear hb123
      clear q109 q110 q111 q112 q113 q114 q115 q116 q117 q118 q119 q120 q121
      have q129 : v122.cell? ⟨w.heap.size, 0, none⟩ = some (.int .i64 m.pr.bed.eye) := X124.out.cell 0
      have q130 : v122.cell? ⟨w.heap.size, 1, none⟩ = some (.int .i64 m.pr.bed.rings) := X124.out.cell 1
      have q131 : v122.cell? ⟨w.heap.size, 2, none⟩ = some (.int .i64 m.pr.bed.sectors) := X124.out.cell 2
      have q132 : v122.cell? ⟨w.heap.size, 3, none⟩ = some (s) := X124.out.cell 3
      have q133 : v122.cell? ⟨w.heap.size, 4, none⟩ = some (.int .i64 m.pr.run.eye) := X124.out.cell 4
      have q134 : v122.cell? ⟨w.heap.size, 5, none⟩ = some (.int .i64 m.pr.run.rings) := X124.out.cell 5
      have q135 : v122.cell? ⟨w.heap.size, 6, none⟩ = some (.int .i64 m.pr.run.sectors) := X124.out.cell 6
      have q136 : v122.cell? ⟨w.heap.size, 7, none⟩ = some (r) := X124.out.cell 7
      have q137 : v122.cell? ⟨w.heap.size, 8, none⟩ = some (d) := X124.out.cell 8
      have q138 : v122.cell? ⟨w.heap.size, 9, none⟩ = some (gv) := X124.out.cell 9
      have q139 : v122.cell? ⟨w.heap.size + 1, 0, none⟩ = some (.int .i64 a) := X125.out.cell 0
      have q140 : v122.cell? ⟨w.heap.size + 1, 1, none⟩ = some (.int .i64 b) := X125.out.cell 1
      have q141 : v122.cell? ⟨w.heap.size + 1, 2, none⟩ = some (.int .i64 t) := X125.out.cell 2
      cases hq : inB size 1 4095
      · have HR := Lib.hid (show agE m ⟨a, b, t⟩ size = 1 by rw [HR9.out, hq]; rfl)
        clear hq
        go_wp2_with fail
        go_ret
        exact ⟨ret_int HR.out.symm, B128.out⟩
      · have HR := Lib.hid (show agE m ⟨a, b, t⟩ size = 0 by rw [HR9.out, hq]; rfl)
        clear hq
        go_wp2_with fail
        go_ret
        exact ⟨ret_int HR.out.symm, B128.out⟩

set_option maxRecDepth 100000 in
set_option maxHeartbeats 8000000 in
theorem checkGrain_c (m : Ml) (a b t size cuts : Int) (v : Value) (w : World) (hm : IsMill w w.heap.size v m)  : Calls Tryz.prog 45 #[v, .agg #[.int .i64 a, .int .i64 b, .int .i64 t, .int .i64 size, .int .i64 cuts]] w fun e w' => e = .returned (.int .i64 (grE m ⟨a, b, t⟩ size cuts)) ∧ Below w.heap.size w w' := by
  obtain ⟨s, r, d, gv, hmv, i1, i2, i3, i4⟩ := _root_.id hm
  subst hmv
  have HM0 := Lib.hid hm
  have HP0 := Lib.hid (show IsPair w w.heap.size (pairV m.pr s r d) m.pr from ⟨s, r, d, rfl, i1, i2, i3⟩)
  clear hm i1 i2 i3 i4
  unfold millV pairV at *
  go_enter Tryz.func45, Tryz.ntmps45
  go_wp2_with fail
  obtain ⟨W142, hW143⟩ : ∃ Wzz, ((w.alloc (.cells #[.int .i64 m.pr.bed.eye, .int .i64 m.pr.bed.rings, .int .i64 m.pr.bed.sectors, s, .int .i64 m.pr.run.eye, .int .i64 m.pr.run.rings, .int .i64 m.pr.run.sectors, r, d, gv] 33)).alloc (.cells #[.int .i64 a, .int .i64 b, .int .i64 t, .int .i64 size, .int .i64 cuts] 48)) = Wzz := ⟨_, rfl⟩
  have B144 := Lib.hid (show Below w.heap.size w W142 by rw [← hW143]; exact (((Below.refl w.heap.size w).alloc (Nat.le_refl _) _).alloc (by first | (simp; done) | (simp; omega)) _))
  have X145 := Lib.hid (show Box W142 (w.heap.size) 33 #[.int .i64 m.pr.bed.eye, .int .i64 m.pr.bed.rings, .int .i64 m.pr.bed.sectors, s, .int .i64 m.pr.run.eye, .int .i64 m.pr.run.rings, .int .i64 m.pr.run.sectors, r, d, gv] by rw [← hW143]; exact Box.alloc (Box.made w 33 #[.int .i64 m.pr.bed.eye, .int .i64 m.pr.bed.rings, .int .i64 m.pr.bed.sectors, s, .int .i64 m.pr.run.eye, .int .i64 m.pr.run.rings, .int .i64 m.pr.run.sectors, r, d, gv]) (.cells #[.int .i64 a, .int .i64 b, .int .i64 t, .int .i64 size, .int .i64 cuts] 48))
  have X146 := Lib.hid (show Box W142 (w.heap.size + 1) 48 #[.int .i64 a, .int .i64 b, .int .i64 t, .int .i64 size, .int .i64 cuts] by
    have hz := Box.made (w.alloc (.cells #[.int .i64 m.pr.bed.eye, .int .i64 m.pr.bed.rings, .int .i64 m.pr.bed.sectors, s, .int .i64 m.pr.run.eye, .int .i64 m.pr.run.rings, .int .i64 m.pr.run.sectors, r, d, gv] 33)) 48 #[.int .i64 a, .int .i64 b, .int .i64 t, .int .i64 size, .int .i64 cuts]
    rw [World.size_alloc] at hz
    rw [← hW143]; exact hz)
  have C147 := Lib.hid (HM0.out.later B144.out)
  have C148 := Lib.hid (HP0.out.later B144.out)
  have SZ149 := Lib.hid (show W142.heap.size = w.heap.size + 1 + 1 by rw [← hW143]; simp)
  rw [hW143]
  clear hW143
  have q150 : W142.cell? ⟨w.heap.size, 0, none⟩ = some (.int .i64 m.pr.bed.eye) := X145.out.cell 0
  have q151 : W142.cell? ⟨w.heap.size, 1, none⟩ = some (.int .i64 m.pr.bed.rings) := X145.out.cell 1
  have q152 : W142.cell? ⟨w.heap.size, 2, none⟩ = some (.int .i64 m.pr.bed.sectors) := X145.out.cell 2
  have q153 : W142.cell? ⟨w.heap.size, 3, none⟩ = some (s) := X145.out.cell 3
  have q154 : W142.cell? ⟨w.heap.size, 4, none⟩ = some (.int .i64 m.pr.run.eye) := X145.out.cell 4
  have q155 : W142.cell? ⟨w.heap.size, 5, none⟩ = some (.int .i64 m.pr.run.rings) := X145.out.cell 5
  have q156 : W142.cell? ⟨w.heap.size, 6, none⟩ = some (.int .i64 m.pr.run.sectors) := X145.out.cell 6
  have q157 : W142.cell? ⟨w.heap.size, 7, none⟩ = some (r) := X145.out.cell 7
  have q158 : W142.cell? ⟨w.heap.size, 8, none⟩ = some (d) := X145.out.cell 8
  have q159 : W142.cell? ⟨w.heap.size, 9, none⟩ = some (gv) := X145.out.cell 9
  have q160 : W142.cell? ⟨w.heap.size + 1, 0, none⟩ = some (.int .i64 a) := X146.out.cell 0
  have q161 : W142.cell? ⟨w.heap.size + 1, 1, none⟩ = some (.int .i64 b) := X146.out.cell 1
  have q162 : W142.cell? ⟨w.heap.size + 1, 2, none⟩ = some (.int .i64 t) := X146.out.cell 2
  have q163 : W142.cell? ⟨w.heap.size + 1, 3, none⟩ = some (.int .i64 size) := X146.out.cell 3
  have q164 : W142.cell? ⟨w.heap.size + 1, 4, none⟩ = some (.int .i64 cuts) := X146.out.cell 4
  go_wp2_with fail
  refine (checkAt_c m a b t size _ _ C147.out).mono ?_; rintro e v165 ⟨rfl, hb166⟩
  have X167 := Lib.hid (X145.out.later hb166)
  have X168 := Lib.hid (X146.out.later hb166)
  have C169 := Lib.hid (C147.out.later hb166)
  have C170 := Lib.hid (C148.out.later hb166)
  have B171 := Lib.hid (B144.out.trans (hb166.mono B144.out.size))
  clear hb166
  clear q150 q151 q152 q153 q154 q155 q156 q157 q158 q159 q160 q161 q162 q163 q164
  have q172 : v165.cell? ⟨w.heap.size, 0, none⟩ = some (.int .i64 m.pr.bed.eye) := X167.out.cell 0
  have q173 : v165.cell? ⟨w.heap.size, 1, none⟩ = some (.int .i64 m.pr.bed.rings) := X167.out.cell 1
  have q174 : v165.cell? ⟨w.heap.size, 2, none⟩ = some (.int .i64 m.pr.bed.sectors) := X167.out.cell 2
  have q175 : v165.cell? ⟨w.heap.size, 3, none⟩ = some (s) := X167.out.cell 3
  have q176 : v165.cell? ⟨w.heap.size, 4, none⟩ = some (.int .i64 m.pr.run.eye) := X167.out.cell 4
  have q177 : v165.cell? ⟨w.heap.size, 5, none⟩ = some (.int .i64 m.pr.run.rings) := X167.out.cell 5
  have q178 : v165.cell? ⟨w.heap.size, 6, none⟩ = some (.int .i64 m.pr.run.sectors) := X167.out.cell 6
  have q179 : v165.cell? ⟨w.heap.size, 7, none⟩ = some (r) := X167.out.cell 7
  have q180 : v165.cell? ⟨w.heap.size, 8, none⟩ = some (d) := X167.out.cell 8
  have q181 : v165.cell? ⟨w.heap.size, 9, none⟩ = some (gv) := X167.out.cell 9
  have q182 : v165.cell? ⟨w.heap.size + 1, 0, none⟩ = some (.int .i64 a) := X168.out.cell 0
  have q183 : v165.cell? ⟨w.heap.size + 1, 1, none⟩ = some (.int .i64 b) := X168.out.cell 1
  have q184 : v165.cell? ⟨w.heap.size + 1, 2, none⟩ = some (.int .i64 t) := X168.out.cell 2
  have q185 : v165.cell? ⟨w.heap.size + 1, 3, none⟩ = some (.int .i64 size) := X168.out.cell 3
  have q186 : v165.cell? ⟨w.heap.size + 1, 4, none⟩ = some (.int .i64 cuts) := X168.out.cell 4
  by_cases hz : agE m ⟨a, b, t⟩ size = 0; rotate_left
  · have HR := Lib.hid (show grE m ⟨a, b, t⟩ size cuts = agE m ⟨a, b, t⟩ size by unfold grE; rw [if_neg hz])
    have n1 : (agE m ⟨a, b, t⟩ size != 0) = true := by simpa using hz
    have n2 : decide (agE m ⟨a, b, t⟩ size = 0) = false := by simpa using hz
    clear hz
    go_wp2_with fail
    go_ret
    exact ⟨ret_int HR.out.symm, B171.out⟩
  · have HZ := Lib.hid hz
    rw [hz]
    clear hz
    by_cases c1 : cuts < 0
    · have HR := Lib.hid (show grE m ⟨a, b, t⟩ size cuts = 1 by unfold grE; rw [if_pos HZ.out, inB_not.2 (by omega)]; rfl)
      have d1 : decide (cuts < 0) = true := decide_eq_true c1
      clear c1
      go_wp2_with fail
      go_ret
      exact ⟨ret_int HR.out.symm, B171.out⟩
    · by_cases c2 : 70000 < cuts
      · have HR := Lib.hid (show grE m ⟨a, b, t⟩ size cuts = 1 by unfold grE; rw [if_pos HZ.out, inB_not.2 (by omega)]; rfl)
        have d1 : decide (cuts < 0) = false := decide_eq_false c1
        have d2 : decide (70000 < cuts) = true := decide_eq_true c2
        clear c1 c2
        go_wp2_with fail
        go_ret
        exact ⟨ret_int HR.out.symm, B171.out⟩
      · have HR := Lib.hid (show grE m ⟨a, b, t⟩ size cuts = 0 by unfold grE; rw [if_pos HZ.out, inB_iff.2 (by omega)]; rfl)
        have d1 : decide (cuts < 0) = false := decide_eq_false c1
        have d2 : decide (70000 < cuts) = false := decide_eq_false c2
        clear c1 c2
        go_wp2_with fail
        go_ret
        exact ⟨ret_int HR.out.symm, B171.out⟩

set_option maxRecDepth 100000 in
set_option maxHeartbeats 8000000 in
theorem Bites_bad (m : Ml) (a b t size cuts : Int) (v : Value) (w : World) (hm : IsMill w w.heap.size v m) (h0 : grE m ⟨a, b, t⟩ size cuts ≠ 0) : Calls Tryz.prog 16 #[v, .agg #[.int .i64 a, .int .i64 b, .int .i64 t, .int .i64 size, .int .i64 cuts]] w fun e w' => e = .returned (.tuple #[.bool false, .int .i64 (grE m ⟨a, b, t⟩ size cuts)]) ∧ Below w.heap.size w w' := by
  obtain ⟨s, r, d, gv, hmv, i1, i2, i3, i4⟩ := _root_.id hm
  subst hmv
  have HM0 := Lib.hid hm
  have HP0 := Lib.hid (show IsPair w w.heap.size (pairV m.pr s r d) m.pr from ⟨s, r, d, rfl, i1, i2, i3⟩)
  clear hm i1 i2 i3 i4
  unfold millV pairV at *
  have n1 : (grE m ⟨a, b, t⟩ size cuts != 0) = true := by simpa using h0
  have n2 : decide (grE m ⟨a, b, t⟩ size cuts = 0) = false := by simpa using h0
  clear h0
  go_enter Tryz.func16, Tryz.ntmps16
  go_wp2_with fail
  obtain ⟨W187, hW188⟩ : ∃ Wzz, ((w.alloc (.cells #[.int .i64 m.pr.bed.eye, .int .i64 m.pr.bed.rings, .int .i64 m.pr.bed.sectors, s, .int .i64 m.pr.run.eye, .int .i64 m.pr.run.rings, .int .i64 m.pr.run.sectors, r, d, gv] 33)).alloc (.cells #[.int .i64 a, .int .i64 b, .int .i64 t, .int .i64 size, .int .i64 cuts] 48)) = Wzz := ⟨_, rfl⟩
  have B189 := Lib.hid (show Below w.heap.size w W187 by rw [← hW188]; exact (((Below.refl w.heap.size w).alloc (Nat.le_refl _) _).alloc (by first | (simp; done) | (simp; omega)) _))
  have X190 := Lib.hid (show Box W187 (w.heap.size) 33 #[.int .i64 m.pr.bed.eye, .int .i64 m.pr.bed.rings, .int .i64 m.pr.bed.sectors, s, .int .i64 m.pr.run.eye, .int .i64 m.pr.run.rings, .int .i64 m.pr.run.sectors, r, d, gv] by rw [← hW188]; exact Box.alloc (Box.made w 33 #[.int .i64 m.pr.bed.eye, .int .i64 m.pr.bed.rings, .int .i64 m.pr.bed.sectors, s, .int .i64 m.pr.run.eye, .int .i64 m.pr.run.rings, .int .i64 m.pr.run.sectors, r, d, gv]) (.cells #[.int .i64 a, .int .i64 b, .int .i64 t, .int .i64 size, .int .i64 cuts] 48))
  have X191 := Lib.hid (show Box W187 (w.heap.size + 1) 48 #[.int .i64 a, .int .i64 b, .int .i64 t, .int .i64 size, .int .i64 cuts] by
    have hz := Box.made (w.alloc (.cells #[.int .i64 m.pr.bed.eye, .int .i64 m.pr.bed.rings, .int .i64 m.pr.bed.sectors, s, .int .i64 m.pr.run.eye, .int .i64 m.pr.run.rings, .int .i64 m.pr.run.sectors, r, d, gv] 33)) 48 #[.int .i64 a, .int .i64 b, .int .i64 t, .int .i64 size, .int .i64 cuts]
    rw [World.size_alloc] at hz
    rw [← hW188]; exact hz)
  have C192 := Lib.hid (HM0.out.later B189.out)
  have C193 := Lib.hid (HP0.out.later B189.out)
  have SZ194 := Lib.hid (show W187.heap.size = w.heap.size + 1 + 1 by rw [← hW188]; simp)
  rw [hW188]
  clear hW188
  have q195 : W187.cell? ⟨w.heap.size, 0, none⟩ = some (.int .i64 m.pr.bed.eye) := X190.out.cell 0
  have q196 : W187.cell? ⟨w.heap.size, 1, none⟩ = some (.int .i64 m.pr.bed.rings) := X190.out.cell 1
  have q197 : W187.cell? ⟨w.heap.size, 2, none⟩ = some (.int .i64 m.pr.bed.sectors) := X190.out.cell 2
  have q198 : W187.cell? ⟨w.heap.size, 3, none⟩ = some (s) := X190.out.cell 3
  have q199 : W187.cell? ⟨w.heap.size, 4, none⟩ = some (.int .i64 m.pr.run.eye) := X190.out.cell 4
  have q200 : W187.cell? ⟨w.heap.size, 5, none⟩ = some (.int .i64 m.pr.run.rings) := X190.out.cell 5
  have q201 : W187.cell? ⟨w.heap.size, 6, none⟩ = some (.int .i64 m.pr.run.sectors) := X190.out.cell 6
  have q202 : W187.cell? ⟨w.heap.size, 7, none⟩ = some (r) := X190.out.cell 7
  have q203 : W187.cell? ⟨w.heap.size, 8, none⟩ = some (d) := X190.out.cell 8
  have q204 : W187.cell? ⟨w.heap.size, 9, none⟩ = some (gv) := X190.out.cell 9
  have q205 : W187.cell? ⟨w.heap.size + 1, 0, none⟩ = some (.int .i64 a) := X191.out.cell 0
  have q206 : W187.cell? ⟨w.heap.size + 1, 1, none⟩ = some (.int .i64 b) := X191.out.cell 1
  have q207 : W187.cell? ⟨w.heap.size + 1, 2, none⟩ = some (.int .i64 t) := X191.out.cell 2
  have q208 : W187.cell? ⟨w.heap.size + 1, 3, none⟩ = some (.int .i64 size) := X191.out.cell 3
  have q209 : W187.cell? ⟨w.heap.size + 1, 4, none⟩ = some (.int .i64 cuts) := X191.out.cell 4
  go_wp2_with fail
  refine (checkGrain_c m a b t size cuts _ _ C192.out).mono ?_; rintro e v210 ⟨rfl, hb211⟩
  have X212 := Lib.hid (X190.out.later hb211)
  have X213 := Lib.hid (X191.out.later hb211)
  have C214 := Lib.hid (C192.out.later hb211)
  have C215 := Lib.hid (C193.out.later hb211)
  have B216 := Lib.hid (B189.out.trans (hb211.mono B189.out.size))
  clear hb211
  clear q195 q196 q197 q198 q199 q200 q201 q202 q203 q204 q205 q206 q207 q208 q209
  have q217 : v210.cell? ⟨w.heap.size, 0, none⟩ = some (.int .i64 m.pr.bed.eye) := X212.out.cell 0
  have q218 : v210.cell? ⟨w.heap.size, 1, none⟩ = some (.int .i64 m.pr.bed.rings) := X212.out.cell 1
  have q219 : v210.cell? ⟨w.heap.size, 2, none⟩ = some (.int .i64 m.pr.bed.sectors) := X212.out.cell 2
  have q220 : v210.cell? ⟨w.heap.size, 3, none⟩ = some (s) := X212.out.cell 3
  have q221 : v210.cell? ⟨w.heap.size, 4, none⟩ = some (.int .i64 m.pr.run.eye) := X212.out.cell 4
  have q222 : v210.cell? ⟨w.heap.size, 5, none⟩ = some (.int .i64 m.pr.run.rings) := X212.out.cell 5
  have q223 : v210.cell? ⟨w.heap.size, 6, none⟩ = some (.int .i64 m.pr.run.sectors) := X212.out.cell 6
  have q224 : v210.cell? ⟨w.heap.size, 7, none⟩ = some (r) := X212.out.cell 7
  have q225 : v210.cell? ⟨w.heap.size, 8, none⟩ = some (d) := X212.out.cell 8
  have q226 : v210.cell? ⟨w.heap.size, 9, none⟩ = some (gv) := X212.out.cell 9
  have q227 : v210.cell? ⟨w.heap.size + 1, 0, none⟩ = some (.int .i64 a) := X213.out.cell 0
  have q228 : v210.cell? ⟨w.heap.size + 1, 1, none⟩ = some (.int .i64 b) := X213.out.cell 1
  have q229 : v210.cell? ⟨w.heap.size + 1, 2, none⟩ = some (.int .i64 t) := X213.out.cell 2
  have q230 : v210.cell? ⟨w.heap.size + 1, 3, none⟩ = some (.int .i64 size) := X213.out.cell 3
  have q231 : v210.cell? ⟨w.heap.size + 1, 4, none⟩ = some (.int .i64 cuts) := X213.out.cell 4
  go_wp2_with fail
  go_ret2
  exact ⟨rfl, B216.out⟩

set_option maxRecDepth 100000 in
set_option maxHeartbeats 8000000 in
theorem Bites_ok (m : Ml) (a b t size cuts : Int) (v : Value) (w : World) (hm : IsMill w w.heap.size v m) (h0 : grE m ⟨a, b, t⟩ size cuts = 0) : Calls Tryz.prog 16 #[v, .agg #[.int .i64 a, .int .i64 b, .int .i64 t, .int .i64 size, .int .i64 cuts]] w fun e w' => e = .returned (.tuple #[.bool (bitesB m ⟨a, b, t⟩ size), .int .i64 0]) ∧ Below w.heap.size w w' := by
  obtain ⟨s, r, d, gv, hmv, i1, i2, i3, i4⟩ := _root_.id hm
  subst hmv
  have HM0 := Lib.hid hm
  have HP0 := Lib.hid (show IsPair w w.heap.size (pairV m.pr s r d) m.pr from ⟨s, r, d, rfl, i1, i2, i3⟩)
  clear hm i1 i2 i3 i4
  unfold millV pairV at *
  have HE := Lib.hid h0
  clear h0
  go_enter Tryz.func16, Tryz.ntmps16
  go_wp2_with fail
  obtain ⟨W232, hW233⟩ : ∃ Wzz, ((w.alloc (.cells #[.int .i64 m.pr.bed.eye, .int .i64 m.pr.bed.rings, .int .i64 m.pr.bed.sectors, s, .int .i64 m.pr.run.eye, .int .i64 m.pr.run.rings, .int .i64 m.pr.run.sectors, r, d, gv] 33)).alloc (.cells #[.int .i64 a, .int .i64 b, .int .i64 t, .int .i64 size, .int .i64 cuts] 48)) = Wzz := ⟨_, rfl⟩
  have B234 := Lib.hid (show Below w.heap.size w W232 by rw [← hW233]; exact (((Below.refl w.heap.size w).alloc (Nat.le_refl _) _).alloc (by first | (simp; done) | (simp; omega)) _))
  have X235 := Lib.hid (show Box W232 (w.heap.size) 33 #[.int .i64 m.pr.bed.eye, .int .i64 m.pr.bed.rings, .int .i64 m.pr.bed.sectors, s, .int .i64 m.pr.run.eye, .int .i64 m.pr.run.rings, .int .i64 m.pr.run.sectors, r, d, gv] by rw [← hW233]; exact Box.alloc (Box.made w 33 #[.int .i64 m.pr.bed.eye, .int .i64 m.pr.bed.rings, .int .i64 m.pr.bed.sectors, s, .int .i64 m.pr.run.eye, .int .i64 m.pr.run.rings, .int .i64 m.pr.run.sectors, r, d, gv]) (.cells #[.int .i64 a, .int .i64 b, .int .i64 t, .int .i64 size, .int .i64 cuts] 48))
  have X236 := Lib.hid (show Box W232 (w.heap.size + 1) 48 #[.int .i64 a, .int .i64 b, .int .i64 t, .int .i64 size, .int .i64 cuts] by
    have hz := Box.made (w.alloc (.cells #[.int .i64 m.pr.bed.eye, .int .i64 m.pr.bed.rings, .int .i64 m.pr.bed.sectors, s, .int .i64 m.pr.run.eye, .int .i64 m.pr.run.rings, .int .i64 m.pr.run.sectors, r, d, gv] 33)) 48 #[.int .i64 a, .int .i64 b, .int .i64 t, .int .i64 size, .int .i64 cuts]
    rw [World.size_alloc] at hz
    rw [← hW233]; exact hz)
  have C237 := Lib.hid (HM0.out.later B234.out)
  have C238 := Lib.hid (HP0.out.later B234.out)
  have SZ239 := Lib.hid (show W232.heap.size = w.heap.size + 1 + 1 by rw [← hW233]; simp)
  rw [hW233]
  clear hW233
  have q240 : W232.cell? ⟨w.heap.size, 0, none⟩ = some (.int .i64 m.pr.bed.eye) := X235.out.cell 0
  have q241 : W232.cell? ⟨w.heap.size, 1, none⟩ = some (.int .i64 m.pr.bed.rings) := X235.out.cell 1
  have q242 : W232.cell? ⟨w.heap.size, 2, none⟩ = some (.int .i64 m.pr.bed.sectors) := X235.out.cell 2
  have q243 : W232.cell? ⟨w.heap.size, 3, none⟩ = some (s) := X235.out.cell 3
  have q244 : W232.cell? ⟨w.heap.size, 4, none⟩ = some (.int .i64 m.pr.run.eye) := X235.out.cell 4
  have q245 : W232.cell? ⟨w.heap.size, 5, none⟩ = some (.int .i64 m.pr.run.rings) := X235.out.cell 5
  have q246 : W232.cell? ⟨w.heap.size, 6, none⟩ = some (.int .i64 m.pr.run.sectors) := X235.out.cell 6
  have q247 : W232.cell? ⟨w.heap.size, 7, none⟩ = some (r) := X235.out.cell 7
  have q248 : W232.cell? ⟨w.heap.size, 8, none⟩ = some (d) := X235.out.cell 8
  have q249 : W232.cell? ⟨w.heap.size, 9, none⟩ = some (gv) := X235.out.cell 9
  have q250 : W232.cell? ⟨w.heap.size + 1, 0, none⟩ = some (.int .i64 a) := X236.out.cell 0
  have q251 : W232.cell? ⟨w.heap.size + 1, 1, none⟩ = some (.int .i64 b) := X236.out.cell 1
  have q252 : W232.cell? ⟨w.heap.size + 1, 2, none⟩ = some (.int .i64 t) := X236.out.cell 2
  have q253 : W232.cell? ⟨w.heap.size + 1, 3, none⟩ = some (.int .i64 size) := X236.out.cell 3
  have q254 : W232.cell? ⟨w.heap.size + 1, 4, none⟩ = some (.int .i64 cuts) := X236.out.cell 4
  go_wp2_with fail
  refine (checkGrain_c m a b t size cuts _ _ C237.out).mono ?_; rintro e v255 ⟨rfl, hb256⟩
  have X257 := Lib.hid (X235.out.later hb256)
  have X258 := Lib.hid (X236.out.later hb256)
  have C259 := Lib.hid (C237.out.later hb256)
  have C260 := Lib.hid (C238.out.later hb256)
  have B261 := Lib.hid (B234.out.trans (hb256.mono B234.out.size))
  clear hb256
  rw [HE.out]
  clear q240 q241 q242 q243 q244 q245 q246 q247 q248 q249 q250 q251 q252 q253 q254
  have q262 : v255.cell? ⟨w.heap.size, 0, none⟩ = some (.int .i64 m.pr.bed.eye) := X257.out.cell 0
  have q263 : v255.cell? ⟨w.heap.size, 1, none⟩ = some (.int .i64 m.pr.bed.rings) := X257.out.cell 1
  have q264 : v255.cell? ⟨w.heap.size, 2, none⟩ = some (.int .i64 m.pr.bed.sectors) := X257.out.cell 2
  have q265 : v255.cell? ⟨w.heap.size, 3, none⟩ = some (s) := X257.out.cell 3
  have q266 : v255.cell? ⟨w.heap.size, 4, none⟩ = some (.int .i64 m.pr.run.eye) := X257.out.cell 4
  have q267 : v255.cell? ⟨w.heap.size, 5, none⟩ = some (.int .i64 m.pr.run.rings) := X257.out.cell 5
  have q268 : v255.cell? ⟨w.heap.size, 6, none⟩ = some (.int .i64 m.pr.run.sectors) := X257.out.cell 6
  have q269 : v255.cell? ⟨w.heap.size, 7, none⟩ = some (r) := X257.out.cell 7
  have q270 : v255.cell? ⟨w.heap.size, 8, none⟩ = some (d) := X257.out.cell 8
  have q271 : v255.cell? ⟨w.heap.size, 9, none⟩ = some (gv) := X257.out.cell 9
  have q272 : v255.cell? ⟨w.heap.size + 1, 0, none⟩ = some (.int .i64 a) := X258.out.cell 0
  have q273 : v255.cell? ⟨w.heap.size + 1, 1, none⟩ = some (.int .i64 b) := X258.out.cell 1
  have q274 : v255.cell? ⟨w.heap.size + 1, 2, none⟩ = some (.int .i64 t) := X258.out.cell 2
  have q275 : v255.cell? ⟨w.heap.size + 1, 3, none⟩ = some (.int .i64 size) := X258.out.cell 3
  have q276 : v255.cell? ⟨w.heap.size + 1, 4, none⟩ = some (.int .i64 cuts) := X258.out.cell 4
  go_wp2_with fail
  have hdr307 : Below (v255).heap.size (v255) (v255).drew := (Below.refl _ _).drew
  have lt292 := X257.out.lt
  have lt293 := X257.out.lt
  have lt294 := X257.out.lt
  have lt295 := X257.out.lt
  have lt296 := X257.out.lt
  have lt297 := X257.out.lt
  have lt298 := X257.out.lt
  have lt299 := X257.out.lt
  have lt300 := X257.out.lt
  have lt301 := X257.out.lt
  have lt302 := X258.out.lt
  have lt303 := X258.out.lt
  have lt304 := X258.out.lt
  have lt305 := X258.out.lt
  have lt306 := X258.out.lt
  have hcall308 : ∀ X Y : World, (fun Wz => Wz.cell? ⟨w.heap.size, 0, none⟩ = some (.int .i64 m.pr.bed.eye) ∧ Wz.cell? ⟨w.heap.size, 1, none⟩ = some (.int .i64 m.pr.bed.rings) ∧ Wz.cell? ⟨w.heap.size, 2, none⟩ = some (.int .i64 m.pr.bed.sectors) ∧ Wz.cell? ⟨w.heap.size, 3, none⟩ = some (s) ∧ Wz.cell? ⟨w.heap.size, 4, none⟩ = some (.int .i64 m.pr.run.eye) ∧ Wz.cell? ⟨w.heap.size, 5, none⟩ = some (.int .i64 m.pr.run.rings) ∧ Wz.cell? ⟨w.heap.size, 6, none⟩ = some (.int .i64 m.pr.run.sectors) ∧ Wz.cell? ⟨w.heap.size, 7, none⟩ = some (r) ∧ Wz.cell? ⟨w.heap.size, 8, none⟩ = some (d) ∧ Wz.cell? ⟨w.heap.size, 9, none⟩ = some (gv) ∧ Wz.cell? ⟨w.heap.size + 1, 0, none⟩ = some (.int .i64 a) ∧ Wz.cell? ⟨w.heap.size + 1, 1, none⟩ = some (.int .i64 b) ∧ Wz.cell? ⟨w.heap.size + 1, 2, none⟩ = some (.int .i64 t) ∧ Wz.cell? ⟨w.heap.size + 1, 3, none⟩ = some (.int .i64 size) ∧ Wz.cell? ⟨w.heap.size + 1, 4, none⟩ = some (.int .i64 cuts) ∧ (v255).heap.size ≤ Wz.heap.size) X → Below X.heap.size X Y → (fun Wz => Wz.cell? ⟨w.heap.size, 0, none⟩ = some (.int .i64 m.pr.bed.eye) ∧ Wz.cell? ⟨w.heap.size, 1, none⟩ = some (.int .i64 m.pr.bed.rings) ∧ Wz.cell? ⟨w.heap.size, 2, none⟩ = some (.int .i64 m.pr.bed.sectors) ∧ Wz.cell? ⟨w.heap.size, 3, none⟩ = some (s) ∧ Wz.cell? ⟨w.heap.size, 4, none⟩ = some (.int .i64 m.pr.run.eye) ∧ Wz.cell? ⟨w.heap.size, 5, none⟩ = some (.int .i64 m.pr.run.rings) ∧ Wz.cell? ⟨w.heap.size, 6, none⟩ = some (.int .i64 m.pr.run.sectors) ∧ Wz.cell? ⟨w.heap.size, 7, none⟩ = some (r) ∧ Wz.cell? ⟨w.heap.size, 8, none⟩ = some (d) ∧ Wz.cell? ⟨w.heap.size, 9, none⟩ = some (gv) ∧ Wz.cell? ⟨w.heap.size + 1, 0, none⟩ = some (.int .i64 a) ∧ Wz.cell? ⟨w.heap.size + 1, 1, none⟩ = some (.int .i64 b) ∧ Wz.cell? ⟨w.heap.size + 1, 2, none⟩ = some (.int .i64 t) ∧ Wz.cell? ⟨w.heap.size + 1, 3, none⟩ = some (.int .i64 size) ∧ Wz.cell? ⟨w.heap.size + 1, 4, none⟩ = some (.int .i64 cuts) ∧ (v255).heap.size ≤ Wz.heap.size) Y := by
    rintro X Y ⟨z277, z278, z279, z280, z281, z282, z283, z284, z285, z286, z287, z288, z289, z290, z291, xs⟩ hb
    have hb2 := Below.mono (B' := (v255).heap.size) hb xs
    exact ⟨keepd z277 hb2 lt292, keepd z278 hb2 lt293, keepd z279 hb2 lt294, keepd z280 hb2 lt295, keepd z281 hb2 lt296, keepd z282 hb2 lt297, keepd z283 hb2 lt298, keepd z284 hb2 lt299, keepd z285 hb2 lt300, keepd z286 hb2 lt301, keepd z287 hb2 lt302, keepd z288 hb2 lt303, keepd z289 hb2 lt304, keepd z290 hb2 lt305, keepd z291 hb2 lt306, Nat.le_trans xs hb.size⟩
  have hini309 : (fun Wz => Wz.cell? ⟨w.heap.size, 0, none⟩ = some (.int .i64 m.pr.bed.eye) ∧ Wz.cell? ⟨w.heap.size, 1, none⟩ = some (.int .i64 m.pr.bed.rings) ∧ Wz.cell? ⟨w.heap.size, 2, none⟩ = some (.int .i64 m.pr.bed.sectors) ∧ Wz.cell? ⟨w.heap.size, 3, none⟩ = some (s) ∧ Wz.cell? ⟨w.heap.size, 4, none⟩ = some (.int .i64 m.pr.run.eye) ∧ Wz.cell? ⟨w.heap.size, 5, none⟩ = some (.int .i64 m.pr.run.rings) ∧ Wz.cell? ⟨w.heap.size, 6, none⟩ = some (.int .i64 m.pr.run.sectors) ∧ Wz.cell? ⟨w.heap.size, 7, none⟩ = some (r) ∧ Wz.cell? ⟨w.heap.size, 8, none⟩ = some (d) ∧ Wz.cell? ⟨w.heap.size, 9, none⟩ = some (gv) ∧ Wz.cell? ⟨w.heap.size + 1, 0, none⟩ = some (.int .i64 a) ∧ Wz.cell? ⟨w.heap.size + 1, 1, none⟩ = some (.int .i64 b) ∧ Wz.cell? ⟨w.heap.size + 1, 2, none⟩ = some (.int .i64 t) ∧ Wz.cell? ⟨w.heap.size + 1, 3, none⟩ = some (.int .i64 size) ∧ Wz.cell? ⟨w.heap.size + 1, 4, none⟩ = some (.int .i64 cuts) ∧ (v255).heap.size ≤ Wz.heap.size) (v255).drew := ⟨keepd (X257.out.cell 0) hdr307 lt292, keepd (X257.out.cell 1) hdr307 lt293, keepd (X257.out.cell 2) hdr307 lt294, keepd (X257.out.cell 3) hdr307 lt295, keepd (X257.out.cell 4) hdr307 lt296, keepd (X257.out.cell 5) hdr307 lt297, keepd (X257.out.cell 6) hdr307 lt298, keepd (X257.out.cell 7) hdr307 lt299, keepd (X257.out.cell 8) hdr307 lt300, keepd (X257.out.cell 9) hdr307 lt301, keepd (X258.out.cell 0) hdr307 lt302, keepd (X258.out.cell 1) hdr307 lt303, keepd (X258.out.cell 2) hdr307 lt304, keepd (X258.out.cell 3) hdr307 lt305, keepd (X258.out.cell 4) hdr307 lt306, Nat.le_refl _⟩
  have Hcall308 := Lib.hid hcall308
  have Hini309 := Lib.hid hini309
  clear hcall308 hini309 lt292 lt293 lt294 lt295 lt296 lt297 lt298 lt299 lt300 lt301 lt302 lt303 lt304 lt305 lt306
  clear q262 q263 q264 q265 q266 q267 q268 q269 q270 q271 q272 q273 q274 q275 q276
  refine wp_region_noPanic ?_
  refine wp_region_held_drew (S := (fun Wz => Wz.cell? ⟨w.heap.size, 0, none⟩ = some (.int .i64 m.pr.bed.eye) ∧ Wz.cell? ⟨w.heap.size, 1, none⟩ = some (.int .i64 m.pr.bed.rings) ∧ Wz.cell? ⟨w.heap.size, 2, none⟩ = some (.int .i64 m.pr.bed.sectors) ∧ Wz.cell? ⟨w.heap.size, 3, none⟩ = some (s) ∧ Wz.cell? ⟨w.heap.size, 4, none⟩ = some (.int .i64 m.pr.run.eye) ∧ Wz.cell? ⟨w.heap.size, 5, none⟩ = some (.int .i64 m.pr.run.rings) ∧ Wz.cell? ⟨w.heap.size, 6, none⟩ = some (.int .i64 m.pr.run.sectors) ∧ Wz.cell? ⟨w.heap.size, 7, none⟩ = some (r) ∧ Wz.cell? ⟨w.heap.size, 8, none⟩ = some (d) ∧ Wz.cell? ⟨w.heap.size, 9, none⟩ = some (gv) ∧ Wz.cell? ⟨w.heap.size + 1, 0, none⟩ = some (.int .i64 a) ∧ Wz.cell? ⟨w.heap.size + 1, 1, none⟩ = some (.int .i64 b) ∧ Wz.cell? ⟨w.heap.size + 1, 2, none⟩ = some (.int .i64 t) ∧ Wz.cell? ⟨w.heap.size + 1, 3, none⟩ = some (.int .i64 size) ∧ Wz.cell? ⟨w.heap.size + 1, 4, none⟩ = some (.int .i64 cuts) ∧ (v255).heap.size ≤ Wz.heap.size)) (by kernel_rfl) Hini309.out (fun hHeld => ?_)
  obtain ⟨W311, hW312⟩ : ∃ Wzz, (v255).drew = Wzz := ⟨_, rfl⟩
  rw [hW312] at hHeld hdr307 ⊢
  clear hW312
  have X313 := Lib.hid (X257.out.later hdr307)
  have X314 := Lib.hid (X258.out.later hdr307)
  have C315 := Lib.hid (C259.out.later hdr307)
  have C316 := Lib.hid (C260.out.later hdr307)
  have B317 := Lib.hid (B261.out.trans (hdr307.mono B261.out.size))
  clear hdr307
  refine wpAnyH_take (i := 0) (oi := { dst := some 13, op := Op.load 33 (Operand.tmp 2), type := 33, pos := "steps.go:30", after := #[], guard := none }) (v := ?vh318) rfl ?hsh318 ?hfh318 ?hrh318 ?hQh318 ?hyh318 (by assumption) ?resth318
  case hsh318 => kernel_rfl
  case hfh318 => kernel_rfl
  case hrh318 => kernel_rfl
  case hQh318 => exact fun _ _ _ h => h
  case hyh318 => (refine Or.inl ⟨by rfl, ?_⟩; intro w hSw; (try dsimp only at hSw); go_simp; try with_reducible rfl)
  try simp only [Act.put, List.setIfInBounds_toArray, List.set_cons_zero, List.set_cons_succ]
  refine wpAnyH_take (i := 2) (oi := { dst := some 15, op := Op.fieldAddr 48 (Operand.tmp 3) 0, type := 0, pos := "steps.go:30", after := #[], guard := none }) (v := ?vh319) rfl ?hsh319 ?hfh319 ?hrh319 ?hQh319 ?hyh319 (by assumption) ?resth319
  case hsh319 => kernel_rfl
  case hfh319 => kernel_rfl
  case hrh319 => kernel_rfl
  case hQh319 => exact fun _ _ _ h => h
  case hyh319 => (refine Or.inl ⟨by rfl, ?_⟩; intro w hSw; (try dsimp only at hSw); go_simp; try with_reducible rfl)
  try simp only [Act.put, List.setIfInBounds_toArray, List.set_cons_zero, List.set_cons_succ]
  refine wpAnyH_take (i := 3) (oi := { dst := some 16, op := Op.load 46 (Operand.tmp 15), type := 46, pos := "steps.go:30", after := #[{ on := 2, ground := Ground.data }], guard := none }) (v := ?vh320) rfl ?hsh320 ?hfh320 ?hrh320 ?hQh320 ?hyh320 (by assumption) ?resth320
  case hsh320 => kernel_rfl
  case hfh320 => kernel_rfl
  case hrh320 => kernel_rfl
  case hQh320 => exact fun _ _ _ h => h
  case hyh320 => (refine Or.inl ⟨by rfl, ?_⟩; intro w hSw; (try dsimp only at hSw); go_simp; try with_reducible rfl)
  try simp only [Act.put, List.setIfInBounds_toArray, List.set_cons_zero, List.set_cons_succ]
  refine wpAnyH_take (i := 4) (oi := { dst := some 17, op := Op.fieldAddr 48 (Operand.tmp 3) 1, type := 0, pos := "steps.go:30", after := #[], guard := none }) (v := ?vh321) rfl ?hsh321 ?hfh321 ?hrh321 ?hQh321 ?hyh321 (by assumption) ?resth321
  case hsh321 => kernel_rfl
  case hfh321 => kernel_rfl
  case hrh321 => kernel_rfl
  case hQh321 => exact fun _ _ _ h => h
  case hyh321 => (refine Or.inl ⟨by rfl, ?_⟩; intro w hSw; (try dsimp only at hSw); go_simp; try with_reducible rfl)
  try simp only [Act.put, List.setIfInBounds_toArray, List.set_cons_zero, List.set_cons_succ]
  refine wpAnyH_take (i := 5) (oi := { dst := some 18, op := Op.load 3 (Operand.tmp 17), type := 3, pos := "steps.go:30", after := #[{ on := 4, ground := Ground.data }], guard := none }) (v := ?vh322) rfl ?hsh322 ?hfh322 ?hrh322 ?hQh322 ?hyh322 (by assumption) ?resth322
  case hsh322 => kernel_rfl
  case hfh322 => kernel_rfl
  case hrh322 => kernel_rfl
  case hQh322 => exact fun _ _ _ h => h
  case hyh322 => (refine Or.inl ⟨by rfl, ?_⟩; intro w hSw; (try dsimp only at hSw); go_simp; try with_reducible rfl)
  try simp only [Act.put, List.setIfInBounds_toArray, List.set_cons_zero, List.set_cons_succ]
  refine wpAnyH_ready (rs := [1]) (by kernel_rfl) (by simp) ?_
  refine AllReadyH.cons (o := _) (by rfl) (fun K hK => ?_) AllReadyH.nil
  go_simp
  go_at_call 46
  refine (chartOf_g m _ _ C315.out).mono ?_; rintro e v323 ⟨⟨g, rfl, hg, hch⟩, hb324⟩
  have X325 := Lib.hid (X313.out.later hb324)
  have X326 := Lib.hid (X314.out.later hb324)
  have C327 := Lib.hid (C315.out.later hb324)
  have C328 := Lib.hid (C316.out.later hb324)
  have B329 := Lib.hid (B317.out.trans (hb324.mono B317.out.size))
  clear X313 X314 C315 C316 B317
  have HCH := Lib.hid hch
  clear hch hg
  go_wp2_with fail
  refine hK.out _ _ (Hcall308.out _ _ hHeld (by assumption)) (fun hHeld330 => ?_)
  clear hK K hHeld
  clear hb324
  have hHeld := hHeld330
  clear hHeld330
  try simp only [Act.put, List.setIfInBounds_toArray, List.set_cons_zero, List.set_cons_succ]
  refine wpAnyH_ready (rs := [6]) (by kernel_rfl) (by simp) ?_
  refine AllReadyH.cons (o := _) (by rfl) (fun K hK => ?_) AllReadyH.nil
  go_simp
  go_at_call 47
  refine (bites_g m a b t size g _ HCH.out (agE_zero (grE_zero HE.out).1).1 (agE_zero (grE_zero HE.out).1).2.1).mono ?_; rintro e v331 ⟨rfl, hb332⟩
  have X333 := Lib.hid (X325.out.later hb332)
  have X334 := Lib.hid (X326.out.later hb332)
  have C335 := Lib.hid (C327.out.later hb332)
  have C336 := Lib.hid (C328.out.later hb332)
  have B337 := Lib.hid (B329.out.trans (hb332.mono B329.out.size))
  clear X325 X326 C327 C328 B329
  go_wp2_with fail
  refine hK.out _ _ (Hcall308.out _ _ hHeld (by assumption)) (fun hHeld338 => ?_)
  clear hK K hHeld
  clear hb332
  have hHeld := hHeld338
  clear hHeld338
  try simp only [Act.put, List.setIfInBounds_toArray, List.set_cons_zero, List.set_cons_succ]
  refine wpAnyH_take (i := 7) (oi := { dst := some 4, op := Op.assign (Operand.tmp 19), type := 4, pos := "steps.go:30", after := #[{ on := 6, ground := Ground.data }, { on := 6, ground := Ground.chain }, { on := 0, ground := Ground.phase }, { on := 1, ground := Ground.phase }, { on := 2, ground := Ground.phase }, { on := 3, ground := Ground.phase }, { on := 4, ground := Ground.phase }, { on := 5, ground := Ground.phase }, { on := 6, ground := Ground.phase }], guard := none }) (v := ?vh339) rfl ?hsh339 ?hfh339 ?hrh339 ?hQh339 ?hyh339 (by assumption) ?resth339
  case hsh339 => kernel_rfl
  case hfh339 => kernel_rfl
  case hrh339 => kernel_rfl
  case hQh339 => exact fun _ _ _ h => h
  case hyh339 => (refine Or.inl ⟨by rfl, ?_⟩; intro w hSw; (try dsimp only at hSw); go_simp; try with_reducible rfl)
  try simp only [Act.put, List.setIfInBounds_toArray, List.set_cons_zero, List.set_cons_succ]
  refine wpAnyH_take (i := 8) (oi := { dst := some 5, op := Op.assign (Operand.const (Value.int IntKind.i64 0)), type := 37, pos := "steps.go:30", after := #[{ on := 7, ground := Ground.chain }, { on := 0, ground := Ground.phase }, { on := 1, ground := Ground.phase }, { on := 2, ground := Ground.phase }, { on := 3, ground := Ground.phase }, { on := 4, ground := Ground.phase }, { on := 5, ground := Ground.phase }, { on := 6, ground := Ground.phase }, { on := 7, ground := Ground.phase }], guard := none }) (v := ?vh340) rfl ?hsh340 ?hfh340 ?hrh340 ?hQh340 ?hyh340 (by assumption) ?resth340
  case hsh340 => kernel_rfl
  case hfh340 => kernel_rfl
  case hrh340 => kernel_rfl
  case hQh340 => exact fun _ _ _ h => h
  case hyh340 => (refine Or.inl ⟨by rfl, ?_⟩; intro w hSw; (try dsimp only at hSw); go_simp; try with_reducible rfl)
  try simp only [Act.put, List.setIfInBounds_toArray, List.set_cons_zero, List.set_cons_succ]
  refine wpAnyH_done (by kernel_rfl) ?_ _
  refine NoPanic.normal ?_
  clear hHeld Hcall308 Hini309
  have q341 : v331.cell? ⟨w.heap.size, 0, none⟩ = some (.int .i64 m.pr.bed.eye) := X333.out.cell 0
  have q342 : v331.cell? ⟨w.heap.size, 1, none⟩ = some (.int .i64 m.pr.bed.rings) := X333.out.cell 1
  have q343 : v331.cell? ⟨w.heap.size, 2, none⟩ = some (.int .i64 m.pr.bed.sectors) := X333.out.cell 2
  have q344 : v331.cell? ⟨w.heap.size, 3, none⟩ = some (s) := X333.out.cell 3
  have q345 : v331.cell? ⟨w.heap.size, 4, none⟩ = some (.int .i64 m.pr.run.eye) := X333.out.cell 4
  have q346 : v331.cell? ⟨w.heap.size, 5, none⟩ = some (.int .i64 m.pr.run.rings) := X333.out.cell 5
  have q347 : v331.cell? ⟨w.heap.size, 6, none⟩ = some (.int .i64 m.pr.run.sectors) := X333.out.cell 6
  have q348 : v331.cell? ⟨w.heap.size, 7, none⟩ = some (r) := X333.out.cell 7
  have q349 : v331.cell? ⟨w.heap.size, 8, none⟩ = some (d) := X333.out.cell 8
  have q350 : v331.cell? ⟨w.heap.size, 9, none⟩ = some (gv) := X333.out.cell 9
  have q351 : v331.cell? ⟨w.heap.size + 1, 0, none⟩ = some (.int .i64 a) := X334.out.cell 0
  have q352 : v331.cell? ⟨w.heap.size + 1, 1, none⟩ = some (.int .i64 b) := X334.out.cell 1
  have q353 : v331.cell? ⟨w.heap.size + 1, 2, none⟩ = some (.int .i64 t) := X334.out.cell 2
  have q354 : v331.cell? ⟨w.heap.size + 1, 3, none⟩ = some (.int .i64 size) := X334.out.cell 3
  have q355 : v331.cell? ⟨w.heap.size + 1, 4, none⟩ = some (.int .i64 cuts) := X334.out.cell 4
  go_wp2_with fail
  go_ret2
  exact ⟨rfl, B337.out⟩

end Go.Proofs.YtikfiallhmhicaaGreat

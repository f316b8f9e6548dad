/- DressingWider: the law. -/
import Derived.Test.YtfhbpeafapabhaaR16
import Derived.Test.YtfhbpeafapabhaaR14
namespace Go.Proofs.Ytfhbpeafapabhaa
open Go.RowKit

set_option maxRecDepth 100000 in
set_option maxHeartbeats 16000000 in
theorem DressingWider_c (t : Tk) (cell bl bh : Int) (hbl : bl ≤ 9223372036854775807) (v : Value) (w : World) (h : IsTask w w.heap.size v t) :
    Calls Try.prog 13 #[v, .int .i64 cell, spanV bl bh] w fun e w' => e = .returned (.bool true) ∧ Below w.heap.size w w' := by
  have HT := Lib.hid h
  have HBL := Lib.hid hbl
  clear hbl
  obtain ⟨s, rfl, A, c, rfl, hcap, hcell⟩ := h
  have HC := Lib.hid hcell
  have HB := Lib.hid (show Box ((w.alloc (.cells #[.int .i64 t.wide, .slice A t.need.length c] 24)).alloc (.cells #[.int .i64 bl, .int .i64 bh] 49)) w.heap.size 24 #[.int .i64 t.wide, .slice A t.need.length c] ∧ Box ((w.alloc (.cells #[.int .i64 t.wide, .slice A t.need.length c] 24)).alloc (.cells #[.int .i64 bl, .int .i64 bh] 49)) (w.heap.size + 1) 49 #[.int .i64 bl, .int .i64 bh] from
    ⟨(Box.made w _ _).alloc _, by have e := Box.made (w.alloc (.cells #[.int .i64 t.wide, .slice A t.need.length c] 24)) 49 #[.int .i64 bl, .int .i64 bh]; rw [World.size_alloc] at e; exact e⟩)
  clear hcap hcell
  go_enter Try.func13, Try.ntmps13
  go_wp2_with fail
  refine (awake_c _).mono ?_; rintro e w1 ⟨rfl, hb1⟩
  have H1 := Lib.hid (show Below w.heap.size w w1 ∧ Box w1 w.heap.size 24 #[.int .i64 t.wide, .slice A t.need.length c] ∧ Box w1 (w.heap.size + 1) 49 #[.int .i64 bl, .int .i64 bh] from
    ⟨boxed (boxed hb1), HB.out.1.later hb1, HB.out.2.later hb1⟩)
  have k0 : w1.cell? ⟨w.heap.size, 0, none⟩ = some (.int .i64 t.wide) := H1.out.2.1.cell 0
  have k1 : w1.cell? ⟨w.heap.size, 1, none⟩ = some (.slice A t.need.length c) := H1.out.2.1.cell 1
  clear hb1
  go_wp2_with fail
  refine (short_c t _ _ (HT.out.mono H1.out.1 H1.out.1.size)).mono ?_; rintro e w2 ⟨rfl, hb2⟩
  have H2 := Lib.hid (show Below w.heap.size w w2 ∧ Box w2 w.heap.size 24 #[.int .i64 t.wide, .slice A t.need.length c] ∧ Box w2 (w.heap.size + 1) 49 #[.int .i64 bl, .int .i64 bh] from
    ⟨H1.out.1.trans (hb2.mono H1.out.1.size), H1.out.2.1.later hb2, H1.out.2.2.later hb2⟩)
  clear k0 k1 hb2
  cases hsh : shortB t
  · clear hsh
    go_wp2_with fail
    go_ret
    exact ⟨rfl, H2.out.1⟩
  have HSH := Lib.hid (show t.need.length ≤ 800 by unfold shortB at hsh; simp at hsh; omega)
  clear hsh
  have k0 : w2.cell? ⟨w.heap.size, 0, none⟩ = some (.int .i64 t.wide) := H2.out.2.1.cell 0
  have k1 : w2.cell? ⟨w.heap.size, 1, none⟩ = some (.slice A t.need.length c) := H2.out.2.1.cell 1
  have m0 : w2.cell? ⟨w.heap.size + 1, 0, none⟩ = some (.int .i64 bl) := H2.out.2.2.cell 0
  have m1 : w2.cell? ⟨w.heap.size + 1, 1, none⟩ = some (.int .i64 bh) := H2.out.2.2.cell 1
  by_cases c1 : cell < 0
  · have z1 : decide (cell < 0) = true := by simpa using c1
    clear c1
    go_wp2_with fail
    go_ret
    exact ⟨rfl, H2.out.1⟩
  have z1 : decide (cell < 0) = false := by simpa using c1
  by_cases c2 : (t.need.length : Int) ≤ cell
  · have z2 : decide ((t.need.length : Int) ≤ cell) = true := by simpa using c2
    clear c1 c2
    go_wp2_with fail
    go_ret
    exact ⟨rfl, H2.out.1⟩
  obtain ⟨k, rfl⟩ : ∃ k : Nat, cell = (k : Int) := ⟨cell.toNat, by omega⟩
  have z2 : decide ((t.need.length : Int) ≤ (k : Int)) = false := by simpa using c2
  have z2b : decide (t.need.length ≤ k) = false := by simp; omega
  have HK := Lib.hid (show k < t.need.length by omega)
  clear c1 c2
  by_cases c3 : bl < 0
  · have z3 : decide (bl < 0) = true := by simpa using c3
    clear c3
    go_wp2_with fail
    go_ret
    exact ⟨rfl, H2.out.1⟩
  have z3 : decide (bl < 0) = false := by simpa using c3
  by_cases c4 : bh < 0
  · have z4 : decide (bh < 0) = true := by simpa using c4
    clear c3 c4
    go_wp2_with fail
    go_ret
    exact ⟨rfl, H2.out.1⟩
  have z4 : decide (bh < 0) = false := by simpa using c4
  by_cases c5 : 100000 < bh
  · have z5 : decide (100000 < bh) = true := by simpa using c5
    clear c3 c4 c5
    go_wp2_with fail
    go_ret
    exact ⟨rfl, H2.out.1⟩
  have z5 : decide (100000 < bh) = false := by simpa using c5
  have HBY := Lib.hid (show 0 ≤ bl ∧ 0 ≤ bh ∧ bh ≤ 100000 by omega)
  clear c3 c4 c5
  obtain ⟨b, off, rfl, hbB, hcc⟩ := HC.out (by have := HK.out; omega)
  obtain ⟨i0, hi0, hz0, hz1, hz2⟩ : ∃ i, Try.prog.info? 49 = some i ∧ i.zero = some (.agg #[.int .i64 0, .int .i64 0]) ∧ i.size = 2 ∧ i.bytes = 16 := ⟨_, rfl, rfl, rfl, rfl⟩
  have HCC := Lib.hid hcc
  have HBB := Lib.hid hbB
  clear hcc hbB
  obtain ⟨x0, hx0⟩ : ∃ x0, w.heap.size = x0 := ⟨_, rfl⟩
  have k4 : ∀ o1 o2 : Obj, ((w2.alloc o1).alloc o2).cell? ⟨w.heap.size, 1, none⟩ = some (.slice (some ⟨b, off, none⟩) t.need.length c) := fun o1 o2 => ((H2.out.2.1.alloc o1).alloc o2).cell 1
  have hal : Below w.heap.size w ((w2.alloc (.cells #[.int .i64 t.wide, .slice (some ⟨b, off, none⟩) t.need.length c] 24)).alloc (.cells #[] 49)) := (H2.out.1.alloc H2.out.1.size _).alloc (by have := H2.out.1.size; simp; omega) _
  have hb4 := pairs_news HCC.out hal HBB.out
  have hbx4 : Box ((w2.alloc (.cells #[.int .i64 t.wide, .slice (some ⟨b, off, none⟩) t.need.length c] 24)).alloc (.cells #[] 49)) w2.heap.size 24 #[.int .i64 t.wide, .slice (some ⟨b, off, none⟩) t.need.length c] := (Box.made w2 _ _).alloc _
  have HALL := Lib.hid (⟨hal, hbx4, (H2.out.2.1.alloc _).alloc _, (H2.out.2.2.alloc _).alloc _⟩ : Below w.heap.size w ((w2.alloc (.cells #[.int .i64 t.wide, .slice (some ⟨b, off, none⟩) t.need.length c] 24)).alloc (.cells #[] 49)) ∧
    Box ((w2.alloc (.cells #[.int .i64 t.wide, .slice (some ⟨b, off, none⟩) t.need.length c] 24)).alloc (.cells #[] 49)) w2.heap.size 24 #[.int .i64 t.wide, .slice (some ⟨b, off, none⟩) t.need.length c] ∧
    Box ((w2.alloc (.cells #[.int .i64 t.wide, .slice (some ⟨b, off, none⟩) t.need.length c] 24)).alloc (.cells #[] 49)) w.heap.size 24 #[.int .i64 t.wide, .slice (some ⟨b, off, none⟩) t.need.length c] ∧
    Box ((w2.alloc (.cells #[.int .i64 t.wide, .slice (some ⟨b, off, none⟩) t.need.length c] 24)).alloc (.cells #[] 49)) (w.heap.size + 1) 49 #[.int .i64 bl, .int .i64 bh])
  have ho := World.ownsRow_made (base := w2.heap.size + 1) (e := 49) (size := 2) (w2.alloc (.cells #[.int .i64 t.wide, .slice (some ⟨b, off, none⟩) t.need.length c] 24)) #[] 0 (by simp) (Nat.zero_le _) rfl
  rw [World.size_alloc] at ho
  have h1c := prow_one t.need
  have hk0 := prow_len t.need
  have hk1 : 0 + t.need.length ≤ maxLen := by have := HSH.out; unfold maxLen; omega
  have hk2 : (0 + t.need.length) * 16 ≤ 140737488355328 := by have := HSH.out; omega
  have hk3 : w2.heap.size + 1 ≤ ((w2.alloc (.cells #[.int .i64 t.wide, .slice (some ⟨b, off, none⟩) t.need.length c] 24)).alloc (.cells #[] 49)).heap.size := by simp
  have hl2 : w.heap.size + 1 < w2.heap.size := H2.out.2.2.lt
  have HX0 := Lib.hid (And.intro hl2 hx0)
  clear hal hbx4 hx0 hl2
  generalize hpr : prow t.need = pr at *
  have HPR := Lib.hid hpr
  clear hpr
  go_wp2_with (first
     | (at_builtin; refine wpList_append_own_at _ rfl _ _ 22 rfl (w2.heap.size + 1) 49 i0 (.agg #[.int .i64 0, .int .i64 0]) 2 16 Try.underlying22 hi0 hz0 hz1 hz2 rfl (by decide) (.slice (some ⟨w2.heap.size + 1, 0, none⟩) 0 0) _ _ rfl ho ⟨b, off, none⟩ t.need.length c pr rfl hk0 hb4 h1c hk1 hk2 hk3 ?_
        intro v' w7 hown7 hgrow7 _ _
        rw [Nat.zero_add, List.nil_append] at hown7
        obtain ⟨vA, vc, rfl⟩ := own_shape hown7
        have H7 := Lib.hid (show Below w.heap.size w w7 ∧ Box w7 w2.heap.size 24 #[.int .i64 t.wide, .slice (some ⟨b, off, none⟩) t.need.length c] ∧ Box w7 w.heap.size 24 #[.int .i64 t.wide, .slice (some ⟨b, off, none⟩) t.need.length c] ∧ Box w7 (w.heap.size + 1) 49 #[.int .i64 bl, .int .i64 bh] from
          ⟨HALL.out.1.grown hgrow7 HALL.out.1.size (fun q e => by have := (ho.lt q e).1; have := HX0.out.1; omega), HALL.out.2.1.grown hgrow7 (fun e => by have := (ho.lt _ e).1; omega), HALL.out.2.2.1.grown hgrow7 (fun e => by have := (ho.lt _ e).1; have := HX0.out.1; omega), HALL.out.2.2.2.grown hgrow7 (fun e => by have := (ho.lt _ e).1; have := HX0.out.1; omega)⟩)
        have HOWN := Lib.hid hown7
        have y1 : w7.cell? ⟨w2.heap.size, 1, none⟩ = some (.slice (some ⟨b, off, none⟩) t.need.length c) := H7.out.2.1.cell 1
        have y2 := H7.out.2.1.free 1
        clear hown7 hgrow7 ho hb4 h1c hk0 hk1 hk2 hk3))
  have hbl63 := HBY.out
  obtain ⟨gg, cur, rfl, hg1, hg2, hcap, hbg, hcur⟩ := own_span HOWN.out (by have := HK.out; omega)
  obtain ⟨g8, hg8⟩ : ∃ g8, w2.heap.size = g8 := ⟨_, rfl⟩
  obtain ⟨lo, hlo⟩ : ∃ lo, (nthP t.need k).1 = lo := ⟨_, rfl⟩
  obtain ⟨hi, hhi⟩ : ∃ hi, (nthP t.need k).2 = hi := ⟨_, rfl⟩
  obtain ⟨q, hq⟩ : ∃ q, IntKind.i64.wrap (lo - bl) = q := ⟨_, rfl⟩
  obtain ⟨q1, hq1⟩ : ∃ q1, (if 0 < q then q else 0) = q1 := ⟨_, rfl⟩
  obtain ⟨r, hr⟩ : ∃ r, IntKind.i64.wrap (hi + bh) = r := ⟨_, rfl⟩
  obtain ⟨q2, hq2⟩ : ∃ q2, (if r < 100000 then r else 100000) = q2 := ⟨_, rfl⟩
  have HQ := Lib.hid (⟨hlo, hhi, hq, hq1, hr, hq2⟩ : (nthP t.need k).1 = lo ∧ (nthP t.need k).2 = hi ∧ IntKind.i64.wrap (lo - bl) = q ∧ (if 0 < q then q else 0) = q1 ∧ IntKind.i64.wrap (hi + bh) = r ∧ (if r < 100000 then r else 100000) = q2)
  have HG8 := Lib.hid (show w2.heap.size = g8 ∧ w.heap.size + 1 < g8 ∧ g8 < gg ∧ t.need.length ≤ vc from ⟨hg8, by have := HX0.out.1; omega, by omega, hcap⟩)
  have hcu0 : cur[k * 2]? = some (.int .i64 lo) := by rw [hcur _ (by have := HK.out; omega), ← HPR.out, (prow_at _ k HK.out).1, hlo]
  have hcu1 : cur[k * 2 + 1]? = some (.int .i64 hi) := by rw [hcur _ (by have := HK.out; omega), ← HPR.out, (prow_at _ k HK.out).2, hhi]
  have HCU := Lib.hid (show ∀ j, j < t.need.length * 2 → cur[j]? = (prow t.need)[j]? by rw [HPR.out]; exact hcur)
  rw [hg8] at H7 ⊢
  obtain ⟨W, hW⟩ : ∃ W, (w7.setCell ⟨g8, 1, none⟩ (.slice (some ⟨gg, 0, none⟩) t.need.length vc)).drew = W := ⟨_, rfl⟩
  have HW := Lib.hid (show Below w.heap.size w W ∧ Box W g8 24 #[.int .i64 t.wide, .slice (some ⟨gg, 0, none⟩) t.need.length vc] ∧ Box W w.heap.size 24 #[.int .i64 t.wide, .slice (some ⟨b, off, none⟩) t.need.length c] ∧ Box W (w.heap.size + 1) 49 #[.int .i64 bl, .int .i64 bh] ∧ Box W gg 49 cur by
    have h0 := HG8.out
    rw [← hW]
    exact ⟨(H7.out.1.setCell (by show w.heap.size ≤ g8; omega) _).drew, H7.out.2.1.put 1 _, H7.out.2.2.1.far (by show w.heap.size ≠ g8; omega) _, H7.out.2.2.2.far (by show w.heap.size + 1 ≠ g8; omega) _, hbg.far (by show gg ≠ g8; omega) _⟩)
  have f1 : W.cell? ⟨g8, 1, none⟩ = some (.slice (some ⟨gg, 0, none⟩) t.need.length vc) := HW.out.2.1.cell 1
  have f2 : W.cell? ⟨gg, k * 2, none⟩ = some (.int .i64 lo) := by rw [HW.out.2.2.2.2.cell]; exact hcu0
  have f3 : W.cell? ⟨w.heap.size + 1, 0, none⟩ = some (.int .i64 bl) := HW.out.2.2.2.1.cell 0
  have f4 := HW.out.2.2.2.2.free (k * 2)
  have i0' : (0 : Int) ≤ (k : Int) := by omega
  have i1 : (k : Int) < (t.need.length : Int) := by have := HK.out; omega
  have i2 : k ≤ 800 := by have := HK.out; have := HSH.out; omega
  have HCU1 := Lib.hid hcu1
  clear hlo hhi hr hq2 hg1 hg2 hcap hbg hcur hcu0 hcu1 hg8 y1 y2 k0 k1 m0 m1 k4
  refine still_tail 13 W hW (by kernel_rfl) (by kernel_rfl) ?_
  clear hW
  simp only [List.take_succ_cons, List.take_zero, List.drop_succ_cons, List.drop_zero]
  repeat still_step
  refine wpStill_nil ?_
  go_wp2_with fail
  clear f1 f2 f3 f4 hq hq1
  obtain ⟨W', hW'⟩ : ∃ W', (W.setCell ⟨gg, k * 2, none⟩ (.int .i64 q1)).drew = W' := ⟨_, rfl⟩
  have HW' := Lib.hid (show Below w.heap.size w W' ∧ Box W' g8 24 #[.int .i64 t.wide, .slice (some ⟨gg, 0, none⟩) t.need.length vc] ∧ Box W' w.heap.size 24 #[.int .i64 t.wide, .slice (some ⟨b, off, none⟩) t.need.length c] ∧ Box W' (w.heap.size + 1) 49 #[.int .i64 bl, .int .i64 bh] ∧ Box W' gg 49 (cur.setIfInBounds (k * 2) (.int .i64 q1)) by
    have h0 := HG8.out
    rw [← hW']
    exact ⟨(HW.out.1.setCell (by show w.heap.size ≤ gg; omega) _).drew, HW.out.2.1.far (by show g8 ≠ gg; omega) _, HW.out.2.2.1.far (by show w.heap.size ≠ gg; omega) _, HW.out.2.2.2.1.far (by show w.heap.size + 1 ≠ gg; omega) _, HW.out.2.2.2.2.put _ _⟩)
  have f1 : W'.cell? ⟨g8, 1, none⟩ = some (.slice (some ⟨gg, 0, none⟩) t.need.length vc) := HW'.out.2.1.cell 1
  have f2 : W'.cell? ⟨gg, k * 2 + 1, none⟩ = some (.int .i64 hi) := by rw [HW'.out.2.2.2.2.cell, Array.getElem?_setIfInBounds_ne (by omega)]; exact HCU1.out
  have f3 : W'.cell? ⟨w.heap.size + 1, 1, none⟩ = some (.int .i64 bh) := HW'.out.2.2.2.1.cell 1
  have f4 := HW'.out.2.2.2.2.free (k * 2 + 1)
  have hr := HQ.out.2.2.2.2.1
  have hq2 := HQ.out.2.2.2.2.2
  refine still_tail 13 W' hW' (by kernel_rfl) (by kernel_rfl) ?_
  clear hW'
  simp only [List.take_succ_cons, List.take_zero, List.drop_succ_cons, List.drop_zero]
  repeat still_step
  refine wpStill_nil ?_
  have HW2 := Lib.hid (show Below w.heap.size w (W'.setCell ⟨gg, k * 2 + 1, none⟩ (.int .i64 q2)) ∧ Box (W'.setCell ⟨gg, k * 2 + 1, none⟩ (.int .i64 q2)) g8 24 #[.int .i64 t.wide, .slice (some ⟨gg, 0, none⟩) t.need.length vc] ∧ Box (W'.setCell ⟨gg, k * 2 + 1, none⟩ (.int .i64 q2)) w.heap.size 24 #[.int .i64 t.wide, .slice (some ⟨b, off, none⟩) t.need.length c] ∧ Box (W'.setCell ⟨gg, k * 2 + 1, none⟩ (.int .i64 q2)) gg 49 ((cur.setIfInBounds (k * 2) (.int .i64 q1)).setIfInBounds (k * 2 + 1) (.int .i64 q2)) by
    have h0 := HG8.out
    exact ⟨HW'.out.1.setCell (by show w.heap.size ≤ gg; omega) _, HW'.out.2.1.far (by show g8 ≠ gg; omega) _, HW'.out.2.2.1.far (by show w.heap.size ≠ gg; omega) _, HW'.out.2.2.2.2.put _ _⟩)
  obtain ⟨W2, hW2⟩ : ∃ W2, W'.setCell ⟨gg, k * 2 + 1, none⟩ (.int .i64 q2) = W2 := ⟨_, rfl⟩
  rw [hW2] at HW2
  have k0 : W2.cell? ⟨w.heap.size, 0, none⟩ = some (.int .i64 t.wide) := HW2.out.2.2.1.cell 0
  have k1 : W2.cell? ⟨w.heap.size, 1, none⟩ = some (.slice (some ⟨b, off, none⟩) t.need.length c) := HW2.out.2.2.1.cell 1
  have k4 : ∀ o1 : Obj, (W2.alloc o1).cell? ⟨w.heap.size, 1, none⟩ = some (.slice (some ⟨b, off, none⟩) t.need.length c) := fun o1 => (HW2.out.2.2.1.alloc o1).cell 1
  have k5 : ∀ o1 o2 : Obj, ((W2.alloc o1).alloc o2).cell? ⟨w.heap.size, 0, none⟩ = some (.int .i64 t.wide) := fun o1 o2 => ((HW2.out.2.2.1.alloc o1).alloc o2).cell 0
  have k6 : ∀ o1 o2 : Obj, ((W2.alloc o1).alloc o2).cell? ⟨w.heap.size, 1, none⟩ = some (.slice (some ⟨b, off, none⟩) t.need.length c) := fun o1 o2 => ((HW2.out.2.2.1.alloc o1).alloc o2).cell 1
  have hl : w.heap.size < W2.heap.size := HW2.out.2.2.1.lt
  have hne : w.heap.size ≠ W2.heap.size := by omega
  have hmk := mkPairs (W2.alloc (.cells #[.int .i64 t.wide, .slice (some ⟨b, off, none⟩) t.need.length c] 24)) t.need.length (by have := HSH.out; omega)
  rw [World.size_alloc] at hmk
  have HL := Lib.hid hl
  have HWE := Lib.hid hW2
  go_wp2_with (first | (rw [HWE.out]))
  clear k0 k1 k4 k5 k6 hl hne hmk f1 f2 f3 f4 hr hq2 i0' i1 i2 z1 z2 z2b z3 z4 z5 hbl63
  obtain ⟨gn, hgn⟩ : ∃ gn, W2.heap.size = gn := ⟨_, rfl⟩
  rw [hgn]
  obtain ⟨W3, hW3⟩ : ∃ W3, (W2.alloc (.cells #[.int .i64 t.wide, .slice (some ⟨gn + 1, 0, none⟩) t.need.length t.need.length] 24)).alloc (.cells (zrow t.need.length) 49) = W3 := ⟨_, rfl⟩
  rw [hW3]
  have H3 := Lib.hid (show Below w.heap.size w W3 ∧ Box W3 w.heap.size 24 #[.int .i64 t.wide, .slice (some ⟨b, off, none⟩) t.need.length c] ∧ Box W3 g8 24 #[.int .i64 t.wide, .slice (some ⟨gg, 0, none⟩) t.need.length vc] ∧ Box W3 gn 24 #[.int .i64 t.wide, .slice (some ⟨gn + 1, 0, none⟩) t.need.length t.need.length] ∧
      IsTask W3 W3.heap.size (.agg #[.int .i64 t.wide, .slice (some ⟨gg, 0, none⟩) t.need.length vc]) (wideOf t k (q1, q2)) ∧ IsTask W3 W3.heap.size (.agg #[.int .i64 t.wide, .slice (some ⟨gn + 1, 0, none⟩) t.need.length t.need.length]) (zeroOf t) by
    have hs := HW2.out.1.size
    have b1 : Box W3 gg 49 ((cur.setIfInBounds (k * 2) (.int .i64 q1)).setIfInBounds (k * 2 + 1) (.int .i64 q2)) := by rw [← hW3]; exact (HW2.out.2.2.2.alloc _).alloc _
    have b2 : Box W3 (gn + 1) 49 (zrow t.need.length) := by
      have e := Box.made (W2.alloc (.cells #[.int .i64 t.wide, .slice (some ⟨gn + 1, 0, none⟩) t.need.length t.need.length] 24)) 49 (zrow t.need.length)
      rw [World.size_alloc, hgn, hW3] at e
      exact e
    have b3 : Box W3 gn 24 #[.int .i64 t.wide, .slice (some ⟨gn + 1, 0, none⟩) t.need.length t.need.length] := by
      have e := (Box.made W2 24 #[.int .i64 t.wide, .slice (some ⟨gn + 1, 0, none⟩) t.need.length t.need.length]).alloc (.cells (zrow t.need.length) 49)
      rw [hgn, hW3] at e
      exact e
    refine ⟨?_, ?_, ?_, b3, ⟨_, rfl, wide_pairs b1 HCU.out HK.out HG8.out.2.2.2⟩, ⟨_, rfl, zero_pairs b2⟩⟩
    · rw [← hW3]; exact (HW2.out.1.alloc hs _).alloc (by rw [World.size_alloc]; omega) _
    · rw [← hW3]; exact (HW2.out.2.2.1.alloc _).alloc _
    · rw [← hW3]; exact (HW2.out.2.1.alloc _).alloc _)
  clear hW3 hgn
  obtain ⟨n, hn⟩ : ∃ n, fwV t = n := ⟨_, rfl⟩
  obtain ⟨E, hE⟩ : ∃ E, stE t = E := ⟨_, rfl⟩
  obtain ⟨own, hown⟩ : ∃ l, plR t = l := ⟨_, rfl⟩
  obtain ⟨n0, hn0⟩ : ∃ n, fwV (zeroOf t) = n := ⟨_, rfl⟩
  obtain ⟨E0, hE0⟩ : ∃ n, stE (zeroOf t) = n := ⟨_, rfl⟩
  obtain ⟨n1, hn1⟩ : ∃ n, fwV (wideOf t k (q1, q2)) = n := ⟨_, rfl⟩
  obtain ⟨E1, hE1⟩ : ∃ n, stE (wideOf t k (q1, q2)) = n := ⟨_, rfl⟩
  obtain ⟨D1, hD1⟩ : ∃ n, doesE (wideOf t k (q1, q2)) own = n := ⟨_, rfl⟩
  have HV := Lib.hid (⟨hn, hE, hown, hn0, hE0, hn1, hE1, hD1⟩ : fwV t = n ∧ stE t = E ∧ plR t = own ∧ fwV (zeroOf t) = n0 ∧ stE (zeroOf t) = E0 ∧ fwV (wideOf t k (q1, q2)) = n1 ∧ stE (wideOf t k (q1, q2)) = E1 ∧ doesE (wideOf t k (q1, q2)) own = D1)
  have HX := Lib.hid (show (taskB t = true → E0 = 0 ∧ n0 = 0) ∧ (E = 0 → E1 = 0 ∧ n1 ≤ n ∧ D1 = 0) by
    obtain ⟨e1, e2, e3, e4, e5, e6⟩ := HQ.out
    subst e1 e2 e3 e5
    refine ⟨fun h => ?_, fun h => ?_⟩
    · have := zero_fewest h
      omega
    · have hx := wide_ok (t := t) (k := k) (bl := bl) (bh := bh) (q1 := q1) (q2 := q2) (by omega) HK.out HBY.out.1 HBL.out HBY.out.2.1 HBY.out.2.2 e4 e6
      rw [hown] at hx
      omega)
  clear hn hE hown hn0 hE0 hn1 hE1 hD1
  refine (Fewest_e t n E HV.out.1 HV.out.2.1 _ _ (HT.out.mono H3.out.1 H3.out.1.size)).mono ?_; rintro e w4 ⟨rfl, hb4'⟩
  have H4 := Lib.hid (show Below w.heap.size w w4 ∧ Box w4 w.heap.size 24 #[.int .i64 t.wide, .slice (some ⟨b, off, none⟩) t.need.length c] ∧ Box w4 g8 24 #[.int .i64 t.wide, .slice (some ⟨gg, 0, none⟩) t.need.length vc] ∧ Box w4 gn 24 #[.int .i64 t.wide, .slice (some ⟨gn + 1, 0, none⟩) t.need.length t.need.length] ∧
      IsTask w4 w4.heap.size (.agg #[.int .i64 t.wide, .slice (some ⟨gg, 0, none⟩) t.need.length vc]) (wideOf t k (q1, q2)) ∧ IsTask w4 w4.heap.size (.agg #[.int .i64 t.wide, .slice (some ⟨gn + 1, 0, none⟩) t.need.length t.need.length]) (zeroOf t) from
    ⟨H3.out.1.trans (hb4'.mono H3.out.1.size), H3.out.2.1.later hb4', H3.out.2.2.1.later hb4', H3.out.2.2.2.1.later hb4', H3.out.2.2.2.2.1.later hb4', H3.out.2.2.2.2.2.later hb4'⟩)
  have k0 : w4.cell? ⟨w.heap.size, 0, none⟩ = some (.int .i64 t.wide) := H4.out.2.1.cell 0
  have k1 : w4.cell? ⟨w.heap.size, 1, none⟩ = some (.slice (some ⟨b, off, none⟩) t.need.length c) := H4.out.2.1.cell 1
  clear hb4'
  go_wp2_with fail
  clear k0 k1
  refine (Plan_e t own E HV.out.2.2.1 HV.out.2.1 _ _ (HT.out.mono H4.out.1 H4.out.1.size)).mono ?_; rintro e w5 ⟨s5, rfl, hs5, hb5⟩
  have H5 := Lib.hid (show Below w.heap.size w w5 ∧ Box w5 w.heap.size 24 #[.int .i64 t.wide, .slice (some ⟨b, off, none⟩) t.need.length c] ∧ Box w5 g8 24 #[.int .i64 t.wide, .slice (some ⟨gg, 0, none⟩) t.need.length vc] ∧ Box w5 gn 24 #[.int .i64 t.wide, .slice (some ⟨gn + 1, 0, none⟩) t.need.length t.need.length] ∧
      IsTask w5 w5.heap.size (.agg #[.int .i64 t.wide, .slice (some ⟨gg, 0, none⟩) t.need.length vc]) (wideOf t k (q1, q2)) ∧ IsTask w5 w5.heap.size (.agg #[.int .i64 t.wide, .slice (some ⟨gn + 1, 0, none⟩) t.need.length t.need.length]) (zeroOf t) ∧ Ints w5 w5.heap.size s5 own from
    ⟨H4.out.1.trans (hb5.mono H4.out.1.size), H4.out.2.1.later hb5, H4.out.2.2.1.later hb5, H4.out.2.2.2.1.later hb5, H4.out.2.2.2.2.1.later hb5, H4.out.2.2.2.2.2.later hb5, hs5⟩)
  have k0 : w5.cell? ⟨gn, 0, none⟩ = some (.int .i64 t.wide) := H5.out.2.2.2.1.cell 0
  have k1 : w5.cell? ⟨gn, 1, none⟩ = some (.slice (some ⟨gn + 1, 0, none⟩) t.need.length t.need.length) := H5.out.2.2.2.1.cell 1
  clear hb5 hs5
  go_wp2_with fail
  clear k0 k1
  refine (Fewest_e (zeroOf t) n0 E0 HV.out.2.2.2.1 HV.out.2.2.2.2.1 _ _ H5.out.2.2.2.2.2.1).mono ?_; rintro e w6 ⟨rfl, hb6⟩
  have H6 := Lib.hid (show Below w.heap.size w w6 ∧ Box w6 w.heap.size 24 #[.int .i64 t.wide, .slice (some ⟨b, off, none⟩) t.need.length c] ∧ Box w6 g8 24 #[.int .i64 t.wide, .slice (some ⟨gg, 0, none⟩) t.need.length vc] ∧
      IsTask w6 w6.heap.size (.agg #[.int .i64 t.wide, .slice (some ⟨gg, 0, none⟩) t.need.length vc]) (wideOf t k (q1, q2)) ∧ Ints w6 w6.heap.size s5 own from
    ⟨H5.out.1.trans (hb6.mono H5.out.1.size), H5.out.2.1.later hb6, H5.out.2.2.1.later hb6, H5.out.2.2.2.2.1.later hb6, H5.out.2.2.2.2.2.2.later hb6⟩)
  have k0 : w6.cell? ⟨w.heap.size, 0, none⟩ = some (.int .i64 t.wide) := H6.out.2.1.cell 0
  have k1 : w6.cell? ⟨w.heap.size, 1, none⟩ = some (.slice (some ⟨b, off, none⟩) t.need.length c) := H6.out.2.1.cell 1
  clear hb6
  go_wp2_with fail
  clear k0 k1
  refine (Check_c t _ _ (HT.out.mono H6.out.1 H6.out.1.size)).mono ?_; rintro e w7 ⟨rfl, hb7⟩
  have H7' := Lib.hid (show Below w.heap.size w w7 ∧ Box w7 g8 24 #[.int .i64 t.wide, .slice (some ⟨gg, 0, none⟩) t.need.length vc] ∧
      IsTask w7 w7.heap.size (.agg #[.int .i64 t.wide, .slice (some ⟨gg, 0, none⟩) t.need.length vc]) (wideOf t k (q1, q2)) ∧ Ints w7 w7.heap.size s5 own from
    ⟨H6.out.1.trans (hb7.mono H6.out.1.size), H6.out.2.2.1.later hb7, H6.out.2.2.2.1.later hb7, H6.out.2.2.2.2.later hb7⟩)
  clear hb7
  have k0 : w7.cell? ⟨g8, 0, none⟩ = some (.int .i64 t.wide) := H7'.out.2.1.cell 0
  have k1 : w7.cell? ⟨g8, 1, none⟩ = some (.slice (some ⟨gg, 0, none⟩) t.need.length vc) := H7'.out.2.1.cell 1
  have hT : ∃ T, tkE t = T ∧ (T = 0 → E0 = 0 ∧ n0 = 0) := ⟨_, rfl, fun h => HX.out.1 (by
    unfold tkE at h
    by_cases ht : taskB t = true
    · exact ht
    · rw [if_neg ht] at h; omega)⟩
  obtain ⟨T, hT1, hT2⟩ := hT
  rw [hT1]
  have HT2 := Lib.hid hT2
  clear hT1 hT2
  by_cases hE : E = 0
  case neg =>
    have z1 : (E != 0) = true := by simpa using hE
    clear hE
    by_cases h0 : T = 0
    · obtain ⟨rfl, rfl⟩ := HT2.out h0
      subst h0
      go_wp2_with fail
      go_ret
      exact ⟨rfl, H7'.out.1⟩
    · have z2 : (T == 0) = false := by simpa using h0
      clear h0
      go_wp2_with fail
      go_ret
      exact ⟨rfl, H7'.out.1⟩
  subst hE
  obtain ⟨hE1, hn1, hD1⟩ := HX.out.2 rfl
  subst hE1 hD1
  have z5 : decide (n1 ≤ n) = true := by simpa using hn1
  clear hn1
  by_cases h0 : T = 0
  · obtain ⟨rfl, rfl⟩ := HT2.out h0
    subst h0
    go_wp2_with fail
    refine (Fewest_e (wideOf t k (q1, q2)) n1 0 HV.out.2.2.2.2.2.1 HV.out.2.2.2.2.2.2.1 _ _ H7'.out.2.2.1).mono ?_; rintro e w8 ⟨rfl, hb8⟩
    have H8 := Lib.hid (show Below w.heap.size w w8 ∧ Box w8 g8 24 #[.int .i64 t.wide, .slice (some ⟨gg, 0, none⟩) t.need.length vc] ∧
        IsTask w8 w8.heap.size (.agg #[.int .i64 t.wide, .slice (some ⟨gg, 0, none⟩) t.need.length vc]) (wideOf t k (q1, q2)) ∧ Ints w8 w8.heap.size s5 own from
      ⟨H7'.out.1.trans (hb8.mono H7'.out.1.size), H7'.out.2.1.later hb8, H7'.out.2.2.1.later hb8, H7'.out.2.2.2.later hb8⟩)
    clear hb8 k0 k1
    have k0 : w8.cell? ⟨g8, 0, none⟩ = some (.int .i64 t.wide) := H8.out.2.1.cell 0
    have k1 : w8.cell? ⟨g8, 1, none⟩ = some (.slice (some ⟨gg, 0, none⟩) t.need.length vc) := H8.out.2.1.cell 1
    go_wp2_with fail
    refine (Does_e (wideOf t k (q1, q2)) own 0 HV.out.2.2.2.2.2.2.2 _ _ _ H8.out.2.2.1 H8.out.2.2.2).mono ?_; rintro e w9 ⟨rfl, hb9⟩
    have H9 := Lib.hid (H8.out.1.trans (hb9.mono H8.out.1.size))
    clear hb9
    go_wp2_with fail
    go_ret
    exact ⟨rfl, H9.out⟩
  · have z2 : (T == 0) = false := by simpa using h0
    clear h0
    go_wp2_with fail
    refine (Fewest_e (wideOf t k (q1, q2)) n1 0 HV.out.2.2.2.2.2.1 HV.out.2.2.2.2.2.2.1 _ _ H7'.out.2.2.1).mono ?_; rintro e w8 ⟨rfl, hb8⟩
    have H8 := Lib.hid (show Below w.heap.size w w8 ∧ Box w8 g8 24 #[.int .i64 t.wide, .slice (some ⟨gg, 0, none⟩) t.need.length vc] ∧
        IsTask w8 w8.heap.size (.agg #[.int .i64 t.wide, .slice (some ⟨gg, 0, none⟩) t.need.length vc]) (wideOf t k (q1, q2)) ∧ Ints w8 w8.heap.size s5 own from
      ⟨H7'.out.1.trans (hb8.mono H7'.out.1.size), H7'.out.2.1.later hb8, H7'.out.2.2.1.later hb8, H7'.out.2.2.2.later hb8⟩)
    clear hb8 k0 k1
    have k0 : w8.cell? ⟨g8, 0, none⟩ = some (.int .i64 t.wide) := H8.out.2.1.cell 0
    have k1 : w8.cell? ⟨g8, 1, none⟩ = some (.slice (some ⟨gg, 0, none⟩) t.need.length vc) := H8.out.2.1.cell 1
    go_wp2_with fail
    refine (Does_e (wideOf t k (q1, q2)) own 0 HV.out.2.2.2.2.2.2.2 _ _ _ H8.out.2.2.1 H8.out.2.2.2).mono ?_; rintro e w9 ⟨rfl, hb9⟩
    have H9 := Lib.hid (H8.out.1.trans (hb9.mono H8.out.1.size))
    clear hb9
    go_wp2_with fail
    go_ret
    exact ⟨rfl, H9.out⟩

end Go.Proofs.Ytfhbpeafapabhaa

/- Longest walks in memory: a round of lifts, and the edge by which a walk comes to a point. -/
import Derived.Test.YtfafjojoapcliaaR3
namespace Go.Proofs.Ytfafjojoapcliaa
open Go.RowKit

set_option maxRecDepth 100000 in
set_option maxHeartbeats 16000000 in
theorem lift_c (w : World) (g gl gb N B0 : Nat) (lv : Value) (es : List Eg) (s : Lf) (h : Gb w g gl gb N lv es s.L s.B) (hto : ∀ x ∈ es, x.fr < N ∧ x.to < N) (hmore : ∀ x ∈ es, -100000 ≤ x.more ∧ x.more ≤ 100000)
    (hbig : ∀ i, i ≤ es.length → ∀ k, 0 ≤ nth (liftTo es s i).L k ∧ nth (liftTo es s i).L k ≤ 100000000000) (hl : 0 < es.length) (hl2 : es.length ≤ 2000) (hN : N ≤ 1000) (hB1 : B0 ≤ gl) (hB2 : B0 ≤ gb) :
    Calls Try.prog 66 #[.pointer (some ⟨g, 0, none⟩)] w fun e w' => e = .returned (.int .i64 (liftAll es s).last) ∧ Gb w' g gl gb N lv es (liftAll es s).L (liftAll es s).B ∧ Below B0 w w' := by
  have HG := Lib.hid h
  obtain ⟨ge, cap, rfl, -, -, -, -⟩ := h.edge hl
  have q0 : w.cell? ⟨g, 0, none⟩ = some (.slice (some ⟨ge, 0, none⟩) es.length cap) := h.b0.cell 0
  have HP := Lib.hid (show 0 < es.length ∧ es.length ≤ 2000 ∧ N ≤ 1000 ∧ B0 ≤ gl ∧ B0 ≤ gb from ⟨hl, hl2, hN, hB1, hB2⟩)
  have HT := Lib.hid hto
  have HM := Lib.hid hmore
  have HBG := Lib.hid hbig
  have HU := Lib.hid (show liftAll es s = liftTo es s es.length from rfl)
  clear h hto hmore hbig hl hl2 hN hB1 hB2
  go_enter Try.func66, Try.ntmps66
  go_wp2_with fail
  clear q0
  go_loopw [3, 13] (fun la iv wr => ∃ i : Nat, i ≤ es.length ∧ iv = .int .i64 (i : Int) ∧ la = .int .i64 (liftTo es s i).last ∧ Gb wr g gl gb N (.slice (some ⟨ge, 0, none⟩) es.length cap) es (liftTo es s i).L (liftTo es s i).B ∧ Below B0 w wr) (fun _ iv _ => es.length - (intOf iv).toNat)
  case atStart => exact ⟨0, Nat.zero_le _, rfl, rfl, HG.out, Below.refl _ _⟩
  case round =>
    clear HG
    obtain ⟨i, hi, rfl, rfl, hg, hbr⟩ := hrel
    by_cases hlt : i < es.length
    · obtain ⟨ge', cap', he, hge1, hge2, hcap, hE⟩ := hg.edge HP.out.1
      cases he
      have hx := egAt_mem hlt
      have htx := HT.out _ hx
      have hmx := HM.out _ hx
      have hnext : liftTo es s (i + 1) = lfStep (egAt es i) i (liftTo es s i) := rfl
      have hbg := HBG.out i hi
      have hE0 := hE i 0 hlt (by omega)
      have hE1 := hE i 1 hlt (by omega)
      have hE2 := hE i 2 hlt (by omega)
      have hE3 := hE i 3 hlt (by omega)
      have hE4 := hE i 4 hlt (by omega)
      clear hE hx
      generalize egAt es i = x at *
      obtain ⟨fr, to, more, cell, high⟩ := x
      generalize hst : liftTo es s i = st at *
      clear hst
      dsimp only [egCells, List.getElem?_cons_zero, List.getElem?_cons_succ, Nat.add_zero] at hE0 hE1 hE2 hE3 hE4 htx hmx
      have b1 := hbg fr
      have b2 := hbg to
      have hlf := hg.lenL
      have r1 : wr.cell? ⟨gl, fr, none⟩ = some (.int .i64 (nth st.L fr)) := hg.rl.cell (by omega)
      have r2 : wr.cell? ⟨gl, to, none⟩ = some (.int .i64 (nth st.L to)) := hg.rl.cell (by omega)
      have r3 : wr.cell? ⟨gb, to, none⟩ = some (.int .i64 (nth st.B to)) := hg.rb.cell (by have := hg.lenB; omega)
      have l1 : gl < wr.heap.size := hg.rl.lt
      have l2 : gb < wr.heap.size := hg.rb.lt
      have l3 := hg.gsize
      have k1 : ∀ o : Obj, (wr.alloc o).cell? ⟨g, 1, none⟩ = some (.slice (some ⟨gl, 0, none⟩) N N) := fun o => (hg.b0.alloc o).cell 1
      have k2 : ∀ o : Obj, (wr.alloc o).cell? ⟨g, 2, none⟩ = some (.slice (some ⟨gb, 0, none⟩) N N) := fun o => (hg.b0.alloc o).cell 2
      have k3 : ∀ o : Obj, (wr.alloc o).cell? ⟨gl, fr, none⟩ = some (.int .i64 (nth st.L fr)) := fun o => keepd r1 ((Below.refl _ _).alloc (Nat.le_refl _) o) l1
      have k4 : ∀ o : Obj, (wr.alloc o).cell? ⟨gl, to, none⟩ = some (.int .i64 (nth st.L to)) := fun o => keepd r2 ((Below.refl _ _).alloc (Nat.le_refl _) o) l1
      have wv : IntKind.i64.wrap (nth st.L fr + more) = nth st.L fr + more := wrap_id (by omega) (by omega)
      have hd : decide ((i : Int) < (es.length : Int)) = true := by simpa using hlt
      have i0 : (0 : Int) ≤ (i : Int) := by omega
      have i1 : (i : Int) < (es.length : Int) := by omega
      have i2 : i ≤ 2000 := by have := HP.out; omega
      have j0 : (0 : Int) ≤ (fr : Int) := by omega
      have j1 : (fr : Int) < (N : Int) := by omega
      have j2 : (0 : Int) ≤ (to : Int) := by omega
      have j3 : (to : Int) < (N : Int) := by omega
      have HK := Lib.hid (show i < es.length ∧ fr < N ∧ to < N ∧ gl < wr.heap.size ∧ gb < wr.heap.size ∧ g < wr.heap.size from ⟨hlt, htx.1, htx.2, l1, l2, l3⟩)
      have HG := Lib.hid hg
      have HB := Lib.hid hbr
      have HN := Lib.hid hnext
      clear htx hmx hnext hbg b1 b2 hlf r1 r2 r3 l1 l2 l3 hg hbr hi hlt hge1 hge2 hcap
      by_cases hc : nth st.L to < nth st.L fr + more
      · have hst' : liftTo es s (i + 1) = ⟨st.L.set to (nth st.L fr + more), st.B.set to (i : Int), (to : Int)⟩ := by rw [HN.out]; unfold lfStep; rw [if_pos hc]
        have HST := Lib.hid hst'
        have hdc : decide (nth st.L to < nth st.L fr + more) = true := by simpa using hc
        clear hst' hc
        go_wp2_with fail
        go_quiet (fail)
        generalize nq = n1 at *
        go_wp2_with fail
        go_quiet (fail)
        generalize nq = n2 at *
        go_wp2_with fail
        clear hE0 hE1 hE2 hE3 hE4 k1 k2 k3 k4 wv hd hdc
        have hal : Below wr.heap.size wr (((wr.alloc (.cells #[.int .i64 (fr : Int), .int .i64 (to : Int), .int .i64 more, .int .i64 cell, .bool high] 101)).drewN n1).drewN n2) := by
          have h0 := (Below.refl wr.heap.size wr).alloc (Nat.le_refl _) (.cells #[.int .i64 (fr : Int), .int .i64 (to : Int), .int .i64 more, .int .i64 cell, .bool high] 101)
          exact ⟨h0.os, h0.tape, h0.output, h0.size, h0.block⟩
        have hbx : Box (((wr.alloc (.cells #[.int .i64 (fr : Int), .int .i64 (to : Int), .int .i64 more, .int .i64 cell, .bool high] 101)).drewN n1).drewN n2) wr.heap.size 101 #[.int .i64 (fr : Int), .int .i64 (to : Int), .int .i64 more, .int .i64 cell, .bool high] := Box.made wr _ _
        generalize (((wr.alloc (.cells #[.int .i64 (fr : Int), .int .i64 (to : Int), .int .i64 more, .int .i64 cell, .bool high] 101)).drewN n1).drewN n2) = W3 at *
        have hg3 := HG.out.later hal
        have hlt3 := hg3.lt
        have hk := HK.out
        have m1 : W3.cell? ⟨g, 1, none⟩ = some (.slice (some ⟨gl, 0, none⟩) N N) := hg3.b0.cell 1
        have m2 : W3.cell? ⟨g, 2, none⟩ = some (.slice (some ⟨gb, 0, none⟩) N N) := hg3.b0.cell 2
        have m3 : W3.cell? ⟨wr.heap.size, 1, none⟩ = some (.int .i64 (to : Int)) := hbx.cell 1
        have m4 : W3.cell? ⟨gl, to, none⟩ = some (.int .i64 (nth st.L to)) := hg3.rl.cell (by have := hg3.lenL; omega)
        have m5 : W3.cell? ⟨gb, to, none⟩ = some (.int .i64 (nth st.B to)) := hg3.rb.cell (by have := hg3.lenB; omega)
        have m6 := hg3.rl.free to
        have m7 := hg3.rb.free to
        have d1 : gl ≠ gb := by omega
        have d2 : gb ≠ gl := by omega
        have d3 : g ≠ gl := by omega
        have d4 : g ≠ gb := by omega
        have d5 : wr.heap.size ≠ gl := by omega
        have d6 : wr.heap.size ≠ gb := by omega
        have HF := Lib.hid ((hg3.setL to (nth st.L fr + more)).setB to (i : Int))
        have HF2 := Lib.hid (show Below B0 w ((W3.setCell ⟨gl, to, none⟩ (.int .i64 (nth st.L fr + more))).setCell ⟨gb, to, none⟩ (.int .i64 (i : Int))) from
          ((HB.out.trans (hal.mono (by have := HP.out; omega))).setCell (by have := HP.out; show B0 ≤ gl; omega) _).setCell (by have := HP.out; show B0 ≤ gb; omega) _)
        clear hal hbx hg3 hlt3 hk
        generalize wr.heap.size = xb at *
        generalize nth st.L fr + more = nv at *
        generalize nth st.L to = ov at *
        generalize nth st.B to = ob at *
        go_region
        go_wp2_with fail
        go_roundw
        case rel => exact ⟨i + 1, by have := HK.out; omega, by go_num, by rw [HST.out], by rw [HST.out]; exact HF.out.later (Below.refl _ _).drew, HF2.out.drew⟩
        case measure => have := HK.out; simp [intOf]; omega
      · have hst' : liftTo es s (i + 1) = st := by rw [HN.out]; unfold lfStep; rw [if_neg hc]
        have HST := Lib.hid hst'
        have hdc : decide (nth st.L to < nth st.L fr + more) = false := by simpa using hc
        clear hst' hc
        go_wp2_with fail
        go_quiet (fail)
        go_wp2_with fail
        go_quiet (fail)
        go_wp2_with fail
        go_roundw
        case rel =>
          have h0 := (Below.refl wr.heap.size wr).alloc (Nat.le_refl _) (.cells #[.int .i64 (fr : Int), .int .i64 (to : Int), .int .i64 more, .int .i64 cell, .bool high] 101)
          refine ⟨i + 1, by have := HK.out; omega, by go_num, by rw [HST.out], ?_, ?_⟩
          · rw [HST.out]; exact HG.out.later ⟨h0.os, h0.tape, h0.output, h0.size, h0.block⟩
          · exact HB.out.trans (Below.mono (B := wr.heap.size) ⟨h0.os, h0.tape, h0.output, h0.size, h0.block⟩ (by have := HK.out; have := HP.out; omega))
        case measure => have := HK.out; simp [intOf]; omega
    · obtain rfl : i = es.length := by omega
      have hd : decide ((es.length : Int) < (es.length : Int)) = false := by simp
      have HG := Lib.hid hg
      have HB := Lib.hid hbr
      clear hg hbr hi hlt
      go_wp2_with fail
      go_ret
      exact ⟨by rw [HU.out]; rfl, by rw [HU.out]; exact HG.out, HB.out⟩

set_option maxRecDepth 100000 in
set_option maxHeartbeats 8000000 in
theorem last_c (w : World) (g gl gb N : Nat) (lv : Value) (es : List Eg) (L B : List Int) (v i : Nat) (h : Gb w g gl gb N lv es L B) (hv : v < N) (hi : i < es.length) (hB : nth B v = (i : Int)) :
    Calls Try.prog 41 #[.pointer (some ⟨g, 0, none⟩), .int .i64 (v : Int)] w fun e w' => e = .returned (.agg #[.int .i64 ((egAt es i).fr : Int), .int .i64 ((egAt es i).to : Int), .int .i64 (egAt es i).more, .int .i64 (egAt es i).cell, .bool (egAt es i).high]) ∧ Below w.heap.size w w' := by
  obtain ⟨ge, cap, rfl, hge1, hge2, hcap, hE⟩ := h.edge (by omega)
  obtain ⟨W1, hW1e⟩ : ∃ W1, (w.alloc (.cells #[.int .i64 0, .int .i64 0, .int .i64 0, .int .i64 0, .bool false] 101)).drew = W1 := ⟨_, rfl⟩
  have hb1 : Below w.heap.size w W1 := by rw [← hW1e]; exact ((Below.refl _ _).alloc (Nat.le_refl _) _).drew
  have hbx : Box W1 w.heap.size 101 #[.int .i64 0, .int .i64 0, .int .i64 0, .int .i64 0, .bool false] := by rw [← hW1e]; exact Box.made w _ _
  have h1 := h.later hb1
  have m0 : W1.cell? ⟨g, 0, none⟩ = some (.slice (some ⟨ge, 0, none⟩) es.length cap) := h1.b0.cell 0
  have m2 : W1.cell? ⟨g, 2, none⟩ = some (.slice (some ⟨gb, 0, none⟩) N N) := h1.b0.cell 2
  have m3 : W1.cell? ⟨gb, v, none⟩ = some (.int .i64 (i : Int)) := by rw [h1.rb.cell (by rw [h1.lenB]; exact hv), hB]
  have hE0 := keepd (hE i 0 hi (by omega)) hb1 hge2
  have hE1 := keepd (hE i 1 hi (by omega)) hb1 hge2
  have hE2 := keepd (hE i 2 hi (by omega)) hb1 hge2
  have hE3 := keepd (hE i 3 hi (by omega)) hb1 hge2
  have hE4 := keepd (hE i 4 hi (by omega)) hb1 hge2
  clear hE
  generalize egAt es i = x at *
  obtain ⟨fr, to, more, cell, high⟩ := x
  dsimp only [egCells, List.getElem?_cons_zero, List.getElem?_cons_succ, Nat.add_zero] at hE0 hE1 hE2 hE3 hE4
  dsimp only
  have j0 : (0 : Int) ≤ (v : Int) := by omega
  have j1 : (v : Int) < (N : Int) := by omega
  have j2 : (0 : Int) ≤ (i : Int) := by omega
  have j3 : (i : Int) < (es.length : Int) := by omega
  have z0 : W1.cell? ⟨w.heap.size, 0, none⟩ = some (.int .i64 0) := hbx.cell 0
  have z1 : W1.cell? ⟨w.heap.size, 1, none⟩ = some (.int .i64 0) := hbx.cell 1
  have z2 : W1.cell? ⟨w.heap.size, 2, none⟩ = some (.int .i64 0) := hbx.cell 2
  have z3 : W1.cell? ⟨w.heap.size, 3, none⟩ = some (.int .i64 0) := hbx.cell 3
  have z4 : W1.cell? ⟨w.heap.size, 4, none⟩ = some (.bool false) := hbx.cell 4
  have y0 := hbx.free 0
  have y1 := hbx.free 1
  have y2 := hbx.free 2
  have y3 := hbx.free 3
  have y4 := hbx.free 4
  have HB := Lib.hid (show ∀ c0 c1 c2 c3 c4 : Value, Below w.heap.size w (((((W1.setCell ⟨w.heap.size, 0, none⟩ c0).setCell ⟨w.heap.size, 1, none⟩ c1).setCell ⟨w.heap.size, 2, none⟩ c2).setCell ⟨w.heap.size, 3, none⟩ c3).setCell ⟨w.heap.size, 4, none⟩ c4) from fun c0 c1 c2 c3 c4 =>
    ((((hb1.setCell (by simp) _).setCell (by simp) _).setCell (by simp) _).setCell (by simp) _).setCell (by simp) _)
  clear h h1 hv hi hB hge1 hge2 hcap hbx hb1
  go_enter Try.func41, Try.ntmps41
  go_wp2_with fail
  refine still_tail 14 W1 hW1e (by kernel_rfl) (by kernel_rfl) ?_
  clear hW1e
  simp only [List.take_succ_cons, List.take_zero, List.drop_succ_cons, List.drop_zero]
  repeat still_step
  refine wpStill_nil ?_
  go_wp2_with fail
  refine bodyPost_ret (v := .agg #[.int .i64 (fr : Int), .int .i64 (to : Int), .int .i64 more, .int .i64 cell, .bool high]) (by simp [results, Try.results41, go_sem, *]) rfl ⟨rfl, ?_⟩
  exact HB.out _ _ _ _ _

end Go.Proofs.Ytfafjojoapcliaa

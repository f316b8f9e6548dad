/- Layer 3: what has fallen after some knocks and turns: the specification's side. -/
import Derived.Test.YtobhnkkjhglgcaaI5r
set_option linter.unusedSimpArgs false
namespace Go.Proofs.Ytobhnkkjhglgcaa
open Go.RowKit

set_option maxRecDepth 100000 in
set_option maxHeartbeats 8000000 in
theorem rDrawn_c (x d k n : Int) (w : World) : Calls Try.prog 8 #[feedV x d k, .int .i64 n] w fun e w' => e = .returned (.tuple #[.int .i64 (drF x d k n), .int .i64 (drL x d k n), .int .i64 (drE x d k n)]) ∧ Below w.heap.size w w' := by
  have HBX := Lib.hid (feedBx_made w x d k)
  cases hf : feedB x d k
  · have HF := Lib.hid hf
    have HV := Lib.hid (show drF x d k n = 0 ∧ drL x d k n = 0 ∧ drE x d k n = 33 by unfold drF drL drE; rw [hf]; exact ⟨rfl, rfl, rfl⟩)
    rw [HV.out.1, HV.out.2.1, HV.out.2.2]
    clear hf
    go_enter Try.func8, Try.ntmps8
    go_wp2_with fail
    refine (rValidFeed_c x d k _).mono ?_; rintro e w1 ⟨rfl, hb1⟩
    rw [HF.out]
    go_wp2_with fail
    go_ret3
    exact ⟨rfl, boxed hb1⟩
  have HF := Lib.hid hf
  cases hn : inB n 0 1000000
  · have HN := Lib.hid hn
    have HV := Lib.hid (show drF x d k n = 0 ∧ drL x d k n = 0 ∧ drE x d k n = 1 by unfold drF drL drE; rw [hf, hn]; exact ⟨rfl, rfl, rfl⟩)
    rw [HV.out.1, HV.out.2.1, HV.out.2.2]
    clear hf hn
    go_enter Try.func8, Try.ntmps8
    go_wp2_with fail
    refine (rValidFeed_c x d k _).mono ?_; rintro e w1 ⟨rfl, hb1⟩
    rw [HF.out]
    go_wp2_with fail
    refine (rwithin_b n 0 1000000 false HN.out _).mono ?_; rintro e w' ⟨rfl, rfl⟩
    go_wp2_with fail
    go_ret3
    exact ⟨rfl, boxed hb1⟩
  have HNN := Lib.hid hn
  obtain ⟨⟨h0, h1⟩, ⟨d0, d1⟩, k0, k1⟩ := feedB_iff.1 hf
  obtain ⟨n0, n1⟩ := inB_iff.1 hn
  obtain ⟨p, hp⟩ : ∃ p, rt n d = p := ⟨_, rfl⟩
  have hpb := rt_in n0 d0
  have hpm := rt_min (x := x) n0 d0 h1
  rw [hp] at hpb hpm
  rw [Int.mul_comm n d] at hpm
  obtain ⟨p0, p1, -⟩ := hpb
  obtain ⟨r, hr⟩ : ∃ r, min x p = r := ⟨_, rfl⟩
  have HV := Lib.hid (show drF x d k n = r ∧ drL x d k n = x - r ∧ drE x d k n = 0 by unfold drF drL drE; rw [hf, hn, ← hpm, hr]; exact ⟨rfl, rfl, rfl⟩)
  rw [HV.out.1, HV.out.2.1, HV.out.2.2]
  have HP := Lib.hid hp
  have HR := Lib.hid hr
  have HRT := Lib.hid (show 0 ≤ n ∧ n ≤ 1000000 ∧ 1 ≤ d ∧ d ≤ 1000000 from ⟨n0, n1, d0, d1⟩)
  have wx : IntKind.i64.wrap (x - r) = x - r := wrap_id (by omega) (by omega)
  clear hf hn hp hr hpm p0 p1 h0 h1 d0 d1 k0 k1 n0 n1
  go_enter Try.func8, Try.ntmps8
  go_wp2_with fail
  refine (rValidFeed_c x d k _).mono ?_; rintro e w1 ⟨rfl, hb1⟩
  rw [HF.out]
  have b1 := HBX.out.later hb1
  have q0 : w1.cell? ⟨w.heap.size, 0, none⟩ = some (.int .i64 x) := b1.cell 0
  have q1 : w1.cell? ⟨w.heap.size, 1, none⟩ = some (.int .i64 d) := b1.cell 1
  have hsz : w.heap.size < w1.heap.size := b1.lt
  have HB1 := Lib.hid (boxed hb1)
  clear hb1 b1
  go_wp2_with fail
  refine (rwithin_b n 0 1000000 true HNN.out _).mono ?_; rintro e w' ⟨rfl, rfl⟩
  go_wp2_with fail
  go_region_held3 (fun W => W.cell? ⟨(w.heap.size), 0, none⟩ = some (.int .i64 x) ∧ W.cell? ⟨(w.heap.size), 1, none⟩ = some (.int .i64 d) ∧ Below w1.heap.size w1 W ∧ w1.heap.size ≤ W.heap.size) (first | assumption | (refine ⟨?_, ?_, (Below.refl _ _).drew, by first | (simp; done) | (simp; omega) | omega⟩ <;> go_keep) | (obtain ⟨x0, x1, xb, xs⟩ := ‹_ ∧ _›; first | exact ⟨keepd x0 (Below.alloc (Below.refl (w1.heap.size) _) xs _) (by omega), keepd x1 (Below.alloc (Below.refl (w1.heap.size) _) xs _) (by omega), Below.trans xb (Below.mono (Below.alloc (Below.refl (w1.heap.size) _) xs _) (by omega)), Nat.le_trans xs (Below.size (Below.alloc (Below.refl (w1.heap.size) _) xs _))⟩ | exact ⟨keepd x0 (Below.mono (B' := w1.heap.size) (by assumption) xs) (by omega), keepd x1 (Below.mono (B' := w1.heap.size) (by assumption) xs) (by omega), Below.trans xb (Below.mono (Below.mono (B' := w1.heap.size) (by assumption) xs) (by omega)), Nat.le_trans xs (Below.size (Below.mono (B' := w1.heap.size) (by assumption) xs))⟩ | exact ⟨keepd x0 (hgst) (by omega), keepd x1 (hgst) (by omega), Below.trans xb (Below.mono (hgst) (by omega)), Nat.le_trans xs (Below.size (hgst))⟩ | exact ⟨keepd x0 (Below.setCell (Below.refl (w1.heap.size) _) (by first | (simp; done) | (simp; omega)) _) (by omega), keepd x1 (Below.setCell (Below.refl (w1.heap.size) _) (by first | (simp; done) | (simp; omega)) _) (by omega), Below.trans xb (Below.mono (Below.setCell (Below.refl (w1.heap.size) _) (by first | (simp; done) | (simp; omega)) _) (by omega)), Nat.le_trans xs (Below.size (Below.setCell (Below.refl (w1.heap.size) _) (by first | (simp; done) | (simp; omega)) _))⟩ | exact ⟨keepd x0 (Below.setCell (Below.setCell (Below.setCell (Below.setCell (Below.refl (w1.heap.size) _) (by first | (simp; done) | (simp; omega)) _) (by first | (simp; done) | (simp; omega)) _) (by first | (simp; done) | (simp; omega)) _) (by first | (simp; done) | (simp; omega)) _) (by omega), keepd x1 (Below.setCell (Below.setCell (Below.setCell (Below.setCell (Below.refl (w1.heap.size) _) (by first | (simp; done) | (simp; omega)) _) (by first | (simp; done) | (simp; omega)) _) (by first | (simp; done) | (simp; omega)) _) (by first | (simp; done) | (simp; omega)) _) (by omega), Below.trans xb (Below.mono (Below.setCell (Below.setCell (Below.setCell (Below.setCell (Below.refl (w1.heap.size) _) (by first | (simp; done) | (simp; omega)) _) (by first | (simp; done) | (simp; omega)) _) (by first | (simp; done) | (simp; omega)) _) (by first | (simp; done) | (simp; omega)) _) (by omega)), Nat.le_trans xs (Below.size (Below.setCell (Below.setCell (Below.setCell (Below.setCell (Below.refl (w1.heap.size) _) (by first | (simp; done) | (simp; omega)) _) (by first | (simp; done) | (simp; omega)) _) (by first | (simp; done) | (simp; omega)) _) (by first | (simp; done) | (simp; omega)) _))⟩)) (first | (go_at_call 23; refine (rtimes_b n d p _ HP.out HRT.out).mono ?_; rintro e w' ⟨rfl, rfl⟩))
  have HB2 := Lib.hid (show Below w.heap.size w w1.drew from HB1.out.drew)
  have HQ := Lib.hid (show ∀ nq, Below w.heap.size w (w1.drew.drewN nq) from fun nq => ⟨HB2.out.os, HB2.out.tape, HB2.out.output, HB2.out.size, HB2.out.block⟩)
  rw [show (if p < x then p else x) = r by have := HR.out; split <;> omega]
  have q0' : w1.drew.cell? ⟨w.heap.size, 0, none⟩ = some (.int .i64 x) := q0
  go_wp2_with fail
  go_quiet (fail)
  go_wp2_with fail
  go_ret3
  exact ⟨rfl, HQ.out _⟩

set_option maxRecDepth 100000 in
set_option maxHeartbeats 8000000 in
theorem rFed_c (x d k n : Int) (w : World) : Calls Try.prog 10 #[feedV x d k, .int .i64 n] w fun e w' => e = .returned (.tuple #[.int .i64 (fdV x d k n), .int .i64 (drE x d k n)]) ∧ Below w.heap.size w w' := by
  have HBX := Lib.hid (feedBx_made w x d k)
  cases hf : feedB x d k
  · have HF := Lib.hid hf
    have HV := Lib.hid (show fdV x d k n = 0 ∧ drE x d k n = 33 by unfold fdV drE; rw [hf]; exact ⟨rfl, rfl⟩)
    rw [HV.out.1, HV.out.2]
    clear hf
    go_enter Try.func10, Try.ntmps10
    go_wp2_with fail
    refine (rValidFeed_c x d k _).mono ?_; rintro e w1 ⟨rfl, hb1⟩
    rw [HF.out]
    go_wp2_with fail
    go_ret2
    exact ⟨rfl, boxed hb1⟩
  have HF := Lib.hid hf
  cases hn : inB n 0 1000000
  · have HN := Lib.hid hn
    have HV := Lib.hid (show fdV x d k n = 0 ∧ drE x d k n = 1 by unfold fdV drE; rw [hf, hn]; exact ⟨rfl, rfl⟩)
    rw [HV.out.1, HV.out.2]
    clear hf hn
    go_enter Try.func10, Try.ntmps10
    go_wp2_with fail
    refine (rValidFeed_c x d k _).mono ?_; rintro e w1 ⟨rfl, hb1⟩
    rw [HF.out]
    go_wp2_with fail
    refine (rwithin_b n 0 1000000 false HN.out _).mono ?_; rintro e w' ⟨rfl, rfl⟩
    go_wp2_with fail
    go_ret2
    exact ⟨rfl, boxed hb1⟩
  have HNN := Lib.hid hn
  obtain ⟨⟨h0, h1⟩, ⟨d0, d1⟩, k0, k1⟩ := feedB_iff.1 hf
  obtain ⟨n0, n1⟩ := inB_iff.1 hn
  obtain ⟨m, hm⟩ : ∃ m, rt n k = m := ⟨_, rfl⟩
  obtain ⟨p, hp⟩ : ∃ p, rt m d = p := ⟨_, rfl⟩
  have hmb := rt_in n0 k0
  have hpm := rt_min2 (x := x) n0 k0 d0 h1
  rw [hm] at hmb hpm
  obtain ⟨m0, m1, -⟩ := hmb
  have hpb := rt_in m0 d0
  rw [hp] at hpb hpm
  obtain ⟨p0, p1, -⟩ := hpb
  obtain ⟨r, hr⟩ : ∃ r, min x p = r := ⟨_, rfl⟩
  have HV := Lib.hid (show fdV x d k n = r ∧ drE x d k n = 0 by unfold fdV drE; rw [hf, hn, ← hpm, hr]; exact ⟨rfl, rfl⟩)
  rw [HV.out.1, HV.out.2]
  have HM := Lib.hid hm
  have HP := Lib.hid hp
  have HR := Lib.hid hr
  have HRT := Lib.hid (show 0 ≤ n ∧ n ≤ 1000000 ∧ 1 ≤ k ∧ k ≤ 1000000 from ⟨n0, n1, k0, by omega⟩)
  have HRU := Lib.hid (show 0 ≤ m ∧ m ≤ 1000000 ∧ 1 ≤ d ∧ d ≤ 1000000 from ⟨m0, m1, d0, d1⟩)
  clear hf hn hp hr hm hpm p0 p1 h0 h1 d0 d1 k0 k1 n0 n1 m0 m1
  go_enter Try.func10, Try.ntmps10
  go_wp2_with fail
  refine (rValidFeed_c x d k _).mono ?_; rintro e w1 ⟨rfl, hb1⟩
  rw [HF.out]
  have b1 := HBX.out.later hb1
  have BX1 := Lib.hid b1
  have HB1 := Lib.hid (boxed hb1)
  clear hb1 b1
  go_wp2_with fail
  refine (rwithin_b n 0 1000000 true HNN.out _).mono ?_; rintro e w' ⟨rfl, rfl⟩
  go_wp2_with fail
  refine rfed_r x d k n m p w.heap.size HM HP HRT HRU _ _ _ _ _ _ _ _ _ _ _ _ _ _ _ _ _ _ _ _ _ _ BX1.out ?_
  intro y12 y13 y14 y15 y16 y17 y18 y19 y20 y21 w14 hb14
  rw [show (if p < x then p else x) = r by have := HR.out; split <;> omega]
  go_wp2_with fail
  go_ret2
  exact ⟨rfl, chain HB1.out hb14⟩

end Go.Proofs.Ytobhnkkjhglgcaa

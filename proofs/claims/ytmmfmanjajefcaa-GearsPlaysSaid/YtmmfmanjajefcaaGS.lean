/- Layer 7: feeds of layer 3: which are valid, and what has fallen after some knocks. -/
import Derived.Test.YtmmfmanjajefcaaGC
import Derived.Laws.EntriesVeiled
set_option linter.all false
namespace Go.Proofs.Ytmmfmanjajefcaa
open Go.RowKit

abbrev feedV (h d k : Int) : Value := .agg #[.int .i64 h, .int .i64 d, .int .i64 k]
theorem feedB_iff {h d k : Int} : feedB h d k = true ↔ (0 ≤ h ∧ h ≤ 1000000) ∧ (1 ≤ d ∧ d ≤ 1000000) ∧ 1 ≤ k ∧ k ≤ 4096 := by
  unfold feedB; rw [Bool.and_eq_true, Bool.and_eq_true, inB_iff, inB_iff, inB_iff, and_assoc]

set_option maxHeartbeats 1000000 in
theorem num1_c (h d k : Int) (w : World) : Calls Try.prog 88 #[feedV h d k] w fun e w' => e = .returned (.int .i64 h) ∧ Below w.heap.size w w' := by
  go_enter Try.func88, Try.ntmps88
  go_wp2
  go_ret
  exact ⟨rfl, (Below.refl _ _).alloc (Nat.le_refl _) _⟩
set_option maxHeartbeats 1000000 in
theorem num2_c (h d k : Int) (w : World) : Calls Try.prog 89 #[feedV h d k] w fun e w' => e = .returned (.int .i64 d) ∧ Below w.heap.size w w' := by
  go_enter Try.func89, Try.ntmps89
  go_wp2
  go_ret
  exact ⟨rfl, (Below.refl _ _).alloc (Nat.le_refl _) _⟩
set_option maxHeartbeats 1000000 in
theorem num3_c (h d k : Int) (w : World) : Calls Try.prog 90 #[feedV h d k] w fun e w' => e = .returned (.int .i64 k) ∧ Below w.heap.size w w' := by
  go_enter Try.func90, Try.ntmps90
  go_wp2
  go_ret
  exact ⟨rfl, (Below.refl _ _).alloc (Nat.le_refl _) _⟩

/-- the table of bounds -/
abbrev feedTab : Array Value := #[.func (.func 88) #[] #[], .int .i64 0, .int .i64 1000000, .func (.func 89) #[] #[], .int .i64 1, .int .i64 1000000, .func (.func 90) #[] #[], .int .i64 1, .int .i64 4096]
def prefB (h d k : Int) : Nat → Bool
  | 0 => true
  | 1 => inB h 0 1000000
  | 2 => inB h 0 1000000 && inB d 1 1000000
  | _ => feedB h d k

set_option maxRecDepth 100000 in
set_option maxHeartbeats 8000000 in
theorem fits_c (h d k : Int) (w : World) (b : Nat) (hb : b < w.heap.size) (hc : ∀ i, i < 9 → w.cell? ⟨b, i, none⟩ = feedTab[i]?) :
    Calls Try.prog 87 #[feedV h d k, .slice (some ⟨b, 0, none⟩) 3 3] w fun e w' => e = .returned (.bool (feedB h d k)) ∧ Below w.heap.size w w' := by
  have HB := Lib.hid hb
  have HC := Lib.hid hc
  have HX := Lib.hid (Box.made w 57 #[.int .i64 h, .int .i64 d, .int .i64 k])
  clear hb hc
  go_enter Try.func87, Try.ntmps87
  go_wp2_with fail
  go_loopw [10] (fun iv wr => ∃ i : Nat, i ≤ 3 ∧ iv = .int .i64 (i : Int) ∧ prefB h d k i = true ∧ Below w.heap.size w wr ∧ Box wr w.heap.size 57 #[.int .i64 h, .int .i64 d, .int .i64 k]) (fun iv _ => 3 - (intOf iv).toNat)
  case atStart => exact ⟨0, by omega, rfl, rfl, (Below.refl _ _).alloc (Nat.le_refl _) _, HX.out⟩
  case round =>
    obtain ⟨i, hi, rfl, hpre, hbo, hbx⟩ := hrel
    have HBO := Lib.hid hbo
    have HBX := Lib.hid hbx
    have HP := Lib.hid hpre
    have q0 : wr.cell? ⟨w.heap.size, 0, none⟩ = some (.int .i64 h) := hbx.cell 0
    have q1 : wr.cell? ⟨w.heap.size, 1, none⟩ = some (.int .i64 d) := hbx.cell 1
    have q2 : wr.cell? ⟨w.heap.size, 2, none⟩ = some (.int .i64 k) := hbx.cell 2
    have hsz := hbx.lt
    clear hpre hbo hbx
    rcases Nat.lt_or_ge i 3 with hi3 | hi3
    · rcases i with _ | _ | _ | i
      · have t0 : wr.cell? ⟨b, 0, none⟩ = some (.func (.func 88) #[] #[]) := keepd (HC.out 0 (by omega)) HBO.out HB.out
        have t1 : wr.cell? ⟨b, 1, none⟩ = some (.int .i64 0) := keepd (HC.out 1 (by omega)) HBO.out HB.out
        have t2 : wr.cell? ⟨b, 2, none⟩ = some (.int .i64 1000000) := keepd (HC.out 2 (by omega)) HBO.out HB.out
        clear hi hi3
        go_wp2_with fail
        refine (num1_c h d k _).mono ?_; rintro e w1 ⟨rfl, hb1⟩
        have HBW := Lib.hid (HBO.out.trans ((boxed hb1).mono (by omega)))
        have HBX1 := Lib.hid (HBX.out.below (boxed hb1) hsz)
        have z1 : w1.cell? ⟨wr.heap.size, 1, none⟩ = some (.int .i64 0) := ((Box.made wr 106 #[.func (.func 88) #[] #[], .int .i64 0, .int .i64 1000000]).later hb1).cell 1
        have z2 : w1.cell? ⟨wr.heap.size, 2, none⟩ = some (.int .i64 1000000) := ((Box.made wr 106 #[.func (.func 88) #[] #[], .int .i64 0, .int .i64 1000000]).later hb1).cell 2
        clear hb1 t0 t1 t2 q0 q1 q2
        by_cases g1 : h < 0
        · have d1 : decide (h < 0) = true := by simpa using g1
          have HF := Lib.hid (show feedB h d k = false by unfold feedB inB; simp; omega)
          clear g1
          go_wp2_with fail
          go_ret
          exact ⟨ret_bool HF.out.symm, HBW.out⟩
        · have d1 : decide (h < 0) = false := by simpa using g1
          by_cases g2 : 1000000 < h
          · have d2 : decide (1000000 < h) = true := by simpa using g2
            have HF := Lib.hid (show feedB h d k = false by unfold feedB inB; simp; omega)
            clear g1 g2
            go_wp2_with fail
            go_ret
            exact ⟨ret_bool HF.out.symm, HBW.out⟩
          · have d2 : decide (1000000 < h) = false := by simpa using g2
            have HF := Lib.hid (show prefB h d k 1 = true by
              have hp := HP.out
              have hx := inB_iff.2 (show 0 ≤ h ∧ h ≤ 1000000 by omega)
              simp only [prefB, feedB, Bool.and_eq_true] at hp ⊢
              simp [hp, hx])
            clear g1 g2
            go_wp2_with fail
            go_roundw
            case rel => exact ⟨1, by omega, by go_num, HF.out, HBW.out, HBX1.out⟩
            case measure => simp [intOf]
      · have t0 : wr.cell? ⟨b, 3, none⟩ = some (.func (.func 89) #[] #[]) := keepd (HC.out 3 (by omega)) HBO.out HB.out
        have t1 : wr.cell? ⟨b, 4, none⟩ = some (.int .i64 1) := keepd (HC.out 4 (by omega)) HBO.out HB.out
        have t2 : wr.cell? ⟨b, 5, none⟩ = some (.int .i64 1000000) := keepd (HC.out 5 (by omega)) HBO.out HB.out
        clear hi hi3
        go_wp2_with fail
        refine (num2_c h d k _).mono ?_; rintro e w1 ⟨rfl, hb1⟩
        have HBW := Lib.hid (HBO.out.trans ((boxed hb1).mono (by omega)))
        have HBX1 := Lib.hid (HBX.out.below (boxed hb1) hsz)
        have z1 : w1.cell? ⟨wr.heap.size, 1, none⟩ = some (.int .i64 1) := ((Box.made wr 106 #[.func (.func 89) #[] #[], .int .i64 1, .int .i64 1000000]).later hb1).cell 1
        have z2 : w1.cell? ⟨wr.heap.size, 2, none⟩ = some (.int .i64 1000000) := ((Box.made wr 106 #[.func (.func 89) #[] #[], .int .i64 1, .int .i64 1000000]).later hb1).cell 2
        clear hb1 t0 t1 t2 q0 q1 q2
        by_cases g1 : d < 1
        · have d1 : decide (d < 1) = true := by simpa using g1
          have HF := Lib.hid (show feedB h d k = false by unfold feedB inB; simp; omega)
          clear g1
          go_wp2_with fail
          go_ret
          exact ⟨ret_bool HF.out.symm, HBW.out⟩
        · have d1 : decide (d < 1) = false := by simpa using g1
          by_cases g2 : 1000000 < d
          · have d2 : decide (1000000 < d) = true := by simpa using g2
            have HF := Lib.hid (show feedB h d k = false by unfold feedB inB; simp; omega)
            clear g1 g2
            go_wp2_with fail
            go_ret
            exact ⟨ret_bool HF.out.symm, HBW.out⟩
          · have d2 : decide (1000000 < d) = false := by simpa using g2
            have HF := Lib.hid (show prefB h d k 2 = true by
              have hp := HP.out
              have hx := inB_iff.2 (show 1 ≤ d ∧ d ≤ 1000000 by omega)
              simp only [prefB, feedB, Bool.and_eq_true] at hp ⊢
              simp [hp, hx])
            clear g1 g2
            go_wp2_with fail
            go_roundw
            case rel => exact ⟨2, by omega, by go_num, HF.out, HBW.out, HBX1.out⟩
            case measure => simp [intOf]
      · have t0 : wr.cell? ⟨b, 6, none⟩ = some (.func (.func 90) #[] #[]) := keepd (HC.out 6 (by omega)) HBO.out HB.out
        have t1 : wr.cell? ⟨b, 7, none⟩ = some (.int .i64 1) := keepd (HC.out 7 (by omega)) HBO.out HB.out
        have t2 : wr.cell? ⟨b, 8, none⟩ = some (.int .i64 4096) := keepd (HC.out 8 (by omega)) HBO.out HB.out
        clear hi hi3
        go_wp2_with fail
        refine (num3_c h d k _).mono ?_; rintro e w1 ⟨rfl, hb1⟩
        have HBW := Lib.hid (HBO.out.trans ((boxed hb1).mono (by omega)))
        have HBX1 := Lib.hid (HBX.out.below (boxed hb1) hsz)
        have z1 : w1.cell? ⟨wr.heap.size, 1, none⟩ = some (.int .i64 1) := ((Box.made wr 106 #[.func (.func 90) #[] #[], .int .i64 1, .int .i64 4096]).later hb1).cell 1
        have z2 : w1.cell? ⟨wr.heap.size, 2, none⟩ = some (.int .i64 4096) := ((Box.made wr 106 #[.func (.func 90) #[] #[], .int .i64 1, .int .i64 4096]).later hb1).cell 2
        clear hb1 t0 t1 t2 q0 q1 q2
        by_cases g1 : k < 1
        · have d1 : decide (k < 1) = true := by simpa using g1
          have HF := Lib.hid (show feedB h d k = false by unfold feedB inB; simp; omega)
          clear g1
          go_wp2_with fail
          go_ret
          exact ⟨ret_bool HF.out.symm, HBW.out⟩
        · have d1 : decide (k < 1) = false := by simpa using g1
          by_cases g2 : 4096 < k
          · have d2 : decide (4096 < k) = true := by simpa using g2
            have HF := Lib.hid (show feedB h d k = false by unfold feedB inB; simp; omega)
            clear g1 g2
            go_wp2_with fail
            go_ret
            exact ⟨ret_bool HF.out.symm, HBW.out⟩
          · have d2 : decide (4096 < k) = false := by simpa using g2
            have HF := Lib.hid (show prefB h d k 3 = true by
              have hp := HP.out
              have hx := inB_iff.2 (show 1 ≤ k ∧ k ≤ 4096 by omega)
              simp only [prefB, feedB, Bool.and_eq_true] at hp ⊢
              simp [hp, hx])
            clear g1 g2
            go_wp2_with fail
            go_roundw
            case rel => exact ⟨3, by omega, by go_num, HF.out, HBW.out, HBX1.out⟩
            case measure => simp [intOf]
      · omega
    · obtain rfl : i = 3 := by omega
      have HF := Lib.hid (show feedB h d k = true from HP.out)
      clear hi hi3
      go_wp2_with fail
      go_ret
      exact ⟨ret_bool HF.out.symm, HBO.out⟩

set_option maxRecDepth 100000 in
set_option maxHeartbeats 4000000 in
theorem ValidFeed_c (h d k : Int) (w : World) : Calls Try.prog 57 #[feedV h d k] w fun e w' => e = .returned (.bool (feedB h d k)) ∧ Below w.heap.size w w' := by
  go_enter Try.func57, Try.ntmps57
  go_wp2_with fail
  refine (fits_c h d k _ (w.heap.size + 1) (by simp) (fun i hi => ?_)).mono ?_
  · have hb := Box.made (w.alloc (.cells #[.int .i64 h, .int .i64 d, .int .i64 k] 57)) 106 feedTab
    rw [World.size_alloc] at hb
    exact hb.cell i
  rintro e w1 ⟨rfl, hb1⟩
  go_wp2_with fail
  go_ret
  exact ⟨rfl, boxed (boxed hb1)⟩
/-- errors and answers of a feed -/
def drE (x d k n : Int) : Int := if feedB x d k = true then (if inB n 0 1000000 = true then 0 else 1) else 33
def drF (x d k n : Int) : Int := if (feedB x d k && inB n 0 1000000) = true then min x (d * n) else 0
def drL (x d k n : Int) : Int := if (feedB x d k && inB n 0 1000000) = true then x - min x (d * n) else 0
theorem mul_in {a b A B : Int} (ha : 0 ≤ a) (ha' : a ≤ A) (hb : 0 ≤ b) (hb' : b ≤ B) : 0 ≤ a * b ∧ a * b ≤ A * B :=
  ⟨Int.mul_nonneg ha hb, Int.mul_le_mul ha' hb' hb (by omega)⟩

set_option maxHeartbeats 2000000 in
theorem fallen_c (x d k m p r : Int) (w : World) (hp : d * m = p) (h0 : 0 ≤ p) (h1 : p ≤ 5000000000000000) (hr : min x p = r) : Calls Try.prog 91 #[feedV x d k, .int .i64 m] w fun e w' => e = .returned (.int .i64 r) ∧ Below w.heap.size w w' := by
  have wp : IntKind.i64.wrap p = p := wrap_id (by omega) (by omega)
  have HR := Lib.hid hr
  clear hr
  go_enter Try.func91, Try.ntmps91
  go_wp2_with fail
  all_goals
    go_ret
    exact ⟨ret_int (by have := HR.out; omega), (Below.refl _ _).alloc (Nat.le_refl _) _⟩

abbrev feedBx (w : World) (x d k : Int) : World := w.alloc (.cells #[.int .i64 x, .int .i64 d, .int .i64 k] 57)
theorem feedBx_made (w : World) (x d k : Int) : Box (feedBx w x d k) w.heap.size 57 #[.int .i64 x, .int .i64 d, .int .i64 k] := Box.made w 57 #[.int .i64 x, .int .i64 d, .int .i64 k]

set_option maxHeartbeats 4000000 in
theorem Drawn_c (x d k n : Int) (w : World) : Calls Try.prog 58 #[feedV x d k, .int .i64 n] w fun e w' => e = .returned (.tuple #[.int .i64 (drF x d k n), .int .i64 (drL x d k n), .int .i64 (drE x d k n)]) ∧ Below w.heap.size w w' := by
  have HBX := Lib.hid (feedBx_made w x d k)
  cases hf : feedB x d k
  · have HF := Lib.hid hf
    have HV := Lib.hid (show drF x d k n = 0 ∧ drL x d k n = 0 ∧ drE x d k n = 33 by unfold drF drL drE; rw [hf]; exact ⟨rfl, rfl, rfl⟩)
    rw [HV.out.1, HV.out.2.1, HV.out.2.2]
    clear hf
    go_enter Try.func58, Try.ntmps58
    go_wp2_with fail
    refine (ValidFeed_c x d k _).mono ?_; rintro e w1 ⟨rfl, hb1⟩
    rw [HF.out]
    go_wp2_with fail
    go_ret3
    exact ⟨rfl, boxed hb1⟩
  have HF := Lib.hid hf
  cases hn : inB n 0 1000000
  · have HV := Lib.hid (show drF x d k n = 0 ∧ drL x d k n = 0 ∧ drE x d k n = 1 by unfold drF drL drE; rw [hf, hn]; exact ⟨rfl, rfl, rfl⟩)
    rw [HV.out.1, HV.out.2.1, HV.out.2.2]
    by_cases g : n < 0
    · have d0 : decide (n < 0) = true := by simpa using g
      clear hf hn g
      go_enter Try.func58, Try.ntmps58
      go_wp2_with fail
      refine (ValidFeed_c x d k _).mono ?_; rintro e w1 ⟨rfl, hb1⟩
      rw [HF.out]
      go_wp2_with fail
      go_ret3
      exact ⟨rfl, boxed hb1⟩
    · have d0 : decide (n < 0) = false := by simpa using g
      have d1 : decide (1000000 < n) = true := decide_eq_true (by have := inB_not.1 hn; omega)
      clear hf hn g
      go_enter Try.func58, Try.ntmps58
      go_wp2_with fail
      refine (ValidFeed_c x d k _).mono ?_; rintro e w1 ⟨rfl, hb1⟩
      rw [HF.out]
      go_wp2_with fail
      go_ret3
      exact ⟨rfl, boxed hb1⟩
  obtain ⟨⟨h0, h1⟩, ⟨d0, d1⟩, k0, k1⟩ := feedB_iff.1 hf
  obtain ⟨n0, n1⟩ := inB_iff.1 hn
  obtain ⟨p, hp⟩ : ∃ p, d * n = p := ⟨_, rfl⟩
  obtain ⟨p0, p1⟩ := mul_in (show 0 ≤ d by omega) d1 n0 n1
  rw [hp] at p0 p1
  obtain ⟨r, hr⟩ : ∃ r, min x p = r := ⟨_, rfl⟩
  have HV := Lib.hid (show drF x d k n = r ∧ drL x d k n = x - r ∧ drE x d k n = 0 by unfold drF drL drE; rw [hf, hn, hp, hr]; exact ⟨rfl, rfl, rfl⟩)
  rw [HV.out.1, HV.out.2.1, HV.out.2.2]
  have HP := Lib.hid hp
  have HR := Lib.hid hr
  have HN := Lib.hid (show 0 ≤ p ∧ p ≤ 5000000000000000 ∧ 0 ≤ x ∧ x ≤ 1000000 by omega)
  have wx : IntKind.i64.wrap (x - r) = x - r := wrap_id (by omega) (by omega)
  have e0 : decide (n < 0) = false := decide_eq_false (by omega)
  have e1 : decide (1000000 < n) = false := decide_eq_false (by omega)
  clear hf hn hp hr p0 p1 h0 h1 d0 d1 k0 k1 n0 n1
  go_enter Try.func58, Try.ntmps58
  go_wp2_with fail
  refine (ValidFeed_c x d k _).mono ?_; rintro e w1 ⟨rfl, hb1⟩
  rw [HF.out]
  have b1 := HBX.out.later hb1
  have q0 : w1.cell? ⟨w.heap.size, 0, none⟩ = some (.int .i64 x) := b1.cell 0
  have q1 : w1.cell? ⟨w.heap.size, 1, none⟩ = some (.int .i64 d) := b1.cell 1
  have q2 : w1.cell? ⟨w.heap.size, 2, none⟩ = some (.int .i64 k) := b1.cell 2
  have HB1 := Lib.hid (boxed hb1)
  have HS := Lib.hid b1
  clear hb1 b1
  go_wp2_with fail
  refine (fallen_c x d k n p r _ HP.out HN.out.1 HN.out.2.1 HR.out).mono ?_; rintro e w2 ⟨rfl, hb2⟩
  have b2 := HS.out.below hb2 HS.out.lt
  have q0' : w2.cell? ⟨w.heap.size, 0, none⟩ = some (.int .i64 x) := b2.cell 0
  have HB2 := Lib.hid (chain HB1.out hb2)
  have HQ := Lib.hid (show ∀ nq, Below w.heap.size w (w2.drewN nq) from fun nq => ⟨HB2.out.os, HB2.out.tape, HB2.out.output, HB2.out.size, HB2.out.block⟩)
  clear q0 q1 q2 hb2 b2
  go_wp2_with fail
  go_quiet (fail)
  go_wp2_with fail
  go_ret3
  exact ⟨rfl, HQ.out _⟩
end Go.Proofs.Ytmmfmanjajefcaa

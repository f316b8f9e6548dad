/- Layer 3: which feeds are valid, on both sides. -/
import Derived.Test.YtikfiallhmhicaaGreatI0
import Derived.Laws.EntriesVeiled
set_option linter.unusedSimpArgs false
namespace Go.Proofs.YtikfiallhmhicaaGreat
open Go.RowKit

abbrev feedV (h d k : Int) : Value := .agg #[.int .i64 h, .int .i64 d, .int .i64 k]
def feedB (h d k : Int) : Bool := inB h 0 1000000 && inB d 1 1000000 && inB k 1 4096
theorem feedB_iff {h d k : Int} : feedB h d k = true ↔ (0 ≤ h ∧ h ≤ 1000000) ∧ (1 ≤ d ∧ d ≤ 1000000) ∧ 1 ≤ k ∧ k ≤ 4096 := by
  unfold feedB; rw [Bool.and_eq_true, Bool.and_eq_true, inB_iff, inB_iff, inB_iff, and_assoc]

set_option maxHeartbeats 1000000 in
theorem num1_c (h d k : Int) (w : World) : Calls Tryz.prog 42 #[feedV h d k] w fun e w' => e = .returned (.int .i64 h) ∧ Below w.heap.size w w' := by
  go_enter Tryz.func42, Tryz.ntmps42
  go_wp2
  go_ret
  exact ⟨rfl, (Below.refl _ _).alloc (Nat.le_refl _) _⟩
set_option maxHeartbeats 1000000 in
theorem num2_c (h d k : Int) (w : World) : Calls Tryz.prog 43 #[feedV h d k] w fun e w' => e = .returned (.int .i64 d) ∧ Below w.heap.size w w' := by
  go_enter Tryz.func43, Tryz.ntmps43
  go_wp2
  go_ret
  exact ⟨rfl, (Below.refl _ _).alloc (Nat.le_refl _) _⟩
set_option maxHeartbeats 1000000 in
theorem num3_c (h d k : Int) (w : World) : Calls Tryz.prog 44 #[feedV h d k] w fun e w' => e = .returned (.int .i64 k) ∧ Below w.heap.size w w' := by
  go_enter Tryz.func44, Tryz.ntmps44
  go_wp2
  go_ret
  exact ⟨rfl, (Below.refl _ _).alloc (Nat.le_refl _) _⟩

/-- the table of bounds -/
abbrev feedTab : Array Value := #[.func (.func 42) #[] #[], .int .i64 0, .int .i64 1000000, .func (.func 43) #[] #[], .int .i64 1, .int .i64 1000000, .func (.func 44) #[] #[], .int .i64 1, .int .i64 4096]
def prefB (h d k : Int) : Nat → Bool
  | 0 => true
  | 1 => inB h 0 1000000
  | 2 => inB h 0 1000000 && inB d 1 1000000
  | _ => feedB h d k

set_option maxRecDepth 100000 in
set_option maxHeartbeats 8000000 in
theorem ffits_c (h d k : Int) (w : World) (b : Nat) (hb : b < w.heap.size) (hc : ∀ i, i < 9 → w.cell? ⟨b, i, none⟩ = feedTab[i]?) :
    Calls Tryz.prog 41 #[feedV h d k, .slice (some ⟨b, 0, none⟩) 3 3] w fun e w' => e = .returned (.bool (feedB h d k)) ∧ Below w.heap.size w w' := by
  have HB := Lib.hid hb
  have HC := Lib.hid hc
  have HX := Lib.hid (Box.made w 35 #[.int .i64 h, .int .i64 d, .int .i64 k])
  clear hb hc
  go_enter Tryz.func41, Tryz.ntmps41
  go_wp2_with fail
  go_loopw [10] (fun iv wr => ∃ i : Nat, i ≤ 3 ∧ iv = .int .i64 (i : Int) ∧ prefB h d k i = true ∧ Below w.heap.size w wr ∧ Box wr w.heap.size 35 #[.int .i64 h, .int .i64 d, .int .i64 k]) (fun iv _ => 3 - (intOf iv).toNat)
  case atStart => exact ⟨0, by omega, rfl, rfl, (Below.refl _ _).alloc (Nat.le_refl _) _, HX.out⟩
  case round =>
    obtain ⟨i, hi, rfl, hpre, hbo, hbx⟩ := hrel
    have HBO := Lib.hid hbo
    have HBX := Lib.hid hbx
    have HP := Lib.hid hpre
    have q0 : wr.cell? ⟨w.heap.size, 0, none⟩ = some (.int .i64 h) := hbx.cell 0
    have q1 : wr.cell? ⟨w.heap.size, 1, none⟩ = some (.int .i64 d) := hbx.cell 1
    have q2 : wr.cell? ⟨w.heap.size, 2, none⟩ = some (.int .i64 k) := hbx.cell 2
    have hsz := hbx.lt
    clear hpre hbo hbx
    rcases Nat.lt_or_ge i 3 with hi3 | hi3
    · rcases i with _ | _ | _ | i
      · have t0 : wr.cell? ⟨b, 0, none⟩ = some (.func (.func 42) #[] #[]) := keepd (HC.out 0 (by omega)) HBO.out HB.out
        have t1 : wr.cell? ⟨b, 1, none⟩ = some (.int .i64 0) := keepd (HC.out 1 (by omega)) HBO.out HB.out
        have t2 : wr.cell? ⟨b, 2, none⟩ = some (.int .i64 1000000) := keepd (HC.out 2 (by omega)) HBO.out HB.out
        clear hi hi3
        go_wp2_with fail
        refine (num1_c h d k _).mono ?_; rintro e w1 ⟨rfl, hb1⟩
        have HBW := Lib.hid (HBO.out.trans ((boxed hb1).mono (by omega)))
        have HBX1 := Lib.hid (HBX.out.below (boxed hb1) hsz)
        have z1 : w1.cell? ⟨wr.heap.size, 1, none⟩ = some (.int .i64 0) := ((Box.made wr 86 #[.func (.func 42) #[] #[], .int .i64 0, .int .i64 1000000]).later hb1).cell 1
        have z2 : w1.cell? ⟨wr.heap.size, 2, none⟩ = some (.int .i64 1000000) := ((Box.made wr 86 #[.func (.func 42) #[] #[], .int .i64 0, .int .i64 1000000]).later hb1).cell 2
        clear hb1 t0 t1 t2 q0 q1 q2
        by_cases g1 : h < 0
        · have d1 : decide (h < 0) = true := by simpa using g1
          have HF := Lib.hid (show feedB h d k = false by unfold feedB inB; simp; omega)
          clear g1
          go_wp2_with fail
          go_ret
          exact ⟨ret_bool HF.out.symm, HBW.out⟩
        · have d1 : decide (h < 0) = false := by simpa using g1
          by_cases g2 : 1000000 < h
          · have d2 : decide (1000000 < h) = true := by simpa using g2
            have HF := Lib.hid (show feedB h d k = false by unfold feedB inB; simp; omega)
            clear g1 g2
            go_wp2_with fail
            go_ret
            exact ⟨ret_bool HF.out.symm, HBW.out⟩
          · have d2 : decide (1000000 < h) = false := by simpa using g2
            have HF := Lib.hid (show prefB h d k 1 = true by
              have hp := HP.out
              have hx := inB_iff.2 (show 0 ≤ h ∧ h ≤ 1000000 by omega)
              simp only [prefB, feedB, Bool.and_eq_true] at hp ⊢
              simp [hp, hx])
            clear g1 g2
            go_wp2_with fail
            go_roundw
            case rel => exact ⟨1, by omega, by go_num, HF.out, HBW.out, HBX1.out⟩
            case measure => simp [intOf]
      · have t0 : wr.cell? ⟨b, 3, none⟩ = some (.func (.func 43) #[] #[]) := keepd (HC.out 3 (by omega)) HBO.out HB.out
        have t1 : wr.cell? ⟨b, 4, none⟩ = some (.int .i64 1) := keepd (HC.out 4 (by omega)) HBO.out HB.out
        have t2 : wr.cell? ⟨b, 5, none⟩ = some (.int .i64 1000000) := keepd (HC.out 5 (by omega)) HBO.out HB.out
        clear hi hi3
        go_wp2_with fail
        refine (num2_c h d k _).mono ?_; rintro e w1 ⟨rfl, hb1⟩
        have HBW := Lib.hid (HBO.out.trans ((boxed hb1).mono (by omega)))
        have HBX1 := Lib.hid (HBX.out.below (boxed hb1) hsz)
        have z1 : w1.cell? ⟨wr.heap.size, 1, none⟩ = some (.int .i64 1) := ((Box.made wr 86 #[.func (.func 43) #[] #[], .int .i64 1, .int .i64 1000000]).later hb1).cell 1
        have z2 : w1.cell? ⟨wr.heap.size, 2, none⟩ = some (.int .i64 1000000) := ((Box.made wr 86 #[.func (.func 43) #[] #[], .int .i64 1, .int .i64 1000000]).later hb1).cell 2
        clear hb1 t0 t1 t2 q0 q1 q2
        by_cases g1 : d < 1
        · have d1 : decide (d < 1) = true := by simpa using g1
          have HF := Lib.hid (show feedB h d k = false by unfold feedB inB; simp; omega)
          clear g1
          go_wp2_with fail
          go_ret
          exact ⟨ret_bool HF.out.symm, HBW.out⟩
        · have d1 : decide (d < 1) = false := by simpa using g1
          by_cases g2 : 1000000 < d
          · have d2 : decide (1000000 < d) = true := by simpa using g2
            have HF := Lib.hid (show feedB h d k = false by unfold feedB inB; simp; omega)
            clear g1 g2
            go_wp2_with fail
            go_ret
            exact ⟨ret_bool HF.out.symm, HBW.out⟩
          · have d2 : decide (1000000 < d) = false := by simpa using g2
            have HF := Lib.hid (show prefB h d k 2 = true by
              have hp := HP.out
              have hx := inB_iff.2 (show 1 ≤ d ∧ d ≤ 1000000 by omega)
              simp only [prefB, feedB, Bool.and_eq_true] at hp ⊢
              simp [hp, hx])
            clear g1 g2
            go_wp2_with fail
            go_roundw
            case rel => exact ⟨2, by omega, by go_num, HF.out, HBW.out, HBX1.out⟩
            case measure => simp [intOf]
      · have t0 : wr.cell? ⟨b, 6, none⟩ = some (.func (.func 44) #[] #[]) := keepd (HC.out 6 (by omega)) HBO.out HB.out
        have t1 : wr.cell? ⟨b, 7, none⟩ = some (.int .i64 1) := keepd (HC.out 7 (by omega)) HBO.out HB.out
        have t2 : wr.cell? ⟨b, 8, none⟩ = some (.int .i64 4096) := keepd (HC.out 8 (by omega)) HBO.out HB.out
        clear hi hi3
        go_wp2_with fail
        refine (num3_c h d k _).mono ?_; rintro e w1 ⟨rfl, hb1⟩
        have HBW := Lib.hid (HBO.out.trans ((boxed hb1).mono (by omega)))
        have HBX1 := Lib.hid (HBX.out.below (boxed hb1) hsz)
        have z1 : w1.cell? ⟨wr.heap.size, 1, none⟩ = some (.int .i64 1) := ((Box.made wr 86 #[.func (.func 44) #[] #[], .int .i64 1, .int .i64 4096]).later hb1).cell 1
        have z2 : w1.cell? ⟨wr.heap.size, 2, none⟩ = some (.int .i64 4096) := ((Box.made wr 86 #[.func (.func 44) #[] #[], .int .i64 1, .int .i64 4096]).later hb1).cell 2
        clear hb1 t0 t1 t2 q0 q1 q2
        by_cases g1 : k < 1
        · have d1 : decide (k < 1) = true := by simpa using g1
          have HF := Lib.hid (show feedB h d k = false by unfold feedB inB; simp; omega)
          clear g1
          go_wp2_with fail
          go_ret
          exact ⟨ret_bool HF.out.symm, HBW.out⟩
        · have d1 : decide (k < 1) = false := by simpa using g1
          by_cases g2 : 4096 < k
          · have d2 : decide (4096 < k) = true := by simpa using g2
            have HF := Lib.hid (show feedB h d k = false by unfold feedB inB; simp; omega)
            clear g1 g2
            go_wp2_with fail
            go_ret
            exact ⟨ret_bool HF.out.symm, HBW.out⟩
          · have d2 : decide (4096 < k) = false := by simpa using g2
            have HF := Lib.hid (show prefB h d k 3 = true by
              have hp := HP.out
              have hx := inB_iff.2 (show 1 ≤ k ∧ k ≤ 4096 by omega)
              simp only [prefB, feedB, Bool.and_eq_true] at hp ⊢
              simp [hp, hx])
            clear g1 g2
            go_wp2_with fail
            go_roundw
            case rel => exact ⟨3, by omega, by go_num, HF.out, HBW.out, HBX1.out⟩
            case measure => simp [intOf]
      · omega
    · obtain rfl : i = 3 := by omega
      have HF := Lib.hid (show feedB h d k = true from HP.out)
      clear hi hi3
      go_wp2_with fail
      go_ret
      exact ⟨ret_bool HF.out.symm, HBO.out⟩

set_option maxRecDepth 100000 in
set_option maxHeartbeats 4000000 in
theorem ValidFeed_c (h d k : Int) (w : World) : Calls Tryz.prog 14 #[feedV h d k] w fun e w' => e = .returned (.bool (feedB h d k)) ∧ Below w.heap.size w w' := by
  go_enter Tryz.func14, Tryz.ntmps14
  go_wp2_with fail
  refine (ffits_c h d k _ (w.heap.size + 1) (by simp) (fun i hi => ?_)).mono ?_
  · have hb := Box.made (w.alloc (.cells #[.int .i64 h, .int .i64 d, .int .i64 k] 35)) 86 feedTab
    rw [World.size_alloc] at hb
    exact hb.cell i
  rintro e w1 ⟨rfl, hb1⟩
  go_wp2_with fail
  go_ret
  exact ⟨rfl, boxed (boxed hb1)⟩
set_option maxHeartbeats 2000000 in
theorem rValidFeed_c (h d k : Int) (w : World) : Calls Tryz.prog 15 #[feedV h d k] w fun e w' => e = .returned (.bool (feedB h d k)) ∧ Below w.heap.size w w' := by
  cases h1 : inB h 0 1000000
  · have HF := Lib.hid (show feedB h d k = false by unfold feedB; rw [h1]; rfl)
    have H1 := Lib.hid h1
    clear h1
    go_enter Tryz.func15, Tryz.ntmps15
    go_wp2_with fail
    refine (rwithin_b h 0 1000000 false H1.out _).mono ?_; rintro e w' ⟨rfl, rfl⟩
    go_wp2_with fail
    go_ret
    exact ⟨ret_bool HF.out.symm, (Below.refl _ _).alloc (Nat.le_refl _) _⟩
  cases h2 : inB d 1 1000000
  · have HF := Lib.hid (show feedB h d k = false by unfold feedB; rw [h1, h2]; rfl)
    have H1 := Lib.hid h1
    have H2 := Lib.hid h2
    clear h1 h2
    go_enter Tryz.func15, Tryz.ntmps15
    go_wp2_with fail
    refine (rwithin_b h 0 1000000 true H1.out _).mono ?_; rintro e w' ⟨rfl, rfl⟩
    go_wp2_with fail
    refine (rwithin_b d 1 1000000 false H2.out _).mono ?_; rintro e w' ⟨rfl, rfl⟩
    go_wp2_with fail
    go_ret
    exact ⟨ret_bool HF.out.symm, (Below.refl _ _).alloc (Nat.le_refl _) _⟩
  have HF := Lib.hid (show feedB h d k = inB k 1 4096 by unfold feedB; rw [h1, h2]; rfl)
  have H1 := Lib.hid h1
  have H2 := Lib.hid h2
  clear h1 h2
  go_enter Tryz.func15, Tryz.ntmps15
  go_wp2_with fail
  refine (rwithin_b h 0 1000000 true H1.out _).mono ?_; rintro e w' ⟨rfl, rfl⟩
  go_wp2_with fail
  refine (rwithin_b d 1 1000000 true H2.out _).mono ?_; rintro e w' ⟨rfl, rfl⟩
  go_wp2_with fail
  refine (rwithin_c k 1 4096 _).mono ?_; rintro e w' ⟨rfl, rfl⟩
  go_wp2_with fail
  go_ret
  exact ⟨ret_bool HF.out.symm, (Below.refl _ _).alloc (Nat.le_refl _) _⟩
end Go.Proofs.YtikfiallhmhicaaGreat

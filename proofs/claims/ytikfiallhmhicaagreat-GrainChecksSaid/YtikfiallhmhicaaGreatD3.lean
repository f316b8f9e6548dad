/- Layer 3: which grades are valid, on both sides (2). -/
import Derived.Test.YtikfiallhmhicaaGreatD2
import Derived.Test.YtikfiallhmhicaaGreatI2

set_option linter.all false
namespace Go.Proofs.YtikfiallhmhicaaGreat
open Go.RowKit


theorem keepW {w : World} {v : Value} {P : Ending → Prop} {f : Nat} {args : Array Value} (h : Calls Tryz.prog f args w fun e w' => P e ∧ w = w') : Calls Tryz.prog f args w fun e w' => P e ∧ Below w.heap.size w w' := h.mono fun e w' hh => ⟨hh.1, hh.2 ▸ Below.refl _ _⟩
abbrev gradeTab : Array Value := #[.func (.func 37) #[] #[], .int .i64 1, .int .i64 8, .func (.func 38) #[] #[], .int .i64 0, .int .i64 0, .func (.func 39) #[] #[], .int .i64 0, .int .i64 0, .func (.func 40) #[] #[], .int .i64 0, .int .i64 64]
def prefG (l : List Int) : Nat → Bool
  | 0 => true
  | 1 => inB l.length 1 8
  | 2 => inB l.length 1 8 && decide (nth l 0 = 0)
  | 3 => inB l.length 1 8 && decide (nth l 0 = 0) && decide (nrN l (l.length - 1) = 0)
  | _ => gradesB l
set_option maxRecDepth 100000 in
set_option maxHeartbeats 8000000 in
theorem gfits_c (l : List Int) (v : Value) (w : World) (b : Nat) (hb : b < w.heap.size) (hc : ∀ i, i < 12 → w.cell? ⟨b, i, none⟩ = gradeTab[i]?) (hl : Ints w w.heap.size v l) : Calls Tryz.prog 36 #[v, .slice (some ⟨b, 0, none⟩) 4 4] w fun e w' => e = .returned (.bool (gradesB l)) ∧ Below w.heap.size w w' := by
  have HB := Lib.hid hb
  have HC := Lib.hid hc
  have HL := Lib.hid hl
  clear hb hc hl
  go_enter Tryz.func36, Tryz.ntmps36
  go_wp2_with fail
  go_loopw [10] (fun iv wr => ∃ i : Nat, i ≤ 4 ∧ iv = .int .i64 (i : Int) ∧ prefG l i = true ∧ Below w.heap.size w wr) (fun iv _ => 4 - (intOf iv).toNat)
  case atStart => exact ⟨0, by omega, rfl, rfl, Below.refl _ _⟩
  case round =>
    obtain ⟨i, hi, rfl, hpre, hbo⟩ := hrel
    have HBO := Lib.hid hbo
    have HP := Lib.hid hpre
    clear hpre hbo
    rcases Nat.lt_or_ge i 4 with hi3 | hi3
    · rcases i with _ | _ | _ | _ | i
      · have t0 : wr.cell? ⟨b, 0, none⟩ = some (.func (.func 37) #[] #[]) := keepd (HC.out 0 (by omega)) HBO.out HB.out
        have t1 : wr.cell? ⟨b, 1, none⟩ = some (.int .i64 1) := keepd (HC.out 1 (by omega)) HBO.out HB.out
        have t2 : wr.cell? ⟨b, 2, none⟩ = some (.int .i64 8) := keepd (HC.out 2 (by omega)) HBO.out HB.out
        clear hi hi3
        have HL2 := Lib.hid (Ints.mono HL.out (HBO.out.alloc HBO.out.size (.cells #[.func (.func 37) #[] #[], .int .i64 1, .int .i64 8] 81)) (HBO.out.alloc HBO.out.size (.cells #[.func (.func 37) #[] #[], .int .i64 1, .int .i64 8] 81)).size)
        go_wp2_with fail
        refine (keepW (v := v) (P := fun e => e = _) (gnum1_c l v _ HL2.out)).mono ?_; rintro e w1 ⟨rfl, hb1⟩
        have HBW := Lib.hid (HBO.out.trans ((boxed hb1).mono HBO.out.size))
        have z1 : w1.cell? ⟨wr.heap.size, 1, none⟩ = some (.int .i64 1) := ((Box.made wr 81 #[.func (.func 37) #[] #[], .int .i64 1, .int .i64 8]).later hb1).cell 1
        have z2 : w1.cell? ⟨wr.heap.size, 2, none⟩ = some (.int .i64 8) := ((Box.made wr 81 #[.func (.func 37) #[] #[], .int .i64 1, .int .i64 8]).later hb1).cell 2
        clear hb1 t0 t1 t2
        obtain ⟨x, hx⟩ : ∃ x, (l.length : Int) = x := ⟨_, rfl⟩
        have HV := Lib.hid hx
        rw [hx]
        clear hx
        by_cases g1 : x < 1
        · have d1 : decide (x < 1) = true := decide_eq_true g1
          have HF := Lib.hid (show gradesB l = false by rw [← HV.out] at g1; unfold gradesB; rw [inB_not.2 (by omega)]; rfl)
          clear g1
          go_wp2_with fail
          go_ret
          exact ⟨ret_bool HF.out.symm, HBW.out⟩
        · have d1 : decide (x < 1) = false := decide_eq_false g1
          by_cases g2 : 8 < x
          · have d2 : decide (8 < x) = true := decide_eq_true g2
            have HF := Lib.hid (show gradesB l = false by rw [← HV.out] at g1 g2; unfold gradesB; rw [inB_not.2 (by omega)]; rfl)
            clear g1 g2
            go_wp2_with fail
            go_ret
            exact ⟨ret_bool HF.out.symm, HBW.out⟩
          · have d2 : decide (8 < x) = false := decide_eq_false g2
            have HF := Lib.hid (show prefG l 1 = true by
              rw [← HV.out] at g1 g2
              exact inB_iff.2 (by omega))
            clear g1 g2
            go_wp2_with fail
            go_roundw
            case rel => exact ⟨1, by omega, by go_num, HF.out, HBW.out⟩
            case measure => simp [intOf]
      · have t0 : wr.cell? ⟨b, 3, none⟩ = some (.func (.func 38) #[] #[]) := keepd (HC.out 3 (by omega)) HBO.out HB.out
        have t1 : wr.cell? ⟨b, 4, none⟩ = some (.int .i64 0) := keepd (HC.out 4 (by omega)) HBO.out HB.out
        have t2 : wr.cell? ⟨b, 5, none⟩ = some (.int .i64 0) := keepd (HC.out 5 (by omega)) HBO.out HB.out
        clear hi hi3
        have hlen : 1 ≤ l.length ∧ l.length ≤ 8 := by
          have h1 : inB l.length 1 8 = true := by
            have hp := HP.out
            simp only [prefG, Bool.and_eq_true] at hp
            exact hp
          have h2 := inB_iff.1 h1
          omega
        have HLN := Lib.hid hlen
        clear hlen
        have HL2 := Lib.hid (Ints.mono HL.out (HBO.out.alloc HBO.out.size (.cells #[.func (.func 38) #[] #[], .int .i64 0, .int .i64 0] 81)) (HBO.out.alloc HBO.out.size (.cells #[.func (.func 38) #[] #[], .int .i64 0, .int .i64 0] 81)).size)
        go_wp2_with fail
        refine (keepW (v := v) (P := fun e => e = _) (gnum2_c l v _ HL2.out (by have := HLN.out; omega))).mono ?_; rintro e w1 ⟨rfl, hb1⟩
        have HBW := Lib.hid (HBO.out.trans ((boxed hb1).mono HBO.out.size))
        have z1 : w1.cell? ⟨wr.heap.size, 1, none⟩ = some (.int .i64 0) := ((Box.made wr 81 #[.func (.func 38) #[] #[], .int .i64 0, .int .i64 0]).later hb1).cell 1
        have z2 : w1.cell? ⟨wr.heap.size, 2, none⟩ = some (.int .i64 0) := ((Box.made wr 81 #[.func (.func 38) #[] #[], .int .i64 0, .int .i64 0]).later hb1).cell 2
        clear hb1 t0 t1 t2
        obtain ⟨x, hx⟩ : ∃ x, (nth l 0) = x := ⟨_, rfl⟩
        have HV := Lib.hid hx
        rw [hx]
        clear hx
        by_cases g1 : x < 0
        · have d1 : decide (x < 0) = true := decide_eq_true g1
          have HF := Lib.hid (show gradesB l = false by rw [← HV.out] at g1; unfold gradesB; rw [decide_eq_false (show ¬ nth l 0 = 0 by omega), Bool.and_false]; rfl)
          clear g1
          go_wp2_with fail
          go_ret
          exact ⟨ret_bool HF.out.symm, HBW.out⟩
        · have d1 : decide (x < 0) = false := decide_eq_false g1
          by_cases g2 : 0 < x
          · have d2 : decide (0 < x) = true := decide_eq_true g2
            have HF := Lib.hid (show gradesB l = false by rw [← HV.out] at g1 g2; unfold gradesB; rw [decide_eq_false (show ¬ nth l 0 = 0 by omega), Bool.and_false]; rfl)
            clear g1 g2
            go_wp2_with fail
            go_ret
            exact ⟨ret_bool HF.out.symm, HBW.out⟩
          · have d2 : decide (0 < x) = false := decide_eq_false g2
            have HF := Lib.hid (show prefG l 2 = true by
              rw [← HV.out] at g1 g2
              have hp := HP.out
              simp only [prefG, Bool.and_eq_true] at hp ⊢
              exact ⟨hp, decide_eq_true (by omega)⟩)
            clear g1 g2
            go_wp2_with fail
            go_roundw
            case rel => exact ⟨2, by omega, by go_num, HF.out, HBW.out⟩
            case measure => simp [intOf]
      · have t0 : wr.cell? ⟨b, 6, none⟩ = some (.func (.func 39) #[] #[]) := keepd (HC.out 6 (by omega)) HBO.out HB.out
        have t1 : wr.cell? ⟨b, 7, none⟩ = some (.int .i64 0) := keepd (HC.out 7 (by omega)) HBO.out HB.out
        have t2 : wr.cell? ⟨b, 8, none⟩ = some (.int .i64 0) := keepd (HC.out 8 (by omega)) HBO.out HB.out
        clear hi hi3
        have hlen : 1 ≤ l.length ∧ l.length ≤ 8 := by
          have h1 : inB l.length 1 8 = true := by
            have hp := HP.out
            simp only [prefG, Bool.and_eq_true] at hp
            exact hp.1
          have h2 := inB_iff.1 h1
          omega
        have HLN := Lib.hid hlen
        clear hlen
        have HL2 := Lib.hid (Ints.mono HL.out (HBO.out.alloc HBO.out.size (.cells #[.func (.func 39) #[] #[], .int .i64 0, .int .i64 0] 81)) (HBO.out.alloc HBO.out.size (.cells #[.func (.func 39) #[] #[], .int .i64 0, .int .i64 0] 81)).size)
        go_wp2_with fail
        refine (notRising_c l v _ HL2.out (by have := HLN.out; omega) (by have := HLN.out; omega)).mono ?_; rintro e w1 ⟨rfl, hb1⟩
        have HBW := Lib.hid (HBO.out.trans ((boxed hb1).mono HBO.out.size))
        have z1 : w1.cell? ⟨wr.heap.size, 1, none⟩ = some (.int .i64 0) := ((Box.made wr 81 #[.func (.func 39) #[] #[], .int .i64 0, .int .i64 0]).later hb1).cell 1
        have z2 : w1.cell? ⟨wr.heap.size, 2, none⟩ = some (.int .i64 0) := ((Box.made wr 81 #[.func (.func 39) #[] #[], .int .i64 0, .int .i64 0]).later hb1).cell 2
        clear hb1 t0 t1 t2
        obtain ⟨x, hx⟩ : ∃ x, (nrN l (l.length - 1)) = x := ⟨_, rfl⟩
        have HV := Lib.hid hx
        rw [hx]
        clear hx
        by_cases g1 : x < 0
        · have d1 : decide (x < 0) = true := decide_eq_true g1
          have HF := Lib.hid (show gradesB l = false by rw [← HV.out] at g1; unfold gradesB; rw [decide_eq_false (show ¬ nrN l (l.length - 1) = 0 by omega), Bool.and_false]; rfl)
          clear g1
          go_wp2_with fail
          go_ret
          exact ⟨ret_bool HF.out.symm, HBW.out⟩
        · have d1 : decide (x < 0) = false := decide_eq_false g1
          by_cases g2 : 0 < x
          · have d2 : decide (0 < x) = true := decide_eq_true g2
            have HF := Lib.hid (show gradesB l = false by rw [← HV.out] at g1 g2; unfold gradesB; rw [decide_eq_false (show ¬ nrN l (l.length - 1) = 0 by omega), Bool.and_false]; rfl)
            clear g1 g2
            go_wp2_with fail
            go_ret
            exact ⟨ret_bool HF.out.symm, HBW.out⟩
          · have d2 : decide (0 < x) = false := decide_eq_false g2
            have HF := Lib.hid (show prefG l 3 = true by
              rw [← HV.out] at g1 g2
              have hp := HP.out
              simp only [prefG, Bool.and_eq_true] at hp ⊢
              exact ⟨hp, decide_eq_true (by omega)⟩)
            clear g1 g2
            go_wp2_with fail
            go_roundw
            case rel => exact ⟨3, by omega, by go_num, HF.out, HBW.out⟩
            case measure => simp [intOf]
      · have t0 : wr.cell? ⟨b, 9, none⟩ = some (.func (.func 40) #[] #[]) := keepd (HC.out 9 (by omega)) HBO.out HB.out
        have t1 : wr.cell? ⟨b, 10, none⟩ = some (.int .i64 0) := keepd (HC.out 10 (by omega)) HBO.out HB.out
        have t2 : wr.cell? ⟨b, 11, none⟩ = some (.int .i64 64) := keepd (HC.out 11 (by omega)) HBO.out HB.out
        clear hi hi3
        have hlen : 1 ≤ l.length ∧ l.length ≤ 8 := by
          have h1 : inB l.length 1 8 = true := by
            have hp := HP.out
            simp only [prefG, Bool.and_eq_true] at hp
            exact hp.1.1
          have h2 := inB_iff.1 h1
          omega
        have HLN := Lib.hid hlen
        clear hlen
        have HL2 := Lib.hid (Ints.mono HL.out (HBO.out.alloc HBO.out.size (.cells #[.func (.func 40) #[] #[], .int .i64 0, .int .i64 64] 81)) (HBO.out.alloc HBO.out.size (.cells #[.func (.func 40) #[] #[], .int .i64 0, .int .i64 64] 81)).size)
        go_wp2_with fail
        refine (keepW (v := v) (P := fun e => e = _) (gnum3_c l v _ HL2.out (by have := HLN.out; omega) (by have := HLN.out; omega))).mono ?_; rintro e w1 ⟨rfl, hb1⟩
        have HBW := Lib.hid (HBO.out.trans ((boxed hb1).mono HBO.out.size))
        have z1 : w1.cell? ⟨wr.heap.size, 1, none⟩ = some (.int .i64 0) := ((Box.made wr 81 #[.func (.func 40) #[] #[], .int .i64 0, .int .i64 64]).later hb1).cell 1
        have z2 : w1.cell? ⟨wr.heap.size, 2, none⟩ = some (.int .i64 64) := ((Box.made wr 81 #[.func (.func 40) #[] #[], .int .i64 0, .int .i64 64]).later hb1).cell 2
        clear hb1 t0 t1 t2
        obtain ⟨x, hx⟩ : ∃ x, (nth l (l.length - 1)) = x := ⟨_, rfl⟩
        have HV := Lib.hid hx
        rw [hx]
        clear hx
        by_cases g1 : x < 0
        · have d1 : decide (x < 0) = true := decide_eq_true g1
          have HF := Lib.hid (show gradesB l = false by rw [← HV.out] at g1; unfold gradesB; rw [show inB (nth l (l.length - 1)) 0 64 = false from inB_not.2 (by omega), Bool.and_false])
          clear g1
          go_wp2_with fail
          go_ret
          exact ⟨ret_bool HF.out.symm, HBW.out⟩
        · have d1 : decide (x < 0) = false := decide_eq_false g1
          by_cases g2 : 64 < x
          · have d2 : decide (64 < x) = true := decide_eq_true g2
            have HF := Lib.hid (show gradesB l = false by rw [← HV.out] at g1 g2; unfold gradesB; rw [show inB (nth l (l.length - 1)) 0 64 = false from inB_not.2 (by omega), Bool.and_false])
            clear g1 g2
            go_wp2_with fail
            go_ret
            exact ⟨ret_bool HF.out.symm, HBW.out⟩
          · have d2 : decide (64 < x) = false := decide_eq_false g2
            have HF := Lib.hid (show prefG l 4 = true by
              rw [← HV.out] at g1 g2
              have hp := HP.out
              simp only [prefG, gradesB, Bool.and_eq_true] at hp ⊢
              exact ⟨hp, inB_iff.2 (by omega)⟩)
            clear g1 g2
            go_wp2_with fail
            go_roundw
            case rel => exact ⟨4, by omega, by go_num, HF.out, HBW.out⟩
            case measure => simp [intOf]
      · omega
    · obtain rfl : i = 4 := by omega
      go_wp2_with fail
      go_ret
      exact ⟨ret_bool (show true = gradesB l from HP.out.symm), HBO.out⟩

set_option maxRecDepth 100000 in
set_option maxHeartbeats 8000000 in
theorem ValidGrades_c (l : List Int) (v : Value) (w : World) (hl : Ints w w.heap.size v l) : Calls Tryz.prog 12 #[v] w fun e w' => e = .returned (.bool (gradesB l)) ∧ Below w.heap.size w w' := by
  have HB1 := Lib.hid ((Below.refl w.heap.size w).alloc (Nat.le_refl _) (.cells gradeTab 81))
  have HL := Lib.hid (Ints.mono hl HB1.out HB1.out.size)
  have HX := Lib.hid (Box.made w 81 gradeTab)
  clear hl
  go_enter Tryz.func12, Tryz.ntmps12
  go_wp2_with fail
  refine (gfits_c l v _ w.heap.size HX.out.lt (fun i hi => HX.out.cell i) HL.out).mono ?_; rintro e w1 ⟨rfl, hb1⟩
  have HB2 := Lib.hid (HB1.out.trans (hb1.mono HB1.out.size))
  clear hb1
  go_wp2_with fail
  go_ret
  exact ⟨rfl, HB2.out⟩

set_option maxRecDepth 100000 in
set_option maxHeartbeats 8000000 in
theorem rValidGrades_c (l : List Int) (v : Value) (w : World) (hl : Ints w w.heap.size v l) : Calls Tryz.prog 13 #[v] w fun e w' => e = .returned (.bool (gradesB l)) ∧ Below w.heap.size w w' := by
  rw [grades_ref]
  obtain ⟨hlen, A, c, rfl, -, hc⟩ := hl
  have HC := Lib.hid hc
  obtain ⟨n, hn⟩ : ∃ n, l.length = n := ⟨_, rfl⟩
  rw [hn] at HC ⊢
  clear hc hn hlen
  by_cases c1 : 1 ≤ n ∧ n ≤ 8
  · have HIN := Lib.hid (show inB (n : Int) 1 8 = true from inB_iff.2 (by omega))
    have d1 : decide ((n : Int) < 1) = false := by simp; omega
    have d1' : decide (n < 1) = false := by simp; omega
    have d2 : decide ((8 : Int) < (n : Int)) = false := by simp; omega
    have d2' : decide (8 < n) = false := by simp; omega
    obtain ⟨b, off, rfl, hb, hcc⟩ := HC.out (by omega)
    have HCC := Lib.hid hcc
    have HBL := Lib.hid hb
    have y0 := hcc 0 (by omega)
    rw [Nat.add_zero] at y0
    have i00 : (0 : Int) < (n : Int) := by omega
    have hn8 : n ≤ 8 := c1.2
    have HN1 := Lib.hid c1
    obtain ⟨x0, hx0⟩ : ∃ x, nth l 0 = x := ⟨_, rfl⟩
    rw [hx0] at y0
    have HX0 := Lib.hid hx0
    clear c1 hcc hb hx0
    by_cases c2 : x0 = 0
    · have n1 : (x0 != 0) = false := by simpa using c2
      have HR0 := Lib.hid (show (inB (n : Int) 1 8 && decide (nth l 0 = 0) && rgTo l n) = rgTo l n by rw [HIN.out, HX0.out, c2]; simp)
      clear c2
      go_enter Tryz.func13, Tryz.ntmps13
      go_wp2_with fail
      clear y0
      go_loopw [3] (fun iv wr => ∃ k : Nat, 1 ≤ k ∧ k ≤ n ∧ iv = .int .i64 (k : Int) ∧ rgTo l k = true ∧ Below w.heap.size w wr) (fun iv _ => n - (intOf iv).toNat)
      case atStart => exact ⟨1, Nat.le_refl _, HN1.out.1, rfl, rfl, Below.refl _ _⟩
      case round =>
        obtain ⟨k, hk1, hk, rfl, hrg, hbr⟩ := hrel
        have HRG := Lib.hid hrg
        have HBR := Lib.hid hbr
        clear hrg hbr
        by_cases hlt : k < n
        · have hdk : decide ((k : Int) < (n : Int)) = true := by simpa using hlt
          obtain ⟨j, rfl⟩ : ∃ j, k = j + 1 := ⟨k - 1, by omega⟩
          have hyj := HCC.out j (by omega)
          have hyk := HCC.out (j + 1) hlt
          have hAt : rgAt l (j + 1) = (decide (nth l j < nth l (j + 1)) && decide (nth l (j + 1) ≤ 64)) := rfl
          obtain ⟨kk, hkk⟩ : ∃ kk, j + 1 = kk := ⟨_, rfl⟩
          have HKK := Lib.hid hkk
          rw [hkk] at hyk hAt HRG hdk hk1 hk hlt ⊢
          have HLT := Lib.hid hlt
          have hkI : (j : Int) + 1 = (kk : Int) := by omega
          have HKI := Lib.hid hkI
          have wk : IntKind.i64.wrap ((kk : Int) - 1) = (j : Int) := by rw [← hkI, show (j : Int) + 1 - 1 = (j : Int) by omega]; exact wrap_id (by omega) (by omega)
          have k8 : kk ≤ 8 := by omega
          have i0 : (0 : Int) ≤ (kk : Int) := by omega
          have i1 : (kk : Int) < (n : Int) := by omega
          have i2 : (0 : Int) ≤ (j : Int) := by omega
          have i3 : (j : Int) < (n : Int) := by omega
          obtain ⟨x, hx⟩ : ∃ x, nth l j = x := ⟨_, rfl⟩
          obtain ⟨y, hy⟩ : ∃ x, nth l kk = x := ⟨_, rfl⟩
          rw [hx] at hyj hAt
          rw [hy] at hyk hAt
          have y1 := keepd hyj HBR.out HBL.out
          have y2 := keepd hyk HBR.out HBL.out
          have HAT := Lib.hid hAt
          have HK1 := Lib.hid hk1
          clear hyj hyk hAt hx hy hkk hkI hlt hk1 hk
          have BAD : rgAt l kk = false → (inB (n : Int) 1 8 && decide (nth l 0 = 0) && rgTo l n) = false := fun h => by rw [HR0.out]; exact rgTo_false h HK1.out HLT.out
          have HBAD := Lib.hid BAD
          clear BAD
          by_cases g1 : y ≤ x
          · have e1 : decide (y ≤ x) = true := decide_eq_true g1
            have HF := Lib.hid (HBAD.out (by rw [HAT.out, decide_eq_false (by omega)]; rfl))
            clear g1
            go_wp2_with fail
            go_quiet (fail)
            go_wp2_with fail
            go_ret
            exact ⟨ret_bool HF.out.symm, HBR.out.trans (below_drewN _ _)⟩
          · have e1 : decide (y ≤ x) = false := decide_eq_false g1
            by_cases g2 : 64 < y
            · have e2 : decide (64 < y) = true := decide_eq_true g2
              have HF := Lib.hid (HBAD.out (by rw [HAT.out, decide_eq_false (show ¬ y ≤ 64 by omega), Bool.and_false]))
              clear g1 g2
              go_wp2_with fail
              go_quiet (fail)
              go_wp2_with fail
              go_ret
              exact ⟨ret_bool HF.out.symm, HBR.out.trans (below_drewN _ _)⟩
            · have e2 : decide (64 < y) = false := decide_eq_false g2
              have HF := Lib.hid (show rgTo l (kk + 1) = true by rw [rgTo, HRG.out, HAT.out, decide_eq_true (show x < y by omega), decide_eq_true (show y ≤ 64 by omega)]; simp)
              clear g1 g2
              go_wp2_with fail
              go_quiet (fail)
              go_wp2_with fail
              go_roundw
              case rel => exact ⟨kk + 1, by omega, by have := HLT.out; omega, by go_num, HF.out, HBR.out.trans (below_drewN _ _)⟩
              case measure => have := HLT.out; have := HKK.out; simp [intOf]; omega
        · obtain rfl : k = n := by omega
          have hdk : decide ((k : Int) < (k : Int)) = false := by simp
          clear hlt
          go_wp2_with fail
          go_ret
          exact ⟨ret_bool (by rw [HR0.out, HRG.out]), HBR.out⟩
    · have n1 : (x0 != 0) = true := by simpa using c2
      have HR := Lib.hid (show (inB (n : Int) 1 8 && decide (nth l 0 = 0) && rgTo l n) = false by rw [HX0.out, decide_eq_false c2, Bool.and_false]; rfl)
      clear c2
      go_enter Tryz.func13, Tryz.ntmps13
      go_wp2_with fail
      go_ret
      exact ⟨ret_bool HR.out.symm, Below.refl _ _⟩
  · have HR := Lib.hid (show (inB (n : Int) 1 8 && decide (nth l 0 = 0) && rgTo l n) = false by rw [inB_not.2 (by omega)]; rfl)
    rcases Nat.lt_or_ge n 1 with h1 | h1
    · obtain rfl : n = 0 := by omega
      have d1 : decide ((0 : Int) < 1) = true := by simp
      clear c1 h1
      go_enter Tryz.func13, Tryz.ntmps13
      go_wp2_with fail
      go_ret
      exact ⟨ret_bool HR.out.symm, Below.refl _ _⟩
    · have d1 : decide ((n : Int) < 1) = false := by simp; omega
      have d1' : decide (n < 1) = false := by simp; omega
      have d2 : decide ((8 : Int) < (n : Int)) = true := by simp; omega
      have d2' : decide (8 < n) = true := by simp; omega
      clear c1 h1
      go_enter Tryz.func13, Tryz.ntmps13
      go_wp2_with fail
      go_ret
      exact ⟨ret_bool HR.out.symm, Below.refl _ _⟩

end Go.Proofs.YtikfiallhmhicaaGreat

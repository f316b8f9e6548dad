/- Layer 3: mills in memory, and which are valid, on both sides. -/
import Derived.Test.YtikfiallhmhicaaGreatC32
import Derived.Test.YtikfiallhmhicaaGreatC29
import Derived.Test.YtikfiallhmhicaaGreatI0
set_option linter.all false
namespace Go.Proofs.YtikfiallhmhicaaGreat
open Go.RowKit


def allB (l : List Int) (a b : Int) : Bool := l.all fun x => inB x a b
theorem allB_snoc (l : List Int) (a b : Int) (k : Nat) (h : k < l.length) : allB (l.take (k + 1)) a b = (allB (l.take k) a b && inB (nth l k) a b) := by
  unfold allB nth
  rw [List.take_succ_eq_append_getElem h, List.all_append]
  simp [h]
theorem allB_false (l : List Int) (a b : Int) (k : Nat) (h : k < l.length) (hf : inB (nth l k) a b = false) : allB l a b = false := by
  unfold allB nth at *
  rw [List.all_eq_false]
  exact ⟨l[k], List.getElem_mem h, by simpa [h] using hf⟩
theorem allB_nth {l : List Int} {a b : Int} (h : allB l a b = true) {k : Nat} (hk : k < l.length) : a ≤ nth l k ∧ nth l k ≤ b := by
  cases hq : inB (nth l k) a b
  · rw [allB_false l a b k hk hq] at h; cases h
  · exact inB_iff.1 hq
/-- a mill -/
structure Ml where
  pr : Pr
  gap : List Int
def millV (p : Pr) (s r d g : Value) : Value := .agg #[.int .i64 p.bed.eye, .int .i64 p.bed.rings, .int .i64 p.bed.sectors, s, .int .i64 p.run.eye, .int .i64 p.run.rings, .int .i64 p.run.sectors, r, d, g]
def IsMill (w : World) (B : Nat) (v : Value) (m : Ml) : Prop :=
  ∃ s r d g, v = millV m.pr s r d g ∧ Ints w B s m.pr.bed.kinds ∧ Ints w B r m.pr.run.kinds ∧ Drive w B d m.pr.drive ∧ Ints w B g m.gap
theorem IsMill.later {w w1 : World} {v : Value} {m : Ml} (h : IsMill w w.heap.size v m) (hb : Below w.heap.size w w1) : IsMill w1 w1.heap.size v m := by
  obtain ⟨s, r, d, g, rfl, h1, h2, h3, h4⟩ := h
  exact ⟨s, r, d, g, rfl, h1.later hb, h2.later hb, h3.later hb, h4.later hb⟩
/-- what is wrong with a mill -/
def ckM (m : Ml) : Int := if ckE m.pr = 0 then (if (m.gap.length : Int) = m.pr.bed.rings * m.pr.bed.sectors then (if allB m.gap 0 4095 then 0 else 31) else 31) else ckE m.pr
theorem ckM_zero {m : Ml} (h : ckM m = 0) : ckE m.pr = 0 ∧ (m.gap.length : Int) = m.pr.bed.rings * m.pr.bed.sectors ∧ allB m.gap 0 4095 = true := by
  unfold ckM at h
  split at h
  · split at h
    · split at h
      · exact ⟨by assumption, by assumption, by assumption⟩
      · omega
    · omega
  · contradiction
set_option maxRecDepth 100000 in
set_option maxHeartbeats 8000000 in
theorem CheckMill_c (m : Ml) (v : Value) (w : World) (h : IsMill w w.heap.size v m) : Calls Tryz.prog 10 #[v] w fun e w' => e = .returned (.int .i64 (ckM m)) ∧ Below w.heap.size w w' := by
  obtain ⟨s, r, d, gv, hpv, i1, i2, i3, i4⟩ := id h
  subst hpv
  obtain ⟨⟨⟨e1, R1, S1, k1⟩, ⟨e2, R2, S2, k2⟩, dr⟩, gp⟩ := m
  unfold millV at *
  dsimp only at *
  obtain ⟨gn, hgn⟩ : ∃ n, gp.length = n := ⟨_, rfl⟩
  have HGN := Lib.hid hgn
  have HG0 := Lib.hid i4
  obtain ⟨-, GA, gc, he4, -, -⟩ := i4
  rw [hgn] at he4
  subst he4
  clear hgn
  have HP0 := Lib.hid (show IsPair w w.heap.size (pairV ⟨⟨e1, R1, S1, k1⟩, ⟨e2, R2, S2, k2⟩, dr⟩ s r d) ⟨⟨e1, R1, S1, k1⟩, ⟨e2, R2, S2, k2⟩, dr⟩ from ⟨s, r, d, rfl, i1, i2, i3⟩)
  unfold pairV at HP0
  dsimp only at HP0
  clear h
  have HM0 := Lib.hid (show ∀ (hz : ckE ⟨⟨e1, R1, S1, k1⟩, ⟨e2, R2, S2, k2⟩, dr⟩ = 0), ckM ⟨⟨⟨e1, R1, S1, k1⟩, ⟨e2, R2, S2, k2⟩, dr⟩, gp⟩ = if (gp.length : Int) = R1 * S1 then (if allB gp 0 4095 then 0 else 31) else 31 from fun hz => by unfold ckM; rw [if_pos hz])
  go_enter Tryz.func10, Tryz.ntmps10
  go_wp2_with fail
  obtain ⟨W1, hW2⟩ : ∃ Wzz, (w.alloc (.cells #[.int .i64 e1, .int .i64 R1, .int .i64 S1, s, .int .i64 e2, .int .i64 R2, .int .i64 S2, r, d, .slice GA gn gc] 33)) = Wzz := ⟨_, rfl⟩
  have B3 := Lib.hid (show Below w.heap.size w W1 by rw [← hW2]; exact ((Below.refl w.heap.size w).alloc (Nat.le_refl _) _))
  have X4 := Lib.hid (show Box W1 (w.heap.size) 33 #[.int .i64 e1, .int .i64 R1, .int .i64 S1, s, .int .i64 e2, .int .i64 R2, .int .i64 S2, r, d, .slice GA gn gc] by rw [← hW2]; exact Box.made w 33 #[.int .i64 e1, .int .i64 R1, .int .i64 S1, s, .int .i64 e2, .int .i64 R2, .int .i64 S2, r, d, .slice GA gn gc])
  have C5 := Lib.hid (HP0.out.later B3.out)
  have C6 := Lib.hid (HG0.out.later B3.out)
  have SZ7 := Lib.hid (show W1.heap.size = w.heap.size + 1 by rw [← hW2]; simp)
  rw [hW2]
  clear hW2
  have q8 : W1.cell? ⟨w.heap.size, 0, none⟩ = some (.int .i64 e1) := X4.out.cell 0
  have q9 : W1.cell? ⟨w.heap.size, 1, none⟩ = some (.int .i64 R1) := X4.out.cell 1
  have q10 : W1.cell? ⟨w.heap.size, 2, none⟩ = some (.int .i64 S1) := X4.out.cell 2
  have q11 : W1.cell? ⟨w.heap.size, 3, none⟩ = some (s) := X4.out.cell 3
  have q12 : W1.cell? ⟨w.heap.size, 4, none⟩ = some (.int .i64 e2) := X4.out.cell 4
  have q13 : W1.cell? ⟨w.heap.size, 5, none⟩ = some (.int .i64 R2) := X4.out.cell 5
  have q14 : W1.cell? ⟨w.heap.size, 6, none⟩ = some (.int .i64 S2) := X4.out.cell 6
  have q15 : W1.cell? ⟨w.heap.size, 7, none⟩ = some (r) := X4.out.cell 7
  have q16 : W1.cell? ⟨w.heap.size, 8, none⟩ = some (d) := X4.out.cell 8
  have q17 : W1.cell? ⟨w.heap.size, 9, none⟩ = some (.slice GA gn gc) := X4.out.cell 9
  go_wp2_with fail
  refine (Check_c ⟨⟨e1, R1, S1, k1⟩, ⟨e2, R2, S2, k2⟩, dr⟩ _ _ C5.out trivial).mono ?_; rintro e v18 ⟨rfl, hb19⟩
  have X20 := Lib.hid (X4.out.later hb19)
  have C21 := Lib.hid (C5.out.later hb19)
  have C22 := Lib.hid (C6.out.later hb19)
  have B23 := Lib.hid (B3.out.trans (hb19.mono B3.out.size))
  clear hb19
  clear q8 q9 q10 q11 q12 q13 q14 q15 q16 q17
  have q24 : v18.cell? ⟨w.heap.size, 0, none⟩ = some (.int .i64 e1) := X20.out.cell 0
  have q25 : v18.cell? ⟨w.heap.size, 1, none⟩ = some (.int .i64 R1) := X20.out.cell 1
  have q26 : v18.cell? ⟨w.heap.size, 2, none⟩ = some (.int .i64 S1) := X20.out.cell 2
  have q27 : v18.cell? ⟨w.heap.size, 3, none⟩ = some (s) := X20.out.cell 3
  have q28 : v18.cell? ⟨w.heap.size, 4, none⟩ = some (.int .i64 e2) := X20.out.cell 4
  have q29 : v18.cell? ⟨w.heap.size, 5, none⟩ = some (.int .i64 R2) := X20.out.cell 5
  have q30 : v18.cell? ⟨w.heap.size, 6, none⟩ = some (.int .i64 S2) := X20.out.cell 6
  have q31 : v18.cell? ⟨w.heap.size, 7, none⟩ = some (r) := X20.out.cell 7
  have q32 : v18.cell? ⟨w.heap.size, 8, none⟩ = some (d) := X20.out.cell 8
  have q33 : v18.cell? ⟨w.heap.size, 9, none⟩ = some (.slice GA gn gc) := X20.out.cell 9
  by_cases hz : ckE ⟨⟨e1, R1, S1, k1⟩, ⟨e2, R2, S2, k2⟩, dr⟩ = 0; rotate_left
  · have HR := Lib.hid (show ckM ⟨⟨⟨e1, R1, S1, k1⟩, ⟨e2, R2, S2, k2⟩, dr⟩, gp⟩ = ckE ⟨⟨e1, R1, S1, k1⟩, ⟨e2, R2, S2, k2⟩, dr⟩ by unfold ckM; rw [if_neg hz])
    have n1 : (ckE ⟨⟨e1, R1, S1, k1⟩, ⟨e2, R2, S2, k2⟩, dr⟩ != 0) = true := by simpa using hz
    have n2 : decide (ckE ⟨⟨e1, R1, S1, k1⟩, ⟨e2, R2, S2, k2⟩, dr⟩ = 0) = false := by simpa using hz
    clear hz
    go_wp2_with fail
    go_ret
    exact ⟨ret_int HR.out.symm, B23.out⟩
  · have HZ := Lib.hid hz
    have HMC := Lib.hid (HM0.out hz)
    rw [hz]
    clear hz
    go_wp2_with fail
    refine (States_ok ⟨⟨e1, R1, S1, k1⟩, ⟨e2, R2, S2, k2⟩, dr⟩ _ _ C21.out HZ.out).mono ?_; rintro e v34 ⟨rfl, hb35⟩
    have X36 := Lib.hid (X20.out.later hb35)
    have C37 := Lib.hid (C21.out.later hb35)
    have C38 := Lib.hid (C22.out.later hb35)
    have B39 := Lib.hid (B23.out.trans (hb35.mono B23.out.size))
    clear hb35
    clear q24 q25 q26 q27 q28 q29 q30 q31 q32 q33
    have q40 : v34.cell? ⟨w.heap.size, 0, none⟩ = some (.int .i64 e1) := X36.out.cell 0
    have q41 : v34.cell? ⟨w.heap.size, 1, none⟩ = some (.int .i64 R1) := X36.out.cell 1
    have q42 : v34.cell? ⟨w.heap.size, 2, none⟩ = some (.int .i64 S1) := X36.out.cell 2
    have q43 : v34.cell? ⟨w.heap.size, 3, none⟩ = some (s) := X36.out.cell 3
    have q44 : v34.cell? ⟨w.heap.size, 4, none⟩ = some (.int .i64 e2) := X36.out.cell 4
    have q45 : v34.cell? ⟨w.heap.size, 5, none⟩ = some (.int .i64 R2) := X36.out.cell 5
    have q46 : v34.cell? ⟨w.heap.size, 6, none⟩ = some (.int .i64 S2) := X36.out.cell 6
    have q47 : v34.cell? ⟨w.heap.size, 7, none⟩ = some (r) := X36.out.cell 7
    have q48 : v34.cell? ⟨w.heap.size, 8, none⟩ = some (d) := X36.out.cell 8
    have q49 : v34.cell? ⟨w.heap.size, 9, none⟩ = some (.slice GA gn gc) := X36.out.cell 9
    obtain ⟨zR, zS, -, -, -, -, zk, -⟩ := ckE_bd HZ.out
    dsimp only at zR zS zk
    obtain ⟨m1, m2⟩ := mul_bd (a := R1) (b := S1) (m := 24) (n := 96) (by omega) (by omega) (by omega) (by omega)
    obtain ⟨x, hx⟩ : ∃ x, R1 * S1 = x := ⟨_, rfl⟩
    have HX := Lib.hid hx
    rw [hx] at m1 m2 zk
    have v1 : IntKind.i64.wrap (R1 * S1) = x := by rw [hx]; exact wrap_id (by omega) (by omega)
    clear zR zS hx m1
    by_cases hg : (gn : Int) = x; rotate_left
    · have HR := Lib.hid (show ckM ⟨⟨⟨e1, R1, S1, k1⟩, ⟨e2, R2, S2, k2⟩, dr⟩, gp⟩ = 31 by rw [HMC.out, HGN.out, HX.out, if_neg hg])
      have n1 : ((gn : Int) != x) = true := by simp; omega
      have n2 : decide ((gn : Int) = x) = false := by simp; omega
      clear hg zk m2
      go_wp2_with fail
      go_ret
      exact ⟨ret_int HR.out.symm, B39.out⟩
    · have HR0 := Lib.hid (show ckM ⟨⟨⟨e1, R1, S1, k1⟩, ⟨e2, R2, S2, k2⟩, dr⟩, gp⟩ = if allB gp 0 4095 then 0 else 31 by rw [HMC.out, HGN.out, HX.out, if_pos hg])
      have n1 : ((gn : Int) != x) = false := by simp; omega
      have n2 : decide ((gn : Int) = x) = true := by simp; omega
      have hgb : gn ≤ 2304 := by omega
      clear hg zk m2
      go_wp2_with fail
      go_loopw [39] (fun i wr => ∃ k : Nat, k ≤ gn ∧ i = .int .i64 (k : Int) ∧ allB (gp.take k) 0 4095 = true ∧ Below v34.heap.size v34 wr) (fun i _ => gn - (intOf i).toNat)
      case atStart => exact ⟨0, Nat.zero_le _, rfl, rfl, Below.refl _ _⟩
      case round =>
        obtain ⟨k, hk, rfl, hall, hbr⟩ := hrel
        have HALL := Lib.hid hall
        have HBR := Lib.hid hbr
        have HBX := Lib.hid (X36.out.later hbr)
        clear hall hbr
        by_cases hlt : k < gn
        · have hdk : decide ((k : Int) < (gn : Int)) = true := by simpa using hlt
          have i0 : (0 : Int) ≤ (k : Int) := Int.natCast_nonneg _
          have i1' : (k : Int) < (gn : Int) := by omega
          obtain ⟨-, A', c', he', -, hcell⟩ := C38.out
          rw [HGN.out] at he' hcell
          cases he'
          obtain ⟨gb, go_, rfl, hgbb, hcc⟩ := hcell (by omega)
          have y1 := keepd (hcc k hlt) HBR.out hgbb
          have HLT := Lib.hid hlt
          have HSNO := Lib.hid (allB_snoc gp 0 4095 k (by rw [HGN.out]; exact hlt))
          have HFF := Lib.hid (allB_false gp 0 4095 k (by rw [HGN.out]; exact hlt))
          obtain ⟨z, hz⟩ : ∃ z, nth gp k = z := ⟨_, rfl⟩
          rw [hz] at y1 HSNO HFF
          clear hz hcc hcell hgbb hlt
          by_cases c1 : z < 0
          · have d1 : decide (z < 0) = true := decide_eq_true c1
            have HR := Lib.hid (show ckM ⟨⟨⟨e1, R1, S1, k1⟩, ⟨e2, R2, S2, k2⟩, dr⟩, gp⟩ = 31 by rw [HR0.out, HFF.out (inB_not.2 (by omega))]; rfl)
            clear c1
            go_wp2_with fail
            go_ret
            exact ⟨ret_int HR.out.symm, B39.out.trans (HBR.out.mono B39.out.size)⟩
          by_cases c2 : 4095 < z
          · have d1 : decide (z < 0) = false := decide_eq_false c1
            have d2 : decide (4095 < z) = true := decide_eq_true c2
            have HR := Lib.hid (show ckM ⟨⟨⟨e1, R1, S1, k1⟩, ⟨e2, R2, S2, k2⟩, dr⟩, gp⟩ = 31 by rw [HR0.out, HFF.out (inB_not.2 (by omega))]; rfl)
            clear c1 c2
            go_wp2_with fail
            go_ret
            exact ⟨ret_int HR.out.symm, B39.out.trans (HBR.out.mono B39.out.size)⟩
          · have d1 : decide (z < 0) = false := decide_eq_false c1
            have d2 : decide (4095 < z) = false := decide_eq_false c2
            have HOK := Lib.hid (show allB (gp.take (k + 1)) 0 4095 = true by rw [HSNO.out, HALL.out, inB_iff.2 (by omega)]; rfl)
            clear c1 c2
            go_wp2_with fail
            go_roundw
            case rel => exact ⟨k + 1, by have := HLT.out; omega, by go_num, HOK.out, HBR.out⟩
            case measure => have := HLT.out; simp [intOf]; omega
        · obtain rfl : k = gn := by omega
          have hdk : decide ((k : Int) < (k : Int)) = false := by simp
          have HR := Lib.hid (show ckM ⟨⟨⟨e1, R1, S1, k1⟩, ⟨e2, R2, S2, k2⟩, dr⟩, gp⟩ = 0 by have h := HALL.out; rw [← HGN.out, List.take_length] at h; rw [HR0.out, h]; rfl)
          clear hlt
          go_wp2_with fail
          go_ret
          exact ⟨ret_int HR.out.symm, B39.out.trans (HBR.out.mono B39.out.size)⟩

set_option maxRecDepth 100000 in
set_option maxHeartbeats 8000000 in
theorem rCheckMill_c (m : Ml) (v : Value) (w : World) (h : IsMill w w.heap.size v m) : Calls Tryz.prog 11 #[v] w fun e w' => e = .returned (.int .i64 (ckM m)) ∧ Below w.heap.size w w' := by
  obtain ⟨s, r, d, gv, hpv, i1, i2, i3, i4⟩ := id h
  subst hpv
  obtain ⟨⟨⟨e1, R1, S1, k1⟩, ⟨e2, R2, S2, k2⟩, dr⟩, gp⟩ := m
  unfold millV at *
  dsimp only at *
  obtain ⟨gn, hgn⟩ : ∃ n, gp.length = n := ⟨_, rfl⟩
  have HGN := Lib.hid hgn
  have HG0 := Lib.hid i4
  obtain ⟨-, GA, gc, he4, -, -⟩ := i4
  rw [hgn] at he4
  subst he4
  clear hgn
  have HP0 := Lib.hid (show IsPair w w.heap.size (pairV ⟨⟨e1, R1, S1, k1⟩, ⟨e2, R2, S2, k2⟩, dr⟩ s r d) ⟨⟨e1, R1, S1, k1⟩, ⟨e2, R2, S2, k2⟩, dr⟩ from ⟨s, r, d, rfl, i1, i2, i3⟩)
  unfold pairV at HP0
  dsimp only at HP0
  clear h
  have HM0 := Lib.hid (show ∀ (hz : ckE ⟨⟨e1, R1, S1, k1⟩, ⟨e2, R2, S2, k2⟩, dr⟩ = 0), ckM ⟨⟨⟨e1, R1, S1, k1⟩, ⟨e2, R2, S2, k2⟩, dr⟩, gp⟩ = if (gp.length : Int) = R1 * S1 then (if allB gp 0 4095 then 0 else 31) else 31 from fun hz => by unfold ckM; rw [if_pos hz])
  obtain ⟨sn, hsn⟩ : ∃ n, k1.length = n := ⟨_, rfl⟩
  have HSN := Lib.hid hsn
  obtain ⟨-, SA, sc, he1, -, -⟩ := i1
  rw [hsn] at he1
  subst he1
  clear hsn
  go_enter Tryz.func11, Tryz.ntmps11
  go_wp2_with fail
  obtain ⟨W50, hW51⟩ : ∃ Wzz, (w.alloc (.cells #[.int .i64 e1, .int .i64 R1, .int .i64 S1, .slice SA sn sc, .int .i64 e2, .int .i64 R2, .int .i64 S2, r, d, .slice GA gn gc] 33)) = Wzz := ⟨_, rfl⟩
  have B52 := Lib.hid (show Below w.heap.size w W50 by rw [← hW51]; exact ((Below.refl w.heap.size w).alloc (Nat.le_refl _) _))
  have X53 := Lib.hid (show Box W50 (w.heap.size) 33 #[.int .i64 e1, .int .i64 R1, .int .i64 S1, .slice SA sn sc, .int .i64 e2, .int .i64 R2, .int .i64 S2, r, d, .slice GA gn gc] by rw [← hW51]; exact Box.made w 33 #[.int .i64 e1, .int .i64 R1, .int .i64 S1, .slice SA sn sc, .int .i64 e2, .int .i64 R2, .int .i64 S2, r, d, .slice GA gn gc])
  have C54 := Lib.hid (HP0.out.later B52.out)
  have C55 := Lib.hid (HG0.out.later B52.out)
  have SZ56 := Lib.hid (show W50.heap.size = w.heap.size + 1 by rw [← hW51]; simp)
  rw [hW51]
  clear hW51
  have q57 : W50.cell? ⟨w.heap.size, 0, none⟩ = some (.int .i64 e1) := X53.out.cell 0
  have q58 : W50.cell? ⟨w.heap.size, 1, none⟩ = some (.int .i64 R1) := X53.out.cell 1
  have q59 : W50.cell? ⟨w.heap.size, 2, none⟩ = some (.int .i64 S1) := X53.out.cell 2
  have q60 : W50.cell? ⟨w.heap.size, 3, none⟩ = some (.slice SA sn sc) := X53.out.cell 3
  have q61 : W50.cell? ⟨w.heap.size, 4, none⟩ = some (.int .i64 e2) := X53.out.cell 4
  have q62 : W50.cell? ⟨w.heap.size, 5, none⟩ = some (.int .i64 R2) := X53.out.cell 5
  have q63 : W50.cell? ⟨w.heap.size, 6, none⟩ = some (.int .i64 S2) := X53.out.cell 6
  have q64 : W50.cell? ⟨w.heap.size, 7, none⟩ = some (r) := X53.out.cell 7
  have q65 : W50.cell? ⟨w.heap.size, 8, none⟩ = some (d) := X53.out.cell 8
  have q66 : W50.cell? ⟨w.heap.size, 9, none⟩ = some (.slice GA gn gc) := X53.out.cell 9
  go_wp2_with fail
  refine (kCheck_c ⟨⟨e1, R1, S1, k1⟩, ⟨e2, R2, S2, k2⟩, dr⟩ _ _ C54.out).mono ?_; rintro e v67 ⟨rfl, hb68⟩
  have X69 := Lib.hid (X53.out.later hb68)
  have C70 := Lib.hid (C54.out.later hb68)
  have C71 := Lib.hid (C55.out.later hb68)
  have B72 := Lib.hid (B52.out.trans (hb68.mono B52.out.size))
  clear hb68
  clear q57 q58 q59 q60 q61 q62 q63 q64 q65 q66
  have q73 : v67.cell? ⟨w.heap.size, 0, none⟩ = some (.int .i64 e1) := X69.out.cell 0
  have q74 : v67.cell? ⟨w.heap.size, 1, none⟩ = some (.int .i64 R1) := X69.out.cell 1
  have q75 : v67.cell? ⟨w.heap.size, 2, none⟩ = some (.int .i64 S1) := X69.out.cell 2
  have q76 : v67.cell? ⟨w.heap.size, 3, none⟩ = some (.slice SA sn sc) := X69.out.cell 3
  have q77 : v67.cell? ⟨w.heap.size, 4, none⟩ = some (.int .i64 e2) := X69.out.cell 4
  have q78 : v67.cell? ⟨w.heap.size, 5, none⟩ = some (.int .i64 R2) := X69.out.cell 5
  have q79 : v67.cell? ⟨w.heap.size, 6, none⟩ = some (.int .i64 S2) := X69.out.cell 6
  have q80 : v67.cell? ⟨w.heap.size, 7, none⟩ = some (r) := X69.out.cell 7
  have q81 : v67.cell? ⟨w.heap.size, 8, none⟩ = some (d) := X69.out.cell 8
  have q82 : v67.cell? ⟨w.heap.size, 9, none⟩ = some (.slice GA gn gc) := X69.out.cell 9
  by_cases hz : ckE ⟨⟨e1, R1, S1, k1⟩, ⟨e2, R2, S2, k2⟩, dr⟩ = 0; rotate_left
  · have HR := Lib.hid (show ckM ⟨⟨⟨e1, R1, S1, k1⟩, ⟨e2, R2, S2, k2⟩, dr⟩, gp⟩ = ckE ⟨⟨e1, R1, S1, k1⟩, ⟨e2, R2, S2, k2⟩, dr⟩ by unfold ckM; rw [if_neg hz])
    have n1 : (ckE ⟨⟨e1, R1, S1, k1⟩, ⟨e2, R2, S2, k2⟩, dr⟩ != 0) = true := by simpa using hz
    have n2 : decide (ckE ⟨⟨e1, R1, S1, k1⟩, ⟨e2, R2, S2, k2⟩, dr⟩ = 0) = false := by simpa using hz
    clear hz
    go_wp2_with fail
    go_ret
    exact ⟨ret_int HR.out.symm, B72.out⟩
  · have HZ := Lib.hid hz
    have HMC := Lib.hid (HM0.out hz)
    rw [hz]
    clear hz
    go_wp2_with fail
    refine (kStates_ok ⟨⟨e1, R1, S1, k1⟩, ⟨e2, R2, S2, k2⟩, dr⟩ _ _ C70.out HZ.out).mono ?_; rintro e v83 ⟨rfl, hb84⟩
    have X85 := Lib.hid (X69.out.later hb84)
    have C86 := Lib.hid (C70.out.later hb84)
    have C87 := Lib.hid (C71.out.later hb84)
    have B88 := Lib.hid (B72.out.trans (hb84.mono B72.out.size))
    clear hb84
    clear q73 q74 q75 q76 q77 q78 q79 q80 q81 q82
    have q89 : v83.cell? ⟨w.heap.size, 0, none⟩ = some (.int .i64 e1) := X85.out.cell 0
    have q90 : v83.cell? ⟨w.heap.size, 1, none⟩ = some (.int .i64 R1) := X85.out.cell 1
    have q91 : v83.cell? ⟨w.heap.size, 2, none⟩ = some (.int .i64 S1) := X85.out.cell 2
    have q92 : v83.cell? ⟨w.heap.size, 3, none⟩ = some (.slice SA sn sc) := X85.out.cell 3
    have q93 : v83.cell? ⟨w.heap.size, 4, none⟩ = some (.int .i64 e2) := X85.out.cell 4
    have q94 : v83.cell? ⟨w.heap.size, 5, none⟩ = some (.int .i64 R2) := X85.out.cell 5
    have q95 : v83.cell? ⟨w.heap.size, 6, none⟩ = some (.int .i64 S2) := X85.out.cell 6
    have q96 : v83.cell? ⟨w.heap.size, 7, none⟩ = some (r) := X85.out.cell 7
    have q97 : v83.cell? ⟨w.heap.size, 8, none⟩ = some (d) := X85.out.cell 8
    have q98 : v83.cell? ⟨w.heap.size, 9, none⟩ = some (.slice GA gn gc) := X85.out.cell 9
    obtain ⟨zR, zS, -, -, -, -, zk, -⟩ := ckE_bd HZ.out
    dsimp only at zR zS zk
    obtain ⟨m1, m2⟩ := mul_bd (a := R1) (b := S1) (m := 24) (n := 96) (by omega) (by omega) (by omega) (by omega)
    obtain ⟨x, hx⟩ : ∃ x, R1 * S1 = x := ⟨_, rfl⟩
    have HX := Lib.hid hx
    rw [hx] at m1 m2 zk
    have HSX := Lib.hid (show (sn : Int) = x by rw [← HSN.out]; exact zk)
    clear zR zS hx m1
    by_cases hg : (gn : Int) = x; rotate_left
    · have HR := Lib.hid (show ckM ⟨⟨⟨e1, R1, S1, k1⟩, ⟨e2, R2, S2, k2⟩, dr⟩, gp⟩ = 31 by rw [HMC.out, HGN.out, HX.out, if_neg hg])
      have n1 : ((gn : Int) != (sn : Int)) = true := by have := HSX.out; simp; omega
      have n2 : decide ((gn : Int) = (sn : Int)) = false := by have := HSX.out; simp; omega
      clear hg zk m2
      go_wp2_with fail
      go_ret
      exact ⟨ret_int HR.out.symm, B88.out⟩
    · have HR0 := Lib.hid (show ckM ⟨⟨⟨e1, R1, S1, k1⟩, ⟨e2, R2, S2, k2⟩, dr⟩, gp⟩ = if allB gp 0 4095 then 0 else 31 by rw [HMC.out, HGN.out, HX.out, if_pos hg])
      have n1 : ((gn : Int) != (sn : Int)) = false := by have := HSX.out; simp; omega
      have n2 : decide ((gn : Int) = (sn : Int)) = true := by have := HSX.out; simp; omega
      have hgb : gn ≤ 2304 := by omega
      clear hg zk m2
      go_wp2_with fail
      go_loopw [4] (fun i wr => ∃ k : Nat, k ≤ gn ∧ i = .int .i64 (k : Int) ∧ allB (gp.take k) 0 4095 = true ∧ Below v83.heap.size v83 wr) (fun i _ => gn - (intOf i).toNat)
      case atStart => exact ⟨0, Nat.zero_le _, rfl, rfl, Below.refl _ _⟩
      case round =>
        obtain ⟨k, hk, rfl, hall, hbr⟩ := hrel
        have HALL := Lib.hid hall
        have HBR := Lib.hid hbr
        have HBX := Lib.hid (X85.out.later hbr)
        have g9 : wr.cell? ⟨w.heap.size, 9, none⟩ = some (.slice GA gn gc) := HBX.out.cell 9
        clear hall hbr
        by_cases hlt : k < gn
        · have hdk : decide ((k : Int) < (gn : Int)) = true := by simpa using hlt
          have i0 : (0 : Int) ≤ (k : Int) := Int.natCast_nonneg _
          have i1' : (k : Int) < (gn : Int) := by omega
          obtain ⟨-, A', c', he', -, hcell⟩ := C87.out
          rw [HGN.out] at he' hcell
          cases he'
          obtain ⟨gb, go_, rfl, hgbb, hcc⟩ := hcell (by omega)
          have y1 := keepd (hcc k hlt) HBR.out hgbb
          have HLT := Lib.hid hlt
          have HSNO := Lib.hid (allB_snoc gp 0 4095 k (by rw [HGN.out]; exact hlt))
          have HFF := Lib.hid (allB_false gp 0 4095 k (by rw [HGN.out]; exact hlt))
          obtain ⟨z, hz⟩ : ∃ z, nth gp k = z := ⟨_, rfl⟩
          rw [hz] at y1 HSNO HFF
          clear hz hcc hcell hgbb hlt
          cases hq : inB z 0 4095
          · have HR := Lib.hid (show ckM ⟨⟨⟨e1, R1, S1, k1⟩, ⟨e2, R2, S2, k2⟩, dr⟩, gp⟩ = 31 by rw [HR0.out, HFF.out hq]; rfl)
            have HQ := Lib.hid hq
            clear hq
            go_wp2_with fail
            refine (rwithin_b z 0 4095 false HQ.out wr).mono ?_; rintro e w2 ⟨rfl, rfl⟩
            go_wp2_with fail
            go_ret
            exact ⟨ret_int HR.out.symm, B88.out.trans (HBR.out.mono B88.out.size)⟩
          · have HOK := Lib.hid (show allB (gp.take (k + 1)) 0 4095 = true by rw [HSNO.out, HALL.out, hq]; rfl)
            have HQ := Lib.hid hq
            clear hq
            go_wp2_with fail
            refine (rwithin_b z 0 4095 true HQ.out wr).mono ?_; rintro e w2 ⟨rfl, rfl⟩
            go_wp2_with fail
            go_roundw
            case rel => exact ⟨k + 1, by have := HLT.out; omega, by go_num, HOK.out, HBR.out⟩
            case measure => have := HLT.out; simp [intOf]; omega
        · obtain rfl : k = gn := by omega
          have hdk : decide ((k : Int) < (k : Int)) = false := by simp
          have HR := Lib.hid (show ckM ⟨⟨⟨e1, R1, S1, k1⟩, ⟨e2, R2, S2, k2⟩, dr⟩, gp⟩ = 0 by have h := HALL.out; rw [← HGN.out, List.take_length] at h; rw [HR0.out, h]; rfl)
          clear hlt
          go_wp2_with fail
          go_ret
          exact ⟨ret_int HR.out.symm, B88.out.trans (HBR.out.mono B88.out.size)⟩

end Go.Proofs.YtikfiallhmhicaaGreat

/- Layer 2: the entries, as both sides answer them. -/
import Derived.Test.YtikfiallhmhicaaC39
set_option linter.all false
namespace Go.Proofs.Ytikfiallhmhicaa
open Go.RowKit

set_option maxRecDepth 100000 in
set_option maxHeartbeats 8000000 in
theorem Entries_bad (p : Pr)  (v : Value) (w : World) (h : IsPair w w.heap.size v p) (h0 : ckE p ≠ 0) : Calls Try.prog 22 #[v] w fun e w' => e = .returned (.tuple #[.slice none 0 0, .int .i64 (ckE p)]) ∧ Below w.heap.size w w' := by
  obtain ⟨s, r, d, hpv, -, -, -⟩ := id h
  subst hpv
  have HP0 := Lib.hid h
  have HE := Lib.hid h0
  clear h h0
  unfold pairV at *
  have hne : (ckE p != 0) = true := by simpa using HE.out
  have hne2 : decide (ckE p = 0) = false := by simpa using HE.out
  go_enter Try.func22, Try.ntmps22
  go_wp2_with fail
  obtain ⟨W1, hW2⟩ : ∃ Wzz, (w.alloc (.cells #[.int .i64 p.bed.eye, .int .i64 p.bed.rings, .int .i64 p.bed.sectors, s, .int .i64 p.run.eye, .int .i64 p.run.rings, .int .i64 p.run.sectors, r, d] 27)) = Wzz := ⟨_, rfl⟩
  have B3 := Lib.hid (show Below w.heap.size w W1 by rw [← hW2]; exact ((Below.refl w.heap.size w).alloc (Nat.le_refl _) _))
  have X4 := Lib.hid (show Box W1 (w.heap.size) 27 #[.int .i64 p.bed.eye, .int .i64 p.bed.rings, .int .i64 p.bed.sectors, s, .int .i64 p.run.eye, .int .i64 p.run.rings, .int .i64 p.run.sectors, r, d] by rw [← hW2]; exact Box.made w 27 #[.int .i64 p.bed.eye, .int .i64 p.bed.rings, .int .i64 p.bed.sectors, s, .int .i64 p.run.eye, .int .i64 p.run.rings, .int .i64 p.run.sectors, r, d])
  have C5 := Lib.hid (HP0.out.later B3.out)
  have SZ6 := Lib.hid (show W1.heap.size = w.heap.size + 1 by rw [← hW2]; simp)
  rw [hW2]
  clear hW2
  have q7 : W1.cell? ⟨w.heap.size, 0, none⟩ = some (.int .i64 p.bed.eye) := X4.out.cell 0
  have q8 : W1.cell? ⟨w.heap.size, 1, none⟩ = some (.int .i64 p.bed.rings) := X4.out.cell 1
  have q9 : W1.cell? ⟨w.heap.size, 2, none⟩ = some (.int .i64 p.bed.sectors) := X4.out.cell 2
  have q10 : W1.cell? ⟨w.heap.size, 3, none⟩ = some (s) := X4.out.cell 3
  have q11 : W1.cell? ⟨w.heap.size, 4, none⟩ = some (.int .i64 p.run.eye) := X4.out.cell 4
  have q12 : W1.cell? ⟨w.heap.size, 5, none⟩ = some (.int .i64 p.run.rings) := X4.out.cell 5
  have q13 : W1.cell? ⟨w.heap.size, 6, none⟩ = some (.int .i64 p.run.sectors) := X4.out.cell 6
  have q14 : W1.cell? ⟨w.heap.size, 7, none⟩ = some (r) := X4.out.cell 7
  have q15 : W1.cell? ⟨w.heap.size, 8, none⟩ = some (d) := X4.out.cell 8
  go_wp2_with fail
  refine (chartOf_bad p _ _ C5.out HE.out).mono ?_; rintro e v16 ⟨rfl, hb17⟩
  have X18 := Lib.hid (X4.out.later hb17)
  have C19 := Lib.hid (C5.out.later hb17)
  have B20 := Lib.hid (B3.out.trans (hb17.mono B3.out.size))
  clear hb17
  clear q7 q8 q9 q10 q11 q12 q13 q14 q15
  have q21 : v16.cell? ⟨w.heap.size, 0, none⟩ = some (.int .i64 p.bed.eye) := X18.out.cell 0
  have q22 : v16.cell? ⟨w.heap.size, 1, none⟩ = some (.int .i64 p.bed.rings) := X18.out.cell 1
  have q23 : v16.cell? ⟨w.heap.size, 2, none⟩ = some (.int .i64 p.bed.sectors) := X18.out.cell 2
  have q24 : v16.cell? ⟨w.heap.size, 3, none⟩ = some (s) := X18.out.cell 3
  have q25 : v16.cell? ⟨w.heap.size, 4, none⟩ = some (.int .i64 p.run.eye) := X18.out.cell 4
  have q26 : v16.cell? ⟨w.heap.size, 5, none⟩ = some (.int .i64 p.run.rings) := X18.out.cell 5
  have q27 : v16.cell? ⟨w.heap.size, 6, none⟩ = some (.int .i64 p.run.sectors) := X18.out.cell 6
  have q28 : v16.cell? ⟨w.heap.size, 7, none⟩ = some (r) := X18.out.cell 7
  have q29 : v16.cell? ⟨w.heap.size, 8, none⟩ = some (d) := X18.out.cell 8
  go_wp2_with fail
  go_ret2
  exact ⟨rfl, B20.out⟩

set_option maxRecDepth 100000 in
set_option maxHeartbeats 8000000 in
theorem Entries_ok (p : Pr) (S : Nat) (v : Value) (w : World) (h : IsPair w w.heap.size v p) (h0 : ckE p = 0) (hS : p.bed.sectors = (S : Int)) : Calls Try.prog 22 #[v] w fun e w' => (∃ v', e = .returned (.tuple #[v', .int .i64 0]) ∧ States w' w'.heap.size v' (entS p S (S * S))) ∧ Below w.heap.size w w' := by
  obtain ⟨s, r, d, hpv, -, -, -⟩ := id h
  subst hpv
  have HP0 := Lib.hid h
  have HE := Lib.hid h0
  have HP9 := Lib.hid h0
  have HS := Lib.hid hS
  obtain ⟨-, hS2, -⟩ := ckE_bd h0
  have HS9 := Lib.hid (show S * S ≤ 9216 from Nat.mul_le_mul (show S ≤ 96 by omega) (show S ≤ 96 by omega))
  clear hS hS2
  obtain ⟨i0, hi, hz0, hz1, hz2⟩ : ∃ i, Try.prog.info? 29 = some i ∧ i.zero = some (.agg #[.int .i64 0, .int .i64 0, .int .i64 0]) ∧ i.size = 3 ∧ i.bytes = 24 := ⟨_, rfl, rfl, rfl, rfl⟩
  clear h h0
  unfold pairV at *
  go_enter Try.func22, Try.ntmps22
  go_wp2_with fail
  obtain ⟨W30, hW31⟩ : ∃ Wzz, (w.alloc (.cells #[.int .i64 p.bed.eye, .int .i64 p.bed.rings, .int .i64 p.bed.sectors, s, .int .i64 p.run.eye, .int .i64 p.run.rings, .int .i64 p.run.sectors, r, d] 27)) = Wzz := ⟨_, rfl⟩
  have B32 := Lib.hid (show Below w.heap.size w W30 by rw [← hW31]; exact ((Below.refl w.heap.size w).alloc (Nat.le_refl _) _))
  have X33 := Lib.hid (show Box W30 (w.heap.size) 27 #[.int .i64 p.bed.eye, .int .i64 p.bed.rings, .int .i64 p.bed.sectors, s, .int .i64 p.run.eye, .int .i64 p.run.rings, .int .i64 p.run.sectors, r, d] by rw [← hW31]; exact Box.made w 27 #[.int .i64 p.bed.eye, .int .i64 p.bed.rings, .int .i64 p.bed.sectors, s, .int .i64 p.run.eye, .int .i64 p.run.rings, .int .i64 p.run.sectors, r, d])
  have C34 := Lib.hid (HP0.out.later B32.out)
  have SZ35 := Lib.hid (show W30.heap.size = w.heap.size + 1 by rw [← hW31]; simp)
  rw [hW31]
  clear hW31
  have q36 : W30.cell? ⟨w.heap.size, 0, none⟩ = some (.int .i64 p.bed.eye) := X33.out.cell 0
  have q37 : W30.cell? ⟨w.heap.size, 1, none⟩ = some (.int .i64 p.bed.rings) := X33.out.cell 1
  have q38 : W30.cell? ⟨w.heap.size, 2, none⟩ = some (.int .i64 p.bed.sectors) := X33.out.cell 2
  have q39 : W30.cell? ⟨w.heap.size, 3, none⟩ = some (s) := X33.out.cell 3
  have q40 : W30.cell? ⟨w.heap.size, 4, none⟩ = some (.int .i64 p.run.eye) := X33.out.cell 4
  have q41 : W30.cell? ⟨w.heap.size, 5, none⟩ = some (.int .i64 p.run.rings) := X33.out.cell 5
  have q42 : W30.cell? ⟨w.heap.size, 6, none⟩ = some (.int .i64 p.run.sectors) := X33.out.cell 6
  have q43 : W30.cell? ⟨w.heap.size, 7, none⟩ = some (r) := X33.out.cell 7
  have q44 : W30.cell? ⟨w.heap.size, 8, none⟩ = some (d) := X33.out.cell 8
  go_wp2_with fail
  refine (chartOf_ok p _ _ C34.out HE.out).mono ?_; rintro e v45 ⟨⟨g, rfl, hg, hch⟩, hb46⟩
  have X47 := Lib.hid (X33.out.later hb46)
  have C48 := Lib.hid (C34.out.later hb46)
  have B49 := Lib.hid (B32.out.trans (hb46.mono B32.out.size))
  clear hb46
  have HCH := Lib.hid hch
  clear hch hg
  clear q36 q37 q38 q39 q40 q41 q42 q43 q44
  have q50 : v45.cell? ⟨w.heap.size, 0, none⟩ = some (.int .i64 p.bed.eye) := X47.out.cell 0
  have q51 : v45.cell? ⟨w.heap.size, 1, none⟩ = some (.int .i64 p.bed.rings) := X47.out.cell 1
  have q52 : v45.cell? ⟨w.heap.size, 2, none⟩ = some (.int .i64 p.bed.sectors) := X47.out.cell 2
  have q53 : v45.cell? ⟨w.heap.size, 3, none⟩ = some (s) := X47.out.cell 3
  have q54 : v45.cell? ⟨w.heap.size, 4, none⟩ = some (.int .i64 p.run.eye) := X47.out.cell 4
  have q55 : v45.cell? ⟨w.heap.size, 5, none⟩ = some (.int .i64 p.run.rings) := X47.out.cell 5
  have q56 : v45.cell? ⟨w.heap.size, 6, none⟩ = some (.int .i64 p.run.sectors) := X47.out.cell 6
  have q57 : v45.cell? ⟨w.heap.size, 7, none⟩ = some (r) := X47.out.cell 7
  have q58 : v45.cell? ⟨w.heap.size, 8, none⟩ = some (d) := X47.out.cell 8
  have HBW := Lib.hid B49.out.size
  go_wp2_with fail
  refine (entries_c p S g _ HCH.out HE.out HS.out).mono ?_; rintro e v59 ⟨⟨ve, rfl, hve⟩, hb60⟩
  have X61 := Lib.hid (X47.out.later hb60)
  have C62 := Lib.hid (C48.out.later hb60)
  have C63 := Lib.hid (HCH.out.later hb60)
  have B64 := Lib.hid (B49.out.trans (hb60.mono B49.out.size))
  clear hb60
  have hlI := entN_len p S (S * S)
  have HIN := Lib.hid (ints_own (by rw [hlI]; exact hve) (Nat.le_refl _) (by rw [hlI]; have := HS9.out; omega))
  obtain ⟨EA, ec, rfl⟩ := own_shape hve
  clear hve
  clear q50 q51 q52 q53 q54 q55 q56 q57 q58
  have q65 : v59.cell? ⟨w.heap.size, 0, none⟩ = some (.int .i64 p.bed.eye) := X61.out.cell 0
  have q66 : v59.cell? ⟨w.heap.size, 1, none⟩ = some (.int .i64 p.bed.rings) := X61.out.cell 1
  have q67 : v59.cell? ⟨w.heap.size, 2, none⟩ = some (.int .i64 p.bed.sectors) := X61.out.cell 2
  have q68 : v59.cell? ⟨w.heap.size, 3, none⟩ = some (s) := X61.out.cell 3
  have q69 : v59.cell? ⟨w.heap.size, 4, none⟩ = some (.int .i64 p.run.eye) := X61.out.cell 4
  have q70 : v59.cell? ⟨w.heap.size, 5, none⟩ = some (.int .i64 p.run.rings) := X61.out.cell 5
  have q71 : v59.cell? ⟨w.heap.size, 6, none⟩ = some (.int .i64 p.run.sectors) := X61.out.cell 6
  have q72 : v59.cell? ⟨w.heap.size, 7, none⟩ = some (r) := X61.out.cell 7
  have q73 : v59.cell? ⟨w.heap.size, 8, none⟩ = some (d) := X61.out.cell 8
  have HBT := Lib.hid B64.out.size
  obtain ⟨T, hT⟩ : ∃ T, S * S = T := ⟨_, rfl⟩
  have HT := Lib.hid hT
  rw [hT] at HIN HS9 ⊢
  have HT1 := Lib.hid (show T ≤ 9216 from HS9.out)
  clear hT hlI
  go_wp2_with fail
  go_loopw [6, 20] (fun lv kv wr => ∃ k : Nat, k ≤ T ∧ kv = .int .i64 (k : Int) ∧ wr.ownsRow v59.heap.size 29 3 lv k (srow (entS p S k)) ∧ Below v59.heap.size v59 wr) (fun _ kv _ => T - (intOf kv).toNat)
  case atStart => exact ⟨0, Nat.zero_le _, rfl, World.ownsRow_nil _ _ _ _, Below.refl _ _⟩
  case round =>
    obtain ⟨k, hk, rfl, ho, hb⟩ := hrel
    have HO := Lib.hid ho
    have HB := Lib.hid hb
    clear ho hb
    by_cases hlt : k < T
    · have HLT := Lib.hid hlt
      have d1 : decide ((k : Int) < (T : Int)) = true := by simpa using hlt
      have d2 : decide (k < T) = true := by simpa using hlt
      have k9 : k ≤ 9216 := by have := HT1.out; omega
      have i0' : (0 : Int) ≤ (k : Int) := Int.natCast_nonneg _
      have i1' : (k : Int) < (T : Int) := by omega
      have HSN := Lib.hid (entS_snoc p S k)
      have HKS := Lib.hid (show k < S * S by rw [HT.out]; exact hlt)
      have HJB := Lib.hid k9
      obtain ⟨L, hL⟩ : ∃ L, entS p S k = L := ⟨_, rfl⟩
      rw [hL] at HO HSN
      obtain ⟨-, A', c', he', -, hcell⟩ := HIN.out
      rw [entN_len] at hcell he'
      cases he'
      obtain ⟨eb, eo, rfl, heb, hcc⟩ := hcell (by omega)
      have y1 := keepd (hcc k hlt) HB.out heb
      rw [entN_nth HLT.out] at y1
      have HHAS := Lib.hid (entI_has HP9.out HS.out HKS.out)
      have HSI := Lib.hid (stateI_numI HE.out HHAS.out)
      obtain ⟨x, hx⟩ : ∃ x, numI p (entI p S k) = x := ⟨_, rfl⟩
      rw [hx] at y1 HSI
      have HCW := Lib.hid (C63.out.later HB.out)
      clear hL hk hlt hcc hcell hx heb
      go_wp2_with fail
      refine (stateOf_c p x g wr HCW.out HE.out HSI.out.2).mono ?_; rintro e v1 ⟨rfl, hb1⟩
      obtain ⟨⟨sx, sy, sz⟩, hs⟩ : ∃ s, entI p S k = s := ⟨_, rfl⟩
      have HR := Lib.hid (show entS p S (k + 1) = L ++ [⟨sx, sy, sz⟩] by rw [HSN.out, hs])
      rw [HSI.out.1, hs]
      unfold stV
      dsimp only
      have HO1 := Lib.hid (own_below HO.out hb1)
      have HB1 := Lib.hid (HB.out.trans (hb1.mono HB.out.size))
      clear hb1 hs y1
      have HO2 := Lib.hid (HO1.out.alloc (.cells #[.int .i64 sx, .int .i64 sy, .int .i64 sz] 29))
      have HN1 := Lib.hid (news_box (W := v1.alloc (.cells #[.int .i64 sx, .int .i64 sy, .int .i64 sz] 29)) (cs := [.int .i64 sx, .int .i64 sy, .int .i64 sz]) (Box.made v1 29 #[.int .i64 sx, .int .i64 sy, .int .i64 sz]))
      have HL1 := Lib.hid (show k + 1 ≤ maxLen ∧ (k + 1) * 24 ≤ 140737488355328 by have := HJB.out; unfold maxLen; omega)
      have HB2 := Lib.hid (HB1.out.alloc HB1.out.size (.cells #[.int .i64 sx, .int .i64 sy, .int .i64 sz] 29))
      go_wp2_with (first
            | (at_builtin; refine wpList_append_own_at _ rfl _ _ 49 rfl v59.heap.size 29 i0 (.agg #[.int .i64 0, .int .i64 0, .int .i64 0]) 3 24 Try.underlying49 hi hz0 hz1 hz2 rfl (by decide) _ _ _ rfl HO2.out ⟨v1.heap.size, 0, none⟩ 1 1 [.int .i64 sx, .int .i64 sy, .int .i64 sz] rfl rfl HN1.out (scs_one ⟨sx, sy, sz⟩) HL1.out.1 HL1.out.2 HB2.out.size ?_; intro v7 w7 hown7 hgrow7 _ _; have HO7 := Lib.hid hown7; have HB7 := Lib.hid (HB2.out.grown hgrow7 HB2.out.size (fun q e => (HO2.out.lt q e).1)); clear hown7 hgrow7)
            | fail)
      go_roundw
      case rel => exact ⟨k + 1, HLT.out, by go_num, by rw [HR.out, srow_snoc]; exact HO7.out, HB7.out⟩
      case measure => have := HLT.out; simp [intOf]; omega
    · obtain rfl : k = T := by omega
      have d1 : decide ((k : Int) < (k : Int)) = false := by simp
      have d2 : decide (k < k) = false := by simp
      go_wp2_with fail
      go_ret2
      have hSO := states_own (l := entS p S k) (by rw [entS_len]; exact HO.out)
      exact ⟨⟨u6, rfl, by rw [HT.out]; exact hSO⟩, B64.out.trans (HB.out.mono B64.out.size)⟩

set_option maxRecDepth 100000 in
set_option maxHeartbeats 8000000 in
theorem kentries_c (p : Pr) (S : Nat) (v : Value) (w : World) (h : IsPair w w.heap.size v p) (h0 : ckE p = 0) (hS : p.bed.sectors = (S : Int)) : Calls Try.prog 56 #[v] w fun e w' => (∃ v', e = .returned v' ∧ States w' w'.heap.size v' (entS p S (S * S))) ∧ Below w.heap.size w w' := by
  obtain ⟨s, r, d, hpv, i1, i2, i3⟩ := id h
  subst hpv
  obtain ⟨⟨e1, R1, S1, k1⟩, ⟨e2, R2, S2, k2⟩, dr⟩ := p
  obtain ⟨SA, sn, sc, rfl⟩ : ∃ A n c, s = .slice A n c := by obtain ⟨-, A, c, rfl, -⟩ := i1; exact ⟨_, _, _, rfl⟩
  obtain ⟨RA, rn, rc, rfl⟩ : ∃ A n c, r = .slice A n c := by obtain ⟨-, A, c, rfl, -⟩ := i2; exact ⟨_, _, _, rfl⟩
  unfold pairV at *
  dsimp only at *
  subst hS
  obtain ⟨-, hS2, -⟩ := ckE_bd h0
  dsimp only at hS2
  have HSS := Lib.hid (show 2 ≤ S ∧ S ≤ 96 by omega)
  clear h h0 hS2 i1 i2 i3
  obtain ⟨i0, hi, hz0, hz1, hz2⟩ : ∃ i, Try.prog.info? 29 = some i ∧ i.zero = some (.agg #[.int .i64 0, .int .i64 0, .int .i64 0]) ∧ i.size = 3 ∧ i.bytes = 24 := ⟨_, rfl, rfl, rfl, rfl⟩
  obtain ⟨pq, hpq⟩ : ∃ x : Pr, (⟨⟨e1, R1, (S : Int), k1⟩, ⟨e2, R2, S2, k2⟩, dr⟩ : Pr) = x := ⟨_, rfl⟩
  have HNM := Lib.hid hpq
  clear hpq
  go_enter Try.func56, Try.ntmps56
  go_wp2_with fail
  obtain ⟨W74, hW75⟩ : ∃ Wzz, (w.alloc (.cells #[.int .i64 e1, .int .i64 R1, .int .i64 (S : Int), .slice SA sn sc, .int .i64 e2, .int .i64 R2, .int .i64 S2, .slice RA rn rc, d] 27)) = Wzz := ⟨_, rfl⟩
  have B76 := Lib.hid (show Below w.heap.size w W74 by rw [← hW75]; exact ((Below.refl w.heap.size w).alloc (Nat.le_refl _) _))
  have X77 := Lib.hid (show Box W74 (w.heap.size) 27 #[.int .i64 e1, .int .i64 R1, .int .i64 (S : Int), .slice SA sn sc, .int .i64 e2, .int .i64 R2, .int .i64 S2, .slice RA rn rc, d] by rw [← hW75]; exact Box.made w 27 #[.int .i64 e1, .int .i64 R1, .int .i64 (S : Int), .slice SA sn sc, .int .i64 e2, .int .i64 R2, .int .i64 S2, .slice RA rn rc, d])
  have SZ78 := Lib.hid (show W74.heap.size = w.heap.size + 1 by rw [← hW75]; simp)
  rw [hW75]
  clear hW75
  have q79 : W74.cell? ⟨w.heap.size, 0, none⟩ = some (.int .i64 e1) := X77.out.cell 0
  have q80 : W74.cell? ⟨w.heap.size, 1, none⟩ = some (.int .i64 R1) := X77.out.cell 1
  have q81 : W74.cell? ⟨w.heap.size, 2, none⟩ = some (.int .i64 (S : Int)) := X77.out.cell 2
  have q82 : W74.cell? ⟨w.heap.size, 3, none⟩ = some (.slice SA sn sc) := X77.out.cell 3
  have q83 : W74.cell? ⟨w.heap.size, 4, none⟩ = some (.int .i64 e2) := X77.out.cell 4
  have q84 : W74.cell? ⟨w.heap.size, 5, none⟩ = some (.int .i64 R2) := X77.out.cell 5
  have q85 : W74.cell? ⟨w.heap.size, 6, none⟩ = some (.int .i64 S2) := X77.out.cell 6
  have q86 : W74.cell? ⟨w.heap.size, 7, none⟩ = some (.slice RA rn rc) := X77.out.cell 7
  have q87 : W74.cell? ⟨w.heap.size, 8, none⟩ = some (d) := X77.out.cell 8
  go_loopw [3, 4] (fun lv kv wr => ∃ k : Nat, k ≤ S ∧ kv = .int .i64 (k : Int) ∧ wr.ownsRow W74.heap.size 29 3 lv (k * S) (srow (entS pq S (k * S))) ∧ Below W74.heap.size W74 wr) (fun _ kv _ => S - (intOf kv).toNat)
  case atStart => exact ⟨0, Nat.zero_le _, rfl, by rw [Nat.zero_mul]; exact World.ownsRow_nil _ _ _ _, Below.refl _ _⟩
  case round =>
    obtain ⟨k, hk, rfl, ho, hb⟩ := hrel
    have HO := Lib.hid ho
    have HB := Lib.hid hb
    have HBX := Lib.hid (X77.out.below hb (by have := SZ78.out; omega))
    clear ho hb
    have g0 : wr.cell? ⟨w.heap.size, 0, none⟩ = some (.int .i64 e1) := HBX.out.cell 0
    have g1 : wr.cell? ⟨w.heap.size, 1, none⟩ = some (.int .i64 R1) := HBX.out.cell 1
    have g2 : wr.cell? ⟨w.heap.size, 2, none⟩ = some (.int .i64 (S : Int)) := HBX.out.cell 2
    have g3 : wr.cell? ⟨w.heap.size, 3, none⟩ = some (.slice SA sn sc) := HBX.out.cell 3
    have g4 : wr.cell? ⟨w.heap.size, 4, none⟩ = some (.int .i64 e2) := HBX.out.cell 4
    have g5 : wr.cell? ⟨w.heap.size, 5, none⟩ = some (.int .i64 R2) := HBX.out.cell 5
    have g6 : wr.cell? ⟨w.heap.size, 6, none⟩ = some (.int .i64 S2) := HBX.out.cell 6
    have g7 : wr.cell? ⟨w.heap.size, 7, none⟩ = some (.slice RA rn rc) := HBX.out.cell 7
    have g8 : wr.cell? ⟨w.heap.size, 8, none⟩ = some (d) := HBX.out.cell 8
    by_cases hlt : k < S
    · have HLT := Lib.hid hlt
      have d1 : decide ((k : Int) < (S : Int)) = true := by simpa using hlt
      have d2 : decide (k < S) = true := by simpa using hlt
      have k96 : k ≤ 96 := by have := HSS.out; omega
      clear hk hlt
      go_wp2_with fail
      clear g0 g1 g2 g3 g4 g5 g6 g7 g8 d1 d2
      go_loopw [3, 5] (fun lv kv wr => ∃ k2 : Nat, k2 ≤ S ∧ kv = .int .i64 (k2 : Int) ∧ wr.ownsRow W74.heap.size 29 3 lv (k * S + k2) (srow (entS pq S (k * S + k2))) ∧ Below W74.heap.size W74 wr) (fun _ kv _ => S - (intOf kv).toNat)
      case atStart => exact ⟨0, Nat.zero_le _, rfl, HO.out, HB.out⟩
      case round =>
        obtain ⟨k2, hk2, rfl, ho, hb⟩ := hrel
        have HO := Lib.hid ho
        have HB := Lib.hid hb
        have HBX := Lib.hid (X77.out.below hb (by have := SZ78.out; omega))
        clear ho hb
        have g0 : wr.cell? ⟨w.heap.size, 0, none⟩ = some (.int .i64 e1) := HBX.out.cell 0
        have g1 : wr.cell? ⟨w.heap.size, 1, none⟩ = some (.int .i64 R1) := HBX.out.cell 1
        have g2 : wr.cell? ⟨w.heap.size, 2, none⟩ = some (.int .i64 (S : Int)) := HBX.out.cell 2
        have g3 : wr.cell? ⟨w.heap.size, 3, none⟩ = some (.slice SA sn sc) := HBX.out.cell 3
        have g4 : wr.cell? ⟨w.heap.size, 4, none⟩ = some (.int .i64 e2) := HBX.out.cell 4
        have g5 : wr.cell? ⟨w.heap.size, 5, none⟩ = some (.int .i64 R2) := HBX.out.cell 5
        have g6 : wr.cell? ⟨w.heap.size, 6, none⟩ = some (.int .i64 S2) := HBX.out.cell 6
        have g7 : wr.cell? ⟨w.heap.size, 7, none⟩ = some (.slice RA rn rc) := HBX.out.cell 7
        have g8 : wr.cell? ⟨w.heap.size, 8, none⟩ = some (d) := HBX.out.cell 8
        by_cases hlt2 : k2 < S
        · have HLT2 := Lib.hid hlt2
          have d3 : decide ((k2 : Int) < (S : Int)) = true := by simpa using hlt2
          have d4 : decide (k2 < S) = true := by simpa using hlt2
          have k296 : k2 ≤ 96 := by have := HSS.out; omega
          have HSN := Lib.hid (entS_snoc pq S (k * S + k2))
          obtain ⟨L, hL⟩ : ∃ L, entS pq S (k * S + k2) = L := ⟨_, rfl⟩
          obtain ⟨j, hj⟩ : ∃ j, k * S + k2 = j := ⟨_, rfl⟩
          have HIJ := Lib.hid (show entI pq S j = ⟨0, (k2 : Int), (k : Int)⟩ by rw [← hj]; exact entI_at _ hlt2)
          have HJB := Lib.hid (show j ≤ 9216 by rw [← hj]; have := sq_bd HLT.out hlt2 HSS.out.2; omega)
          have HJ := Lib.hid hj
          rw [hL] at HO HSN
          rw [hj] at HO HSN
          have HR := Lib.hid (show entS pq S (j + 1) = L ++ [⟨0, (k2 : Int), (k : Int)⟩] by rw [HSN.out, HIJ.out])
          clear hL hj hk2 hlt2
          have HO1 := Lib.hid HO.out
          obtain ⟨v1, hv1⟩ : ∃ v1, wr = v1 := ⟨_, rfl⟩
          subst hv1
          have HB1 := Lib.hid HB.out
          have HO2 := Lib.hid (HO1.out.alloc (.cells #[.int .i64 0, .int .i64 (k2 : Int), .int .i64 (k : Int)] 29))
          have HN1 := Lib.hid (news_box (W := wr.alloc (.cells #[.int .i64 0, .int .i64 (k2 : Int), .int .i64 (k : Int)] 29)) (cs := [.int .i64 0, .int .i64 (k2 : Int), .int .i64 (k : Int)]) (Box.made wr 29 #[.int .i64 0, .int .i64 (k2 : Int), .int .i64 (k : Int)]))
          have HL1 := Lib.hid (show j + 1 ≤ maxLen ∧ (j + 1) * 24 ≤ 140737488355328 by have := HJB.out; unfold maxLen; omega)
          have HB2 := Lib.hid (HB1.out.alloc HB1.out.size (.cells #[.int .i64 0, .int .i64 (k2 : Int), .int .i64 (k : Int)] 29))
          go_wp2_with (first
            | (at_builtin; refine wpList_append_own_at _ rfl _ _ 49 rfl W74.heap.size 29 i0 (.agg #[.int .i64 0, .int .i64 0, .int .i64 0]) 3 24 Try.underlying49 hi hz0 hz1 hz2 rfl (by decide) _ _ _ rfl HO2.out ⟨wr.heap.size, 0, none⟩ 1 1 [.int .i64 0, .int .i64 (k2 : Int), .int .i64 (k : Int)] rfl rfl HN1.out (scs_one ⟨0, (k2 : Int), (k : Int)⟩) HL1.out.1 HL1.out.2 HB2.out.size ?_; intro v7 w7 hown7 hgrow7 _ _; have HO7 := Lib.hid hown7; have HB7 := Lib.hid (HB2.out.grown hgrow7 HB2.out.size (fun q e => (HO2.out.lt q e).1)); clear hown7 hgrow7)
            | fail)
          go_roundw
          case rel => exact ⟨k2 + 1, HLT2.out, by go_num, by rw [show k * S + (k2 + 1) = j + 1 by rw [← Nat.add_assoc, HJ.out], HR.out, srow_snoc]; exact HO7.out, HB7.out⟩
          case measure => have := HLT2.out; simp [intOf]; omega
        · obtain rfl : k2 = S := by omega
          have d3 : decide ((k2 : Int) < (k2 : Int)) = false := by simp
          have d4 : decide (k2 < k2) = false := by simp
          go_wp2_with fail
          go_roundw
          case rel => exact ⟨k + 1, HLT.out, by go_num, by rw [Nat.add_mul, Nat.one_mul]; exact HO.out, HB.out⟩
          case measure => have := HLT.out; simp [intOf]; omega
    · obtain rfl : k = S := by omega
      have d1 : decide ((k : Int) < (k : Int)) = false := by simp
      have d2 : decide (k < k) = false := by simp
      go_wp2_with fail
      go_ret
      have hSO := states_own (l := entS pq k (k * k)) (by rw [entS_len]; exact HO.out)
      exact ⟨⟨u3, rfl, by rw [HNM.out]; exact hSO⟩, B76.out.trans (HB.out.mono B76.out.size)⟩

set_option maxRecDepth 100000 in
set_option maxHeartbeats 8000000 in
theorem kEntries_bad (p : Pr)  (v : Value) (w : World) (h : IsPair w w.heap.size v p) (h0 : ckE p ≠ 0) : Calls Try.prog 23 #[v] w fun e w' => e = .returned (.tuple #[.slice none 0 0, .int .i64 (ckE p)]) ∧ Below w.heap.size w w' := by
  obtain ⟨s, r, d, hpv, -, -, -⟩ := id h
  subst hpv
  have HP0 := Lib.hid h
  have HE := Lib.hid h0
  clear h h0
  unfold pairV at *
  have hne : (ckE p != 0) = true := by simpa using HE.out
  have hne2 : decide (ckE p = 0) = false := by simpa using HE.out
  go_enter Try.func23, Try.ntmps23
  go_wp2_with fail
  obtain ⟨W88, hW89⟩ : ∃ Wzz, (w.alloc (.cells #[.int .i64 p.bed.eye, .int .i64 p.bed.rings, .int .i64 p.bed.sectors, s, .int .i64 p.run.eye, .int .i64 p.run.rings, .int .i64 p.run.sectors, r, d] 27)) = Wzz := ⟨_, rfl⟩
  have B90 := Lib.hid (show Below w.heap.size w W88 by rw [← hW89]; exact ((Below.refl w.heap.size w).alloc (Nat.le_refl _) _))
  have X91 := Lib.hid (show Box W88 (w.heap.size) 27 #[.int .i64 p.bed.eye, .int .i64 p.bed.rings, .int .i64 p.bed.sectors, s, .int .i64 p.run.eye, .int .i64 p.run.rings, .int .i64 p.run.sectors, r, d] by rw [← hW89]; exact Box.made w 27 #[.int .i64 p.bed.eye, .int .i64 p.bed.rings, .int .i64 p.bed.sectors, s, .int .i64 p.run.eye, .int .i64 p.run.rings, .int .i64 p.run.sectors, r, d])
  have C92 := Lib.hid (HP0.out.later B90.out)
  have SZ93 := Lib.hid (show W88.heap.size = w.heap.size + 1 by rw [← hW89]; simp)
  rw [hW89]
  clear hW89
  have q94 : W88.cell? ⟨w.heap.size, 0, none⟩ = some (.int .i64 p.bed.eye) := X91.out.cell 0
  have q95 : W88.cell? ⟨w.heap.size, 1, none⟩ = some (.int .i64 p.bed.rings) := X91.out.cell 1
  have q96 : W88.cell? ⟨w.heap.size, 2, none⟩ = some (.int .i64 p.bed.sectors) := X91.out.cell 2
  have q97 : W88.cell? ⟨w.heap.size, 3, none⟩ = some (s) := X91.out.cell 3
  have q98 : W88.cell? ⟨w.heap.size, 4, none⟩ = some (.int .i64 p.run.eye) := X91.out.cell 4
  have q99 : W88.cell? ⟨w.heap.size, 5, none⟩ = some (.int .i64 p.run.rings) := X91.out.cell 5
  have q100 : W88.cell? ⟨w.heap.size, 6, none⟩ = some (.int .i64 p.run.sectors) := X91.out.cell 6
  have q101 : W88.cell? ⟨w.heap.size, 7, none⟩ = some (r) := X91.out.cell 7
  have q102 : W88.cell? ⟨w.heap.size, 8, none⟩ = some (d) := X91.out.cell 8
  go_wp2_with fail
  refine (kCheck_c p _ _ C92.out).mono ?_; rintro e v103 ⟨rfl, hb104⟩
  have X105 := Lib.hid (X91.out.later hb104)
  have C106 := Lib.hid (C92.out.later hb104)
  have B107 := Lib.hid (B90.out.trans (hb104.mono B90.out.size))
  clear hb104
  clear q94 q95 q96 q97 q98 q99 q100 q101 q102
  have q108 : v103.cell? ⟨w.heap.size, 0, none⟩ = some (.int .i64 p.bed.eye) := X105.out.cell 0
  have q109 : v103.cell? ⟨w.heap.size, 1, none⟩ = some (.int .i64 p.bed.rings) := X105.out.cell 1
  have q110 : v103.cell? ⟨w.heap.size, 2, none⟩ = some (.int .i64 p.bed.sectors) := X105.out.cell 2
  have q111 : v103.cell? ⟨w.heap.size, 3, none⟩ = some (s) := X105.out.cell 3
  have q112 : v103.cell? ⟨w.heap.size, 4, none⟩ = some (.int .i64 p.run.eye) := X105.out.cell 4
  have q113 : v103.cell? ⟨w.heap.size, 5, none⟩ = some (.int .i64 p.run.rings) := X105.out.cell 5
  have q114 : v103.cell? ⟨w.heap.size, 6, none⟩ = some (.int .i64 p.run.sectors) := X105.out.cell 6
  have q115 : v103.cell? ⟨w.heap.size, 7, none⟩ = some (r) := X105.out.cell 7
  have q116 : v103.cell? ⟨w.heap.size, 8, none⟩ = some (d) := X105.out.cell 8
  go_wp2_with fail
  go_ret2
  exact ⟨rfl, B107.out⟩

set_option maxRecDepth 100000 in
set_option maxHeartbeats 8000000 in
theorem kEntries_ok (p : Pr) (S : Nat) (v : Value) (w : World) (h : IsPair w w.heap.size v p) (h0 : ckE p = 0) (hS : p.bed.sectors = (S : Int)) : Calls Try.prog 23 #[v] w fun e w' => (∃ v', e = .returned (.tuple #[v', .int .i64 0]) ∧ States w' w'.heap.size v' (entS p S (S * S))) ∧ Below w.heap.size w w' := by
  obtain ⟨s, r, d, hpv, -, -, -⟩ := id h
  subst hpv
  have HP0 := Lib.hid h
  have HE := Lib.hid h0
  clear h h0
  unfold pairV at *
  have HS := Lib.hid hS
  clear hS
  go_enter Try.func23, Try.ntmps23
  go_wp2_with fail
  obtain ⟨W117, hW118⟩ : ∃ Wzz, (w.alloc (.cells #[.int .i64 p.bed.eye, .int .i64 p.bed.rings, .int .i64 p.bed.sectors, s, .int .i64 p.run.eye, .int .i64 p.run.rings, .int .i64 p.run.sectors, r, d] 27)) = Wzz := ⟨_, rfl⟩
  have B119 := Lib.hid (show Below w.heap.size w W117 by rw [← hW118]; exact ((Below.refl w.heap.size w).alloc (Nat.le_refl _) _))
  have X120 := Lib.hid (show Box W117 (w.heap.size) 27 #[.int .i64 p.bed.eye, .int .i64 p.bed.rings, .int .i64 p.bed.sectors, s, .int .i64 p.run.eye, .int .i64 p.run.rings, .int .i64 p.run.sectors, r, d] by rw [← hW118]; exact Box.made w 27 #[.int .i64 p.bed.eye, .int .i64 p.bed.rings, .int .i64 p.bed.sectors, s, .int .i64 p.run.eye, .int .i64 p.run.rings, .int .i64 p.run.sectors, r, d])
  have C121 := Lib.hid (HP0.out.later B119.out)
  have SZ122 := Lib.hid (show W117.heap.size = w.heap.size + 1 by rw [← hW118]; simp)
  rw [hW118]
  clear hW118
  have q123 : W117.cell? ⟨w.heap.size, 0, none⟩ = some (.int .i64 p.bed.eye) := X120.out.cell 0
  have q124 : W117.cell? ⟨w.heap.size, 1, none⟩ = some (.int .i64 p.bed.rings) := X120.out.cell 1
  have q125 : W117.cell? ⟨w.heap.size, 2, none⟩ = some (.int .i64 p.bed.sectors) := X120.out.cell 2
  have q126 : W117.cell? ⟨w.heap.size, 3, none⟩ = some (s) := X120.out.cell 3
  have q127 : W117.cell? ⟨w.heap.size, 4, none⟩ = some (.int .i64 p.run.eye) := X120.out.cell 4
  have q128 : W117.cell? ⟨w.heap.size, 5, none⟩ = some (.int .i64 p.run.rings) := X120.out.cell 5
  have q129 : W117.cell? ⟨w.heap.size, 6, none⟩ = some (.int .i64 p.run.sectors) := X120.out.cell 6
  have q130 : W117.cell? ⟨w.heap.size, 7, none⟩ = some (r) := X120.out.cell 7
  have q131 : W117.cell? ⟨w.heap.size, 8, none⟩ = some (d) := X120.out.cell 8
  go_wp2_with fail
  refine (kCheck_c p _ _ C121.out).mono ?_; rintro e v132 ⟨rfl, hb133⟩
  have X134 := Lib.hid (X120.out.later hb133)
  have C135 := Lib.hid (C121.out.later hb133)
  have B136 := Lib.hid (B119.out.trans (hb133.mono B119.out.size))
  clear hb133
  rw [HE.out]
  clear q123 q124 q125 q126 q127 q128 q129 q130 q131
  have q137 : v132.cell? ⟨w.heap.size, 0, none⟩ = some (.int .i64 p.bed.eye) := X134.out.cell 0
  have q138 : v132.cell? ⟨w.heap.size, 1, none⟩ = some (.int .i64 p.bed.rings) := X134.out.cell 1
  have q139 : v132.cell? ⟨w.heap.size, 2, none⟩ = some (.int .i64 p.bed.sectors) := X134.out.cell 2
  have q140 : v132.cell? ⟨w.heap.size, 3, none⟩ = some (s) := X134.out.cell 3
  have q141 : v132.cell? ⟨w.heap.size, 4, none⟩ = some (.int .i64 p.run.eye) := X134.out.cell 4
  have q142 : v132.cell? ⟨w.heap.size, 5, none⟩ = some (.int .i64 p.run.rings) := X134.out.cell 5
  have q143 : v132.cell? ⟨w.heap.size, 6, none⟩ = some (.int .i64 p.run.sectors) := X134.out.cell 6
  have q144 : v132.cell? ⟨w.heap.size, 7, none⟩ = some (r) := X134.out.cell 7
  have q145 : v132.cell? ⟨w.heap.size, 8, none⟩ = some (d) := X134.out.cell 8
  go_wp2_with fail
  refine (kentries_c p S _ _ C135.out HE.out HS.out).mono ?_; rintro e v146 ⟨⟨u, rfl, hu⟩, hb147⟩
  have X148 := Lib.hid (X134.out.later hb147)
  have C149 := Lib.hid (C135.out.later hb147)
  have B150 := Lib.hid (B136.out.trans (hb147.mono B136.out.size))
  clear hb147
  have HU := Lib.hid hu
  clear hu
  clear q137 q138 q139 q140 q141 q142 q143 q144 q145
  have q151 : v146.cell? ⟨w.heap.size, 0, none⟩ = some (.int .i64 p.bed.eye) := X148.out.cell 0
  have q152 : v146.cell? ⟨w.heap.size, 1, none⟩ = some (.int .i64 p.bed.rings) := X148.out.cell 1
  have q153 : v146.cell? ⟨w.heap.size, 2, none⟩ = some (.int .i64 p.bed.sectors) := X148.out.cell 2
  have q154 : v146.cell? ⟨w.heap.size, 3, none⟩ = some (s) := X148.out.cell 3
  have q155 : v146.cell? ⟨w.heap.size, 4, none⟩ = some (.int .i64 p.run.eye) := X148.out.cell 4
  have q156 : v146.cell? ⟨w.heap.size, 5, none⟩ = some (.int .i64 p.run.rings) := X148.out.cell 5
  have q157 : v146.cell? ⟨w.heap.size, 6, none⟩ = some (.int .i64 p.run.sectors) := X148.out.cell 6
  have q158 : v146.cell? ⟨w.heap.size, 7, none⟩ = some (r) := X148.out.cell 7
  have q159 : v146.cell? ⟨w.heap.size, 8, none⟩ = some (d) := X148.out.cell 8
  go_wp2_with fail
  go_ret2
  exact ⟨⟨_, rfl, HU.out⟩, B150.out⟩

end Go.Proofs.Ytikfiallhmhicaa

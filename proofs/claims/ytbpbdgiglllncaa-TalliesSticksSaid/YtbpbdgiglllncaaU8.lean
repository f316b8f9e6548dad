/- Layer 9: lists of bytes compared, and the law on tallies and journals. -/
import Derived.Test.YtbpbdgiglllncaaU7
import Derived.Test.YtbpbdgiglllncaaT90
set_option linter.all false
namespace Go.Proofs.Ytbpbdgiglllncaa
open Go.RowKit

theorem nthB_of {l : List (List Int)} {k : Nat} (h : k < l.length) : nthB l k = l[k] := by simp [nthB, h]
set_option maxRecDepth 100000 in
set_option maxHeartbeats 4000000 in
theorem SameBytes_c (l r : List (List Int)) (v u : Value) (w : World) (hl : ByL w w.heap.size v l) (hr : ByL w w.heap.size u r) :
    Calls Try.prog 18 #[v, u] w fun e w' => e = .returned (.bool (decide (l = r))) ∧ Below w.heap.size w w' := by
  obtain ⟨l1, A, c, rfl, l2, l3⟩ := hl
  obtain ⟨r1, A', c', rfl, r2, r3⟩ := hr
  by_cases hn : l.length = r.length
  case neg =>
    have hne : ((l.length : Int) != (r.length : Int)) = true := by simp; omega
    have Hs := Lib.hid (show decide (l = r) = false by rw [decide_eq_false_iff_not]; intro h; exact hn (by rw [h]))
    clear hn l3 r3
    go_enter Try.func18, Try.ntmps18
    go_wp2_with fail
    go_ret
    exact ⟨ret_bool Hs.out.symm, Below.refl _ _⟩
  have hne : ((l.length : Int) != (r.length : Int)) = false := by simp [hn]
  have Hn := Lib.hid hn
  have L3 := Lib.hid l3
  have R3 := Lib.hid r3
  obtain ⟨n, hln⟩ : ∃ z, l.length = z := ⟨_, rfl⟩
  have HLN := Lib.hid hln
  have HRN := Lib.hid (show r.length = n by omega)
  have n9 : n ≤ 17592186044416 := by omega
  rw [hln] at L3 hne ⊢
  rw [HRN.out] at R3 hne ⊢
  clear hn hln l1 l2 r1 r2 l3 r3
  go_enter Try.func18, Try.ntmps18
  go_wp2_with fail
  go_loopw [5] (fun i wr => ∃ k : Nat, k ≤ n ∧ i = .int .i64 (k : Int) ∧ l.take k = r.take k ∧ Below w.heap.size w wr) (fun i _ => n - (intOf i).toNat)
  case atStart => exact ⟨0, Nat.zero_le _, rfl, rfl, Below.refl _ _⟩
  case round =>
    obtain ⟨k, hk, rfl, htk, hbr⟩ := hrel
    have Htk := Lib.hid htk
    have HB := Lib.hid hbr
    clear htk
    by_cases hlt : k < n
    · obtain ⟨b, off, rfl, hbB, hcc⟩ := L3.out (by omega)
      obtain ⟨b', off', rfl, hbB', hcc'⟩ := R3.out (by omega)
      obtain ⟨s1, hx, hs1⟩ := hcc k hlt
      obtain ⟨s2, hy, hs2⟩ := hcc' k hlt
      have hx := keepd hx hbr hbB
      have hy := keepd hy hbr hbB'
      have cv1 := fun nq : Nat => ((hs1.mono hbr hbr.size).mono (B' := wr.heap.size) (below_drewN wr nq) (Nat.le_refl _)).str
      have cv2 := fun nq : Nat => ((hs2.mono hbr hbr.size).mono (B' := wr.heap.size) (below_drewN wr nq) (Nat.le_refl _)).str
      have HBD := Lib.hid (fun nq : Nat => hbr.trans (below_drewN (B := w.heap.size) wr nq))
      have hse := str_eq hs1.by hs2.by
      have hi1 : (0 : Int) ≤ (k : Int) := by omega
      have hi2 : (k : Int) < (n : Int) := by omega
      have hdl : decide ((k : Int) < (n : Int)) = true := by simpa using hlt
      have HE := Lib.hid (show nthB l k = nthB r k → l.take (k + 1) = r.take (k + 1) from fun hz => by
        have hlt1 : k < l.length := by have := HLN.out; omega
        have hlt2 : k < r.length := by have := HRN.out; omega
        rw [List.take_succ_eq_append_getElem hlt1, List.take_succ_eq_append_getElem hlt2, Htk.out]
        rw [nthB_of hlt1, nthB_of hlt2] at hz
        rw [hz])
      have HN := Lib.hid (show nthB l k ≠ nthB r k → decide (l = r) = false from fun hz => by rw [decide_eq_false_iff_not]; intro h; exact hz (by rw [h]))
      have HL := Lib.hid hlt
      obtain ⟨A1, c1, rfl, -⟩ := hs1.shape
      obtain ⟨A2, c2, rfl, -⟩ := hs2.shape
      generalize (nthB l k).length = n1 at *
      generalize (nthB r k).length = n2 at *
      generalize strOfNums (nthB l k) = S1 at *
      generalize strOfNums (nthB r k) = S2 at *
      clear hcc hcc' hs1 hs2 hbr hlt
      by_cases hz : nthB l k = nthB r k
      · rw [decide_eq_true hz] at hse
        have Hs := Lib.hid (HE.out hz)
        clear hz
        go_wp2_with fail
        go_quiet (fail)
        go_wp2_with fail
        go_roundw
        case rel => exact ⟨k + 1, by have := HL.out; omega, by go_num, Hs.out, HBD.out _⟩
        case measure => have := HL.out; simp [intOf]; omega
      · rw [decide_eq_false hz] at hse
        have Hs := Lib.hid (HN.out hz)
        clear hz
        go_wp2_with fail
        go_quiet (fail)
        go_wp2_with fail
        go_ret
        exact ⟨ret_bool Hs.out.symm, HBD.out _⟩
    · obtain rfl : k = n := by omega
      have Hs := Lib.hid (show decide (l = r) = true by
        rw [decide_eq_true_iff]
        have := Htk.out
        rwa [← HLN.out, List.take_length, HLN.out, ← HRN.out, List.take_length] at this)
      have hdl : decide ((k : Int) < (k : Int)) = false := by simp
      clear hlt hbr
      go_wp2_with fail
      go_ret
      exact ⟨ret_bool Hs.out.symm, HB.out⟩
theorem SameBytes_r (l : List (List Int)) (v u : Value) (w : World) (hl : ByL w w.heap.size v l) (hr : ByL w w.heap.size u l) :
    Calls Try.prog 18 #[v, u] w fun e w' => e = .returned (.bool true) ∧ Below w.heap.size w w' :=
  (SameBytes_c l l v u w hl hr).mono fun _ _ ⟨h1, h2⟩ => ⟨h1.trans (ret_bool (by simp)), h2⟩

/-- what Notch answers, whatever bytes came -/
theorem NotchAny_c (xs : List Int) (v : Value) (w : World) (h : Bys w w.heap.size v xs) :
    Calls Try.prog 14 #[v] w fun e w' => ∃ s f k, e = .returned (.tuple #[s, f, .int .i64 k]) ∧ (∃ ls lf, Bys w' w'.heap.size s ls ∧ Bys w' w'.heap.size f lf ∧ ls = (if xs.length ≤ 8192 then stockL xs else []) ∧ lf = (if xs.length ≤ 8192 then foilL xs else [])) ∧ k = (if xs.length ≤ 8192 then 0 else 2) ∧ Below w.heap.size w w' := by
  by_cases hL : xs.length ≤ 8192
  · refine (Notch_c xs v w h hL).mono ?_
    rintro e w' ⟨s, f, rfl, h1, h2, -, -, h3⟩
    exact ⟨s, f, 0, rfl, ⟨_, _, h1, h2, by rw [if_pos hL], by rw [if_pos hL]⟩, by rw [if_pos hL], h3⟩
  · refine (NotchBig_c xs v w h (by omega)).mono ?_
    rintro e w' ⟨rfl, rfl⟩
    exact ⟨_, _, 2, rfl, ⟨[], [], Bys.nil _ _, Bys.nil _ _, by rw [if_neg hL], by rw [if_neg hL]⟩, by rw [if_neg hL], Below.refl _ _⟩
theorem rNotchAny_c (xs : List Int) (v : Value) (w : World) (h : Bys w w.heap.size v xs) :
    Calls Try.prog 15 #[v] w fun e w' => ∃ s f k, e = .returned (.tuple #[s, f, .int .i64 k]) ∧ (∃ ls lf, Bys w' w'.heap.size s ls ∧ Bys w' w'.heap.size f lf ∧ ls = (if xs.length ≤ 8192 then stockL xs else []) ∧ lf = (if xs.length ≤ 8192 then foilL xs else [])) ∧ k = (if xs.length ≤ 8192 then 0 else 2) ∧ Below w.heap.size w w' := by
  by_cases hL : xs.length ≤ 8192
  · refine (rNotch_c xs v w h hL).mono ?_
    rintro e w' ⟨s, f, rfl, h1, h2, -, -, h3⟩
    exact ⟨s, f, 0, rfl, ⟨_, _, h1, h2, by rw [if_pos hL], by rw [if_pos hL]⟩, by rw [if_pos hL], h3⟩
  · refine (rNotchBig_c xs v w h (by omega)).mono ?_
    rintro e w' ⟨rfl, rfl⟩
    exact ⟨_, _, 2, rfl, ⟨[], [], Bys.nil _ _, Bys.nil _ _, by rw [if_neg hL], by rw [if_neg hL]⟩, by rw [if_neg hL], Below.refl _ _⟩

set_option maxRecDepth 100000 in
set_option maxHeartbeats 8000000 in
theorem TalliesNotches_c (b st fo : List Int) (v1 v2 v3 : Value) (w : World) (h1 : Bys w w.heap.size v1 b) (h2 : Bys w w.heap.size v2 st) (h3 : Bys w w.heap.size v3 fo) :
    Calls Try.prog 4 #[v1, v2, v3] w fun e w' => e = .returned (.bool true) ∧ Below w.heap.size w w' := by
  have H1 := Lib.hid h1
  have H2 := Lib.hid h2
  have H3 := Lib.hid h3
  obtain ⟨A1, c1, rfl, -⟩ := h1.shape
  obtain ⟨A2, c2, rfl, -⟩ := h2.shape
  obtain ⟨A3, c3, rfl, -⟩ := h3.shape
  obtain ⟨n1, e1⟩ : ∃ z, b.length = z := ⟨_, rfl⟩
  obtain ⟨n2, e2⟩ : ∃ z, st.length = z := ⟨_, rfl⟩
  obtain ⟨n3, e3⟩ : ∃ z, fo.length = z := ⟨_, rfl⟩
  have E1 := Lib.hid e1
  have E2 := Lib.hid e2
  have E3 := Lib.hid e3
  rw [e1] at H1 ⊢
  rw [e2] at H2 ⊢
  rw [e3] at H3 ⊢
  clear h1 h2 h3 e1 e2 e3
  by_cases q1 : n1 ≤ 24576
  case neg =>
    have d1 : decide ((24576 : Int) < (n1 : Int)) = true := by simp; omega
    clear q1
    go_enter Try.func4, Try.ntmps4
    go_wp2_with fail
    refine (awake_c w).mono ?_; rintro e w1 ⟨rfl, hb1⟩
    have HB1 := Lib.hid hb1
    clear hb1
    go_wp2_with fail
    go_ret
    exact ⟨rfl, HB1.out⟩
  have d1 : decide ((24576 : Int) < (n1 : Int)) = false := by simp; omega
  clear q1
  by_cases q2 : n2 ≤ 20000
  case neg =>
    have d2 : decide ((20000 : Int) < (n2 : Int)) = true := by simp; omega
    clear q2
    go_enter Try.func4, Try.ntmps4
    go_wp2_with fail
    refine (awake_c w).mono ?_; rintro e w1 ⟨rfl, hb1⟩
    have HB1 := Lib.hid hb1
    clear hb1
    go_wp2_with fail
    go_ret
    exact ⟨rfl, HB1.out⟩
  have d2 : decide ((20000 : Int) < (n2 : Int)) = false := by simp; omega
  have Q2 := Lib.hid q2
  clear q2
  by_cases q3 : n3 ≤ 20000
  case neg =>
    have d3 : decide ((20000 : Int) < (n3 : Int)) = true := by simp; omega
    clear q3
    go_enter Try.func4, Try.ntmps4
    go_wp2_with fail
    refine (awake_c w).mono ?_; rintro e w1 ⟨rfl, hb1⟩
    have HB1 := Lib.hid hb1
    clear hb1
    go_wp2_with fail
    go_ret
    exact ⟨rfl, HB1.out⟩
  have d3 : decide ((20000 : Int) < (n3 : Int)) = false := by simp; omega
  have Q3 := Lib.hid q3
  clear q3
  go_enter Try.func4, Try.ntmps4
  go_wp2_with fail
  refine (awake_c w).mono ?_; rintro e w1 ⟨rfl, hb1⟩
  have HB1 := Lib.hid hb1
  clear hb1
  go_wp2_with fail
  refine (NotchAny_c b _ w1 (H1.out.later HB1.out)).mono ?_; rintro e w2 ⟨s, f, k, rfl, ⟨ls, lf, a1, a2, a3, a4⟩, a5, hb2⟩
  have HA1 := Lib.hid a1
  have HA2 := Lib.hid a2
  have HA3 := Lib.hid a3
  have HA4 := Lib.hid a4
  have HA5 := Lib.hid a5
  have HB2 := Lib.hid (HB1.out.trans (hb2.mono HB1.out.size))
  clear a1 a2 a3 a4 a5 hb2
  go_wp2_with fail
  refine (rNotchAny_c b _ w2 (H1.out.later HB2.out)).mono ?_; rintro e w3 ⟨s', f', k', rfl, ⟨ls', lf', a1, a2, a3, a4⟩, a5, hb3⟩
  have e1 : ls' = ls := a3.trans HA3.out.symm
  have e2 : lf' = lf := a4.trans HA4.out.symm
  have e3 : k' = k := a5.trans HA5.out.symm
  subst e1 e2 e3
  have HS1 := Lib.hid a1
  have HS2 := Lib.hid a2
  have HA1' := Lib.hid (HA1.out.later hb3)
  have HA2' := Lib.hid (HA2.out.later hb3)
  have HB3 := Lib.hid (HB2.out.trans (hb3.mono HB2.out.size))
  clear a1 a2 a3 a4 a5 hb3 HA1 HA2
  go_wp2_with fail
  refine (Join_c st fo _ _ w3 (H2.out.later HB3.out) (H3.out.later HB3.out) (by have := Q2.out; have := E2.out; omega) (by have := Q3.out; have := E3.out; omega)).mono ?_; rintro e w4 ⟨ov, rfl, hov, hb4⟩
  have HOV := Lib.hid hov
  have HB4 := Lib.hid (HB3.out.trans (hb4.mono HB3.out.size))
  have HS1' := Lib.hid (HS1.out.later hb4)
  have HS2' := Lib.hid (HS2.out.later hb4)
  have HA1'' := Lib.hid (HA1'.out.later hb4)
  have HA2'' := Lib.hid (HA2'.out.later hb4)
  clear hov hb4 HS1 HS2 HA1' HA2'
  go_wp2_with fail
  refine (rJoin_c st fo _ _ w4 (H2.out.later HB4.out) (H3.out.later HB4.out) (by have := Q2.out; have := E2.out; omega) (by have := Q3.out; have := E3.out; omega)).mono ?_; rintro e w5 ⟨ov', rfl, hov', hb5⟩
  have HOV' := Lib.hid hov'
  have HOV5 := Lib.hid (HOV.out.later hb5)
  have HB5 := Lib.hid (HB4.out.trans (hb5.mono HB4.out.size))
  have t1 := (HA1''.out.later hb5).str
  have t2 := (HA2''.out.later hb5).str
  have t3 := (HS1'.out.later hb5).str
  have t4 := (HS2'.out.later hb5).str
  have u1 := str_eq HA1''.out.by HA1''.out.by
  have u2 := str_eq HA2''.out.by HA2''.out.by
  rw [decide_eq_true rfl] at u1 u2
  obtain ⟨X1, x1, rfl, -⟩ := HA1''.out.shape
  obtain ⟨X2, x2, rfl, -⟩ := HA2''.out.shape
  obtain ⟨X3, x3, rfl, -⟩ := HS1'.out.shape
  obtain ⟨X4, x4, rfl, -⟩ := HS2'.out.shape
  generalize sLen (joinL st fo) = sl
  generalize (joinL st fo).length = jl at *
  generalize strOfNums ls' = S1 at *
  generalize strOfNums lf' = S2 at *
  generalize ls'.length = m1 at *
  generalize lf'.length = m2 at *
  have v1 : (k' == k') = true := by simp
  have v2 : (sl == sl) = true := by simp
  have v3 : ((4 * (jl : Int)) == (4 * (jl : Int))) = true := by simp
  clear hov' hb5 HOV
  go_wp2_with fail
  refine (SameBytes_r (joinL st fo) ov ov' w5 HOV5.out HOV'.out).mono ?_; rintro e w6 ⟨rfl, hb6⟩
  have HB6 := Lib.hid (HB5.out.trans (hb6.mono HB5.out.size))
  clear hb6
  go_wp2_with fail
  go_ret
  exact ⟨rfl, HB6.out⟩
end Go.Proofs.Ytbpbdgiglllncaa

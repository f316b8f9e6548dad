/- Layer 6: lists compared; the law on what a straight edge reddens. -/
import Derived.Test.YtcajlbedbecmoaaY3
import Derived.Test.YtcajlbedbecmoaaTA
namespace Go.Proofs.Ytcajlbedbecmoaa
open Go.RowKit

set_option maxHeartbeats 4000000 in
theorem SameInts_c (l r : List Int) (v u : Value) (w : World) (hl : Ints w w.heap.size v l) (hr : Ints w w.heap.size u r) :
    Calls Try.prog 33 #[v, u] w fun e w' => e = .returned (.bool (decide (l = r))) ∧ Below w.heap.size w w' := by
  obtain ⟨l1, A, c, rfl, l2, l3⟩ := hl
  obtain ⟨r1, A', c', rfl, r2, r3⟩ := hr
  by_cases hn : l.length = r.length
  case neg =>
    have hne : ((l.length : Int) != (r.length : Int)) = true := by simp; omega
    have Hs := Lib.hid (show decide (l = r) = false by rw [decide_eq_false_iff_not]; intro h; exact hn (by rw [h]))
    clear hn l3 r3
    go_enter Try.func33, Try.ntmps33
    go_wp2_with fail
    go_ret
    exact ⟨ret_bool Hs.out.symm, Below.refl _ _⟩
  have hne : ((l.length : Int) != (r.length : Int)) = false := by simp [hn]
  have Hn := Lib.hid hn
  clear hn
  go_enter Try.func33, Try.ntmps33
  go_wp2_with fail
  go_loopw [5] (fun i wr => ∃ k : Nat, k ≤ l.length ∧ i = .int .i64 (k : Int) ∧ l.take k = r.take k ∧ Below w.heap.size w wr) (fun i _ => l.length - (intOf i).toNat)
  case atStart => exact ⟨0, Nat.zero_le _, rfl, rfl, Below.refl _ _⟩
  case round =>
    obtain ⟨k, hk, rfl, htk, hbr⟩ := hrel
    have Htk := Lib.hid htk
    clear htk
    by_cases hlt : k < l.length
    · have hlt2 : k < r.length := by have := Hn.out; omega
      obtain ⟨b, off, rfl, hbB, hcc⟩ := l3 (by omega)
      obtain ⟨b', off', rfl, hbB', hcc'⟩ := r3 (by omega)
      have hx := keepd (hcc k hlt) hbr hbB
      have hy := keepd (hcc' k hlt2) hbr hbB'
      have hi1 : (0 : Int) ≤ (k : Int) := by omega
      have hi2 : (k : Int) < (l.length : Int) := by omega
      have hi3 : (k : Int) < (r.length : Int) := by omega
      have hdl : decide ((k : Int) < (l.length : Int)) = true := by simpa using hlt
      have hbd : ∀ nq, Below w.heap.size w (wr.drewN nq) := fun nq => ⟨hbr.os, hbr.tape, hbr.output, hbr.size, hbr.block⟩
      have Hbd := Lib.hid hbd
      have HE := Lib.hid (show nth l k = nth r k → l.take (k + 1) = r.take (k + 1) from fun hz => by
        rw [List.take_succ_eq_append_getElem hlt, List.take_succ_eq_append_getElem hlt2, Htk.out]
        have e1 : nth l k = l[k] := by simp [nth, hlt]
        have e2 : nth r k = r[k] := by simp [nth, hlt2]
        rw [e1, e2] at hz
        rw [hz])
      have HN := Lib.hid (show nth l k ≠ nth r k → decide (l = r) = false from fun hz => by rw [decide_eq_false_iff_not]; intro h; exact hz (by rw [h]))
      have HL := Lib.hid (show k < l.length ∧ l.length * 8 ≤ 140737488351232 from ⟨hlt, l1⟩)
      have hk9 : k ≤ 17592186044416 := by omega
      clear l3 r3 hcc hcc' hbd hlt2
      generalize nth l k = x at *
      generalize nth r k = y at *
      by_cases hz : x = y
      · have hne : (x != y) = false := by simp [hz]
        have Hs := Lib.hid (HE.out hz)
        clear hz
        go_wp2_with fail
        go_quiet (fail)
        go_wp2_with fail
        go_roundw
        case rel => exact ⟨k + 1, by have := HL.out; omega, by go_num, Hs.out, Hbd.out _⟩
        case measure => have := HL.out; simp [intOf]; omega
      · have hne : (x != y) = true := by simp [hz]
        have Hs := Lib.hid (HN.out hz)
        clear hz
        go_wp2_with fail
        go_quiet (fail)
        go_wp2_with fail
        go_ret
        exact ⟨ret_bool Hs.out.symm, Hbd.out _⟩
    · obtain rfl : k = l.length := by omega
      have Hs := Lib.hid (show decide (l = r) = true by
        rw [decide_eq_true_iff]
        have := Htk.out
        rwa [List.take_length, Hn.out, List.take_length] at this)
      have hdl : decide ((l.length : Int) < (l.length : Int)) = false := by simp
      clear l3 r3
      go_wp2_with fail
      go_ret
      exact ⟨ret_bool Hs.out.symm, hbr⟩

theorem SameInts_b (l r : List Int) (b : Bool) (hb : decide (l = r) = b) (v u : Value) (w : World) (hl : Ints w w.heap.size v l) (hr : Ints w w.heap.size u r) :
    Calls Try.prog 33 #[v, u] w fun e w' => e = .returned (.bool b) ∧ Below w.heap.size w w' :=
  (SameInts_c l r v u w hl hr).mono fun _ _ ⟨h1, h2⟩ => ⟨h1.trans (ret_bool hb), h2⟩

set_option maxHeartbeats 4000000 in
theorem SameBools_c (l r : List Bool) (v u : Value) (w : World) (hl : Bs w w.heap.size v l) (hr : Bs w w.heap.size u r) (l1 : l.length ≤ 100000) :
    Calls Try.prog 48 #[v, u] w fun e w' => e = .returned (.bool (decide (l = r))) ∧ Below w.heap.size w w' := by
  obtain ⟨A, c, rfl, l2, l3⟩ := hl
  obtain ⟨A', c', rfl, r2, r3⟩ := hr
  by_cases hn : l.length = r.length
  case neg =>
    have hne : ((l.length : Int) != (r.length : Int)) = true := by simp; omega
    have Hs := Lib.hid (show decide (l = r) = false by rw [decide_eq_false_iff_not]; intro h; exact hn (by rw [h]))
    clear hn l3 r3
    go_enter Try.func48, Try.ntmps48
    go_wp2_with fail
    go_ret
    exact ⟨ret_bool Hs.out.symm, Below.refl _ _⟩
  have hne : ((l.length : Int) != (r.length : Int)) = false := by simp [hn]
  have Hn := Lib.hid hn
  clear hn
  go_enter Try.func48, Try.ntmps48
  go_wp2_with fail
  go_loopw [5] (fun i wr => ∃ k : Nat, k ≤ l.length ∧ i = .int .i64 (k : Int) ∧ l.take k = r.take k ∧ Below w.heap.size w wr) (fun i _ => l.length - (intOf i).toNat)
  case atStart => exact ⟨0, Nat.zero_le _, rfl, rfl, Below.refl _ _⟩
  case round =>
    obtain ⟨k, hk, rfl, htk, hbr⟩ := hrel
    have Htk := Lib.hid htk
    clear htk
    by_cases hlt : k < l.length
    · have hlt2 : k < r.length := by have := Hn.out; omega
      obtain ⟨b, off, rfl, hbB, hcc⟩ := l3 (by omega)
      obtain ⟨b', off', rfl, hbB', hcc'⟩ := r3 (by omega)
      have hx := keepd (hcc k hlt) hbr hbB
      have hy := keepd (hcc' k hlt2) hbr hbB'
      have hi1 : (0 : Int) ≤ (k : Int) := by omega
      have hi2 : (k : Int) < (l.length : Int) := by omega
      have hi3 : (k : Int) < (r.length : Int) := by omega
      have hdl : decide ((k : Int) < (l.length : Int)) = true := by simpa using hlt
      have hbd : ∀ nq, Below w.heap.size w (wr.drewN nq) := fun nq => ⟨hbr.os, hbr.tape, hbr.output, hbr.size, hbr.block⟩
      have Hbd := Lib.hid hbd
      have HE := Lib.hid (show nthb l k = nthb r k → l.take (k + 1) = r.take (k + 1) from fun hz => by
        rw [List.take_succ_eq_append_getElem hlt, List.take_succ_eq_append_getElem hlt2, Htk.out]
        have e1 : nthb l k = l[k] := by simp [nthb, hlt]
        have e2 : nthb r k = r[k] := by simp [nthb, hlt2]
        rw [e1, e2] at hz
        rw [hz])
      have HN := Lib.hid (show nthb l k ≠ nthb r k → decide (l = r) = false from fun hz => by rw [decide_eq_false_iff_not]; intro h; exact hz (by rw [h]))
      have HL := Lib.hid (show k < l.length ∧ l.length ≤ 100000 from ⟨hlt, l1⟩)
      have hk9 : k ≤ 100000 := by omega
      clear l3 r3 hcc hcc' hbd hlt2
      generalize nthb l k = x at *
      generalize nthb r k = y at *
      by_cases hz : x = y
      · have hne : (!(x == y)) = false := by simp [hz]
        have hne2 : (x == y) = true := by simp [hz]
        have Hs := Lib.hid (HE.out hz)
        clear hz
        go_wp2_with fail
        go_quiet (fail)
        go_wp2_with fail
        go_roundw
        case rel => exact ⟨k + 1, by have := HL.out; omega, by go_num, Hs.out, Hbd.out _⟩
        case measure => have := HL.out; simp [intOf]; omega
      · have hne : (!(x == y)) = true := by simp [hz]
        have hne2 : (x == y) = false := by simp [hz]
        have Hs := Lib.hid (HN.out hz)
        clear hz
        go_wp2_with fail
        go_quiet (fail)
        go_wp2_with fail
        go_ret
        exact ⟨ret_bool Hs.out.symm, Hbd.out _⟩
    · obtain rfl : k = l.length := by omega
      have Hs := Lib.hid (show decide (l = r) = true by
        rw [decide_eq_true_iff]
        have := Htk.out
        rwa [List.take_length, Hn.out, List.take_length] at this)
      have hdl : decide ((l.length : Int) < (l.length : Int)) = false := by simp
      clear l3 r3
      go_wp2_with fail
      go_ret
      exact ⟨ret_bool Hs.out.symm, hbr⟩

theorem SameBools_b (l r : List Bool) (b : Bool) (hb : decide (l = r) = b) (v u : Value) (w : World) (hl : Bs w w.heap.size v l) (hr : Bs w w.heap.size u r) (l1 : l.length ≤ 100000) :
    Calls Try.prog 48 #[v, u] w fun e w' => e = .returned (.bool b) ∧ Below w.heap.size w w' :=
  (SameBools_c l r v u w hl hr l1).mono fun _ _ ⟨h1, h2⟩ => ⟨h1.trans (ret_bool hb), h2⟩

theorem redL_len (hs cs : List Int) (tol : Int) : (redL hs cs tol).length ≤ cs.length := by unfold redL; split <;> simp

set_option maxHeartbeats 4000000 in
theorem TruthReds_c (hs cs : List Int) (tol : Int) (v u : Value) (w : World) (h : Ints w w.heap.size v hs) (h' : Ints w w.heap.size u cs) :
    Calls Try.prog 7 #[v, u, .int .i64 tol] w fun e w' => e = .returned (.bool true) ∧ Below w.heap.size w w' := by
  have hv := Lib.hid h
  have hu := Lib.hid h'
  obtain ⟨_, A, c, rfl, hcap, hcell⟩ := h
  obtain ⟨_, A', c', rfl, hcap', hcell'⟩ := h'
  clear hcell hcell'
  by_cases g1 : (1000 : Int) < (hs.length : Int)
  · have e1 : decide ((1000 : Int) < (hs.length : Int)) = true := by simpa using g1
    have e1' : decide (1000 < hs.length) = true := by simp; omega
    clear g1
    go_enter Try.func7, Try.ntmps7
    go_wp2_with fail
    refine (awake_c w).mono ?_; rintro e w1 ⟨rfl, hb1⟩
    go_wp2_with fail
    go_ret
    exact ⟨rfl, hb1⟩
  have e1 : decide ((1000 : Int) < (hs.length : Int)) = false := by simpa using g1
  have e1' : decide (1000 < hs.length) = false := by simp; omega
  by_cases g2 : (1000 : Int) < (cs.length : Int)
  · have e2 : decide ((1000 : Int) < (cs.length : Int)) = true := by simpa using g2
    have e2' : decide (1000 < cs.length) = true := by simp; omega
    clear g2 g1
    go_enter Try.func7, Try.ntmps7
    go_wp2_with fail
    refine (awake_c w).mono ?_; rintro e w1 ⟨rfl, hb1⟩
    go_wp2_with fail
    go_ret
    exact ⟨rfl, hb1⟩
  have e2 : decide ((1000 : Int) < (cs.length : Int)) = false := by simpa using g2
  have e2' : decide (1000 < cs.length) = false := by simp; omega
  have LN := Lib.hid (show hs.length ≤ 1000 ∧ cs.length ≤ 1000 by omega)
  have RL := Lib.hid (show (redL hs cs tol).length ≤ 100000 by have := redL_len hs cs tol; omega)
  clear g1 g2
  go_enter Try.func7, Try.ntmps7
  go_wp2_with fail
  refine (awake_c w).mono ?_; rintro e w1 ⟨rfl, hb1⟩
  go_wp2_with fail
  refine (Red_c hs cs tol _ _ w1 (hv.out.later hb1) (hu.out.later hb1) LN.out.1 LN.out.2).mono ?_; rintro e w2 ⟨r, rfl, hr, hb2⟩
  have HR := Lib.hid hr
  have HB2 := Lib.hid (chain hb1 hb2)
  clear hr hb1 hb2
  go_wp2_with fail
  refine (rRed_c hs cs tol _ _ w2 (hv.out.later HB2.out) (hu.out.later HB2.out) LN.out.1 LN.out.2).mono ?_; rintro e w3 ⟨r', rfl, hr', hb3⟩
  have HR' := Lib.hid hr'
  have HB3 := Lib.hid (chain HB2.out hb3)
  have HR2 := Lib.hid (HR.out.later hb3)
  clear hr' hb3
  go_wp2_with fail
  refine (SameBools_b _ _ true (by simp) _ _ w3 HR2.out HR'.out RL.out).mono ?_; rintro e w4 ⟨rfl, hb4⟩
  have HB4 := Lib.hid (chain HB3.out hb4)
  clear hb4
  have ez : decide (redE hs cs tol = redE hs cs tol) = true := by simp
  have ez' : (redE hs cs tol == redE hs cs tol) = true := by simp
  generalize redE hs cs tol = z at *
  go_wp2_with fail
  go_ret
  exact ⟨rfl, HB4.out⟩

end Go.Proofs.Ytcajlbedbecmoaa

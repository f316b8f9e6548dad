/- Totals, equal lists, and which tasks are looked at. -/
import Derived.Test.YtfafjojoapcliaaQ3b
namespace Go.Proofs.Ytfafjojoapcliaa
open Go.RowKit

/-- two numbers come back -/
def Ret2 (w : World) (a b : Int) (e : Ending) (w' : World) : Prop := e = .returned (.tuple #[.int .i64 a, .int .i64 b]) ∧ Below w.heap.size w w'
theorem counts_b (l : List Int) (n : Int) (r : Bool) (hr : (decide ((l.length : Int) = n) && cntB l 100000) = r) (v : Value) (w : World) (h : Ints w w.heap.size v l) :
    Calls Try.prog 62 #[v, .int .i64 n] w fun e w' => e = .returned (.bool r) ∧ w = w' :=
  (counts_c l n v w h).mono fun _ _ ⟨h1, h2⟩ => ⟨h1.trans (ret_bool hr), h2⟩
theorem tot_len (p : List Int) (r : Bool) (h : cntB p 100000 = r) : (decide ((p.length : Int) = (p.length : Int)) && cntB p 100000) = r := by rw [h]; simp
def okTot (p : List Int) : Bool := decide (p.length ≤ 400) && cntB p 100000
def totV (p : List Int) : Int := if okTot p = true then pre p p.length else 0
def totE (p : List Int) : Int := if okTot p = true then 0 else 52
theorem tot_bad {p : List Int} (h : okTot p = false) : totV p = 0 ∧ totE p = 52 := by unfold totV totE; rw [h]; simp
theorem tot_ok {p : List Int} (h : okTot p = true) : totV p = pre p p.length ∧ totE p = 0 := by unfold totV totE; rw [h]; simp

set_option maxRecDepth 100000 in
set_option maxHeartbeats 4000000 in
theorem Total_c (p : List Int) (v : Value) (w : World) (hp : Ints w w.heap.size v p) : Calls Try.prog 23 #[v] w (Ret2 w (totV p) (totE p)) := by
  have HP := Lib.hid hp
  obtain ⟨_, A, c, rfl, hcap, hcell⟩ := hp
  clear hcell hcap
  by_cases h1 : p.length ≤ 400
  case neg =>
    obtain ⟨x1, x2⟩ := tot_bad (p := p) (by unfold okTot; simp [h1])
    rw [x1, x2]
    have d1 : decide ((400 : Int) < (p.length : Int)) = true := by simp; omega
    have d2 : decide (400 < p.length) = true := by simp; omega
    clear h1 x1 x2
    go_enter Try.func23, Try.ntmps23
    go_wp2_with fail
    go_ret2
    exact ⟨rfl, Below.refl _ _⟩
  have d1 : decide ((400 : Int) < (p.length : Int)) = false := by simp; omega
  have d2 : decide (400 < p.length) = false := by simp; omega
  cases h2 : cntB p 100000
  · obtain ⟨x1, x2⟩ := tot_bad (p := p) (by unfold okTot; rw [h2]; simp)
    rw [x1, x2]
    have H2 := Lib.hid h2
    clear h1 h2 x1 x2
    go_enter Try.func23, Try.ntmps23
    go_wp2_with fail
    refine (allWithin_c p 100000 _ _ HP.out).mono ?_; rintro e w1 ⟨rfl, rfl⟩
    rw [H2.out]
    go_wp2_with fail
    go_ret2
    exact ⟨rfl, Below.refl _ _⟩
  · obtain ⟨x1, x2⟩ := tot_ok (p := p) (by unfold okTot; rw [h2]; simp [h1])
    rw [x1, x2]
    have H2 := Lib.hid h2
    have H1 := Lib.hid h1
    clear h1 h2 x1 x2
    go_enter Try.func23, Try.ntmps23
    go_wp2_with fail
    refine (allWithin_c p 100000 _ _ HP.out).mono ?_; rintro e w1 ⟨rfl, rfl⟩
    rw [H2.out]
    go_wp2_with fail
    refine (sums_c p 100000 _ _ HP.out (by have := H1.out; omega) (by omega) (by omega) H2.out).mono ?_; rintro e w1 ⟨rfl, hrow, hb⟩
    have f0 : w1.cell? ⟨w.heap.size, p.length, none⟩ = some (.int .i64 (pre p p.length)) := by rw [hrow.cell (by rw [sumsL_len]; omega), sumsL_nth _ _ (Nat.le_refl _)]
    have i0 : (0 : Int) ≤ (p.length : Int) := by omega
    have i1 : (p.length : Int) < (p.length : Int) + 1 := by omega
    clear hrow
    go_wp2_with fail
    go_ret2
    exact ⟨rfl, hb⟩

set_option maxHeartbeats 4000000 in
theorem SameInts_c (l r : List Int) (v u : Value) (w : World) (hl : Ints w w.heap.size v l) (hr : Ints w w.heap.size u r) :
    Calls Try.prog 14 #[v, u] w fun e w' => e = .returned (.bool (decide (l = r))) ∧ Below w.heap.size w w' := by
  obtain ⟨l1, A, c, rfl, l2, l3⟩ := hl
  obtain ⟨r1, A', c', rfl, r2, r3⟩ := hr
  by_cases hn : l.length = r.length
  case neg =>
    have hne : ((l.length : Int) != (r.length : Int)) = true := by simp; omega
    have Hs := Lib.hid (show decide (l = r) = false by rw [decide_eq_false_iff_not]; intro h; exact hn (by rw [h]))
    clear hn l3 r3
    go_enter Try.func14, Try.ntmps14
    go_wp2_with fail
    go_ret
    exact ⟨ret_bool Hs.out.symm, Below.refl _ _⟩
  have hne : ((l.length : Int) != (r.length : Int)) = false := by simp [hn]
  have Hn := Lib.hid hn
  clear hn
  go_enter Try.func14, Try.ntmps14
  go_wp2_with fail
  go_loopw [5] (fun i wr => ∃ k : Nat, k ≤ l.length ∧ i = .int .i64 (k : Int) ∧ l.take k = r.take k ∧ Below w.heap.size w wr) (fun i _ => l.length - (intOf i).toNat)
  case atStart => exact ⟨0, Nat.zero_le _, rfl, rfl, Below.refl _ _⟩
  case round =>
    obtain ⟨k, hk, rfl, htk, hbr⟩ := hrel
    have Htk := Lib.hid htk
    clear htk
    by_cases hlt : k < l.length
    · have hlt2 : k < r.length := by have := Hn.out; omega
      obtain ⟨b, off, rfl, hbB, hcc⟩ := l3 (by omega)
      obtain ⟨b', off', rfl, hbB', hcc'⟩ := r3 (by omega)
      have hx := keepd (hcc k hlt) hbr hbB
      have hy := keepd (hcc' k hlt2) hbr hbB'
      have hi1 : (0 : Int) ≤ (k : Int) := by omega
      have hi2 : (k : Int) < (l.length : Int) := by omega
      have hi3 : (k : Int) < (r.length : Int) := by omega
      have hdl : decide ((k : Int) < (l.length : Int)) = true := by simpa using hlt
      have hbd : ∀ nq, Below w.heap.size w (wr.drewN nq) := fun nq => ⟨hbr.os, hbr.tape, hbr.output, hbr.size, hbr.block⟩
      have Hbd := Lib.hid hbd
      have HE := Lib.hid (show nth l k = nth r k → l.take (k + 1) = r.take (k + 1) from fun hz => by
        rw [List.take_succ_eq_append_getElem hlt, List.take_succ_eq_append_getElem hlt2, Htk.out]
        have e1 : nth l k = l[k] := by simp [nth, hlt]
        have e2 : nth r k = r[k] := by simp [nth, hlt2]
        rw [e1, e2] at hz
        rw [hz])
      have HN := Lib.hid (show nth l k ≠ nth r k → decide (l = r) = false from fun hz => by rw [decide_eq_false_iff_not]; intro h; exact hz (by rw [h]))
      have HL := Lib.hid (show k < l.length ∧ l.length * 8 ≤ 140737488351232 from ⟨hlt, l1⟩)
      have hk9 : k ≤ 17592186044416 := by omega
      clear l3 r3 hcc hcc' hbd hlt2
      generalize nth l k = x at *
      generalize nth r k = y at *
      by_cases hz : x = y
      · have hne : (x != y) = false := by simp [hz]
        have Hs := Lib.hid (HE.out hz)
        clear hz
        go_wp2_with fail
        go_quiet (fail)
        go_wp2_with fail
        go_roundw
        case rel => exact ⟨k + 1, by have := HL.out; omega, by go_num, Hs.out, Hbd.out _⟩
        case measure => have := HL.out; simp [intOf]; omega
      · have hne : (x != y) = true := by simp [hz]
        have Hs := Lib.hid (HN.out hz)
        clear hz
        go_wp2_with fail
        go_quiet (fail)
        go_wp2_with fail
        go_ret
        exact ⟨ret_bool Hs.out.symm, Hbd.out _⟩
    · obtain rfl : k = l.length := by omega
      have Hs := Lib.hid (show decide (l = r) = true by
        rw [decide_eq_true_iff]
        have := Htk.out
        rwa [List.take_length, Hn.out, List.take_length] at this)
      have hdl : decide ((l.length : Int) < (l.length : Int)) = false := by simp
      clear l3 r3
      go_wp2_with fail
      go_ret
      exact ⟨ret_bool Hs.out.symm, hbr⟩

theorem SameInts_b (l r : List Int) (b : Bool) (hb : decide (l = r) = b) (v u : Value) (w : World) (hl : Ints w w.heap.size v l) (hr : Ints w w.heap.size u r) :
    Calls Try.prog 14 #[v, u] w fun e w' => e = .returned (.bool b) ∧ Below w.heap.size w w' :=
  (SameInts_c l r v u w hl hr).mono fun _ _ ⟨h1, h2⟩ => ⟨h1.trans (ret_bool hb), h2⟩
def shortB (t : Tk) : Bool := decide (t.need.length ≤ 40) || (decide (400 < t.need.length) && decide (t.need.length ≤ 800))
set_option maxHeartbeats 4000000 in
theorem short_c (t : Tk) (v : Value) (w : World) (h : IsTask w w.heap.size v t) :
    Calls Try.prog 9 #[v] w fun e w' => e = .returned (.bool (shortB t)) ∧ Below w.heap.size w w' := by
  obtain ⟨s, rfl, A, c, rfl, hcap, hcell⟩ := h
  have hB1 : ∀ o : Obj, Below w.heap.size w (w.alloc o) := fun o => (Below.refl _ _).alloc (Nat.le_refl _) o
  clear hcell hcap
  by_cases h1 : t.need.length ≤ 40
  · have H := Lib.hid (show shortB t = true by unfold shortB; simp [h1])
    have d1 : decide ((t.need.length : Int) ≤ 40) = true := by simp; omega
    have d2 : decide (t.need.length ≤ 40) = true := by simp; omega
    clear h1
    go_enter Try.func9, Try.ntmps9
    go_wp2_with fail
    go_ret
    exact ⟨ret_bool H.out.symm, hB1 _⟩
  have d1 : decide ((t.need.length : Int) ≤ 40) = false := by simp; omega
  have d2 : decide (t.need.length ≤ 40) = false := by simp; omega
  by_cases h2 : 400 < t.need.length
  case neg =>
    have H := Lib.hid (show shortB t = false by unfold shortB; simp [h1, h2])
    have d3 : decide ((400 : Int) < (t.need.length : Int)) = false := by simp; omega
    have d4 : decide (400 < t.need.length) = false := by simp; omega
    clear h1 h2
    go_enter Try.func9, Try.ntmps9
    go_wp2_with fail
    go_ret
    exact ⟨ret_bool H.out.symm, hB1 _⟩
  have d3 : decide ((400 : Int) < (t.need.length : Int)) = true := by simp; omega
  have d4 : decide (400 < t.need.length) = true := by simp; omega
  by_cases h3 : t.need.length ≤ 800
  · have H := Lib.hid (show shortB t = true by unfold shortB; simp [h2, h3])
    have d5 : decide ((t.need.length : Int) ≤ 800) = true := by simp; omega
    have d6 : decide (t.need.length ≤ 800) = true := by simp; omega
    clear h1 h2 h3
    go_enter Try.func9, Try.ntmps9
    go_wp2_with fail
    go_ret
    exact ⟨ret_bool H.out.symm, hB1 _⟩
  · have H := Lib.hid (show shortB t = false by unfold shortB; simp [h1, h2, h3])
    have d5 : decide ((t.need.length : Int) ≤ 800) = false := by simp; omega
    have d6 : decide (t.need.length ≤ 800) = false := by simp; omega
    clear h1 h2 h3
    go_enter Try.func9, Try.ntmps9
    go_wp2_with fail
    go_ret
    exact ⟨ret_bool H.out.symm, hB1 _⟩

end Go.Proofs.Ytfafjojoapcliaa

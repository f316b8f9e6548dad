/- How often a plan covers each cell: the program's side. -/
import Derived.Test.YtfafjojoapcliaaQ3a
import Derived.StillTailTactics
namespace Go.Proofs.Ytfafjojoapcliaa
open Go.RowKit

/-- reads ahead of what writes, the world under a name -/
theorem still_tail {P : Program} {id : Nat} {Q : Exit → Act → World → Prop} {a : Act} {w : World} {l : List Oper} (n : Nat) (W : World) (hW : w.drew = W) (hm : P.follows .mixedOrders = true) (hB : Region.lexTailB .any l.toArray n = true)
    (h : wpStill P l.toArray W (fun a' => wpList P l.toArray Q (l.drop n) a' W) (l.take n) a) : (Code.region id l.toArray true).wp P Q a w := by
  subst hW
  exact wp_region_still_tail n hm hB h

set_option maxRecDepth 100000 in
set_option maxHeartbeats 3000000 in
theorem Covers_ok (t : Tk) (p : List Int) (v u : Value) (w : World) (h : IsTask w w.heap.size v t) (hp : Ints w w.heap.size u p) (htb : taskB t = true) (hpl : okPlan t p = true) :
    Calls Try.prog 48 #[v, u] w (RetL w (covR t p) (covE t p)) := by
  have hT := h
  have hP := hp
  obtain ⟨s, rfl, A, c, rfl, hcap, hcell⟩ := h
  obtain ⟨_, A', c', rfl, hcap', hcell'⟩ := hp
  have hbx0 := Box.made w 24 #[.int .i64 t.wide, .slice A t.need.length c]
  have hsz := taskB_sz htb
  obtain ⟨W, m, hW, hm, hW1, hmW, hm1, hn⟩ := firsts_nat hsz
  obtain ⟨x1, x2, x3⟩ := covE_ok htb hpl
  rw [x1, x2, show t.wide.toNat = W by omega]
  have X3 := Lib.hid x3
  have HS := Lib.hid hsz
  have Hpl := hpl
  unfold okPlan at Hpl
  simp only [Bool.and_eq_true, decide_eq_true_eq] at Hpl
  obtain ⟨hlen, hcn⟩ := Hpl
  have hne : ((p.length : Int) != firsts t) = false := by simp [hlen]
  have Hcn := Lib.hid hcn
  have HW := Lib.hid hW
  have HM := Lib.hid hm
  have AR := Lib.hid (show p.length = m ∧ 1 ≤ W ∧ m + W = t.need.length + 1 ∧ 1 ≤ m ∧ t.need.length ≤ 400 by omega)
  have HT := Lib.hid hT
  have HP := Lib.hid hP
  have HB := Lib.hid hbx0
  clear hcell hcell' htb x1 x2 x3 hsz hpl hcn hlen hW hm hW1 hmW hm1 hn hcap hcap' hT hP hbx0
  go_enter Try.func48, Try.ntmps48
  go_wp2_with fail
  have hT := HT.out
  have hP := HP.out
  have hbx0 := HB.out
  refine (Check_c t _ _ (hT.box _)).mono ?_; rintro e w1 ⟨rfl, hb1⟩
  have c0 : w1.cell? ⟨w.heap.size, 0, none⟩ = some (.int .i64 t.wide) := (hbx0.later hb1).cell 0
  have c1 : w1.cell? ⟨w.heap.size, 1, none⟩ = some (.slice A t.need.length c) := (hbx0.later hb1).cell 1
  rw [X3.out]
  go_wp2_with fail
  refine (firstCells_c t _ _ ((hT.box _).later hb1) HS.out).mono ?_; rintro e w2 ⟨rfl, hb2⟩
  go_wp2_with fail
  refine (allWithin_c p 100000 _ _ ((hP.box _).later hb1 |>.later hb2)).mono ?_; rintro e w3 ⟨rfl, rfl⟩
  rw [Hcn.out]
  go_wp2_with fail
  refine (sums_c p 100000 _ _ ((hP.box _).later hb1 |>.later hb2) (by have := AR.out; omega) (by omega) (by omega) Hcn.out).mono ?_; rintro e w3 ⟨rfl, hrow, hb3⟩
  have B2 : Below w.heap.size w w2 := (boxed hb1).trans (hb2.mono (boxed hb1).size)
  have B3 : Below w.heap.size w w3 := B2.trans (hb3.mono B2.size)
  have bx3 := ((hbx0.later hb1).later hb2).later hb3
  have hl2 : w.heap.size < w2.heap.size := ((hbx0.later hb1).later hb2).lt
  have c2 : w3.cell? ⟨w.heap.size, 1, none⟩ = some (.slice A t.need.length c) := bx3.cell 1
  have hmk := mkInts w3 t.need.length (by have := AR.out; omega)
  have hl3 := hrow.lt
  clear c0 c1
  go_wp2_with fail
  go_loopw [35] (fun i wr => ∃ k : Nat, k ≤ t.need.length ∧ i = .int .i64 (k : Int) ∧ Row wr w3.heap.size (covTo p W t.need.length k) ∧ Row wr w2.heap.size (sumsL p) ∧ Box wr w.heap.size 24 #[.int .i64 t.wide, .slice A t.need.length c] ∧ Below w.heap.size w wr) (fun i _ => t.need.length - (intOf i).toNat)
  case atStart => exact ⟨0, Nat.zero_le _, rfl, Row.made _ _, hrow.later ((Below.refl _ _).alloc (Nat.le_refl _) _), bx3.alloc _, B3.alloc (by omega) _⟩
  case round =>
    clear hmk c2 bx3 hrow hb1 hb2 hb3 hbx0
    obtain ⟨k, hk, rfl, hcov, hrow, hbx, hbr⟩ := hrel
    by_cases hlt : k < t.need.length
    · have hd : decide ((k : Int) < (t.need.length : Int)) = true := by simpa using hlt
      have e0 : wr.cell? ⟨w.heap.size, 0, none⟩ = some (.int .i64 t.wide) := hbx.cell 0
      have e1 : wr.cell? ⟨w.heap.size, 1, none⟩ = some (.slice A t.need.length c) := hbx.cell 1
      have AR := Lib.hid (show p.length = m ∧ 1 ≤ W ∧ m + W = t.need.length + 1 ∧ 1 ≤ m ∧ t.need.length ≤ 400 ∧ k < t.need.length ∧ w.heap.size < w2.heap.size ∧ w2.heap.size < w3.heap.size by have := AR.out; omega)
      have HT := Lib.hid hT
      have HR := Lib.hid (show Row wr w3.heap.size (covTo p W t.need.length k) ∧ Row wr w2.heap.size (sumsL p) ∧ Box wr w.heap.size 24 #[.int .i64 t.wide, .slice A t.need.length c] ∧ Below w.heap.size w wr from ⟨hcov, hrow, hbx, hbr⟩)
      clear hT hP hcov hrow hbx hbr hk hl2 hl3 B2 B3
      go_wp2_with fail
      refine (strokesOver_n t k W m HW.out HM.out _ _ (HT.out.mono HR.out.2.2.2 HR.out.2.2.2.size) HS.out AR.out.2.2.2.2.2.1).mono ?_; rintro e w4 ⟨rfl, hb4⟩
      clear e0 e1 hd hlt
      go_wp2_with fail
      obtain ⟨hpm, hW1, hmW, hm1, hn, hlt, hl2, hl3⟩ := AR.out
      obtain ⟨hcov, hrow, hbx, hbr⟩ := HR.out
      obtain ⟨W1, hW1e⟩ : ∃ W1, w4.drew = W1 := ⟨_, rfl⟩
      have hb1 : Below wr.heap.size wr W1 := by rw [← hW1e]; exact hb4.drew
      have r0 := hrow.later hb1
      have r1 := hcov.later hb1
      have f0 : W1.cell? ⟨w2.heap.size, min (k + 1) m, none⟩ = some (.int .i64 (pre p (min (k + 1) m))) := by rw [r0.cell (by rw [sumsL_len]; omega), sumsL_nth _ _ (by omega)]
      have f1 : W1.cell? ⟨w2.heap.size, k + 1 - W, none⟩ = some (.int .i64 (pre p (k + 1 - W))) := by rw [r0.cell (by rw [sumsL_len]; omega), sumsL_nth _ _ (by omega)]
      have f2 : W1.cell? ⟨w3.heap.size, k, none⟩ = some (.int .i64 (nth (covTo p W t.need.length k) k)) := r1.cell (by rw [covTo_len]; omega)
      have f3 := r1.free k
      have b1 := pre_bd Hcn.out (by omega) (min (k + 1) m)
      have b2 := pre_bd Hcn.out (by omega) (k + 1 - W)
      have wv : IntKind.i64.wrap (pre p (min (k + 1) m) - pre p (k + 1 - W)) = pre p (min (k + 1) m) - pre p (k + 1 - W) := wrap_id (by omega) (by omega)
      have i1 : ((min (k + 1) m : Nat) : Int) < (p.length : Int) + 1 := by omega
      have i01 : (0 : Int) ≤ ((min (k + 1) m : Nat) : Int) := by omega
      have i02 : (0 : Int) ≤ ((k + 1 - W : Nat) : Int) := by omega
      have i2 : ((k + 1 - W : Nat) : Int) < (p.length : Int) + 1 := by omega
      have i3 : (k : Int) < (t.need.length : Int) := by omega
      have i4 : k ≤ 400 := by omega
      have HF := Lib.hid (show Below w.heap.size w (W1.setCell ⟨w3.heap.size, k, none⟩ (.int .i64 (pre p (min (k + 1) m) - pre p (k + 1 - W)))) from (hbr.trans (hb1.mono hbr.size)).setCell (by show w.heap.size ≤ w3.heap.size; omega) _)
      have HF2 := Lib.hid (show Row (W1.setCell ⟨w3.heap.size, k, none⟩ (.int .i64 (pre p (min (k + 1) m) - pre p (k + 1 - W)))) w3.heap.size (covTo p W t.need.length (k + 1)) by
        have := r1.put k (pre p (min (k + 1) m) - pre p (k + 1 - W))
        rw [covTo, covAt, hpm]; exact this)
      have HF3 := Lib.hid (show Row (W1.setCell ⟨w3.heap.size, k, none⟩ (.int .i64 (pre p (min (k + 1) m) - pre p (k + 1 - W)))) w2.heap.size (sumsL p) from Box.far (w := W1) (t := 3) r0 (by simp; omega) _)
      have HF4 := Lib.hid (show Box (W1.setCell ⟨w3.heap.size, k, none⟩ (.int .i64 (pre p (min (k + 1) m) - pre p (k + 1 - W)))) w.heap.size 24 #[.int .i64 t.wide, .slice A t.need.length c] from Box.far (hbx.later hb1) (by simp; omega) _)
      clear hpm hW1 hmW hm1 hn hlt hl2 hl3 hcov hrow hbx hbr r0 r1 b1 b2 hb1 hb4
      generalize pre p (min (k + 1) m) = x1 at *
      generalize pre p (k + 1 - W) = x2 at *
      generalize nth (covTo p W t.need.length k) k = x3 at *
      generalize min (k + 1) m = j1 at *
      generalize k + 1 - W = j2 at *
      refine still_tail 12 W1 hW1e (by kernel_rfl) (by kernel_rfl) ?_
      clear hW1e
      simp only [List.take_succ_cons, List.take_zero, List.drop_succ_cons, List.drop_zero]
      repeat still_step
      refine wpStill_nil ?_
      go_wp2_with fail
      go_roundw
      case rel => exact ⟨k + 1, by have := AR.out; omega, by go_num, HF2.out, HF3.out, HF4.out, HF.out⟩
      case measure => have := AR.out; simp [intOf]; omega
    · obtain rfl : k = t.need.length := by omega
      have hd : decide ((t.need.length : Int) < (t.need.length : Int)) = false := by simp
      go_wp2_with fail
      go_ret2
      exact ⟨_, rfl, by have h9 := hcov.ints_ (c := t.need.length) (Nat.le_refl _) (by rw [covTo_len]; have := AR.out; omega) (by rw [covTo_len]; omega); rw [covTo_len] at h9; exact h9, hbr⟩


set_option maxRecDepth 100000 in
set_option maxHeartbeats 8000000 in
theorem Covers_c (t : Tk) (p : List Int) (v u : Value) (w : World) (h : IsTask w w.heap.size v t) (hp : Ints w w.heap.size u p) :
    Calls Try.prog 48 #[v, u] w (RetL w (covR t p) (covE t p)) := by
  have hT := h
  have hP := hp
  obtain ⟨s, rfl, A, c, rfl, hcap, hcell⟩ := h
  obtain ⟨_, A', c', rfl, hcap', hcell'⟩ := hp
  have hb0 : ∀ o : Obj, Below w.heap.size w (w.alloc o) := fun o => (Below.refl _ _).alloc (Nat.le_refl _) o
  cases htb : taskB t
  · obtain ⟨x1, x2, x3⟩ := covE_task (p := p) htb
    rw [x1, x2]
    have X3 := Lib.hid x3
    clear hcell hcell' htb x1 x2 x3
    go_enter Try.func48, Try.ntmps48
    go_wp2_with fail
    refine (Check_c t _ _ (hT.box _)).mono ?_; rintro e w1 ⟨rfl, hb1⟩
    rw [X3.out]
    go_wp2_with fail
    go_ret2
    exact ⟨_, rfl, ints_nil _ _, boxed hb1⟩
  have hsz := taskB_sz htb
  have HS := Lib.hid hsz
  have hbx0 := Box.made w 24 #[.int .i64 t.wide, .slice A t.need.length c]
  cases hpl : okPlan t p
  · obtain ⟨x1, x2, x3⟩ := covE_plan htb hpl
    rw [x1, x2]
    have X3 := Lib.hid x3
    clear hcell hcell' htb x1 x2 x3 hsz
    by_cases hlen : (p.length : Int) = firsts t
    · have hne : ((p.length : Int) != firsts t) = false := by simp [hlen]
      have hcn : cntB p 100000 = false := by unfold okPlan at hpl; simp [hlen] at hpl; exact hpl
      have Hcn := Lib.hid hcn
      clear hcn hpl hlen
      go_enter Try.func48, Try.ntmps48
      go_wp2_with fail
      refine (Check_c t _ _ (hT.box _)).mono ?_; rintro e w1 ⟨rfl, hb1⟩
      have c0 : w1.cell? ⟨w.heap.size, 0, none⟩ = some (.int .i64 t.wide) := (hbx0.later hb1).cell 0
      have c1 : w1.cell? ⟨w.heap.size, 1, none⟩ = some (.slice A t.need.length c) := (hbx0.later hb1).cell 1
      rw [X3.out]
      go_wp2_with fail
      refine (firstCells_c t _ _ ((hT.box _).later hb1) HS.out).mono ?_; rintro e w2 ⟨rfl, hb2⟩
      go_wp2_with fail
      refine (allWithin_c p 100000 _ _ ((hP.box _).later hb1 |>.later hb2)).mono ?_; rintro e w3 ⟨rfl, rfl⟩
      rw [Hcn.out]
      go_wp2_with fail
      go_ret2
      exact ⟨_, rfl, ints_nil _ _, (boxed hb1).trans (hb2.mono (boxed hb1).size)⟩
    · have hne : ((p.length : Int) != firsts t) = true := by simp [hlen]
      clear hpl hlen
      go_enter Try.func48, Try.ntmps48
      go_wp2_with fail
      refine (Check_c t _ _ (hT.box _)).mono ?_; rintro e w1 ⟨rfl, hb1⟩
      have c0 : w1.cell? ⟨w.heap.size, 0, none⟩ = some (.int .i64 t.wide) := (hbx0.later hb1).cell 0
      have c1 : w1.cell? ⟨w.heap.size, 1, none⟩ = some (.slice A t.need.length c) := (hbx0.later hb1).cell 1
      rw [X3.out]
      go_wp2_with fail
      refine (firstCells_c t _ _ ((hT.box _).later hb1) HS.out).mono ?_; rintro e w2 ⟨rfl, hb2⟩
      go_wp2_with fail
      go_ret2
      exact ⟨_, rfl, ints_nil _ _, (boxed hb1).trans (hb2.mono (boxed hb1).size)⟩
  exact Covers_ok t p _ _ w hT hP htb hpl

end Go.Proofs.Ytfafjojoapcliaa

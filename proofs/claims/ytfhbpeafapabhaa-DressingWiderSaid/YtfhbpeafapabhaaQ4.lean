/- How often a plan covers each cell: the specification's side. -/
import Derived.Test.YtfhbpeafapabhaaQ3b
namespace Go.Proofs.Ytfhbpeafapabhaa
open Go.RowKit

theorem rcov_bd {p : List Int} {W n i k : Nat} (hc : cntB p 100000 = true) (hp : p.length ≤ 400) (hi : i ≤ p.length) (hk : k < n) : 0 ≤ nth (rcovTo p W n i) k ∧ nth (rcovTo p W n i) k ≤ 40000000 := by
  rw [rcovTo_nth _ _ _ _ _ hk]
  have h1 := pre_mono hc (by omega) (show min i (k + 1 - W) ≤ min (k + 1) i by omega)
  have h2 := pre_bd hc (by omega) (min (k + 1) i)
  have h3 := pre_bd hc (by omega) (min i (k + 1 - W))
  have h4 : ((min (k + 1) i : Nat) : Int) * 100000 ≤ 400 * 100000 := by omega
  omega
theorem addTo_at (c : List Int) (i : Nat) (x : Int) (q : Nat) (hq : q < c.length) : nth (addTo c i x (q - i)) q = nth c q := by
  rw [addTo_nth _ _ _ _ _ hq, if_neg (by omega)]; omega

set_option maxRecDepth 100000 in
set_option maxHeartbeats 8000000 in
theorem rCovers_ok (t : Tk) (p : List Int) (v u : Value) (w : World) (h : IsTask w w.heap.size v t) (hp : Ints w w.heap.size u p) (htb : taskB t = true) (hpl : okPlan t p = true) :
    Calls Try.prog 22 #[v, u] w (RetL w (covR t p) (covE t p)) := by
  have hT := h
  have hP := hp
  obtain ⟨s, rfl, A, c, rfl, hcap, hcell⟩ := h
  obtain ⟨_, A', c', rfl, hcap', hcell'⟩ := hp
  have hbx0 := Box.made w 24 #[.int .i64 t.wide, .slice A t.need.length c]
  have hsz := taskB_sz htb
  obtain ⟨W, m, hW, hm, hW1, hmW, hm1, hn⟩ := firsts_nat hsz
  obtain ⟨x1, x2, x3⟩ := covE_ok htb hpl
  rw [x1, x2, show t.wide.toNat = W by omega]
  have X3 := Lib.hid x3
  have HS := Lib.hid hsz
  have Hpl := hpl
  unfold okPlan at Hpl
  simp only [Bool.and_eq_true, decide_eq_true_eq] at Hpl
  obtain ⟨hlen, hcn⟩ := Hpl
  have Hpl := Lib.hid (show (decide ((p.length : Int) = firsts t) && cntB p 100000) = true by simp [hlen, hcn])
  have Hcn := Lib.hid hcn
  have AR := Lib.hid (show t.wide = (W : Int) ∧ p.length = m ∧ 1 ≤ W ∧ m + W = t.need.length + 1 ∧ 1 ≤ m ∧ t.need.length ≤ 400 ∧ p.length ≤ 400 by omega)
  have HT := Lib.hid hT
  have HP := Lib.hid hP
  have HB := Lib.hid hbx0
  have HC := Lib.hid hcell'
  clear hcell hcell' htb x1 x2 x3 hsz hpl hcn hlen hW hm hW1 hmW hm1 hn hcap hcap' hT hP hbx0
  go_enter Try.func22, Try.ntmps22
  go_wp2_with fail
  refine (rCheck_c t _ _ (HT.out.box _)).mono ?_; rintro e w1 ⟨rfl, hb1⟩
  have c0 : w1.cell? ⟨w.heap.size, 0, none⟩ = some (.int .i64 t.wide) := (HB.out.later hb1).cell 0
  have c1 : w1.cell? ⟨w.heap.size, 1, none⟩ = some (.slice A t.need.length c) := (HB.out.later hb1).cell 1
  rw [X3.out]
  go_wp2_with fail
  refine (rFirsts_c t _ _ ((HT.out.box _).later hb1) HS.out).mono ?_; rintro e w2 ⟨rfl, hb2⟩
  have B2 : Below w.heap.size w w2 := (boxed hb1).trans (hb2.mono (boxed hb1).size)
  go_wp2_with fail
  refine (counts_c p (firsts t) _ _ (HP.out.mono B2 B2.size)).mono ?_; rintro e w3 ⟨rfl, rfl⟩
  rw [Hpl.out]
  have bx2 := ((HB.out.later hb1).later hb2)
  have hl2 : w.heap.size < w2.heap.size := bx2.lt
  have c2 : w2.cell? ⟨w.heap.size, 1, none⟩ = some (.slice A t.need.length c) := bx2.cell 1
  have hmk := mkInts w2 t.need.length (by have := AR.out; omega)
  clear c0 c1
  go_wp2_with fail
  go_loopw [8] (fun iv wr => ∃ i : Nat, i ≤ p.length ∧ iv = .int .i64 (i : Int) ∧ Row wr w2.heap.size (rcovTo p W t.need.length i) ∧ Box wr w.heap.size 24 #[.int .i64 t.wide, .slice A t.need.length c] ∧ Below w.heap.size w wr) (fun iv _ => p.length - (intOf iv).toNat)
  case atStart => exact ⟨0, Nat.zero_le _, rfl, Row.made _ _, bx2.alloc _, B2.alloc (by omega) _⟩
  case round =>
    clear hmk c2 bx2 hb1 hb2 B2
    obtain ⟨i, hi, rfl, hrow, hbx, hbr⟩ := hrel
    by_cases hlt : i < p.length
    · have hd : decide ((i : Int) < (p.length : Int)) = true := by simpa using hlt
      obtain ⟨b, off, hA, hbB, hcc⟩ := HC.out (by omega)
      have hx := hcc i hlt
      have hxb := cntB_nth Hcn.out i (by omega)
      have HX := Lib.hid (show i < p.length ∧ b < w.heap.size ∧ w.cell? ⟨b, off + i, none⟩ = some (.int .i64 (nth p i)) ∧ 0 ≤ nth p i ∧ nth p i ≤ 100000 ∧ w.heap.size < w2.heap.size from ⟨hlt, hbB, hx, hxb.1, hxb.2, hl2⟩)
      have HN := Lib.hid (show addTo (rcovTo p W t.need.length i) i (nth p i) W = rcovTo p W t.need.length (i + 1) from rfl)
      have HR := Lib.hid (⟨hrow, hbx, hbr⟩ : Row wr w2.heap.size (rcovTo p W t.need.length i) ∧ Box wr w.heap.size 24 #[.int .i64 t.wide, .slice A t.need.length c] ∧ Below w.heap.size w wr)
      have hi400 : i ≤ 400 := by have := AR.out; omega
      clear hrow hbx hbr hx hxb hcc hbB hi
      subst hA
      generalize nth p i = x at *
      go_wp2_with fail
      go_loopw [9] (fun kv wr => ∃ q : Nat, i ≤ q ∧ q ≤ i + W ∧ kv = .int .i64 (q : Int) ∧ Row wr w2.heap.size (addTo (rcovTo p W t.need.length i) i x (q - i)) ∧ Box wr w.heap.size 24 #[.int .i64 t.wide, .slice A t.need.length c] ∧ Below w.heap.size w wr) (fun kv _ => i + W - (intOf kv).toNat)
      case atStart => exact ⟨i, Nat.le_refl _, by omega, rfl, by rw [Nat.sub_self]; exact HR.out.1, HR.out.2.1, HR.out.2.2⟩
      case round =>
        clear HR hd
        obtain ⟨q, hq1, hq2, rfl, hrow, hbx, hbr⟩ := hrel
        have e0 : wr.cell? ⟨w.heap.size, 0, none⟩ = some (.int .i64 t.wide) := hbx.cell 0
        have wv : IntKind.i64.wrap ((i : Int) + t.wide) = (i : Int) + t.wide := by have := AR.out; exact wrap_id (by omega) (by omega)
        by_cases hlq : q < i + W
        · have hdq : decide ((q : Int) < (i : Int) + t.wide) = true := by have := AR.out; simp; omega
          have HQ := Lib.hid (show q < i + W ∧ i ≤ q ∧ q < t.need.length by have := AR.out; have := HX.out; omega)
          have HR := Lib.hid (⟨hrow, hbx, hbr⟩ : Row wr w2.heap.size (addTo (rcovTo p W t.need.length i) i x (q - i)) ∧ Box wr w.heap.size 24 #[.int .i64 t.wide, .slice A t.need.length c] ∧ Below w.heap.size w wr)
          clear hrow hbx hbr hq1 hq2 hlq
          go_wp2_with fail
          clear e0 hdq wv
          obtain ⟨hrow, hbx, hbr⟩ := HR.out
          obtain ⟨hip, hbB, hx, hx0, hx1, hl2⟩ := HX.out
          obtain ⟨hq1, hq2, hq3⟩ := HQ.out
          obtain ⟨hW, hpm, hW1, hmW, hm1, hn, hp4⟩ := AR.out
          obtain ⟨W1, hW1e⟩ : ∃ W1, wr.drew = W1 := ⟨_, rfl⟩
          have hb1 : Below wr.heap.size wr W1 := by rw [← hW1e]; exact (Below.refl _ _).drew
          have r1 := hrow.later hb1
          have hby := rcov_bd (W := W) (k := q) Hcn.out hp4 (show i ≤ p.length by omega) hq3
          have f1 : W1.cell? ⟨w2.heap.size, q, none⟩ = some (.int .i64 (nth (rcovTo p W t.need.length i) q)) := by rw [r1.cell (by rw [addTo_len, rcovTo_len]; exact hq3), addTo_at _ _ _ _ (by rw [rcovTo_len]; exact hq3)]
          have f2 : W1.cell? ⟨b, off + i, none⟩ = some (.int .i64 x) := keepd hx (hbr.trans (hb1.mono hbr.size)) hbB
          have f3 := r1.free q
          have wv : IntKind.i64.wrap (nth (rcovTo p W t.need.length i) q + x) = nth (rcovTo p W t.need.length i) q + x := wrap_id (by omega) (by omega)
          have HF := Lib.hid (show Below w.heap.size w (W1.setCell ⟨w2.heap.size, q, none⟩ (.int .i64 (nth (rcovTo p W t.need.length i) q + x))) from (hbr.trans (hb1.mono hbr.size)).setCell (by show w.heap.size ≤ w2.heap.size; omega) _)
          have HF2 := Lib.hid (show Row (W1.setCell ⟨w2.heap.size, q, none⟩ (.int .i64 (nth (rcovTo p W t.need.length i) q + x))) w2.heap.size (addTo (rcovTo p W t.need.length i) i x (q + 1 - i)) by
            have := r1.put q (nth (rcovTo p W t.need.length i) q + x)
            rw [show q + 1 - i = (q - i) + 1 by omega, addTo, show i + (q - i) = q by omega, addTo_at _ _ _ _ (by rw [rcovTo_len]; exact hq3)]; exact this)
          have HF3 := Lib.hid (show Box (W1.setCell ⟨w2.heap.size, q, none⟩ (.int .i64 (nth (rcovTo p W t.need.length i) q + x))) w.heap.size 24 #[.int .i64 t.wide, .slice A t.need.length c] from Box.far (hbx.later hb1) (by simp; omega) _)
          have i0 : (0 : Int) ≤ (q : Int) := by omega
          have i1 : (q : Int) < (t.need.length : Int) := by omega
          have i2 : (0 : Int) ≤ (i : Int) := by omega
          have i3 : (i : Int) < (p.length : Int) := by omega
          have i4 : q ≤ 1000 := by omega
          clear hrow hbx hbr hip hbB hx hx0 hx1 hl2 hq1 hq2 hq3 hW hpm hW1 hmW hm1 hn hp4 hb1 r1 hby
          generalize nth (rcovTo p W t.need.length i) q = y at *
          refine still_tail 10 W1 hW1e (by kernel_rfl) (by kernel_rfl) ?_
          clear hW1e
          simp only [List.take_succ_cons, List.take_zero, List.drop_succ_cons, List.drop_zero]
          repeat still_step
          refine wpStill_nil ?_
          go_wp2_with fail
          go_roundw
          case rel => exact ⟨q + 1, by have := HQ.out; omega, by have := HQ.out; omega, by go_num, HF2.out, HF3.out, HF.out⟩
          case measure => have := HQ.out; simp [intOf]; omega
        · have hdq : decide ((q : Int) < (i : Int) + t.wide) = false := by have := AR.out; simp; omega
          have HQ := Lib.hid (show q = i + W by omega)
          have HR := Lib.hid (show Row wr w2.heap.size (rcovTo p W t.need.length (i + 1)) ∧ Box wr w.heap.size 24 #[.int .i64 t.wide, .slice A t.need.length c] ∧ Below w.heap.size w wr by
            refine ⟨?_, hbx, hbr⟩
            rw [show q - i = W by omega, HN.out] at hrow
            exact hrow)
          clear hrow hbx hbr hq1 hq2 hlq
          go_wp2_with fail
          go_roundw
          case rel => exact ⟨i + 1, by have := HX.out; omega, by go_num, HR.out.1, HR.out.2.1, HR.out.2.2⟩
          case measure => have := HX.out; simp [intOf]; omega
    · obtain rfl : i = p.length := by omega
      have hd : decide ((p.length : Int) < (p.length : Int)) = false := by simp
      go_wp2_with fail
      go_ret2
      refine ⟨_, rfl, ?_, hbr⟩
      have h9 := hrow.ints_ (c := t.need.length) (Nat.le_refl _) (by rw [rcovTo_len]; have := AR.out; omega) (by rw [rcovTo_len]; omega)
      rw [rcovTo_len, rcov_cov p W t.need.length (by have := AR.out; omega) (by have := AR.out; omega)] at h9
      exact h9

set_option maxRecDepth 100000 in
set_option maxHeartbeats 8000000 in
theorem rCovers_c (t : Tk) (p : List Int) (v u : Value) (w : World) (h : IsTask w w.heap.size v t) (hp : Ints w w.heap.size u p) :
    Calls Try.prog 22 #[v, u] w (RetL w (covR t p) (covE t p)) := by
  have hT := h
  have hP := hp
  obtain ⟨s, rfl, A, c, rfl, hcap, hcell⟩ := h
  obtain ⟨_, A', c', rfl, hcap', hcell'⟩ := hp
  have HT := Lib.hid hT
  have HP := Lib.hid hP
  cases htb : taskB t
  · obtain ⟨x1, x2, x3⟩ := covE_task (p := p) htb
    rw [x1, x2]
    have X3 := Lib.hid x3
    clear hcell hcell' htb x1 x2 x3 hT hP
    go_enter Try.func22, Try.ntmps22
    go_wp2_with fail
    refine (rCheck_c t _ _ (HT.out.box _)).mono ?_; rintro e w1 ⟨rfl, hb1⟩
    rw [X3.out]
    go_wp2_with fail
    go_ret2
    exact ⟨_, rfl, ints_nil _ _, boxed hb1⟩
  have HS := Lib.hid (taskB_sz htb)
  have HB := Lib.hid (Box.made w 24 #[.int .i64 t.wide, .slice A t.need.length c])
  cases hpl : okPlan t p
  · obtain ⟨x1, x2, x3⟩ := covE_plan htb hpl
    rw [x1, x2]
    have X3 := Lib.hid x3
    have Hpl := Lib.hid (show (decide ((p.length : Int) = firsts t) && cntB p 100000) = false from hpl)
    clear hcell hcell' htb x1 x2 x3 hpl hT hP
    go_enter Try.func22, Try.ntmps22
    go_wp2_with fail
    refine (rCheck_c t _ _ (HT.out.box _)).mono ?_; rintro e w1 ⟨rfl, hb1⟩
    have c0 : w1.cell? ⟨w.heap.size, 0, none⟩ = some (.int .i64 t.wide) := (HB.out.later hb1).cell 0
    have c1 : w1.cell? ⟨w.heap.size, 1, none⟩ = some (.slice A t.need.length c) := (HB.out.later hb1).cell 1
    rw [X3.out]
    go_wp2_with fail
    refine (rFirsts_c t _ _ ((HT.out.box _).later hb1) HS.out).mono ?_; rintro e w2 ⟨rfl, hb2⟩
    have B2 : Below w.heap.size w w2 := (boxed hb1).trans (hb2.mono (boxed hb1).size)
    go_wp2_with fail
    refine (counts_c p (firsts t) _ _ (HP.out.mono B2 B2.size)).mono ?_; rintro e w3 ⟨rfl, rfl⟩
    rw [Hpl.out]
    go_wp2_with fail
    go_ret2
    exact ⟨_, rfl, ints_nil _ _, B2⟩
  exact rCovers_ok t p _ _ w hT hP htb hpl

end Go.Proofs.Ytfhbpeafapabhaa

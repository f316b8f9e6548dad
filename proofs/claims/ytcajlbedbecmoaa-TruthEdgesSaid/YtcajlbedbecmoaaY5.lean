/- Layer 6: the law on straight edges, walked. -/
import Derived.Test.YtcajlbedbecmoaaY4
namespace Go.Proofs.Ytcajlbedbecmoaa
open Go.RowKit

theorem hAt_bd {hs cs : List Int} (hh : allB hs (-1000000000) 1000000000 = true) (hc : diffB cs hs.length = true) {k : Nat} (hk : k < cs.length) : -1000000000 ≤ hAt hs cs k ∧ hAt hs cs k ≤ 1000000000 := by
  have := diffB_at hc hk
  exact allB_nth hh (by omega)
theorem mxTo_ge (hs cs : List Int) : ∀ (n k : Nat), k < n → hAt hs cs k ≤ mxTo hs cs n := by
  intro n
  induction n with
  | zero => intro k hk; omega
  | succ n ih =>
    intro k hk
    unfold mxTo
    by_cases h : k = n
    · subst h; omega
    · have := ih k (by omega); omega
theorem mxTo_le (hs cs : List Int) (x : Int) : ∀ (n : Nat), (∀ k, k < n → hAt hs cs k ≤ x) → hAt hs cs 0 ≤ x → mxTo hs cs n ≤ x := by
  intro n
  induction n with
  | zero => intro _ h; exact h
  | succ n ih =>
    intro h h0
    unfold mxTo
    have := ih (fun k hk => h k (by omega)) h0
    have := h n (by omega)
    omega
/-- no cell so far is higher -/
def mostTo (hs cs : List Int) (i k : Nat) : Bool := (List.range k).all fun j => decide (0 ≤ hAt hs cs i - hAt hs cs j)
theorem mostTo_succ (hs cs : List Int) (i k : Nat) : mostTo hs cs i (k + 1) = (mostTo hs cs i k && decide (0 ≤ hAt hs cs i - hAt hs cs k)) := by
  unfold mostTo
  rw [List.range_succ, List.all_append]
  simp
theorem most_red {hs cs : List Int} {tol : Int} (ht : 0 ≤ tol) {i : Nat} (h0 : 0 < cs.length) (h : mostTo hs cs i cs.length = true) : redAt hs cs tol i = true := by
  unfold mostTo at h
  rw [List.all_eq_true] at h
  have ha : ∀ k, k < cs.length → hAt hs cs k ≤ hAt hs cs i := fun k hk => by
    have := h k (by simpa using hk)
    have := of_decide_eq_true this
    omega
  have := mxTo_le hs cs (hAt hs cs i) cs.length ha (ha 0 h0)
  unfold redAt mxA
  exact decide_eq_true (by omega)
theorem red_more {hs cs : List Int} {tol : Int} {i : Nat} (h : redAt hs cs tol i = true) : redAt hs cs (tol + 1) i = true := by
  unfold redAt at *
  have := of_decide_eq_true h
  exact decide_eq_true (by omega)
theorem red_gap {hs cs : List Int} {tol : Int} {i k : Nat} (h : redAt hs cs tol i = true) (h' : redAt hs cs tol k = false) : decide (hAt hs cs i - hAt hs cs k < 1) = false := by
  unfold redAt at *
  have := of_decide_eq_true h
  have := of_decide_eq_false h'
  exact decide_eq_false (by omega)
theorem red_near {hs cs : List Int} {tol : Int} {i k : Nat} (hi : i < cs.length) (h : redAt hs cs tol k = true) : decide (tol < hAt hs cs i - hAt hs cs k) = false := by
  unfold redAt mxA at *
  have := of_decide_eq_true h
  have := mxTo_ge hs cs cs.length i hi
  exact decide_eq_false (by omega)

theorem Red_b (hs cs : List Int) (tol z : Int) (l : List Bool) (hz : redE hs cs tol = z) (hl : redL hs cs tol = l) (v u : Value) (w : World) (h : Ints w w.heap.size v hs) (h' : Ints w w.heap.size u cs) (hn : hs.length ≤ 1000) (hn' : cs.length ≤ 1000) :
    Calls Try.prog 46 #[v, u, .int .i64 tol] w fun e w' => ∃ r, e = .returned (.tuple #[r, .int .i64 z]) ∧ Bs w' w'.heap.size r l ∧ Below w.heap.size w w' := by
  subst hz hl
  exact Red_c hs cs tol v u w h h' hn hn'

set_option maxRecDepth 100000 in
set_option maxHeartbeats 8000000 in
theorem TruthEdges_c (hs cs : List Int) (tol : Int) (v u : Value) (w : World) (h : Ints w w.heap.size v hs) (h' : Ints w w.heap.size u cs) :
    Calls Try.prog 13 #[v, u, .int .i64 tol] w fun e w' => e = .returned (.bool true) ∧ Below w.heap.size w w' := by
  have hv := Lib.hid h
  have hu := Lib.hid h'
  obtain ⟨_, A, c, rfl, hcap, hcell⟩ := h
  obtain ⟨_, A', c', rfl, hcap', hcell'⟩ := h'
  have HC := Lib.hid hcell
  have HC' := Lib.hid hcell'
  clear hcell hcell'
  by_cases g1 : (1000 : Int) < (hs.length : Int)
  · have e1 : decide ((1000 : Int) < (hs.length : Int)) = true := by simpa using g1
    have e1' : decide (1000 < hs.length) = true := by simp; omega
    clear g1
    go_enter Try.func13, Try.ntmps13
    go_wp2_with fail
    refine (awake_c w).mono ?_; rintro e w1 ⟨rfl, hb1⟩
    go_wp2_with fail
    go_ret
    exact ⟨rfl, hb1⟩
  have e1 : decide ((1000 : Int) < (hs.length : Int)) = false := by simpa using g1
  have e1' : decide (1000 < hs.length) = false := by simp; omega
  by_cases g2 : (200 : Int) < (cs.length : Int)
  · have e2 : decide ((200 : Int) < (cs.length : Int)) = true := by simpa using g2
    have e2' : decide (200 < cs.length) = true := by simp; omega
    clear g2 g1
    go_enter Try.func13, Try.ntmps13
    go_wp2_with fail
    refine (awake_c w).mono ?_; rintro e w1 ⟨rfl, hb1⟩
    go_wp2_with fail
    go_ret
    exact ⟨rfl, hb1⟩
  have e2 : decide ((200 : Int) < (cs.length : Int)) = false := by simpa using g2
  have e2' : decide (200 < cs.length) = false := by simp; omega
  have LN := Lib.hid (show hs.length ≤ 1000 ∧ cs.length ≤ 200 by omega)
  clear g1 g2
  cases hok : redOk hs cs tol
  · have HZ := Lib.hid (show redE hs cs tol = 1 by unfold redE; rw [hok]; rfl)
    have HL := Lib.hid (show redL hs cs tol = [] by unfold redL; rw [hok]; rfl)
    clear hok
    go_enter Try.func13, Try.ntmps13
    go_wp2_with fail
    refine (awake_c w).mono ?_; rintro e w1 ⟨rfl, hb1⟩
    go_wp2_with fail
    refine (Red_b hs cs tol 1 [] HZ.out HL.out _ _ w1 (hv.out.later hb1) (hu.out.later hb1) LN.out.1 (by have := LN.out; omega)).mono ?_; rintro e w2 ⟨r, rfl, hr, hb2⟩
    obtain ⟨Ar, cr, rfl, -, -⟩ := hr
    go_wp2_with fail
    go_ret
    exact ⟨rfl, chain hb1 hb2⟩
  have hok' := hok
  unfold redOk at hok'
  simp only [Bool.and_eq_true, decide_eq_true_eq] at hok'
  obtain ⟨⟨⟨k1, k2⟩, k3⟩, k4⟩ := hok'
  have KS := Lib.hid (And.intro k1 (And.intro k2 (And.intro k3 (inB_iff.1 k4))))
  obtain ⟨l, hl, hll, hla⟩ : ∃ l, redL hs cs tol = l ∧ l.length = cs.length ∧ ∀ i, i < cs.length → nthb l i = redAt hs cs tol i := by
    refine ⟨_, rfl, by unfold redL; rw [hok]; simp, fun i hi => ?_⟩
    unfold redL nthb
    rw [hok, if_pos rfl, List.getD_eq_getElem?_getD, List.getElem?_map, List.getElem?_range hi]; rfl
  obtain ⟨z2, l2, hz2, hl2, hor⟩ : ∃ z2 l2, redE hs cs (tol + 1) = z2 ∧ redL hs cs (tol + 1) = l2 ∧ ((z2 = 0 ∧ l2.length = cs.length ∧ ∀ i, i < cs.length → redAt hs cs tol i = true → nthb l2 i = true) ∨ (z2 = 1 ∧ tol = 1000000000)) := by
    refine ⟨_, _, rfl, rfl, ?_⟩
    cases h2 : redOk hs cs (tol + 1)
    · right
      refine ⟨by unfold redE; rw [h2]; rfl, ?_⟩
      unfold redOk at h2
      rw [k1, k2] at h2
      simp [k3, inB] at h2
      have := inB_iff.1 k4
      omega
    · left
      refine ⟨by unfold redE; rw [h2]; rfl, by unfold redL; rw [h2]; simp, fun i hi hr => ?_⟩
      unfold redL nthb
      rw [h2, if_pos rfl, List.getD_eq_getElem?_getD, List.getElem?_map, List.getElem?_range hi]
      exact red_more hr
  have HZ := Lib.hid (show redE hs cs tol = 0 by unfold redE; rw [hok]; rfl)
  have HL := Lib.hid hl
  have HLA := Lib.hid hla
  have HZ2 := Lib.hid (And.intro hz2 hl2)
  have HOR := Lib.hid hor
  have wt : IntKind.i64.wrap (tol + 1) = tol + 1 := by have := inB_iff.1 k4; exact wrap_id (by omega) (by omega)
  obtain ⟨b', off', rfl, hbB', hcc'⟩ := HC'.out k3
  have hh0 : 0 < hs.length := by have := diffB_at k2 k3; omega
  obtain ⟨b, off, rfl, hbB, hcc⟩ := HC.out hh0
  have CELL := Lib.hid (show ∀ (W : World) (k : Nat), Below w.heap.size w W → k < cs.length → ∃ j : Nat, W.cell? ⟨b', off' + k, none⟩ = some (.int .i64 (j : Int)) ∧ j < hs.length ∧ W.cell? ⟨b, off + j, none⟩ = some (.int .i64 (hAt hs cs k)) from fun W k hb hk => by
    have hd := diffB_at k2 hk
    refine ⟨(nth cs k).toNat, ?_, by omega, ?_⟩
    · rw [keepd (hcc' k hk) hb hbB', show (((nth cs k).toNat : Nat) : Int) = nth cs k by omega]
    · exact keepd (hcc _ (by omega)) hb hbB)
  have HNE := Lib.hid hll
  clear hok k1 k2 k3 k4 hl hll hla hz2 hl2 hor hcc hcc' hh0 HC HC'
  have hn0 : ((l.length : Int) != (cs.length : Int)) = false := by rw [HNE.out]; simp
  have hn0' : decide ((l.length : Int) = (cs.length : Int)) = true := by rw [HNE.out]; simp
  go_enter Try.func13, Try.ntmps13
  go_wp2_with fail
  refine (awake_c w).mono ?_; rintro e w1 ⟨rfl, hb1⟩
  go_wp2_with fail
  refine (Red_b hs cs tol 0 l HZ.out HL.out _ _ w1 (hv.out.later hb1) (hu.out.later hb1) LN.out.1 (by have := LN.out; omega)).mono ?_; rintro e w2 ⟨r, rfl, hr, hb2⟩
  obtain ⟨Ar, cr, rfl, hrc, hrcell⟩ := hr
  have HB2 := Lib.hid (chain hb1 hb2)
  have HRC := Lib.hid hrcell
  clear hb1 hb2 hrcell
  go_wp2_with fail
  refine (Red_b hs cs (tol + 1) z2 l2 HZ2.out.1 HZ2.out.2 _ _ w2 (hv.out.later HB2.out) (hu.out.later HB2.out) LN.out.1 (by have := LN.out; omega)).mono ?_; rintro e w3 ⟨r, rfl, hr, hb3⟩
  obtain ⟨As, cs2, rfl, hsc, hscell⟩ := hr
  have HB3 := Lib.hid (chain HB2.out hb3)
  have HSC := Lib.hid hscell
  obtain ⟨ba, offa, rfl, hba, hca⟩ := HRC.out (by have := HNE.out; have := KS.out; omega)
  have ACELL := Lib.hid (show ∀ (W : World) (k : Nat), Below w3.heap.size w3 W → k < cs.length → W.cell? ⟨ba, offa + k, none⟩ = some (.bool (redAt hs cs tol k)) from fun W k hb hk => by
    rw [← HLA.out k hk]
    exact keepd (keepd (hca k (by rw [HNE.out]; exact hk)) hb3 hba) hb (by have := hb3.size; omega))
  have HW := Lib.hid (show ∀ W, Below w3.heap.size w3 W → Below w.heap.size w W from fun W hb => HB3.out.trans (hb.mono HB3.out.size))
  clear hb3 hscell hca
  go_wp2_with fail
  go_loopw [12] (fun iv wr => ∃ i : Nat, i ≤ cs.length ∧ iv = .int .i64 (i : Int) ∧ Below w3.heap.size w3 wr) (fun iv _ => cs.length - (intOf iv).toNat)
  case atStart => exact ⟨0, Nat.zero_le _, rfl, Below.refl _ _⟩
  case round =>
    obtain ⟨i, hi, rfl, hbo⟩ := hrel
    have HBO := Lib.hid hbo
    have HI := Lib.hid hi
    clear hbo
    by_cases hil : i < cs.length
    · have hdi : decide ((i : Int) < (cs.length : Int)) = true := by simpa using hil
      have HIL := Lib.hid hil
      have K2 : i ≤ 200 := by have := LN.out; omega
      have i0 : (0 : Int) ≤ (i : Int) := by omega
      clear hi hil
      go_wp2_with fail
      clear hdi
      go_loopw [13, 14] (fun mv kv wr => ∃ k : Nat, k ≤ cs.length ∧ mv = .bool (mostTo hs cs i k) ∧ kv = .int .i64 (k : Int) ∧ Below w3.heap.size w3 wr) (fun _ kv _ => cs.length - (intOf kv).toNat)
      case atStart => exact ⟨0, Nat.zero_le _, rfl, rfl, HBO.out⟩
      case round =>
        obtain ⟨k, hk, rfl, rfl, hbr⟩ := hrel
        have HBR := Lib.hid hbr
        by_cases hkl : k < cs.length
        · have hd : decide ((k : Int) < (cs.length : Int)) = true := by simpa using hkl
          obtain ⟨ji, a0, a1, a2⟩ := CELL.out wr i (HW.out _ hbr) HIL.out
          obtain ⟨jk, b0, b1, b2⟩ := CELL.out wr k (HW.out _ hbr) hkl
          have p0 := ACELL.out wr i hbr HIL.out
          have p1 := ACELL.out wr k hbr hkl
          have i1 : (i : Int) < (cs.length : Int) := by have := HIL.out; omega
          have i2 : (i : Int) < (l.length : Int) := by have := HIL.out; have := HNE.out; omega
          have k0 : (0 : Int) ≤ (k : Int) := by omega
          have k1 : (k : Int) < (cs.length : Int) := by omega
          have k2 : (k : Int) < (l.length : Int) := by have := HNE.out; omega
          have ji0 : (0 : Int) ≤ (ji : Int) := by omega
          have ji1 : (ji : Int) < (hs.length : Int) := by omega
          have jk0 : (0 : Int) ≤ (jk : Int) := by omega
          have jk1 : (jk : Int) < (hs.length : Int) := by omega
          have K3 : k ≤ 200 := by have := LN.out; omega
          have bi := hAt_bd KS.out.1 KS.out.2.1 HIL.out
          have bk := hAt_bd KS.out.1 KS.out.2.1 hkl
          have wd : IntKind.i64.wrap (hAt hs cs i - hAt hs cs k) = hAt hs cs i - hAt hs cs k := wrap_id (by omega) (by omega)
          have G1 := Lib.hid (show redAt hs cs tol i = true → redAt hs cs tol k = false → decide (hAt hs cs i - hAt hs cs k < 1) = false from red_gap)
          have G2 := Lib.hid (show redAt hs cs tol k = true → decide (tol < hAt hs cs i - hAt hs cs k) = false from red_near HIL.out)
          have GM := Lib.hid (mostTo_succ hs cs i k)
          have HKL := Lib.hid hkl
          clear hbr hk hkl a1 b1 bi bk
          generalize hAt hs cs i = x at *
          generalize hAt hs cs k = y at *
          generalize redAt hs cs tol i = p at *
          generalize redAt hs cs tol k = q at *
          generalize mostTo hs cs i k = m at *
          have hbq : ∀ nq, Below w3.heap.size w3 (wr.drewN nq) := fun nq => ⟨HBR.out.os, HBR.out.tape, HBR.out.output, HBR.out.size, HBR.out.block⟩
          have HBQ := Lib.hid hbq
          clear hbq
          go_wp2_with fail
          go_quiet (fail)
          have p0' : (wr.drewN nq).cell? ⟨ba, offa + i, none⟩ = some (.bool p) := p0
          have p1' : (wr.drewN nq).cell? ⟨ba, offa + k, none⟩ = some (.bool q) := p1
          clear p0 p1 a0 a2 b0 b2 ji0 ji1 jk0 jk1
          have HG := Lib.hid (show (if p = true then (if q = true then decide (tol < x - y) = false else decide (x - y < 1) = false) else True) by
            cases p <;> cases q <;> simp only [Bool.false_eq_true, if_true, if_false] <;> first | trivial | exact G2.out rfl | exact G1.out rfl rfl)
          cases m <;> cases p <;> cases q
          all_goals
            have hg := HG.out
            simp only [Bool.false_eq_true, if_true, if_false] at hg
            go_wp2_with fail
            go_roundw
            case rel => exact ⟨k + 1, HKL.out, by rw [GM.out]; first | rfl | (rw [Bool.true_and]; congr 1; exact decide_eq_decide.2 (by omega)), by go_num, HBQ.out _⟩
            case measure => have := HKL.out; simp [intOf]; omega
        · obtain rfl : k = cs.length := by omega
          have hd : decide ((cs.length : Int) < (cs.length : Int)) = false := by simp
          have p0 := ACELL.out wr i hbr HIL.out
          have i1 : (i : Int) < (cs.length : Int) := by have := HIL.out; omega
          have i2 : (i : Int) < (l.length : Int) := by have := HIL.out; have := HNE.out; omega
          have HE := Lib.hid (show mostTo hs cs i cs.length = true → redAt hs cs tol i = true from most_red KS.out.2.2.2.1 KS.out.2.2.1)
          have HRM := Lib.hid (show ∀ (h : z2 = 0), redAt hs cs tol i = true → wr.cell? ⟨(match As with | some a => a.block | none => 0), (match As with | some a => a.off | none => 0) + i, none⟩ = some (.bool true) ∧ ∃ bs offs, As = some ⟨bs, offs, none⟩ from fun h hr => by
            rcases HOR.out with ⟨-, hl2, hred⟩ | ⟨h1, -⟩
            · obtain ⟨bs, offs, rfl, hbs, hcs⟩ := HSC.out (by have := HIL.out; omega)
              refine ⟨?_, bs, offs, rfl⟩
              have := keepd (hcs i (by have := HIL.out; omega)) hbr hbs
              rw [hred i HIL.out hr] at this
              exact this
            · omega)
          clear hbr hk
          generalize redAt hs cs tol i = p at *
          generalize mostTo hs cs i cs.length = m at *
          cases p
          · have hm : m = false := by
              cases m
              · rfl
              · have := HE.out rfl; cases this
            subst hm
            rcases HOR.out with ⟨rfl, hl2, -⟩ | ⟨rfl, -⟩
            · have n2 : ((l2.length : Int) != (l.length : Int)) = false := by rw [hl2, HNE.out]; simp
              clear hl2
              go_wp2_with fail
              go_roundw
              case rel => exact ⟨i + 1, HIL.out, by go_num, HBR.out⟩
              case measure => have := HIL.out; simp [intOf]; omega
            · go_wp2_with fail
              go_roundw
              case rel => exact ⟨i + 1, HIL.out, by go_num, HBR.out⟩
              case measure => have := HIL.out; simp [intOf]; omega
          · rcases HOR.out with ⟨rfl, hl2, -⟩ | ⟨rfl, -⟩
            · obtain ⟨c1, bs, offs, rfl⟩ := HRM.out rfl rfl
              have n2 : ((l2.length : Int) != (l.length : Int)) = false := by rw [hl2, HNE.out]; simp
              have i3 : (i : Int) < (l2.length : Int) := by rw [hl2]; exact i1
              clear hl2
              cases m
              all_goals
                go_wp2_with fail
                go_roundw
                case rel => exact ⟨i + 1, HIL.out, by go_num, HBR.out⟩
                case measure => have := HIL.out; simp [intOf]; omega
            · cases m
              all_goals
                go_wp2_with fail
                go_roundw
                case rel => exact ⟨i + 1, HIL.out, by go_num, HBR.out⟩
                case measure => have := HIL.out; simp [intOf]; omega
    · obtain rfl : i = cs.length := by omega
      have hd : decide ((cs.length : Int) < (cs.length : Int)) = false := by simp
      clear hi
      rcases HOR.out with ⟨rfl, -, -⟩ | ⟨rfl, rfl⟩
      · go_wp2_with fail
        go_ret
        exact ⟨rfl, HW.out _ HBO.out⟩
      · go_wp2_with fail
        go_ret
        exact ⟨rfl, HW.out _ HBO.out⟩

end Go.Proofs.Ytcajlbedbecmoaa

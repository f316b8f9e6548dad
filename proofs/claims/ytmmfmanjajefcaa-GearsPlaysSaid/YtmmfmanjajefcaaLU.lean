/- Layer 7: when all shafts have made whole turns, on both sides. -/
import Derived.Test.YtmmfmanjajefcaaLT
set_option linter.all false
namespace Go.Proofs.Ytmmfmanjajefcaa
open Go.RowKit

/-- the period of the first shafts; none, if it is too large -/
def peL (ms : List Mh) : Nat → Option Nat
  | 0 => some 1
  | k + 1 => match peL ms k with
    | none => none
    | some n => if 1099511627776 / ((shN ms k).2 / n.gcd (shN ms k).2) < n then none else some (n * ((shN ms k).2 / n.gcd (shN ms k).2))
def prE (ms : List Mh) : Int := if trB ms then (if shB ms (ms.length + 1) && (peL ms (ms.length + 1)).isSome then 0 else 2) else 70
def prV (ms : List Mh) : Nat := if prE ms = 0 then (peL ms (ms.length + 1)).getD 0 else 0
theorem peL_none {ms : List Mh} {k : Nat} : ∀ {j : Nat}, peL ms k = none → k ≤ j → peL ms j = none
  | 0, h, hk => by rw [Nat.le_zero.1 hk] at h; exact h
  | j + 1, h, hk => by
    by_cases e : k = j + 1
    · rw [← e]; exact h
    · unfold peL; rw [peL_none (j := j) h (by omega)]
theorem shN_pos (ms : List Mh) (hv : trB ms = true) {s : Nat} (h : (trnR ms s).e = 0) : 0 < (shN ms s).2 ∧ (shN ms s).2 ≤ 1000000000 := by
  rcases trn_two hv s with ⟨h1, -⟩ | ⟨-, -, h2, -⟩
  · exact absurd h h1
  · exact ⟨h2.2.1, h2.2.2.1⟩
/-- the same, as far as the first shafts have turns -/
theorem peL_bd {ms : List Mh} (hv : trB ms = true) : ∀ {k n : Nat}, shOk ms k → peL ms k = some n → 0 < n ∧ n ≤ 1099511627776 ∧ ∀ s, s < k → (shN ms s).2 ∣ n
  | 0, n, _, h => by
    unfold peL at h; cases h
    exact ⟨by omega, by omega, fun s hs => by omega⟩
  | k + 1, n, hok, h => by
    have hdk := (shN_pos ms hv (hok k (by omega))).1
    unfold peL at h
    cases hk : peL ms k with
    | none => rw [hk] at h; cases h
    | some m =>
      rw [hk] at h
      simp only at h
      obtain ⟨p1, p2, p3⟩ := peL_bd hv (fun s hs => hok s (by omega)) hk
      split at h
      · cases h
      · rename_i hlt
        injection h with h
        have hg : 0 < m.gcd (shN ms k).2 := Nat.gcd_pos_of_pos_right _ hdk
        have hb : 0 < (shN ms k).2 / m.gcd (shN ms k).2 := Nat.div_pos (Nat.le_of_dvd hdk (Nat.gcd_dvd_right _ _)) hg
        refine ⟨by rw [← h]; exact Nat.mul_pos p1 hb, ?_, fun s hs => ?_⟩
        · rw [← h]; exact (Nat.le_div_iff_mul_le hb).1 (by omega)
        · by_cases e : s = k
          · subst e
            rw [← h]
            obtain ⟨a, ha⟩ := Nat.gcd_dvd_left m (shN ms s).2
            obtain ⟨c, hc⟩ := Nat.gcd_dvd_right m (shN ms s).2
            refine ⟨a, ?_⟩
            generalize m.gcd (shN ms s).2 = g at *
            generalize (shN ms s).2 = d at *
            subst hc
            rw [Nat.mul_div_cancel_left c hg]
            subst ha
            grind
          · rw [← h]; exact Nat.dvd_trans (p3 s (by omega)) (Nat.dvd_mul_right _ _)
theorem peL_next {ms : List Mh} {k n d : Nat} (h : peL ms k = some n) (hd : (shN ms k).2 = d) : peL ms (k + 1) = if 1099511627776 / (d / n.gcd d) < n then none else some (n * (d / n.gcd d)) := by
  rw [peL, h, hd]
theorem pr_bad {ms : List Mh} (h : prE ms ≠ 0) : prV ms = 0 := by unfold prV; rw [if_neg h]

set_option maxRecDepth 100000 in
set_option maxHeartbeats 4000000 in
theorem Period_c (ms : List Mh) (v : Value) (w : World) (h : IsTr w w.heap.size v ms) : Calls Try.prog 40 #[v] w fun e w' => e = .returned (.tuple #[.int .i64 (prV ms : Nat), .int .i64 (prE ms)]) ∧ Below w.heap.size w w' := by
  have HT := Lib.hid h
  obtain ⟨s, rfl, A, c, rfl, hcap, hcell⟩ := h
  obtain ⟨l, hn⟩ : ∃ n, ms.length = n := ⟨_, rfl⟩
  have HN := Lib.hid hn
  rw [hn] at HT ⊢
  clear hn hcell hcap
  go_enter Try.func40, Try.ntmps40
  go_wp2_with fail
  obtain ⟨W1, hW2⟩ : ∃ Wzz, (w.alloc (.cells #[.slice A l c] 35)) = Wzz := ⟨_, rfl⟩
  have B3 := Lib.hid (show Below w.heap.size w W1 by rw [← hW2]; exact ((Below.refl w.heap.size w).alloc (Nat.le_refl _) _))
  have X4 := Lib.hid (show Box W1 (w.heap.size) 35 #[.slice A l c] by rw [← hW2]; exact Box.made w 35 #[.slice A l c])
  have C5 := Lib.hid (HT.out.later B3.out)
  have SZ6 := Lib.hid (show W1.heap.size = w.heap.size + 1 by rw [← hW2]; simp)
  rw [hW2]
  clear hW2
  have q7 : W1.cell? ⟨w.heap.size, 0, none⟩ = some (.slice A l c) := X4.out.cell 0
  go_wp2_with fail
  refine (ValidTrain_c ms _ _ C5.out).mono ?_; rintro e v15 ⟨rfl, hb16⟩
  have X17 := Lib.hid (X4.out.later hb16)
  have C18 := Lib.hid (C5.out.later hb16)
  have B19 := Lib.hid (B3.out.trans (hb16.mono B3.out.size))
  clear hb16
  clear q7
  have q20 : v15.cell? ⟨w.heap.size, 0, none⟩ = some (.slice A l c) := X17.out.cell 0
  cases hv : trB ms
  · have HE := Lib.hid (show prE ms = 70 by unfold prE; rw [hv]; rfl)
    have HZ := Lib.hid (pr_bad (ms := ms) (by rw [HE.out]; decide))
    clear hv
    go_wp2_with fail
    go_ret2
    exact ⟨by rw [HE.out, HZ.out]; rfl, B19.out⟩
  · have HV := Lib.hid hv
    have HFC := Lib.hid (tr_facts hv)
    have HL16 := Lib.hid (show l ≤ 16 by rw [← HN.out]; exact HFC.out.2.1)
    clear hv
    have HSH := Lib.hid (shafts_c ms _ _ C18.out HV.out)
    go_wp2_with fail
    refine (HSH.out).mono ?_; rintro e v21 ⟨hsh, hb22⟩
    have X23 := Lib.hid (X17.out.later hb22)
    have C24 := Lib.hid (C18.out.later hb22)
    have B25 := Lib.hid (B19.out.trans (hb22.mono B19.out.size))
    clear hb22
    rw [HN.out] at hsh
    clear q20
    have q26 : v21.cell? ⟨w.heap.size, 0, none⟩ = some (.slice A l c) := X23.out.cell 0
    rcases hsh with ⟨hok, sv, rfl, hfr⟩ | ⟨hno, rfl⟩
    · have HOK := Lib.hid hok
      obtain ⟨gs, off, sc, rfl, hsc, hgs, hcc⟩ := frs_at hfr (by rw [shL_len]; omega)
      rw [shL_len]
      have HF0 := Lib.hid hcc
      have e1 : ((0 : Int) != 0) = false := by decide
      have HGB := Lib.hid hgs
      have L16 : l ≤ 16 := HL16.out
      clear hok hfr hsc hgs hcc
      go_wp2_with fail
      obtain ⟨BB, hBB⟩ : ∃ BB, v21.heap.size = BB := ⟨_, rfl⟩
      rw [hBB] at HGB
      have HBB := Lib.hid hBB
      clear hBB
      go_loopw [6, 23] (fun nv kv wr => ∃ k n : Nat, k ≤ l + 1 ∧ nv = .int .i64 (n : Int) ∧ kv = .int .i64 (k : Int) ∧ peL ms k = some n ∧ (0 < n ∧ n ≤ 1099511627776) ∧ ((∀ i (hi : i < (shL ms (l + 1)).length), wr.cell? ⟨gs, off + i * 2, none⟩ = some (.int .i64 (((shL ms (l + 1))[i].1 : Nat) : Int)) ∧ wr.cell? ⟨gs, off + i * 2 + 1, none⟩ = some (.int .i64 (((shL ms (l + 1))[i].2 : Nat) : Int))) ∧ gs < wr.heap.size) ∧ Box wr w.heap.size 35 #[.slice A l c] ∧ Below w.heap.size w wr) (fun _ kv _ => l + 1 - (intOf kv).toNat)
      case atStart => exact ⟨0, 1, Nat.zero_le _, rfl, rfl, rfl, ⟨by omega, by omega⟩, ⟨HF0.out, by rw [HBB.out]; exact HGB.out⟩, X23.out, B25.out⟩
      case round =>
        obtain ⟨k, n, hk, rfl, rfl, hpe, hnb, hfr, hbt, hbel⟩ := hrel
        have HPE := Lib.hid hpe
        have HNB := Lib.hid hnb
        have Hf := Lib.hid hfr
        have Xt := Lib.hid hbt
        have Bl := Lib.hid hbel
        clear hpe hnb hfr hbt hbel
        have q8 : wr.cell? ⟨w.heap.size, 0, none⟩ = some (.slice A l c) := Xt.out.cell 0
        by_cases hlt : k < l + 1
        · have d1 : decide ((k : Int) < ((l + 1 : Nat) : Int)) = true := decide_eq_true (by omega)
          have d2 : decide (k < l + 1) = true := decide_eq_true (by omega)
          have d3 : decide ((k : Int) < (l : Int) + 1) = true := decide_eq_true (by omega)
          have L16 : l ≤ 16 := HL16.out
          have k0 : (0 : Int) ≤ (k : Int) := by omega
          have k1 : (k : Int) < ((l + 1 : Nat) : Int) := by omega
          have k1' : (k : Int) < (l : Int) + 1 := by omega
          obtain ⟨a, ha⟩ : ∃ n, (shN ms k).1 = n := ⟨_, rfl⟩
          obtain ⟨d, hd⟩ : ∃ n, (shN ms k).2 = n := ⟨_, rfl⟩
          have HD := Lib.hid (show 0 < d ∧ d ≤ 1000000000 by rw [← hd]; exact shN_pos ms HV.out (HOK.out k hlt))
          have f1 := Hf.out.1 k (by rw [shL_len]; exact hlt)
          rw [shL_at, ha, hd] at f1
          obtain ⟨f1, f2⟩ := f1
          have HDD := Lib.hid hd
          have HLT := Lib.hid hlt
          clear hlt ha hd
          have HGS := Lib.hid Hf.out.2
          have X9 := Lib.hid (Xt.out.alloc (.cells #[.int .i64 (a : Int), .int .i64 (d : Int)] 23))
          have B10 := Lib.hid (Bl.out.alloc Bl.out.size (.cells #[.int .i64 (a : Int), .int .i64 (d : Int)] 23))
          have X11 := Lib.hid (Box.made wr 23 #[.int .i64 (a : Int), .int .i64 (d : Int)])
          have q12 : (wr.alloc (.cells #[.int .i64 (a : Int), .int .i64 (d : Int)] 23)).cell? ⟨w.heap.size, 0, none⟩ = some (.slice A l c) := X9.out.cell 0
          have q13 : (wr.alloc (.cells #[.int .i64 (a : Int), .int .i64 (d : Int)] 23)).cell? ⟨wr.heap.size, 0, none⟩ = some (.int .i64 (a : Int)) := X11.out.cell 0
          have q14 : (wr.alloc (.cells #[.int .i64 (a : Int), .int .i64 (d : Int)] 23)).cell? ⟨wr.heap.size, 1, none⟩ = some (.int .i64 (d : Int)) := X11.out.cell 1
          obtain ⟨g, hg⟩ : ∃ g, n.gcd d = g := ⟨_, rfl⟩
          have g0 : 0 < g := by rw [← hg]; exact Nat.gcd_pos_of_pos_right _ HD.out.1
          have gd : g ∣ d := by rw [← hg]; exact Nat.gcd_dvd_right _ _
          obtain ⟨y, hy⟩ : ∃ y, d / g = y := ⟨_, rfl⟩
          have y0 : 0 < y := by rw [← hy]; exact Nat.div_pos (Nat.le_of_dvd HD.out.1 gd) g0
          have yb : y ≤ 1000000000 := by rw [← hy]; exact Nat.le_trans (Nat.div_le_self _ _) HD.out.2
          have HPN := Lib.hid (peL_next HPE.out HDD.out)
          rw [hg, hy] at HPN
          have G := Lib.hid (fun v => gcd_q n d v (by have := HNB.out; omega) (by have := HD.out; omega))
          rw [hg] at G
          have qd : (d : Int) / (g : Int) = (y : Int) := by rw [← hy]; simp
          have wy : IntKind.i64.wrap (y : Int) = (y : Int) := wrap_id (by omega) (by omega)
          have z0 : decide ((g : Int) = 0) = false := by simp; omega
          have z1 : decide (g = 0) = false := by simp; omega
          have g0' : (0 : Int) < (g : Int) := by omega
          have HY := Lib.hid (And.intro y0 yb)
          clear hg gd hy g0 yb
          go_wp2_with fail
          go_quiet ((go_at_call 64; exact Calls.quiet_of (G.out _)))
          obtain ⟨WQ, hWQ⟩ : ∃ Wzz, (wr.alloc (.cells #[.int .i64 (a : Int), .int .i64 (d : Int)] 23)).drewN nq = Wzz := ⟨_, rfl⟩
          have XT := Lib.hid (show Box WQ w.heap.size 35 #[.slice A l c] by rw [← hWQ]; exact X9.out)
          have BT := Lib.hid (show Below w.heap.size w WQ by rw [← hWQ]; exact B10.out.trans (below_drewN _ _))
          have FQ := Lib.hid (show ∀ i (hi : i < (shL ms (l + 1)).length), WQ.cell? ⟨gs, off + i * 2, none⟩ = some (.int .i64 (((shL ms (l + 1))[i].1 : Nat) : Int)) ∧ WQ.cell? ⟨gs, off + i * 2 + 1, none⟩ = some (.int .i64 (((shL ms (l + 1))[i].2 : Nat) : Int)) by
            rw [← hWQ]
            exact fun i hi => ⟨keepd (Hf.out.1 i hi).1 (((Below.refl _ _).alloc (Nat.le_refl _) _).trans (below_drewN _ _)) HGS.out, keepd (Hf.out.1 i hi).2 (((Below.refl _ _).alloc (Nat.le_refl _) _).trans (below_drewN _ _)) HGS.out⟩)
          have HWQ := Lib.hid (show wr.heap.size ≤ WQ.heap.size by rw [← hWQ]; exact Nat.le_trans (Nat.le_succ _) (Nat.le_of_eq (World.size_alloc _ _).symm))
          rw [hWQ]
          have zq : WQ.cell? ⟨w.heap.size, 0, none⟩ = some (.slice A l c) := XT.out.cell 0
          clear hWQ qd wy z0 z1 g0'
          obtain ⟨q, hq⟩ : ∃ q : Nat, 1099511627776 / y = q := ⟨_, rfl⟩
          have q1 : q ≤ 1099511627776 := by rw [← hq]; exact Nat.div_le_self _ _
          have qe : (1099511627776 : Int) / (y : Int) = (q : Int) := by rw [← hq]; simp
          have wq : IntKind.i64.wrap ((1099511627776 : Int) / (y : Int)) = (q : Int) := by rw [qe]; exact wrap_id (by omega) (by omega)
          have wq2 : IntKind.i64.wrap (q : Int) = (q : Int) := wrap_id (by omega) (by omega)
          have z0 : decide ((y : Int) = 0) = false := by simp; omega
          have z1 : decide (y = 0) = false := by simp; omega
          have y0' : (0 : Int) < (y : Int) := by omega
          rw [hq] at HPN
          by_cases hqn : q < n
          · have e1 : decide ((q : Int) < (n : Int)) = true := by simpa using hqn
            have e2 : decide (q < n) = true := by simpa using hqn
            have e3 : decide ((1099511627776 : Int) / (y : Int) < (n : Int)) = true := by rw [qe]; exact e1
            have hpn : peL ms (k + 1) = none := by rw [HPN.out, if_pos hqn]
            have HE := Lib.hid (show prE ms = 2 by unfold prE; rw [HV.out, if_pos rfl, if_neg (by rw [HN.out, peL_none hpn (by have := HLT.out; omega)]; simp)])
            have HZ := Lib.hid (pr_bad (ms := ms) (by rw [HE.out]; decide))
            clear hqn hpn hq qe
            go_wp2_with fail
            go_ret2
            exact ⟨by rw [HE.out, HZ.out]; rfl, BT.out⟩
          · have e1 : decide ((q : Int) < (n : Int)) = false := by simpa using hqn
            have e2 : decide (q < n) = false := by simpa using hqn
            have e3 : decide ((1099511627776 : Int) / (y : Int) < (n : Int)) = false := by rw [qe]; exact e1
            have hm : n * y ≤ 1099511627776 := (Nat.le_div_iff_mul_le y0).1 (by rw [hq]; omega)
            have HP2 := Lib.hid (show peL ms (k + 1) = some (n * y) by rw [HPN.out, if_neg hqn])
            have m0 : 0 < n * y := Nat.mul_pos HNB.out.1 y0
            obtain ⟨m, hmm⟩ : ∃ m, n * y = m := ⟨_, rfl⟩
            rw [hmm] at hm HP2 m0
            have wm : IntKind.i64.wrap ((n : Int) * (y : Int)) = (m : Int) := by rw [show (n : Int) * (y : Int) = ((n * y : Nat) : Int) by simp, hmm]; exact wrap_id (by omega) (by omega)
            have HMB := Lib.hid (And.intro m0 hm)
            clear hqn hm hmm m0 hq qe
            go_wp2_with fail
            go_roundw
            case rel => exact ⟨k + 1, m, by have := HLT.out; omega, by go_num, by go_num, HP2.out, HMB.out, ⟨FQ.out, by have := HGS.out; have := HWQ.out; omega⟩, XT.out, BT.out⟩
            case measure => have := HLT.out; simp [intOf]; omega
        · obtain rfl : k = l + 1 := by omega
          have d1 : decide (((l + 1 : Nat) : Int) < ((l + 1 : Nat) : Int)) = false := by simp
          have d2 : decide (l + 1 < l + 1) = false := by simp
          have d3 : decide ((l : Int) + 1 < (l : Int) + 1) = false := by simp
          have HE := Lib.hid (show prE ms = 0 by unfold prE; rw [HV.out, if_pos rfl, if_pos (by rw [HN.out, HPE.out, shB_iff.2 HOK.out]; rfl)])
          have HZ := Lib.hid (show prV ms = n by unfold prV; rw [HE.out, if_pos rfl, HN.out, HPE.out]; rfl)
          go_wp2_with fail
          go_ret2
          exact ⟨by rw [HE.out, HZ.out]; rfl, Bl.out⟩
      
    · have e1 : ((2 : Int) != 0) = true := by decide
      have HE := Lib.hid (show prE ms = 2 by unfold prE; rw [HV.out, if_pos rfl, if_neg (by rw [HN.out, show shB ms (l + 1) = false by cases hs : shB ms (l + 1); rfl; exact absurd (shB_iff.1 hs) hno]; simp)])
      have HZ := Lib.hid (pr_bad (ms := ms) (by rw [HE.out]; decide))
      clear hno
      go_wp2_with fail
      go_ret2
      exact ⟨by rw [HE.out, HZ.out]; rfl, B25.out⟩

end Go.Proofs.Ytmmfmanjajefcaa

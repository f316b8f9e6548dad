/- Layer 7: when all shafts have made whole turns, as the specification has it. -/
import Derived.Test.YtmmfmanjajefcaaLU
set_option linter.all false
namespace Go.Proofs.Ytmmfmanjajefcaa
open Go.RowKit

set_option maxRecDepth 100000 in
set_option maxHeartbeats 4000000 in
theorem rPeriod_c (ms : List Mh) (v : Value) (w : World) (h : IsTr w w.heap.size v ms) (hl : ms.length ≤ 100) : Calls Try.prog 41 #[v] w fun e w' => e = .returned (.tuple #[.int .i64 (prV ms : Nat), .int .i64 (prE ms)]) ∧ Below w.heap.size w w' := by
  have HL := Lib.hid hl
  clear hl
  have HT := Lib.hid h
  obtain ⟨s, rfl, A, c, rfl, hcap, hcell⟩ := h
  obtain ⟨l, hn⟩ : ∃ n, ms.length = n := ⟨_, rfl⟩
  have HN := Lib.hid hn
  rw [hn] at HT ⊢
  clear hn hcell hcap
  go_enter Try.func41, Try.ntmps41
  go_wp2_with fail
  obtain ⟨W27, hW28⟩ : ∃ Wzz, (w.alloc (.cells #[.slice A l c] 35)) = Wzz := ⟨_, rfl⟩
  have B29 := Lib.hid (show Below w.heap.size w W27 by rw [← hW28]; exact ((Below.refl w.heap.size w).alloc (Nat.le_refl _) _))
  have X30 := Lib.hid (show Box W27 (w.heap.size) 35 #[.slice A l c] by rw [← hW28]; exact Box.made w 35 #[.slice A l c])
  have C31 := Lib.hid (HT.out.later B29.out)
  have SZ32 := Lib.hid (show W27.heap.size = w.heap.size + 1 by rw [← hW28]; simp)
  rw [hW28]
  clear hW28
  have q33 : W27.cell? ⟨w.heap.size, 0, none⟩ = some (.slice A l c) := X30.out.cell 0
  go_wp2_with fail
  refine (rValidTrain_c ms _ _ C31.out HL.out).mono ?_; rintro e v55 ⟨rfl, hb56⟩
  have X57 := Lib.hid (X30.out.later hb56)
  have C58 := Lib.hid (C31.out.later hb56)
  have B59 := Lib.hid (B29.out.trans (hb56.mono B29.out.size))
  clear hb56
  clear q33
  have q60 : v55.cell? ⟨w.heap.size, 0, none⟩ = some (.slice A l c) := X57.out.cell 0
  cases hv : trB ms
  · have HE := Lib.hid (show prE ms = 70 by unfold prE; rw [hv]; rfl)
    have HZ := Lib.hid (pr_bad (ms := ms) (by rw [HE.out]; decide))
    clear hv
    go_wp2_with fail
    go_ret2
    exact ⟨by rw [HE.out, HZ.out]; rfl, B59.out⟩
  · have HV := Lib.hid hv
    have HFC := Lib.hid (tr_facts hv)
    have HL16 := Lib.hid (show l ≤ 16 by rw [← HN.out]; exact HFC.out.2.1)
    clear hv
    have L16 : l ≤ 16 := HL16.out
    go_wp2_with fail
    go_loopw [4, 5] (fun nv kv wr => ∃ k n : Nat, k ≤ l + 1 ∧ nv = .int .i64 (n : Int) ∧ kv = .int .i64 (k : Int) ∧ shOk ms k ∧ peL ms k = some n ∧ (0 < n ∧ n ≤ 1099511627776) ∧ IsTr wr wr.heap.size (.agg #[.slice A l c]) ms ∧ Box wr w.heap.size 35 #[.slice A l c] ∧ Below w.heap.size w wr) (fun _ kv _ => l + 1 - (intOf kv).toNat)
    case atStart => exact ⟨0, 1, Nat.zero_le _, rfl, rfl, fun s h => by omega, rfl, ⟨by omega, by omega⟩, C58.out, X57.out, B59.out⟩
    case round =>
      obtain ⟨k, n, hk, rfl, rfl, hok, hpe, hnb, htr, hbt, hbel⟩ := hrel
      have HOK := Lib.hid hok
      have HPE := Lib.hid hpe
      have HNB := Lib.hid hnb
      have Ht := Lib.hid htr
      have Xt := Lib.hid hbt
      have Bl := Lib.hid hbel
      clear hok hpe hnb htr hbt hbel
      have q34 : wr.cell? ⟨w.heap.size, 0, none⟩ = some (.slice A l c) := Xt.out.cell 0
      by_cases hlt : k < l + 1
      · have d1 : decide ((k : Int) ≤ (l : Int)) = true := decide_eq_true (by omega)
        have d2 : decide (k ≤ l) = true := decide_eq_true (by omega)
        have L16 : l ≤ 16 := HL16.out
        have HLT := Lib.hid hlt
        clear hlt
        go_wp2_with fail
        refine (rturns_c ms k _ _ Ht.out HV.out (by have := HLT.out; rw [HN.out]; omega)).mono ?_; rintro e v35 ⟨rfl, hb36⟩
        have X37 := Lib.hid (Xt.out.later hb36)
        have C38 := Lib.hid (Ht.out.later hb36)
        have B39 := Lib.hid (Bl.out.trans (hb36.mono Bl.out.size))
        clear hb36
        clear q34
        have q40 : v35.cell? ⟨w.heap.size, 0, none⟩ = some (.slice A l c) := X37.out.cell 0
        rcases trn_two HV.out k with ⟨he, hr⟩ | ⟨he, hr, hrv, hp, -⟩
        · have HE := Lib.hid (show prE ms = 2 by unfold prE; rw [HV.out, if_pos rfl, if_neg (by rw [HN.out, show shB ms (l + 1) = false by cases hs : shB ms (l + 1); rfl; exact absurd (shB_iff.1 hs k HLT.out) he]; simp)])
          have HZ := Lib.hid (pr_bad (ms := ms) (by rw [HE.out]; decide))
          rw [hr]
          have e1 : ((2 : Int) != 0) = true := by decide
          clear he hr
          have X41 := Lib.hid (X37.out.alloc (.cells #[.int .i64 0, .int .i64 0] 23))
          have C42 := Lib.hid (C38.out.later ((Below.refl v35.heap.size v35).alloc (Nat.le_refl _) (.cells #[.int .i64 0, .int .i64 0] 23)))
          have B43 := Lib.hid (B39.out.alloc B39.out.size (.cells #[.int .i64 0, .int .i64 0] 23))
          have X44 := Lib.hid (Box.made v35 23 #[.int .i64 0, .int .i64 0])
          have q45 : (v35.alloc (.cells #[.int .i64 0, .int .i64 0] 23)).cell? ⟨w.heap.size, 0, none⟩ = some (.slice A l c) := X41.out.cell 0
          have q46 : (v35.alloc (.cells #[.int .i64 0, .int .i64 0] 23)).cell? ⟨v35.heap.size, 0, none⟩ = some (.int .i64 0) := X44.out.cell 0
          have q47 : (v35.alloc (.cells #[.int .i64 0, .int .i64 0] 23)).cell? ⟨v35.heap.size, 1, none⟩ = some (.int .i64 0) := X44.out.cell 1
          go_wp2_with fail
          go_ret2
          exact ⟨by rw [HE.out, HZ.out]; rfl, B43.out⟩
        · rw [hr]
          have e1 : ((0 : Int) != 0) = false := by decide
          have HOK2 := Lib.hid (show shOk ms (k + 1) from fun s hs => by
            by_cases hsk : s = k
            · rw [hsk]; exact he
            · exact HOK.out s (by omega))
          obtain ⟨a, ha⟩ : ∃ n, (shN ms k).1 = n := ⟨_, rfl⟩
          obtain ⟨d, hd⟩ : ∃ n, (shN ms k).2 = n := ⟨_, rfl⟩
          have HD := Lib.hid (show 0 < d ∧ d ≤ 1000000000 by rw [← hd]; exact shN_pos ms HV.out he)
          rw [ha, hd]
          have HDD := Lib.hid hd
          clear he hr hrv hp ha hd
          have X48 := Lib.hid (X37.out.alloc (.cells #[.int .i64 (a : Int), .int .i64 (d : Int)] 23))
          have C49 := Lib.hid (C38.out.later ((Below.refl v35.heap.size v35).alloc (Nat.le_refl _) (.cells #[.int .i64 (a : Int), .int .i64 (d : Int)] 23)))
          have B50 := Lib.hid (B39.out.alloc B39.out.size (.cells #[.int .i64 (a : Int), .int .i64 (d : Int)] 23))
          have X51 := Lib.hid (Box.made v35 23 #[.int .i64 (a : Int), .int .i64 (d : Int)])
          have q52 : (v35.alloc (.cells #[.int .i64 (a : Int), .int .i64 (d : Int)] 23)).cell? ⟨w.heap.size, 0, none⟩ = some (.slice A l c) := X48.out.cell 0
          have q53 : (v35.alloc (.cells #[.int .i64 (a : Int), .int .i64 (d : Int)] 23)).cell? ⟨v35.heap.size, 0, none⟩ = some (.int .i64 (a : Int)) := X51.out.cell 0
          have q54 : (v35.alloc (.cells #[.int .i64 (a : Int), .int .i64 (d : Int)] 23)).cell? ⟨v35.heap.size, 1, none⟩ = some (.int .i64 (d : Int)) := X51.out.cell 1
          obtain ⟨g, hg⟩ : ∃ g, n.gcd d = g := ⟨_, rfl⟩
          have g0 : 0 < g := by rw [← hg]; exact Nat.gcd_pos_of_pos_right _ HD.out.1
          have gd : g ∣ d := by rw [← hg]; exact Nat.gcd_dvd_right _ _
          obtain ⟨y, hy⟩ : ∃ y, d / g = y := ⟨_, rfl⟩
          have y0 : 0 < y := by rw [← hy]; exact Nat.div_pos (Nat.le_of_dvd HD.out.1 gd) g0
          have yb : y ≤ 1000000000 := by rw [← hy]; exact Nat.le_trans (Nat.div_le_self _ _) HD.out.2
          have HPN := Lib.hid (peL_next HPE.out HDD.out)
          rw [hg, hy] at HPN
          have G := Lib.hid (fun v => rgcd_q n d v (by have := HNB.out; omega) (by have := HD.out; omega))
          rw [hg] at G
          have qd : (d : Int) / (g : Int) = (y : Int) := by rw [← hy]; simp
          have wy : IntKind.i64.wrap (y : Int) = (y : Int) := wrap_id (by omega) (by omega)
          have z0 : decide ((g : Int) = 0) = false := by simp; omega
          have z1 : decide (g = 0) = false := by simp; omega
          have g0' : (0 : Int) < (g : Int) := by omega
          have HY := Lib.hid (And.intro y0 yb)
          clear hg gd hy g0 yb
          go_wp2_with fail
          go_quiet ((go_at_call 60; exact Calls.quiet_of_same (G.out _)))
          obtain ⟨WQ, hWQ⟩ : ∃ Wzz, (v35.alloc (.cells #[.int .i64 (a : Int), .int .i64 (d : Int)] 23)).drewN nq = Wzz := ⟨_, rfl⟩
          have XT := Lib.hid (show Box WQ w.heap.size 35 #[.slice A l c] by rw [← hWQ]; exact X48.out)
          have BT := Lib.hid (show Below w.heap.size w WQ by rw [← hWQ]; exact B50.out.trans (below_drewN _ _))
          have TQ := Lib.hid (show IsTr WQ WQ.heap.size (.agg #[.slice A l c]) ms by rw [← hWQ]; exact C49.out.later (below_drewN _ _))
          rw [hWQ]
          have zq : WQ.cell? ⟨w.heap.size, 0, none⟩ = some (.slice A l c) := XT.out.cell 0
          clear hWQ qd wy z0 z1 g0'
          obtain ⟨q, hq⟩ : ∃ q : Nat, 1099511627776 / y = q := ⟨_, rfl⟩
          have q1 : q ≤ 1099511627776 := by rw [← hq]; exact Nat.div_le_self _ _
          have qe : (1099511627776 : Int) / (y : Int) = (q : Int) := by rw [← hq]; simp
          have wq : IntKind.i64.wrap ((1099511627776 : Int) / (y : Int)) = (q : Int) := by rw [qe]; exact wrap_id (by omega) (by omega)
          have wq2 : IntKind.i64.wrap (q : Int) = (q : Int) := wrap_id (by omega) (by omega)
          have z0 : decide ((y : Int) = 0) = false := by simp; omega
          have z1 : decide (y = 0) = false := by simp; omega
          have y0' : (0 : Int) < (y : Int) := by omega
          rw [hq] at HPN
          by_cases hqn : q < n
          · have e1 : decide ((q : Int) < (n : Int)) = true := by simpa using hqn
            have e2 : decide (q < n) = true := by simpa using hqn
            have e3 : decide ((1099511627776 : Int) / (y : Int) < (n : Int)) = true := by rw [qe]; exact e1
            have hpn : peL ms (k + 1) = none := by rw [HPN.out, if_pos hqn]
            have HE := Lib.hid (show prE ms = 2 by unfold prE; rw [HV.out, if_pos rfl, if_neg (by rw [HN.out, peL_none hpn (by have := HLT.out; omega)]; simp)])
            have HZ := Lib.hid (pr_bad (ms := ms) (by rw [HE.out]; decide))
            clear hqn hpn hq qe
            go_wp2_with fail
            go_ret2
            exact ⟨by rw [HE.out, HZ.out]; rfl, BT.out⟩
          · have e1 : decide ((q : Int) < (n : Int)) = false := by simpa using hqn
            have e2 : decide (q < n) = false := by simpa using hqn
            have e3 : decide ((1099511627776 : Int) / (y : Int) < (n : Int)) = false := by rw [qe]; exact e1
            have hm : n * y ≤ 1099511627776 := (Nat.le_div_iff_mul_le y0).1 (by rw [hq]; omega)
            have HP2 := Lib.hid (show peL ms (k + 1) = some (n * y) by rw [HPN.out, if_neg hqn])
            have m0 : 0 < n * y := Nat.mul_pos HNB.out.1 y0
            obtain ⟨m, hmm⟩ : ∃ m, n * y = m := ⟨_, rfl⟩
            rw [hmm] at hm HP2 m0
            have wm : IntKind.i64.wrap ((n : Int) * (y : Int)) = (m : Int) := by rw [show (n : Int) * (y : Int) = ((n * y : Nat) : Int) by simp, hmm]; exact wrap_id (by omega) (by omega)
            have HMB := Lib.hid (And.intro m0 hm)
            clear hqn hm hmm m0 hq qe
            go_wp2_with fail
            go_roundw
            case rel => exact ⟨k + 1, m, by have := HLT.out; omega, by go_num, by go_num, HOK2.out, HP2.out, HMB.out, TQ.out, XT.out, BT.out⟩
            case measure => have := HLT.out; simp [intOf]; omega
      · obtain rfl : k = l + 1 := by omega
        have d1 : decide (((l + 1 : Nat) : Int) ≤ (l : Int)) = false := decide_eq_false (by omega)
        have d2 : decide (l + 1 ≤ l) = false := decide_eq_false (by omega)
        have d3 : decide ((l : Int) + 1 ≤ (l : Int)) = false := decide_eq_false (by omega)
        have HE := Lib.hid (show prE ms = 0 by unfold prE; rw [HV.out, if_pos rfl, if_pos (by rw [HN.out, HPE.out, shB_iff.2 HOK.out]; rfl)])
        have HZ := Lib.hid (show prV ms = n by unfold prV; rw [HE.out, if_pos rfl, HN.out, HPE.out]; rfl)
        go_wp2_with fail
        go_ret2
        exact ⟨by rw [HE.out, HZ.out]; rfl, Bl.out⟩
    

end Go.Proofs.Ytmmfmanjajefcaa

/- Layer 7: the law on all places. -/
import Derived.Test.YtmmfmanjajefcaaHU0
set_option linter.all false
namespace Go.Proofs.Ytmmfmanjajefcaa
open Go.RowKit

theorem wh_bd {ms : List Mh} {s t : Int} (h : rnE ms s t = 0) : -1000000000000 ≤ (whR ms s t).n ∧ (whR ms s t).n ≤ (whR ms s t).d ∧ (whR ms s t).d ≤ 100000000000000000 := by
  obtain ⟨N, D, n, d, S, T, hr⟩ := rn_zero h
  rw [wh_ok h hr]
  have h1 := hm_hi (T * N) S D n d
  have h2 : n * S / d ≤ 96000000000 := Nat.le_trans (Nat.div_le_self _ _) (Nat.le_trans (Nat.mul_le_mul hr.rp.1 hr.S96) (by decide))
  have h3 : fmN (T * N) S D ≤ 96000000000000000 := by
    unfold fmN
    exact Nat.le_trans (Nat.div_le_self _ _) (Nat.le_trans (Nat.mul_le_mul (Nat.mul_le_mul hr.T6 hr.rt.1) hr.S96) (by decide))
  have h4 : -96000000001 ≤ hmI (T * N) S D n d := by
    unfold hmI
    generalize n * S / d = b at *
    generalize T * N * S / D = a
    split <;> omega
  show -1000000000000 ≤ hmI (T * N) S D n d ∧ hmI (T * N) S D n d ≤ ((fmN (T * N) S D : Nat) : Int) ∧ ((fmN (T * N) S D : Nat) : Int) ≤ 100000000000000000
  omega

set_option maxRecDepth 100000 in
set_option maxHeartbeats 8000000 in
theorem GearsSectors_c (ms : List Mh) (s t : Int) (v : Value) (w : World) (h : IsTr w w.heap.size v ms) : Calls Try.prog 14 #[v, .int .i64 s, .int .i64 t] w fun e w' => e = .returned (.bool true) ∧ Below w.heap.size w w' := by
  have HT := Lib.hid h
  obtain ⟨sv, rfl, A, c, rfl, -, -⟩ := h
  obtain ⟨l, hn⟩ : ∃ n, ms.length = n := ⟨_, rfl⟩
  have HN := Lib.hid hn
  rw [hn] at HT ⊢
  clear hn
  go_enter Try.func14, Try.ntmps14
  go_wp2_with fail
  obtain ⟨W1, hW2⟩ : ∃ Wzz, (w.alloc (.cells #[.slice A l c] 35)) = Wzz := ⟨_, rfl⟩
  have B3 := Lib.hid (show Below w.heap.size w W1 by rw [← hW2]; exact ((Below.refl w.heap.size w).alloc (Nat.le_refl _) _))
  have X4 := Lib.hid (show Box W1 (w.heap.size) 35 #[.slice A l c] by rw [← hW2]; exact Box.made w 35 #[.slice A l c])
  have C5 := Lib.hid (HT.out.later B3.out)
  have SZ6 := Lib.hid (show W1.heap.size = w.heap.size + 1 by rw [← hW2]; simp)
  rw [hW2]
  clear hW2
  have q7 : W1.cell? ⟨w.heap.size, 0, none⟩ = some (.slice A l c) := X4.out.cell 0
  go_wp2_with fail
  refine (awake_c _).mono ?_; rintro e v8 ⟨rfl, hb9⟩
  have X10 := Lib.hid (X4.out.later hb9)
  have C11 := Lib.hid (C5.out.later hb9)
  have B12 := Lib.hid (B3.out.trans (hb9.mono B3.out.size))
  clear hb9
  clear q7
  have q13 : v8.cell? ⟨w.heap.size, 0, none⟩ = some (.slice A l c) := X10.out.cell 0
  go_wp2_with fail
  refine (short_c ms _ _ C11.out).mono ?_; rintro e v14 ⟨rfl, hb15⟩
  have X16 := Lib.hid (X10.out.later hb15)
  have C17 := Lib.hid (C11.out.later hb15)
  have B18 := Lib.hid (B12.out.trans (hb15.mono B12.out.size))
  clear hb15
  rw [HN.out]
  clear q13
  have q19 : v14.cell? ⟨w.heap.size, 0, none⟩ = some (.slice A l c) := X16.out.cell 0
  rcases Nat.lt_or_ge 100 l with hl | hl
  · have e1 : decide (l ≤ 100) = false := by simp; omega
    clear hl
    go_wp2_with fail
    go_ret
    exact ⟨rfl, B18.out⟩
  · have e1 : decide (l ≤ 100) = true := by simp; omega
    have HL := Lib.hid (show ms.length ≤ 100 by rw [HN.out]; exact hl)
    clear hl
    obtain ⟨⟨lo, hi, we⟩, hw9⟩ : ∃ X9, whR ms s t = X9 := ⟨_, rfl⟩
    have HW := Lib.hid hw9
    clear hw9
    go_wp2_with fail
    refine (Where_c ms s t _ _ C17.out).mono ?_; rintro e v20 ⟨rfl, hb21⟩
    have X22 := Lib.hid (X16.out.later hb21)
    have C23 := Lib.hid (C17.out.later hb21)
    have B24 := Lib.hid (B18.out.trans (hb21.mono B18.out.size))
    clear hb21
    rw [HW.out]
    clear q19
    have q25 : v20.cell? ⟨w.heap.size, 0, none⟩ = some (.slice A l c) := X22.out.cell 0
    have X26 := Lib.hid (X22.out.alloc (.cells #[.int .i64 lo, .int .i64 hi] 52))
    have C27 := Lib.hid (C23.out.later ((Below.refl v20.heap.size v20).alloc (Nat.le_refl _) (.cells #[.int .i64 lo, .int .i64 hi] 52)))
    have B28 := Lib.hid (B24.out.alloc B24.out.size (.cells #[.int .i64 lo, .int .i64 hi] 52))
    have X29 := Lib.hid (Box.made v20 52 #[.int .i64 lo, .int .i64 hi])
    have q30 : (v20.alloc (.cells #[.int .i64 lo, .int .i64 hi] 52)).cell? ⟨w.heap.size, 0, none⟩ = some (.slice A l c) := X26.out.cell 0
    have q31 : (v20.alloc (.cells #[.int .i64 lo, .int .i64 hi] 52)).cell? ⟨v20.heap.size, 0, none⟩ = some (.int .i64 lo) := X29.out.cell 0
    have q32 : (v20.alloc (.cells #[.int .i64 lo, .int .i64 hi] 52)).cell? ⟨v20.heap.size, 1, none⟩ = some (.int .i64 hi) := X29.out.cell 1
    obtain ⟨ae, hae9⟩ : ∃ X9, rnE ms s 0 = X9 := ⟨_, rfl⟩
    have HAE := Lib.hid hae9
    clear hae9
    obtain ⟨xs, hxs9⟩ : ∃ X9, nats (alV ms s) = X9 := ⟨_, rfl⟩
    have HXS := Lib.hid hxs9
    clear hxs9
    go_wp2_with fail
    refine (All_c ms s _ _ C27.out).mono ?_; rintro e v33 ⟨lv, rfl, hI, hb34⟩
    have X35 := Lib.hid (X26.out.later hb34)
    have X36 := Lib.hid (X29.out.later hb34)
    have C37 := Lib.hid (C27.out.later hb34)
    have B38 := Lib.hid (B28.out.trans (hb34.mono B28.out.size))
    clear hb34
    rw [HAE.out]
    rw [HXS.out] at hI
    have HI := Lib.hid hI
    clear hI
    clear q30 q31 q32 q25
    have q39 : v33.cell? ⟨w.heap.size, 0, none⟩ = some (.slice A l c) := X35.out.cell 0
    have q40 : v33.cell? ⟨v20.heap.size, 0, none⟩ = some (.int .i64 lo) := X36.out.cell 0
    have q41 : v33.cell? ⟨v20.heap.size, 1, none⟩ = some (.int .i64 hi) := X36.out.cell 1
    by_cases hre : rnE ms s t = 0; rotate_left
    · have h1 := wh_bad hre
      rw [HW.out] at h1
      injection h1 with p1 p2 p3
      have h2 := (rn_err ms s t).2 hre
      rw [HAE.out, ← p3] at h2
      have e3 : (we != 0) = true := by rw [p3]; simpa using hre
      have e1 : (we == 0) = false := by rw [p3]; simpa using hre
      have e2 : decide (we = 0) = false := by rw [p3]; simpa using hre
      subst p1 p2
      clear p3 hre
      rcases h2 with h2 | h2
      · subst h2
        go_wp2_with fail
        all_goals
          go_ret
          exact ⟨ret_bool (by simp), B38.out⟩
      · subst h2
        go_wp2_with fail
        go_ret
        exact ⟨ret_bool (by simp), B38.out⟩
    · have HRE := Lib.hid hre
      have HBD := Lib.hid (wh_bd hre)
      rw [HW.out] at HBD
      have hwe : we = 0 := by have := (wh_lo_hi hre).2.1; rw [HW.out] at this; exact this
      subst hwe
      obtain rfl : ae = 0 := by have := (rn_err ms s t).1 hre; rw [HAE.out] at this; exact this
      obtain ⟨N, D, n, d, S, T, hr⟩ := rn_zero hre
      have HRO := Lib.hid hr
      obtain rfl : s = (S : Int) := hr.sec
      have HS := Lib.hid (And.intro hr.S2 hr.S96)
      have HTT := Lib.hid (show 0 ≤ t ∧ t ≤ 1000000 by have := hr.tee; have := hr.T6; omega)
      have hal := al_ok (by exact HAE.out) (show RunOk ms (S : Int) 0 N D n d S 0 from ⟨hr.val, hr.sec, rfl, hr.S2, hr.S96, by omega, hr.sh, hr.pl, hr.rt, hr.rp, hr.pos, hr.trn, hr.play⟩)
      obtain ⟨m, hm⟩ : ∃ m, xs.length = m := ⟨_, rfl⟩
      have HMX := Lib.hid hm
      have HM96 := Lib.hid (show m ≤ 96 by
        rw [← hm, ← HXS.out, nats_len, hal]
        exact Nat.le_trans (mayL_len N D n d S) hr.S96)
      have HHAS := Lib.hid (show ∀ x : Int, lo ≤ x → x ≤ hi → x % (S : Int) ∈ xs from fun x h1 h2 => by
        have := al_has (x := x) hre (by rw [HW.out]; exact h1) (by rw [HW.out]; exact h2)
        rw [HXS.out] at this; exact this)
      have HM1 := Lib.hid (show 0 < m by
        have := HHAS.out lo (Int.le_refl _) HBD.out.2.1
        rw [← hm]
        exact List.length_pos_of_mem this)
      have HGET := Lib.hid (show ∀ i, i < m → 0 ≤ nth xs i ∧ nth xs i < (S : Int) ∧ (0 < i → nth xs (i - 1) < nth xs i) by
        intro i hi
        have hl : i < (mayL N D n d S).length := by rw [← hm, ← HXS.out, nats_len, hal] at hi; exact hi
        have hg := filt_get (mayB N D n d S) S i hl
        rw [← HXS.out, hal, nth_nats hl]
        refine ⟨by omega, by have := hg.1; exact Int.ofNat_lt.2 this, fun h0 => ?_⟩
        rw [nth_nats (l := mayL N D n d S) (k := i - 1) (by omega)]
        exact Int.ofNat_lt.2 (hg.2 h0))
      obtain ⟨-, A2, c2, rfl, hc2, hcell⟩ := HI.out
      rw [hm] at hcell hc2 ⊢
      obtain ⟨b2, off2, rfl, hb2, hcl⟩ := hcell (by have := HM1.out; omega)
      have HCL := Lib.hid hcl
      have HB2 := Lib.hid hb2
      have HHI := Lib.hid HI.out
      rw [hm] at HHI
      have m0 : decide ((m : Int) = 0) = false := decide_eq_false (by have := HM1.out; omega)
      have m1 : ((m : Int) == 0) = false := by have := HM1.out; simp; omega
      have m2 : decide (m = 0) = false := decide_eq_false (by have := HM1.out; omega)
      clear hre hr hal hm hcell hc2 hcl hb2
      go_wp2_with fail
      go_loopw [12] (fun iv wr => ∃ k : Nat, k ≤ m ∧ iv = .int .i64 (k : Int) ∧ Below v33.heap.size v33 wr) (fun iv _ => m - (intOf iv).toNat)
      case atStart => exact ⟨0, Nat.zero_le _, rfl, Below.refl _ _⟩
      case round =>
        obtain ⟨k, hk, rfl, hb⟩ := hrel
        have HBW := Lib.hid hb
        have X42 := Lib.hid (X35.out.later hb)
        have X43 := Lib.hid (X36.out.later hb)
        have C44 := Lib.hid (C37.out.later hb)
        have B45 := Lib.hid (B38.out.trans (hb.mono B38.out.size))
        clear hb
        have q46 : wr.cell? ⟨w.heap.size, 0, none⟩ = some (.slice A l c) := X42.out.cell 0
        have q47 : wr.cell? ⟨v20.heap.size, 0, none⟩ = some (.int .i64 lo) := X43.out.cell 0
        have q48 : wr.cell? ⟨v20.heap.size, 1, none⟩ = some (.int .i64 hi) := X43.out.cell 1
        by_cases hlt : k < m
        · have HLT := Lib.hid hlt
          have d1 : decide ((k : Int) < (m : Int)) = true := by simpa using hlt
          have d2 : decide (k < m) = true := by simpa using hlt
          have k0 : (0 : Int) ≤ (k : Int) := by omega
          have k1 : (k : Int) < (m : Int) := by omega
          have k96 : k ≤ 96 := by have := HM96.out; omega
          have HG := Lib.hid (HGET.out k hlt)
          have c0 := keepd (HCL.out k (by have := HMX.out; omega)) HBW.out HB2.out
          obtain ⟨y, hy⟩ : ∃ y, nth xs k = y := ⟨_, rfl⟩
          rw [hy] at c0 HG
          have g1 : decide (y < 0) = false := decide_eq_false (by have := HG.out.1; omega)
          have g2 : decide ((S : Int) ≤ y) = false := decide_eq_false (by have := HG.out.2.1; omega)
          clear hy hk hlt
          rcases k with _ | k'
          · have f0 : decide ((0 : Int) < ((0 : Nat) : Int)) = false := by decide
            rw [Nat.add_zero] at c0
            go_wp2_with fail
            go_quiet (fail)
            obtain ⟨W49, hW50⟩ : ∃ Wzz, (wr).drewN nq = Wzz := ⟨_, rfl⟩
            have hb51 : Below (wr).heap.size (wr) W49 := by rw [← hW50]; exact below_drewN _ _
            have X52 := Lib.hid (X42.out.later hb51)
            have X53 := Lib.hid (X43.out.later hb51)
            have C54 := Lib.hid (C44.out.later hb51)
            have B55 := Lib.hid (B45.out.trans (hb51.mono B45.out.size))
            have HBQ := Lib.hid hb51
            rw [hW50]
            clear hb51 hW50
            clear q46 q47 q48
            have q56 : W49.cell? ⟨w.heap.size, 0, none⟩ = some (.slice A l c) := X52.out.cell 0
            have q57 : W49.cell? ⟨v20.heap.size, 0, none⟩ = some (.int .i64 lo) := X53.out.cell 0
            have q58 : W49.cell? ⟨v20.heap.size, 1, none⟩ = some (.int .i64 hi) := X53.out.cell 1
            go_wp2_with fail
            go_roundw
            case rel => exact ⟨1, HLT.out, by go_num, HBW.out.trans (HBQ.out.mono HBW.out.size)⟩
            case measure => have := HLT.out; simp [intOf]; omega
          · have f0 : decide ((0 : Int) < ((k' + 1 : Nat) : Int)) = true := decide_eq_true (by omega)
            have f1 : decide ((0 : Int) < (k' : Int) + 1) = true := decide_eq_true (by omega)
            have f2 : decide (0 < k' + 1) = true := decide_eq_true (by omega)
            have ck := keepd (HCL.out k' (by have := HMX.out; have := HLT.out; omega)) HBW.out HB2.out
            have hgl := HG.out.2.2 (by omega)
            rw [Nat.add_sub_cancel] at hgl
            obtain ⟨x, hx⟩ : ∃ x, nth xs k' = x := ⟨_, rfl⟩
            rw [hx] at ck hgl
            have g3 : decide (y ≤ x) = false := decide_eq_false (by omega)
            have e0 : ((k' + 1 : Nat) : Int) = (k' : Int) + 1 := by omega
            have wk : IntKind.i64.wrap ((k' : Int) + 1 - 1) = (k' : Int) := by rw [show (k' : Int) + 1 - 1 = (k' : Int) by omega]; exact wrap_id (by omega) (by omega)
            have k2 : (0 : Int) ≤ (k' : Int) := by omega
            have k3 : (k' : Int) < (m : Int) := by omega
            clear hx hgl
            go_wp2_with fail
            go_quiet (fail)
            obtain ⟨W59, hW60⟩ : ∃ Wzz, (wr).drewN nq = Wzz := ⟨_, rfl⟩
            have hb61 : Below (wr).heap.size (wr) W59 := by rw [← hW60]; exact below_drewN _ _
            have X62 := Lib.hid (X42.out.later hb61)
            have X63 := Lib.hid (X43.out.later hb61)
            have C64 := Lib.hid (C44.out.later hb61)
            have B65 := Lib.hid (B45.out.trans (hb61.mono B45.out.size))
            have HBQ := Lib.hid hb61
            rw [hW60]
            clear hb61 hW60
            clear q46 q47 q48
            have q66 : W59.cell? ⟨w.heap.size, 0, none⟩ = some (.slice A l c) := X62.out.cell 0
            have q67 : W59.cell? ⟨v20.heap.size, 0, none⟩ = some (.int .i64 lo) := X63.out.cell 0
            have q68 : W59.cell? ⟨v20.heap.size, 1, none⟩ = some (.int .i64 hi) := X63.out.cell 1
            clear wk e0
            go_wp2_with fail
            go_roundw
            case rel => exact ⟨k' + 1 + 1, HLT.out, by go_num, HBW.out.trans (HBQ.out.mono HBW.out.size)⟩
            case measure => have := HLT.out; simp [intOf]; omega
        · obtain rfl : k = m := by omega
          have d1 : decide ((k : Int) < (k : Int)) = false := by simp
          have d2 : decide (k < k) = false := by simp
          go_wp2_with fail
          go_loopw [13] (fun iv wr => ∃ j : Nat, j ≤ S ∧ iv = .int .i64 (j : Int) ∧ Below v33.heap.size v33 wr) (fun iv _ => S - (intOf iv).toNat)
          case atStart => exact ⟨0, Nat.zero_le _, rfl, HBW.out⟩
          case round =>
            obtain ⟨j, hj, rfl, hb⟩ := hrel
            have HBX := Lib.hid hb
            have X69 := Lib.hid (X35.out.later hb)
            have X70 := Lib.hid (X36.out.later hb)
            have C71 := Lib.hid (C37.out.later hb)
            have B72 := Lib.hid (B38.out.trans (hb.mono B38.out.size))
            clear hb
            have q73 : wr.cell? ⟨w.heap.size, 0, none⟩ = some (.slice A l c) := X69.out.cell 0
            have q74 : wr.cell? ⟨v20.heap.size, 0, none⟩ = some (.int .i64 lo) := X70.out.cell 0
            have q75 : wr.cell? ⟨v20.heap.size, 1, none⟩ = some (.int .i64 hi) := X70.out.cell 1
            have wd : IntKind.i64.wrap (hi - lo) = hi - lo := wrap_id (by have := HBD.out; omega) (by have := HBD.out; omega)
            by_cases hc : j < S ∧ (j : Int) ≤ hi - lo
            · have d3 : decide ((j : Int) < (S : Int)) = true := decide_eq_true (by omega)
              have d4 : decide (j < S) = true := decide_eq_true hc.1
              have d5 : decide ((j : Int) ≤ hi - lo) = true := decide_eq_true hc.2
              have HJ := Lib.hid hc
              obtain ⟨a, ha⟩ : ∃ a, lo + (j : Int) = a := ⟨_, rfl⟩
              have wa : IntKind.i64.wrap (lo + (j : Int)) = a := by rw [ha]; exact wrap_id (by have := HBD.out; have := HS.out; omega) (by have := HBD.out; have := HS.out; omega)
              have HA := Lib.hid (HHAS.out a (by omega) (by omega))
              obtain ⟨q1, q2, q3⟩ := tmod_emod (x := a) (S := S) (by have := HS.out; omega)
              obtain ⟨r, hr⟩ : ∃ r, a.tmod (S : Int) = r := ⟨_, rfl⟩
              rw [hr] at q1 q2 q3
              have wr1 : IntKind.i64.wrap r = r := wrap_id (by have := HS.out; omega) (by have := HS.out; omega)
              obtain ⟨g, hg⟩ : ∃ g, r + (S : Int) = g := ⟨_, rfl⟩
              rw [hg] at q3
              have wg : IntKind.i64.wrap (r + (S : Int)) = g := by rw [hg]; exact wrap_id (by have := HS.out; omega) (by have := HS.out; omega)
              have g0 : 0 ≤ g := by omega
              obtain ⟨z, hz⟩ : ∃ z, a % (S : Int) = z := ⟨_, rfl⟩
              rw [hz] at q3 HA
              have q4 : g.tmod (S : Int) = z := by rw [Int.tmod_eq_emod_of_nonneg g0]; exact q3
              have wz : IntKind.i64.wrap z = z := wrap_id (by have := Int.emod_nonneg a (show (S : Int) ≠ 0 by have := HS.out; omega); omega) (by have := Int.emod_lt_of_pos a (show (0 : Int) < (S : Int) by have := HS.out; omega); have := HS.out; omega)
              have s0 : (0 : Int) < (S : Int) := by have := HS.out; omega
              have s1 : decide ((S : Int) = 0) = false := by simp; have := HS.out; omega
              have s2 : decide (S = 0) = false := by simp; have := HS.out; omega
              have j96 : j ≤ 96 := by have := HS.out; omega
              have HII := Lib.hid (HHI.out.later HBX.out)
              clear hj hc ha hg hz q1 q2
              go_wp2_with fail
              refine (has_c xs z _ _ true (decide_eq_true HA.out) HII.out (by have := HMX.out; have := HM96.out; omega)).mono ?_; rintro e w9 ⟨rfl, hw9⟩
              obtain rfl : wr = w9 := hw9
              clear wd wa hr wr1 wg g0 q3 q4 wz s0 s1 s2
              go_wp2_with fail
              go_roundw
              case rel => exact ⟨j + 1, HJ.out.1, by go_num, HBX.out⟩
              case measure => have := HJ.out.1; simp [intOf]; omega
            · by_cases hj2 : j < S
              · have d3 : decide ((j : Int) < (S : Int)) = true := decide_eq_true (by omega)
                have d4 : decide (j < S) = true := decide_eq_true hj2
                have d5 : decide ((j : Int) ≤ hi - lo) = false := decide_eq_false (fun h => hc ⟨hj2, h⟩)
                clear hc hj2 hj
                go_wp2_with fail
                clear wd
                obtain ⟨pe, hpe9⟩ : ∃ X9, prE ms = X9 := ⟨_, rfl⟩
                have HPE := Lib.hid hpe9
                clear hpe9
                obtain ⟨pv, hpv9⟩ : ∃ X9, prV ms = X9 := ⟨_, rfl⟩
                have HPV := Lib.hid hpv9
                clear hpv9
                refine (Period_c ms _ _ C71.out).mono ?_; rintro e v76 ⟨rfl, hb77⟩
                have X78 := Lib.hid (X69.out.later hb77)
                have X79 := Lib.hid (X70.out.later hb77)
                have C80 := Lib.hid (C71.out.later hb77)
                have B81 := Lib.hid (B72.out.trans (hb77.mono B72.out.size))
                clear hb77
                rw [HPE.out, HPV.out]
                clear q73 q74 q75
                have q82 : v76.cell? ⟨w.heap.size, 0, none⟩ = some (.slice A l c) := X78.out.cell 0
                have q83 : v76.cell? ⟨v20.heap.size, 0, none⟩ = some (.int .i64 lo) := X79.out.cell 0
                have q84 : v76.cell? ⟨v20.heap.size, 1, none⟩ = some (.int .i64 hi) := X79.out.cell 1
                have wt : IntKind.i64.wrap (1000000 - t) = 1000000 - t := wrap_id (by have := HTT.out; omega) (by have := HTT.out; omega)
                by_cases hpe : pe = 0; rotate_left
                · have e1 : (pe != 0) = true := by simpa using hpe
                  have e2 : (pe == 0) = false := by simpa using hpe
                  have e3 : decide (pe = 0) = false := by simpa using hpe
                  clear hpe
                  go_wp2_with fail
                  go_ret
                  exact ⟨ret_bool (by simp), B81.out⟩
                · subst hpe
                  by_cases hg : 1000000 - t < (pv : Int)
                  · have e3 : decide (1000000 - t < (pv : Int)) = true := by simpa using hg
                    clear hg
                    go_wp2_with fail
                    go_ret
                    exact ⟨ret_bool (by simp), B81.out⟩
                  · have e3 : decide (1000000 - t < (pv : Int)) = false := by simpa using hg
                    have hsb : shB ms (ms.length + 1) = true := by
                      have h := HPE.out
                      unfold prE at h
                      rw [HRO.out.val, if_pos rfl] at h
                      cases hb : shB ms (ms.length + 1)
                      · rw [hb, Bool.false_and, if_neg (by decide)] at h; exact absurd h (by decide)
                      · rfl
                    obtain ⟨u, S', hS', -, u0, x1, x2, x3⟩ := wh_per HRE.out (shB_iff.1 hsb) HPE.out (by rw [HPV.out]; omega)
                    obtain rfl : S = S' := by omega
                    rw [HPV.out] at x1 x2 x3
                    have wt2 : IntKind.i64.wrap (t + (pv : Int)) = t + (pv : Int) := wrap_id (by have := HTT.out; omega) (by have := HTT.out; omega)
                    obtain ⟨U, hU⟩ : ∃ U : Int, ((u * S : Nat) : Int) = U := ⟨_, rfl⟩
                    have hU0 : 0 < U := by rw [← hU]; exact Int.ofNat_lt.2 (Nat.mul_pos u0 (by have := HS.out; omega))
                    have hUm : U % (S : Int) = 0 := by rw [← hU]; simp
                    rw [hU] at x2 x3
                    have HX0 := Lib.hid (And.intro x1 (And.intro x2 (And.intro x3 (And.intro hU0 hUm))))
                    have HB2' := Lib.hid (wh_bd (rn_more HRE.out (u := t + (pv : Int)) (inB_iff.2 (by have := HTT.out; omega))))
                    clear hg hsb hS' u0 x1 x2 x3 hU hU0 hUm
                    obtain ⟨⟨xl, xh, xe⟩, hx9⟩ : ∃ X9, whR ms (S : Int) (t + (pv : Int)) = X9 := ⟨_, rfl⟩
                    have HX := Lib.hid hx9
                    clear hx9
                    rw [HX.out, HW.out] at HX0
                    rw [HX.out] at HB2'
                    go_wp2_with fail
                    refine (Where_c ms (S : Int) (t + (pv : Int)) _ _ C80.out).mono ?_; rintro e v85 ⟨rfl, hb86⟩
                    have X87 := Lib.hid (X78.out.later hb86)
                    have X88 := Lib.hid (X79.out.later hb86)
                    have C89 := Lib.hid (C80.out.later hb86)
                    have B90 := Lib.hid (B81.out.trans (hb86.mono B81.out.size))
                    clear hb86
                    rw [HX.out]
                    clear q82 q83 q84
                    have q91 : v85.cell? ⟨w.heap.size, 0, none⟩ = some (.slice A l c) := X87.out.cell 0
                    have q92 : v85.cell? ⟨v20.heap.size, 0, none⟩ = some (.int .i64 lo) := X88.out.cell 0
                    have q93 : v85.cell? ⟨v20.heap.size, 1, none⟩ = some (.int .i64 hi) := X88.out.cell 1
                    have X94 := Lib.hid (X87.out.alloc (.cells #[.int .i64 xl, .int .i64 xh] 52))
                    have X95 := Lib.hid (X88.out.alloc (.cells #[.int .i64 xl, .int .i64 xh] 52))
                    have C96 := Lib.hid (C89.out.later ((Below.refl v85.heap.size v85).alloc (Nat.le_refl _) (.cells #[.int .i64 xl, .int .i64 xh] 52)))
                    have B97 := Lib.hid (B90.out.alloc B90.out.size (.cells #[.int .i64 xl, .int .i64 xh] 52))
                    have X98 := Lib.hid (Box.made v85 52 #[.int .i64 xl, .int .i64 xh])
                    have q99 : (v85.alloc (.cells #[.int .i64 xl, .int .i64 xh] 52)).cell? ⟨w.heap.size, 0, none⟩ = some (.slice A l c) := X94.out.cell 0
                    have q100 : (v85.alloc (.cells #[.int .i64 xl, .int .i64 xh] 52)).cell? ⟨v20.heap.size, 0, none⟩ = some (.int .i64 lo) := X95.out.cell 0
                    have q101 : (v85.alloc (.cells #[.int .i64 xl, .int .i64 xh] 52)).cell? ⟨v20.heap.size, 1, none⟩ = some (.int .i64 hi) := X95.out.cell 1
                    have q102 : (v85.alloc (.cells #[.int .i64 xl, .int .i64 xh] 52)).cell? ⟨v85.heap.size, 0, none⟩ = some (.int .i64 xl) := X98.out.cell 0
                    have q103 : (v85.alloc (.cells #[.int .i64 xl, .int .i64 xh] 52)).cell? ⟨v85.heap.size, 1, none⟩ = some (.int .i64 xh) := X98.out.cell 1
                    obtain ⟨y1, y2, y3, y4, y5⟩ := HX0.out
                    have y1' : xe = 0 := y1
                    have y2' : xl = lo + U := y2
                    have y3' : xh = hi + U := y3
                    have w1 : IntKind.i64.wrap (xl - lo) = U := by rw [show xl - lo = U by omega]; exact wrap_id (by have := HBD.out; have := HB2'.out; omega) (by have := HBD.out; have h9 := HB2'.out; have h8 : xl ≤ xh := h9.2.1; have h7 : xh ≤ 100000000000000000 := h9.2.2; omega)
                    have w2 : IntKind.i64.wrap (xh - hi) = U := by rw [show xh - hi = U by omega]; exact wrap_id (by omega) (by have := HBD.out; have h9 := HB2'.out; have h7 : xh ≤ 100000000000000000 := h9.2.2; omega)
                    have w3 : U.tmod (S : Int) = 0 := by rw [Int.tmod_eq_emod_of_nonneg (by omega)]; exact y5
                    have w4 : 0 ≤ U := by omega
                    have g1 : decide (lo < xl) = true := decide_eq_true (by omega)
                    have s0 : (0 : Int) < (S : Int) := by have := HS.out; omega
                    have s1 : decide ((S : Int) = 0) = false := by simp; have := HS.out; omega
                    have s2 : decide (S = 0) = false := by simp; have := HS.out; omega
                    subst y1'
                    clear y1 y2 y3 y4 y2' y3'
                    go_wp2_with fail
                    go_ret
                    exact ⟨ret_bool (by simp), B97.out⟩
              · have d3 : decide ((j : Int) < (S : Int)) = false := decide_eq_false (by omega)
                have d4 : decide (j < S) = false := decide_eq_false hj2
                clear hc hj2 hj
                go_wp2_with fail
                clear wd
                obtain ⟨pe, hpe9⟩ : ∃ X9, prE ms = X9 := ⟨_, rfl⟩
                have HPE := Lib.hid hpe9
                clear hpe9
                obtain ⟨pv, hpv9⟩ : ∃ X9, prV ms = X9 := ⟨_, rfl⟩
                have HPV := Lib.hid hpv9
                clear hpv9
                refine (Period_c ms _ _ C71.out).mono ?_; rintro e v104 ⟨rfl, hb105⟩
                have X106 := Lib.hid (X69.out.later hb105)
                have X107 := Lib.hid (X70.out.later hb105)
                have C108 := Lib.hid (C71.out.later hb105)
                have B109 := Lib.hid (B72.out.trans (hb105.mono B72.out.size))
                clear hb105
                rw [HPE.out, HPV.out]
                clear q73 q74 q75
                have q110 : v104.cell? ⟨w.heap.size, 0, none⟩ = some (.slice A l c) := X106.out.cell 0
                have q111 : v104.cell? ⟨v20.heap.size, 0, none⟩ = some (.int .i64 lo) := X107.out.cell 0
                have q112 : v104.cell? ⟨v20.heap.size, 1, none⟩ = some (.int .i64 hi) := X107.out.cell 1
                have wt : IntKind.i64.wrap (1000000 - t) = 1000000 - t := wrap_id (by have := HTT.out; omega) (by have := HTT.out; omega)
                by_cases hpe : pe = 0; rotate_left
                · have e1 : (pe != 0) = true := by simpa using hpe
                  have e2 : (pe == 0) = false := by simpa using hpe
                  have e3 : decide (pe = 0) = false := by simpa using hpe
                  clear hpe
                  go_wp2_with fail
                  go_ret
                  exact ⟨ret_bool (by simp), B109.out⟩
                · subst hpe
                  by_cases hg : 1000000 - t < (pv : Int)
                  · have e3 : decide (1000000 - t < (pv : Int)) = true := by simpa using hg
                    clear hg
                    go_wp2_with fail
                    go_ret
                    exact ⟨ret_bool (by simp), B109.out⟩
                  · have e3 : decide (1000000 - t < (pv : Int)) = false := by simpa using hg
                    have hsb : shB ms (ms.length + 1) = true := by
                      have h := HPE.out
                      unfold prE at h
                      rw [HRO.out.val, if_pos rfl] at h
                      cases hb : shB ms (ms.length + 1)
                      · rw [hb, Bool.false_and, if_neg (by decide)] at h; exact absurd h (by decide)
                      · rfl
                    obtain ⟨u, S', hS', -, u0, x1, x2, x3⟩ := wh_per HRE.out (shB_iff.1 hsb) HPE.out (by rw [HPV.out]; omega)
                    obtain rfl : S = S' := by omega
                    rw [HPV.out] at x1 x2 x3
                    have wt2 : IntKind.i64.wrap (t + (pv : Int)) = t + (pv : Int) := wrap_id (by have := HTT.out; omega) (by have := HTT.out; omega)
                    obtain ⟨U, hU⟩ : ∃ U : Int, ((u * S : Nat) : Int) = U := ⟨_, rfl⟩
                    have hU0 : 0 < U := by rw [← hU]; exact Int.ofNat_lt.2 (Nat.mul_pos u0 (by have := HS.out; omega))
                    have hUm : U % (S : Int) = 0 := by rw [← hU]; simp
                    rw [hU] at x2 x3
                    have HX0 := Lib.hid (And.intro x1 (And.intro x2 (And.intro x3 (And.intro hU0 hUm))))
                    have HB2' := Lib.hid (wh_bd (rn_more HRE.out (u := t + (pv : Int)) (inB_iff.2 (by have := HTT.out; omega))))
                    clear hg hsb hS' u0 x1 x2 x3 hU hU0 hUm
                    obtain ⟨⟨xl, xh, xe⟩, hx9⟩ : ∃ X9, whR ms (S : Int) (t + (pv : Int)) = X9 := ⟨_, rfl⟩
                    have HX := Lib.hid hx9
                    clear hx9
                    rw [HX.out, HW.out] at HX0
                    rw [HX.out] at HB2'
                    go_wp2_with fail
                    refine (Where_c ms (S : Int) (t + (pv : Int)) _ _ C108.out).mono ?_; rintro e v113 ⟨rfl, hb114⟩
                    have X115 := Lib.hid (X106.out.later hb114)
                    have X116 := Lib.hid (X107.out.later hb114)
                    have C117 := Lib.hid (C108.out.later hb114)
                    have B118 := Lib.hid (B109.out.trans (hb114.mono B109.out.size))
                    clear hb114
                    rw [HX.out]
                    clear q110 q111 q112
                    have q119 : v113.cell? ⟨w.heap.size, 0, none⟩ = some (.slice A l c) := X115.out.cell 0
                    have q120 : v113.cell? ⟨v20.heap.size, 0, none⟩ = some (.int .i64 lo) := X116.out.cell 0
                    have q121 : v113.cell? ⟨v20.heap.size, 1, none⟩ = some (.int .i64 hi) := X116.out.cell 1
                    have X122 := Lib.hid (X115.out.alloc (.cells #[.int .i64 xl, .int .i64 xh] 52))
                    have X123 := Lib.hid (X116.out.alloc (.cells #[.int .i64 xl, .int .i64 xh] 52))
                    have C124 := Lib.hid (C117.out.later ((Below.refl v113.heap.size v113).alloc (Nat.le_refl _) (.cells #[.int .i64 xl, .int .i64 xh] 52)))
                    have B125 := Lib.hid (B118.out.alloc B118.out.size (.cells #[.int .i64 xl, .int .i64 xh] 52))
                    have X126 := Lib.hid (Box.made v113 52 #[.int .i64 xl, .int .i64 xh])
                    have q127 : (v113.alloc (.cells #[.int .i64 xl, .int .i64 xh] 52)).cell? ⟨w.heap.size, 0, none⟩ = some (.slice A l c) := X122.out.cell 0
                    have q128 : (v113.alloc (.cells #[.int .i64 xl, .int .i64 xh] 52)).cell? ⟨v20.heap.size, 0, none⟩ = some (.int .i64 lo) := X123.out.cell 0
                    have q129 : (v113.alloc (.cells #[.int .i64 xl, .int .i64 xh] 52)).cell? ⟨v20.heap.size, 1, none⟩ = some (.int .i64 hi) := X123.out.cell 1
                    have q130 : (v113.alloc (.cells #[.int .i64 xl, .int .i64 xh] 52)).cell? ⟨v113.heap.size, 0, none⟩ = some (.int .i64 xl) := X126.out.cell 0
                    have q131 : (v113.alloc (.cells #[.int .i64 xl, .int .i64 xh] 52)).cell? ⟨v113.heap.size, 1, none⟩ = some (.int .i64 xh) := X126.out.cell 1
                    obtain ⟨y1, y2, y3, y4, y5⟩ := HX0.out
                    have y1' : xe = 0 := y1
                    have y2' : xl = lo + U := y2
                    have y3' : xh = hi + U := y3
                    have w1 : IntKind.i64.wrap (xl - lo) = U := by rw [show xl - lo = U by omega]; exact wrap_id (by have := HBD.out; have := HB2'.out; omega) (by have := HBD.out; have h9 := HB2'.out; have h8 : xl ≤ xh := h9.2.1; have h7 : xh ≤ 100000000000000000 := h9.2.2; omega)
                    have w2 : IntKind.i64.wrap (xh - hi) = U := by rw [show xh - hi = U by omega]; exact wrap_id (by omega) (by have := HBD.out; have h9 := HB2'.out; have h7 : xh ≤ 100000000000000000 := h9.2.2; omega)
                    have w3 : U.tmod (S : Int) = 0 := by rw [Int.tmod_eq_emod_of_nonneg (by omega)]; exact y5
                    have w4 : 0 ≤ U := by omega
                    have g1 : decide (lo < xl) = true := decide_eq_true (by omega)
                    have s0 : (0 : Int) < (S : Int) := by have := HS.out; omega
                    have s1 : decide ((S : Int) = 0) = false := by simp; have := HS.out; omega
                    have s2 : decide (S = 0) = false := by simp; have := HS.out; omega
                    subst y1'
                    clear y1 y2 y3 y4 y2' y3'
                    go_wp2_with fail
                    go_ret
                    exact ⟨ret_bool (by simp), B125.out⟩

end Go.Proofs.Ytmmfmanjajefcaa

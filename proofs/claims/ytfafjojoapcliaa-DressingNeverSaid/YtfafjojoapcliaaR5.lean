/- Longest walks in memory: rounds until nothing is lifted. -/
import Derived.Test.YtfafjojoapcliaaR4
namespace Go.Proofs.Ytfafjojoapcliaa
open Go.RowKit

theorem eg_field0 (a b c d : Int) (e : Bool) (W : World) : (Instr.field 101 (.agg #[.int .i64 a, .int .i64 b, .int .i64 c, .int .i64 d, .bool e]) 0).run Try.prog W = .ok (.int .i64 a) W := by kernel_rfl
theorem last_rose_n {es : List Eg} {s : Lf} {n N : Nat} (hto : ∀ x ∈ es, x.fr < n ∧ x.to < n) (hL : s.L.length = n) (hN : 1 ≤ N) (h : (rounds es s N).last ≠ -1) :
    ∃ v, v < n ∧ (rounds es s N).last = (v : Int) ∧ nth (rounds es s (N - 1)).L v < nth (rounds es s N).L v := by
  obtain ⟨m, rfl⟩ : ∃ m, N = m + 1 := ⟨N - 1, by omega⟩
  exact last_rose es (rounds es s m) es.length (Nat.le_refl _) hto (by rw [(rounds_len es s m).1]; exact hL) h

set_option maxRecDepth 100000 in
set_option maxHeartbeats 8000000 in
theorem settle_c (w : World) (g gl gb N B0 : Nat) (lv : Value) (es : List Eg) (h : Gb w g gl gb N lv es (lf0 N).L (lf0 N).B) (hto : ∀ x ∈ es, x.fr < N ∧ x.to < N) (hmore : ∀ x ∈ es, -100000 ≤ x.more ∧ x.more ≤ 100000) (hnt : Noted es N (lf0 N))
    (hl : 0 < es.length) (hl2 : es.length ≤ 1300) (hN1 : 1 ≤ N) (hN : N ≤ 500) (hB1 : B0 ≤ gl) (hB2 : B0 ≤ gb) (hB3 : B0 ≤ w.heap.size) :
    Calls Try.prog 43 #[.pointer (some ⟨g, 0, none⟩)] w fun e w' => Below B0 w w' ∧
      ((∃ r, (rounds es (lf0 N) (r + 1)).last = -1 ∧ e = .returned (.int .i64 (-1)) ∧ Gb w' g gl gb N lv es (rounds es (lf0 N) (r + 1)).L (rounds es (lf0 N) (r + 1)).B) ∨
       ((rounds es (lf0 N) N).last ≠ -1 ∧ ∃ v0, v0 < N ∧ (rounds es (lf0 N) N).last = (v0 : Int) ∧ e = .returned (.int .i64 ((wbs es (rounds es (lf0 N) N).B v0 N : Nat) : Int)) ∧ wbs es (rounds es (lf0 N) N).B v0 N < N ∧ Gb w' g gl gb N lv es (rounds es (lf0 N) N).L (rounds es (lf0 N) N).B)) := by
  have HG := Lib.hid h
  have HP := Lib.hid (show 0 < es.length ∧ es.length ≤ 1300 ∧ 1 ≤ N ∧ N ≤ 500 ∧ B0 ≤ gl ∧ B0 ≤ gb ∧ B0 ≤ w.heap.size from ⟨hl, hl2, hN1, hN, hB1, hB2, hB3⟩)
  have HT := Lib.hid hto
  have HM := Lib.hid hmore
  have HNT := Lib.hid hnt
  have q1 : w.cell? ⟨g, 1, none⟩ = some (.slice (some ⟨gl, 0, none⟩) N N) := h.b0.cell 1
  clear h hto hmore hnt hl hl2 hN1 hN hB1 hB2 hB3
  go_enter Try.func43, Try.ntmps43
  go_wp2_with fail
  clear q1
  go_loopw [3, 9] (fun la iv wr => ∃ r : Nat, r ≤ N ∧ iv = .int .i64 (r : Int) ∧ la = .int .i64 (rounds es (lf0 N) r).last ∧ Gb wr g gl gb N lv es (rounds es (lf0 N) r).L (rounds es (lf0 N) r).B ∧ Below B0 w wr ∧ (1 ≤ r → (rounds es (lf0 N) r).last ≠ -1)) (fun _ iv _ => N - (intOf iv).toNat)
  case atStart => exact ⟨0, Nat.zero_le _, rfl, rfl, HG.out, Below.refl _ _, fun h => by omega⟩
  case round =>
    clear HG
    obtain ⟨r, hr, rfl, rfl, hg, hbr, hno⟩ := hrel
    by_cases hlt : r < N
    · have hd : decide ((r : Int) < (N : Int)) = true := by simpa using hlt
      have i3 : r ≤ 500 := by have := HP.out; omega
      have HK := Lib.hid (show r < N from hlt)
      have HG := Lib.hid hg
      have HB := Lib.hid hbr
      have HE := Lib.hid (show liftAll es (rounds es (lf0 N) r) = rounds es (lf0 N) (r + 1) from rfl)
      clear hg hbr hr hno
      go_wp2_with fail
      clear hlt
      refine (lift_c wr g gl gb N B0 lv es (rounds es (lf0 N) r) HG.out HT.out HM.out (fun i hi k => lift_big (N := N) (fun x hx => (HM.out x hx).2) HP.out.2.1 rfl (by have := HK.out; have := HP.out; omega) hi k) HP.out.1 (by have := HP.out; omega) (by have := HP.out; omega) HP.out.2.2.2.2.1 HP.out.2.2.2.2.2.1).mono ?_; rintro e w2 ⟨rfl, hg2, hb2⟩
      rw [HE.out] at hg2 ⊢
      have HG2 := Lib.hid hg2
      have HB2 := Lib.hid (HB.out.trans hb2)
      clear hg2 hb2
      by_cases hq : (rounds es (lf0 N) (r + 1)).last = -1
      · have HQ := Lib.hid hq
        have hz : ((rounds es (lf0 N) (r + 1)).last == -1) = true := by rw [hq]; rfl
        clear hq
        go_wp2_with fail
        go_ret
        exact ⟨HB2.out, .inl ⟨r, HQ.out, rfl, HG2.out⟩⟩
      · have HQ := Lib.hid hq
        have hz : ((rounds es (lf0 N) (r + 1)).last == -1) = false := by simpa using hq
        clear hq
        go_wp2_with fail
        go_roundw
        case rel => exact ⟨r + 1, by have := HK.out; omega, by go_num, rfl, HG2.out, HB2.out, fun _ => HQ.out⟩
        case measure => have := HK.out; simp [intOf]; omega
    · obtain rfl : r = N := by omega
      have hd : decide ((r : Int) < (r : Int)) = false := by simp
      have hne := hno HP.out.2.2.1
      have HNE := Lib.hid hne
      have q1 : wr.cell? ⟨g, 1, none⟩ = some (.slice (some ⟨gl, 0, none⟩) r r) := hg.b0.cell 1
      obtain ⟨v0, hv0, hlast, hrose⟩ := last_rose_n HT.out (show (lf0 r).L.length = r by show (List.replicate r 0).length = r; simp) HP.out.2.2.1 hne
      have HV := Lib.hid (show v0 < r ∧ (rounds es (lf0 r) r).last = (v0 : Int) ∧ nth (rounds es (lf0 r) (r - 1)).L v0 < nth (rounds es (lf0 r) r).L v0 from ⟨hv0, hlast, hrose⟩)
      have HG := Lib.hid hg
      have HB := Lib.hid hbr
      rw [hlast]
      clear hg hbr hno hne hv0 hlast hrose hr hlt
      go_wp2_with fail
      clear hd q1
      go_loopw [3, 21] (fun at_ iv wr => ∃ j : Nat, j ≤ r ∧ iv = .int .i64 (j : Int) ∧ at_ = .int .i64 ((wbs es (rounds es (lf0 r) r).B v0 j : Nat) : Int) ∧ wbs es (rounds es (lf0 r) r).B v0 j < r ∧ (j < r → nth (rounds es (lf0 r) (r - 1 - j)).L (wbs es (rounds es (lf0 r) r).B v0 j) < nth (rounds es (lf0 r) r).L (wbs es (rounds es (lf0 r) r).B v0 j)) ∧ Gb wr g gl gb r lv es (rounds es (lf0 r) r).L (rounds es (lf0 r) r).B ∧ Below B0 w wr) (fun _ iv _ => r - (intOf iv).toNat)
      case atStart => exact ⟨0, Nat.zero_le _, rfl, rfl, HV.out.1, fun _ => HV.out.2.2, HG.out, HB.out⟩
      case round =>
        clear HG HB
        obtain ⟨j, hj, rfl, rfl, hvr, hro, hg, hbr⟩ := hrel
        by_cases hlt : j < r
        · obtain ⟨i, hi, hBi, hwb, hfr, hnx⟩ := rose_back HT.out (show (lf0 r).L = List.replicate r 0 from rfl) (show (lf0 r).B.length = r from byTo_len r r) HNT.out (N := r) (q := r - 1 - j) hvr (hro hlt) (by omega)
          have hd : decide ((j : Int) < (r : Int)) = true := by simpa using hlt
          have i3 : j ≤ 500 := by have := HP.out; omega
          have HK := Lib.hid (show j < r ∧ r ≤ 500 from ⟨hlt, by have := HP.out; omega⟩)
          have HG := Lib.hid hg
          have HB := Lib.hid hbr
          have HX := Lib.hid (show wbs es (rounds es (lf0 r) r).B v0 j < r ∧ i < es.length ∧ nth (rounds es (lf0 r) r).B (wbs es (rounds es (lf0 r) r).B v0 j) = (i : Int) ∧ (egAt es i).fr < r from ⟨hvr, hi, hBi, hfr⟩)
          have HY := Lib.hid (show (egAt es i).fr = wbs es (rounds es (lf0 r) r).B v0 (j + 1) from hwb.symm)
          have HZ := Lib.hid (show j + 1 < r → nth (rounds es (lf0 r) (r - 1 - (j + 1))).L (egAt es i).fr < nth (rounds es (lf0 r) r).L (egAt es i).fr from fun h => by
            have := hnx (by omega)
            rwa [show r - 1 - j - 1 = r - 1 - (j + 1) by omega] at this)
          clear hvr hro hg hbr hi hBi hwb hfr hnx hj
          go_wp2_with fail
          clear hlt
          refine (last_c wr g gl gb r lv es _ _ _ i HG.out HX.out.1 HX.out.2.1 HX.out.2.2.1).mono ?_; rintro e w2 ⟨rfl, hb2⟩
          have HG2 := Lib.hid (HG.out.later hb2)
          have HB2 := Lib.hid (HB.out.trans (hb2.mono (by have := HG.out.rl.lt; have := HP.out; omega)))
          have hf0 := eg_field0 ((egAt es i).fr : Int) ((egAt es i).to : Int) (egAt es i).more (egAt es i).cell (egAt es i).high w2
          clear hb2
          go_wp2_with fail
          go_roundw
          case rel => exact ⟨j + 1, by have := HK.out; omega, by go_num, by rw [← HY.out], by rw [← HY.out]; exact HX.out.2.2.2, fun h => by rw [← HY.out]; exact HZ.out h, HG2.out, HB2.out⟩
          case measure => have := HK.out; simp [intOf]; omega
        · obtain rfl : j = r := by omega
          have hd : decide ((j : Int) < (j : Int)) = false := by simp
          have HG := Lib.hid hg
          have HB := Lib.hid hbr
          have HX := Lib.hid hvr
          clear hg hbr hro hvr hj hlt
          go_wp2_with fail
          go_ret
          exact ⟨HB.out, .inr ⟨HNE.out, v0, HV.out.1, HV.out.2.1, rfl, HX.out, HG.out⟩⟩

end Go.Proofs.Ytfafjojoapcliaa

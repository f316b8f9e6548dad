/- What first cells gain at most, and the value of prices: the program's side. -/
import Derived.Test.YtfafjojoapcliaaS1r
import Derived.Test.YtfafjojoapcliaaR6
namespace Go.Proofs.Ytfafjojoapcliaa
open Go.RowKit

theorem IsPrices.box {w : World} {v : Value} {l h : List Int} (hx : IsPrices w w.heap.size v l h) (o : Obj) : IsPrices (w.alloc o) (w.alloc o).heap.size v l h := hx.mono ((Below.refl _ _).alloc (Nat.le_refl _) _) (by simp)

set_option maxRecDepth 100000 in
set_option maxHeartbeats 8000000 in
theorem gainAtMost_c (t : Tk) (l h : List Int) (most : Int) (v u : Value) (w : World) (ht : IsTask w w.heap.size v t) (hx : IsPrices w w.heap.size u l h) (htb : taskB t = true) (hxo : xOk t.need.length l h = true) :
    Calls Try.prog 37 #[v, u, .int .i64 most] w fun e w' => e = .returned (.bool (gainTo l h (tW t) most (tM t))) ∧ Below w.heap.size w w' := by
  have HT := Lib.hid ht
  have HXP := Lib.hid hx
  obtain ⟨s, rfl, A, c, rfl, hcap, hcell⟩ := ht
  obtain ⟨s1, s2, rfl, hl, hh⟩ := hx
  have HLI := Lib.hid hl
  have HHI := Lib.hid hh
  obtain ⟨-, A1, c1, rfl, -, -⟩ := hl
  obtain ⟨-, A2, c2, rfl, -, -⟩ := hh
  have HTB := Lib.hid htb
  have hxp := xOk_iff.1 hxo
  have tp := task_parts htb
  have AR := Lib.hid (show l.length = t.need.length ∧ h.length = t.need.length ∧ cntB l 100000 = true ∧ cntB h 100000 = true ∧ t.wide = (tW t : Int) ∧ tM t + tW t = t.need.length + 1 ∧ 1 ≤ tM t ∧ 1 ≤ tW t ∧ t.need.length ≤ 400 from ⟨hxp.1, hxp.2.1, hxp.2.2.1, hxp.2.2.2, tp.1, tp.2.2.1, tp.2.2.2.1, tp.2.2.2.2.1, tp.2.2.2.2.2.1⟩)
  have HB := Lib.hid (show Below w.heap.size w ((w.alloc (.cells #[.int .i64 t.wide, .slice A t.need.length c] 24)).alloc (.cells #[.slice A1 l.length c1, .slice A2 h.length c2] 35)) ∧ Box ((w.alloc (.cells #[.int .i64 t.wide, .slice A t.need.length c] 24)).alloc (.cells #[.slice A1 l.length c1, .slice A2 h.length c2] 35)) w.heap.size 24 #[.int .i64 t.wide, .slice A t.need.length c] ∧ Box ((w.alloc (.cells #[.int .i64 t.wide, .slice A t.need.length c] 24)).alloc (.cells #[.slice A1 l.length c1, .slice A2 h.length c2] 35)) (w.heap.size + 1) 35 #[.slice A1 l.length c1, .slice A2 h.length c2] from
    ⟨((Below.refl _ _).alloc (Nat.le_refl _) _).alloc (by simp) _, (Box.made w _ _).alloc _, by have e := Box.made (w.alloc (.cells #[.int .i64 t.wide, .slice A t.need.length c] 24)) 35 #[.slice A1 l.length c1, .slice A2 h.length c2]; rw [World.size_alloc] at e; exact e⟩)
  clear hcap hcell htb hxo hxp tp
  go_enter Try.func37, Try.ntmps37
  go_wp2_with fail
  refine gain1_c l h (w.heap.size + 1) A1 A2 c1 c2 (by have := AR.out; omega) (by have := AR.out; omega) AR.out.2.2.1 AR.out.2.2.2.1 _ _ _ _ _ _ _ _ _ _ _ _ _ _ _ _ _ _ _ _ _ _ _ _ _ _ _ _ _ _ _ _ _ _ _ _ _ _ _ _ _ _ _ _ _ _ _ _ _ (HLI.out.mono HB.out.1 HB.out.1.size) (HHI.out.mono HB.out.1 HB.out.1.size) HB.out.2.2 ?_
  rintro _ _ _ _ g1 g2 w2 hr1 hr2 hb2
  have H2 := Lib.hid (show Below w.heap.size w w2 ∧ Box w2 w.heap.size 24 #[.int .i64 t.wide, .slice A t.need.length c] ∧ Row w2 g1 (sumsL l) ∧ Row w2 g2 (sumsL h) from ⟨HB.out.1.trans (hb2.mono HB.out.1.size), HB.out.2.1.later hb2, hr1, hr2⟩)
  have k0 : w2.cell? ⟨w.heap.size, 0, none⟩ = some (.int .i64 t.wide) := H2.out.2.1.cell 0
  have k1 : w2.cell? ⟨w.heap.size, 1, none⟩ = some (.slice A t.need.length c) := H2.out.2.1.cell 1
  clear hb2 hr1 hr2
  go_wp2_with fail
  clear k0 k1
  refine (firstCells_m t _ _ (HT.out.mono H2.out.1 H2.out.1.size) HTB.out).mono ?_; rintro e w3 ⟨rfl, hb3⟩
  have H3 := Lib.hid (show Below w.heap.size w w3 ∧ Box w3 w.heap.size 24 #[.int .i64 t.wide, .slice A t.need.length c] ∧ Row w3 g1 (sumsL l) ∧ Row w3 g2 (sumsL h) from ⟨H2.out.1.trans (hb3.mono H2.out.1.size), H2.out.2.1.later hb3, H2.out.2.2.1.later hb3, H2.out.2.2.2.later hb3⟩)
  clear hb3 H2
  go_wp2_with fail
  go_loopw [19] (fun kv wr => ∃ k : Nat, k ≤ tM t ∧ kv = .int .i64 (k : Int) ∧ gainTo l h (tW t) most k = true ∧ Below w3.heap.size w3 wr) (fun kv _ => tM t - (intOf kv).toNat)
  case atStart => exact ⟨0, Nat.zero_le _, rfl, rfl, Below.refl _ _⟩
  case round =>
    obtain ⟨k, hk, rfl, hg, hbr⟩ := hrel
    have HG := Lib.hid hg
    have HBR := Lib.hid hbr
    clear hg
    by_cases hlt : k < tM t
    · have hd : decide ((k : Int) < (tM t : Int)) = true := by simpa using hlt
      have hd2 : decide (k < tM t) = true := by simpa using hlt
      have r1 := H3.out.2.2.1.later hbr
      have r2 := H3.out.2.2.2.later hbr
      have k0 : wr.cell? ⟨w.heap.size, 0, none⟩ = some (.int .i64 t.wide) := (H3.out.2.1.later hbr).cell 0
      have m1 : wr.cell? ⟨g1, k + tW t, none⟩ = some (.int .i64 (pre l (k + tW t))) := by have := AR.out; rw [r1.cell (by rw [sumsL_len]; omega), sumsL_nth _ _ (by omega)]
      have m2 : wr.cell? ⟨g1, k, none⟩ = some (.int .i64 (pre l k)) := by have := AR.out; rw [r1.cell (by rw [sumsL_len]; omega), sumsL_nth _ _ (by omega)]
      have m3 : wr.cell? ⟨g2, k + tW t, none⟩ = some (.int .i64 (pre h (k + tW t))) := by have := AR.out; rw [r2.cell (by rw [sumsL_len]; omega), sumsL_nth _ _ (by omega)]
      have m4 : wr.cell? ⟨g2, k, none⟩ = some (.int .i64 (pre h k)) := by have := AR.out; rw [r2.cell (by rw [sumsL_len]; omega), sumsL_nth _ _ (by omega)]
      have b1 := pre_bd AR.out.2.2.1 (by omega) (k + tW t)
      have b2 := pre_bd AR.out.2.2.1 (by omega) k
      have b3 := pre_bd AR.out.2.2.2.1 (by omega) (k + tW t)
      have b4 := pre_bd AR.out.2.2.2.1 (by omega) k
      have hkW : ((k + tW t : Nat) : Int) * 100000 ≤ 100000000 := by have := AR.out; omega
      have hk0 : ((k : Nat) : Int) * 100000 ≤ 100000000 := by have := AR.out; omega
      have i0 : (0 : Int) ≤ (k : Int) := by omega
      have i1 : (k : Int) < (l.length : Int) + 1 := by have := AR.out; omega
      have i2 : (k : Int) < (h.length : Int) + 1 := by have := AR.out; omega
      have i3 : (0 : Int) ≤ (k : Int) + t.wide := by have := AR.out; omega
      have i4 : (k : Int) + t.wide < (l.length : Int) + 1 := by have := AR.out; omega
      have i5 : (k : Int) + t.wide < (h.length : Int) + 1 := by have := AR.out; omega
      have i6 : ((k : Int) + t.wide).toNat = k + tW t := by have := AR.out; omega
      have i7 : k ≤ 400 := by have := AR.out; omega
      have ww : IntKind.i64.wrap ((k : Int) + t.wide) = (k : Int) + t.wide := by have := AR.out; exact wrap_id (by omega) (by omega)
      have HGF := Lib.hid (fun hh => gainTo_false (l := l) (h := h) (W := tW t) (most := most) hlt hh)
      have HGS := Lib.hid (gainTo_succ l h (tW t) most k)
      have HK := Lib.hid hlt
      have hga : gainAt l h (tW t) k = pre l (k + tW t) - pre l k - (pre h (k + tW t) - pre h k) := rfl
      clear r1 r2 hbr hk hlt
      generalize gainAt l h (tW t) k = ga at *
      generalize pre l (k + tW t) = a1 at *
      generalize pre l k = a0 at *
      generalize pre h (k + tW t) = e1 at *
      generalize pre h k = e0 at *
      have w1 : IntKind.i64.wrap (a1 - a0) = a1 - a0 := wrap_id (by omega) (by omega)
      have w2' : IntKind.i64.wrap (e1 - e0) = e1 - e0 := wrap_id (by omega) (by omega)
      have w3' : IntKind.i64.wrap (a1 - a0 - (e1 - e0)) = a1 - a0 - (e1 - e0) := wrap_id (by omega) (by omega)
      have HGA := Lib.hid hga
      have Hbd := Lib.hid (show ∀ nq, Below w3.heap.size w3 (wr.drewN nq) from fun nq => ⟨HBR.out.os, HBR.out.tape, HBR.out.output, HBR.out.size, HBR.out.block⟩)
      clear b1 b2 b3 b4 hkW hk0 hga
      by_cases hc : most < a1 - a0 - (e1 - e0)
      · have hdc : decide (most < a1 - a0 - (e1 - e0)) = true := by simpa using hc
        have HR := Lib.hid (HGF.out (by rw [HGA.out]; exact hc))
        clear hc
        go_wp2_with fail
        go_quiet (fail)
        go_wp2_with fail
        go_ret
        exact ⟨ret_bool HR.out.symm, H3.out.1.trans ((Hbd.out _).mono H3.out.1.size)⟩
      · have hdc : decide (most < a1 - a0 - (e1 - e0)) = false := by simpa using hc
        have HR := Lib.hid (show gainTo l h (tW t) most (k + 1) = true by rw [HGS.out, HG.out, HGA.out]; simp; omega)
        clear hc
        go_wp2_with fail
        go_quiet (fail)
        go_wp2_with fail
        go_roundw
        case rel => exact ⟨k + 1, by have := HK.out; omega, by go_num, HR.out, Hbd.out _⟩
        case measure => have := HK.out; simp [intOf]; omega
    · obtain rfl : k = tM t := by omega
      have hd : decide ((tM t : Int) < (tM t : Int)) = false := by simp
      clear hk hlt hbr
      go_wp2_with fail
      go_ret
      exact ⟨ret_bool HG.out.symm, H3.out.1.trans (HBR.out.mono H3.out.1.size)⟩

end Go.Proofs.Ytfafjojoapcliaa

/- Prices of the specification: the greatest gain and the value. -/
import Derived.Test.YtfafjojoapcliaaS3
namespace Go.Proofs.Ytfafjojoapcliaa
open Go.RowKit

/-- the greatest gain, as far as it has come -/
def mgTo (l h : List Int) (W : Nat) : Nat → Int
  | 0 => 0
  | k + 1 => if k = 0 ∨ mgTo l h W k < gainAt l h W k then gainAt l h W k else mgTo l h W k
theorem mg_gain (l h : List Int) (W : Nat) (most : Int) (m : Nat) (hm : 1 ≤ m) : gainTo l h W most m = decide (mgTo l h W m ≤ most) := by
  induction m with
  | zero => omega
  | succ m ih =>
    rw [gainTo_succ, mgTo]
    by_cases h0 : m = 0
    · subst h0
      rw [if_pos (.inl rfl)]
      simp [gainTo]
    · rw [ih (by omega)]
      by_cases h1 : mgTo l h W m < gainAt l h W m
      · rw [if_pos (.inr h1)]
        by_cases h2 : gainAt l h W m ≤ most
        · simp [h2]; omega
        · simp [h2]
      · rw [if_neg (by omega)]
        by_cases h2 : mgTo l h W m ≤ most
        · simp [h2]; omega
        · simp [h2]
def okX (n : Nat) (l : List Int) : Bool := decide ((l.length : Int) = (n : Int)) && cntB l 100000
theorem okX_two (n : Nat) (l h : List Int) : xOk n l h = (okX n l && okX n h) := by
  unfold xOk okX
  have e1 : decide ((l.length : Int) = (n : Int)) = decide (l.length = n) := by congr 1; exact propext ⟨fun h => by omega, fun h => by omega⟩
  have e2 : decide ((h.length : Int) = (n : Int)) = decide (h.length = n) := by congr 1; exact propext ⟨fun h => by omega, fun h => by omega⟩
  rw [e1, e2]
  cases decide (l.length = n) <;> cases decide (h.length = n) <;> cases cntB l 100000 <;> cases cntB h 100000 <;> rfl
/-- what stands between: the sum of what some cells of a stroke gain -/
def partG (l h : List Int) (i k : Nat) : Int := pre l k - pre l i - (pre h k - pre h i)

set_option maxRecDepth 100000 in
set_option maxHeartbeats 16000000 in
theorem priced_c (t : Tk) (l h : List Int) (v u : Value) (w : World) (ht : IsTask w w.heap.size v t) (hx : IsPrices w w.heap.size u l h) (htb : taskB t = true) :
    Calls Try.prog 39 #[v, u] w fun e w' => Below w.heap.size w w' ∧ ((xOk t.need.length l h = false ∧ e = .returned (.tuple #[.int .i64 0, .int .i64 0, .bool false])) ∨
      (xOk t.need.length l h = true ∧ e = .returned (.tuple #[.int .i64 (mgTo l h (tW t) (tM t)), .int .i64 (valTo t.need l h t.need.length), .bool true]))) := by
  have HT := Lib.hid ht
  obtain ⟨s, rfl, A, c, rfl, hcap, hcell⟩ := ht
  obtain ⟨s1, s2, rfl, hl, hh⟩ := hx
  have HLI := Lib.hid hl
  have HHI := Lib.hid hh
  obtain ⟨-, A1, c1, rfl, -, hcl⟩ := hl
  obtain ⟨-, A2, c2, rfl, -, hch⟩ := hh
  have HC := Lib.hid hcell
  have HCL := Lib.hid hcl
  have HCH := Lib.hid hch
  have HTP := Lib.hid (task_parts htb)
  have HB := Lib.hid (show Below w.heap.size w ((w.alloc (.cells #[.int .i64 t.wide, .slice A t.need.length c] 24)).alloc (.cells #[.slice A1 l.length c1, .slice A2 h.length c2] 35)) ∧ Box ((w.alloc (.cells #[.int .i64 t.wide, .slice A t.need.length c] 24)).alloc (.cells #[.slice A1 l.length c1, .slice A2 h.length c2] 35)) w.heap.size 24 #[.int .i64 t.wide, .slice A t.need.length c] ∧ Box ((w.alloc (.cells #[.int .i64 t.wide, .slice A t.need.length c] 24)).alloc (.cells #[.slice A1 l.length c1, .slice A2 h.length c2] 35)) (w.heap.size + 1) 35 #[.slice A1 l.length c1, .slice A2 h.length c2] from
    ⟨((Below.refl _ _).alloc (Nat.le_refl _) _).alloc (by simp) _, (Box.made w _ _).alloc _, by have e := Box.made (w.alloc (.cells #[.int .i64 t.wide, .slice A t.need.length c] 24)) 35 #[.slice A1 l.length c1, .slice A2 h.length c2]; rw [World.size_alloc] at e; exact e⟩)
  clear hcap hcell htb hcl hch
  have HX := Lib.hid (okX_two t.need.length l h)
  cases h1 : okX t.need.length l
  · have HXO := Lib.hid (show xOk t.need.length l h = false by rw [HX.out, h1]; rfl)
    have H1 := Lib.hid h1
    clear h1
    go_enter Try.func39, Try.ntmps39
    go_wp2_with fail
    refine (counts_b l t.need.length false H1.out _ _ (HLI.out.mono HB.out.1 HB.out.1.size)).mono ?_; rintro e w1 ⟨rfl, rfl⟩
    go_wp2_with fail
    go_ret3
    exact ⟨HB.out.1, .inl ⟨HXO.out, rfl⟩⟩
  have H1 := Lib.hid h1
  cases h2 : okX t.need.length h
  · have HXO := Lib.hid (show xOk t.need.length l h = false by rw [HX.out, h1, h2]; rfl)
    have H2 := Lib.hid h2
    clear h1 h2
    go_enter Try.func39, Try.ntmps39
    go_wp2_with fail
    refine (counts_b l t.need.length true H1.out _ _ (HLI.out.mono HB.out.1 HB.out.1.size)).mono ?_; rintro e w1 ⟨rfl, rfl⟩
    go_wp2_with fail
    refine (counts_b h t.need.length false H2.out _ _ (HHI.out.mono HB.out.1 HB.out.1.size)).mono ?_; rintro e w1 ⟨rfl, rfl⟩
    go_wp2_with fail
    go_ret3
    exact ⟨HB.out.1, .inl ⟨HXO.out, rfl⟩⟩
  have H2 := Lib.hid h2
  have HXO := Lib.hid (show xOk t.need.length l h = true by rw [HX.out, h1, h2]; rfl)
  have AR := Lib.hid (show l.length = t.need.length ∧ h.length = t.need.length ∧ cntB l 100000 = true ∧ cntB h 100000 = true ∧ t.need.length ≤ 400 ∧ t.need.all okP = true ∧ t.wide = (tW t : Int) ∧ firsts t = (tM t : Int) ∧ tM t + tW t = t.need.length + 1 ∧ 1 ≤ tM t ∧ 1 ≤ tW t ∧ szB t = true from by
    have hxp := xOk_iff.1 HXO.out
    have tp := HTP.out
    exact ⟨hxp.1, hxp.2.1, hxp.2.2.1, hxp.2.2.2, tp.2.2.2.2.2.1, tp.2.2.2.2.2.2.2, tp.1, tp.2.1, tp.2.2.1, tp.2.2.2.1, tp.2.2.2.2.1, tp.2.2.2.2.2.2.1⟩)
  clear h1 h2
  go_enter Try.func39, Try.ntmps39
  go_wp2_with fail
  refine (counts_b l t.need.length true H1.out _ _ (HLI.out.mono HB.out.1 HB.out.1.size)).mono ?_; rintro e w1 ⟨rfl, rfl⟩
  go_wp2_with fail
  refine (counts_b h t.need.length true H2.out _ _ (HHI.out.mono HB.out.1 HB.out.1.size)).mono ?_; rintro e w1 ⟨rfl, rfl⟩
  obtain ⟨W0, hW0⟩ : ∃ W0, (w.alloc (.cells #[.int .i64 t.wide, .slice A t.need.length c] 24)).alloc (.cells #[.slice A1 l.length c1, .slice A2 h.length c2] 35) = W0 := ⟨_, rfl⟩
  rw [hW0] at HB ⊢
  clear hW0
  go_wp2_with fail
  go_loopw [7, 8] (fun sv kv wr => ∃ k : Nat, k ≤ t.need.length ∧ kv = .int .i64 (k : Int) ∧ sv = .int .i64 (valTo t.need l h k) ∧ Below W0.heap.size W0 wr) (fun _ kv _ => t.need.length - (intOf kv).toNat)
  case atStart => exact ⟨0, Nat.zero_le _, rfl, rfl, Below.refl _ _⟩
  case round =>
    obtain ⟨k, hk, rfl, rfl, hbr⟩ := hrel
    have HBR := Lib.hid hbr
    have hbx1 := HB.out.2.1.later hbr
    have hbx2 := HB.out.2.2.later hbr
    have g1 : wr.cell? ⟨w.heap.size, 1, none⟩ = some (.slice A t.need.length c) := hbx1.cell 1
    by_cases hlt : k < t.need.length
    · have hd : decide ((k : Int) < (t.need.length : Int)) = true := by simpa using hlt
      have hbw := HB.out.1.trans (hbr.mono HB.out.1.size)
      obtain ⟨b, off, rfl, hbB, hcc⟩ := HC.out (by omega)
      obtain ⟨b1, off1, rfl, hbB1, hcc1⟩ := HCL.out (by have := AR.out; omega)
      obtain ⟨b2, off2, rfl, hbB2, hcc2⟩ := HCH.out (by have := AR.out; omega)
      obtain ⟨y0, y1⟩ := hcc k hlt
      have q0 := keepd y0 hbw hbB
      have q1 := keepd y1 hbw hbB
      have p1 := keepd (hcc1 k (by have := AR.out; omega)) hbw hbB1
      have p2 := keepd (hcc2 k (by have := AR.out; omega)) hbw hbB2
      have g2 : wr.cell? ⟨w.heap.size + 1, 0, none⟩ = some (.slice (some ⟨b1, off1, none⟩) l.length c1) := hbx2.cell 0
      have g3 : wr.cell? ⟨w.heap.size + 1, 1, none⟩ = some (.slice (some ⟨b2, off2, none⟩) h.length c2) := hbx2.cell 1
      have i0 : (0 : Int) ≤ (k : Int) := by omega
      have i1 : (k : Int) < (t.need.length : Int) := by omega
      have i2 : (k : Int) < (l.length : Int) := by have := AR.out; omega
      have i3 : (k : Int) < (h.length : Int) := by have := AR.out; omega
      have i7 : k ≤ 400 := by have := AR.out; omega
      have hv := valTo_bd AR.out.2.2.2.2.2.1 AR.out.2.2.1 AR.out.2.2.2.1 k (by omega)
      have h2 := okP_bd AR.out.2.2.2.2.2.1 hlt
      have h3 := cntB_nth AR.out.2.2.1 k (by omega)
      have h4 := cntB_nth AR.out.2.2.2.1 k (by omega)
      have h5 := prod_bd (a := (nthP t.need k).1) (b := nth l k) (by omega) (by omega) h3.1 h3.2
      have h6 := prod_bd (a := (nthP t.need k).2) (b := nth h k) (by omega) (by omega) h4.1 h4.2
      have hk4 : ((k : Nat) : Int) * 10000000000 ≤ 4000000000000 := by omega
      have HS := Lib.hid (show valTo t.need l h (k + 1) = valTo t.need l h k + ((nthP t.need k).1 * nth l k - (nthP t.need k).2 * nth h k) from rfl)
      have HK := Lib.hid hlt
      have Hbd := Lib.hid (show ∀ nq, Below W0.heap.size W0 (wr.drewN nq) from fun nq => ⟨hbr.os, hbr.tape, hbr.output, hbr.size, hbr.block⟩)
      clear hbr hbx1 hbx2 hlt hk hcc hcc1 hcc2 y0 y1 h2 h3 h4 hbB hbB1 hbB2 hbw
      generalize valTo t.need l h k = vt at *
      generalize (nthP t.need k).1 = lo at *
      generalize (nthP t.need k).2 = hi at *
      generalize nth l k = lk at *
      generalize nth h k = hk at *
      have w1 : IntKind.i64.wrap (lo * lk) = lo * lk := wrap_id (by omega) (by omega)
      have w2 : IntKind.i64.wrap (hi * hk) = hi * hk := wrap_id (by omega) (by omega)
      have w3 : IntKind.i64.wrap (lo * lk - hi * hk) = lo * lk - hi * hk := wrap_id (by omega) (by omega)
      have w4 : IntKind.i64.wrap (vt + (lo * lk - hi * hk)) = vt + (lo * lk - hi * hk) := wrap_id (by omega) (by omega)
      clear hv h5 h6 hk4
      go_wp2_with fail
      go_quiet (fail)
      generalize nq = n1 at *
      go_wp2_with fail
      go_roundw
      case rel => exact ⟨k + 1, by have := HK.out; omega, by go_num, by rw [HS.out], Hbd.out _⟩
      case measure => have := HK.out; simp [intOf]; omega
    · obtain rfl : k = t.need.length := by omega
      have hd : decide ((t.need.length : Int) < (t.need.length : Int)) = false := by simp
      have HV := Lib.hid (show valTo t.need l h t.need.length = valTo t.need l h t.need.length from rfl)
      clear hbr hlt hk hbx1 hbx2
      generalize hvt : valTo t.need l h t.need.length = vt at *
      have HVT := Lib.hid hvt
      clear hvt
      go_wp2_with fail
      clear hd g1
      go_loopw [9, 10] (fun gv iv wr => ∃ i : Nat, i ≤ tM t ∧ iv = .int .i64 (i : Int) ∧ gv = .int .i64 (mgTo l h (tW t) i) ∧ Below W0.heap.size W0 wr) (fun _ iv _ => tM t - (intOf iv).toNat)
      case atStart => exact ⟨0, Nat.zero_le _, rfl, rfl, HBR.out⟩
      case round =>
        clear HBR
        obtain ⟨i, hi, rfl, rfl, hbr⟩ := hrel
        have k0 : wr.cell? ⟨w.heap.size, 0, none⟩ = some (.int .i64 t.wide) := (HB.out.2.1.later hbr).cell 0
        have k1 : wr.cell? ⟨w.heap.size, 1, none⟩ = some (.slice A t.need.length c) := (HB.out.2.1.later hbr).cell 1
        have HBR := Lib.hid hbr
        have HI := Lib.hid hi
        clear hbr hi
        generalize hmg : mgTo l h (tW t) i = mg at *
        have HMG := Lib.hid hmg
        clear hmg
        go_wp2_with fail
        clear k0 k1
        have hbw : Below w.heap.size w wr := HB.out.1.trans (HBR.out.mono HB.out.1.size)
        refine (rFirsts_c t _ _ (HT.out.mono hbw hbw.size) AR.out.2.2.2.2.2.2.2.2.2.2.2).mono ?_; rintro e w5 ⟨rfl, hb5⟩
        rw [AR.out.2.2.2.2.2.2.2.1]
        have H5 := Lib.hid (show Below W0.heap.size W0 w5 from HBR.out.trans (hb5.mono HBR.out.size))
        clear hb5 hbw
        by_cases hlt : i < tM t
        · have hd : decide ((i : Int) < (tM t : Int)) = true := by simpa using hlt
          have hd2 : decide (i < tM t) = true := by simpa using hlt
          have HK := Lib.hid hlt
          clear hlt
          go_wp2_with fail
          clear hd hd2
          go_loopw [11, 12] (fun nv kv wr => ∃ k : Nat, i ≤ k ∧ k ≤ i + tW t ∧ kv = .int .i64 (k : Int) ∧ nv = .int .i64 (partG l h i k) ∧ Below W0.heap.size W0 wr) (fun _ kv _ => i + tW t - (intOf kv).toNat)
          case atStart => exact ⟨i, Nat.le_refl _, by omega, rfl, by unfold partG; simp, H5.out⟩
          case round =>
            clear H5
            obtain ⟨k, hik, hk, rfl, rfl, hbr⟩ := hrel
            have hbx1 := HB.out.2.1.later hbr
            have hbx2 := HB.out.2.2.later hbr
            have g0 : wr.cell? ⟨w.heap.size, 0, none⟩ = some (.int .i64 t.wide) := hbx1.cell 0
            have HBR := Lib.hid hbr
            have ww : IntKind.i64.wrap ((i : Int) + t.wide) = (i : Int) + t.wide := by have := AR.out; have := HK.out; exact wrap_id (by omega) (by omega)
            by_cases hlt : k < i + tW t
            · have hd : decide ((k : Int) < (i : Int) + t.wide) = true := by have := AR.out; simp; omega
              have hkn : k < t.need.length := by have := AR.out; have := HK.out; omega
              have hbw := HB.out.1.trans (hbr.mono HB.out.1.size)
              obtain ⟨b1, off1, rfl, hbB1, hcc1⟩ := HCL.out (by have := AR.out; omega)
              obtain ⟨b2, off2, rfl, hbB2, hcc2⟩ := HCH.out (by have := AR.out; omega)
              have p1 := keepd (hcc1 k (by have := AR.out; omega)) hbw hbB1
              have p2 := keepd (hcc2 k (by have := AR.out; omega)) hbw hbB2
              have g2 : wr.cell? ⟨w.heap.size + 1, 0, none⟩ = some (.slice (some ⟨b1, off1, none⟩) l.length c1) := hbx2.cell 0
              have g3 : wr.cell? ⟨w.heap.size + 1, 1, none⟩ = some (.slice (some ⟨b2, off2, none⟩) h.length c2) := hbx2.cell 1
              have i0 : (0 : Int) ≤ (k : Int) := by omega
              have i2 : (k : Int) < (l.length : Int) := by have := AR.out; omega
              have i3 : (k : Int) < (h.length : Int) := by have := AR.out; omega
              have i7 : k ≤ 400 := by have := AR.out; omega
              have h3 := cntB_nth AR.out.2.2.1 k (by omega)
              have h4 := cntB_nth AR.out.2.2.2.1 k (by omega)
              have b1' := pre_bd AR.out.2.2.1 (by omega) k
              have b2' := pre_bd AR.out.2.2.1 (by omega) i
              have b3' := pre_bd AR.out.2.2.2.1 (by omega) k
              have b4' := pre_bd AR.out.2.2.2.1 (by omega) i
              have hk4 : ((k : Nat) : Int) * 100000 ≤ 40000000 := by omega
              have hi4 : ((i : Nat) : Int) * 100000 ≤ 40000000 := by omega
              have hpb : -100000000 ≤ partG l h i k ∧ partG l h i k ≤ 100000000 := by unfold partG; omega
              have HS := Lib.hid (show partG l h i (k + 1) = partG l h i k + (nth l k - nth h k) by unfold partG; rw [pre, pre]; omega)
              have HKK := Lib.hid (show i ≤ k ∧ k < i + tW t from ⟨hik, hlt⟩)
              have Hbd := Lib.hid (show ∀ nq, Below W0.heap.size W0 (wr.drewN nq) from fun nq => ⟨hbr.os, hbr.tape, hbr.output, hbr.size, hbr.block⟩)
              clear hbr hbx1 hbx2 hlt hk hik hkn hcc1 hcc2 hbB1 hbB2 hbw b1' b2' b3' b4' hk4 hi4
              generalize partG l h i k = pg at *
              generalize nth l k = lk at *
              generalize nth h k = hk at *
              have w1 : IntKind.i64.wrap (lk - hk) = lk - hk := wrap_id (by omega) (by omega)
              have w4 : IntKind.i64.wrap (pg + (lk - hk)) = pg + (lk - hk) := wrap_id (by omega) (by omega)
              clear hpb h3 h4
              go_wp2_with fail
              go_quiet (fail)
              generalize nq = n1 at *
              go_wp2_with fail
              go_roundw
              case rel => exact ⟨k + 1, by have := HKK.out; omega, by have := HKK.out; omega, by go_num, by rw [HS.out], Hbd.out _⟩
              case measure => have := HKK.out; simp [intOf]; omega
            · obtain rfl : k = i + tW t := by omega
              rw [show ((i + tW t : Nat) : Int) = (i : Int) + t.wide by have := AR.out; omega]
              have hd : decide ((i : Int) + t.wide < (i : Int) + t.wide) = false := by simp
              have i7 : i ≤ 400 := by have := AR.out; have := HK.out; omega
              have hga : partG l h i (i + tW t) = gainAt l h (tW t) i := rfl
              rw [hga]
              have HS := Lib.hid (show mgTo l h (tW t) (i + 1) = if i = 0 ∨ mg < gainAt l h (tW t) i then gainAt l h (tW t) i else mg by rw [← HMG.out]; rfl)
              clear hga hbr hbx1 hbx2 hlt hk hik
              generalize gainAt l h (tW t) i = ga at *
              by_cases h0 : i = 0
              · have HR := Lib.hid (show mgTo l h (tW t) (i + 1) = ga by rw [HS.out, if_pos (.inl h0)])
                have z1 : ((i : Int) == 0) = true := by simp; omega
                have z2 : (i == 0) = true := by simp; omega
                clear h0
                go_wp2_with fail
                go_roundw
                case rel => exact ⟨i + 1, by have := HK.out; omega, by go_num, by rw [HR.out], HBR.out⟩
                case measure => have := HK.out; simp [intOf]; omega
              · have z1 : ((i : Int) == 0) = false := by simp; omega
                have z2 : (i == 0) = false := by simp; omega
                by_cases hc : mg < ga
                · have HR := Lib.hid (show mgTo l h (tW t) (i + 1) = ga by rw [HS.out, if_pos (.inr hc)])
                  have z3 : decide (mg < ga) = true := by simpa using hc
                  clear h0 hc
                  go_wp2_with fail
                  go_roundw
                  case rel => exact ⟨i + 1, by have := HK.out; omega, by go_num, by rw [HR.out], HBR.out⟩
                  case measure => have := HK.out; simp [intOf]; omega
                · have HR := Lib.hid (show mgTo l h (tW t) (i + 1) = mg by rw [HS.out, if_neg (by omega)])
                  have z3 : decide (mg < ga) = false := by simpa using hc
                  clear h0 hc
                  go_wp2_with fail
                  go_roundw
                  case rel => exact ⟨i + 1, by have := HK.out; omega, by go_num, by rw [HR.out], HBR.out⟩
                  case measure => have := HK.out; simp [intOf]; omega
        · obtain rfl : i = tM t := by have := HI.out; omega
          have hd : decide ((tM t : Int) < (tM t : Int)) = false := by simp
          clear hlt
          go_wp2_with fail
          go_ret3
          exact ⟨HB.out.1.trans (H5.out.mono HB.out.1.size), .inr ⟨HXO.out, by rw [HMG.out, HVT.out]; rfl⟩⟩

end Go.Proofs.Ytfafjojoapcliaa

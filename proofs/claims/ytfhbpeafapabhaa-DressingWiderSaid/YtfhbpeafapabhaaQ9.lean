/- DressingSums: the law. -/
import Derived.Test.YtfhbpeafapabhaaQ9r
import Derived.Test.YtfhbpeafapabhaaQ6
namespace Go.Proofs.Ytfhbpeafapabhaa
open Go.RowKit

theorem Covers_z (t : Tk) (p : List Int) (W : Nat) (h0 : covE t p = 0) (hW : t.wide = (W : Int)) (v u : Value) (w : World) (h : IsTask w w.heap.size v t) (hp : Ints w w.heap.size u p) :
    Calls Try.prog 21 #[v, u] w (RetL w (covL p W t.need.length) 0) := by
  obtain ⟨h1, h2⟩ := covE_zero h0
  have e := (covE_ok h1 h2).2.1
  rw [show t.wide.toNat = W by omega] at e
  have c := Covers_c t p v u w h hp
  rw [e, h0] at c
  exact c
theorem Covers_e (t : Tk) (p : List Int) (E : Int) (hE : covE t p = E) (v u : Value) (w : World) (h : IsTask w w.heap.size v t) (hp : Ints w w.heap.size u p) :
    Calls Try.prog 21 #[v, u] w (RetL w (covR t p) E) := by
  have c := Covers_c t p v u w h hp
  rw [hE] at c
  exact c
theorem Total_e (p : List Int) (tv te : Int) (h1 : totV p = tv) (h2 : totE p = te) (v : Value) (w : World) (hp : Ints w w.heap.size v p) : Calls Try.prog 23 #[v] w (Ret2 w tv te) := by
  have c := Total_c p v w hp
  rw [h1, h2] at c
  exact c

/-- what memory looks like while two plans are put together -/
structure SmSt (w wr : World) (t : Tk) (s : Value) (a b : List Int) (k : Nat) (ov : Value) : Prop where
  b0 : Box wr w.heap.size 24 #[.int .i64 t.wide, s]
  own : wr.ownsRow (w.heap.size + 1) 3 1 ov k (ints (bothTo a b k))
  bel : Below w.heap.size w wr
theorem SmSt.later {w wr W : World} {t : Tk} {s ov : Value} {a b : List Int} {k : Nat} (h : SmSt w wr t s a b k ov) (hb : Below wr.heap.size wr W) : SmSt w W t s a b k ov :=
  ⟨h.b0.later hb, own_later h.own hb, h.bel.trans (hb.mono h.bel.size)⟩
theorem SmSt.more {w wr w7 : World} {t : Tk} {s ov v' : Value} {a b : List Int} {k : Nat} (h : SmSt w wr t s a b k ov)
    (hown : w7.ownsRow (w.heap.size + 1) 3 1 v' (k + 1) (ints (bothTo a b k) ++ [.int .i64 (nth a k + nth b k)])) (hg : (wr.alloc (.cells #[.int .i64 (nth a k + nth b k)] 3)).grownBy w7 ov.ownBlock) : SmSt w w7 t s a b (k + 1) v' := by
  have ho6 := h.own.alloc (.cells #[.int .i64 (nth a k + nth b k)] 3)
  have hlt := h.b0.lt
  refine ⟨(h.b0.alloc _).grown hg (own_ne ho6), ?_, ?_⟩
  · rw [bothTo_snoc, ints_snoc]; exact hown
  · exact (h.bel.alloc (by omega) _).grown hg (by simp; omega) (fun q e => by have := (ho6.lt q e).1; omega)

set_option maxRecDepth 100000 in
set_option maxHeartbeats 8000000 in
theorem DressingSums_c (t : Tk) (a b : List Int) (v u u' : Value) (w : World) (h : IsTask w w.heap.size v t) (ha : Ints w w.heap.size u a) (hb : Ints w w.heap.size u' b) :
    Calls Try.prog 12 #[v, u, u'] w fun e w' => e = .returned (.bool true) ∧ Below w.heap.size w w' := by
  have HT := Lib.hid h
  have HA := Lib.hid ha
  have HB := Lib.hid hb
  obtain ⟨s, rfl, A, c, rfl, hcap, hcell⟩ := h
  obtain ⟨hla, Aa, ca, rfl, hcapa, hcella⟩ := ha
  obtain ⟨hlb, Ab, cb, rfl, hcapb, hcellb⟩ := hb
  have HBX := Lib.hid (Box.made w 24 #[.int .i64 t.wide, .slice A t.need.length c])
  have HCa := Lib.hid hcella
  have HCb := Lib.hid hcellb
  clear hcap hcell hcapa hcella hcapb hcellb hla hlb
  go_enter Try.func12, Try.ntmps12
  go_wp2_with fail
  refine (awake_c _).mono ?_; rintro e w1 ⟨rfl, hb1⟩
  have H1 := Lib.hid (show Below w.heap.size w w1 ∧ Box w1 w.heap.size 24 #[.int .i64 t.wide, .slice A t.need.length c] from ⟨boxed hb1, HBX.out.later hb1⟩)
  have k0 : w1.cell? ⟨w.heap.size, 0, none⟩ = some (.int .i64 t.wide) := H1.out.2.cell 0
  have k1 : w1.cell? ⟨w.heap.size, 1, none⟩ = some (.slice A t.need.length c) := H1.out.2.cell 1
  clear hb1
  go_wp2_with fail
  refine (short_c t _ _ (HT.out.mono H1.out.1 H1.out.1.size)).mono ?_; rintro e w2 ⟨rfl, hb2⟩
  have H2 := Lib.hid (show Below w.heap.size w w2 ∧ Box w2 w.heap.size 24 #[.int .i64 t.wide, .slice A t.need.length c] from ⟨H1.out.1.trans (hb2.mono H1.out.1.size), H1.out.2.later hb2⟩)
  clear k0 k1 hb2
  cases hsh : shortB t
  · clear hsh
    go_wp2_with fail
    go_ret
    exact ⟨rfl, H2.out.1⟩
  clear hsh
  by_cases h1 : a.length ≤ 1000
  case neg =>
    have d1 : decide ((1000 : Int) < (a.length : Int)) = true := by simp; omega
    have d2 : decide (1000 < a.length) = true := by simp; omega
    clear h1
    go_wp2_with fail
    go_ret
    exact ⟨rfl, H2.out.1⟩
  have d1 : decide ((1000 : Int) < (a.length : Int)) = false := by simp; omega
  have d2 : decide (1000 < a.length) = false := by simp; omega
  have HL := Lib.hid h1
  clear h1
  by_cases h2 : b.length = a.length
  case neg =>
    have d3 : ((b.length : Int) != (a.length : Int)) = true := by simp; omega
    clear h2
    go_wp2_with fail
    go_ret
    exact ⟨rfl, H2.out.1⟩
  have d3 : ((b.length : Int) != (a.length : Int)) = false := by simp [h2]
  have HLB := Lib.hid h2
  clear h2
  have HST := Lib.hid (show SmSt w w2 t (.slice A t.need.length c) a b 0 (.slice none 0 0) from ⟨H2.out.2, World.ownsRow_nil _ _ _ _, H2.out.1⟩)
  go_wp2_with fail
  clear d1 d2 d3
  go_loopw [8, 9] (fun ov i wr => ∃ k : Nat, k ≤ a.length ∧ i = .int .i64 (k : Int) ∧ cntB (a.take k) 50000 = true ∧ cntB (b.take k) 50000 = true ∧ SmSt w wr t (.slice A t.need.length c) a b k ov) (fun _ i _ => a.length - (intOf i).toNat)
  case atStart => exact ⟨0, Nat.zero_le _, rfl, rfl, rfl, HST.out⟩
  case round =>
    clear HST
    obtain ⟨k, hk, rfl, hca, hcb, hst⟩ := hrel
    by_cases hlt : k < a.length
    · have hltb : k < b.length := by have := HLB.out; omega
      obtain ⟨b1, o1, rfl, hB1, hc1⟩ := HCa.out (by omega)
      obtain ⟨b2, o2, rfl, hB2, hc2⟩ := HCb.out (by omega)
      have q1 := keepd (hc1 k hlt) hst.bel hB1
      have q2 := keepd (hc2 k hltb) hst.bel hB2
      have HS := Lib.hid hst
      have HCA := Lib.hid (show 0 ≤ nth a k → nth a k ≤ 50000 → cntB (a.take (k + 1)) 50000 = true from fun g1 g2 => by rw [cntB_snoc _ _ _ hlt, hca, inB_iff.2 ⟨g1, g2⟩]; rfl)
      have HCB := Lib.hid (show 0 ≤ nth b k → nth b k ≤ 50000 → cntB (b.take (k + 1)) 50000 = true from fun g1 g2 => by rw [cntB_snoc _ _ _ hltb, hcb, inB_iff.2 ⟨g1, g2⟩]; rfl)
      have hd : decide ((k : Int) < (a.length : Int)) = true := by simpa using hlt
      have i0 : (0 : Int) ≤ (k : Int) := by omega
      have i1 : (k : Int) < (a.length : Int) := by omega
      have i2 : (k : Int) < (b.length : Int) := by omega
      have i3 : k ≤ 1000 := by have := HL.out; omega
      have HK := Lib.hid (show k < a.length ∧ k < b.length ∧ b1 < w.heap.size ∧ b2 < w.heap.size ∧ k ≤ 1000 from ⟨hlt, hltb, hB1, hB2, i3⟩)
      have HX := Lib.hid (show w.cell? ⟨b1, o1 + k, none⟩ = some (.int .i64 (nth a k)) ∧ w.cell? ⟨b2, o2 + k, none⟩ = some (.int .i64 (nth b k)) from ⟨hc1 k hlt, hc2 k hltb⟩)
      have HXY := Lib.hid (show ∀ (w1 w7 : World) (v' : Value), SmSt w w1 t (.slice A t.need.length c) a b k u8 → w7.ownsRow (w.heap.size + 1) 3 1 v' (k + 1) (ints (bothTo a b k) ++ [.int .i64 (nth a k + nth b k)]) → (w1.alloc (.cells #[.int .i64 (nth a k + nth b k)] 3)).grownBy w7 u8.ownBlock → SmSt w w7 t (.slice A t.need.length c) a b (k + 1) v' from fun w1 w7 v' g1 g2 g3 => g1.more g2 g3)
      clear hc1 hc2 hca hcb hst hB1 hB2 hltb hk hlt
      generalize nth a k = x at *
      generalize nth b k = y at *
      by_cases c1 : x < 0
      · have e1 : decide (x < 0) = true := by simpa using c1
        clear c1
        go_wp2_with fail
        go_ret
        exact ⟨rfl, HS.out.bel⟩
      have e1 : decide (x < 0) = false := by simpa using c1
      by_cases c2 : 50000 < x
      · have e2 : decide (50000 < x) = true := by simpa using c2
        clear c1 c2
        go_wp2_with fail
        go_ret
        exact ⟨rfl, HS.out.bel⟩
      have e2 : decide (50000 < x) = false := by simpa using c2
      by_cases c3 : y < 0
      · have e3 : decide (y < 0) = true := by simpa using c3
        clear c1 c2 c3
        go_wp2_with fail
        go_ret
        exact ⟨rfl, HS.out.bel⟩
      have e3 : decide (y < 0) = false := by simpa using c3
      by_cases c4 : 50000 < y
      · have e4 : decide (50000 < y) = true := by simpa using c4
        clear c1 c2 c3 c4
        go_wp2_with fail
        go_ret
        exact ⟨rfl, HS.out.bel⟩
      have e4 : decide (50000 < y) = false := by simpa using c4
      have HP := Lib.hid (show (0 ≤ x ∧ x ≤ 50000) ∧ 0 ≤ y ∧ y ≤ 50000 by omega)
      clear c1 c2 c3 c4
      go_wp2_with fail
      clear e1 e2 e3 e4 q1 q2 hd
      have hbw : Below wr.heap.size wr wr.drew := (Below.refl _ _).drew
      have hs1 := HS.out.later hbw
      have q1 := keepd HX.out.1 HS.out.bel HK.out.2.2.1
      have q2 := keepd HX.out.2 HS.out.bel HK.out.2.2.2.1
      have wv : IntKind.i64.wrap (x + y) = x + y := by have := HP.out; exact wrap_id (by omega) (by omega)
      obtain ⟨i0', hi, hz0, hz1, hz2⟩ : ∃ i, Try.prog.info? 3 = some i ∧ i.zero = some (.int .i64 0) ∧ i.size = 1 ∧ i.bytes = 8 := ⟨_, rfl, rfl, rfl, rfl⟩
      have HN := Lib.hid (news_int wr.drew (x + y))
      have HS1 := Lib.hid hs1
      have HO := Lib.hid (hs1.own.alloc (.cells #[.int .i64 (x + y)] 3))
      have HM := Lib.hid (show k + 1 ≤ maxLen ∧ (k + 1) * 8 ≤ 140737488355328 ∧ w.heap.size + 1 ≤ (wr.drew.alloc (.cells #[.int .i64 (x + y)] 3)).heap.size by
        have h1 := HK.out
        have h2 := HS.out.b0.lt
        refine ⟨by unfold maxLen; omega, by omega, ?_⟩
        simp; omega)
      clear hs1 hbw HX
      go_region_law (refine step_append_lies _ rfl (.tmp 69) (.tmp 79) 25 rfl (w.heap.size + 1) 3 i0' (.int .i64 0) 1 8 Try.underlying25 hi hz0 hz1 hz2 rfl (by decide) u8 _ _ rfl HO.out ⟨wr.heap.size, 0, none⟩ 1 1 [.int .i64 (x + y)] rfl rfl HN.out (one_cell _) (by decide) HM.out.1 HM.out.2.1 HM.out.2.2 (wr.heap.size + 1) (by simp) ?_; intro gg cap w7 hown7 hgrow7 _ _)
      all_goals
        have HF := Lib.hid (HXY.out _ _ _ HS1.out hown7 hgrow7)
        clear hown7 hgrow7 q1 q2 wv
        go_wp2_with fail
        go_roundw
        case rel => exact ⟨k + 1, by have := HK.out; omega, by go_num, HCA.out HP.out.1.1 HP.out.1.2, HCB.out HP.out.2.1 HP.out.2.2, HF.out⟩
        case measure => have := HK.out; simp [intOf]; omega
    · obtain rfl : k = a.length := by omega
      have hd : decide ((a.length : Int) < (a.length : Int)) = false := by simp
      have hca' : cntB a 50000 = true := by rw [List.take_length] at hca; exact hca
      have hcb' : cntB b 50000 = true := by rw [← HLB.out, List.take_length] at hcb; exact hcb
      have HCA := Lib.hid hca'
      have HCB := Lib.hid hcb'
      have HS := Lib.hid hst
      have HI := Lib.hid (show Ints wr wr.heap.size u8 (bothTo a b a.length) from ints_own (by rw [bothTo_len]; exact hst.own) (Nat.le_refl _) (by rw [bothTo_len]; have := HL.out; omega))
      have HEb := Lib.hid (show covE t b = covE t a by rw [covE_len (cntB_mono hca' (by omega) (by omega)), covE_len (cntB_mono hcb' (by omega) (by omega)), HLB.out])
      have HEc := Lib.hid (show covE t (bothTo a b a.length) = covE t a by rw [covE_len (cntB_mono hca' (by omega) (by omega)), covE_len (both_cnt hca' hcb' _), bothTo_len])
      have k0 : wr.cell? ⟨w.heap.size, 0, none⟩ = some (.int .i64 t.wide) := hst.b0.cell 0
      have k1 : wr.cell? ⟨w.heap.size, 1, none⟩ = some (.slice A t.need.length c) := hst.b0.cell 1
      clear hca hcb hca' hcb' hst
      go_wp2_with fail
      clear hd k0 k1
      by_cases h0 : covE t a = 0
      case neg =>
        have hne : (covE t a != 0) = true := by simp [h0]
        obtain ⟨E, hE⟩ : ∃ E, covE t a = E := ⟨_, rfl⟩
        have HE := Lib.hid hE
        rw [hE] at hne
        have hee : (E == E) = true := by simp
        clear h0 hE
        refine (Covers_e t a E HE.out _ _ _ (HT.out.mono HS.out.bel HS.out.bel.size) (HA.out.mono HS.out.bel HS.out.bel.size)).mono ?_; rintro e w3 ⟨s3, rfl, -, hb3⟩
        have H3 := Lib.hid (show Below w.heap.size w w3 ∧ Box w3 w.heap.size 24 #[.int .i64 t.wide, .slice A t.need.length c] ∧ Ints w3 w3.heap.size u8 (bothTo a b a.length) from ⟨HS.out.bel.trans (hb3.mono HS.out.bel.size), HS.out.b0.later hb3, HI.out.later hb3⟩)
        have k0 : w3.cell? ⟨w.heap.size, 0, none⟩ = some (.int .i64 t.wide) := H3.out.2.1.cell 0
        have k1 : w3.cell? ⟨w.heap.size, 1, none⟩ = some (.slice A t.need.length c) := H3.out.2.1.cell 1
        clear hb3
        go_wp2_with fail
        clear k0 k1
        refine (Covers_e t b E (HEb.out.trans HE.out) _ _ _ (HT.out.mono H3.out.1 H3.out.1.size) (HB.out.mono H3.out.1 H3.out.1.size)).mono ?_; rintro e w4 ⟨s4, rfl, -, hb4⟩
        have H4 := Lib.hid (show Below w.heap.size w w4 ∧ Box w4 w.heap.size 24 #[.int .i64 t.wide, .slice A t.need.length c] ∧ Ints w4 w4.heap.size u8 (bothTo a b a.length) from ⟨H3.out.1.trans (hb4.mono H3.out.1.size), H3.out.2.1.later hb4, H3.out.2.2.later hb4⟩)
        have k0 : w4.cell? ⟨w.heap.size, 0, none⟩ = some (.int .i64 t.wide) := H4.out.2.1.cell 0
        have k1 : w4.cell? ⟨w.heap.size, 1, none⟩ = some (.slice A t.need.length c) := H4.out.2.1.cell 1
        clear hb4
        go_wp2_with fail
        clear k0 k1
        refine (Covers_e t (bothTo a b a.length) E (HEc.out.trans HE.out) _ _ _ (HT.out.mono H4.out.1 H4.out.1.size) H4.out.2.2).mono ?_; rintro e w5 ⟨s5, rfl, -, hb5⟩
        have H5 := Lib.hid (H4.out.1.trans (hb5.mono H4.out.1.size))
        clear hb5
        go_wp2_with fail
        refine (Total_c a _ _ (HA.out.mono H5.out H5.out.size)).mono ?_; rintro e w6 ⟨rfl, hb6⟩
        have H6 := Lib.hid (H5.out.trans (hb6.mono H5.out.size))
        clear hb6
        go_wp2_with fail
        go_ret
        exact ⟨rfl, H6.out⟩
      obtain ⟨htb, hpl⟩ := covE_zero h0
      obtain ⟨W, m, hW, hm, hW1, hmW, hm1, hn⟩ := firsts_nat (taskB_sz htb)
      have hpl1 : (a.length : Int) = firsts t := by unfold okPlan at hpl; simp at hpl; exact hpl.1
      have AR := Lib.hid (show t.wide = (W : Int) ∧ a.length + W = t.need.length + 1 ∧ 1 ≤ W ∧ W ≤ 400 ∧ a.length ≤ 400 ∧ t.need.length ≤ 400 by omega)
      have H0 := Lib.hid h0
      clear h0 htb hpl hW hm hW1 hmW hm1 hn hpl1
      refine (Covers_z t a W H0.out AR.out.1 _ _ _ (HT.out.mono HS.out.bel HS.out.bel.size) (HA.out.mono HS.out.bel HS.out.bel.size)).mono ?_; rintro e w3 ⟨s3, rfl, hs3, hb3⟩
      have H3 := Lib.hid (show Below w.heap.size w w3 ∧ Box w3 w.heap.size 24 #[.int .i64 t.wide, .slice A t.need.length c] ∧ Ints w3 w3.heap.size u8 (bothTo a b a.length) ∧ Ints w3 w3.heap.size s3 (covL a W t.need.length) from ⟨HS.out.bel.trans (hb3.mono HS.out.bel.size), HS.out.b0.later hb3, HI.out.later hb3, hs3⟩)
      obtain ⟨-, A3, c3, rfl, -, -⟩ := hs3
      have k0 : w3.cell? ⟨w.heap.size, 0, none⟩ = some (.int .i64 t.wide) := H3.out.2.1.cell 0
      have k1 : w3.cell? ⟨w.heap.size, 1, none⟩ = some (.slice A t.need.length c) := H3.out.2.1.cell 1
      clear hb3
      go_wp2_with fail
      clear k0 k1
      refine (Covers_z t b W (HEb.out.trans H0.out) AR.out.1 _ _ _ (HT.out.mono H3.out.1 H3.out.1.size) (HB.out.mono H3.out.1 H3.out.1.size)).mono ?_; rintro e w4 ⟨s4, rfl, hs4, hb4⟩
      have H4 := Lib.hid (show Below w.heap.size w w4 ∧ Box w4 w.heap.size 24 #[.int .i64 t.wide, .slice A t.need.length c] ∧ Ints w4 w4.heap.size u8 (bothTo a b a.length) ∧ Ints w4 w4.heap.size (.slice A3 (covL a W t.need.length).length c3) (covL a W t.need.length) ∧ Ints w4 w4.heap.size s4 (covL b W t.need.length) from ⟨H3.out.1.trans (hb4.mono H3.out.1.size), H3.out.2.1.later hb4, H3.out.2.2.1.later hb4, H3.out.2.2.2.later hb4, hs4⟩)
      obtain ⟨-, A4, c4, rfl, -, -⟩ := hs4
      have k0 : w4.cell? ⟨w.heap.size, 0, none⟩ = some (.int .i64 t.wide) := H4.out.2.1.cell 0
      have k1 : w4.cell? ⟨w.heap.size, 1, none⟩ = some (.slice A t.need.length c) := H4.out.2.1.cell 1
      clear hb4
      go_wp2_with fail
      clear k0 k1
      refine (Covers_z t (bothTo a b a.length) W (HEc.out.trans H0.out) AR.out.1 _ _ _ (HT.out.mono H4.out.1 H4.out.1.size) H4.out.2.2.1).mono ?_; rintro e w5 ⟨s5, rfl, hs5, hb5⟩
      have H5 := Lib.hid (show Below w.heap.size w w5 ∧ Box w5 w.heap.size 24 #[.int .i64 t.wide, .slice A t.need.length c] ∧ Ints w5 w5.heap.size (.slice A3 (covL a W t.need.length).length c3) (covL a W t.need.length) ∧ Ints w5 w5.heap.size (.slice A4 (covL b W t.need.length).length c4) (covL b W t.need.length) ∧ Ints w5 w5.heap.size s5 (covL (bothTo a b a.length) W t.need.length) from ⟨H4.out.1.trans (hb5.mono H4.out.1.size), H4.out.2.1.later hb5, H4.out.2.2.2.1.later hb5, H4.out.2.2.2.2.later hb5, hs5⟩)
      obtain ⟨-, A5, c5, rfl, -, -⟩ := hs5
      clear hb5
      go_wp2_with fail
      have htot : okTot a = true := by unfold okTot; rw [cntB_mono HCA.out (by omega) (by omega)]; have := AR.out; simp; omega
      refine (Total_e a (pre a a.length) 0 (tot_ok htot).1 (tot_ok htot).2 _ _ (HA.out.mono H5.out.1 H5.out.1.size)).mono ?_; rintro e w6 ⟨rfl, hb6⟩
      have H6 := Lib.hid (show Below w.heap.size w w6 ∧ Box w6 w.heap.size 24 #[.int .i64 t.wide, .slice A t.need.length c] ∧ Ints w6 w6.heap.size (.slice A3 (covL a W t.need.length).length c3) (covL a W t.need.length) ∧ Ints w6 w6.heap.size (.slice A4 (covL b W t.need.length).length c4) (covL b W t.need.length) ∧ Ints w6 w6.heap.size (.slice A5 (covL (bothTo a b a.length) W t.need.length).length c5) (covL (bothTo a b a.length) W t.need.length) from ⟨H5.out.1.trans (hb6.mono H5.out.1.size), H5.out.2.1.later hb6, H5.out.2.2.1.later hb6, H5.out.2.2.2.1.later hb6, H5.out.2.2.2.2.later hb6⟩)
      clear hb6 htot
      have HQ := Lib.hid (show (covL a W t.need.length).length = t.need.length ∧ (covL b W t.need.length).length = t.need.length ∧ (covL (bothTo a b a.length) W t.need.length).length = t.need.length from ⟨covL_len _ _ _, covL_len _ _ _, covL_len _ _ _⟩)
      have HC1 := Lib.hid (show cntB (covL a W t.need.length) 40000000 = true from cov_cnt (cntB_mono HCA.out (by omega) (by omega)) AR.out.2.2.2.2.1 AR.out.2.2.1 AR.out.2.1)
      have HC2 := Lib.hid (show cntB (covL b W t.need.length) 40000000 = true from cov_cnt (cntB_mono HCB.out (by omega) (by omega)) (by have := AR.out; have := HLB.out; omega) AR.out.2.2.1 (by have := AR.out; have := HLB.out; omega))
      have HPX := Lib.hid (show pre (covL a W t.need.length) (covL a W t.need.length).length = t.wide * pre a a.length by rw [covL_len, pre_cov a W _ AR.out.2.2.1 AR.out.2.1, AR.out.1])
      have HAD := Lib.hid (show ∀ k, k < t.need.length → nth (covL a W t.need.length) k + nth (covL b W t.need.length) k = nth (covL (bothTo a b a.length) W t.need.length) k from fun k hk => cov_both HLB.out AR.out.2.1 AR.out.2.2.1 hk)
      have HWR := Lib.hid (show IntKind.i64.wrap (t.wide * pre a a.length) = t.wide * pre a a.length by
        have g1 := pre_bd HCA.out (by omega) a.length
        have g2 := AR.out
        have g3 : ((a.length : Nat) : Int) * 50000 ≤ 400 * 50000 := by omega
        have g4 := mul_bd (a := t.wide) (b := pre a a.length) (m := 400) (n := 20000000) (by omega) (by omega) (by omega) (by omega)
        exact wrap_id (by omega) (by omega))
      generalize covL a W t.need.length = L1 at *
      generalize covL b W t.need.length = L2 at *
      generalize covL (bothTo a b a.length) W t.need.length = L3 at *
      generalize pre a a.length = tot at *
      go_wp2_with fail
      refine sums17_c _ _ _ _ _ _ _ _ _ _ _ _ _ _ _ _ _ _ _ _ _ _ _ _ _ _ _ _ _ _ _ _ _ _ _ _ _ _ _ _ _ _ _ _ _ _ _ _ _ _ _ _ _ _ _ _ _ _ _ _ _ _ _ _ _ _ _ _ _ _ _ _ _ _ _ _ _ _ _ _ _ _ _ _ _ _ _ _ _ _ _ _ _ _ _ _ _ _ _ _ _ _ _ _ _ _ _ _ _ _ _ _ _ _ _ _ _ _ _ _ _ _ _ _ _ _ _ _ _ _ _ _ _ _ _ _ _ _ _ _ _ _ _ _ _ _ _ _ _ _ _ _ _ _ _ _ _ _ _ _ _ _ _ _ _ _ _ _ _ _ _ _ _ _ _ _ _ _ _ H6.out.2.2.1 (by have := HQ.out; have := AR.out; omega) HC1.out HPX.out rfl HWR.out (by have := HQ.out; simp; omega) (by have := HQ.out; simp; omega) H6.out.2.1 ?_
      rintro _ _ _ _ _ _ _ _ _ _ _ _ _ _ _ _ _ _ _ _ _ _ _ _ _ _ _ _ _ _ _ _ w14 hb14
      have H7 := Lib.hid (show Below w.heap.size w w14 ∧ Ints w14 w14.heap.size (.slice A3 L1.length c3) L1 ∧ Ints w14 w14.heap.size (.slice A4 L2.length c4) L2 ∧ Ints w14 w14.heap.size (.slice A5 L3.length c5) L3 from ⟨H6.out.1.trans (hb14.mono H6.out.1.size), H6.out.2.2.1.later hb14, H6.out.2.2.2.1.later hb14, H6.out.2.2.2.2.later hb14⟩)
      clear hb14
      go_wp2_with fail
      go_loopw [18] (fun i wr => ∃ k : Nat, k ≤ L3.length ∧ i = .int .i64 (k : Int) ∧ Below w14.heap.size w14 wr) (fun i _ => L3.length - (intOf i).toNat)
      case atStart => exact ⟨0, Nat.zero_le _, rfl, Below.refl _ _⟩
      case round =>
        obtain ⟨k, hk, rfl, hbr⟩ := hrel
        by_cases hlt : k < L3.length
        · have hl1 : k < L1.length := by have := HQ.out; omega
          have hl2 : k < L2.length := by have := HQ.out; omega
          obtain ⟨-, B3, d3, f3, -, g3⟩ := H7.out.2.1
          cases f3
          obtain ⟨-, B4, d4, f4, -, g4⟩ := H7.out.2.2.1
          cases f4
          obtain ⟨-, B5, d5, f5, -, g5⟩ := H7.out.2.2.2
          cases f5
          obtain ⟨n3, o3, rfl, hn3, hc3⟩ := g3 (by omega)
          obtain ⟨n4, o4, rfl, hn4, hc4⟩ := g4 (by omega)
          obtain ⟨n5, o5, rfl, hn5, hc5⟩ := g5 (by omega)
          have q3 := keepd (hc3 k hl1) hbr hn3
          have q4 := keepd (hc4 k hl2) hbr hn4
          have q5 := keepd (hc5 k hlt) hbr hn5
          have hd : decide ((k : Int) < (L3.length : Int)) = true := by simpa using hlt
          have i0 : (0 : Int) ≤ (k : Int) := by omega
          have i1 : (k : Int) < (L1.length : Int) := by omega
          have i2 : (k : Int) < (L2.length : Int) := by omega
          have i3 : (k : Int) < (L3.length : Int) := by omega
          have i4 : k ≤ 400 := by have := HQ.out; have := AR.out; omega
          have b1 := cntB_nth HC1.out k (by omega)
          have b2 := cntB_nth HC2.out k (by omega)
          have wv : IntKind.i64.wrap (nth L1 k + nth L2 k) = nth L1 k + nth L2 k := wrap_id (by omega) (by omega)
          have hne : (nth L1 k + nth L2 k != nth L3 k) = false := by rw [HAD.out k (by have := HQ.out; omega)]; simp
          have HK := Lib.hid (show k < L3.length from hlt)
          have HR := Lib.hid (show ∀ nq, Below w14.heap.size w14 (wr.drewN nq) from fun nq => ⟨hbr.os, hbr.tape, hbr.output, hbr.size, hbr.block⟩)
          clear hc3 hc4 hc5 g3 g4 g5 hn3 hn4 hn5 hl1 hl2 b1 b2 hbr hlt hk
          generalize nth L1 k = x1 at *
          generalize nth L2 k = x2 at *
          generalize nth L3 k = x3 at *
          go_wp2_with fail
          go_quiet (fail)
          go_wp2_with fail
          go_roundw
          case rel => exact ⟨k + 1, by have := HK.out; omega, by go_num, HR.out _⟩
          case measure => have := HK.out; simp [intOf]; omega
        · obtain rfl : k = L3.length := by omega
          have hd : decide ((L3.length : Int) < (L3.length : Int)) = false := by simp
          have HR := Lib.hid (H7.out.1.trans (hbr.mono H7.out.1.size))
          clear hbr hk hlt
          go_wp2_with fail
          go_ret
          exact ⟨rfl, HR.out⟩

end Go.Proofs.Ytfhbpeafapabhaa

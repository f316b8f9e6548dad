/- Layer 9: sticks: Write, Sync, Tallies, Sizes: the program's answers. -/
import Derived.Test.YtbpbdgiglllncaaUH
set_option linter.all false
namespace Go.Proofs.Ytbpbdgiglllncaa
open Go.RowKit

/-- what Write leaves -/
def WritePost (W : World) (b base : Nat) (v1 v2 : Value) (S F : List Int) (d1 d2 : Nat) (x : List Int) (e : Ending) (W' : World) : Prop :=
  ∃ v1' v2', e = .returned (.int .i64 (wrE S F x)) ∧ StkP W' b base v1' v2' (wrS S F x) (wrF S F x) d1 d2 ∧ Chg W W' b base v1 v2 ∧ NewB W v1 v1' ∧ NewB W v2 v2'
set_option maxRecDepth 100000 in
set_option maxHeartbeats 8000000 in
theorem Write_c (b base : Nat) (v1 v2 u : Value) (S F x : List Int) (d1 d2 : Nat) (w : World) (h : StkP w b base v1 v2 S F d1 d2) (hx : Bys w w.heap.size u x) (hbase : base ≤ w.heap.size) :
    Calls Try.prog 26 #[.pointer (some ⟨b, 0, none⟩), u] w fun e w' => WritePost w b base v1 v2 S F d1 d2 x e w' := by
  have H := Lib.hid h
  have HX := Lib.hid hx
  obtain ⟨M, mc, rfl, -⟩ := hx.shape
  obtain ⟨A1, c1, rfl⟩ := own_shape h.o1
  obtain ⟨A2, c2, rfl⟩ := own_shape h.o2
  have HSB := Lib.hid h.s1
  have HFB := Lib.hid h.s2
  by_cases q0 : x.length ≤ 8192
  case neg =>
    have HE := Lib.hid (show wrOk S F x = false by unfold wrOk; rw [decide_eq_false q0]; rfl)
    have kn := Lib.hid (NotchBig_c x _ w HX.out (by omega))
    obtain ⟨m, hm⟩ : ∃ z, x.length = z := ⟨_, rfl⟩
    rw [hm] at kn ⊢
    clear h hx q0 hm
    go_enter Try.func26, Try.ntmps26
    go_wp2_with fail
    refine kn.out.mono ?_; rintro e w1 ⟨rfl, rfl⟩
    go_wp2_with fail
    go_ret
    unfold WritePost wrE wrS wrF
    rw [HE.out]
    exact ⟨_, _, rfl, H.out, Chg.of_below (Below.refl _ _) hbase, NewB.refl _ _, NewB.refl _ _⟩
  have kn := Lib.hid (Notch_c x _ w HX.out q0)
  have Q0 := Lib.hid q0
  have HSL := Lib.hid (stockL_len x)
  obtain ⟨m, hm⟩ : ∃ z, x.length = z := ⟨_, rfl⟩
  have HM := Lib.hid hm
  rw [hm] at kn ⊢
  obtain ⟨n1, hn1⟩ : ∃ z, S.length = z := ⟨_, rfl⟩
  obtain ⟨n2, hn2⟩ : ∃ z, F.length = z := ⟨_, rfl⟩
  have HN1 := Lib.hid hn1
  have HN2 := Lib.hid hn2
  rw [hn1] at H HSB ⊢
  rw [hn2] at H HFB ⊢
  clear h hx hm q0 hn1 hn2
  go_enter Try.func26, Try.ntmps26
  go_wp2_with fail
  refine kn.out.mono ?_; rintro e w1 ⟨sv, fv, rfl, ns, nf, fs, ff, hb1⟩
  have H1 := Lib.hid (H.out.later hb1)
  have NS := Lib.hid ns
  have NF := Lib.hid nf
  have FF := Lib.hid ff
  have HB1 := Lib.hid hb1
  obtain ⟨SA, sc, rfl, -⟩ := ns.shape
  obtain ⟨FA, fc, rfl, -⟩ := nf.shape
  rw [HSL.out, HM.out] at NS ⊢
  rw [foilL_len] at NF FF ⊢
  have q0 : w1.cell? ⟨b, 0, none⟩ = some (.slice A1 n1 c1) := H1.out.box.cell 0
  have q2 : w1.cell? ⟨b, 2, none⟩ = some (.slice A2 n2 c2) := H1.out.box.cell 2
  have kh1 := Lib.hid (holds_c b 0 A1 n1 c1 (2 + m) sc SA w1 q0 (by have := HSB.out; omega) (by have := Q0.out; have := HM.out; omega))
  have kh2 := Lib.hid (holds_c b 2 A2 n2 c2 4 fc FA w1 q2 (by have := HFB.out; omega) (by omega))
  clear hb1 ns nf fs ff q0 q2
  by_cases q1 : n1 + (2 + m) ≤ 16777216
  case neg =>
    have HE := Lib.hid (show wrOk S F x = false by unfold wrOk; rw [HN1.out, HM.out, decide_eq_false q1, Bool.false_and, Bool.and_false])
    rw [decide_eq_false q1] at kh1
    clear q1
    go_wp2_with fail
    refine kh1.out.mono ?_; rintro e w2 ⟨rfl, rfl⟩
    go_wp2_with fail
    go_ret
    unfold WritePost wrE wrS wrF
    rw [HE.out]
    exact ⟨_, _, rfl, H1.out, Chg.of_below HB1.out hbase, NewB.refl _ _, NewB.refl _ _⟩
  rw [decide_eq_true q1] at kh1
  have Q1 := Lib.hid q1
  clear q1
  by_cases q2 : n2 + 4 ≤ 16777216
  case neg =>
    have HE := Lib.hid (show wrOk S F x = false by unfold wrOk; rw [HN2.out, decide_eq_false q2, Bool.and_false, Bool.and_false])
    rw [decide_eq_false q2] at kh2
    clear q2
    go_wp2_with fail
    refine kh1.out.mono ?_; rintro e w2 ⟨rfl, rfl⟩
    go_wp2_with fail
    refine kh2.out.mono ?_; rintro e w2 ⟨rfl, rfl⟩
    go_wp2_with fail
    go_ret
    unfold WritePost wrE wrS wrF
    rw [HE.out]
    exact ⟨_, _, rfl, H1.out, Chg.of_below HB1.out hbase, NewB.refl _ _, NewB.refl _ _⟩
  rw [decide_eq_true q2] at kh2
  have Q2 := Lib.hid q2
  clear q2
  have HE := Lib.hid (show wrOk S F x = true by unfold wrOk; rw [HN1.out, HN2.out, HM.out, decide_eq_true Q1.out, decide_eq_true Q2.out, decide_eq_true (by have := Q0.out; have := HM.out; omega)]; rfl)
  have hbs1 : base ≤ w1.heap.size := Nat.le_trans hbase HB1.out.size
  have NSl := Lib.hid (show (stockL x).length = 2 + m by rw [HSL.out, HM.out])
  have q0 : w1.cell? ⟨b, 0, none⟩ = some (.slice A1 S.length c1) := by rw [HN1.out]; exact H1.out.box.cell 0
  have ka := Lib.hid (add_c b 0 A1 c1 base S (stockL x) _ w1 q0 (fun i => H1.out.box.free i) (by rw [HN1.out]; have := H1.out.o1; rw [HN1.out] at this; exact this) NS.out (by rw [HN1.out, NSl.out]; have := Q1.out; omega) hbs1 H1.out.box.lt (by rw [HN1.out]; exact own_box_ne H1.out.o1 H1.out.box))
  rw [HN1.out] at ka
  clear q0
  go_wp2_with fail
  refine kh1.out.mono ?_; rintro e w2 ⟨rfl, rfl⟩
  go_wp2_with fail
  refine kh2.out.mono ?_; rintro e w2 ⟨rfl, rfl⟩
  go_wp2_with fail
  refine ka.out.mono ?_; rintro e w2 ⟨v', w7, ⟨rv, rfl⟩, rfl, ho7, hg7, hn7⟩
  obtain ⟨hs2, hc2, hnb2⟩ := H1.out.add1 hbs1 ho7 hg7 hn7 (stockL_by HX.out.by (by have := Q0.out; omega)) (by rw [HN1.out, NSl.out]; exact Q1.out)
  have HS2 := Lib.hid hs2
  have HC2 := Lib.hid hc2
  have HNB2 := Lib.hid hnb2
  have NF2 := Lib.hid (NF.out.chg hc2 (fun g hg => by
    have h1 := FF.out g hg
    refine ⟨fun e => ?_, fun e => ?_, fun e => ?_⟩
    · have := H.out.box.lt; omega
    · have := (H.out.o1.lt g e).2; omega
    · have := (H.out.o2.lt g e).2; omega))
  obtain ⟨W2, hW2⟩ : ∃ z, w7.setCell ⟨b, 0, none⟩ v' = z := ⟨_, rfl⟩
  rw [hW2] at HS2 HC2 NF2 ⊢
  have hbs2 : base ≤ W2.heap.size := Nat.le_trans hbs1 HC2.out.2.1
  have q2 : W2.cell? ⟨b, 2, none⟩ = some (.slice A2 F.length c2) := by rw [HN2.out]; exact HS2.out.box.cell 2
  have kb := Lib.hid (add_c b 2 A2 c2 base F (foilL x) _ W2 q2 (fun i => HS2.out.box.free i) (by rw [HN2.out]; have := HS2.out.o2; rw [HN2.out] at this; exact this) NF2.out (by rw [HN2.out, foilL_len]; have := Q2.out; omega) hbs2 HS2.out.box.lt (by rw [HN2.out]; exact own_box_ne HS2.out.o2 HS2.out.box))
  rw [HN2.out] at kb
  clear hs2 hc2 hnb2 ho7 hg7 hn7 hW2 q2 ka kh1 kh2
  go_wp2_with fail
  refine kb.out.mono ?_; rintro e w3 ⟨v'', w8, ⟨rv, rfl⟩, rfl, ho8, hg8, hn8⟩
  obtain ⟨hs3, hc3, hnb3⟩ := HS2.out.add2 hbs2 ho8 hg8 hn8 (foilL_by (by have := Q0.out; omega)) (by rw [HN2.out, foilL_len]; exact Q2.out)
  have HS3 := Lib.hid hs3
  have HC3 := Lib.hid hc3
  have HNB3 := Lib.hid hnb3
  clear hs3 hc3 hnb3 ho8 hg8 hn8 kb
  go_wp2_with fail
  go_ret
  unfold WritePost wrE wrS wrF
  rw [HE.out]
  refine ⟨_, _, rfl, HS3.out, ((Chg.of_below HB1.out hbase).trans (HC2.out.trans HC3.out HNB2.out (NewB.refl _ _)) (NewB.refl _ _) (NewB.refl _ _)), HNB2.out.later HB1.out.size, HNB3.out.later (Nat.le_trans HB1.out.size HC2.out.2.1)⟩
end Go.Proofs.Ytbpbdgiglllncaa

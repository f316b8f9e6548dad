/- Layer 9: the stick of the specification: Write, Sizes, Tallies. -/
import Derived.Test.YtbpbdgiglllncaaUN
import Derived.Test.YtbpbdgiglllncaaU8
set_option linter.all false
namespace Go.Proofs.Ytbpbdgiglllncaa
open Go.RowKit

/-- what the specification's Write leaves -/
def RWritePost (W : World) (r base : Nat) (u1 u2 u3 u4 : Value) (D1 P1 D2 P2 x : List Int) (e : Ending) (W' : World) : Prop :=
  ∃ y2 y4 Q1 Q2, e = .returned (.int .i64 (wrE (D1 ++ P1) (D2 ++ P2) x)) ∧ StkR W' r base u1 y2 u3 y4 D1 Q1 D2 Q2 ∧ D1 ++ Q1 = wrS (D1 ++ P1) (D2 ++ P2) x ∧ D2 ++ Q2 = wrF (D1 ++ P1) (D2 ++ P2) x ∧ Ex (· = r) W W' ∧ Below base W W' ∧ Nw W u2 y2 ∧ Nw W u4 y4
theorem RWritePost.no {W W' : World} {r base : Nat} {u1 u2 u3 u4 : Value} {D1 P1 D2 P2 x : List Int} (h : StkR W r base u1 u2 u3 u4 D1 P1 D2 P2) (hb : Below W.heap.size W W') (hbase : base ≤ W.heap.size) (ho : wrOk (D1 ++ P1) (D2 ++ P2) x = false) : RWritePost W r base u1 u2 u3 u4 D1 P1 D2 P2 x (.returned (.int .i64 2)) W' := by
  unfold RWritePost wrE wrS wrF
  rw [ho]
  exact ⟨u2, u4, P1, P2, rfl, h.later hb, rfl, rfl, Ex.of_below hb, hb.mono hbase, .inl rfl, .inl rfl⟩
set_option maxRecDepth 100000 in
set_option maxHeartbeats 8000000 in
theorem rWrite_c (r base : Nat) (u1 u2 u3 u4 u : Value) (D1 P1 D2 P2 x : List Int) (w : World) (h : StkR w r base u1 u2 u3 u4 D1 P1 D2 P2) (hx : Bys w w.heap.size u x) (hl1 : (D1 ++ P1).length ≤ 16777216) (hl2 : (D2 ++ P2).length ≤ 16777216) (hbase : base ≤ w.heap.size) :
    Calls Try.prog 27 #[.pointer (some ⟨r, 0, none⟩), u] w fun e w' => RWritePost w r base u1 u2 u3 u4 D1 P1 D2 P2 x e w' := by
  have H := Lib.hid h
  have HX := Lib.hid hx
  have HL1 := Lib.hid hl1
  have HL2 := Lib.hid hl2
  have HBASE := Lib.hid hbase
  obtain ⟨M, mc, rfl, -⟩ := hx.shape
  by_cases q9 : x.length ≤ 8192
  case neg =>
    have HE := Lib.hid (show wrOk (D1 ++ P1) (D2 ++ P2) x = false by unfold wrOk; rw [decide_eq_false q9]; rfl)
    have kn := Lib.hid (rNotchBig_c x _ w HX.out (by omega))
    obtain ⟨m, hm⟩ : ∃ z, x.length = z := ⟨_, rfl⟩
    rw [hm] at kn ⊢
    clear h hx q9 hm hl1 hl2 hbase
    go_enter Try.func27, Try.ntmps27
    go_wp2_with fail
    refine kn.out.mono ?_; rintro e w1 ⟨rfl, rfl⟩
    go_wp2_with fail
    go_ret
    exact RWritePost.no H.out (Below.refl _ _) HBASE.out HE.out
  have kn := Lib.hid (rNotch_c x _ w HX.out q9)
  have Q9 := Lib.hid q9
  have HSL := Lib.hid (stockL_len x)
  obtain ⟨m, hm⟩ : ∃ z, x.length = z := ⟨_, rfl⟩
  have HM := Lib.hid hm
  rw [hm] at kn ⊢
  obtain ⟨A1, c1, rfl, -⟩ := h.b1.shape
  obtain ⟨A2, c2, rfl, -⟩ := h.b2.shape
  obtain ⟨A3, c3, rfl, -⟩ := h.b3.shape
  obtain ⟨A4, c4, rfl, -⟩ := h.b4.shape
  clear h hx hm q9 hl1 hl2 hbase
  go_enter Try.func27, Try.ntmps27
  go_wp2_with fail
  refine kn.out.mono ?_; rintro e w1 ⟨sv, fv, rfl, ns, nf, fs, ff, hb1⟩
  have H1 := Lib.hid (H.out.later hb1)
  have NS := Lib.hid ns
  have NF := Lib.hid nf
  have FF := Lib.hid ff
  have HB1 := Lib.hid hb1
  obtain ⟨SA, sc, rfl, -⟩ := ns.shape
  obtain ⟨FA, fc, rfl, -⟩ := nf.shape
  rw [HSL.out, HM.out] at NS ⊢
  rw [foilL_len] at NF FF ⊢
  obtain ⟨n1, hn1⟩ : ∃ z, (D1 ++ P1).length = z := ⟨_, rfl⟩
  obtain ⟨n2, hn2⟩ : ∃ z, (D2 ++ P2).length = z := ⟨_, rfl⟩
  have HN1 := Lib.hid hn1
  have HN2 := Lib.hid hn2
  have ka := Lib.hid (all_c D1 P1 _ _ w1 H1.out.b1 H1.out.b2 (by have := HL1.out; rw [List.length_append] at this; omega))
  have kb := Lib.hid (fun (W : World) (hb : Below w1.heap.size w1 W) => all_c D2 P2 _ _ W (H1.out.b3.later hb) (H1.out.b4.later hb) (by have := HL2.out; rw [List.length_append] at this; omega))
  have hl1 := HL1.out
  have hl2 := HL2.out
  have hm9 : m ≤ 8192 := by have := Q9.out; have := HM.out; omega
  rw [hn1] at hl1
  rw [hn2] at hl2
  have W1 := wrapI (n := (n1 : Int) + (2 + (m : Int))) (by omega) (by omega)
  have W2 := wrapI (n := (n2 : Int) + 4) (by omega) (by omega)
  have HM9 := Lib.hid hm9
  have HL1' := Lib.hid hl1
  have HL2' := Lib.hid hl2
  clear hb1 ns nf fs ff hn1 hn2 hl1 hl2 hm9
  by_cases z1 : n1 + (2 + m) ≤ 16777216
  case neg =>
    have HE := Lib.hid (show wrOk (D1 ++ P1) (D2 ++ P2) x = false by unfold wrOk; rw [HN1.out, HM.out, decide_eq_false z1, Bool.false_and, Bool.and_false])
    have d1 : decide ((16777216 : Int) < (n1 : Int) + (2 + (m : Int))) = true := decide_eq_true (by omega)
    have d1' : decide (16777216 < n1 + (2 + m)) = true := decide_eq_true (by omega)
    clear z1
    have q0 := H1.out.box.cell 0
    have q1 := H1.out.box.cell 1
    have q2 := H1.out.box.cell 2
    have q3 := H1.out.box.cell 3
    go_wp2_with fail
    refine ka.out.mono ?_; rintro e w2 ⟨⟨va, rfl, nb⟩, hb⟩
    obtain ⟨VA, ka9, rfl, -⟩ := nb.1.shape
    rw [HN1.out]
    clear nb
    have HB2 := Lib.hid hb
    have BX2 := Lib.hid (H1.out.box.later hb)
    clear hb q0 q1 q2 q3
    have q0 := BX2.out.cell 0
    have q1 := BX2.out.cell 1
    have q2 := BX2.out.cell 2
    have q3 := BX2.out.cell 3
    go_wp2_with fail
    go_ret
    exact RWritePost.no H.out (HB1.out.trans (HB2.out.mono HB1.out.size)) HBASE.out HE.out
  have d1 : decide ((16777216 : Int) < (n1 : Int) + (2 + (m : Int))) = false := decide_eq_false (by omega)
  have d1' : decide (16777216 < n1 + (2 + m)) = false := decide_eq_false (by omega)
  have Z1 := Lib.hid z1
  clear z1
  by_cases z2 : n2 + 4 ≤ 16777216
  case neg =>
    have HE := Lib.hid (show wrOk (D1 ++ P1) (D2 ++ P2) x = false by unfold wrOk; rw [HN2.out, decide_eq_false z2, Bool.and_false, Bool.and_false])
    have d2 : decide ((16777216 : Int) < (n2 : Int) + 4) = true := decide_eq_true (by omega)
    have d2' : decide (16777216 < n2 + 4) = true := decide_eq_true (by omega)
    clear z2
    have q0 := H1.out.box.cell 0
    have q1 := H1.out.box.cell 1
    have q2 := H1.out.box.cell 2
    have q3 := H1.out.box.cell 3
    go_wp2_with fail
    refine ka.out.mono ?_; rintro e w2 ⟨⟨va, rfl, nb⟩, hb⟩
    obtain ⟨VA, ka9, rfl, -⟩ := nb.1.shape
    rw [HN1.out]
    clear nb
    have HB2 := Lib.hid hb
    have BX2 := Lib.hid (H1.out.box.later hb)
    clear hb q0 q1 q2 q3
    have q0 := BX2.out.cell 0
    have q1 := BX2.out.cell 1
    have q2 := BX2.out.cell 2
    have q3 := BX2.out.cell 3
    go_wp2_with fail
    refine (kb.out _ HB2.out).mono ?_; rintro e w3 ⟨⟨va, rfl, nb⟩, hb⟩
    obtain ⟨VA, ka9, rfl, -⟩ := nb.1.shape
    rw [HN2.out]
    clear nb
    have HB3 := Lib.hid (HB2.out.trans (hb.mono HB2.out.size))
    clear hb q0 q1 q2 q3
    go_wp2_with fail
    go_ret
    exact RWritePost.no H.out (HB1.out.trans (HB3.out.mono HB1.out.size)) HBASE.out HE.out
  have d2 : decide ((16777216 : Int) < (n2 : Int) + 4) = false := decide_eq_false (by omega)
  have d2' : decide (16777216 < n2 + 4) = false := decide_eq_false (by omega)
  have Z2 := Lib.hid z2
  clear z2
  have HE := Lib.hid (show wrOk (D1 ++ P1) (D2 ++ P2) x = true by unfold wrOk; rw [HN1.out, HN2.out, HM.out, decide_eq_true Z1.out, decide_eq_true Z2.out, decide_eq_true (by have := HM9.out; omega)]; rfl)
  have q0 := H1.out.box.cell 0
  have q1 := H1.out.box.cell 1
  have q2 := H1.out.box.cell 2
  have q3 := H1.out.box.cell 3
  go_wp2_with fail
  refine ka.out.mono ?_; rintro e w2 ⟨⟨va, rfl, nb⟩, hb⟩
  obtain ⟨VA, ka9, rfl, -⟩ := nb.1.shape
  rw [HN1.out]
  clear nb
  have HB2 := Lib.hid hb
  have BX2 := Lib.hid (H1.out.box.later hb)
  clear hb q0 q1 q2 q3
  have q0 := BX2.out.cell 0
  have q1 := BX2.out.cell 1
  have q2 := BX2.out.cell 2
  have q3 := BX2.out.cell 3
  go_wp2_with fail
  refine (kb.out _ HB2.out).mono ?_; rintro e w3 ⟨⟨va, rfl, nb⟩, hb⟩
  obtain ⟨VA, ka9, rfl, -⟩ := nb.1.shape
  rw [HN2.out]
  clear nb
  have HB3 := Lib.hid (HB2.out.trans (hb.mono HB2.out.size))
  clear hb q0 q1 q2 q3
  have H3 := Lib.hid (H1.out.later HB3.out)
  have kc := Lib.hid (radd_c r base _ _ _ _ _ _ D1 P1 D2 P2 (stockL x) (foilL x) w3 H3.out (NS.out.later HB3.out) (NF.out.later HB3.out) (fun g hg => by have := FF.out g hg; have := H.out.box.lt; omega) (by have := HL1.out; rw [List.length_append] at this; have := HM9.out; rw [HSL.out, HM.out]; omega) (by have := HL2.out; rw [List.length_append] at this; rw [foilL_len]; omega) (Nat.le_trans HBASE.out (Nat.le_trans HB1.out.size HB3.out.size)))
  go_wp2_with fail
  refine kc.out.mono ?_; rintro e w4 ⟨⟨rr, rfl⟩, y2, y4, hs4, hx4, hb4, m2, m4⟩
  have HS4 := Lib.hid hs4
  have HX4 := Lib.hid hx4
  have HB4 := Lib.hid hb4
  have M2 := Lib.hid m2
  have M4 := Lib.hid m4
  clear hs4 hx4 hb4 m2 m4
  go_wp2_with fail
  go_ret
  have hb3 := HB1.out.trans (HB3.out.mono HB1.out.size)
  unfold RWritePost wrE wrS wrF
  rw [HE.out]
  refine ⟨y2, y4, _, _, rfl, HS4.out, by simp, by simp, (Ex.of_below hb3).trans HX4.out, (hb3.mono HBASE.out).trans HB4.out, ?_, ?_⟩
  · exact M2.out.imp id fun h g e => Nat.le_trans hb3.size (h g e)
  · exact M4.out.imp id fun h g e => Nat.le_trans hb3.size (h g e)

set_option maxRecDepth 100000 in
set_option maxHeartbeats 8000000 in
theorem rSizes_c (r base : Nat) (u1 u2 u3 u4 : Value) (D1 P1 D2 P2 : List Int) (w : World) (h : StkR w r base u1 u2 u3 u4 D1 P1 D2 P2) :
    Calls Try.prog 29 #[.pointer (some ⟨r, 0, none⟩)] w fun e w' => e = .returned (.tuple #[.int .i64 (D1.length : Int), .int .i64 (P1.length : Int), .int .i64 (D2.length : Int), .int .i64 (P2.length : Int)]) ∧ Below w.heap.size w w' := by
  have H := Lib.hid h
  obtain ⟨A1, c1, rfl, -⟩ := h.b1.shape
  obtain ⟨A2, c2, rfl, -⟩ := h.b2.shape
  obtain ⟨A3, c3, rfl, -⟩ := h.b3.shape
  obtain ⟨A4, c4, rfl, -⟩ := h.b4.shape
  have HBOX := Lib.hid h.box
  obtain ⟨n1, hn1⟩ : ∃ z, D1.length = z := ⟨_, rfl⟩
  obtain ⟨n2, hn2⟩ : ∃ z, P1.length = z := ⟨_, rfl⟩
  obtain ⟨n3, hn3⟩ : ∃ z, D2.length = z := ⟨_, rfl⟩
  obtain ⟨n4, hn4⟩ : ∃ z, P2.length = z := ⟨_, rfl⟩
  rw [hn1, hn2, hn3, hn4] at HBOX ⊢
  have q0 := HBOX.out.cell 0
  have q1 := HBOX.out.cell 1
  have q2 := HBOX.out.cell 2
  have q3 := HBOX.out.cell 3
  clear h hn1 hn2 hn3 hn4
  go_enter Try.func29, Try.ntmps29
  go_wp2_with fail
  go_quiet (fail)
  go_wp2_with fail
  exact bodyPost_ret (v := .tuple #[.int .i64 (n1 : Int), .int .i64 (n2 : Int), .int .i64 (n3 : Int), .int .i64 (n4 : Int)]) (by simp [results, Try.results29]) rfl ⟨rfl, below_drewN _ _⟩

set_option maxRecDepth 100000 in
set_option maxHeartbeats 8000000 in
theorem rTallies_c (r base : Nat) (u1 u2 u3 u4 : Value) (D1 P1 D2 P2 : List Int) (w : World) (h : StkR w r base u1 u2 u3 u4 D1 P1 D2 P2) (hl1 : (D1 ++ P1).length ≤ 16777216) (hl2 : (D2 ++ P2).length ≤ 16777216) :
    Calls Try.prog 31 #[.pointer (some ⟨r, 0, none⟩)] w fun e w' => (∃ ov, e = .returned ov ∧ ByL w' w'.heap.size ov (joinL (D1 ++ P1) (D2 ++ P2))) ∧ Below w.heap.size w w' := by
  have H := Lib.hid h
  obtain ⟨A1, c1, rfl, -⟩ := h.b1.shape
  obtain ⟨A2, c2, rfl, -⟩ := h.b2.shape
  obtain ⟨A3, c3, rfl, -⟩ := h.b3.shape
  obtain ⟨A4, c4, rfl, -⟩ := h.b4.shape
  have HBOX := Lib.hid h.box
  have HL1 := Lib.hid hl1
  have HL2 := Lib.hid hl2
  have ka := Lib.hid (fun (W : World) (hb : Below w.heap.size w W) => all_c D1 P1 _ _ W (H.out.b1.later hb) (H.out.b2.later hb) (by have := HL1.out; rw [List.length_append] at this; omega))
  have kb := Lib.hid (fun (W : World) (hb : Below w.heap.size w W) => all_c D2 P2 _ _ W (H.out.b3.later hb) (H.out.b4.later hb) (by have := HL2.out; rw [List.length_append] at this; omega))
  have kj := Lib.hid (fun (v1 v2 : Value) (W : World) (b1 : Bys W W.heap.size v1 (D1 ++ P1)) (b2 : Bys W W.heap.size v2 (D2 ++ P2)) => rJoin_c (D1 ++ P1) (D2 ++ P2) v1 v2 W b1 b2 (by have := HL1.out; omega) (by have := HL2.out; omega))
  have HB0 := Lib.hid (Below.refl w.heap.size w)
  obtain ⟨n1, hn1⟩ : ∃ z, D1.length = z := ⟨_, rfl⟩
  obtain ⟨n2, hn2⟩ : ∃ z, P1.length = z := ⟨_, rfl⟩
  obtain ⟨n3, hn3⟩ : ∃ z, D2.length = z := ⟨_, rfl⟩
  obtain ⟨n4, hn4⟩ : ∃ z, P2.length = z := ⟨_, rfl⟩
  rw [hn1, hn2] at ka
  rw [hn3, hn4] at kb
  rw [hn1, hn2, hn3, hn4] at HBOX
  obtain ⟨S, hS⟩ : ∃ z, D1 ++ P1 = z := ⟨_, rfl⟩
  obtain ⟨F, hF⟩ : ∃ z, D2 ++ P2 = z := ⟨_, rfl⟩
  rw [hS] at ka kj ⊢
  rw [hF] at kb kj ⊢
  obtain ⟨jl, hjl⟩ : ∃ z, joinL S F = z := ⟨_, rfl⟩
  rw [hjl] at kj ⊢
  obtain ⟨js, hjs⟩ : ∃ z, sLen jl = z := ⟨_, rfl⟩
  obtain ⟨jn, hjn⟩ : ∃ z, jl.length = z := ⟨_, rfl⟩
  have KJ := Lib.hid (fun (v1 v2 : Value) (W : World) (b1 : Bys W W.heap.size v1 S) (b2 : Bys W W.heap.size v2 F) => (kj.out v1 v2 W b1 b2))
  rw [hjs, hjn] at KJ
  have HJL := Lib.hid hjl
  clear h hn1 hn2 hn3 hn4 hl1 hl2 hS hF hjl hjs hjn kj
  go_enter Try.func31, Try.ntmps31
  go_wp2_with fail
  have hdr9 : Below (w).heap.size (w) (w).drew := (Below.refl _ _).drew
  have lt5 := HBOX.out.lt
  have lt6 := HBOX.out.lt
  have lt7 := HBOX.out.lt
  have lt8 := HBOX.out.lt
  have hcall10 : ∀ X Y : World, (fun Wz => Wz.cell? ⟨r, 0, none⟩ = some (.slice A1 n1 c1) ∧ Wz.cell? ⟨r, 1, none⟩ = some (.slice A2 n2 c2) ∧ Wz.cell? ⟨r, 2, none⟩ = some (.slice A3 n3 c3) ∧ Wz.cell? ⟨r, 3, none⟩ = some (.slice A4 n4 c4) ∧ (w).heap.size ≤ Wz.heap.size) X → Below X.heap.size X Y → (fun Wz => Wz.cell? ⟨r, 0, none⟩ = some (.slice A1 n1 c1) ∧ Wz.cell? ⟨r, 1, none⟩ = some (.slice A2 n2 c2) ∧ Wz.cell? ⟨r, 2, none⟩ = some (.slice A3 n3 c3) ∧ Wz.cell? ⟨r, 3, none⟩ = some (.slice A4 n4 c4) ∧ (w).heap.size ≤ Wz.heap.size) Y := by
    rintro X Y ⟨z1, z2, z3, z4, xs⟩ hb
    have hb2 := Below.mono (B' := (w).heap.size) hb xs
    exact ⟨keepd z1 hb2 lt5, keepd z2 hb2 lt6, keepd z3 hb2 lt7, keepd z4 hb2 lt8, Nat.le_trans xs hb.size⟩
  have hini11 : (fun Wz => Wz.cell? ⟨r, 0, none⟩ = some (.slice A1 n1 c1) ∧ Wz.cell? ⟨r, 1, none⟩ = some (.slice A2 n2 c2) ∧ Wz.cell? ⟨r, 2, none⟩ = some (.slice A3 n3 c3) ∧ Wz.cell? ⟨r, 3, none⟩ = some (.slice A4 n4 c4) ∧ (w).heap.size ≤ Wz.heap.size) (w).drew := ⟨keepd (HBOX.out.cell 0) hdr9 lt5, keepd (HBOX.out.cell 1) hdr9 lt6, keepd (HBOX.out.cell 2) hdr9 lt7, keepd (HBOX.out.cell 3) hdr9 lt8, Nat.le_refl _⟩
  have Hcall10 := Lib.hid hcall10
  have Hini11 := Lib.hid hini11
  clear hcall10 hini11 lt5 lt6 lt7 lt8
  refine wp_region_noPanic ?_
  refine wp_region_held_drew (S := (fun Wz => Wz.cell? ⟨r, 0, none⟩ = some (.slice A1 n1 c1) ∧ Wz.cell? ⟨r, 1, none⟩ = some (.slice A2 n2 c2) ∧ Wz.cell? ⟨r, 2, none⟩ = some (.slice A3 n3 c3) ∧ Wz.cell? ⟨r, 3, none⟩ = some (.slice A4 n4 c4) ∧ (w).heap.size ≤ Wz.heap.size)) (by kernel_rfl) Hini11.out (fun hHeld => ?_)
  obtain ⟨W14, hW15⟩ : ∃ Wzz, (w).drew = Wzz := ⟨_, rfl⟩
  rw [hW15] at hHeld hdr9 ⊢
  clear hW15
  have X16 := Lib.hid (HBOX.out.later hdr9)
  have B17 := Lib.hid (HB0.out.trans (hdr9.mono HB0.out.size))
  clear hdr9
  refine wpAnyH_take (i := 0) (oi := { dst := some 7, op := Op.move (Operand.tmp 0), type := 58, pos := "ref.go:243", after := #[], guard := none }) (v := ?vh18) rfl ?hsh18 ?hfh18 ?hrh18 ?hQh18 ?hyh18 (by assumption) ?resth18
  case hsh18 => kernel_rfl
  case hfh18 => kernel_rfl
  case hrh18 => kernel_rfl
  case hQh18 => exact fun _ _ _ h => h
  case hyh18 => (refine Or.inl ⟨by rfl, ?_⟩; intro w hSw; (try dsimp only at hSw); go_simp; try with_reducible rfl)
  try simp only [Act.put, List.setIfInBounds_toArray, List.set_cons_zero, List.set_cons_succ]
  refine wpAnyH_take (i := 1) (oi := { dst := some 8, op := Op.nilCheck (Operand.tmp 7), type := 0, pos := "ref.go:243", after := #[{ on := 0, ground := Ground.data }], guard := none }) (v := ?vh19) rfl ?hsh19 ?hfh19 ?hrh19 ?hQh19 ?hyh19 (by assumption) ?resth19
  case hsh19 => kernel_rfl
  case hfh19 => kernel_rfl
  case hrh19 => kernel_rfl
  case hQh19 => exact fun _ _ _ h => h
  case hyh19 => (refine Or.inl ⟨by rfl, ?_⟩; intro w hSw; (try dsimp only at hSw); go_simp; try with_reducible rfl)
  try simp only [Act.put, List.setIfInBounds_toArray, List.set_cons_zero, List.set_cons_succ]
  refine wpAnyH_take (i := 2) (oi := { dst := some 9, op := Op.fieldAddr 62 (Operand.tmp 8) 0, type := 0, pos := "ref.go:243", after := #[{ on := 1, ground := Ground.data }], guard := none }) (v := ?vh20) rfl ?hsh20 ?hfh20 ?hrh20 ?hQh20 ?hyh20 (by assumption) ?resth20
  case hsh20 => kernel_rfl
  case hfh20 => kernel_rfl
  case hrh20 => kernel_rfl
  case hQh20 => exact fun _ _ _ h => h
  case hyh20 => (refine Or.inl ⟨by rfl, ?_⟩; intro w hSw; (try dsimp only at hSw); go_simp; try with_reducible rfl)
  try simp only [Act.put, List.setIfInBounds_toArray, List.set_cons_zero, List.set_cons_succ]
  refine wpAnyH_take (i := 3) (oi := { dst := some 10, op := Op.load 60 (Operand.tmp 9), type := 60, pos := "ref.go:243", after := #[{ on := 2, ground := Ground.data }], guard := none }) (v := ?vh21) rfl ?hsh21 ?hfh21 ?hrh21 ?hQh21 ?hyh21 (by assumption) ?resth21
  case hsh21 => kernel_rfl
  case hfh21 => kernel_rfl
  case hrh21 => kernel_rfl
  case hQh21 => exact fun _ _ _ h => h
  case hyh21 => (refine Or.inl ⟨by rfl, ?_⟩; intro w hSw; (try dsimp only at hSw); go_simp; try with_reducible rfl)
  try simp only [Act.put, List.setIfInBounds_toArray, List.set_cons_zero, List.set_cons_succ]
  refine wpAnyH_take (i := 5) (oi := { dst := some 12, op := Op.move (Operand.tmp 0), type := 58, pos := "ref.go:243", after := #[], guard := none }) (v := ?vh22) rfl ?hsh22 ?hfh22 ?hrh22 ?hQh22 ?hyh22 (by assumption) ?resth22
  case hsh22 => kernel_rfl
  case hfh22 => kernel_rfl
  case hrh22 => kernel_rfl
  case hQh22 => exact fun _ _ _ h => h
  case hyh22 => (refine Or.inl ⟨by rfl, ?_⟩; intro w hSw; (try dsimp only at hSw); go_simp; try with_reducible rfl)
  try simp only [Act.put, List.setIfInBounds_toArray, List.set_cons_zero, List.set_cons_succ]
  refine wpAnyH_take (i := 6) (oi := { dst := some 13, op := Op.nilCheck (Operand.tmp 12), type := 0, pos := "ref.go:243", after := #[{ on := 5, ground := Ground.data }], guard := none }) (v := ?vh23) rfl ?hsh23 ?hfh23 ?hrh23 ?hQh23 ?hyh23 (by assumption) ?resth23
  case hsh23 => kernel_rfl
  case hfh23 => kernel_rfl
  case hrh23 => kernel_rfl
  case hQh23 => exact fun _ _ _ h => h
  case hyh23 => (refine Or.inl ⟨by rfl, ?_⟩; intro w hSw; (try dsimp only at hSw); go_simp; try with_reducible rfl)
  try simp only [Act.put, List.setIfInBounds_toArray, List.set_cons_zero, List.set_cons_succ]
  refine wpAnyH_take (i := 7) (oi := { dst := some 14, op := Op.fieldAddr 62 (Operand.tmp 13) 1, type := 0, pos := "ref.go:243", after := #[{ on := 6, ground := Ground.data }], guard := none }) (v := ?vh24) rfl ?hsh24 ?hfh24 ?hrh24 ?hQh24 ?hyh24 (by assumption) ?resth24
  case hsh24 => kernel_rfl
  case hfh24 => kernel_rfl
  case hrh24 => kernel_rfl
  case hQh24 => exact fun _ _ _ h => h
  case hyh24 => (refine Or.inl ⟨by rfl, ?_⟩; intro w hSw; (try dsimp only at hSw); go_simp; try with_reducible rfl)
  try simp only [Act.put, List.setIfInBounds_toArray, List.set_cons_zero, List.set_cons_succ]
  refine wpAnyH_take (i := 8) (oi := { dst := some 15, op := Op.load 60 (Operand.tmp 14), type := 60, pos := "ref.go:243", after := #[{ on := 7, ground := Ground.data }], guard := none }) (v := ?vh25) rfl ?hsh25 ?hfh25 ?hrh25 ?hQh25 ?hyh25 (by assumption) ?resth25
  case hsh25 => kernel_rfl
  case hfh25 => kernel_rfl
  case hrh25 => kernel_rfl
  case hQh25 => exact fun _ _ _ h => h
  case hyh25 => (refine Or.inl ⟨by rfl, ?_⟩; intro w hSw; (try dsimp only at hSw); go_simp; try with_reducible rfl)
  try simp only [Act.put, List.setIfInBounds_toArray, List.set_cons_zero, List.set_cons_succ]
  refine wpAnyH_ready (rs := [4]) (by kernel_rfl) (by simp) ?_
  refine AllReadyH.cons (o := _) (by rfl) (fun K hK => ?_) AllReadyH.nil
  go_simp
  go_at_call 49
  refine (ka.out _ B17.out).mono ?_; rintro e v26 ⟨⟨va, rfl, na⟩, hb27⟩
  have X28 := Lib.hid (X16.out.later hb27)
  have B29 := Lib.hid (B17.out.trans (hb27.mono B17.out.size))
  clear X16 B17
  obtain ⟨VA, kva, rfl, -⟩ := na.1.shape
  obtain ⟨sl, hsl⟩ : ∃ z, S.length = z := ⟨_, rfl⟩
  rw [hsl] at na ⊢
  clear hsl
  have NA := Lib.hid na.1
  clear na
  go_wp2_with fail
  refine hK.out _ _ (Hcall10.out _ _ hHeld (by assumption)) (fun hHeld30 => ?_)
  clear hK K hHeld
  clear hb27
  have hHeld := hHeld30
  clear hHeld30
  try simp only [Act.put, List.setIfInBounds_toArray, List.set_cons_zero, List.set_cons_succ]
  refine wpAnyH_ready (rs := [9]) (by kernel_rfl) (by simp) ?_
  refine AllReadyH.cons (o := _) (by rfl) (fun K hK => ?_) AllReadyH.nil
  go_simp
  go_at_call 49
  refine (kb.out _ B29.out).mono ?_; rintro e v31 ⟨⟨vb, rfl, nb⟩, hb32⟩
  have X33 := Lib.hid (X28.out.later hb32)
  have B34 := Lib.hid (B29.out.trans (hb32.mono B29.out.size))
  clear X28 B29
  obtain ⟨VB, kvb, rfl, -⟩ := nb.1.shape
  obtain ⟨fl, hfl⟩ : ∃ z, F.length = z := ⟨_, rfl⟩
  rw [hfl] at nb ⊢
  clear hfl
  have NB := Lib.hid nb.1
  have NA2 := Lib.hid (NA.out.later hb32)
  clear nb NA
  go_wp2_with fail
  refine hK.out _ _ (Hcall10.out _ _ hHeld (by assumption)) (fun hHeld35 => ?_)
  clear hK K hHeld
  clear hb32
  have hHeld := hHeld35
  clear hHeld35
  try simp only [Act.put, List.setIfInBounds_toArray, List.set_cons_zero, List.set_cons_succ]
  refine wpAnyH_ready (rs := [10]) (by kernel_rfl) (by simp) ?_
  refine AllReadyH.cons (o := _) (by rfl) (fun K hK => ?_) AllReadyH.nil
  go_simp
  go_at_call 17
  refine (KJ.out _ _ _ NA2.out NB.out).mono ?_; rintro e v36 ⟨ov, rfl, hov, hb37⟩
  have X38 := Lib.hid (X33.out.later hb37)
  have B39 := Lib.hid (B34.out.trans (hb37.mono B34.out.size))
  clear X33 B34
  have HOV := Lib.hid hov
  clear hov NA2 NB
  go_wp2_with fail
  refine hK.out _ _ (Hcall10.out _ _ hHeld (by assumption)) (fun hHeld40 => ?_)
  clear hK K hHeld
  clear hb37
  have hHeld := hHeld40
  clear hHeld40
  try simp only [Act.put, List.setIfInBounds_toArray, List.set_cons_zero, List.set_cons_succ]
  refine wpAnyH_take (i := 11) (oi := { dst := some 6, op := Op.move (Operand.tmp 17), type := 45, pos := "ref.go:243", after := #[{ on := 10, ground := Ground.data }], guard := none }) (v := ?vh41) rfl ?hsh41 ?hfh41 ?hrh41 ?hQh41 ?hyh41 (by assumption) ?resth41
  case hsh41 => kernel_rfl
  case hfh41 => kernel_rfl
  case hrh41 => kernel_rfl
  case hQh41 => exact fun _ _ _ h => h
  case hyh41 => (refine Or.inl ⟨by rfl, ?_⟩; intro w hSw; (try dsimp only at hSw); go_simp; try with_reducible rfl)
  try simp only [Act.put, List.setIfInBounds_toArray, List.set_cons_zero, List.set_cons_succ]
  refine wpAnyH_take (i := 12) (oi := { dst := some 18, op := Op.extract (Operand.tmp 6) 0, type := 44, pos := "ref.go:243", after := #[{ on := 11, ground := Ground.data }], guard := none }) (v := ?vh42) rfl ?hsh42 ?hfh42 ?hrh42 ?hQh42 ?hyh42 (by assumption) ?resth42
  case hsh42 => kernel_rfl
  case hfh42 => kernel_rfl
  case hrh42 => kernel_rfl
  case hQh42 => exact fun _ _ _ h => h
  case hyh42 => (refine Or.inl ⟨by rfl, ?_⟩; intro w hSw; (try dsimp only at hSw); go_simp; try with_reducible rfl)
  try simp only [Act.put, List.setIfInBounds_toArray, List.set_cons_zero, List.set_cons_succ]
  refine wpAnyH_take (i := 13) (oi := { dst := some 19, op := Op.extract (Operand.tmp 6) 1, type := 3, pos := "ref.go:243", after := #[{ on := 11, ground := Ground.data }, { on := 15, ground := Ground.gcOnly Departure.lateStores }], guard := none }) (v := ?vh43) rfl ?hsh43 ?hfh43 ?hrh43 ?hQh43 ?hyh43 (by assumption) ?resth43
  case hsh43 => kernel_rfl
  case hfh43 => kernel_rfl
  case hrh43 => kernel_rfl
  case hQh43 => exact fun _ _ _ h => h
  case hyh43 => (refine Or.inl ⟨by rfl, ?_⟩; intro w hSw; (try dsimp only at hSw); go_simp; try with_reducible rfl)
  try simp only [Act.put, List.setIfInBounds_toArray, List.set_cons_zero, List.set_cons_succ]
  refine wpAnyH_take (i := 14) (oi := { dst := some 20, op := Op.extract (Operand.tmp 6) 2, type := 3, pos := "ref.go:243", after := #[{ on := 11, ground := Ground.data }, { on := 16, ground := Ground.gcOnly Departure.lateStores }], guard := none }) (v := ?vh44) rfl ?hsh44 ?hfh44 ?hrh44 ?hQh44 ?hyh44 (by assumption) ?resth44
  case hsh44 => kernel_rfl
  case hfh44 => kernel_rfl
  case hrh44 => kernel_rfl
  case hQh44 => exact fun _ _ _ h => h
  case hyh44 => (refine Or.inl ⟨by rfl, ?_⟩; intro w hSw; (try dsimp only at hSw); go_simp; try with_reducible rfl)
  try simp only [Act.put, List.setIfInBounds_toArray, List.set_cons_zero, List.set_cons_succ]
  refine wpAnyH_take (i := 15) (oi := { dst := some 3, op := Op.assign (Operand.tmp 18), type := 44, pos := "ref.go:243", after := #[{ on := 12, ground := Ground.data }, { on := 10, ground := Ground.chain }, { on := 0, ground := Ground.phase }, { on := 1, ground := Ground.phase }, { on := 2, ground := Ground.phase }, { on := 3, ground := Ground.phase }, { on := 4, ground := Ground.phase }, { on := 5, ground := Ground.phase }, { on := 6, ground := Ground.phase }, { on := 7, ground := Ground.phase }, { on := 8, ground := Ground.phase }, { on := 9, ground := Ground.phase }, { on := 10, ground := Ground.phase }, { on := 11, ground := Ground.phase }, { on := 12, ground := Ground.phase }, { on := 13, ground := Ground.textOnly Departure.lateStores }, { on := 14, ground := Ground.textOnly Departure.lateStores }], guard := none }) (v := ?vh45) rfl ?hsh45 ?hfh45 ?hrh45 ?hQh45 ?hyh45 (by assumption) ?resth45
  case hsh45 => kernel_rfl
  case hfh45 => kernel_rfl
  case hrh45 => kernel_rfl
  case hQh45 => exact fun _ _ _ h => h
  case hyh45 => (refine Or.inl ⟨by rfl, ?_⟩; intro w hSw; (try dsimp only at hSw); go_simp; try with_reducible rfl)
  try simp only [Act.put, List.setIfInBounds_toArray, List.set_cons_zero, List.set_cons_succ]
  refine wpAnyH_take (i := 16) (oi := { dst := some 4, op := Op.assign (Operand.tmp 19), type := 3, pos := "ref.go:243", after := #[{ on := 13, ground := Ground.data }, { on := 15, ground := Ground.chain }, { on := 0, ground := Ground.phase }, { on := 1, ground := Ground.phase }, { on := 2, ground := Ground.phase }, { on := 3, ground := Ground.phase }, { on := 4, ground := Ground.phase }, { on := 5, ground := Ground.phase }, { on := 6, ground := Ground.phase }, { on := 7, ground := Ground.phase }, { on := 8, ground := Ground.phase }, { on := 9, ground := Ground.phase }, { on := 10, ground := Ground.phase }, { on := 11, ground := Ground.phase }, { on := 12, ground := Ground.phase }, { on := 13, ground := Ground.phase }, { on := 14, ground := Ground.textOnly Departure.lateStores }, { on := 15, ground := Ground.phase }], guard := none }) (v := ?vh46) rfl ?hsh46 ?hfh46 ?hrh46 ?hQh46 ?hyh46 (by assumption) ?resth46
  case hsh46 => kernel_rfl
  case hfh46 => kernel_rfl
  case hrh46 => kernel_rfl
  case hQh46 => exact fun _ _ _ h => h
  case hyh46 => (refine Or.inl ⟨by rfl, ?_⟩; intro w hSw; (try dsimp only at hSw); go_simp; try with_reducible rfl)
  try simp only [Act.put, List.setIfInBounds_toArray, List.set_cons_zero, List.set_cons_succ]
  refine wpAnyH_take (i := 17) (oi := { dst := some 5, op := Op.assign (Operand.tmp 20), type := 3, pos := "ref.go:243", after := #[{ on := 14, ground := Ground.data }, { on := 16, ground := Ground.chain }, { on := 0, ground := Ground.phase }, { on := 1, ground := Ground.phase }, { on := 2, ground := Ground.phase }, { on := 3, ground := Ground.phase }, { on := 4, ground := Ground.phase }, { on := 5, ground := Ground.phase }, { on := 6, ground := Ground.phase }, { on := 7, ground := Ground.phase }, { on := 8, ground := Ground.phase }, { on := 9, ground := Ground.phase }, { on := 10, ground := Ground.phase }, { on := 11, ground := Ground.phase }, { on := 12, ground := Ground.phase }, { on := 13, ground := Ground.phase }, { on := 14, ground := Ground.phase }, { on := 15, ground := Ground.phase }, { on := 16, ground := Ground.phase }], guard := none }) (v := ?vh47) rfl ?hsh47 ?hfh47 ?hrh47 ?hQh47 ?hyh47 (by assumption) ?resth47
  case hsh47 => kernel_rfl
  case hfh47 => kernel_rfl
  case hrh47 => kernel_rfl
  case hQh47 => exact fun _ _ _ h => h
  case hyh47 => (refine Or.inl ⟨by rfl, ?_⟩; intro w hSw; (try dsimp only at hSw); go_simp; try with_reducible rfl)
  try simp only [Act.put, List.setIfInBounds_toArray, List.set_cons_zero, List.set_cons_succ]
  refine wpAnyH_done (by kernel_rfl) ?_ _
  refine NoPanic.normal ?_
  clear hHeld Hcall10 Hini11
  have q48 : v36.cell? ⟨r, 0, none⟩ = some (.slice A1 n1 c1) := X38.out.cell 0
  have q49 : v36.cell? ⟨r, 1, none⟩ = some (.slice A2 n2 c2) := X38.out.cell 1
  have q50 : v36.cell? ⟨r, 2, none⟩ = some (.slice A3 n3 c3) := X38.out.cell 2
  have q51 : v36.cell? ⟨r, 3, none⟩ = some (.slice A4 n4 c4) := X38.out.cell 3
  go_wp2_with fail
  go_ret
  exact ⟨⟨_, rfl, HOV.out⟩, B39.out⟩

end Go.Proofs.Ytbpbdgiglllncaa

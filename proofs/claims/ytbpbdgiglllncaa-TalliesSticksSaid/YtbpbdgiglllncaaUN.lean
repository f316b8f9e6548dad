/- Layer 9: the stick of the specification: within, add, Sync. -/
import Derived.Test.YtbpbdgiglllncaaUM
set_option linter.all false
namespace Go.Proofs.Ytbpbdgiglllncaa
open Go.RowKit

/-- a slice that stayed with its bytes, or a new one -/
def Upd (w w2 : World) (u : Value) (D : List Int) (y : Value) (E : List Int) : Prop := (y = u ∧ E = D) ∨ NewBy w w2 y E
theorem NewBy.nil (w w2 : World) : NewBy w w2 (.slice none 0 0) [] := ⟨Bys.nil _ _, fun g e => by cases e⟩
/-- the stick of the specification behind a step -/
theorem StkR.upd {w w2 W' : World} {r base : Nat} {u1 u2 u3 u4 y1 y2 y3 y4 : Value} {D1 P1 D2 P2 E1 Q1 E2 Q2 : List Int} (h : StkR w r base u1 u2 u3 u4 D1 P1 D2 P2) (hb : Below w.heap.size w w2) (hx : Ex (· = r) w2 W') (hbox : Box W' r 62 #[y1, y2, y3, y4])
    (k1 : Upd w w2 u1 D1 y1 E1) (k2 : Upd w w2 u2 P1 y2 Q1) (k3 : Upd w w2 u3 D2 y3 E2) (k4 : Upd w w2 u4 P2 y4 Q2) : StkR W' r base y1 y2 y3 y4 E1 Q1 E2 Q2 ∧ Ex (· = r) w W' ∧ Nw w u1 y1 ∧ Nw w u2 y2 ∧ Nw w u3 y3 ∧ Nw w u4 y4 := by
  have hr := h.box.lt
  have h2 := h.later hb
  have q : ∀ {u y : Value} {D E : List Int}, Upd w w2 u D y E → Bys w2 w2.heap.size u D → (∀ g, u.ownBlock = some g → g ≠ r ∧ g < w2.heap.size) → Bys W' W'.heap.size y E ∧ (∀ g, y.ownBlock = some g → g ≠ r ∧ g < W'.heap.size) ∧ Nw w u y := by
    intro u y D E hk hu hn
    rcases hk with ⟨rfl, rfl⟩ | ⟨k1, k2⟩
    · exact ⟨hu.ex hx (fun g e => (hn g e).1), fun g e => ⟨(hn g e).1, Nat.lt_of_lt_of_le (hn g e).2 hx.1⟩, .inl rfl⟩
    · exact ⟨k1.ex hx (fun g e => by have := (k2 g e).1; show ¬ g = r; omega), fun g e => ⟨by have := (k2 g e).1; omega, Nat.lt_of_lt_of_le (k2 g e).2 hx.1⟩, .inr fun g e => (k2 g e).1⟩
  have q1 := q k1 h2.b1 h2.n1
  have q2 := q k2 h2.b2 h2.n2
  have q3 := q k3 h2.b3 h2.n3
  have q4 := q k4 h2.b4 h2.n4
  exact ⟨{ box := hbox, b1 := q1.1, b2 := q2.1, b3 := q3.1, b4 := q4.1, n1 := q1.2.1, n2 := q2.2.1, n3 := q3.2.1, n4 := q4.2.1, hr := h.hr }, (Ex.of_below hb).trans hx, q1.2.2, q2.2.2, q3.2.2, q4.2.2⟩

set_option maxRecDepth 100000 in
set_option maxHeartbeats 4000000 in
theorem rwithin_c (n a b : Int) (w : World) : Calls Try.prog 54 #[.int .i64 n, .int .i64 a, .int .i64 b] w fun e w' => e = .returned (.bool (inB n a b)) ∧ w = w' := by
  by_cases h1 : a ≤ n
  · have d1 : decide (a ≤ n) = true := decide_eq_true h1
    have HE := Lib.hid (show inB n a b = decide (n ≤ b) by unfold inB; rw [d1, Bool.true_and])
    clear h1
    go_enter Try.func54, Try.ntmps54
    go_wp2_with fail
    go_ret
    exact ⟨ret_bool HE.out.symm, rfl⟩
  · have d1 : decide (a ≤ n) = false := decide_eq_false h1
    have HE := Lib.hid (show inB n a b = false by unfold inB; rw [d1, Bool.false_and])
    clear h1
    go_enter Try.func54, Try.ntmps54
    go_wp2_with fail
    go_ret
    exact ⟨ret_bool HE.out.symm, rfl⟩

set_option maxRecDepth 100000 in
set_option maxHeartbeats 8000000 in
theorem radd_c (r base : Nat) (u1 u2 u3 u4 s f : Value) (D1 P1 D2 P2 xs ys : List Int) (w : World) (h : StkR w r base u1 u2 u3 u4 D1 P1 D2 P2) (hs : Bys w w.heap.size s xs) (hf : Bys w w.heap.size f ys) (hnf : ∀ g, f.ownBlock = some g → ¬ g = r) (hl1 : P1.length + xs.length ≤ 1073741824) (hl2 : P2.length + ys.length ≤ 1073741824) (hbase : base ≤ w.heap.size) :
    Calls Try.prog 57 #[.pointer (some ⟨r, 0, none⟩), s, f] w fun e w' => (∃ rr, e = .returned rr) ∧ ∃ y2 y4, StkR w' r base u1 y2 u3 y4 D1 (P1 ++ xs) D2 (P2 ++ ys) ∧ Ex (· = r) w w' ∧ Below base w w' ∧ Nw w u2 y2 ∧ Nw w u4 y4 := by
  have H := Lib.hid h
  have HS := Lib.hid hs
  have HF := Lib.hid hf
  have HNF := Lib.hid hnf
  have HLa := Lib.hid hl1
  have HLb := Lib.hid hl2
  have HBASE := Lib.hid hbase
  obtain ⟨A1, c1, rfl, -⟩ := h.b1.shape
  obtain ⟨A2, c2, rfl, -⟩ := h.b2.shape
  obtain ⟨A3, c3, rfl, -⟩ := h.b3.shape
  obtain ⟨A4, c4, rfl, -⟩ := h.b4.shape
  obtain ⟨S1, d1, rfl, -⟩ := hs.shape
  obtain ⟨S2, d2, rfl, -⟩ := hf.shape
  have HBX := Lib.hid h.box
  have HB2 := Lib.hid h.b2
  clear h hs hf hnf hl1 hl2 hbase
  go_enter Try.func57, Try.ntmps57
  have BCa := Lib.hid (HBX.out.alloc (.cells #[] 5))
  have p0a : (w.alloc (.cells #[] 5)).cell? ⟨r, 0, none⟩ = some (.slice A1 D1.length c1) := BCa.out.cell 0
  have p1a : (w.alloc (.cells #[] 5)).cell? ⟨r, 1, none⟩ = some (.slice A2 P1.length c2) := BCa.out.cell 1
  have p2a : (w.alloc (.cells #[] 5)).cell? ⟨r, 2, none⟩ = some (.slice A3 D2.length c3) := BCa.out.cell 2
  have p3a : (w.alloc (.cells #[] 5)).cell? ⟨r, 3, none⟩ = some (.slice A4 P2.length c4) := BCa.out.cell 3
  have BAa := Lib.hid ((Below.refl (w).heap.size w).alloc (Nat.le_refl _) (.cells #[] 5))
  have RLa := Lib.hid (show (w.alloc (.cells #[] 5)).ownsRow (w).heap.size 5 1 (.slice (some ⟨w.heap.size, 0, none⟩) 0 0) ([] : List Int).length (bys []) by have h := bys_lit w (w).heap.size [] (Nat.le_refl _) (by simp); exact h)
  have BOa := Lib.hid (HB2.out.later BAa.out)
  have SLa := Lib.hid (show (w).heap.size ≤ (w.alloc (.cells #[] 5)).heap.size by simp)
  go_wp2_with (first
    | (at_builtin; refine wpList_bytes rfl _ _ rfl (w).heap.size (.slice (some ⟨w.heap.size, 0, none⟩) 0 0) ([] : List Int) rfl RLa.out _ P1 rfl BOa.out (by have := HLa.out; simp; omega) SLa.out ?_
       intro vaa waa oaa gaa naa
       have OAa := Lib.hid oaa
       have GAa := Lib.hid (BAa.out.grown gaa SLa.out (fun k e => (RLa.out.lt k e).1))
       clear oaa gaa naa)
    | (at_builtin; refine wpList_bytes rfl _ _ rfl (w).heap.size vaa _ rfl OAa.out _ xs rfl (HS.out.later GAa.out) (by have := HLa.out; simp; omega) GAa.out.size ?_
       intro vba wba oba gba nba
       obtain ⟨lna, hlna⟩ : ∃ z, (([] : List Int) ++ P1 ++ xs).length = z := ⟨_, rfl⟩
       rw [hlna] at oba
       obtain ⟨Aba, cba, rfl⟩ := own_shape oba
       have HLNa := Lib.hid hlna
       clear hlna
       have OBa := Lib.hid oba
       have GBa := Lib.hid (GAa.out.grown gba GAa.out.size (fun k e => (OAa.out.lt k e).1))
       have BXa := Lib.hid (HBX.out.later GBa.out)
       have fa : ∀ i, wba.frozen? ⟨r, i, none⟩ = false := fun i => BXa.out.free i
       have g0a : wba.cell? ⟨r, 0, none⟩ = some (.slice A1 D1.length c1) := BXa.out.cell 0
       have g1a : wba.cell? ⟨r, 1, none⟩ = some (.slice A2 P1.length c2) := BXa.out.cell 1
       have g2a : wba.cell? ⟨r, 2, none⟩ = some (.slice A3 D2.length c3) := BXa.out.cell 2
       have g3a : wba.cell? ⟨r, 3, none⟩ = some (.slice A4 P2.length c4) := BXa.out.cell 3
       clear oba gba nba
       have ST1 := Lib.hid (H.out.upd GBa.out (Ex.set _ wba r 1 (.slice Aba lna cba) rfl) (BXa.out.put 1 (.slice Aba lna cba)) (.inl ⟨rfl, rfl⟩) (.inr (NewBy.of (l := P1 ++ xs) (by have h := OBa.out; rw [← HLNa.out, List.nil_append] at h; rw [← HLNa.out, List.nil_append]; exact h) (Nat.le_refl _) (by have := HLa.out; simp; omega) (H.out.b2.by.app HS.out.by))) (.inl ⟨rfl, rfl⟩) (.inl ⟨rfl, rfl⟩))
       have BL1 := Lib.hid ((GBa.out.mono HBASE.out).setCell (p := ⟨r, 1, none⟩) H.out.hr (.slice Aba lna cba))
       have HX1 := Lib.hid ST1.out.1.box
       have HF1 := Lib.hid (HF.out.ex ST1.out.2.1 HNF.out)
       have HB4 := Lib.hid ST1.out.1.b4
       clear p0a p1a p2a p3a
       have BCb := Lib.hid (HX1.out.alloc (.cells #[] 5))
       have p0b : ((wba.setCell ⟨r, 1, none⟩ (.slice Aba lna cba)).alloc (.cells #[] 5)).cell? ⟨r, 0, none⟩ = some (.slice A1 D1.length c1) := BCb.out.cell 0
       have p1b : ((wba.setCell ⟨r, 1, none⟩ (.slice Aba lna cba)).alloc (.cells #[] 5)).cell? ⟨r, 1, none⟩ = some (.slice Aba lna cba) := BCb.out.cell 1
       have p2b : ((wba.setCell ⟨r, 1, none⟩ (.slice Aba lna cba)).alloc (.cells #[] 5)).cell? ⟨r, 2, none⟩ = some (.slice A3 D2.length c3) := BCb.out.cell 2
       have p3b : ((wba.setCell ⟨r, 1, none⟩ (.slice Aba lna cba)).alloc (.cells #[] 5)).cell? ⟨r, 3, none⟩ = some (.slice A4 P2.length c4) := BCb.out.cell 3
       have BAb := Lib.hid ((Below.refl ((wba.setCell ⟨r, 1, none⟩ (.slice Aba lna cba))).heap.size (wba.setCell ⟨r, 1, none⟩ (.slice Aba lna cba))).alloc (Nat.le_refl _) (.cells #[] 5))
       have RLb := Lib.hid (show ((wba.setCell ⟨r, 1, none⟩ (.slice Aba lna cba)).alloc (.cells #[] 5)).ownsRow ((wba.setCell ⟨r, 1, none⟩ (.slice Aba lna cba))).heap.size 5 1 (.slice (some ⟨wba.heap.size, 0, none⟩) 0 0) ([] : List Int).length (bys []) by have h := bys_lit (wba.setCell ⟨r, 1, none⟩ (.slice Aba lna cba)) ((wba.setCell ⟨r, 1, none⟩ (.slice Aba lna cba))).heap.size [] (Nat.le_refl _) (by simp); rw [World.size_setCell] at h ⊢; exact h)
       have BOb := Lib.hid (HB4.out.later BAb.out)
       have SLb := Lib.hid (show ((wba.setCell ⟨r, 1, none⟩ (.slice Aba lna cba))).heap.size ≤ ((wba.setCell ⟨r, 1, none⟩ (.slice Aba lna cba)).alloc (.cells #[] 5)).heap.size by simp)
       )
    | (at_builtin; refine wpList_bytes rfl _ _ rfl ((wba.setCell ⟨r, 1, none⟩ (.slice Aba lna cba))).heap.size (.slice (some ⟨wba.heap.size, 0, none⟩) 0 0) ([] : List Int) rfl RLb.out _ P2 rfl BOb.out (by have := HLb.out; simp; omega) SLb.out ?_
       intro vab wab oab gab nab
       have OAb := Lib.hid oab
       have GAb := Lib.hid (BAb.out.grown gab SLb.out (fun k e => (RLb.out.lt k e).1))
       clear oab gab nab)
    | (at_builtin; refine wpList_bytes rfl _ _ rfl ((wba.setCell ⟨r, 1, none⟩ (.slice Aba lna cba))).heap.size vab _ rfl OAb.out _ ys rfl (HF1.out.later GAb.out) (by have := HLb.out; simp; omega) GAb.out.size ?_
       intro vbb wbb obb gbb nbb
       obtain ⟨lnb, hlnb⟩ : ∃ z, (([] : List Int) ++ P2 ++ ys).length = z := ⟨_, rfl⟩
       rw [hlnb] at obb
       obtain ⟨Abb, cbb, rfl⟩ := own_shape obb
       have HLNb := Lib.hid hlnb
       clear hlnb
       have OBb := Lib.hid obb
       have GBb := Lib.hid (GAb.out.grown gbb GAb.out.size (fun k e => (OAb.out.lt k e).1))
       have BXb := Lib.hid (HX1.out.later GBb.out)
       have fb : ∀ i, wbb.frozen? ⟨r, i, none⟩ = false := fun i => BXb.out.free i
       have g0b : wbb.cell? ⟨r, 0, none⟩ = some (.slice A1 D1.length c1) := BXb.out.cell 0
       have g1b : wbb.cell? ⟨r, 1, none⟩ = some (.slice Aba lna cba) := BXb.out.cell 1
       have g2b : wbb.cell? ⟨r, 2, none⟩ = some (.slice A3 D2.length c3) := BXb.out.cell 2
       have g3b : wbb.cell? ⟨r, 3, none⟩ = some (.slice A4 P2.length c4) := BXb.out.cell 3
       clear obb gbb nbb
       ))
  go_end0
  have S2 := ST1.out.1.upd GBb.out (Ex.set _ wbb r 3 (.slice Abb lnb cbb) rfl) (BXb.out.put 3 (.slice Abb lnb cbb)) (.inl ⟨rfl, rfl⟩) (.inl ⟨rfl, rfl⟩) (.inl ⟨rfl, rfl⟩) (.inr (NewBy.of (l := P2 ++ ys) (by have h := OBb.out; rw [← HLNb.out, List.nil_append] at h; rw [← HLNb.out, List.nil_append]; exact h) (Nat.le_refl _) (by have := HLb.out; simp; omega) (H.out.b4.by.app HF.out.by)))
  refine ⟨⟨_, rfl⟩, (.slice Aba lna cba), (.slice Abb lnb cbb), S2.1, ST1.out.2.1.trans S2.2.1, BL1.out.trans ((GBb.out.mono (Nat.le_trans HBASE.out ST1.out.2.1.1)).setCell (p := ⟨r, 3, none⟩) H.out.hr (.slice Abb lnb cbb)), ST1.out.2.2.2.1, ?_⟩
  refine .inr fun g e => ?_
  rcases S2.2.2.2.2.2 with q | q
  · exact absurd (ST1.out.1.n4 g (q ▸ e)).2 (by have := (OBb.out.lt g e).1; omega)
  · exact Nat.le_trans ST1.out.2.1.1 (q g e)

set_option maxRecDepth 100000 in
set_option maxHeartbeats 8000000 in
theorem rSync_c (r base : Nat) (u1 u2 u3 u4 : Value) (D1 P1 D2 P2 : List Int) (w : World) (h : StkR w r base u1 u2 u3 u4 D1 P1 D2 P2) (hl1 : D1.length + P1.length ≤ 1073741824) (hl2 : D2.length + P2.length ≤ 1073741824) (hbase : base ≤ w.heap.size) :
    Calls Try.prog 23 #[.pointer (some ⟨r, 0, none⟩)] w fun e w' => (∃ rr, e = .returned rr) ∧ ∃ y1 y3, StkR w' r base y1 (.slice none 0 0) y3 (.slice none 0 0) (D1 ++ P1) [] (D2 ++ P2) [] ∧ Ex (· = r) w w' ∧ Below base w w' ∧ Nw w u1 y1 ∧ Nw w u3 y3 := by
  have H := Lib.hid h
  have HLa := Lib.hid hl1
  have HLb := Lib.hid hl2
  have HBASE := Lib.hid hbase
  obtain ⟨A1, c1, rfl, -⟩ := h.b1.shape
  obtain ⟨A2, c2, rfl, -⟩ := h.b2.shape
  obtain ⟨A3, c3, rfl, -⟩ := h.b3.shape
  obtain ⟨A4, c4, rfl, -⟩ := h.b4.shape
  have ka := Lib.hid (all_c D1 P1 _ _ w h.b1 h.b2 hl1)
  have q0 := h.box.cell 0
  have q1 := h.box.cell 1
  have q2 := h.box.cell 2
  have q3 := h.box.cell 3
  clear h hl1 hl2 hbase
  go_enter Try.func23, Try.ntmps23
  go_wp2_with fail
  refine ka.out.mono ?_; rintro e w1 ⟨⟨v1, rfl, nb1⟩, hb1⟩
  obtain ⟨V1, k1, rfl, -⟩ := nb1.1.shape
  have NB1 := Lib.hid nb1
  have HB1 := Lib.hid hb1
  have BX1 := Lib.hid (H.out.box.later hb1)
  obtain ⟨m1, hm1⟩ : ∃ z, (D1 ++ P1).length = z := ⟨_, rfl⟩
  rw [hm1] at NB1 ⊢
  clear hb1 nb1 hm1 q0 q1 q2 q3
  have q0 := BX1.out.cell 0
  have q1 := BX1.out.cell 1
  have q2 := BX1.out.cell 2
  have q3 := BX1.out.cell 3
  have fz : ∀ i, w1.frozen? ⟨r, i, none⟩ = false := fun i => BX1.out.free i
  go_wp2_with fail
  have ST1 := Lib.hid (H.out.upd HB1.out ((Ex.set (· = r) w1 r 0 (.slice V1 m1 k1) rfl).trans (Ex.set _ _ r 1 (.slice none 0 0) rfl)) ((BX1.out.put 0 (.slice V1 m1 k1)).put 1 (.slice none 0 0)) (.inr NB1.out) (.inr (NewBy.nil _ _)) (.inl ⟨rfl, rfl⟩) (.inl ⟨rfl, rfl⟩))
  have BL1 := Lib.hid (((HB1.out.mono HBASE.out).setCell (p := ⟨r, 0, none⟩) H.out.hr (.slice V1 m1 k1)).setCell (p := ⟨r, 1, none⟩) H.out.hr (.slice none 0 0))
  obtain ⟨W1, hW1⟩ : ∃ z, (w1.setCell ⟨r, 0, none⟩ (.slice V1 m1 k1)).setCell ⟨r, 1, none⟩ (.slice none 0 0) = z := ⟨_, rfl⟩
  rw [hW1] at ST1 BL1 ⊢
  have kb := Lib.hid (all_c D2 P2 _ _ W1 ST1.out.1.b3 ST1.out.1.b4 HLb.out)
  clear hW1 q0 q1 q2 q3 fz
  refine kb.out.mono ?_; rintro e w2 ⟨⟨v2, rfl, nb2⟩, hb2⟩
  obtain ⟨V2, k2, rfl, -⟩ := nb2.1.shape
  have NB2 := Lib.hid nb2
  have HB2 := Lib.hid hb2
  have BX2 := Lib.hid (ST1.out.1.box.later hb2)
  obtain ⟨m2, hm2⟩ : ∃ z, (D2 ++ P2).length = z := ⟨_, rfl⟩
  rw [hm2] at NB2 ⊢
  clear hb2 nb2 hm2
  have q0 := BX2.out.cell 0
  have q1 := BX2.out.cell 1
  have q2 := BX2.out.cell 2
  have q3 := BX2.out.cell 3
  have fz : ∀ i, w2.frozen? ⟨r, i, none⟩ = false := fun i => BX2.out.free i
  go_wp2_with fail
  go_end0
  have S2 := ST1.out.1.upd HB2.out ((Ex.set (· = r) w2 r 2 (.slice V2 m2 k2) rfl).trans (Ex.set _ _ r 3 (.slice none 0 0) rfl)) ((BX2.out.put 2 (.slice V2 m2 k2)).put 3 (.slice none 0 0)) (.inl ⟨rfl, rfl⟩) (.inl ⟨rfl, rfl⟩) (.inr NB2.out) (.inr (NewBy.nil _ _))
  refine ⟨⟨_, rfl⟩, (.slice V1 m1 k1), (.slice V2 m2 k2), S2.1, ST1.out.2.1.trans S2.2.1, BL1.out.trans (((HB2.out.mono (Nat.le_trans HBASE.out ST1.out.2.1.1)).setCell (p := ⟨r, 2, none⟩) H.out.hr (.slice V2 m2 k2)).setCell (p := ⟨r, 3, none⟩) H.out.hr (.slice none 0 0)), ST1.out.2.2.1, ?_⟩
  refine .inr fun g e => ?_
  exact Nat.le_trans ST1.out.2.1.1 (NB2.out.2 g e).1

end Go.Proofs.Ytbpbdgiglllncaa

/- Layer 9: a crash of the program's stick: Crash, NewStick. -/
import Derived.Test.YtbpbdgiglllncaaUP
set_option linter.all false
namespace Go.Proofs.Ytbpbdgiglllncaa
open Go.RowKit

/-- whether a crash may be so -/
def crOk (p1 p2 : Nat) (k m t : Int) : Bool := inB k 0 (p1 : Int) && (inB m 0 (p2 : Int) && inB t (-1) (8 * (k + m) - 1))
def crE (p1 p2 : Nat) (k m t : Int) : Int := if crOk p1 p2 k m t then 0 else 1
def crA (D1 P1 P2 : List Int) (k m t : Int) : List Int := if crOk P1.length P2.length k m t then D1 ++ (crL P1 P2 k.toNat m.toNat t).take k.toNat else D1
def crB (D2 P1 P2 : List Int) (k m t : Int) : List Int := if crOk P1.length P2.length k m t then D2 ++ (crL P1 P2 k.toNat m.toNat t).drop k.toNat else D2
def crP (P1 P2 P : List Int) (k m t : Int) : List Int := if crOk P1.length P2.length k m t then [] else P
theorem inB_of {n a b : Int} (h1 : a ≤ n) (h2 : n ≤ b) : inB n a b = true := by unfold inB; rw [decide_eq_true h1, decide_eq_true h2]; rfl
theorem of_inB {n a b : Int} (h : inB n a b = true) : a ≤ n ∧ n ≤ b := by unfold inB at h; simpa using h
/-- what a crash leaves -/
def CrashPost (W : World) (b base : Nat) (v1 v2 : Value) (D1 P1 D2 P2 : List Int) (k m t : Int) (e : Ending) (W' : World) : Prop :=
  ∃ v1' v2', e = .returned (.int .i64 (crE P1.length P2.length k m t)) ∧ StkP W' b base v1' v2' (crA D1 P1 P2 k m t ++ crP P1 P2 P1 k m t) (crB D2 P1 P2 k m t ++ crP P1 P2 P2 k m t) (crA D1 P1 P2 k m t).length (crB D2 P1 P2 k m t).length ∧ Chg W W' b base v1 v2 ∧ NewB W v1 v1' ∧ NewB W v2 v2'
theorem CrashPost.no {W W' : World} {b base : Nat} {v1 v2 : Value} {D1 P1 D2 P2 : List Int} {k m t : Int} (h : StkP W b base v1 v2 (D1 ++ P1) (D2 ++ P2) D1.length D2.length) (hb : Below W.heap.size W W') (hbase : base ≤ W.heap.size) (ho : crOk P1.length P2.length k m t = false) : CrashPost W b base v1 v2 D1 P1 D2 P2 k m t (.returned (.int .i64 1)) W' := by
  unfold CrashPost crE crA crB crP
  rw [ho]
  exact ⟨v1, v2, rfl, h.later hb, Chg.of_below hb hbase, NewB.refl _ _, NewB.refl _ _⟩
theorem own_cap {w : World} {base n c : Nat} {e : TypeId} {A : Option Addr} {xs : List Value} (h : w.ownsRow base e 1 (.slice A n c) n xs) : n ≤ c := by
  rcases h.2 with ⟨h1, h2⟩ | ⟨g, cap, cur, h1, -, -, h2, -⟩
  · omega
  · injection h1 with e1 e2 e3; omega
theorem own_addr {w : World} {base n c : Nat} {e : TypeId} {A : Option Addr} {xs : List Value} (h : w.ownsRow base e 1 (.slice A n c) n xs) (hn : 0 < n) : ∃ g, A = some ⟨g, 0, none⟩ := by
  rcases h.2 with ⟨h1, h2⟩ | ⟨g, cap, cur, h1, -⟩
  · omega
  · injection h1 with e1 e2 e3; exact ⟨g, e1⟩
/-- both journals keep what they should: behind whatever the bit did -/
theorem CrashPost.yes {W0 W : World} {b base n1 c1 n2 c2 : Nat} {A1 A2 : Option Addr} {v1 v2 : Value} {D1 P1 D2 P2 S F : List Int} {K M : Nat} {t : Int} (h : StkP W b base (.slice A1 n1 c1) (.slice A2 n2 c2) S F D1.length D2.length) (hn1 : n1 = S.length) (hn2 : n2 = F.length) (hk : D1.length + K ≤ S.length) (hm : D2.length + M ≤ F.length)
    (e1 : S.take (D1.length + K) = D1 ++ (crL P1 P2 K M t).take K) (e2 : F.take (D2.length + M) = D2 ++ (crL P1 P2 K M t).drop K) (ho : crOk P1.length P2.length (K : Int) (M : Int) t = true)
    (hc : Chg W0 W b base v1 v2) (m1 : NewB W0 v1 (.slice A1 n1 c1)) (m2 : NewB W0 v2 (.slice A2 n2 c2)) :
    CrashPost W0 b base v1 v2 D1 P1 D2 P2 (K : Int) (M : Int) t (.returned (.int .i64 0)) (((((W.drew).setCell ⟨b, 0, none⟩ (.slice A1 (D1.length + K) c1)).setCell ⟨b, 1, none⟩ (.int .i64 ((D1.length + K : Nat) : Int))).drew.setCell ⟨b, 2, none⟩ (.slice A2 (D2.length + M) c2)).setCell ⟨b, 3, none⟩ (.int .i64 ((D2.length + M : Nat) : Int))) := by
  have h0 := h.later (below_drew W)
  have h1 := h0.keep1 hn1 hk
  have h1' := h1.later (below_drew _)
  have h2 := h1'.keep2 hn2 hm
  unfold CrashPost crE crA crB crP
  rw [ho]
  simp only [if_true, Int.toNat_natCast, List.append_nil]
  rw [← e1, ← e2]
  have l1 : (S.take (D1.length + K)).length = D1.length + K := by simp; omega
  have l2 : (F.take (D2.length + M)).length = D2.length + M := by simp; omega
  rw [l1, l2]
  have q1 : ∀ {A : Option Addr} {n c m : Nat}, (Value.slice A n c).ownBlock = (Value.slice A m c).ownBlock := fun {A n c m} => by cases A <;> rfl
  have r1 : NewB W0 (.slice A1 n1 c1) (.slice A1 (D1.length + K) c1) := .inl q1
  have r2 : NewB W0 (.slice A2 n2 c2) (.slice A2 (D2.length + M) c2) := .inl q1
  refine ⟨_, _, by first | rfl | trivial, h2, ?_, m1.trans r1, m2.trans r2⟩
  have g1 : Chg W (((W.drew).setCell ⟨b, 0, none⟩ (.slice A1 (D1.length + K) c1)).setCell ⟨b, 1, none⟩ (.int .i64 ((D1.length + K : Nat) : Int))) b base (.slice A1 n1 c1) (.slice A2 n2 c2) := (Chg.of_below (below_drew W) (Nat.le_trans h.hb (Nat.le_of_lt h.box.lt))).trans (Chg.stores h.hb) (NewB.refl _ _) (NewB.refl _ _)
  have s1 := g1.2.1
  exact hc.trans (g1.trans (v1' := (.slice A1 n1 c1)) (v2' := (.slice A2 n2 c2)) ((Chg.of_below (below_drew _) (Nat.le_trans h.hb (Nat.le_of_lt h1.box.lt))).trans (Chg.stores h.hb) (NewB.refl _ _) (NewB.refl _ _)) (NewB.refl _ _) (NewB.refl _ _)) m1 m2
set_option maxRecDepth 100000 in
set_option maxHeartbeats 8000000 in
theorem Crash_c (b base : Nat) (v1 v2 : Value) (D1 P1 D2 P2 : List Int) (k m t : Int) (w : World) (h : StkP w b base v1 v2 (D1 ++ P1) (D2 ++ P2) D1.length D2.length) (hbase : base ≤ w.heap.size) :
    Calls Try.prog 24 #[.pointer (some ⟨b, 0, none⟩), .int .i64 k, .int .i64 m, .int .i64 t] w fun e w' => CrashPost w b base v1 v2 D1 P1 D2 P2 k m t e w' := by
  have H := Lib.hid h
  have HBASE := Lib.hid hbase
  obtain ⟨A1, c1, rfl⟩ := own_shape h.o1
  obtain ⟨A2, c2, rfl⟩ := own_shape h.o2
  have HBOX := Lib.hid h.box
  have HB0 := Lib.hid (Below.refl w.heap.size w)
  have HL1 := Lib.hid (show (D1 ++ P1).length = D1.length + P1.length from List.length_append)
  have HL2 := Lib.hid (show (D2 ++ P2).length = D2.length + P2.length from List.length_append)
  have s1 := h.s1
  have s2 := h.s2
  have HS1 := Lib.hid s1
  have HS2 := Lib.hid s2
  have HY1 := Lib.hid h.y1
  have HY2 := Lib.hid h.y2
  obtain ⟨p1, hp1⟩ : ∃ z, P1.length = z := ⟨_, rfl⟩
  obtain ⟨p2, hp2⟩ : ∃ z, P2.length = z := ⟨_, rfl⟩
  obtain ⟨d1, hd1⟩ : ∃ z, D1.length = z := ⟨_, rfl⟩
  obtain ⟨d2, hd2⟩ : ∃ z, D2.length = z := ⟨_, rfl⟩
  obtain ⟨n1, hn1⟩ : ∃ z, (D1 ++ P1).length = z := ⟨_, rfl⟩
  obtain ⟨n2, hn2⟩ : ∃ z, (D2 ++ P2).length = z := ⟨_, rfl⟩
  have HP1 := Lib.hid hp1
  have HP2 := Lib.hid hp2
  have HD1 := Lib.hid hd1
  have HD2 := Lib.hid hd2
  have HN1 := Lib.hid hn1
  have HN2 := Lib.hid hn2
  rw [hn1, hd1, hp1] at HL1
  rw [hn2, hd2, hp2] at HL2
  rw [hn1] at HS1
  rw [hn2] at HS2
  rw [hn1, hn2, hd1, hd2] at HBOX
  have HD1e := Lib.hid (show (n1 : Int) - (d1 : Int) = (p1 : Int) by have := HL1.out; omega)
  have HD2e := Lib.hid (show (n2 : Int) - (d2 : Int) = (p2 : Int) by have := HL2.out; omega)
  have k1 := Lib.hid (fun (W : World) (q0 : W.cell? ⟨b, 0, none⟩ = some (.slice A1 n1 c1)) (q1 : W.cell? ⟨b, 1, none⟩ = some (.int .i64 (d1 : Int))) => pending_c b 0 A1 n1 c1 (d1 : Int) W q0 q1 (by have := HS1.out; omega) (by omega) (by have := HL1.out; omega))
  have k2 := Lib.hid (fun (W : World) (q0 : W.cell? ⟨b, 2, none⟩ = some (.slice A2 n2 c2)) (q1 : W.cell? ⟨b, 3, none⟩ = some (.int .i64 (d2 : Int))) => pending_c b 2 A2 n2 c2 (d2 : Int) W q0 q1 (by have := HS2.out; omega) (by omega) (by have := HL2.out; omega))
  have HNO := Lib.hid (fun (W' : World) (hb : Below w.heap.size w W') (ho : crOk P1.length P2.length k m t = false) => CrashPost.no H.out hb HBASE.out ho)
  rw [hp1, hp2, hn1, hn2] at HNO
  rw [hn1, hn2]
  clear h hbase s1 s2 hp1 hp2 hd1 hd2 hn1 hn2
  by_cases q1 : inB k 0 (p1 : Int) = true
  case neg =>
    have Q1 := Lib.hid (show inB k 0 (p1 : Int) = false by simpa using q1)
    clear q1
    go_enter Try.func24, Try.ntmps24
    have q1 : w.cell? ⟨b, 0, none⟩ = some (.slice A1 n1 c1) := HBOX.out.cell 0
    have q2 : w.cell? ⟨b, 1, none⟩ = some (.int .i64 (d1 : Int)) := HBOX.out.cell 1
    have q3 : w.cell? ⟨b, 2, none⟩ = some (.slice A2 n2 c2) := HBOX.out.cell 2
    have q4 : w.cell? ⟨b, 3, none⟩ = some (.int .i64 (d2 : Int)) := HBOX.out.cell 3
    go_wp2_with fail
    refine (k1.out w (HBOX.out.cell 0) (HBOX.out.cell 1)).mono ?_; rintro e v5 ⟨rfl, hb6⟩
    have X7 := Lib.hid (HBOX.out.later hb6)
    have B8 := Lib.hid (HB0.out.trans (hb6.mono HB0.out.size))
    clear hb6
    rw [HD1e.out]
    clear q1 q2 q3 q4
    have q9 : v5.cell? ⟨b, 0, none⟩ = some (.slice A1 n1 c1) := X7.out.cell 0
    have q10 : v5.cell? ⟨b, 1, none⟩ = some (.int .i64 (d1 : Int)) := X7.out.cell 1
    have q11 : v5.cell? ⟨b, 2, none⟩ = some (.slice A2 n2 c2) := X7.out.cell 2
    have q12 : v5.cell? ⟨b, 3, none⟩ = some (.int .i64 (d2 : Int)) := X7.out.cell 3
    go_wp2_with fail
    refine (isFromTo_c k 0 (p1 : Int) v5).mono ?_; rintro e v13 ⟨rfl, rfl⟩
    rw [Q1.out]
    go_wp2_with fail
    go_ret
    exact HNO.out _ B8.out (by unfold crOk; rw [Q1.out, Bool.false_and])
  by_cases q2 : inB m 0 (p2 : Int) = true
  case neg =>
    have Q1 := Lib.hid q1
    have Q2 := Lib.hid (show inB m 0 (p2 : Int) = false by simpa using q2)
    clear q1 q2
    go_enter Try.func24, Try.ntmps24
    have q14 : w.cell? ⟨b, 0, none⟩ = some (.slice A1 n1 c1) := HBOX.out.cell 0
    have q15 : w.cell? ⟨b, 1, none⟩ = some (.int .i64 (d1 : Int)) := HBOX.out.cell 1
    have q16 : w.cell? ⟨b, 2, none⟩ = some (.slice A2 n2 c2) := HBOX.out.cell 2
    have q17 : w.cell? ⟨b, 3, none⟩ = some (.int .i64 (d2 : Int)) := HBOX.out.cell 3
    go_wp2_with fail
    refine (k1.out w (HBOX.out.cell 0) (HBOX.out.cell 1)).mono ?_; rintro e v18 ⟨rfl, hb19⟩
    have X20 := Lib.hid (HBOX.out.later hb19)
    have B21 := Lib.hid (HB0.out.trans (hb19.mono HB0.out.size))
    clear hb19
    rw [HD1e.out]
    clear q14 q15 q16 q17
    have q22 : v18.cell? ⟨b, 0, none⟩ = some (.slice A1 n1 c1) := X20.out.cell 0
    have q23 : v18.cell? ⟨b, 1, none⟩ = some (.int .i64 (d1 : Int)) := X20.out.cell 1
    have q24 : v18.cell? ⟨b, 2, none⟩ = some (.slice A2 n2 c2) := X20.out.cell 2
    have q25 : v18.cell? ⟨b, 3, none⟩ = some (.int .i64 (d2 : Int)) := X20.out.cell 3
    go_wp2_with fail
    refine (isFromTo_c k 0 (p1 : Int) v18).mono ?_; rintro e v26 ⟨rfl, rfl⟩
    rw [Q1.out]
    go_wp2_with fail
    refine (k2.out v18 (X20.out.cell 2) (X20.out.cell 3)).mono ?_; rintro e v27 ⟨rfl, hb28⟩
    have X29 := Lib.hid (X20.out.later hb28)
    have B30 := Lib.hid (B21.out.trans (hb28.mono B21.out.size))
    clear hb28
    rw [HD2e.out]
    clear q22 q23 q24 q25
    have q31 : v27.cell? ⟨b, 0, none⟩ = some (.slice A1 n1 c1) := X29.out.cell 0
    have q32 : v27.cell? ⟨b, 1, none⟩ = some (.int .i64 (d1 : Int)) := X29.out.cell 1
    have q33 : v27.cell? ⟨b, 2, none⟩ = some (.slice A2 n2 c2) := X29.out.cell 2
    have q34 : v27.cell? ⟨b, 3, none⟩ = some (.int .i64 (d2 : Int)) := X29.out.cell 3
    go_wp2_with fail
    refine (isFromTo_c m 0 (p2 : Int) v27).mono ?_; rintro e v35 ⟨rfl, rfl⟩
    rw [Q2.out]
    go_wp2_with fail
    go_ret
    exact HNO.out _ B30.out (by unfold crOk; rw [Q2.out, Bool.false_and, Bool.and_false])
  obtain ⟨K, rfl⟩ := Int.eq_ofNat_of_zero_le (of_inB q1).1
  obtain ⟨M, rfl⟩ := Int.eq_ofNat_of_zero_le (of_inB q2).1
  have hK : K ≤ p1 := by have := (of_inB q1).2; omega
  have hM : M ≤ p2 := by have := (of_inB q2).2; omega
  have HK := Lib.hid hK
  have HM := Lib.hid hM
  have Q1 := Lib.hid q1
  have Q2 := Lib.hid q2
  have b1 : K ≤ 16777216 := by have := HL1.out; have := HS1.out; omega
  have b2 : M ≤ 16777216 := by have := HL2.out; have := HS2.out; omega
  have w1 : IntKind.wrap .i64 ((K : Int) + (M : Int)) = (K : Int) + (M : Int) := wrapI (by omega) (by omega)
  have w2 : IntKind.wrap .i64 (8 * ((K : Int) + (M : Int))) = 8 * ((K : Int) + (M : Int)) := wrapI (by omega) (by omega)
  have w3 : IntKind.wrap .i64 (8 * ((K : Int) + (M : Int)) - 1) = 8 * ((K : Int) + (M : Int)) - 1 := wrap_id (by omega) (by omega)
  have w4 : IntKind.wrap .i64 (8 * (K : Int)) = 8 * (K : Int) := wrapI (by omega) (by omega)
  have HB1 := Lib.hid b1
  have HB2 := Lib.hid b2
  clear q1 q2 hK hM b1 b2
  by_cases q3 : inB t (-1) (8 * ((K : Int) + (M : Int)) - 1) = true
  case neg =>
    have Q3 := Lib.hid (show inB t (-1) (8 * ((K : Int) + (M : Int)) - 1) = false by simpa using q3)
    clear q3
    go_enter Try.func24, Try.ntmps24
    have q36 : w.cell? ⟨b, 0, none⟩ = some (.slice A1 n1 c1) := HBOX.out.cell 0
    have q37 : w.cell? ⟨b, 1, none⟩ = some (.int .i64 (d1 : Int)) := HBOX.out.cell 1
    have q38 : w.cell? ⟨b, 2, none⟩ = some (.slice A2 n2 c2) := HBOX.out.cell 2
    have q39 : w.cell? ⟨b, 3, none⟩ = some (.int .i64 (d2 : Int)) := HBOX.out.cell 3
    go_wp2_with fail
    refine (k1.out w (HBOX.out.cell 0) (HBOX.out.cell 1)).mono ?_; rintro e v40 ⟨rfl, hb41⟩
    have X42 := Lib.hid (HBOX.out.later hb41)
    have B43 := Lib.hid (HB0.out.trans (hb41.mono HB0.out.size))
    clear hb41
    rw [HD1e.out]
    clear q36 q37 q38 q39
    have q44 : v40.cell? ⟨b, 0, none⟩ = some (.slice A1 n1 c1) := X42.out.cell 0
    have q45 : v40.cell? ⟨b, 1, none⟩ = some (.int .i64 (d1 : Int)) := X42.out.cell 1
    have q46 : v40.cell? ⟨b, 2, none⟩ = some (.slice A2 n2 c2) := X42.out.cell 2
    have q47 : v40.cell? ⟨b, 3, none⟩ = some (.int .i64 (d2 : Int)) := X42.out.cell 3
    go_wp2_with fail
    refine (isFromTo_c (K : Int) 0 (p1 : Int) v40).mono ?_; rintro e v48 ⟨rfl, rfl⟩
    rw [Q1.out]
    go_wp2_with fail
    refine (k2.out v40 (X42.out.cell 2) (X42.out.cell 3)).mono ?_; rintro e v49 ⟨rfl, hb50⟩
    have X51 := Lib.hid (X42.out.later hb50)
    have B52 := Lib.hid (B43.out.trans (hb50.mono B43.out.size))
    clear hb50
    rw [HD2e.out]
    clear q44 q45 q46 q47
    have q53 : v49.cell? ⟨b, 0, none⟩ = some (.slice A1 n1 c1) := X51.out.cell 0
    have q54 : v49.cell? ⟨b, 1, none⟩ = some (.int .i64 (d1 : Int)) := X51.out.cell 1
    have q55 : v49.cell? ⟨b, 2, none⟩ = some (.slice A2 n2 c2) := X51.out.cell 2
    have q56 : v49.cell? ⟨b, 3, none⟩ = some (.int .i64 (d2 : Int)) := X51.out.cell 3
    go_wp2_with fail
    refine (isFromTo_c (M : Int) 0 (p2 : Int) v49).mono ?_; rintro e v57 ⟨rfl, rfl⟩
    rw [Q2.out]
    go_wp2_with fail
    refine (isFromTo_c t (-1) (8 * ((K : Int) + (M : Int)) - 1) v49).mono ?_; rintro e v58 ⟨rfl, rfl⟩
    rw [Q3.out]
    go_wp2_with fail
    go_ret
    exact HNO.out _ B52.out (by unfold crOk; rw [Q3.out, Bool.and_false, Bool.and_false])
  have HT := Lib.hid (of_inB q3)
  have Q3 := Lib.hid q3
  have HOK := Lib.hid (show crOk P1.length P2.length (K : Int) (M : Int) t = true by unfold crOk; rw [HP1.out, HP2.out, Q1.out, Q2.out, Q3.out]; rfl)
  clear q3
  have HC1 := Lib.hid (show n1 ≤ c1 by have := H.out.o1; rw [HN1.out] at this; exact own_cap this)
  have HC2 := Lib.hid (show n2 ≤ c2 by have := H.out.o2; rw [HN2.out] at this; exact own_cap this)
  by_cases z0 : t = -1
  · have e0 : (t == -1) = true := by rw [z0]; rfl
    have Z0 := Lib.hid z0
    clear z0
    go_enter Try.func24, Try.ntmps24
    have q59 : w.cell? ⟨b, 0, none⟩ = some (.slice A1 n1 c1) := HBOX.out.cell 0
    have q60 : w.cell? ⟨b, 1, none⟩ = some (.int .i64 (d1 : Int)) := HBOX.out.cell 1
    have q61 : w.cell? ⟨b, 2, none⟩ = some (.slice A2 n2 c2) := HBOX.out.cell 2
    have q62 : w.cell? ⟨b, 3, none⟩ = some (.int .i64 (d2 : Int)) := HBOX.out.cell 3
    go_wp2_with fail
    refine (k1.out w (HBOX.out.cell 0) (HBOX.out.cell 1)).mono ?_; rintro e v63 ⟨rfl, hb64⟩
    have X65 := Lib.hid (HBOX.out.later hb64)
    have B66 := Lib.hid (HB0.out.trans (hb64.mono HB0.out.size))
    clear hb64
    rw [HD1e.out]
    clear q59 q60 q61 q62
    have q67 : v63.cell? ⟨b, 0, none⟩ = some (.slice A1 n1 c1) := X65.out.cell 0
    have q68 : v63.cell? ⟨b, 1, none⟩ = some (.int .i64 (d1 : Int)) := X65.out.cell 1
    have q69 : v63.cell? ⟨b, 2, none⟩ = some (.slice A2 n2 c2) := X65.out.cell 2
    have q70 : v63.cell? ⟨b, 3, none⟩ = some (.int .i64 (d2 : Int)) := X65.out.cell 3
    go_wp2_with fail
    refine (isFromTo_c (K : Int) 0 (p1 : Int) v63).mono ?_; rintro e v71 ⟨rfl, rfl⟩
    rw [Q1.out]
    go_wp2_with fail
    refine (k2.out v63 (X65.out.cell 2) (X65.out.cell 3)).mono ?_; rintro e v72 ⟨rfl, hb73⟩
    have X74 := Lib.hid (X65.out.later hb73)
    have B75 := Lib.hid (B66.out.trans (hb73.mono B66.out.size))
    clear hb73
    rw [HD2e.out]
    clear q67 q68 q69 q70
    have q76 : v72.cell? ⟨b, 0, none⟩ = some (.slice A1 n1 c1) := X74.out.cell 0
    have q77 : v72.cell? ⟨b, 1, none⟩ = some (.int .i64 (d1 : Int)) := X74.out.cell 1
    have q78 : v72.cell? ⟨b, 2, none⟩ = some (.slice A2 n2 c2) := X74.out.cell 2
    have q79 : v72.cell? ⟨b, 3, none⟩ = some (.int .i64 (d2 : Int)) := X74.out.cell 3
    go_wp2_with fail
    refine (isFromTo_c (M : Int) 0 (p2 : Int) v72).mono ?_; rintro e v80 ⟨rfl, rfl⟩
    rw [Q2.out]
    go_wp2_with fail
    refine (isFromTo_c t (-1) (8 * ((K : Int) + (M : Int)) - 1) v72).mono ?_; rintro e v81 ⟨rfl, rfl⟩
    rw [Q3.out]
    have G0 := H.out.later B75.out
    rw [HN1.out, HN2.out] at G0
    have G1 := Lib.hid G0
    clear G0
    have BXk := Lib.hid G1.out.box
    rw [HD1.out, HD2.out] at BXk
    have kk1 := Lib.hid (keep_c b 0 n1 c1 d1 K A1 _ _ v72 BXk.out rfl rfl (by have := HL1.out; have := HK.out; omega) (by have := HS1.out; omega) HC1.out)
    have BXl := Lib.hid (((BXk.out.later (below_drew _)).put 0 (.slice A1 (d1 + K) c1)).put 1 (.int .i64 ((d1 + K : Nat) : Int)))
    have kk2 := Lib.hid (keep_c b 2 n2 c2 d2 M A2 _ _ _ BXl.out rfl rfl (by have := HL2.out; have := HM.out; omega) (by have := HS2.out; omega) HC2.out)
    go_wp2_with fail
    refine kk1.out.mono ?_; rintro e w8 ⟨⟨r8, rfl⟩, rfl⟩
    go_wp2_with fail
    refine kk2.out.mono ?_; rintro e w9 ⟨⟨r9, rfl⟩, rfl⟩
    go_wp2_with fail
    go_ret
    have hy := CrashPost.yes (W0 := w) (W := v72) (S := D1 ++ P1) (F := D2 ++ P2) (P1 := P1) (P2 := P2) (K := K) (M := M) (t := t) G1.out (by rw [HN1.out]) (by rw [HN2.out]) (by rw [HN1.out, HD1.out]; have := HL1.out; have := HK.out; omega) (by rw [HN2.out, HD2.out]; have := HL2.out; have := HM.out; omega) (cr_none1 (by have := Z0.out; omega) (by rw [HP1.out]; exact HK.out)) (cr_none2 (by have := Z0.out; omega) (by rw [HP1.out]; exact HK.out)) HOK.out (Chg.of_below B75.out HBASE.out) (NewB.refl _ _) (NewB.refl _ _)
    rw [HD1.out, HD2.out] at hy
    exact hy
  obtain ⟨T, rfl⟩ := Int.eq_ofNat_of_zero_le (show 0 ≤ t by have := HT.out.1; omega)
  have e0 : ((T : Int) == -1) = false := by rw [beq_eq_false_iff_ne]; exact z0
  have HT8 := Lib.hid (show T < 8 * (K + M) by have := HT.out.2; omega)
  clear z0
  by_cases z1 : T < 8 * K
  · have e1 : decide ((T : Int) < 8 * (K : Int)) = true := decide_eq_true (by omega)
    have e1' : decide (T < 8 * K) = true := decide_eq_true z1
    have Z1 := Lib.hid z1
    clear z1
    have HQN := Lib.hid (show d1 + T / 8 < n1 by have := Z1.out; have := HL1.out; have := HK.out; omega)
    go_enter Try.func24, Try.ntmps24
    have q82 : w.cell? ⟨b, 0, none⟩ = some (.slice A1 n1 c1) := HBOX.out.cell 0
    have q83 : w.cell? ⟨b, 1, none⟩ = some (.int .i64 (d1 : Int)) := HBOX.out.cell 1
    have q84 : w.cell? ⟨b, 2, none⟩ = some (.slice A2 n2 c2) := HBOX.out.cell 2
    have q85 : w.cell? ⟨b, 3, none⟩ = some (.int .i64 (d2 : Int)) := HBOX.out.cell 3
    go_wp2_with fail
    refine (k1.out w (HBOX.out.cell 0) (HBOX.out.cell 1)).mono ?_; rintro e v86 ⟨rfl, hb87⟩
    have X88 := Lib.hid (HBOX.out.later hb87)
    have B89 := Lib.hid (HB0.out.trans (hb87.mono HB0.out.size))
    clear hb87
    rw [HD1e.out]
    clear q82 q83 q84 q85
    have q90 : v86.cell? ⟨b, 0, none⟩ = some (.slice A1 n1 c1) := X88.out.cell 0
    have q91 : v86.cell? ⟨b, 1, none⟩ = some (.int .i64 (d1 : Int)) := X88.out.cell 1
    have q92 : v86.cell? ⟨b, 2, none⟩ = some (.slice A2 n2 c2) := X88.out.cell 2
    have q93 : v86.cell? ⟨b, 3, none⟩ = some (.int .i64 (d2 : Int)) := X88.out.cell 3
    go_wp2_with fail
    refine (isFromTo_c (K : Int) 0 (p1 : Int) v86).mono ?_; rintro e v94 ⟨rfl, rfl⟩
    rw [Q1.out]
    go_wp2_with fail
    refine (k2.out v86 (X88.out.cell 2) (X88.out.cell 3)).mono ?_; rintro e v95 ⟨rfl, hb96⟩
    have X97 := Lib.hid (X88.out.later hb96)
    have B98 := Lib.hid (B89.out.trans (hb96.mono B89.out.size))
    clear hb96
    rw [HD2e.out]
    clear q90 q91 q92 q93
    have q99 : v95.cell? ⟨b, 0, none⟩ = some (.slice A1 n1 c1) := X97.out.cell 0
    have q100 : v95.cell? ⟨b, 1, none⟩ = some (.int .i64 (d1 : Int)) := X97.out.cell 1
    have q101 : v95.cell? ⟨b, 2, none⟩ = some (.slice A2 n2 c2) := X97.out.cell 2
    have q102 : v95.cell? ⟨b, 3, none⟩ = some (.int .i64 (d2 : Int)) := X97.out.cell 3
    go_wp2_with fail
    refine (isFromTo_c (M : Int) 0 (p2 : Int) v95).mono ?_; rintro e v103 ⟨rfl, rfl⟩
    rw [Q2.out]
    go_wp2_with fail
    refine (isFromTo_c (T : Int) (-1) (8 * ((K : Int) + (M : Int)) - 1) v95).mono ?_; rintro e v104 ⟨rfl, rfl⟩
    rw [Q3.out]
    have G0 := H.out.later B98.out
    rw [HN1.out, HN2.out] at G0
    have hrow := G0.o1
    rw [HN1.out] at hrow
    obtain ⟨g, rfl⟩ := own_addr hrow (by have := HQN.out; omega)
    have hx : v95.cell? ⟨g, d1 + T / 8, none⟩ = some (.int .u8 (nth (D1 ++ P1) (d1 + T / 8))) := by
      rw [hrow.cellAt (d1 + T / 8) (by rw [Nat.mul_one]; exact HQN.out)]
      exact bys_at _ _ (by rw [HN1.out]; exact HQN.out)
    have hfz : ∀ i, v95.frozen? ⟨g, i, none⟩ = false := fun i => hrow.frozenAt i
    have BXi := Lib.hid G0.box
    have BXj := BXi.out
    rw [HD1.out, HD2.out] at BXj
    have ki := Lib.hid (invert_c b 0 g n1 c1 d1 (T) _ v95 (BXj.cell 0) (BXj.cell 1) hx hfz HQN.out (by have := HS1.out; omega) (by have := HT8.out; have := HB1.out; have := HB2.out; omega))
    have HBY := Lib.hid (bit_of (j := (T) % 8) (HY1.out (d1 + T / 8)).1 (HY1.out (d1 + T / 8)).2 (by omega))
    obtain ⟨y, hy⟩ : ∃ z, bits .xor .u8 (nth (D1 ++ P1) (d1 + T / 8)) (2 ^ ((T) % 8)) = z := ⟨_, rfl⟩
    have HYY := Lib.hid hy
    rw [hy] at ki HBY
    have GI := Lib.hid ((G0.later (below_drew _)).inv1 HN1.out.symm (d1 + T / 8) y HBY.out.2)
    have GC := Lib.hid ((Chg.of_below (v1 := .slice (some ⟨g, 0, none⟩) n1 c1) (v2 := .slice A2 n2 c2) (B98.out.trans ((below_drew _).mono B98.out.size)) HBASE.out).trans GI.out.2 (NewB.refl _ _) (NewB.refl _ _))
    clear hx hfz hrow G0 BXj hy
    go_wp2_with fail
    refine ki.out.mono ?_; rintro e w7 ⟨⟨r7, rfl⟩, rfl⟩
    obtain ⟨W7, hW7⟩ : ∃ z, (v95.drew.setCell ⟨g, d1 + T / 8, none⟩ (.int .u8 y)) = z := ⟨_, rfl⟩
    rw [hW7] at GI GC ⊢
    have GI1 := Lib.hid GI.out.1
    clear hW7
    have BXk := Lib.hid GI1.out.box
    rw [HD1.out, HD2.out] at BXk
    have kk1 := Lib.hid (keep_c b 0 n1 c1 d1 K (some ⟨g, 0, none⟩) _ _ W7 BXk.out rfl rfl (by have := HL1.out; have := HK.out; omega) (by have := HS1.out; omega) HC1.out)
    have BXl := Lib.hid (((BXk.out.later (below_drew _)).put 0 (.slice (some ⟨g, 0, none⟩) (d1 + K) c1)).put 1 (.int .i64 ((d1 + K : Nat) : Int)))
    have kk2 := Lib.hid (keep_c b 2 n2 c2 d2 M A2 _ _ _ BXl.out rfl rfl (by have := HL2.out; have := HM.out; omega) (by have := HS2.out; omega) HC2.out)
    go_wp2_with fail
    refine kk1.out.mono ?_; rintro e w8 ⟨⟨r8, rfl⟩, rfl⟩
    go_wp2_with fail
    refine kk2.out.mono ?_; rintro e w9 ⟨⟨r9, rfl⟩, rfl⟩
    go_wp2_with fail
    go_ret
    have hy := CrashPost.yes (W0 := w) (W := W7) (S := (D1 ++ P1).set (d1 + T / 8) y) (F := D2 ++ P2) (P1 := P1) (P2 := P2) (K := K) (M := M) (t := (T : Int)) GI1.out (by rw [List.length_set, HN1.out]) (by rw [HN2.out]) (by rw [List.length_set, HN1.out, HD1.out]; have := HL1.out; have := HK.out; omega) (by rw [HN2.out, HD2.out]; have := HL2.out; have := HM.out; omega) (by rw [← HYY.out, ← HD1.out]; exact cr_one1 Z1.out (by rw [HP1.out]; exact HK.out)) (cr_one2 Z1.out (by rw [HP1.out]; exact HK.out)) HOK.out GC.out (NewB.refl _ _) (NewB.refl _ _)
    rw [HD1.out, HD2.out] at hy
    exact hy
  · have e1 : decide ((T : Int) < 8 * (K : Int)) = false := decide_eq_false (by omega)
    have e1' : decide (T < 8 * K) = false := decide_eq_false z1
    have w5 : IntKind.wrap .i64 ((T : Int) - 8 * (K : Int)) = ((T - 8 * K : Nat) : Int) := by rw [wrapI (by omega) (by have := HT8.out; have := HB1.out; have := HB2.out; omega)]; omega
    have w6 : wrap64 ((T : Int) - 8 * (K : Int)) = ((T - 8 * K : Nat) : Int) := by rw [wrap64_id (by omega) (by have := HT8.out; have := HB1.out; have := HB2.out; omega)]; omega
    have Z1 := Lib.hid (show 8 * K ≤ T by omega)
    clear z1
    have HQN := Lib.hid (show d2 + (T - 8 * K) / 8 < n2 by have := HT8.out; have := Z1.out; have := HL2.out; have := HM.out; omega)
    go_enter Try.func24, Try.ntmps24
    have q105 : w.cell? ⟨b, 0, none⟩ = some (.slice A1 n1 c1) := HBOX.out.cell 0
    have q106 : w.cell? ⟨b, 1, none⟩ = some (.int .i64 (d1 : Int)) := HBOX.out.cell 1
    have q107 : w.cell? ⟨b, 2, none⟩ = some (.slice A2 n2 c2) := HBOX.out.cell 2
    have q108 : w.cell? ⟨b, 3, none⟩ = some (.int .i64 (d2 : Int)) := HBOX.out.cell 3
    go_wp2_with fail
    refine (k1.out w (HBOX.out.cell 0) (HBOX.out.cell 1)).mono ?_; rintro e v109 ⟨rfl, hb110⟩
    have X111 := Lib.hid (HBOX.out.later hb110)
    have B112 := Lib.hid (HB0.out.trans (hb110.mono HB0.out.size))
    clear hb110
    rw [HD1e.out]
    clear q105 q106 q107 q108
    have q113 : v109.cell? ⟨b, 0, none⟩ = some (.slice A1 n1 c1) := X111.out.cell 0
    have q114 : v109.cell? ⟨b, 1, none⟩ = some (.int .i64 (d1 : Int)) := X111.out.cell 1
    have q115 : v109.cell? ⟨b, 2, none⟩ = some (.slice A2 n2 c2) := X111.out.cell 2
    have q116 : v109.cell? ⟨b, 3, none⟩ = some (.int .i64 (d2 : Int)) := X111.out.cell 3
    go_wp2_with fail
    refine (isFromTo_c (K : Int) 0 (p1 : Int) v109).mono ?_; rintro e v117 ⟨rfl, rfl⟩
    rw [Q1.out]
    go_wp2_with fail
    refine (k2.out v109 (X111.out.cell 2) (X111.out.cell 3)).mono ?_; rintro e v118 ⟨rfl, hb119⟩
    have X120 := Lib.hid (X111.out.later hb119)
    have B121 := Lib.hid (B112.out.trans (hb119.mono B112.out.size))
    clear hb119
    rw [HD2e.out]
    clear q113 q114 q115 q116
    have q122 : v118.cell? ⟨b, 0, none⟩ = some (.slice A1 n1 c1) := X120.out.cell 0
    have q123 : v118.cell? ⟨b, 1, none⟩ = some (.int .i64 (d1 : Int)) := X120.out.cell 1
    have q124 : v118.cell? ⟨b, 2, none⟩ = some (.slice A2 n2 c2) := X120.out.cell 2
    have q125 : v118.cell? ⟨b, 3, none⟩ = some (.int .i64 (d2 : Int)) := X120.out.cell 3
    go_wp2_with fail
    refine (isFromTo_c (M : Int) 0 (p2 : Int) v118).mono ?_; rintro e v126 ⟨rfl, rfl⟩
    rw [Q2.out]
    go_wp2_with fail
    refine (isFromTo_c (T : Int) (-1) (8 * ((K : Int) + (M : Int)) - 1) v118).mono ?_; rintro e v127 ⟨rfl, rfl⟩
    rw [Q3.out]
    have G0 := H.out.later B121.out
    rw [HN1.out, HN2.out] at G0
    have hrow := G0.o2
    rw [HN2.out] at hrow
    obtain ⟨g, rfl⟩ := own_addr hrow (by have := HQN.out; omega)
    have hx : v118.cell? ⟨g, d2 + (T - 8 * K) / 8, none⟩ = some (.int .u8 (nth (D2 ++ P2) (d2 + (T - 8 * K) / 8))) := by
      rw [hrow.cellAt (d2 + (T - 8 * K) / 8) (by rw [Nat.mul_one]; exact HQN.out)]
      exact bys_at _ _ (by rw [HN2.out]; exact HQN.out)
    have hfz : ∀ i, v118.frozen? ⟨g, i, none⟩ = false := fun i => hrow.frozenAt i
    have BXi := Lib.hid G0.box
    have BXj := BXi.out
    rw [HD1.out, HD2.out] at BXj
    have ki := Lib.hid (invert_c b 2 g n2 c2 d2 ((T - 8 * K)) _ v118 (BXj.cell 2) (BXj.cell 3) hx hfz HQN.out (by have := HS2.out; omega) (by have := HT8.out; have := HB1.out; have := HB2.out; omega))
    have HBY := Lib.hid (bit_of (j := ((T - 8 * K)) % 8) (HY2.out (d2 + (T - 8 * K) / 8)).1 (HY2.out (d2 + (T - 8 * K) / 8)).2 (by omega))
    obtain ⟨y, hy⟩ : ∃ z, bits .xor .u8 (nth (D2 ++ P2) (d2 + (T - 8 * K) / 8)) (2 ^ (((T - 8 * K)) % 8)) = z := ⟨_, rfl⟩
    have HYY := Lib.hid hy
    rw [hy] at ki HBY
    have GI := Lib.hid ((G0.later (below_drew _)).inv2 HN2.out.symm (d2 + (T - 8 * K) / 8) y HBY.out.2)
    have GC := Lib.hid ((Chg.of_below (v1 := .slice A1 n1 c1) (v2 := .slice (some ⟨g, 0, none⟩) n2 c2) (B121.out.trans ((below_drew _).mono B121.out.size)) HBASE.out).trans GI.out.2 (NewB.refl _ _) (NewB.refl _ _))
    clear hx hfz hrow G0 BXj hy
    go_wp2_with fail
    refine ki.out.mono ?_; rintro e w7 ⟨⟨r7, rfl⟩, rfl⟩
    obtain ⟨W7, hW7⟩ : ∃ z, (v118.drew.setCell ⟨g, d2 + (T - 8 * K) / 8, none⟩ (.int .u8 y)) = z := ⟨_, rfl⟩
    rw [hW7] at GI GC ⊢
    have GI1 := Lib.hid GI.out.1
    clear hW7
    have BXk := Lib.hid GI1.out.box
    rw [HD1.out, HD2.out] at BXk
    have kk1 := Lib.hid (keep_c b 0 n1 c1 d1 K A1 _ _ W7 BXk.out rfl rfl (by have := HL1.out; have := HK.out; omega) (by have := HS1.out; omega) HC1.out)
    have BXl := Lib.hid (((BXk.out.later (below_drew _)).put 0 (.slice A1 (d1 + K) c1)).put 1 (.int .i64 ((d1 + K : Nat) : Int)))
    have kk2 := Lib.hid (keep_c b 2 n2 c2 d2 M (some ⟨g, 0, none⟩) _ _ _ BXl.out rfl rfl (by have := HL2.out; have := HM.out; omega) (by have := HS2.out; omega) HC2.out)
    go_wp2_with fail
    refine kk1.out.mono ?_; rintro e w8 ⟨⟨r8, rfl⟩, rfl⟩
    go_wp2_with fail
    refine kk2.out.mono ?_; rintro e w9 ⟨⟨r9, rfl⟩, rfl⟩
    go_wp2_with fail
    go_ret
    have hy := CrashPost.yes (W0 := w) (W := W7) (S := D1 ++ P1) (F := (D2 ++ P2).set (d2 + (T - 8 * K) / 8) y) (P1 := P1) (P2 := P2) (K := K) (M := M) (t := (T : Int)) GI1.out (by rw [HN1.out]) (by rw [List.length_set, HN2.out]) (by rw [HN1.out, HD1.out]; have := HL1.out; have := HK.out; omega) (by rw [List.length_set, HN2.out, HD2.out]; have := HL2.out; have := HM.out; omega) (cr_two1 Z1.out (by rw [HP1.out]; exact HK.out)) (by rw [← HYY.out, ← HD2.out]; exact cr_two2 Z1.out HT8.out (by rw [HP1.out]; exact HK.out) (by rw [HP2.out]; exact HM.out)) HOK.out GC.out (NewB.refl _ _) (NewB.refl _ _)
    rw [HD1.out, HD2.out] at hy
    exact hy

end Go.Proofs.Ytbpbdgiglllncaa

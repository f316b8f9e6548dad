/- DressingPrices: the law. -/
import Derived.Test.YtfafjojoapcliaaS14
import Derived.Test.YtfafjojoapcliaaR11
import Derived.Test.YtfafjojoapcliaaW0q
set_option linter.all false
namespace Go.Proofs.Ytfafjojoapcliaa
open Go.RowKit

set_option maxRecDepth 100000 in
set_option maxHeartbeats 8000000 in
theorem DressingPrices_c (t : Tk) (l h : List Int) (v u : Value) (w : World) (ht : IsTask w w.heap.size v t) (hx : IsPrices w w.heap.size u l h) : Calls Try.prog 4 #[v, u] w fun e w' => e = .returned (.bool true) ∧ Below w.heap.size w w' := by
  have HT := Lib.hid ht
  have HX := Lib.hid hx
  obtain ⟨s, rfl, A, c, rfl, hcap, hcell⟩ := ht
  obtain ⟨x1, x2, rfl, hx1, hx2⟩ := hx
  obtain ⟨-, A1, c1, rfl, -, -⟩ := hx1
  obtain ⟨-, A2, c2, rfl, -, -⟩ := hx2
  obtain ⟨nl, hnl⟩ : ∃ z, t.need.length = z := ⟨_, rfl⟩
  obtain ⟨l1, hl1⟩ : ∃ z, l.length = z := ⟨_, rfl⟩
  obtain ⟨l2, hl2⟩ : ∃ z, h.length = z := ⟨_, rfl⟩
  rw [hnl] at HT ⊢
  rw [hl1, hl2] at HX ⊢
  clear hcap hcell hnl hl1 hl2
  go_enter Try.func4, Try.ntmps4
  go_wp2_with fail
  obtain ⟨W1, hW2⟩ : ∃ Wzz, ((w.alloc (.cells #[.int .i64 t.wide, .slice A nl c] 24)).alloc (.cells #[.slice A1 l1 c1, .slice A2 l2 c2] 35)) = Wzz := ⟨_, rfl⟩
  have B3 := Lib.hid (show Below w.heap.size w W1 by rw [← hW2]; exact (((Below.refl w.heap.size w).alloc (Nat.le_refl _) _).alloc (by first | (simp; done) | (simp; omega)) _))
  have X4 := Lib.hid (show Box W1 (w.heap.size) 24 #[.int .i64 t.wide, .slice A nl c] by rw [← hW2]; exact Box.alloc (Box.made w 24 #[.int .i64 t.wide, .slice A nl c]) (.cells #[.slice A1 l1 c1, .slice A2 l2 c2] 35))
  have X5 := Lib.hid (show Box W1 (w.heap.size + 1) 35 #[.slice A1 l1 c1, .slice A2 l2 c2] by
    have hz := Box.made (w.alloc (.cells #[.int .i64 t.wide, .slice A nl c] 24)) 35 #[.slice A1 l1 c1, .slice A2 l2 c2]
    rw [World.size_alloc] at hz
    rw [← hW2]; exact hz)
  have SZ6 := Lib.hid (show W1.heap.size = w.heap.size + 1 + 1 by rw [← hW2]; simp)
  rw [hW2]
  clear hW2
  have q7 : W1.cell? ⟨w.heap.size, 0, none⟩ = some (.int .i64 t.wide) := X4.out.cell 0
  have q8 : W1.cell? ⟨w.heap.size, 1, none⟩ = some (.slice A nl c) := X4.out.cell 1
  have q9 : W1.cell? ⟨w.heap.size + 1, 0, none⟩ = some (.slice A1 l1 c1) := X5.out.cell 0
  have q10 : W1.cell? ⟨w.heap.size + 1, 1, none⟩ = some (.slice A2 l2 c2) := X5.out.cell 1
  go_wp2_with fail
  refine (awake_c W1).mono ?_; rintro e v11 ⟨rfl, hb12⟩
  have X13 := Lib.hid (X4.out.later hb12)
  have X14 := Lib.hid (X5.out.later hb12)
  have B15 := Lib.hid (B3.out.trans (hb12.mono B3.out.size))
  clear hb12
  clear q7 q8 q9 q10
  have q16 : v11.cell? ⟨w.heap.size, 0, none⟩ = some (.int .i64 t.wide) := X13.out.cell 0
  have q17 : v11.cell? ⟨w.heap.size, 1, none⟩ = some (.slice A nl c) := X13.out.cell 1
  have q18 : v11.cell? ⟨w.heap.size + 1, 0, none⟩ = some (.slice A1 l1 c1) := X14.out.cell 0
  have q19 : v11.cell? ⟨w.heap.size + 1, 1, none⟩ = some (.slice A2 l2 c2) := X14.out.cell 1
  go_wp2_with fail
  refine (short_c t _ v11 (HT.out.mono B15.out B15.out.size)).mono ?_; rintro e v20 ⟨rfl, hb21⟩
  have X22 := Lib.hid (X13.out.later hb21)
  have X23 := Lib.hid (X14.out.later hb21)
  have B24 := Lib.hid (B15.out.trans (hb21.mono B15.out.size))
  clear hb21
  clear q16 q17 q18 q19
  have q25 : v20.cell? ⟨w.heap.size, 0, none⟩ = some (.int .i64 t.wide) := X22.out.cell 0
  have q26 : v20.cell? ⟨w.heap.size, 1, none⟩ = some (.slice A nl c) := X22.out.cell 1
  have q27 : v20.cell? ⟨w.heap.size + 1, 0, none⟩ = some (.slice A1 l1 c1) := X23.out.cell 0
  have q28 : v20.cell? ⟨w.heap.size + 1, 1, none⟩ = some (.slice A2 l2 c2) := X23.out.cell 1
  cases hsh : shortB t
  · clear hsh
    go_wp2_with fail
    go_ret
    exact ⟨rfl, B24.out⟩
  clear hsh
  by_cases q1 : 1000 < l1
  · have f1 : decide ((1000 : Int) < (l1 : Int)) = true := decide_eq_true (by omega)
    have f1' : decide (1000 < l1) = true := decide_eq_true q1
    clear q1
    go_wp2_with fail
    go_ret
    exact ⟨rfl, B24.out⟩
  have q1f : decide ((1000 : Int) < (l1 : Int)) = false := decide_eq_false (by omega)
  have q1g : decide (1000 < l1) = false := decide_eq_false q1
  clear q1
  by_cases q2 : 1000 < l2
  · have f1 : decide ((1000 : Int) < (l2 : Int)) = true := decide_eq_true (by omega)
    have f1' : decide (1000 < l2) = true := decide_eq_true q2
    clear q2
    go_wp2_with fail
    go_ret
    exact ⟨rfl, B24.out⟩
  have q2f : decide ((1000 : Int) < (l2 : Int)) = false := decide_eq_false (by omega)
  have q2g : decide (1000 < l2) = false := decide_eq_false q2
  clear q2
  go_wp2_with fail
  refine (CheckPrices_c t l h _ _ v20 (HT.out.mono B24.out B24.out.size) (HX.out.mono B24.out B24.out.size)).mono ?_; rintro e v29 ⟨rfl, hb30⟩
  have X31 := Lib.hid (X22.out.later hb30)
  have X32 := Lib.hid (X23.out.later hb30)
  have B33 := Lib.hid (B24.out.trans (hb30.mono B24.out.size))
  clear hb30
  obtain ⟨cv, hcv⟩ : ∃ z, cpV t l h = z := ⟨_, rfl⟩
  obtain ⟨ce, hce⟩ : ∃ z, cpE t l h = z := ⟨_, rfl⟩
  have HCV := Lib.hid hcv
  have HCE := Lib.hid hce
  rw [hcv, hce]
  clear hcv hce q1f q1g q2f q2g
  clear q25 q26 q27 q28
  have q34 : v29.cell? ⟨w.heap.size, 0, none⟩ = some (.int .i64 t.wide) := X31.out.cell 0
  have q35 : v29.cell? ⟨w.heap.size, 1, none⟩ = some (.slice A nl c) := X31.out.cell 1
  have q36 : v29.cell? ⟨w.heap.size + 1, 0, none⟩ = some (.slice A1 l1 c1) := X32.out.cell 0
  have q37 : v29.cell? ⟨w.heap.size + 1, 1, none⟩ = some (.slice A2 l2 c2) := X32.out.cell 1
  go_wp2_with fail
  refine (rCheckPrices_c t l h _ _ v29 (HT.out.mono B33.out B33.out.size) (HX.out.mono B33.out B33.out.size)).mono ?_; rintro e v38 ⟨rfl, hb39⟩
  have X40 := Lib.hid (X31.out.later hb39)
  have X41 := Lib.hid (X32.out.later hb39)
  have B42 := Lib.hid (B33.out.trans (hb39.mono B33.out.size))
  clear hb39
  rw [HCV.out, HCE.out]
  clear q34 q35 q36 q37
  have q43 : v38.cell? ⟨w.heap.size, 0, none⟩ = some (.int .i64 t.wide) := X40.out.cell 0
  have q44 : v38.cell? ⟨w.heap.size, 1, none⟩ = some (.slice A nl c) := X40.out.cell 1
  have q45 : v38.cell? ⟨w.heap.size + 1, 0, none⟩ = some (.slice A1 l1 c1) := X41.out.cell 0
  have q46 : v38.cell? ⟨w.heap.size + 1, 1, none⟩ = some (.slice A2 l2 c2) := X41.out.cell 1
  go_wp2_with fail
  refine (Prove_c t _ v38 (HT.out.mono B42.out B42.out.size)).mono ?_; rintro e v47 ⟨xv, yl, yh, rfl, hy, hz0, hz1, hb48⟩
  have X49 := Lib.hid (X40.out.later hb48)
  have X50 := Lib.hid (X41.out.later hb48)
  have B51 := Lib.hid (B42.out.trans (hb48.mono B42.out.size))
  clear hb48
  obtain ⟨s1, s2, rfl, hi1, hi2⟩ := hy
  have HI1 := Lib.hid hi1
  have HI2 := Lib.hid hi2
  obtain ⟨-, B1, e1, rfl, -, -⟩ := hi1
  obtain ⟨-, B2, e2, rfl, -, -⟩ := hi2
  obtain ⟨n1, hn1⟩ : ∃ z, yl.length = z := ⟨_, rfl⟩
  obtain ⟨n2, hn2⟩ : ∃ z, yh.length = z := ⟨_, rfl⟩
  have HN1 := Lib.hid hn1
  have HN2 := Lib.hid hn2
  rw [hn1] at HI1 ⊢
  rw [hn2] at HI2 ⊢
  have HZ0 := Lib.hid hz0
  have HZ1 := Lib.hid hz1
  obtain ⟨fv, hfv⟩ : ∃ z, fwV t = z := ⟨_, rfl⟩
  obtain ⟨se, hse⟩ : ∃ z, stE t = z := ⟨_, rfl⟩
  rw [hfv] at HZ0 ⊢
  rw [hse] at HZ0 HZ1 ⊢
  have HFV := Lib.hid hfv
  have HSE := Lib.hid hse
  clear hn1 hn2 hz0 hz1 hfv hse
  clear q43 q44 q45 q46
  have q52 : v47.cell? ⟨w.heap.size, 0, none⟩ = some (.int .i64 t.wide) := X49.out.cell 0
  have q53 : v47.cell? ⟨w.heap.size, 1, none⟩ = some (.slice A nl c) := X49.out.cell 1
  have q54 : v47.cell? ⟨w.heap.size + 1, 0, none⟩ = some (.slice A1 l1 c1) := X50.out.cell 0
  have q55 : v47.cell? ⟨w.heap.size + 1, 1, none⟩ = some (.slice A2 l2 c2) := X50.out.cell 1
  clear q52 q53 q54 q55
  have X56 := Lib.hid (X49.out.alloc (.cells #[.slice B1 n1 e1, .slice B2 n2 e2] 35))
  have X57 := Lib.hid (X50.out.alloc (.cells #[.slice B1 n1 e1, .slice B2 n2 e2] 35))
  have B58 := Lib.hid (B51.out.alloc B51.out.size (.cells #[.slice B1 n1 e1, .slice B2 n2 e2] 35))
  have X59 := Lib.hid (Box.made v47 35 #[.slice B1 n1 e1, .slice B2 n2 e2])
  have q60 : (v47.alloc (.cells #[.slice B1 n1 e1, .slice B2 n2 e2] 35)).cell? ⟨w.heap.size, 0, none⟩ = some (.int .i64 t.wide) := X56.out.cell 0
  have q61 : (v47.alloc (.cells #[.slice B1 n1 e1, .slice B2 n2 e2] 35)).cell? ⟨w.heap.size, 1, none⟩ = some (.slice A nl c) := X56.out.cell 1
  have q62 : (v47.alloc (.cells #[.slice B1 n1 e1, .slice B2 n2 e2] 35)).cell? ⟨w.heap.size + 1, 0, none⟩ = some (.slice A1 l1 c1) := X57.out.cell 0
  have q63 : (v47.alloc (.cells #[.slice B1 n1 e1, .slice B2 n2 e2] 35)).cell? ⟨w.heap.size + 1, 1, none⟩ = some (.slice A2 l2 c2) := X57.out.cell 1
  have q64 : (v47.alloc (.cells #[.slice B1 n1 e1, .slice B2 n2 e2] 35)).cell? ⟨v47.heap.size, 0, none⟩ = some (.slice B1 n1 e1) := X59.out.cell 0
  have q65 : (v47.alloc (.cells #[.slice B1 n1 e1, .slice B2 n2 e2] 35)).cell? ⟨v47.heap.size, 1, none⟩ = some (.slice B2 n2 e2) := X59.out.cell 1
  have fz66 : ∀ o, (v47.alloc (.cells #[.slice B1 n1 e1, .slice B2 n2 e2] 35)).frozen? ⟨v47.heap.size, o, none⟩ = false := fun o => X59.out.free o
  have HY := Lib.hid (show IsPrices ((v47.alloc (.cells #[.slice B1 n1 e1, .slice B2 n2 e2] 35))) ((v47.alloc (.cells #[.slice B1 n1 e1, .slice B2 n2 e2] 35))).heap.size (.agg #[.slice B1 n1 e1, .slice B2 n2 e2]) yl yh from ⟨_, _, rfl, HI1.out.box _, HI2.out.box _⟩)
  go_wp2_with fail
  refine (rFewest_c t _ (v47.alloc (.cells #[.slice B1 n1 e1, .slice B2 n2 e2] 35)) (HT.out.mono B58.out B58.out.size)).mono ?_; rintro e v67 ⟨rfl, hb68⟩
  have X69 := Lib.hid (X56.out.later hb68)
  have X70 := Lib.hid (X57.out.later hb68)
  have X71 := Lib.hid (X59.out.later hb68)
  have C72 := Lib.hid (HY.out.later hb68)
  have B73 := Lib.hid (B58.out.trans (hb68.mono B58.out.size))
  clear hb68
  rw [HFV.out, HSE.out]
  clear q60 q61 q62 q63 q64 q65 fz66
  have q74 : v67.cell? ⟨w.heap.size, 0, none⟩ = some (.int .i64 t.wide) := X69.out.cell 0
  have q75 : v67.cell? ⟨w.heap.size, 1, none⟩ = some (.slice A nl c) := X69.out.cell 1
  have q76 : v67.cell? ⟨w.heap.size + 1, 0, none⟩ = some (.slice A1 l1 c1) := X70.out.cell 0
  have q77 : v67.cell? ⟨w.heap.size + 1, 1, none⟩ = some (.slice A2 l2 c2) := X70.out.cell 1
  have q78 : v67.cell? ⟨v47.heap.size, 0, none⟩ = some (.slice B1 n1 e1) := X71.out.cell 0
  have q79 : v67.cell? ⟨v47.heap.size, 1, none⟩ = some (.slice B2 n2 e2) := X71.out.cell 1
  have fz80 : ∀ o, v67.frozen? ⟨v47.heap.size, o, none⟩ = false := fun o => X71.out.free o
  by_cases z0 : se = 0
  case neg =>
    have f1 : (se != 0) = true := by simp [z0]
    obtain ⟨e1z, e2z⟩ := HZ1.out z0
    have g1 := HN1.out
    have g2 := HN2.out
    rw [e1z] at g1
    rw [e2z] at g2
    obtain rfl : n1 = 0 := g1.symm
    obtain rfl : n2 = 0 := g2.symm
    clear z0 e1z e2z g1 g2
    go_wp2_with fail
    go_ret
    exact ⟨rfl, B73.out⟩
  subst z0
  have HZ := Lib.hid (HZ0.out rfl)
  go_wp2_with fail
  refine (rCheckPrices_c t yl yh _ _ v67 (HT.out.mono B73.out B73.out.size) C72.out).mono ?_; rintro e v81 ⟨rfl, hb82⟩
  have X83 := Lib.hid (X69.out.later hb82)
  have X84 := Lib.hid (X70.out.later hb82)
  have X85 := Lib.hid (X71.out.later hb82)
  have C86 := Lib.hid (C72.out.later hb82)
  have B87 := Lib.hid (B73.out.trans (hb82.mono B73.out.size))
  clear hb82
  rw [HZ.out.1, HZ.out.2]
  clear q74 q75 q76 q77 q78 q79 fz80
  have q88 : v81.cell? ⟨w.heap.size, 0, none⟩ = some (.int .i64 t.wide) := X83.out.cell 0
  have q89 : v81.cell? ⟨w.heap.size, 1, none⟩ = some (.slice A nl c) := X83.out.cell 1
  have q90 : v81.cell? ⟨w.heap.size + 1, 0, none⟩ = some (.slice A1 l1 c1) := X84.out.cell 0
  have q91 : v81.cell? ⟨w.heap.size + 1, 1, none⟩ = some (.slice A2 l2 c2) := X84.out.cell 1
  have q92 : v81.cell? ⟨v47.heap.size, 0, none⟩ = some (.slice B1 n1 e1) := X85.out.cell 0
  have q93 : v81.cell? ⟨v47.heap.size, 1, none⟩ = some (.slice B2 n2 e2) := X85.out.cell 1
  have fz94 : ∀ o, v81.frozen? ⟨v47.heap.size, o, none⟩ = false := fun o => X85.out.free o
  go_wp2_with fail
  go_ret
  exact ⟨rfl, B87.out⟩

end Go.Proofs.Ytfafjojoapcliaa

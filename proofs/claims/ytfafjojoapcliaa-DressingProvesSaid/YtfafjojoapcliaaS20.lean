/- DressingProves: the law. -/
import Derived.Test.YtfafjojoapcliaaS19
import Derived.Test.YtfafjojoapcliaaR13
import Derived.Test.YtfafjojoapcliaaR10
import Derived.Test.YtfafjojoapcliaaW0q
set_option linter.all false
namespace Go.Proofs.Ytfafjojoapcliaa
open Go.RowKit

theorem cp_of {t : Tk} {l h : List Int} (hc : cpE t l h = 0) : xOk t.need.length l h = true ∧ gainTo l h (tW t) 1 (tM t) = true ∧ cpV t l h = valTo t.need l h t.need.length := by
  have e : cpV t l h = valTo t.need l h t.need.length := by unfold cpV; rw [if_pos hc]
  unfold cpE at hc
  by_cases h1 : taskB t = true
  · rw [if_pos h1] at hc
    by_cases h2 : xOk t.need.length l h = true ∧ gainTo l h (tW t) 1 (tM t) = true
    · exact ⟨h2.1, h2.2, e⟩
    · rw [if_neg h2] at hc; omega
  · rw [if_neg h1] at hc; omega
theorem cn_of {t : Tk} {l h : List Int} (hc : cnE t l h = 0) : xOk t.need.length l h = true ∧ gainTo l h (tW t) 0 (tM t) = true ∧ 0 < valTo t.need l h t.need.length := by
  unfold cnE at hc
  by_cases h1 : taskB t = true
  · rw [if_pos h1] at hc
    by_cases h2 : xOk t.need.length l h = true ∧ gainTo l h (tW t) 0 (tM t) = true ∧ 0 < valTo t.need l h t.need.length
    · exact h2
    · rw [if_neg h2] at hc; omega
  · rw [if_neg h1] at hc; omega
theorem does_not_never {t : Tk} {p : List Int} (hd : doesE t p = 0) (l h : List Int) : cnE t l h ≠ 0 := by
  intro hc
  obtain ⟨h1, h2, h3⟩ := cn_of hc
  have := duality hd h1 h2
  omega
theorem does_tot {t : Tk} {p : List Int} (hd : doesE t p = 0) : totE p = 0 ∧ totV p = pre p p.length := by
  obtain ⟨h1, h2, h3, -⟩ := does_keeps hd
  obtain ⟨a1, a2, a3, a4, a5, a6, a7, a8⟩ := task_parts h1
  have h4 : okTot p = true := by unfold okTot; rw [h3, decide_eq_true (by omega)]; rfl
  exact ⟨by unfold totE; rw [if_pos h4], by unfold totV; rw [if_pos h4]⟩
theorem does_most {t : Tk} {p l h : List Int} (hd : doesE t p = 0) (hc : cpE t l h = 0) : cpV t l h ≤ totV p := by
  obtain ⟨h1, h2, h3⟩ := cp_of hc
  have := duality hd h1 h2
  omega
theorem fewest_most {t : Tk} {l h : List Int} (hs : stE t = 0) (hc : cpE t l h = 0) : cpV t l h ≤ fwV t := by
  have h1 := does_most (plR_does hs) hc
  rw [(does_tot (plR_does hs)).2, plR_sum hs] at h1
  exact h1
theorem st_cases (t : Tk) (l h : List Int) : (stE t = 0 ∧ nvE t = 3) ∨ (stE t = 51 ∧ nvE t = 0) ∨ (stE t = 50 ∧ nvE t = 50 ∧ cpE t l h = 50) := by
  unfold stE nvE cpE
  by_cases h1 : taskB t = true
  · rw [if_pos h1, if_pos h1]
    by_cases h2 : feasB t = true
    · rw [if_pos h2, if_pos h2]; exact .inl ⟨rfl, rfl⟩
    · rw [if_neg h2, if_neg h2]; exact .inr (.inl ⟨rfl, rfl⟩)
  · rw [if_neg h1, if_neg h1, if_neg h1]; exact .inr (.inr ⟨rfl, rfl, rfl⟩)
set_option maxRecDepth 100000 in
set_option maxHeartbeats 8000000 in
theorem DressingProves_c (t : Tk) (l h p : List Int) (v u q : Value) (w : World) (ht : IsTask w w.heap.size v t) (hx : IsPrices w w.heap.size u l h) (hp : Ints w w.heap.size q p) : Calls Try.prog 7 #[v, u, q] w fun e w' => e = .returned (.bool true) ∧ Below w.heap.size w w' := by
  have HT := Lib.hid ht
  have HX := Lib.hid hx
  have HPP := Lib.hid hp
  obtain ⟨s, rfl, A, c, rfl, hcap, hcell⟩ := ht
  obtain ⟨x1, x2, rfl, hx1, hx2⟩ := hx
  obtain ⟨-, A1, c1, rfl, -, -⟩ := hx1
  obtain ⟨-, A2, c2, rfl, -, -⟩ := hx2
  obtain ⟨-, A3, c3, rfl, -, -⟩ := hp
  obtain ⟨nl, hnl⟩ : ∃ z, t.need.length = z := ⟨_, rfl⟩
  obtain ⟨l1, hl1⟩ : ∃ z, l.length = z := ⟨_, rfl⟩
  obtain ⟨l2, hl2⟩ : ∃ z, h.length = z := ⟨_, rfl⟩
  obtain ⟨l3, hl3⟩ : ∃ z, p.length = z := ⟨_, rfl⟩
  rw [hnl] at HT ⊢
  rw [hl1, hl2] at HX ⊢
  rw [hl3] at HPP ⊢
  have HSC := Lib.hid (st_cases t l h)
  have HM1 := Lib.hid (fun (hd : doesE t p = 0) => And.intro (does_not_never hd l h) (And.intro (does_tot hd).1 (does_least hd).1))
  have HM3 := Lib.hid (fun (hd : doesE t p = 0) (hc : cpE t l h = 0) => does_most hd hc)
  have HM6 := Lib.hid (fun (hs : stE t = 0) => And.intro (does_not_never (plR_does hs) l h) (fun (hc : cpE t l h = 0) => fewest_most hs hc))
  clear hcap hcell hnl hl1 hl2 hl3
  go_enter Try.func7, Try.ntmps7
  go_wp2_with fail
  obtain ⟨W1, hW2⟩ : ∃ Wzz, ((w.alloc (.cells #[.int .i64 t.wide, .slice A nl c] 24)).alloc (.cells #[.slice A1 l1 c1, .slice A2 l2 c2] 35)) = Wzz := ⟨_, rfl⟩
  have B3 := Lib.hid (show Below w.heap.size w W1 by rw [← hW2]; exact (((Below.refl w.heap.size w).alloc (Nat.le_refl _) _).alloc (by first | (simp; done) | (simp; omega)) _))
  have X4 := Lib.hid (show Box W1 (w.heap.size) 24 #[.int .i64 t.wide, .slice A nl c] by rw [← hW2]; exact Box.alloc (Box.made w 24 #[.int .i64 t.wide, .slice A nl c]) (.cells #[.slice A1 l1 c1, .slice A2 l2 c2] 35))
  have X5 := Lib.hid (show Box W1 (w.heap.size + 1) 35 #[.slice A1 l1 c1, .slice A2 l2 c2] by
    have hz := Box.made (w.alloc (.cells #[.int .i64 t.wide, .slice A nl c] 24)) 35 #[.slice A1 l1 c1, .slice A2 l2 c2]
    rw [World.size_alloc] at hz
    rw [← hW2]; exact hz)
  have SZ6 := Lib.hid (show W1.heap.size = w.heap.size + 1 + 1 by rw [← hW2]; simp)
  rw [hW2]
  clear hW2
  have q7 : W1.cell? ⟨w.heap.size, 0, none⟩ = some (.int .i64 t.wide) := X4.out.cell 0
  have q8 : W1.cell? ⟨w.heap.size, 1, none⟩ = some (.slice A nl c) := X4.out.cell 1
  have q9 : W1.cell? ⟨w.heap.size + 1, 0, none⟩ = some (.slice A1 l1 c1) := X5.out.cell 0
  have q10 : W1.cell? ⟨w.heap.size + 1, 1, none⟩ = some (.slice A2 l2 c2) := X5.out.cell 1
  go_wp2_with fail
  refine (awake_c W1).mono ?_; rintro e v11 ⟨rfl, hb12⟩
  have X13 := Lib.hid (X4.out.later hb12)
  have X14 := Lib.hid (X5.out.later hb12)
  have B15 := Lib.hid (B3.out.trans (hb12.mono B3.out.size))
  clear hb12
  clear q7 q8 q9 q10
  have q16 : v11.cell? ⟨w.heap.size, 0, none⟩ = some (.int .i64 t.wide) := X13.out.cell 0
  have q17 : v11.cell? ⟨w.heap.size, 1, none⟩ = some (.slice A nl c) := X13.out.cell 1
  have q18 : v11.cell? ⟨w.heap.size + 1, 0, none⟩ = some (.slice A1 l1 c1) := X14.out.cell 0
  have q19 : v11.cell? ⟨w.heap.size + 1, 1, none⟩ = some (.slice A2 l2 c2) := X14.out.cell 1
  go_wp2_with fail
  refine (short_c t _ v11 (HT.out.mono B15.out B15.out.size)).mono ?_; rintro e v20 ⟨rfl, hb21⟩
  have X22 := Lib.hid (X13.out.later hb21)
  have X23 := Lib.hid (X14.out.later hb21)
  have B24 := Lib.hid (B15.out.trans (hb21.mono B15.out.size))
  clear hb21
  clear q16 q17 q18 q19
  have q25 : v20.cell? ⟨w.heap.size, 0, none⟩ = some (.int .i64 t.wide) := X22.out.cell 0
  have q26 : v20.cell? ⟨w.heap.size, 1, none⟩ = some (.slice A nl c) := X22.out.cell 1
  have q27 : v20.cell? ⟨w.heap.size + 1, 0, none⟩ = some (.slice A1 l1 c1) := X23.out.cell 0
  have q28 : v20.cell? ⟨w.heap.size + 1, 1, none⟩ = some (.slice A2 l2 c2) := X23.out.cell 1
  cases hsh : shortB t
  · clear hsh
    go_wp2_with fail
    go_ret
    exact ⟨rfl, B24.out⟩
  clear hsh
  by_cases q1 : 1000 < l1
  · have f1 : decide ((1000 : Int) < (l1 : Int)) = true := decide_eq_true (by omega)
    have f1' : decide (1000 < l1) = true := decide_eq_true q1
    clear q1
    go_wp2_with fail
    go_ret
    exact ⟨rfl, B24.out⟩
  have q1f : decide ((1000 : Int) < (l1 : Int)) = false := decide_eq_false (by omega)
  have q1g : decide (1000 < l1) = false := decide_eq_false q1
  clear q1
  by_cases q2 : 1000 < l2
  · have f1 : decide ((1000 : Int) < (l2 : Int)) = true := decide_eq_true (by omega)
    have f1' : decide (1000 < l2) = true := decide_eq_true q2
    clear q2
    go_wp2_with fail
    go_ret
    exact ⟨rfl, B24.out⟩
  have q2f : decide ((1000 : Int) < (l2 : Int)) = false := decide_eq_false (by omega)
  have q2g : decide (1000 < l2) = false := decide_eq_false q2
  clear q2
  by_cases q3 : 1000 < l3
  · have f1 : decide ((1000 : Int) < (l3 : Int)) = true := decide_eq_true (by omega)
    have f1' : decide (1000 < l3) = true := decide_eq_true q3
    clear q3
    go_wp2_with fail
    go_ret
    exact ⟨rfl, B24.out⟩
  have q3f : decide ((1000 : Int) < (l3 : Int)) = false := decide_eq_false (by omega)
  have q3g : decide (1000 < l3) = false := decide_eq_false q3
  clear q3
  go_wp2_with fail
  refine (Fewest_c t _ v20 (HT.out.mono B24.out B24.out.size)).mono ?_; rintro e v29 ⟨rfl, hb30⟩
  have X31 := Lib.hid (X22.out.later hb30)
  have X32 := Lib.hid (X23.out.later hb30)
  have B33 := Lib.hid (B24.out.trans (hb30.mono B24.out.size))
  clear hb30
  obtain ⟨fv, hfv⟩ : ∃ z, fwV t = z := ⟨_, rfl⟩
  have HFV := Lib.hid hfv
  rw [hfv]
  clear hfv
  obtain ⟨se, hse⟩ : ∃ z, stE t = z := ⟨_, rfl⟩
  have HSE := Lib.hid hse
  rw [hse]
  clear hse
  clear q1f q1g q2f q2g q3f q3g
  clear q25 q26 q27 q28
  have q34 : v29.cell? ⟨w.heap.size, 0, none⟩ = some (.int .i64 t.wide) := X31.out.cell 0
  have q35 : v29.cell? ⟨w.heap.size, 1, none⟩ = some (.slice A nl c) := X31.out.cell 1
  have q36 : v29.cell? ⟨w.heap.size + 1, 0, none⟩ = some (.slice A1 l1 c1) := X32.out.cell 0
  have q37 : v29.cell? ⟨w.heap.size + 1, 1, none⟩ = some (.slice A2 l2 c2) := X32.out.cell 1
  go_wp2_with fail
  refine (Prove_c t _ v29 (HT.out.mono B33.out B33.out.size)).mono ?_; rintro e v38 ⟨yv, yl, yh, rfl, hy, hz0, hz1, hb39⟩
  have X40 := Lib.hid (X31.out.later hb39)
  have X41 := Lib.hid (X32.out.later hb39)
  have B42 := Lib.hid (B33.out.trans (hb39.mono B33.out.size))
  clear hb39
  obtain ⟨s1, s2, rfl, hi1, hi2⟩ := hy
  have HI1a := Lib.hid hi1
  have HI2a := Lib.hid hi2
  obtain ⟨-, B1a, e1a, rfl, -, -⟩ := hi1
  obtain ⟨-, B2a, e2a, rfl, -, -⟩ := hi2
  obtain ⟨n1a, hn1⟩ : ∃ z, yl.length = z := ⟨_, rfl⟩
  obtain ⟨n2a, hn2⟩ : ∃ z, yh.length = z := ⟨_, rfl⟩
  rw [hn1] at HI1a ⊢
  rw [hn2] at HI2a ⊢
  clear hn1 hn2
  have HZ0 := Lib.hid hz0
  rw [HFV.out, HSE.out] at HZ0 ⊢
  clear hz0 hz1
  clear q34 q35 q36 q37
  have q43 : v38.cell? ⟨w.heap.size, 0, none⟩ = some (.int .i64 t.wide) := X40.out.cell 0
  have q44 : v38.cell? ⟨w.heap.size, 1, none⟩ = some (.slice A nl c) := X40.out.cell 1
  have q45 : v38.cell? ⟨w.heap.size + 1, 0, none⟩ = some (.slice A1 l1 c1) := X41.out.cell 0
  have q46 : v38.cell? ⟨w.heap.size + 1, 1, none⟩ = some (.slice A2 l2 c2) := X41.out.cell 1
  clear q43 q44 q45 q46
  have X47 := Lib.hid (X40.out.alloc (.cells #[.slice B1a n1a e1a, .slice B2a n2a e2a] 35))
  have X48 := Lib.hid (X41.out.alloc (.cells #[.slice B1a n1a e1a, .slice B2a n2a e2a] 35))
  have B49 := Lib.hid (B42.out.alloc B42.out.size (.cells #[.slice B1a n1a e1a, .slice B2a n2a e2a] 35))
  have X50 := Lib.hid (Box.made v38 35 #[.slice B1a n1a e1a, .slice B2a n2a e2a])
  have q51 : (v38.alloc (.cells #[.slice B1a n1a e1a, .slice B2a n2a e2a] 35)).cell? ⟨w.heap.size, 0, none⟩ = some (.int .i64 t.wide) := X47.out.cell 0
  have q52 : (v38.alloc (.cells #[.slice B1a n1a e1a, .slice B2a n2a e2a] 35)).cell? ⟨w.heap.size, 1, none⟩ = some (.slice A nl c) := X47.out.cell 1
  have q53 : (v38.alloc (.cells #[.slice B1a n1a e1a, .slice B2a n2a e2a] 35)).cell? ⟨w.heap.size + 1, 0, none⟩ = some (.slice A1 l1 c1) := X48.out.cell 0
  have q54 : (v38.alloc (.cells #[.slice B1a n1a e1a, .slice B2a n2a e2a] 35)).cell? ⟨w.heap.size + 1, 1, none⟩ = some (.slice A2 l2 c2) := X48.out.cell 1
  have q55 : (v38.alloc (.cells #[.slice B1a n1a e1a, .slice B2a n2a e2a] 35)).cell? ⟨v38.heap.size, 0, none⟩ = some (.slice B1a n1a e1a) := X50.out.cell 0
  have q56 : (v38.alloc (.cells #[.slice B1a n1a e1a, .slice B2a n2a e2a] 35)).cell? ⟨v38.heap.size, 1, none⟩ = some (.slice B2a n2a e2a) := X50.out.cell 1
  have fz57 : ∀ o, (v38.alloc (.cells #[.slice B1a n1a e1a, .slice B2a n2a e2a] 35)).frozen? ⟨v38.heap.size, o, none⟩ = false := fun o => X50.out.free o
  have HY := Lib.hid (show IsPrices ((v38.alloc (.cells #[.slice B1a n1a e1a, .slice B2a n2a e2a] 35))) ((v38.alloc (.cells #[.slice B1a n1a e1a, .slice B2a n2a e2a] 35))).heap.size (.agg #[.slice B1a n1a e1a, .slice B2a n2a e2a]) yl yh from ⟨_, _, rfl, HI1a.out.box _, HI2a.out.box _⟩)
  go_wp2_with fail
  refine (Never_c t _ (v38.alloc (.cells #[.slice B1a n1a e1a, .slice B2a n2a e2a] 35)) (HT.out.mono B49.out B49.out.size)).mono ?_; rintro e v58 ⟨zv, zl, zh, rfl, hy, hz0, hz1, hb59⟩
  have X60 := Lib.hid (X47.out.later hb59)
  have X61 := Lib.hid (X48.out.later hb59)
  have X62 := Lib.hid (X50.out.later hb59)
  have C63 := Lib.hid (HY.out.later hb59)
  have B64 := Lib.hid (B49.out.trans (hb59.mono B49.out.size))
  clear hb59
  obtain ⟨s1, s2, rfl, hi1, hi2⟩ := hy
  have HI1b := Lib.hid hi1
  have HI2b := Lib.hid hi2
  obtain ⟨-, B1b, e1b, rfl, -, -⟩ := hi1
  obtain ⟨-, B2b, e2b, rfl, -, -⟩ := hi2
  obtain ⟨n1b, hn1⟩ : ∃ z, zl.length = z := ⟨_, rfl⟩
  obtain ⟨n2b, hn2⟩ : ∃ z, zh.length = z := ⟨_, rfl⟩
  rw [hn1] at HI1b ⊢
  rw [hn2] at HI2b ⊢
  clear hn1 hn2
  have HZN := Lib.hid hz0
  obtain ⟨nv, hnv⟩ : ∃ z, nvE t = z := ⟨_, rfl⟩
  have HNV := Lib.hid hnv
  rw [hnv]
  clear hnv
  clear hz0 hz1
  clear q51 q52 q53 q54 q55 q56 fz57
  have q65 : v58.cell? ⟨w.heap.size, 0, none⟩ = some (.int .i64 t.wide) := X60.out.cell 0
  have q66 : v58.cell? ⟨w.heap.size, 1, none⟩ = some (.slice A nl c) := X60.out.cell 1
  have q67 : v58.cell? ⟨w.heap.size + 1, 0, none⟩ = some (.slice A1 l1 c1) := X61.out.cell 0
  have q68 : v58.cell? ⟨w.heap.size + 1, 1, none⟩ = some (.slice A2 l2 c2) := X61.out.cell 1
  have q69 : v58.cell? ⟨v38.heap.size, 0, none⟩ = some (.slice B1a n1a e1a) := X62.out.cell 0
  have q70 : v58.cell? ⟨v38.heap.size, 1, none⟩ = some (.slice B2a n2a e2a) := X62.out.cell 1
  have fz71 : ∀ o, v58.frozen? ⟨v38.heap.size, o, none⟩ = false := fun o => X62.out.free o
  have LT72 := Lib.hid X62.out.lt
  clear q65 q66 q67 q68 q69 q70 fz71
  have X73 := Lib.hid (X60.out.alloc (.cells #[.slice B1b n1b e1b, .slice B2b n2b e2b] 35))
  have X74 := Lib.hid (X61.out.alloc (.cells #[.slice B1b n1b e1b, .slice B2b n2b e2b] 35))
  have X75 := Lib.hid (X62.out.alloc (.cells #[.slice B1b n1b e1b, .slice B2b n2b e2b] 35))
  have C76 := Lib.hid (C63.out.later ((Below.refl v58.heap.size v58).alloc (Nat.le_refl _) (.cells #[.slice B1b n1b e1b, .slice B2b n2b e2b] 35)))
  have B77 := Lib.hid (B64.out.alloc B64.out.size (.cells #[.slice B1b n1b e1b, .slice B2b n2b e2b] 35))
  have X78 := Lib.hid (Box.made v58 35 #[.slice B1b n1b e1b, .slice B2b n2b e2b])
  have q79 : (v58.alloc (.cells #[.slice B1b n1b e1b, .slice B2b n2b e2b] 35)).cell? ⟨w.heap.size, 0, none⟩ = some (.int .i64 t.wide) := X73.out.cell 0
  have q80 : (v58.alloc (.cells #[.slice B1b n1b e1b, .slice B2b n2b e2b] 35)).cell? ⟨w.heap.size, 1, none⟩ = some (.slice A nl c) := X73.out.cell 1
  have q81 : (v58.alloc (.cells #[.slice B1b n1b e1b, .slice B2b n2b e2b] 35)).cell? ⟨w.heap.size + 1, 0, none⟩ = some (.slice A1 l1 c1) := X74.out.cell 0
  have q82 : (v58.alloc (.cells #[.slice B1b n1b e1b, .slice B2b n2b e2b] 35)).cell? ⟨w.heap.size + 1, 1, none⟩ = some (.slice A2 l2 c2) := X74.out.cell 1
  have q83 : (v58.alloc (.cells #[.slice B1b n1b e1b, .slice B2b n2b e2b] 35)).cell? ⟨v38.heap.size, 0, none⟩ = some (.slice B1a n1a e1a) := X75.out.cell 0
  have q84 : (v58.alloc (.cells #[.slice B1b n1b e1b, .slice B2b n2b e2b] 35)).cell? ⟨v38.heap.size, 1, none⟩ = some (.slice B2a n2a e2a) := X75.out.cell 1
  have fz85 : ∀ o, (v58.alloc (.cells #[.slice B1b n1b e1b, .slice B2b n2b e2b] 35)).frozen? ⟨v38.heap.size, o, none⟩ = false := fun o => X75.out.free o
  have q86 : (v58.alloc (.cells #[.slice B1b n1b e1b, .slice B2b n2b e2b] 35)).cell? ⟨v58.heap.size, 0, none⟩ = some (.slice B1b n1b e1b) := X78.out.cell 0
  have q87 : (v58.alloc (.cells #[.slice B1b n1b e1b, .slice B2b n2b e2b] 35)).cell? ⟨v58.heap.size, 1, none⟩ = some (.slice B2b n2b e2b) := X78.out.cell 1
  have fz88 : ∀ o, (v58.alloc (.cells #[.slice B1b n1b e1b, .slice B2b n2b e2b] 35)).frozen? ⟨v58.heap.size, o, none⟩ = false := fun o => X78.out.free o
  have HYB := Lib.hid (show IsPrices ((v58.alloc (.cells #[.slice B1b n1b e1b, .slice B2b n2b e2b] 35))) ((v58.alloc (.cells #[.slice B1b n1b e1b, .slice B2b n2b e2b] 35))).heap.size (.agg #[.slice B1b n1b e1b, .slice B2b n2b e2b]) zl zh from ⟨_, _, rfl, HI1b.out.box _, HI2b.out.box _⟩)
  go_wp2_with fail
  refine (CheckPrices_c t l h _ _ (v58.alloc (.cells #[.slice B1b n1b e1b, .slice B2b n2b e2b] 35)) (HT.out.mono B77.out B77.out.size) (HX.out.mono B77.out B77.out.size)).mono ?_; rintro e v89 ⟨rfl, hb90⟩
  have X91 := Lib.hid (X73.out.later hb90)
  have X92 := Lib.hid (X74.out.later hb90)
  have X93 := Lib.hid (X75.out.later hb90)
  have X94 := Lib.hid (X78.out.later hb90)
  have C95 := Lib.hid (C76.out.later hb90)
  have C96 := Lib.hid (HYB.out.later hb90)
  have B97 := Lib.hid (B77.out.trans (hb90.mono B77.out.size))
  clear hb90
  obtain ⟨cv, hcv⟩ : ∃ z, cpV t l h = z := ⟨_, rfl⟩
  have HCV := Lib.hid hcv
  rw [hcv]
  clear hcv
  obtain ⟨ce, hce⟩ : ∃ z, cpE t l h = z := ⟨_, rfl⟩
  have HCE := Lib.hid hce
  rw [hce]
  clear hce
  
  clear q79 q80 q81 q82 q83 q84 fz85 q86 q87 fz88
  have q98 : v89.cell? ⟨w.heap.size, 0, none⟩ = some (.int .i64 t.wide) := X91.out.cell 0
  have q99 : v89.cell? ⟨w.heap.size, 1, none⟩ = some (.slice A nl c) := X91.out.cell 1
  have q100 : v89.cell? ⟨w.heap.size + 1, 0, none⟩ = some (.slice A1 l1 c1) := X92.out.cell 0
  have q101 : v89.cell? ⟨w.heap.size + 1, 1, none⟩ = some (.slice A2 l2 c2) := X92.out.cell 1
  have q102 : v89.cell? ⟨v38.heap.size, 0, none⟩ = some (.slice B1a n1a e1a) := X93.out.cell 0
  have q103 : v89.cell? ⟨v38.heap.size, 1, none⟩ = some (.slice B2a n2a e2a) := X93.out.cell 1
  have fz104 : ∀ o, v89.frozen? ⟨v38.heap.size, o, none⟩ = false := fun o => X93.out.free o
  have q105 : v89.cell? ⟨v58.heap.size, 0, none⟩ = some (.slice B1b n1b e1b) := X94.out.cell 0
  have q106 : v89.cell? ⟨v58.heap.size, 1, none⟩ = some (.slice B2b n2b e2b) := X94.out.cell 1
  have fz107 : ∀ o, v89.frozen? ⟨v58.heap.size, o, none⟩ = false := fun o => X94.out.free o
  go_wp2_with fail
  refine (CheckNever_c t l h _ _ v89 (HT.out.mono B97.out B97.out.size) (HX.out.mono B97.out B97.out.size)).mono ?_; rintro e v108 ⟨rfl, hb109⟩
  have X110 := Lib.hid (X91.out.later hb109)
  have X111 := Lib.hid (X92.out.later hb109)
  have X112 := Lib.hid (X93.out.later hb109)
  have X113 := Lib.hid (X94.out.later hb109)
  have C114 := Lib.hid (C95.out.later hb109)
  have C115 := Lib.hid (C96.out.later hb109)
  have B116 := Lib.hid (B97.out.trans (hb109.mono B97.out.size))
  clear hb109
  obtain ⟨cn, hcn⟩ : ∃ z, cnE t l h = z := ⟨_, rfl⟩
  have HCN := Lib.hid hcn
  rw [hcn]
  clear hcn
  
  clear q98 q99 q100 q101 q102 q103 fz104 q105 q106 fz107
  have q117 : v108.cell? ⟨w.heap.size, 0, none⟩ = some (.int .i64 t.wide) := X110.out.cell 0
  have q118 : v108.cell? ⟨w.heap.size, 1, none⟩ = some (.slice A nl c) := X110.out.cell 1
  have q119 : v108.cell? ⟨w.heap.size + 1, 0, none⟩ = some (.slice A1 l1 c1) := X111.out.cell 0
  have q120 : v108.cell? ⟨w.heap.size + 1, 1, none⟩ = some (.slice A2 l2 c2) := X111.out.cell 1
  have q121 : v108.cell? ⟨v38.heap.size, 0, none⟩ = some (.slice B1a n1a e1a) := X112.out.cell 0
  have q122 : v108.cell? ⟨v38.heap.size, 1, none⟩ = some (.slice B2a n2a e2a) := X112.out.cell 1
  have fz123 : ∀ o, v108.frozen? ⟨v38.heap.size, o, none⟩ = false := fun o => X112.out.free o
  have q124 : v108.cell? ⟨v58.heap.size, 0, none⟩ = some (.slice B1b n1b e1b) := X113.out.cell 0
  have q125 : v108.cell? ⟨v58.heap.size, 1, none⟩ = some (.slice B2b n2b e2b) := X113.out.cell 1
  have fz126 : ∀ o, v108.frozen? ⟨v58.heap.size, o, none⟩ = false := fun o => X113.out.free o
  go_wp2_with fail
  refine (Does_c t p _ _ v108 (HT.out.mono B116.out B116.out.size) (HPP.out.mono B116.out B116.out.size)).mono ?_; rintro e v127 ⟨rfl, hb128⟩
  have X129 := Lib.hid (X110.out.later hb128)
  have X130 := Lib.hid (X111.out.later hb128)
  have X131 := Lib.hid (X112.out.later hb128)
  have X132 := Lib.hid (X113.out.later hb128)
  have C133 := Lib.hid (C114.out.later hb128)
  have C134 := Lib.hid (C115.out.later hb128)
  have B135 := Lib.hid (B116.out.trans (hb128.mono B116.out.size))
  clear hb128
  obtain ⟨de, hde⟩ : ∃ z, doesE t p = z := ⟨_, rfl⟩
  have HDE := Lib.hid hde
  rw [hde]
  clear hde
  
  clear q117 q118 q119 q120 q121 q122 fz123 q124 q125 fz126
  have q136 : v127.cell? ⟨w.heap.size, 0, none⟩ = some (.int .i64 t.wide) := X129.out.cell 0
  have q137 : v127.cell? ⟨w.heap.size, 1, none⟩ = some (.slice A nl c) := X129.out.cell 1
  have q138 : v127.cell? ⟨w.heap.size + 1, 0, none⟩ = some (.slice A1 l1 c1) := X130.out.cell 0
  have q139 : v127.cell? ⟨w.heap.size + 1, 1, none⟩ = some (.slice A2 l2 c2) := X130.out.cell 1
  have q140 : v127.cell? ⟨v38.heap.size, 0, none⟩ = some (.slice B1a n1a e1a) := X131.out.cell 0
  have q141 : v127.cell? ⟨v38.heap.size, 1, none⟩ = some (.slice B2a n2a e2a) := X131.out.cell 1
  have fz142 : ∀ o, v127.frozen? ⟨v38.heap.size, o, none⟩ = false := fun o => X131.out.free o
  have q143 : v127.cell? ⟨v58.heap.size, 0, none⟩ = some (.slice B1b n1b e1b) := X132.out.cell 0
  have q144 : v127.cell? ⟨v58.heap.size, 1, none⟩ = some (.slice B2b n2b e2b) := X132.out.cell 1
  have fz145 : ∀ o, v127.frozen? ⟨v58.heap.size, o, none⟩ = false := fun o => X132.out.free o
  go_wp2_with fail
  refine (Total_c p _ v127 (HPP.out.mono B135.out B135.out.size)).mono ?_; rintro e v146 ⟨rfl, hb147⟩
  have X148 := Lib.hid (X129.out.later hb147)
  have X149 := Lib.hid (X130.out.later hb147)
  have X150 := Lib.hid (X131.out.later hb147)
  have X151 := Lib.hid (X132.out.later hb147)
  have C152 := Lib.hid (C133.out.later hb147)
  have C153 := Lib.hid (C134.out.later hb147)
  have B154 := Lib.hid (B135.out.trans (hb147.mono B135.out.size))
  clear hb147
  obtain ⟨tv, htv⟩ : ∃ z, totV p = z := ⟨_, rfl⟩
  have HTV := Lib.hid htv
  rw [htv]
  clear htv
  obtain ⟨te, hte⟩ : ∃ z, totE p = z := ⟨_, rfl⟩
  have HTE := Lib.hid hte
  rw [hte]
  clear hte
  rw [HSE.out, HNV.out, HCE.out] at HSC
  rw [HDE.out, HCN.out, HTE.out, HSE.out] at HM1
  rw [HDE.out, HCE.out, HCV.out, HTV.out] at HM3
  rw [HSE.out, HCN.out, HCE.out, HCV.out, HFV.out] at HM6
  clear q136 q137 q138 q139 q140 q141 fz142 q143 q144 fz145
  have q155 : v146.cell? ⟨w.heap.size, 0, none⟩ = some (.int .i64 t.wide) := X148.out.cell 0
  have q156 : v146.cell? ⟨w.heap.size, 1, none⟩ = some (.slice A nl c) := X148.out.cell 1
  have q157 : v146.cell? ⟨w.heap.size + 1, 0, none⟩ = some (.slice A1 l1 c1) := X149.out.cell 0
  have q158 : v146.cell? ⟨w.heap.size + 1, 1, none⟩ = some (.slice A2 l2 c2) := X149.out.cell 1
  have q159 : v146.cell? ⟨v38.heap.size, 0, none⟩ = some (.slice B1a n1a e1a) := X150.out.cell 0
  have q160 : v146.cell? ⟨v38.heap.size, 1, none⟩ = some (.slice B2a n2a e2a) := X150.out.cell 1
  have fz161 : ∀ o, v146.frozen? ⟨v38.heap.size, o, none⟩ = false := fun o => X150.out.free o
  have q162 : v146.cell? ⟨v58.heap.size, 0, none⟩ = some (.slice B1b n1b e1b) := X151.out.cell 0
  have q163 : v146.cell? ⟨v58.heap.size, 1, none⟩ = some (.slice B2b n2b e2b) := X151.out.cell 1
  have fz164 : ∀ o, v146.frozen? ⟨v58.heap.size, o, none⟩ = false := fun o => X151.out.free o
  by_cases dde : de = 0
  case pos =>
    obtain ⟨dcn, dte, dse⟩ := HM1.out dde
    have hnv : nv = 3 := by rcases HSC.out with h | h | h <;> omega
    subst dse
    subst hnv
    have hm6 := (HM6.out rfl).2
    have hm3 := HM3.out dde
    have HZZ := Lib.hid (HZ0.out rfl)
    have fde : (de == 0) = true := by rw [dde]; rfl
    have gde : (de != 0) = false := by rw [bne, fde]; rfl
    have fcn : (cn == 0) = false := by rw [beq_eq_false_iff_ne]; exact dcn
    have gcn : (cn != 0) = true := by rw [bne, fcn]; rfl
    have fte : (te == 0) = true := by rw [dte]; rfl
    have gte : (te != 0) = false := by rw [bne, fte]; rfl
    clear dde dcn dte
    by_cases dce : ce = 0
    case pos =>
      have fce : (ce == 0) = true := by rw [dce]; rfl
      have gce : (ce != 0) = false := by rw [bne, fce]; rfl
      have hgt : decide (tv < cv) = false := decide_eq_false (by have := hm3 dce; omega)
      have hle : decide (cv ≤ fv) = true := decide_eq_true (hm6 dce)
      clear dce hm6 hm3
      go_wp2_with fail
      refine (CheckPrices_c t yl yh _ _ v146 (HT.out.mono B154.out B154.out.size) C152.out).mono ?_; rintro e v165 ⟨rfl, hb166⟩
      have X167 := Lib.hid (X148.out.later hb166)
      have X168 := Lib.hid (X149.out.later hb166)
      have X169 := Lib.hid (X150.out.later hb166)
      have X170 := Lib.hid (X151.out.later hb166)
      have C171 := Lib.hid (C152.out.later hb166)
      have C172 := Lib.hid (C153.out.later hb166)
      have B173 := Lib.hid (B154.out.trans (hb166.mono B154.out.size))
      clear hb166
      rw [HZZ.out.1, HZZ.out.2]
      clear q155 q156 q157 q158 q159 q160 fz161 q162 q163 fz164
      have q174 : v165.cell? ⟨w.heap.size, 0, none⟩ = some (.int .i64 t.wide) := X167.out.cell 0
      have q175 : v165.cell? ⟨w.heap.size, 1, none⟩ = some (.slice A nl c) := X167.out.cell 1
      have q176 : v165.cell? ⟨w.heap.size + 1, 0, none⟩ = some (.slice A1 l1 c1) := X168.out.cell 0
      have q177 : v165.cell? ⟨w.heap.size + 1, 1, none⟩ = some (.slice A2 l2 c2) := X168.out.cell 1
      have q178 : v165.cell? ⟨v38.heap.size, 0, none⟩ = some (.slice B1a n1a e1a) := X169.out.cell 0
      have q179 : v165.cell? ⟨v38.heap.size, 1, none⟩ = some (.slice B2a n2a e2a) := X169.out.cell 1
      have fz180 : ∀ o, v165.frozen? ⟨v38.heap.size, o, none⟩ = false := fun o => X169.out.free o
      have q181 : v165.cell? ⟨v58.heap.size, 0, none⟩ = some (.slice B1b n1b e1b) := X170.out.cell 0
      have q182 : v165.cell? ⟨v58.heap.size, 1, none⟩ = some (.slice B2b n2b e2b) := X170.out.cell 1
      have fz183 : ∀ o, v165.frozen? ⟨v58.heap.size, o, none⟩ = false := fun o => X170.out.free o
      go_wp2_with fail
      go_ret
      exact ⟨rfl, B173.out⟩
    have fce : (ce == 0) = false := by rw [beq_eq_false_iff_ne]; exact dce
    have gce : (ce != 0) = true := by rw [bne, fce]; rfl
    clear dce hm6 hm3
    go_wp2_with fail
    refine (CheckPrices_c t yl yh _ _ v146 (HT.out.mono B154.out B154.out.size) C152.out).mono ?_; rintro e v184 ⟨rfl, hb185⟩
    have X186 := Lib.hid (X148.out.later hb185)
    have X187 := Lib.hid (X149.out.later hb185)
    have X188 := Lib.hid (X150.out.later hb185)
    have X189 := Lib.hid (X151.out.later hb185)
    have C190 := Lib.hid (C152.out.later hb185)
    have C191 := Lib.hid (C153.out.later hb185)
    have B192 := Lib.hid (B154.out.trans (hb185.mono B154.out.size))
    clear hb185
    rw [HZZ.out.1, HZZ.out.2]
    clear q155 q156 q157 q158 q159 q160 fz161 q162 q163 fz164
    have q193 : v184.cell? ⟨w.heap.size, 0, none⟩ = some (.int .i64 t.wide) := X186.out.cell 0
    have q194 : v184.cell? ⟨w.heap.size, 1, none⟩ = some (.slice A nl c) := X186.out.cell 1
    have q195 : v184.cell? ⟨w.heap.size + 1, 0, none⟩ = some (.slice A1 l1 c1) := X187.out.cell 0
    have q196 : v184.cell? ⟨w.heap.size + 1, 1, none⟩ = some (.slice A2 l2 c2) := X187.out.cell 1
    have q197 : v184.cell? ⟨v38.heap.size, 0, none⟩ = some (.slice B1a n1a e1a) := X188.out.cell 0
    have q198 : v184.cell? ⟨v38.heap.size, 1, none⟩ = some (.slice B2a n2a e2a) := X188.out.cell 1
    have fz199 : ∀ o, v184.frozen? ⟨v38.heap.size, o, none⟩ = false := fun o => X188.out.free o
    have q200 : v184.cell? ⟨v58.heap.size, 0, none⟩ = some (.slice B1b n1b e1b) := X189.out.cell 0
    have q201 : v184.cell? ⟨v58.heap.size, 1, none⟩ = some (.slice B2b n2b e2b) := X189.out.cell 1
    have fz202 : ∀ o, v184.frozen? ⟨v58.heap.size, o, none⟩ = false := fun o => X189.out.free o
    go_wp2_with fail
    go_ret
    exact ⟨rfl, B192.out⟩
  have hde : (de == 0) = false := by rw [beq_eq_false_iff_ne]; exact dde
  clear dde
  rcases HSC.out with ⟨dse, dnv⟩ | ⟨dse, dnv⟩ | ⟨dse, dnv, dce⟩
  · subst dse
    subst dnv
    obtain ⟨dcn, hm6⟩ := HM6.out rfl
    have HZZ := Lib.hid (HZ0.out rfl)
    have fcn : (cn == 0) = false := by rw [beq_eq_false_iff_ne]; exact dcn
    have gcn : (cn != 0) = true := by rw [bne, fcn]; rfl
    clear dcn
    by_cases dce : ce = 0
    case pos =>
      have fce : (ce == 0) = true := by rw [dce]; rfl
      have gce : (ce != 0) = false := by rw [bne, fce]; rfl
      have hle : decide (cv ≤ fv) = true := decide_eq_true (hm6 dce)
      clear dce hm6
      go_wp2_with fail
      refine (CheckPrices_c t yl yh _ _ v146 (HT.out.mono B154.out B154.out.size) C152.out).mono ?_; rintro e v203 ⟨rfl, hb204⟩
      have X205 := Lib.hid (X148.out.later hb204)
      have X206 := Lib.hid (X149.out.later hb204)
      have X207 := Lib.hid (X150.out.later hb204)
      have X208 := Lib.hid (X151.out.later hb204)
      have C209 := Lib.hid (C152.out.later hb204)
      have C210 := Lib.hid (C153.out.later hb204)
      have B211 := Lib.hid (B154.out.trans (hb204.mono B154.out.size))
      clear hb204
      rw [HZZ.out.1, HZZ.out.2]
      clear q155 q156 q157 q158 q159 q160 fz161 q162 q163 fz164
      have q212 : v203.cell? ⟨w.heap.size, 0, none⟩ = some (.int .i64 t.wide) := X205.out.cell 0
      have q213 : v203.cell? ⟨w.heap.size, 1, none⟩ = some (.slice A nl c) := X205.out.cell 1
      have q214 : v203.cell? ⟨w.heap.size + 1, 0, none⟩ = some (.slice A1 l1 c1) := X206.out.cell 0
      have q215 : v203.cell? ⟨w.heap.size + 1, 1, none⟩ = some (.slice A2 l2 c2) := X206.out.cell 1
      have q216 : v203.cell? ⟨v38.heap.size, 0, none⟩ = some (.slice B1a n1a e1a) := X207.out.cell 0
      have q217 : v203.cell? ⟨v38.heap.size, 1, none⟩ = some (.slice B2a n2a e2a) := X207.out.cell 1
      have fz218 : ∀ o, v203.frozen? ⟨v38.heap.size, o, none⟩ = false := fun o => X207.out.free o
      have q219 : v203.cell? ⟨v58.heap.size, 0, none⟩ = some (.slice B1b n1b e1b) := X208.out.cell 0
      have q220 : v203.cell? ⟨v58.heap.size, 1, none⟩ = some (.slice B2b n2b e2b) := X208.out.cell 1
      have fz221 : ∀ o, v203.frozen? ⟨v58.heap.size, o, none⟩ = false := fun o => X208.out.free o
      go_wp2_with fail
      go_ret
      exact ⟨rfl, B211.out⟩
    have fce : (ce == 0) = false := by rw [beq_eq_false_iff_ne]; exact dce
    have gce : (ce != 0) = true := by rw [bne, fce]; rfl
    clear dce hm6
    go_wp2_with fail
    refine (CheckPrices_c t yl yh _ _ v146 (HT.out.mono B154.out B154.out.size) C152.out).mono ?_; rintro e v222 ⟨rfl, hb223⟩
    have X224 := Lib.hid (X148.out.later hb223)
    have X225 := Lib.hid (X149.out.later hb223)
    have X226 := Lib.hid (X150.out.later hb223)
    have X227 := Lib.hid (X151.out.later hb223)
    have C228 := Lib.hid (C152.out.later hb223)
    have C229 := Lib.hid (C153.out.later hb223)
    have B230 := Lib.hid (B154.out.trans (hb223.mono B154.out.size))
    clear hb223
    rw [HZZ.out.1, HZZ.out.2]
    clear q155 q156 q157 q158 q159 q160 fz161 q162 q163 fz164
    have q231 : v222.cell? ⟨w.heap.size, 0, none⟩ = some (.int .i64 t.wide) := X224.out.cell 0
    have q232 : v222.cell? ⟨w.heap.size, 1, none⟩ = some (.slice A nl c) := X224.out.cell 1
    have q233 : v222.cell? ⟨w.heap.size + 1, 0, none⟩ = some (.slice A1 l1 c1) := X225.out.cell 0
    have q234 : v222.cell? ⟨w.heap.size + 1, 1, none⟩ = some (.slice A2 l2 c2) := X225.out.cell 1
    have q235 : v222.cell? ⟨v38.heap.size, 0, none⟩ = some (.slice B1a n1a e1a) := X226.out.cell 0
    have q236 : v222.cell? ⟨v38.heap.size, 1, none⟩ = some (.slice B2a n2a e2a) := X226.out.cell 1
    have fz237 : ∀ o, v222.frozen? ⟨v38.heap.size, o, none⟩ = false := fun o => X226.out.free o
    have q238 : v222.cell? ⟨v58.heap.size, 0, none⟩ = some (.slice B1b n1b e1b) := X227.out.cell 0
    have q239 : v222.cell? ⟨v58.heap.size, 1, none⟩ = some (.slice B2b n2b e2b) := X227.out.cell 1
    have fz240 : ∀ o, v222.frozen? ⟨v58.heap.size, o, none⟩ = false := fun o => X227.out.free o
    go_wp2_with fail
    go_ret
    exact ⟨rfl, B230.out⟩
  · subst dse
    have HCNZ := Lib.hid (HZN.out (HNV.out.trans dnv))
    subst dnv
    go_wp2_with fail
    refine (CheckNever_c t zl zh _ _ v146 (HT.out.mono B154.out B154.out.size) C153.out).mono ?_; rintro e v241 ⟨rfl, hb242⟩
    have X243 := Lib.hid (X148.out.later hb242)
    have X244 := Lib.hid (X149.out.later hb242)
    have X245 := Lib.hid (X150.out.later hb242)
    have X246 := Lib.hid (X151.out.later hb242)
    have C247 := Lib.hid (C152.out.later hb242)
    have C248 := Lib.hid (C153.out.later hb242)
    have B249 := Lib.hid (B154.out.trans (hb242.mono B154.out.size))
    clear hb242
    rw [HCNZ.out]
    clear q155 q156 q157 q158 q159 q160 fz161 q162 q163 fz164
    have q250 : v241.cell? ⟨w.heap.size, 0, none⟩ = some (.int .i64 t.wide) := X243.out.cell 0
    have q251 : v241.cell? ⟨w.heap.size, 1, none⟩ = some (.slice A nl c) := X243.out.cell 1
    have q252 : v241.cell? ⟨w.heap.size + 1, 0, none⟩ = some (.slice A1 l1 c1) := X244.out.cell 0
    have q253 : v241.cell? ⟨w.heap.size + 1, 1, none⟩ = some (.slice A2 l2 c2) := X244.out.cell 1
    have q254 : v241.cell? ⟨v38.heap.size, 0, none⟩ = some (.slice B1a n1a e1a) := X245.out.cell 0
    have q255 : v241.cell? ⟨v38.heap.size, 1, none⟩ = some (.slice B2a n2a e2a) := X245.out.cell 1
    have fz256 : ∀ o, v241.frozen? ⟨v38.heap.size, o, none⟩ = false := fun o => X245.out.free o
    have q257 : v241.cell? ⟨v58.heap.size, 0, none⟩ = some (.slice B1b n1b e1b) := X246.out.cell 0
    have q258 : v241.cell? ⟨v58.heap.size, 1, none⟩ = some (.slice B2b n2b e2b) := X246.out.cell 1
    have fz259 : ∀ o, v241.frozen? ⟨v58.heap.size, o, none⟩ = false := fun o => X246.out.free o
    go_wp2_with fail
    go_ret
    exact ⟨rfl, B249.out⟩
  · subst dse
    subst dnv
    subst dce
    go_wp2_with fail
    go_ret
    exact ⟨rfl, B154.out⟩

end Go.Proofs.Ytfafjojoapcliaa

/- Never: prices that prove that no strokes do a task. -/
import Derived.Test.YtfafjojoapcliaaS18
import Derived.Test.YtfafjojoapcliaaS14
set_option linter.all false
namespace Go.Proofs.Ytfafjojoapcliaa
open Go.RowKit

noncomputable def nvE (t : Tk) : Int := if taskB t = true then (if feasB t = true then 3 else 0) else 50
/-- what Never answers -/
def NeverPost (t : Tk) (w : World) (e : Ending) (w' : World) : Prop :=
  ∃ xv l h, e = .returned (.tuple #[xv, .int .i64 (nvE t)]) ∧ IsPrices w' w'.heap.size xv l h ∧ (nvE t = 0 → cnE t l h = 0) ∧ (nvE t ≠ 0 → l = [] ∧ h = []) ∧ Below w.heap.size w w'
theorem NeverPost.no {t : Tk} {w W : World} (hb : Below w.heap.size w W) {e : Int} (he : nvE t = e) (h0 : e ≠ 0) : NeverPost t w (.returned (.tuple #[.agg #[.slice none 0 0, .slice none 0 0], .int .i64 e])) W := by
  subst he
  exact ⟨_, [], [], rfl, ⟨_, _, rfl, ints_nil _ _, ints_nil _ _⟩, fun e => absurd e h0, fun _ => ⟨rfl, rfl⟩, hb⟩
set_option maxRecDepth 100000 in
set_option maxHeartbeats 8000000 in
theorem Never_c (t : Tk) (v : Value) (w : World) (ht : IsTask w w.heap.size v t) : Calls Try.prog 18 #[v] w fun e w' => NeverPost t w e w' := by
  have HT := Lib.hid ht
  obtain ⟨s, rfl, A, c, rfl, hcap, hcell⟩ := ht
  obtain ⟨nl, hnl⟩ : ∃ z, t.need.length = z := ⟨_, rfl⟩
  have HNL := Lib.hid hnl
  rw [hnl] at HT ⊢
  clear hcap hcell hnl
  by_cases htb : taskB t = true
  case neg =>
    have HTB := Lib.hid (show taskB t = false by simpa using htb)
    have HE := Lib.hid (show tkE t = 50 by unfold tkE; rw [HTB.out]; rfl)
    clear htb
    go_enter Try.func18, Try.ntmps18
    go_wp2_with fail
    obtain ⟨W1, hW2⟩ : ∃ Wzz, ((w.alloc (.cells #[.int .i64 t.wide, .slice A nl c] 24)).alloc (.cells #[.slice none 0 0, .slice none 0 0] 35)) = Wzz := ⟨_, rfl⟩
    have B3 := Lib.hid (show Below w.heap.size w W1 by rw [← hW2]; exact (((Below.refl w.heap.size w).alloc (Nat.le_refl _) _).alloc (by first | (simp; done) | (simp; omega)) _))
    have X4 := Lib.hid (show Box W1 (w.heap.size) 24 #[.int .i64 t.wide, .slice A nl c] by rw [← hW2]; exact Box.alloc (Box.made w 24 #[.int .i64 t.wide, .slice A nl c]) (.cells #[.slice none 0 0, .slice none 0 0] 35))
    have X5 := Lib.hid (show Box W1 (w.heap.size + 1) 35 #[.slice none 0 0, .slice none 0 0] by
      have hz := Box.made (w.alloc (.cells #[.int .i64 t.wide, .slice A nl c] 24)) 35 #[.slice none 0 0, .slice none 0 0]
      rw [World.size_alloc] at hz
      rw [← hW2]; exact hz)
    have SZ6 := Lib.hid (show W1.heap.size = w.heap.size + 1 + 1 by rw [← hW2]; simp)
    rw [hW2]
    clear hW2
    have q7 : W1.cell? ⟨w.heap.size, 0, none⟩ = some (.int .i64 t.wide) := X4.out.cell 0
    have q8 : W1.cell? ⟨w.heap.size, 1, none⟩ = some (.slice A nl c) := X4.out.cell 1
    have q9 : W1.cell? ⟨w.heap.size + 1, 0, none⟩ = some (.slice none 0 0) := X5.out.cell 0
    have q10 : W1.cell? ⟨w.heap.size + 1, 1, none⟩ = some (.slice none 0 0) := X5.out.cell 1
    have fz11 : ∀ o, W1.frozen? ⟨w.heap.size + 1, o, none⟩ = false := fun o => X5.out.free o
    go_wp2_with fail
    refine (Check_c t _ W1 (HT.out.mono B3.out B3.out.size)).mono ?_; rintro e v12 ⟨rfl, hb13⟩
    have X14 := Lib.hid (X4.out.later hb13)
    have X15 := Lib.hid (X5.out.later hb13)
    have B16 := Lib.hid (B3.out.trans (hb13.mono B3.out.size))
    clear hb13
    rw [HE.out]
    clear q7 q8 q9 q10 fz11
    have q17 : v12.cell? ⟨w.heap.size, 0, none⟩ = some (.int .i64 t.wide) := X14.out.cell 0
    have q18 : v12.cell? ⟨w.heap.size, 1, none⟩ = some (.slice A nl c) := X14.out.cell 1
    have q19 : v12.cell? ⟨w.heap.size + 1, 0, none⟩ = some (.slice none 0 0) := X15.out.cell 0
    have q20 : v12.cell? ⟨w.heap.size + 1, 1, none⟩ = some (.slice none 0 0) := X15.out.cell 1
    have fz21 : ∀ o, v12.frozen? ⟨w.heap.size + 1, o, none⟩ = false := fun o => X15.out.free o
    go_wp2_with fail
    have hbb := ((B16.out.setCell (p := ⟨w.heap.size + 1, 0, none⟩) (Nat.le_succ _) (.slice none 0 0)).setCell (p := ⟨w.heap.size + 1, 1, none⟩) (Nat.le_succ _) (.slice none 0 0))
    refine bodyPost_ret (v := .tuple #[.agg #[.slice none 0 0, .slice none 0 0], .int .i64 50]) (by simp [results, Try.results18, go_sem, *]) rfl ?_
    exact NeverPost.no hbb (by unfold nvE; rw [HTB.out]; rfl) (by decide)
  have HTB := Lib.hid htb
  have AR := Lib.hid (task_parts htb)
  have HE := Lib.hid (show tkE t = 0 by unfold tkE; rw [htb]; rfl)
  clear htb
  go_enter Try.func18, Try.ntmps18
  go_wp2_with fail
  obtain ⟨W22, hW23⟩ : ∃ Wzz, ((w.alloc (.cells #[.int .i64 t.wide, .slice A nl c] 24)).alloc (.cells #[.slice none 0 0, .slice none 0 0] 35)) = Wzz := ⟨_, rfl⟩
  have B24 := Lib.hid (show Below w.heap.size w W22 by rw [← hW23]; exact (((Below.refl w.heap.size w).alloc (Nat.le_refl _) _).alloc (by first | (simp; done) | (simp; omega)) _))
  have X25 := Lib.hid (show Box W22 (w.heap.size) 24 #[.int .i64 t.wide, .slice A nl c] by rw [← hW23]; exact Box.alloc (Box.made w 24 #[.int .i64 t.wide, .slice A nl c]) (.cells #[.slice none 0 0, .slice none 0 0] 35))
  have X26 := Lib.hid (show Box W22 (w.heap.size + 1) 35 #[.slice none 0 0, .slice none 0 0] by
    have hz := Box.made (w.alloc (.cells #[.int .i64 t.wide, .slice A nl c] 24)) 35 #[.slice none 0 0, .slice none 0 0]
    rw [World.size_alloc] at hz
    rw [← hW23]; exact hz)
  have SZ27 := Lib.hid (show W22.heap.size = w.heap.size + 1 + 1 by rw [← hW23]; simp)
  rw [hW23]
  clear hW23
  have q28 : W22.cell? ⟨w.heap.size, 0, none⟩ = some (.int .i64 t.wide) := X25.out.cell 0
  have q29 : W22.cell? ⟨w.heap.size, 1, none⟩ = some (.slice A nl c) := X25.out.cell 1
  have q30 : W22.cell? ⟨w.heap.size + 1, 0, none⟩ = some (.slice none 0 0) := X26.out.cell 0
  have q31 : W22.cell? ⟨w.heap.size + 1, 1, none⟩ = some (.slice none 0 0) := X26.out.cell 1
  have fz32 : ∀ o, W22.frozen? ⟨w.heap.size + 1, o, none⟩ = false := fun o => X26.out.free o
  go_wp2_with fail
  refine (Check_c t _ W22 (HT.out.mono B24.out B24.out.size)).mono ?_; rintro e v33 ⟨rfl, hb34⟩
  have X35 := Lib.hid (X25.out.later hb34)
  have X36 := Lib.hid (X26.out.later hb34)
  have B37 := Lib.hid (B24.out.trans (hb34.mono B24.out.size))
  clear hb34
  rw [HE.out]
  clear q28 q29 q30 q31 fz32
  have q38 : v33.cell? ⟨w.heap.size, 0, none⟩ = some (.int .i64 t.wide) := X35.out.cell 0
  have q39 : v33.cell? ⟨w.heap.size, 1, none⟩ = some (.slice A nl c) := X35.out.cell 1
  have q40 : v33.cell? ⟨w.heap.size + 1, 0, none⟩ = some (.slice none 0 0) := X36.out.cell 0
  have q41 : v33.cell? ⟨w.heap.size + 1, 1, none⟩ = some (.slice none 0 0) := X36.out.cell 1
  have fz42 : ∀ o, v33.frozen? ⟨w.heap.size + 1, o, none⟩ = false := fun o => X36.out.free o
  go_wp2_with fail
  refine (graphOf_c t _ v33 (tW t) (tM t) (HT.out.mono B37.out B37.out.size) AR.out.2.2.2.2.2.2.1 AR.out.2.2.2.2.2.2.2 AR.out.1 AR.out.2.1 AR.out.2.2.1 AR.out.2.2.2.1 AR.out.2.2.2.2.1 AR.out.2.2.2.2.2.1).mono ?_; rintro e v43 ⟨g, gl, gb, lv, rfl, hg2, hgl, hgb, hgg, hb44⟩
  have HS12a := Lib.hid hb44.size
  have X45 := Lib.hid (X35.out.later hb44)
  have X46 := Lib.hid (X36.out.later hb44)
  have B47 := Lib.hid (B37.out.trans (hb44.mono B37.out.size))
  clear hb44
  have HG := Lib.hid hg2
  have HGN := Lib.hid (⟨hgl, hgb, hgg⟩ : v33.heap.size ≤ gl ∧ v33.heap.size ≤ gb ∧ v33.heap.size ≤ g)
  clear hg2 hgl hgb hgg
  clear q38 q39 q40 q41 fz42
  have q48 : v43.cell? ⟨w.heap.size, 0, none⟩ = some (.int .i64 t.wide) := X45.out.cell 0
  have q49 : v43.cell? ⟨w.heap.size, 1, none⟩ = some (.slice A nl c) := X45.out.cell 1
  have q50 : v43.cell? ⟨w.heap.size + 1, 0, none⟩ = some (.slice none 0 0) := X46.out.cell 0
  have q51 : v43.cell? ⟨w.heap.size + 1, 1, none⟩ = some (.slice none 0 0) := X46.out.cell 1
  have fz52 : ∀ o, v43.frozen? ⟨w.heap.size + 1, o, none⟩ = false := fun o => X46.out.free o
  clear q48 q49 q50 q51 fz52
  have q53 : v43.cell? ⟨w.heap.size, 0, none⟩ = some (.int .i64 t.wide) := X45.out.cell 0
  have q54 : v43.cell? ⟨w.heap.size, 1, none⟩ = some (.slice A nl c) := X45.out.cell 1
  have q55 : v43.cell? ⟨w.heap.size + 1, 0, none⟩ = some (.slice none 0 0) := X46.out.cell 0
  have q56 : v43.cell? ⟨w.heap.size + 1, 1, none⟩ = some (.slice none 0 0) := X46.out.cell 1
  have fz57 : ∀ o, v43.frozen? ⟨w.heap.size + 1, o, none⟩ = false := fun o => X46.out.free o
  have HS12 := Lib.hid (show v33.heap.size ≤ v43.heap.size from HS12a.out)
  have hto := edgesOf_to t (tW t) (tM t) AR.out.2.2.2.1 AR.out.2.2.1
  have hse := Lib.hid (settle_c v43 g gl gb (tM t + 1) v33.heap.size lv (edgesOf t (tW t) (tM t)) HG.out hto (edgesOf_more t _ _ AR.out.2.2.2.2.2.2.2) (lf0_noted t _ _ AR.out.2.2.2.1) (by have := AR.out.2.2.2.1; rw [edgesOf_len]; omega) (by have := AR.out.2.2.2.2.2.1; have := AR.out.2.2.1; rw [edgesOf_len]; omega) (by omega) (by have := AR.out.2.2.2.2.2.1; have := AR.out.2.2.1; omega) HGN.out.1 HGN.out.2.1 HS12.out)
  have HTO := Lib.hid hto
  clear hto
  go_wp2_with fail
  refine hse.out.mono ?_; rintro e w3 ⟨hb3, hor⟩
  have Z0 := Lib.hid (show Box w3 (w.heap.size) 24 #[.int .i64 t.wide, .slice A nl c] from Box.below (w := v43) X45.out hb3 X35.out.lt)
  have Z1 := Lib.hid (show Box w3 (w.heap.size + 1) 35 #[.slice none 0 0, .slice none 0 0] from Box.below (w := v43) X46.out hb3 X36.out.lt)
  have ZB := Lib.hid (B47.out.trans (hb3.mono B37.out.size))
  clear hb3
  clear q53 q54 q55 q56 fz57
  have q58 : w3.cell? ⟨w.heap.size, 0, none⟩ = some (.int .i64 t.wide) := Z0.out.cell 0
  have q59 : w3.cell? ⟨w.heap.size, 1, none⟩ = some (.slice A nl c) := Z0.out.cell 1
  have q60 : w3.cell? ⟨w.heap.size + 1, 0, none⟩ = some (.slice none 0 0) := Z1.out.cell 0
  have q61 : w3.cell? ⟨w.heap.size + 1, 1, none⟩ = some (.slice none 0 0) := Z1.out.cell 1
  have fz62 : ∀ o, w3.frozen? ⟨w.heap.size + 1, o, none⟩ = false := fun o => Z1.out.free o
  rcases hor with ⟨r, hq, rfl, hg3⟩ | ⟨hne, v0, hv0, hlast, rfl, hvr, hg3⟩
  · have hf : feasB t = true := feasB_iff.2 (quiet_feas (show (lf0 (tM t + 1)).L = List.replicate (tM t + 1) 0 from rfl) hq)
    have HF := Lib.hid hf
    clear hf hq hg3
    go_wp2_with fail
    have hbb := ((ZB.out.setCell (p := ⟨w.heap.size + 1, 0, none⟩) (Nat.le_succ _) (.slice none 0 0)).setCell (p := ⟨w.heap.size + 1, 1, none⟩) (Nat.le_succ _) (.slice none 0 0))
    refine bodyPost_ret (v := .tuple #[.agg #[.slice none 0 0, .slice none 0 0], .int .i64 3]) (by simp [results, Try.results18, go_sem, *]) rfl ?_
    exact NeverPost.no hbb (by unfold nvE; rw [HTB.out, HF.out]; rfl) (by decide)
  have hf : feasB t = false := by
    cases hfb : feasB t
    · rfl
    · exact absurd (feas_quiet (feasB_iff.1 hfb) HTO.out (show (lf0 (tM t + 1)).L = List.replicate (tM t + 1) 0 from rfl) (by omega)) hne
  have HF := Lib.hid hf
  obtain ⟨J, j1, j2, j3, j4, j5, j6, j7, j8⟩ := never_ok HTB.out rfl hlast
  have HG3 := Lib.hid (show Gb w3 g gl gb (tM t + 1) lv (edT t) (rounds (edT t) (lf0 (tM t + 1)) (tM t + 1)).L (rounds (edT t) (lf0 (tM t + 1)) (tM t + 1)).B from hg3)
  have e9 : wbs (edgesOf t (tW t) (tM t)) (rounds (edgesOf t (tW t) (tM t)) (lf0 (tM t + 1)) (tM t + 1)).B v0 (tM t + 1) = wbs (edT t) (rounds (edT t) (lf0 (tM t + 1)) (tM t + 1)).B v0 (tM t + 1) := rfl
  rw [e9]
  obtain ⟨a9, ha9⟩ : ∃ z, wbs (edT t) (rounds (edT t) (lf0 (tM t + 1)) (tM t + 1)).B v0 (tM t + 1) = z := ⟨_, rfl⟩
  rw [ha9] at j3 j4 j5 j6 j7 j8 ⊢
  obtain ⟨B9, hB9⟩ : ∃ z, (rounds (edT t) (lf0 (tM t + 1)) (tM t + 1)).B = z := ⟨_, rfl⟩
  rw [hB9] at j3 j4 j5 j6 j7 j8 HG3
  have kp := Lib.hid (pay_c t g gl gb lv _ B9 a9 a9 J w3 HTB.out HG3.out j1 (by have := AR.out.2.2.1; have := AR.out.2.2.2.2.2.1; omega) j3 j4 (ring_inj j3 j4) j5)
  have HPO := Lib.hid (⟨j6, j7, j8⟩ : _ ∧ _ ∧ _)
  rw [HNL.out] at kp
  have hz : ((a9 : Int) == -1) = false := by rw [beq_eq_false_iff_ne]; omega
  clear hf hne hv0 hlast hvr hg3 j1 j2 j3 j4 j5 j6 j7 j8 e9 ha9 hB9 hse
  go_wp2_with fail
  refine kp.out.mono ?_; rintro e w4 ⟨xv, rfl, hxp, hb4⟩
  obtain ⟨pl, hpl⟩ : ∃ z, (payTo (edT t) B9 nl a9 J).1 = z := ⟨_, rfl⟩
  obtain ⟨ph, hph⟩ : ∃ z, (payTo (edT t) B9 nl a9 J).2 = z := ⟨_, rfl⟩
  have HPL := Lib.hid hpl
  have HPH := Lib.hid hph
  rw [hpl, hph] at hxp
  obtain ⟨s1, s2, rfl, hi1, hi2⟩ := hxp
  have HI1 := Lib.hid hi1
  have HI2 := Lib.hid hi2
  obtain ⟨-, A1, c1, rfl, -, -⟩ := hi1
  obtain ⟨-, A2, c2, rfl, -, -⟩ := hi2
  obtain ⟨n1, hn1⟩ : ∃ z, pl.length = z := ⟨_, rfl⟩
  obtain ⟨n2, hn2⟩ : ∃ z, ph.length = z := ⟨_, rfl⟩
  rw [hn1] at HI1 ⊢
  rw [hn2] at HI2 ⊢
  clear hpl hph hn1 hn2
  have U1 := Lib.hid (Z1.out.later hb4)
  have UB := Lib.hid (ZB.out.trans (hb4.mono ZB.out.size))
  clear hb4 q58 q59 q60 q61 fz62
  have q63 : w4.cell? ⟨w.heap.size + 1, 0, none⟩ = some (.slice none 0 0) := U1.out.cell 0
  have q64 : w4.cell? ⟨w.heap.size + 1, 1, none⟩ = some (.slice none 0 0) := U1.out.cell 1
  have fz65 : ∀ o, w4.frozen? ⟨w.heap.size + 1, o, none⟩ = false := fun o => U1.out.free o
  go_wp2_with fail
  refine bodyPost_ret (v := .tuple #[.agg #[.slice A1 n1 c1, .slice A2 n2 c2], .int .i64 0]) (by simp [results, Try.results18, go_sem, *]) rfl ?_
  have hbx := U1.out
  have hsz : ((w4.setCell ⟨w.heap.size + 1, 0, none⟩ (.slice A1 n1 c1)).setCell ⟨w.heap.size + 1, 1, none⟩ (.slice A2 n2 c2)).heap.size = w4.heap.size := by rw [World.size_setCell, World.size_setCell]
  have i1 := Ints.farBox (i := 1) (u := .slice A2 n2 c2) (Ints.farBox (i := 0) (u := .slice A1 n1 c1) HI1.out hbx (by intro z h; cases h) (by intro z h; cases h)) (hbx.put 0 _) (by intro z h; cases h) (by intro z h; cases h)
  have i2 := Ints.farBox (i := 1) (u := .slice A2 n2 c2) (Ints.farBox (i := 0) (u := .slice A1 n1 c1) HI2.out hbx (by intro z h; cases h) (by intro z h; cases h)) (hbx.put 0 _) (by intro z h; cases h) (by intro z h; cases h)
  have hpo := HPO.out
  rw [HNL.out, HPL.out, HPH.out, ← HNL.out] at hpo
  have hnv : nvE t = 0 := by unfold nvE; rw [HTB.out, HF.out]; rfl
  refine ⟨_, pl, ph, by rw [hnv], ⟨_, _, rfl, by rw [hsz]; exact i1, by rw [hsz]; exact i2⟩, fun _ => ?_, fun h => absurd hnv h, (UB.out.setCell (p := ⟨w.heap.size + 1, 0, none⟩) (Nat.le_succ _) (.slice A1 n1 c1)).setCell (p := ⟨w.heap.size + 1, 1, none⟩) (Nat.le_succ _) (.slice A2 n2 c2)⟩
  unfold cnE; rw [if_pos HTB.out, if_pos hpo]

end Go.Proofs.Ytfafjojoapcliaa

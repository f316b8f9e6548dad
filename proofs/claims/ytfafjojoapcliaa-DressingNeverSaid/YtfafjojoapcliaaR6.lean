/- The fewest strokes, and the first plan that has them: the program's side. -/
import Derived.Test.YtfafjojoapcliaaR5
import Derived.Test.YtfafjojoapcliaaQ5
namespace Go.Proofs.Ytfafjojoapcliaa
open Go.RowKit

def tW (t : Tk) : Nat := t.wide.toNat
def tM (t : Tk) : Nat := (firsts t).toNat
def edT (t : Tk) : List Eg := edgesOf t (tW t) (tM t)
/-- some plan does the task -/
noncomputable def feasB (t : Tk) : Bool := @decide (Feas (edT t) (tM t + 1)) (Classical.propDecidable _)
theorem feasB_iff {t : Tk} : feasB t = true ↔ Feas (edT t) (tM t + 1) := by unfold feasB; simp
/-- the least numbers of strokes ahead of each first cell -/
def lsT (t : Tk) : List Int := leastL (edT t) (tM t + 1)
noncomputable def stE (t : Tk) : Int := if taskB t = true then (if feasB t = true then 0 else 51) else 50
theorem task_parts {t : Tk} (h : taskB t = true) : t.wide = (tW t : Int) ∧ firsts t = (tM t : Int) ∧ tM t + tW t = t.need.length + 1 ∧ 1 ≤ tM t ∧ 1 ≤ tW t ∧ t.need.length ≤ 400 ∧ szB t = true ∧ t.need.all okP = true := by
  obtain ⟨W, m, h1, h2, h3, h4, h5, h6⟩ := firsts_nat (taskB_sz h)
  have e1 : tW t = W := by unfold tW; omega
  have e2 : tM t = m := by unfold tM; omega
  rw [e1, e2]
  refine ⟨h1, h2, h4, h5, h3, h6, taskB_sz h, ?_⟩
  unfold taskB at h
  simp only [Bool.and_eq_true] at h
  exact h.2
theorem firstCells_m (t : Tk) (v : Value) (w : World) (h : IsTask w w.heap.size v t) (ht : taskB t = true) :
    Calls Try.prog 31 #[v] w fun e w' => e = .returned (.int .i64 (tM t : Int)) ∧ Below w.heap.size w w' := by
  have c := firstCells_c t v w h (task_parts ht).2.2.2.2.2.2.1
  rwa [(task_parts ht).2.1] at c

set_option maxRecDepth 100000 in
set_option maxHeartbeats 8000000 in
theorem possible_bad (t : Tk) (v : Value) (w : World) (h : IsTask w w.heap.size v t) (ht : taskB t = false) :
    Calls Try.prog 30 #[v] w fun e w' => e = .returned (.tuple #[.pointer none, .int .i64 50]) ∧ Below w.heap.size w w' := by
  have HT := Lib.hid h
  obtain ⟨s, rfl, A, c, rfl, hcap, hcell⟩ := h
  have H5 := Lib.hid (show tkE t = 50 by unfold tkE; rw [ht]; rfl)
  clear hcap hcell ht
  go_enter Try.func30, Try.ntmps30
  go_wp2_with fail
  refine (Check_c t _ _ (HT.out.box _)).mono ?_; rintro e w1 ⟨rfl, hb1⟩
  rw [H5.out]
  go_wp2_with fail
  go_ret2
  exact ⟨rfl, boxed hb1⟩

set_option maxRecDepth 100000 in
set_option maxHeartbeats 8000000 in
theorem possible_c (t : Tk) (v : Value) (w : World) (h : IsTask w w.heap.size v t) (ht : taskB t = true) :
    Calls Try.prog 30 #[v] w fun e w' => Below w.heap.size w w' ∧
      ((feasB t = false ∧ e = .returned (.tuple #[.pointer none, .int .i64 51])) ∨
       (feasB t = true ∧ ∃ g gl gb lv B, e = .returned (.tuple #[.pointer (some ⟨g, 0, none⟩), .int .i64 0]) ∧ Gb w' g gl gb (tM t + 1) lv (edT t) (lsT t) B)) := by
  have HT := Lib.hid h
  obtain ⟨s, rfl, A, c, rfl, hcap, hcell⟩ := h
  have HB := Lib.hid (Box.made w 24 #[.int .i64 t.wide, .slice A t.need.length c])
  have H0 := Lib.hid (show tkE t = 0 by unfold tkE; rw [ht]; rfl)
  have AR := Lib.hid (task_parts ht)
  clear hcap hcell ht
  go_enter Try.func30, Try.ntmps30
  go_wp2_with fail
  refine (Check_c t _ _ (HT.out.box _)).mono ?_; rintro e w1 ⟨rfl, hb1⟩
  rw [H0.out]
  have H1 := Lib.hid (show Below w.heap.size w w1 ∧ Box w1 w.heap.size 24 #[.int .i64 t.wide, .slice A t.need.length c] from ⟨boxed hb1, HB.out.later hb1⟩)
  have k0 : w1.cell? ⟨w.heap.size, 0, none⟩ = some (.int .i64 t.wide) := H1.out.2.cell 0
  have k1 : w1.cell? ⟨w.heap.size, 1, none⟩ = some (.slice A t.need.length c) := H1.out.2.cell 1
  clear hb1
  go_wp2_with fail
  clear k0 k1
  obtain ⟨a1, a2, a3, a4, a5, a6, a7, a8⟩ := AR.out
  have hgo := graphOf_c t (.agg #[.int .i64 t.wide, .slice A t.need.length c]) w1 (tW t) (tM t) (HT.out.mono H1.out.1 H1.out.1.size) a7 a8 a1 a2 a3 a4 a5 a6
  clear a1 a2 a3 a4 a5 a6 a7 a8
  refine hgo.mono ?_; rintro e w2 ⟨g, gl, gb, lv, rfl, hg2, hgl, hgb, hgg, hb2⟩
  clear hgo
  have H2 := Lib.hid (⟨hg2, hgl, hgb, H1.out.1.trans (hb2.mono H1.out.1.size)⟩ : Gb w2 g gl gb (tM t + 1) lv (edgesOf t (tW t) (tM t)) (lf0 (tM t + 1)).L (lf0 (tM t + 1)).B ∧ w1.heap.size ≤ gl ∧ w1.heap.size ≤ gb ∧ Below w.heap.size w w2)
  clear hg2 hgl hgb hgg hb2
  go_wp2_with fail
  obtain ⟨a1, a2, a3, a4, a5, a6, a7, a8⟩ := AR.out
  have hto := edgesOf_to t (tW t) (tM t) a4 a3
  have HTO := Lib.hid hto
  have hse := settle_c w2 g gl gb (tM t + 1) w.heap.size lv (edgesOf t (tW t) (tM t)) H2.out.1 hto (edgesOf_more t _ _ a8) (lf0_noted t _ _ a4) (by rw [edgesOf_len]; omega) (by rw [edgesOf_len]; omega) (by omega) (by omega)
    (by have := H2.out.2.1; have := H1.out.1.size; omega) (by have := H2.out.2.2.1; have := H1.out.1.size; omega) H2.out.2.2.2.size
  clear a1 a2 a3 a4 a5 a6 a7 a8 hto
  refine hse.mono ?_; rintro e w3 ⟨hb3, hor⟩
  clear hse
  have HB3 := Lib.hid (H2.out.2.2.2.trans hb3)
  clear hb3
  rcases hor with ⟨r, hq, rfl, hg3⟩ | ⟨hne, v0, hv0, hlast, rfl, hvr, hg3⟩
  · have hf : feasB t = true := feasB_iff.2 (quiet_feas (show (lf0 (tM t + 1)).L = List.replicate (tM t + 1) 0 from rfl) hq)
    have hle := quiet_least HTO.out (show (lf0 (tM t + 1)).L = List.replicate (tM t + 1) 0 from rfl) (by omega) hq
    have HF := Lib.hid (show feasB t = true ∧ ∃ B, Gb w3 g gl gb (tM t + 1) lv (edT t) (lsT t) B from ⟨hf, _, by unfold lsT edT; rw [← hle]; exact hg3⟩)
    clear hf hle hq hg3
    go_wp2_with fail
    go_ret2
    obtain ⟨h1, B, h2⟩ := HF.out
    exact ⟨HB3.out, .inr ⟨h1, g, gl, gb, lv, B, rfl, h2⟩⟩
  · have hf : feasB t = false := by
      cases hfb : feasB t
      · rfl
      · exact absurd (feas_quiet (feasB_iff.1 hfb) HTO.out (show (lf0 (tM t + 1)).L = List.replicate (tM t + 1) 0 from rfl) (by omega)) hne
    have HF := Lib.hid hf
    have hz : (((wbs (edgesOf t (tW t) (tM t)) (rounds (edgesOf t (tW t) (tM t)) (lf0 (tM t + 1)) (tM t + 1)).B v0 (tM t + 1) : Nat) : Int) != -1) = true := by first | (simp; done) | (simp; omega)
    clear hf hne hv0 hlast hvr hg3
    go_wp2_with fail
    go_ret2
    exact ⟨HB3.out, .inl ⟨HF.out, rfl⟩⟩

noncomputable def fwV (t : Tk) : Int := if stE t = 0 then nth (lsT t) (tM t) else 0

set_option maxRecDepth 100000 in
set_option maxHeartbeats 8000000 in
theorem Fewest_c (t : Tk) (v : Value) (w : World) (h : IsTask w w.heap.size v t) : Calls Try.prog 10 #[v] w (Ret2 w (fwV t) (stE t)) := by
  have HT := Lib.hid h
  obtain ⟨s, rfl, A, c, rfl, hcap, hcell⟩ := h
  have HB := Lib.hid (Box.made w 24 #[.int .i64 t.wide, .slice A t.need.length c])
  clear hcap hcell
  cases ht : taskB t
  · have e1 : stE t = 50 := by unfold stE; rw [ht]; rfl
    have e2 : fwV t = 0 := by unfold fwV; rw [e1]; rfl
    rw [e1, e2]
    have HTB := Lib.hid ht
    clear e1 e2 ht
    go_enter Try.func10, Try.ntmps10
    go_wp2_with fail
    refine (possible_bad t _ _ (HT.out.box _) HTB.out).mono ?_; rintro e w1 ⟨rfl, hb1⟩
    go_wp2_with fail
    go_ret2
    exact ⟨rfl, boxed hb1⟩
  have HTB := Lib.hid ht
  clear ht
  go_enter Try.func10, Try.ntmps10
  go_wp2_with fail
  refine (possible_c t _ _ (HT.out.box _) HTB.out).mono ?_; rintro e w1 ⟨hb1, hor⟩
  have H1 := Lib.hid (show Below w.heap.size w w1 ∧ Box w1 w.heap.size 24 #[.int .i64 t.wide, .slice A t.need.length c] from ⟨boxed hb1, HB.out.later hb1⟩)
  clear hb1
  rcases hor with ⟨hf, rfl⟩ | ⟨hf, g, gl, gb, lv, B, rfl, hg⟩
  · have e1 : stE t = 51 := by unfold stE; rw [HTB.out, hf]; rfl
    have e2 : fwV t = 0 := by unfold fwV; rw [e1]; rfl
    have HE := Lib.hid (And.intro e1 e2)
    clear e1 e2 hf
    go_wp2_with fail
    go_ret2
    exact ⟨by rw [HE.out.1, HE.out.2]; rfl, H1.out.1⟩
  · have e1 : stE t = 0 := by unfold stE; rw [HTB.out, hf]; rfl
    have e2 : fwV t = nth (lsT t) (tM t) := by unfold fwV; rw [e1]; rfl
    have HE := Lib.hid (And.intro e1 e2)
    have q1 : w1.cell? ⟨g, 1, none⟩ = some (.slice (some ⟨gl, 0, none⟩) (tM t + 1) (tM t + 1)) := hg.b0.cell 1
    have q2 : w1.cell? ⟨w.heap.size, 0, none⟩ = some (.int .i64 t.wide) := H1.out.2.cell 0
    have q3 : w1.cell? ⟨w.heap.size, 1, none⟩ = some (.slice A t.need.length c) := H1.out.2.cell 1
    have q4 : w1.cell? ⟨gl, tM t, none⟩ = some (.int .i64 (nth (lsT t) (tM t))) := hg.rl.cell (by rw [hg.lenL]; omega)
    have i0 : (0 : Int) ≤ (tM t : Int) := by omega
    have i1 : (tM t : Int) < (tM t : Int) + 1 := by omega
    have l1 := hg.gsize
    have l2 := hg.rl.lt
    have l3 := H1.out.2.lt
    have HT2 := Lib.hid (show IsTask w1.drew w1.drew.heap.size (.agg #[.int .i64 t.wide, .slice A t.need.length c]) t from HT.out.mono H1.out.1.drew H1.out.1.drew.size)
    clear hf hg e1 e2
    generalize nth (lsT t) (tM t) = z at *
    go_wp2_with fail
    go_region_held3 (fun W => W.cell? ⟨g, 1, none⟩ = some (.slice (some ⟨gl, 0, none⟩) (tM t + 1) (tM t + 1)) ∧ W.cell? ⟨(w.heap.size), 0, none⟩ = some (.int .i64 t.wide) ∧ W.cell? ⟨(w.heap.size), 1, none⟩ = some (.slice A t.need.length c) ∧ W.cell? ⟨gl, (tM t), none⟩ = some (.int .i64 z) ∧ Below w1.heap.size w1 W ∧ w1.heap.size ≤ W.heap.size) (first | assumption | (refine ⟨?_, ?_, ?_, ?_, (Below.refl _ _).drew, by first | (simp; done) | (simp; omega) | omega⟩ <;> go_keep) | (obtain ⟨x0, x1, x2, x3, xb, xs⟩ := ‹_ ∧ _›; first | exact ⟨keepd x0 (Below.alloc (Below.refl (w1.heap.size) _) xs _) (by omega), keepd x1 (Below.alloc (Below.refl (w1.heap.size) _) xs _) (by omega), keepd x2 (Below.alloc (Below.refl (w1.heap.size) _) xs _) (by omega), keepd x3 (Below.alloc (Below.refl (w1.heap.size) _) xs _) (by omega), Below.trans xb (Below.mono (Below.alloc (Below.refl (w1.heap.size) _) xs _) (by omega)), Nat.le_trans xs (Below.size (Below.alloc (Below.refl (w1.heap.size) _) xs _))⟩ | exact ⟨keepd x0 (Below.mono (B' := w1.heap.size) (by assumption) xs) (by omega), keepd x1 (Below.mono (B' := w1.heap.size) (by assumption) xs) (by omega), keepd x2 (Below.mono (B' := w1.heap.size) (by assumption) xs) (by omega), keepd x3 (Below.mono (B' := w1.heap.size) (by assumption) xs) (by omega), Below.trans xb (Below.mono (Below.mono (B' := w1.heap.size) (by assumption) xs) (by omega)), Nat.le_trans xs (Below.size (Below.mono (B' := w1.heap.size) (by assumption) xs))⟩ | exact ⟨keepd x0 (hgst) (by omega), keepd x1 (hgst) (by omega), keepd x2 (hgst) (by omega), keepd x3 (hgst) (by omega), Below.trans xb (Below.mono (hgst) (by omega)), Nat.le_trans xs (Below.size (hgst))⟩ | exact ⟨keepd x0 (Below.setCell (Below.refl (w1.heap.size) _) (by first | (simp; done) | (simp; omega)) _) (by omega), keepd x1 (Below.setCell (Below.refl (w1.heap.size) _) (by first | (simp; done) | (simp; omega)) _) (by omega), keepd x2 (Below.setCell (Below.refl (w1.heap.size) _) (by first | (simp; done) | (simp; omega)) _) (by omega), keepd x3 (Below.setCell (Below.refl (w1.heap.size) _) (by first | (simp; done) | (simp; omega)) _) (by omega), Below.trans xb (Below.mono (Below.setCell (Below.refl (w1.heap.size) _) (by first | (simp; done) | (simp; omega)) _) (by omega)), Nat.le_trans xs (Below.size (Below.setCell (Below.refl (w1.heap.size) _) (by first | (simp; done) | (simp; omega)) _))⟩ | exact ⟨keepd x0 (Below.setCell (Below.setCell (Below.setCell (Below.setCell (Below.refl (w1.heap.size) _) (by first | (simp; done) | (simp; omega)) _) (by first | (simp; done) | (simp; omega)) _) (by first | (simp; done) | (simp; omega)) _) (by first | (simp; done) | (simp; omega)) _) (by omega), keepd x1 (Below.setCell (Below.setCell (Below.setCell (Below.setCell (Below.refl (w1.heap.size) _) (by first | (simp; done) | (simp; omega)) _) (by first | (simp; done) | (simp; omega)) _) (by first | (simp; done) | (simp; omega)) _) (by first | (simp; done) | (simp; omega)) _) (by omega), keepd x2 (Below.setCell (Below.setCell (Below.setCell (Below.setCell (Below.refl (w1.heap.size) _) (by first | (simp; done) | (simp; omega)) _) (by first | (simp; done) | (simp; omega)) _) (by first | (simp; done) | (simp; omega)) _) (by first | (simp; done) | (simp; omega)) _) (by omega), keepd x3 (Below.setCell (Below.setCell (Below.setCell (Below.setCell (Below.refl (w1.heap.size) _) (by first | (simp; done) | (simp; omega)) _) (by first | (simp; done) | (simp; omega)) _) (by first | (simp; done) | (simp; omega)) _) (by first | (simp; done) | (simp; omega)) _) (by omega), Below.trans xb (Below.mono (Below.setCell (Below.setCell (Below.setCell (Below.setCell (Below.refl (w1.heap.size) _) (by first | (simp; done) | (simp; omega)) _) (by first | (simp; done) | (simp; omega)) _) (by first | (simp; done) | (simp; omega)) _) (by first | (simp; done) | (simp; omega)) _) (by omega)), Nat.le_trans xs (Below.size (Below.setCell (Below.setCell (Below.setCell (Below.setCell (Below.refl (w1.heap.size) _) (by first | (simp; done) | (simp; omega)) _) (by first | (simp; done) | (simp; omega)) _) (by first | (simp; done) | (simp; omega)) _) (by first | (simp; done) | (simp; omega)) _))⟩)) (first | (go_at_call 31; refine (firstCells_m t _ _ HT2.out HTB.out).mono ?_; rintro e w2 ⟨rfl, hbq⟩))
    all_goals
      obtain ⟨-, -, -, -, xb, -⟩ := ‹_ ∧ _›
      have HX := Lib.hid (H1.out.1.trans (xb.mono H1.out.1.size))
      clear xb
      go_wp2_with fail
      go_ret2
      exact ⟨by rw [HE.out.1, HE.out.2]; rfl, HX.out⟩

end Go.Proofs.Ytfafjojoapcliaa

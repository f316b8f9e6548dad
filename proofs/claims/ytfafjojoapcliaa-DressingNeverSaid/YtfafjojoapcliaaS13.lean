/- Prices are paid back along a chain: the walk. -/
import Derived.Test.YtfafjojoapcliaaS12
namespace Go.Proofs.Ytfafjojoapcliaa
open Go.RowKit

open Classical in
noncomputable def posOf (f : Nat → Nat) (J a : Nat) : Nat := if h : ∃ k, k < J ∧ f k = a then h.choose else 0
theorem posOf_at {f : Nat → Nat} {J j : Nat} (hj : j < J) (hi : ∀ a b, a < b → b < J → f a ≠ f b) : posOf f J (f j) = j := by
  unfold posOf
  have h : ∃ k, k < J ∧ f k = f j := ⟨j, hj, rfl⟩
  rw [dif_pos h]
  obtain ⟨h1, h2⟩ := h.choose_spec
  by_cases e : h.choose < j
  · exact absurd h2 (hi _ _ e hj)
  · by_cases e2 : j < h.choose
    · exact absurd h2.symm (hi _ _ e2 h1)
    · omega
theorem Pb.later {W W' : World} {xb g1 g2 n : Nat} {l h : List Int} (hp : Pb W xb g1 g2 n l h) (hb : Below W.heap.size W W') : Pb W' xb g1 g2 n l h := ⟨hp.box.later hb, hp.r1.later hb, hp.r2.later hb, hp.l1, hp.l2, hp.d1, hp.d2, hp.d3⟩
theorem Pb.setL {W : World} {xb g1 g2 n : Nat} {l h : List Int} (hp : Pb W xb g1 g2 n l h) (k : Nat) (x : Int) : Pb (W.setCell ⟨g1, k, none⟩ (.int .i64 x)) xb g1 g2 n (l.set k x) h :=
  ⟨hp.box.far (by show xb ≠ g1; exact hp.d1) _, hp.r1.put k x, Box.far (w := W) (t := 3) hp.r2 (by show g2 ≠ g1; exact fun e => hp.d3 e.symm) _, by rw [List.length_set]; exact hp.l1, hp.l2, hp.d1, hp.d2, hp.d3⟩
theorem Pb.setH {W : World} {xb g1 g2 n : Nat} {l h : List Int} (hp : Pb W xb g1 g2 n l h) (k : Nat) (x : Int) : Pb (W.setCell ⟨g2, k, none⟩ (.int .i64 x)) xb g1 g2 n l (h.set k x) :=
  ⟨hp.box.far (by show xb ≠ g2; exact hp.d2) _, Box.far (w := W) (t := 3) hp.r1 (by show g1 ≠ g2; exact hp.d3) _, hp.r2.put k x, hp.l1, by rw [List.length_set]; exact hp.l2, hp.d1, hp.d2, hp.d3⟩

theorem pay_end {w W : World} {xb g1 g2 n : Nat} {l h : List Int} (hp : Pb W xb g1 g2 n l h) (hb : Below w.heap.size w W) (h1 : w.heap.size ≠ g1) (h2 : w.heap.size ≠ g2) (hn : n ≤ 400) (u0 u1 : Value) :
    IsPrices ((W.setCell ⟨w.heap.size, 0, none⟩ u0).setCell ⟨w.heap.size, 1, none⟩ u1) ((W.setCell ⟨w.heap.size, 0, none⟩ u0).setCell ⟨w.heap.size, 1, none⟩ u1).heap.size (.agg #[.slice (some ⟨g1, 0, none⟩) n n, .slice (some ⟨g2, 0, none⟩) n n]) l h ∧ Below w.heap.size w ((W.setCell ⟨w.heap.size, 0, none⟩ u0).setCell ⟨w.heap.size, 1, none⟩ u1) := by
  have r1 : Row ((W.setCell ⟨w.heap.size, 0, none⟩ u0).setCell ⟨w.heap.size, 1, none⟩ u1) g1 l := Box.far (t := 3) (Box.far (w := W) (t := 3) hp.r1 (by show g1 ≠ w.heap.size; exact fun e => h1 e.symm) _) (by show g1 ≠ w.heap.size; exact fun e => h1 e.symm) _
  have r2 : Row ((W.setCell ⟨w.heap.size, 0, none⟩ u0).setCell ⟨w.heap.size, 1, none⟩ u1) g2 h := Box.far (t := 3) (Box.far (w := W) (t := 3) hp.r2 (by show g2 ≠ w.heap.size; exact fun e => h2 e.symm) _) (by show g2 ≠ w.heap.size; exact fun e => h2 e.symm) _
  have i1 := r1.ints_ (c := n) (Nat.le_refl _) (by rw [hp.l1]; omega) (by rw [hp.l1]; omega)
  have i2 := r2.ints_ (c := n) (Nat.le_refl _) (by rw [hp.l2]; omega) (by rw [hp.l2]; omega)
  rw [hp.l1] at i1
  rw [hp.l2] at i2
  exact ⟨⟨_, _, rfl, i1, i2⟩, (hb.setCell (Nat.le_refl _) _).setCell (Nat.le_refl _) _⟩

set_option maxRecDepth 100000 in
set_option maxHeartbeats 16000000 in
theorem pay_c (t : Tk) (g gl gb : Nat) (lv : Value) (L B : List Int) (v to J : Nat) (w : World) (htb : taskB t = true) (hg : Gb w g gl gb (tM t + 1) lv (edT t) L B) (hJ : 1 ≤ J) (hJ2 : J ≤ 1000) (hto : wbs (edT t) B v J = to) (hne : ∀ k, 1 ≤ k → k < J → wbs (edT t) B v k ≠ to)
    (hin : ∀ a b, a < b → b < J → wbs (edT t) B v a ≠ wbs (edT t) B v b)
    (hch : ∀ k, k < J → ∃ i, i < (edT t).length ∧ nth B (wbs (edT t) B v k) = (i : Int) ∧ (egAt (edT t) i).to = wbs (edT t) B v k ∧ (egAt (edT t) i).fr < tM t + 1 ∧ wbs (edT t) B v k < tM t + 1) :
    Calls Try.prog 40 #[.int .i64 (t.need.length : Int), .func (.func 41) #[.pointer (some ⟨g, 0, none⟩)] #[], .int .i64 (v : Int), .int .i64 (to : Int)] w fun e w' => ∃ xv, e = .returned xv ∧ IsPrices w' w'.heap.size xv (payTo (edT t) B t.need.length v J).1 (payTo (edT t) B t.need.length v J).2 ∧ Below w.heap.size w w' := by
  have HG := Lib.hid hg
  have HCH := Lib.hid hch
  have HJ := Lib.hid (show 1 ≤ J ∧ J ≤ 1000 ∧ wbs (edT t) B v J = to ∧ t.need.length ≤ 400 from ⟨hJ, hJ2, hto, (task_parts htb).2.2.2.2.2.1⟩)
  have HNE := Lib.hid hne
  have HIN := Lib.hid hin
  have HTB := Lib.hid htb
  clear hg hch hJ hJ2 hto hne hin htb
  go_enter Try.func40, Try.ntmps40
  go_wp2_with fail
  refine pay1_c _ t.need.length (by have := HJ.out; omega) _ _ _ _ _ _ _ _ _ _ _ _ _ _ _ _ _ _ _ _ _ _ _ _ _ _ _ _ _ _ _ _ _ _ _ _ _ _ _ _ _ _ _ _ _ _ _ _ _ _ ?_
  rintro xb g1 g2 _ _ _ _ _ W hp hx1 hx2 hx3 hbW
  have hbx : Box W w.heap.size 35 #[.slice none 0 0, .slice none 0 0] := (Box.made w _ _).later hbW
  have H1 := Lib.hid (show Pb W xb g1 g2 t.need.length (payTo (edT t) B t.need.length v 0).1 (payTo (edT t) B t.need.length v 0).2 ∧ w.heap.size < xb ∧ w.heap.size < g1 ∧ w.heap.size < g2 ∧ Below w.heap.size w W ∧ Box W w.heap.size 35 #[.slice none 0 0, .slice none 0 0] from
    ⟨hp, by simp at hx1; omega, by simp at hx2; omega, by simp at hx3; omega, boxed hbW, hbx⟩)
  clear hp hx1 hx2 hx3 hbW hbx
  go_wp2_with fail
  go_loopw [10] (fun av wr => ∃ j : Nat, j < J ∧ av = .int .i64 ((wbs (edT t) B v j : Nat) : Int) ∧ Pb wr xb g1 g2 t.need.length (payTo (edT t) B t.need.length v j).1 (payTo (edT t) B t.need.length v j).2 ∧ Below w.heap.size w wr ∧ Box wr w.heap.size 35 #[.slice none 0 0, .slice none 0 0]) (fun av _ => J - posOf (wbs (edT t) B v) J (intOf av).toNat)
  case atStart => exact ⟨0, by have := HJ.out; omega, rfl, H1.out.1, H1.out.2.2.2.2.1, H1.out.2.2.2.2.2⟩
  case round =>
    obtain ⟨j, hj, rfl, hp, hbr, hbx⟩ := hrel
    have HR := Lib.hid (⟨hj, hp, hbr, hbx⟩ : j < J ∧ Pb wr xb g1 g2 t.need.length (payTo (edT t) B t.need.length v j).1 (payTo (edT t) B t.need.length v j).2 ∧ Below w.heap.size w wr ∧ Box wr w.heap.size 35 #[.slice none 0 0, .slice none 0 0])
    obtain ⟨i, hi, hBi, hit, hfr, hvn⟩ := HCH.out j hj
    have HE := Lib.hid (show i < (edT t).length ∧ nth B (wbs (edT t) B v j) = (i : Int) ∧ (egAt (edT t) i).to = wbs (edT t) B v j ∧ (egAt (edT t) i).fr < tM t + 1 ∧ wbs (edT t) B v j < tM t + 1 from ⟨hi, hBi, hit, hfr, hvn⟩)
    have HBD := Lib.hid (payTo_ok (B := B) (v := v) HTB.out j (fun k hk => by obtain ⟨i, i1, i2, i3, -, -⟩ := HCH.out k (by omega); exact ⟨i, i1, i2, i3⟩))
    have hg := HG.out.later hbr
    clear hj hp hbr hbx hi hBi hit hfr hvn
    go_wp2_with fail
    refine (last_c wr g gl gb (tM t + 1) lv (edT t) L B _ i hg HE.out.2.2.2.2 HE.out.1 HE.out.2.1).mono ?_; rintro e w2 ⟨rfl, hb2⟩
    clear hg
    have HNX := Lib.hid (show wbs (edT t) B v (j + 1) = (egAt (edT t) i).fr by
      show wb (edT t) B (wbs (edT t) B v j) = _
      unfold wb; rw [HE.out.2.1]; rfl)
    have HPT := Lib.hid (show payTo (edT t) B t.need.length v (j + 1) = paidE (egAt (edT t) i) (payTo (edT t) B t.need.length v j) by
      show paidE (ntE (edT t) B (wbs (edT t) B v j)) _ = _
      unfold ntE; rw [HE.out.2.1]; rfl)
    have H2 := Lib.hid (show Pb w2 xb g1 g2 t.need.length (payTo (edT t) B t.need.length v j).1 (payTo (edT t) B t.need.length v j).2 ∧ Below w.heap.size w w2 ∧ Box w2 w.heap.size 35 #[.slice none 0 0, .slice none 0 0] from ⟨HR.out.2.1.later hb2, HR.out.2.2.1.trans (hb2.mono HR.out.2.2.1.size), HR.out.2.2.2.later hb2⟩)
    have HKI := Lib.hid (edT_kinds (t := t) (egAt_mem HE.out.1))
    clear hb2 HE
    generalize egAt (edT t) i = x at *
    generalize hpl : (payTo (edT t) B t.need.length v j).1 = pl at *
    generalize hph : (payTo (edT t) B t.need.length v j).2 = ph at *
    obtain ⟨fr, tt, more, cell, high⟩ := x
    rcases HKI.out with ⟨e1, -, -⟩ | ⟨c, hc, e1, ⟨e2, -, -, -⟩ | ⟨e2, -, -, -⟩⟩
    · dsimp only at e1 HNX
      subst e1
      have HFF := Lib.hid (show Pb (w2.alloc (.cells #[.int .i64 (fr : Int), .int .i64 (tt : Int), .int .i64 more, .int .i64 (-1), .bool high] 101)) xb g1 g2 t.need.length (payTo (edT t) B t.need.length v (j + 1)).1 (payTo (edT t) B t.need.length v (j + 1)).2 ∧ Below w.heap.size w (w2.alloc (.cells #[.int .i64 (fr : Int), .int .i64 (tt : Int), .int .i64 more, .int .i64 (-1), .bool high] 101)) ∧ Box (w2.alloc (.cells #[.int .i64 (fr : Int), .int .i64 (tt : Int), .int .i64 more, .int .i64 (-1), .bool high] 101)) w.heap.size 35 #[.slice none 0 0, .slice none 0 0] by
        rw [HPT.out, show paidE ⟨fr, tt, more, -1, high⟩ (payTo (edT t) B t.need.length v j) = payTo (edT t) B t.need.length v j from rfl, hpl, hph]
        exact ⟨H2.out.1.later ((Below.refl _ _).alloc (Nat.le_refl _) _), H2.out.2.1.alloc H2.out.2.1.size _, H2.out.2.2.alloc _⟩)
      have f1 : ∀ o : Obj, (w2.alloc o).cell? ⟨xb, 0, none⟩ = some (.slice (some ⟨g1, 0, none⟩) t.need.length t.need.length) := fun o => (H2.out.1.box.alloc o).cell 0
      have f2 : ∀ o : Obj, (w2.alloc o).cell? ⟨xb, 1, none⟩ = some (.slice (some ⟨g2, 0, none⟩) t.need.length t.need.length) := fun o => (H2.out.1.box.alloc o).cell 1
      have f3 : ∀ o : Obj, (w2.alloc o).cell? ⟨w.heap.size, 0, none⟩ = some (.slice none 0 0) := fun o => (H2.out.2.2.alloc o).cell 0
      have f4 : ∀ o : Obj, (w2.alloc o).cell? ⟨w.heap.size, 1, none⟩ = some (.slice none 0 0) := fun o => (H2.out.2.2.alloc o).cell 1
      have f5 : ∀ o : Obj, (w2.alloc o).frozen? ⟨w.heap.size, 0, none⟩ = false := fun o => (H2.out.2.2.alloc o).free 0
      have f6 : ∀ o : Obj, (w2.alloc o).frozen? ⟨w.heap.size, 1, none⟩ = false := fun o => (H2.out.2.2.alloc o).free 1
      clear hpl hph
      dsimp only
      by_cases hfin : fr = to
      · have HJ1 := Lib.hid (show J = j + 1 by
          by_cases e : j + 1 < J
          · exact absurd (by rw [HNX.out]; exact hfin) (HNE.out (j + 1) (by omega) e)
          · have := HR.out.1; omega)
        subst hfin
        have z9 : ((fr : Int) == (fr : Int)) = true := by simp
        go_wp2_with fail
        refine bodyPost_ret (v := .agg #[.slice (some ⟨g1, 0, none⟩) t.need.length t.need.length, .slice (some ⟨g2, 0, none⟩) t.need.length t.need.length]) (by simp [results, Try.results40, go_sem, *]) rfl ?_
        refine ⟨_, rfl, ?_⟩
        rw [HJ1.out]
        exact pay_end HFF.out.1 HFF.out.2.1 (by have := H1.out; omega) (by have := H1.out; omega) HJ.out.2.2.2 _ _
      · have HJ1 := Lib.hid (show j + 1 < J by
          by_cases e : j + 1 < J
          · exact e
          · have e2 : J = j + 1 := by have := HR.out.1; omega
            have := HJ.out.2.2.1
            rw [e2, HNX.out] at this
            exact absurd this hfin)
        have z9 : ((fr : Int) == (to : Int)) = false := by simp; omega
        clear hfin
        go_wp2_with fail
        go_roundw
        case rel => exact ⟨j + 1, HJ1.out, by rw [HNX.out], HFF.out.1, HFF.out.2.1, HFF.out.2.2⟩
        case measure =>
          have e1 := posOf_at (f := wbs (edT t) B v) HR.out.1 HIN.out
          have e2 := posOf_at (f := wbs (edT t) B v) HJ1.out HIN.out
          rw [HNX.out] at e2
          have := HR.out.1
          simp [intOf, e1, e2]
          omega
    · dsimp only at e1 e2 HNX
      subst e1 e2
      have b1 := HBD.out.2.2.2.2.1 c
      have HFF := Lib.hid (show Pb ((w2.alloc (.cells #[.int .i64 (fr : Int), .int .i64 (tt : Int), .int .i64 more, .int .i64 (c : Int), .bool false] 101)).setCell ⟨g1, c, none⟩ (.int .i64 (nth pl c + 1))) xb g1 g2 t.need.length (payTo (edT t) B t.need.length v (j + 1)).1 (payTo (edT t) B t.need.length v (j + 1)).2 ∧ Below w.heap.size w ((w2.alloc (.cells #[.int .i64 (fr : Int), .int .i64 (tt : Int), .int .i64 more, .int .i64 (c : Int), .bool false] 101)).setCell ⟨g1, c, none⟩ (.int .i64 (nth pl c + 1))) ∧ Box ((w2.alloc (.cells #[.int .i64 (fr : Int), .int .i64 (tt : Int), .int .i64 more, .int .i64 (c : Int), .bool false] 101)).setCell ⟨g1, c, none⟩ (.int .i64 (nth pl c + 1))) w.heap.size 35 #[.slice none 0 0, .slice none 0 0] by
        rw [HPT.out, show paidE ⟨fr, tt, more, (c : Int), false⟩ (payTo (edT t) B t.need.length v j) = ((payTo (edT t) B t.need.length v j).1.set c (nth (payTo (edT t) B t.need.length v j).1 c + 1), (payTo (edT t) B t.need.length v j).2) from by unfold paidE; rw [if_neg (by show ¬ (c : Int) = -1; omega)]; simp]
        dsimp only
        rw [hpl, hph]
        exact ⟨(H2.out.1.later ((Below.refl _ _).alloc (Nat.le_refl _) _)).setL c _, (H2.out.2.1.alloc H2.out.2.1.size _).setCell (by show w.heap.size ≤ g1; have := H1.out; omega) _, (H2.out.2.2.alloc _).far (by show w.heap.size ≠ g1; have := H1.out; omega) _⟩)
      have f1 : ∀ o : Obj, (w2.alloc o).cell? ⟨xb, 0, none⟩ = some (.slice (some ⟨g1, 0, none⟩) t.need.length t.need.length) := fun o => (H2.out.1.box.alloc o).cell 0
      have f2 : ∀ o : Obj, (w2.alloc o).cell? ⟨xb, 1, none⟩ = some (.slice (some ⟨g2, 0, none⟩) t.need.length t.need.length) := fun o => (H2.out.1.box.alloc o).cell 1
      have f3 : ∀ o : Obj, (w2.alloc o).cell? ⟨w.heap.size, 0, none⟩ = some (.slice none 0 0) := fun o => (H2.out.2.2.alloc o).cell 0
      have f4 : ∀ o : Obj, (w2.alloc o).cell? ⟨w.heap.size, 1, none⟩ = some (.slice none 0 0) := fun o => (H2.out.2.2.alloc o).cell 1
      have f5 : ∀ o : Obj, (w2.alloc o).frozen? ⟨w.heap.size, 0, none⟩ = false := fun o => (H2.out.2.2.alloc o).free 0
      have f6 : ∀ o : Obj, (w2.alloc o).frozen? ⟨w.heap.size, 1, none⟩ = false := fun o => (H2.out.2.2.alloc o).free 1
      have f7 : ∀ o : Obj, (w2.alloc o).cell? ⟨g1, c, none⟩ = some (.int .i64 (nth pl c)) := fun o => Row.cell (Box.alloc (w := w2) (t := 3) H2.out.1.r1 o) (by have := H2.out.1.l1; omega)
      have f8 : ∀ o : Obj, (w2.alloc o).frozen? ⟨g1, c, none⟩ = false := fun o => Row.free (Box.alloc (w := w2) (t := 3) H2.out.1.r1 o) c
      have l1 := H2.out.1.r1.lt
      have n1 : w2.heap.size ≠ g1 := by omega
      have n2 : xb ≠ g1 := H2.out.1.d1
      have n3 : w.heap.size ≠ g1 := by have := H1.out; omega
      have i0 : (0 : Int) ≤ (c : Int) := by omega
      have i1 : (c : Int) < (t.need.length : Int) := by omega
      have z1 : ((c : Int) == -1) = false := by first | (simp; done) | (simp; omega)
      have wv : IntKind.i64.wrap (nth pl c + 1) = nth pl c + 1 := by have := HJ.out; have := HR.out.1; exact wrap_id (by omega) (by omega)
      clear hpl hph hc b1 l1
      dsimp only
      by_cases hfin : fr = to
      · have HJ1 := Lib.hid (show J = j + 1 by
          by_cases e : j + 1 < J
          · exact absurd (by rw [HNX.out]; exact hfin) (HNE.out (j + 1) (by omega) e)
          · have := HR.out.1; omega)
        subst hfin
        have z9 : ((fr : Int) == (fr : Int)) = true := by simp
        go_wp2_with fail
        refine bodyPost_ret (v := .agg #[.slice (some ⟨g1, 0, none⟩) t.need.length t.need.length, .slice (some ⟨g2, 0, none⟩) t.need.length t.need.length]) (by simp [results, Try.results40, go_sem, *]) rfl ?_
        refine ⟨_, rfl, ?_⟩
        rw [HJ1.out]
        exact pay_end HFF.out.1 HFF.out.2.1 (by have := H1.out; omega) (by have := H1.out; omega) HJ.out.2.2.2 _ _
      · have HJ1 := Lib.hid (show j + 1 < J by
          by_cases e : j + 1 < J
          · exact e
          · have e2 : J = j + 1 := by have := HR.out.1; omega
            have := HJ.out.2.2.1
            rw [e2, HNX.out] at this
            exact absurd this hfin)
        have z9 : ((fr : Int) == (to : Int)) = false := by simp; omega
        clear hfin
        go_wp2_with fail
        go_roundw
        case rel => exact ⟨j + 1, HJ1.out, by rw [HNX.out], HFF.out.1, HFF.out.2.1, HFF.out.2.2⟩
        case measure =>
          have e1 := posOf_at (f := wbs (edT t) B v) HR.out.1 HIN.out
          have e2 := posOf_at (f := wbs (edT t) B v) HJ1.out HIN.out
          rw [HNX.out] at e2
          have := HR.out.1
          simp [intOf, e1, e2]
          omega
    · dsimp only at e1 e2 HNX
      subst e1 e2
      have b1 := HBD.out.2.2.2.2.2 c
      have HFF := Lib.hid (show Pb ((w2.alloc (.cells #[.int .i64 (fr : Int), .int .i64 (tt : Int), .int .i64 more, .int .i64 (c : Int), .bool true] 101)).setCell ⟨g2, c, none⟩ (.int .i64 (nth ph c + 1))) xb g1 g2 t.need.length (payTo (edT t) B t.need.length v (j + 1)).1 (payTo (edT t) B t.need.length v (j + 1)).2 ∧ Below w.heap.size w ((w2.alloc (.cells #[.int .i64 (fr : Int), .int .i64 (tt : Int), .int .i64 more, .int .i64 (c : Int), .bool true] 101)).setCell ⟨g2, c, none⟩ (.int .i64 (nth ph c + 1))) ∧ Box ((w2.alloc (.cells #[.int .i64 (fr : Int), .int .i64 (tt : Int), .int .i64 more, .int .i64 (c : Int), .bool true] 101)).setCell ⟨g2, c, none⟩ (.int .i64 (nth ph c + 1))) w.heap.size 35 #[.slice none 0 0, .slice none 0 0] by
        rw [HPT.out, show paidE ⟨fr, tt, more, (c : Int), true⟩ (payTo (edT t) B t.need.length v j) = ((payTo (edT t) B t.need.length v j).1, (payTo (edT t) B t.need.length v j).2.set c (nth (payTo (edT t) B t.need.length v j).2 c + 1)) from by unfold paidE; rw [if_neg (by show ¬ (c : Int) = -1; omega)]; simp]
        dsimp only
        rw [hpl, hph]
        exact ⟨(H2.out.1.later ((Below.refl _ _).alloc (Nat.le_refl _) _)).setH c _, (H2.out.2.1.alloc H2.out.2.1.size _).setCell (by show w.heap.size ≤ g2; have := H1.out; omega) _, (H2.out.2.2.alloc _).far (by show w.heap.size ≠ g2; have := H1.out; omega) _⟩)
      have f1 : ∀ o : Obj, (w2.alloc o).cell? ⟨xb, 0, none⟩ = some (.slice (some ⟨g1, 0, none⟩) t.need.length t.need.length) := fun o => (H2.out.1.box.alloc o).cell 0
      have f2 : ∀ o : Obj, (w2.alloc o).cell? ⟨xb, 1, none⟩ = some (.slice (some ⟨g2, 0, none⟩) t.need.length t.need.length) := fun o => (H2.out.1.box.alloc o).cell 1
      have f3 : ∀ o : Obj, (w2.alloc o).cell? ⟨w.heap.size, 0, none⟩ = some (.slice none 0 0) := fun o => (H2.out.2.2.alloc o).cell 0
      have f4 : ∀ o : Obj, (w2.alloc o).cell? ⟨w.heap.size, 1, none⟩ = some (.slice none 0 0) := fun o => (H2.out.2.2.alloc o).cell 1
      have f5 : ∀ o : Obj, (w2.alloc o).frozen? ⟨w.heap.size, 0, none⟩ = false := fun o => (H2.out.2.2.alloc o).free 0
      have f6 : ∀ o : Obj, (w2.alloc o).frozen? ⟨w.heap.size, 1, none⟩ = false := fun o => (H2.out.2.2.alloc o).free 1
      have f7 : ∀ o : Obj, (w2.alloc o).cell? ⟨g2, c, none⟩ = some (.int .i64 (nth ph c)) := fun o => Row.cell (Box.alloc (w := w2) (t := 3) H2.out.1.r2 o) (by have := H2.out.1.l2; omega)
      have f8 : ∀ o : Obj, (w2.alloc o).frozen? ⟨g2, c, none⟩ = false := fun o => Row.free (Box.alloc (w := w2) (t := 3) H2.out.1.r2 o) c
      have l1 := H2.out.1.r2.lt
      have n1 : w2.heap.size ≠ g2 := by omega
      have n2 : xb ≠ g2 := H2.out.1.d2
      have n3 : w.heap.size ≠ g2 := by have := H1.out; omega
      have i0 : (0 : Int) ≤ (c : Int) := by omega
      have i1 : (c : Int) < (t.need.length : Int) := by omega
      have z1 : ((c : Int) == -1) = false := by first | (simp; done) | (simp; omega)
      have wv : IntKind.i64.wrap (nth ph c + 1) = nth ph c + 1 := by have := HJ.out; have := HR.out.1; exact wrap_id (by omega) (by omega)
      clear hpl hph hc b1 l1
      dsimp only
      by_cases hfin : fr = to
      · have HJ1 := Lib.hid (show J = j + 1 by
          by_cases e : j + 1 < J
          · exact absurd (by rw [HNX.out]; exact hfin) (HNE.out (j + 1) (by omega) e)
          · have := HR.out.1; omega)
        subst hfin
        have z9 : ((fr : Int) == (fr : Int)) = true := by simp
        go_wp2_with fail
        refine bodyPost_ret (v := .agg #[.slice (some ⟨g1, 0, none⟩) t.need.length t.need.length, .slice (some ⟨g2, 0, none⟩) t.need.length t.need.length]) (by simp [results, Try.results40, go_sem, *]) rfl ?_
        refine ⟨_, rfl, ?_⟩
        rw [HJ1.out]
        exact pay_end HFF.out.1 HFF.out.2.1 (by have := H1.out; omega) (by have := H1.out; omega) HJ.out.2.2.2 _ _
      · have HJ1 := Lib.hid (show j + 1 < J by
          by_cases e : j + 1 < J
          · exact e
          · have e2 : J = j + 1 := by have := HR.out.1; omega
            have := HJ.out.2.2.1
            rw [e2, HNX.out] at this
            exact absurd this hfin)
        have z9 : ((fr : Int) == (to : Int)) = false := by simp; omega
        clear hfin
        go_wp2_with fail
        go_roundw
        case rel => exact ⟨j + 1, HJ1.out, by rw [HNX.out], HFF.out.1, HFF.out.2.1, HFF.out.2.2⟩
        case measure =>
          have e1 := posOf_at (f := wbs (edT t) B v) HR.out.1 HIN.out
          have e2 := posOf_at (f := wbs (edT t) B v) HJ1.out HIN.out
          rw [HNX.out] at e2
          have := HR.out.1
          simp [intOf, e1, e2]
          omega
      
end Go.Proofs.Ytfafjojoapcliaa

/- Layer 9: the zero stick. -/
import Derived.Test.YtcichnapgdkbhaaGreatZP
set_option linter.all false
namespace Go.Proofs.YtcichnapgdkbhaaGreat
open Go.RowKit
open Go.ChangeShapes Go.WideShapes

theorem wrOk_nil {x : List Int} (h : x.length ≤ 8192) : wrOk [] [] x = true := by
  unfold wrOk
  rw [decide_eq_true h, decide_eq_true (show ([] : List Int).length + (2 + x.length) ≤ 16777216 by simp; omega), decide_eq_true (show ([] : List Int).length + 4 ≤ 16777216 by simp)]
  rfl
set_option maxRecDepth 100000 in
set_option maxHeartbeats 8000000 in
theorem zeroSticks_c (x : List Int) (u : Value) (w : World) (hx : Bys w w.heap.size u x) (h8 : x.length ≤ 8192) :
    Calls Tryz.prog 6 #[u] w fun e w' => e = .returned (.bool true) ∧ Below w.heap.size w w' := by
  have HX := Lib.hid hx
  have H8 := Lib.hid h8
  obtain ⟨A, c, rfl, -⟩ := hx.shape
  obtain ⟨m, hm⟩ : ∃ z, x.length = z := ⟨_, rfl⟩
  have HM := Lib.hid hm
  rw [hm] at HX ⊢
  clear hx h8 hm
  go_enter Tryz.func6, Tryz.ntmps6
  go_wp2_with fail
  refine (nSync_c _).mono ?_; rintro e w1 ⟨rfl, hb1⟩
  have HB1 := Lib.hid hb1
  clear hb1
  go_wp2_with fail
  refine (nSizes_c _).mono ?_; rintro e w2 ⟨rfl, hb2⟩
  have HB2 := Lib.hid (HB1.out.trans (hb2.mono HB1.out.size))
  clear hb2
  go_wp2_with fail
  refine (nWrite_c _ _ _ _).mono ?_; rintro e w3 ⟨rfl, rfl⟩
  go_wp2_with fail
  refine (nCrash_c _).mono ?_; rintro e w3 ⟨rfl, hb3⟩
  have HB3 := Lib.hid (HB2.out.trans (hb3.mono HB2.out.size))
  clear hb3
  go_wp2_with fail
  refine (nTallies_c _).mono ?_; rintro e w4 ⟨rfl, hb4⟩
  have HB4 := Lib.hid (HB3.out.trans (hb4.mono HB3.out.size))
  clear hb4
  go_wp2_with fail
  obtain ⟨W5, hW5⟩ : ∃ z, w4.alloc (.cells #[.slice none 0 0, .int .i64 0, .slice none 0 0, .int .i64 0] 48) = z := ⟨_, rfl⟩
  have hbx : Box W5 w4.heap.size 48 #[.slice none 0 0, .int .i64 0, .slice none 0 0, .int .i64 0] := by rw [← hW5]; exact Box.made _ _ _
  have hbe : Below w4.heap.size w4 W5 := by rw [← hW5]; exact (Below.refl _ _).alloc (Nat.le_refl _) _
  have hsz : W5.heap.size = w4.heap.size + 1 := by rw [← hW5]; exact World.size_alloc _ _
  rw [hW5]
  clear hW5
  have hst : StkP W5 w4.heap.size w4.heap.size (.slice none 0 0) (.slice none 0 0) [] [] 0 0 :=
    { box := hbx, o1 := World.ownsRow_nil _ _ _ _, o2 := World.ownsRow_nil _ _ _ _, dis := fun g h => (nomatch h), l1 := Nat.le_refl _, l2 := Nat.le_refl _, s1 := Nat.zero_le _, s2 := Nat.zero_le _, y1 := (isBy_of fun x hx => (nomatch hx)), y2 := (isBy_of fun x hx => (nomatch hx)), hb := Nat.le_refl _ }
  have hx5 : Bys W5 W5.heap.size (.slice A m c) x := HX.out.later (HB4.out.trans (hbe.mono HB4.out.size))
  have hwr := Lib.hid (Write_c w4.heap.size w4.heap.size _ _ _ [] [] x 0 0 W5 hst hx5 (by omega))
  have HB5 := Lib.hid (HB4.out.trans (hbe.mono HB4.out.size))
  clear hst hx5 hbx hbe
  refine hwr.out.mono ?_; rintro e w6 ⟨v1, v2, rfl, hs6, hc6, -, -⟩
  unfold wrE
  unfold wrS wrF at hs6
  rw [wrOk_nil H8.out] at hs6 ⊢
  simp only [if_true, List.nil_append] at hs6 ⊢
  have HS6 := Lib.hid hs6
  have HB6 := Lib.hid (HB5.out.trans (hc6.1.mono HB4.out.size))
  have hs9 : w4.heap.size ≤ w6.heap.size := Nat.le_trans (by omega) hc6.2.1
  have hsy := Lib.hid (Sync_c w4.heap.size w4.heap.size v1 v2 _ _ 0 0 w6 hs6 hs9)
  have HS9 := Lib.hid hs9
  clear hs6 hc6 hwr hs9
  go_wp2_with fail
  refine hsy.out.mono ?_; rintro e w7 ⟨⟨r, rfl⟩, hs7, hc7⟩
  have HB7 := Lib.hid (HB6.out.trans (hc7.1.mono HB4.out.size))
  have hta := Lib.hid (Tallies_c w4.heap.size w4.heap.size v1 v2 _ _ _ _ w7 hs7)
  clear hs7 hc7 hsy
  go_wp2_with fail
  refine hta.out.mono ?_; rintro e w8 ⟨⟨ov, rfl, hov⟩, hb8⟩
  have HB8 := Lib.hid (HB7.out.trans (hb8.mono HB7.out.size))
  rw [show joinL (stockL x) (foilL x) = [x] from by have := joinL_stock H8.out [] []; rw [List.append_nil, List.append_nil, joinL_nil] at this; exact this] at hov
  obtain ⟨l1, A2, c2, rfl, l2, l3⟩ := hov
  obtain ⟨g, off, rfl, hgB, hcc⟩ := l3 (Nat.zero_lt_one)
  obtain ⟨s1, hx0, hs1⟩ := hcc 0 (Nat.zero_lt_one)
  replace hs1 : Bys w8 w8.heap.size s1 x := hs1
  have hs2 : Bys w8 w8.heap.size (.slice A m c) x := HX.out.later HB8.out
  have cv1 := fun nq : Nat => (hs1.mono (B' := w8.heap.size) (below_drewN w8 nq) (Nat.le_refl _)).str
  have cv2 := fun nq : Nat => (hs2.mono (B' := w8.heap.size) (below_drewN w8 nq) (Nat.le_refl _)).str
  have HBD := Lib.hid (fun nq : Nat => HB8.out.trans (below_drewN (B := w.heap.size) w8 nq))
  have hse := str_eq hs1.by hs2.by
  rw [decide_eq_true rfl] at hse
  obtain ⟨A1, c1, rfl, -⟩ := hs1.shape
  rw [Nat.add_zero] at hx0
  rw [HM.out] at cv1 hx0
  generalize strOfNums x = S1 at *
  simp only [List.length_cons, List.length_nil] at *
  clear hcc hs1 hs2 l1 l2 l3 hb8 hta
  go_wp2_with fail
  go_quiet (fail)
  go_wp2_with fail
  go_ret
  exact ⟨rfl, HBD.out _⟩
end Go.Proofs.YtcichnapgdkbhaaGreat

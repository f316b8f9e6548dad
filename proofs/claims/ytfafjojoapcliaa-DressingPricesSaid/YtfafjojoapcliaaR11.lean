/- The specification's first plan with the fewest strokes, and how many these are. -/
import Derived.Test.YtfafjojoapcliaaR9
import Derived.Test.YtfafjojoapcliaaR10
namespace Go.Proofs.Ytfafjojoapcliaa
open Go.RowKit

set_option maxRecDepth 100000 in
set_option maxHeartbeats 16000000 in
theorem rPlan_c (t : Tk) (v : Value) (w : World) (h : IsTask w w.heap.size v t) : Calls Try.prog 13 #[v] w (RetL w (plR t) (stE t)) := by
  have HT := Lib.hid h
  obtain ⟨s, rfl, A, c, rfl, hcap, hcell⟩ := h
  have HB := Lib.hid (Box.made w 24 #[.int .i64 t.wide, .slice A t.need.length c])
  clear hcap hcell
  cases ht : taskB t
  · have e1 : stE t = 50 := by unfold stE; rw [ht]; rfl
    have e2 : plR t = [] := by unfold plR; rw [e1]; rfl
    rw [e1, e2]
    have H5 := Lib.hid (show tkE t = 50 by unfold tkE; rw [ht]; rfl)
    clear e1 e2 ht
    go_enter Try.func13, Try.ntmps13
    go_wp2_with fail
    refine (rCheck_c t _ _ (HT.out.box _)).mono ?_; rintro e w1 ⟨rfl, hb1⟩
    rw [H5.out]
    go_wp2_with fail
    go_ret2
    exact ⟨.slice none 0 0, rfl, ints_nil _ _, boxed hb1⟩
  have HTB := Lib.hid ht
  have H0 := Lib.hid (show tkE t = 0 by unfold tkE; rw [ht]; rfl)
  have HBD := Lib.hid (lsT_bd t ht)
  have HMM := Lib.hid (show 1 ≤ tM t ∧ tM t ≤ 400 by have := task_parts ht; omega)
  obtain ⟨i0, hi0, hz0, hz1, hz2⟩ : ∃ i, Try.prog.info? 3 = some i ∧ i.zero = some (.int .i64 0) ∧ i.size = 1 ∧ i.bytes = 8 := ⟨_, rfl, rfl, rfl, rfl⟩
  clear ht
  go_enter Try.func13, Try.ntmps13
  go_wp2_with fail
  refine (rCheck_c t _ _ (HT.out.box _)).mono ?_; rintro e w1 ⟨rfl, hb1⟩
  rw [H0.out]
  have H1 := Lib.hid (show Below w.heap.size w w1 ∧ Box w1 w.heap.size 24 #[.int .i64 t.wide, .slice A t.need.length c] from ⟨boxed hb1, HB.out.later hb1⟩)
  clear hb1
  have k0 : w1.cell? ⟨w.heap.size, 0, none⟩ = some (.int .i64 t.wide) := H1.out.2.cell 0
  have k1 : w1.cell? ⟨w.heap.size, 1, none⟩ = some (.slice A t.need.length c) := H1.out.2.cell 1
  go_wp2_with fail
  clear k0 k1
  refine (farthest_c t _ _ (HT.out.mono H1.out.1 H1.out.1.size) HTB.out).mono ?_; rintro e w2 ⟨gl, gb, hot, L, B, rfl, hrl, -, hlen, -, hb2, hor⟩
  have H2 := Lib.hid (show Row w2 gl L ∧ L.length = tM t + 1 ∧ Below w.heap.size w w2 from ⟨hrl, hlen, H1.out.1.trans (hb2.mono H1.out.1.size)⟩)
  clear hrl hlen hb2
  rcases hor with ⟨hf, rfl, hL⟩ | ⟨hf, hh⟩
  · have e1 : stE t = 0 := by unfold stE; rw [HTB.out, hf]; rfl
    have e2 : plR t = dl L (tM t) := by rw [plR_ok e1, hL]
    have HE := Lib.hid (And.intro e1 e2)
    have HBD2 := Lib.hid (show ∀ k, 0 ≤ nth L k ∧ nth L k ≤ 100000000000 by rw [hL]; exact HBD.out)
    clear hf hL e1 e2 HBD
    go_wp2_with fail
    go_loopw [8, 9] (fun lw iv wr => ∃ k : Nat, k ≤ tM t ∧ iv = .int .i64 (k : Int) ∧ wr.ownsRow w2.heap.size 3 1 lw k (ints (dl L k)) ∧ Below w2.heap.size w2 wr) (fun _ iv _ => tM t - (intOf iv).toNat)
    case atStart => exact ⟨0, Nat.zero_le _, rfl, World.ownsRow_nil _ _ _ _, Below.refl _ _⟩
    case round =>
      obtain ⟨k, hk, rfl, hown, hbr⟩ := hrel
      have wk : IntKind.i64.wrap ((k : Int) + 1) = (k : Int) + 1 := by have := HMM.out; exact wrap_id (by omega) (by omega)
      by_cases hlt : k < tM t
      · have hd : decide ((k : Int) + 1 < (tM t : Int) + 1) = true := by simp; omega
        have hd2 : decide ((k : Int) < (tM t : Int)) = true := by simp; omega
        have hd3 : decide (k < tM t) = true := by simp; omega
        have b0 := HBD2.out k
        have b1 := HBD2.out (k + 1)
        have hrl := H2.out.1.below hbr.drew H2.out.1.lt
        have m2 : wr.drew.cell? ⟨gl, k + 1, none⟩ = some (.int .i64 (nth L (k + 1))) := hrl.cell (by have := H2.out.2.1; omega)
        have m3 : wr.drew.cell? ⟨gl, k, none⟩ = some (.int .i64 (nth L k)) := hrl.cell (by have := H2.out.2.1; omega)
        have HZ := Lib.hid (show dl L (k + 1) = dl L k ++ [nth L (k + 1) - nth L k] from dl_snoc L k)
        have i0' : (0 : Int) ≤ (k : Int) := by omega
        have i2 : (k : Int) < (tM t : Int) + 1 := by omega
        have i3 : (k : Int) + 1 < (tM t : Int) + 1 := by omega
        have i4 : k ≤ 400 := by have := HMM.out; omega
        have j0 : (0 : Int) ≤ (k : Int) + 1 := by omega
        have j1 : ((k : Int) + 1).toNat = k + 1 := by omega
        have wv : IntKind.i64.wrap (nth L (k + 1) - nth L k) = nth L (k + 1) - nth L k := wrap_id (by omega) (by omega)
        have HK := Lib.hid (show k < tM t from hlt)
        have hgl : gl < wr.heap.size := by have := H2.out.1.lt; have := hbr.size; omega
        generalize nth L (k + 1) = z1 at *
        generalize nth L k = z0 at *
        have m2a : ∀ o : Obj, (wr.drew.alloc o).cell? ⟨gl, k + 1, none⟩ = some (.int .i64 z1) := fun o => keepd m2 ((Below.refl _ _).alloc (Nat.le_refl _) o) hgl
        have m3a : ∀ o : Obj, (wr.drew.alloc o).cell? ⟨gl, k, none⟩ = some (.int .i64 z0) := fun o => keepd m3 ((Below.refl _ _).alloc (Nat.le_refl _) o) hgl
        have HO := Lib.hid (World.ownsRow.alloc (own_later hown (Below.refl _ _).drew) (.cells #[.int .i64 (z1 - z0)] 3))
        have HN := Lib.hid (news_cells wr.drew 3 [.int .i64 (z1 - z0)])
        have HM := Lib.hid (show k + 1 ≤ maxLen ∧ (k + 1) * 8 ≤ 140737488355328 ∧ w2.heap.size ≤ (wr.drew.alloc (.cells #[.int .i64 (z1 - z0)] 3)).heap.size by
          have := hbr.size
          have : wr.drew.heap.size = wr.heap.size := rfl
          refine ⟨by unfold maxLen; omega, by omega, ?_⟩
          rw [World.size_alloc]; omega)
        have H1c := Lib.hid (show ∀ u ∈ [Value.int .i64 (z1 - z0)], u.oneCell' = true by intro u hu; simp at hu; subst hu; rfl)
        have HOW := Lib.hid hown
        have HBR := Lib.hid hbr
        clear b0 b1 hrl hown hbr hk hlt
        go_wp2_with fail
        go_region_law (refine step_append_lies _ rfl (.tmp 30) (.tmp 41) 30 rfl w2.heap.size 3 i0 (.int .i64 0) 1 8 Try.underlying30 hi0 hz0 hz1 hz2 rfl (by decide) u8 _ _ rfl HO.out ⟨wr.heap.size, 0, none⟩ 1 1 [.int .i64 (z1 - z0)] rfl rfl HN.out H1c.out (by decide) HM.out.1 HM.out.2.1 HM.out.2.2 (wr.heap.size + 1) (by simp) ?_; intro gg cap w7 hown7 hgrow7 _ _)
        all_goals
          have hfin : w7.ownsRow w2.heap.size 3 1 (.slice (some ⟨gg, 0, none⟩) (k + 1) cap) (k + 1) (ints (dl L (k + 1))) ∧ Below w2.heap.size w2 w7 := ⟨by rw [HZ.out]; unfold ints; rw [List.map_append]; exact hown7, ((HBR.out.drew).alloc (by have := HBR.out.size; have : wr.drew.heap.size = wr.heap.size := rfl; omega) _).grown hgrow7 (by rw [World.size_alloc]; have := HBR.out.size; have : wr.drew.heap.size = wr.heap.size := rfl; omega) (fun q e => (HO.out.lt q e).1)⟩
          have HF := Lib.hid hfin
          clear hfin hown7 hgrow7
          go_wp2_with fail
          go_roundw
          case rel => exact ⟨k + 1, by have := HK.out; omega, by go_num, HF.out.1, HF.out.2⟩
          case measure => have := HK.out; simp [intOf]; omega
      · obtain rfl : k = tM t := by omega
        have hd : decide ((tM t : Int) + 1 < (tM t : Int) + 1) = false := by simp
        have hd2 : decide ((tM t : Int) < (tM t : Int)) = false := by simp
        have HX := Lib.hid (⟨hown, hbr⟩ : wr.ownsRow w2.heap.size 3 1 u8 (tM t) (ints (dl L (tM t))) ∧ Below w2.heap.size w2 wr)
        have HMX := Lib.hid HMM.out.2
        clear hown hbr hk hlt
        go_wp2_with fail
        go_ret2
        refine ⟨u8, by rw [HE.out.1]; rfl, ?_, H2.out.2.2.trans (HX.out.2.mono H2.out.2.2.size)⟩
        rw [HE.out.2]
        exact ints_own (by rw [dl_len]; exact HX.out.1) (Nat.le_refl _) (by rw [dl_len]; have := HMX.out; omega)
  · have e1 : stE t = 51 := by unfold stE; rw [HTB.out, hf]; rfl
    have e2 : plR t = [] := by unfold plR; rw [e1]; rfl
    have HE := Lib.hid (And.intro e1 e2)
    have hdh : decide (0 ≤ hot) = true := by simpa using hh
    clear e1 e2 hf hh
    go_wp2_with fail
    go_ret2
    exact ⟨.slice none 0 0, by rw [HE.out.1]; rfl, by rw [HE.out.2]; exact ints_nil _ _, H2.out.2.2⟩

set_option maxRecDepth 100000 in
set_option maxHeartbeats 8000000 in
theorem rFewest_c (t : Tk) (v : Value) (w : World) (h : IsTask w w.heap.size v t) : Calls Try.prog 11 #[v] w (Ret2 w (fwV t) (stE t)) := by
  have HT := Lib.hid h
  obtain ⟨s, rfl, A, c, rfl, hcap, hcell⟩ := h
  clear hcap hcell
  have HP := Lib.hid (fun (w : World) (v : Value) (h : IsTask w w.heap.size v t) => rPlan_c t v w h)
  have HV := Lib.hid (show (stE t = 0 → cntB (plR t) 100000 = true ∧ (plR t).length ≤ 400 ∧ pre (plR t) (plR t).length = fwV t) ∧ (stE t ≠ 0 → fwV t = 0) from
    ⟨fun h => ⟨plR_cnt h, by rw [plR_len h]; have := task_parts (stE_zero h).1; omega, plR_sum h⟩, fun h => by unfold fwV; rw [if_neg h]⟩)
  generalize plR t = l at *
  generalize fwV t = f at *
  generalize stE t = n at *
  by_cases hn : n = 0
  · subst hn
    have HV2 := Lib.hid (HV.out.1 rfl)
    clear HV
    go_enter Try.func11, Try.ntmps11
    go_wp2_with fail
    refine (HP.out _ _ (HT.out.box _)).mono ?_; rintro e w1 ⟨s, rfl, hs, hb1⟩
    have HB1 := Lib.hid (boxed hb1)
    have HS := Lib.hid hs
    clear hs hb1
    go_wp2_with fail
    refine (rsum_c l 100000 _ _ HS.out (by have := HV2.out; omega) (by omega) (by omega) HV2.out.1).mono ?_; rintro e w2 ⟨rfl, hw2⟩
    obtain rfl : w1 = w2 := hw2
    rw [HV2.out.2.2]
    go_wp2_with fail
    go_ret2
    exact ⟨rfl, HB1.out⟩
  · have HV2 := Lib.hid (HV.out.2 hn)
    have hz : (n != 0) = true := by simpa using hn
    clear HV hn
    go_enter Try.func11, Try.ntmps11
    go_wp2_with fail
    refine (HP.out _ _ (HT.out.box _)).mono ?_; rintro e w1 ⟨s, rfl, hs, hb1⟩
    have HB1 := Lib.hid (boxed hb1)
    clear hs hb1
    go_wp2_with fail
    go_ret2
    exact ⟨by rw [HV2.out]; rfl, HB1.out⟩

end Go.Proofs.Ytfafjojoapcliaa

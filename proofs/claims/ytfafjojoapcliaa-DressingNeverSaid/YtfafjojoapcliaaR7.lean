/- The first plan that has the fewest strokes: the program's side. -/
import Derived.Test.YtfafjojoapcliaaR6
import Derived.Test.YtfafjojoapcliaaQ3b
namespace Go.Proofs.Ytfafjojoapcliaa
open Go.RowKit

/-- differences of neighbours -/
def dfTo (L : List Int) (m : Nat) : Nat → List Int
  | 0 => List.replicate m 0
  | k + 1 => (dfTo L m k).set k (nth L (k + 1) - nth L k)
theorem dfTo_len (L : List Int) (m k : Nat) : (dfTo L m k).length = m := by
  induction k with
  | zero => simp [dfTo]
  | succ k ih => simp [dfTo, ih]
theorem dfTo_nth (L : List Int) (m k v : Nat) (hk : k ≤ m) (hv : v < k) : nth (dfTo L m k) v = nth L (v + 1) - nth L v := by
  induction k with
  | zero => omega
  | succ k ih =>
    rw [dfTo, nth_set, dfTo_len]
    by_cases e : k = v
    · subst e; rw [if_pos ⟨rfl, by omega⟩]
    · rw [if_neg (by omega)]; exact ih (by omega) (by omega)
noncomputable def plR (t : Tk) : List Int := if stE t = 0 then dfTo (lsT t) (tM t) (tM t) else []
theorem lsT_bd (t : Tk) (ht : taskB t = true) (k : Nat) : 0 ≤ nth (lsT t) k ∧ nth (lsT t) k ≤ 100000000000 := by
  obtain ⟨a1, a2, a3, a4, a5, a6, a7, a8⟩ := task_parts ht
  have hmo := edgesOf_more t (tW t) (tM t) a8
  have := lift_big (es := edT t) (N := tM t + 1) (fun x hx => (hmo x hx).2) (by unfold edT; rw [edgesOf_len]; omega) (s := ⟨List.replicate (tM t + 1) 0, List.replicate (tM t + 1) 0, -1⟩) rfl (r := tM t + 1) (i := 0) (by omega) (Nat.zero_le _) k
  exact this

set_option maxRecDepth 100000 in
set_option maxHeartbeats 8000000 in
theorem Plan_c (t : Tk) (v : Value) (w : World) (h : IsTask w w.heap.size v t) : Calls Try.prog 12 #[v] w (RetL w (plR t) (stE t)) := by
  have HT := Lib.hid h
  obtain ⟨s, rfl, A, c, rfl, hcap, hcell⟩ := h
  have HB := Lib.hid (Box.made w 24 #[.int .i64 t.wide, .slice A t.need.length c])
  clear hcap hcell
  cases ht : taskB t
  · have e1 : stE t = 50 := by unfold stE; rw [ht]; rfl
    have e2 : plR t = [] := by unfold plR; rw [e1]; rfl
    rw [e1, e2]
    have HTB := Lib.hid ht
    clear e1 e2 ht
    go_enter Try.func12, Try.ntmps12
    go_wp2_with fail
    refine (possible_bad t _ _ (HT.out.box _) HTB.out).mono ?_; rintro e w1 ⟨rfl, hb1⟩
    go_wp2_with fail
    go_ret2
    exact ⟨.slice none 0 0, rfl, ints_nil _ _, boxed hb1⟩
  have HTB := Lib.hid ht
  have HBD := Lib.hid (lsT_bd t ht)
  have HMM := Lib.hid (show 1 ≤ tM t ∧ tM t ≤ 400 by have := task_parts ht; omega)
  clear ht
  go_enter Try.func12, Try.ntmps12
  go_wp2_with fail
  refine (possible_c t _ _ (HT.out.box _) HTB.out).mono ?_; rintro e w1 ⟨hb1, hor⟩
  have H1 := Lib.hid (show Below w.heap.size w w1 ∧ Box w1 w.heap.size 24 #[.int .i64 t.wide, .slice A t.need.length c] from ⟨boxed hb1, HB.out.later hb1⟩)
  clear hb1
  rcases hor with ⟨hf, rfl⟩ | ⟨hf, g, gl, gb, lv, B, rfl, hg⟩
  · have e1 : stE t = 51 := by unfold stE; rw [HTB.out, hf]; rfl
    have e2 : plR t = [] := by unfold plR; rw [e1]; rfl
    have HE := Lib.hid (And.intro e1 e2)
    clear e1 e2 hf
    go_wp2_with fail
    go_ret2
    exact ⟨.slice none 0 0, by rw [HE.out.1]; rfl, by rw [HE.out.2]; exact ints_nil _ _, H1.out.1⟩
  · have e1 : stE t = 0 := by unfold stE; rw [HTB.out, hf]; rfl
    have e2 : plR t = dfTo (lsT t) (tM t) (tM t) := by unfold plR; rw [e1]; rfl
    have HE := Lib.hid (And.intro e1 e2)
    have q2 : w1.cell? ⟨w.heap.size, 0, none⟩ = some (.int .i64 t.wide) := H1.out.2.cell 0
    have q3 : w1.cell? ⟨w.heap.size, 1, none⟩ = some (.slice A t.need.length c) := H1.out.2.cell 1
    have HG := Lib.hid hg
    clear hf hg e1 e2
    go_wp2_with fail
    clear q2 q3
    refine (firstCells_m t _ _ (HT.out.mono H1.out.1 H1.out.1.size) HTB.out).mono ?_; rintro e w2 ⟨rfl, hb2⟩
    have H2 := Lib.hid (show Gb w2 g gl gb (tM t + 1) lv (edT t) (lsT t) B ∧ Below w.heap.size w w2 ∧ (∀ k, k < tM t + 1 → 0 ≤ nth (lsT t) k ∧ nth (lsT t) k ≤ 100000000000) from ⟨HG.out.later hb2, H1.out.1.trans (hb2.mono H1.out.1.size), fun k _ => HBD.out k⟩)
    clear hb2
    have hmk := mkInts w2 (tM t) (by have := HMM.out; omega)
    generalize lsT t = L at *
    generalize edT t = es at *
    generalize tM t = m at *
    clear HG H1 HBD
    go_wp2_with fail
    clear hmk
    go_loopw [21] (fun kv wr => ∃ k : Nat, k ≤ m ∧ kv = .int .i64 (k : Int) ∧ Row wr w2.heap.size (dfTo L m k) ∧ Below w2.heap.size w2 wr) (fun kv _ => m - (intOf kv).toNat)
    case atStart => exact ⟨0, Nat.zero_le _, rfl, Row.made _ _, (Below.refl _ _).alloc (Nat.le_refl _) _⟩
    case round =>
      obtain ⟨k, hk, rfl, hrow, hbr⟩ := hrel
      by_cases hlt : k < m
      · have hd : decide ((k : Int) < (m : Int)) = true := by simpa using hlt
        have hg := H2.out.1.later hbr.drew
        have hbd1 := H2.out.2.2 (k + 1) (by omega)
        have hbd0 := H2.out.2.2 k (by omega)
        have i0 : (0 : Int) ≤ (k : Int) := by omega
        have i1 : (k : Int) < (m : Int) := by omega
        have i2 : (k : Int) < (m : Int) + 1 := by omega
        have i3 : (k : Int) + 1 < (m : Int) + 1 := by omega
        have i4 : k ≤ 400 := by have := HMM.out; omega
        have j0 : (0 : Int) ≤ (k : Int) + 1 := by omega
        have j1 : ((k : Int) + 1).toNat = k + 1 := by omega
        have wv : IntKind.i64.wrap (nth L (k + 1) - nth L k) = nth L (k + 1) - nth L k := wrap_id (by omega) (by omega)
        have wk : IntKind.i64.wrap ((k : Int) + 1) = (k : Int) + 1 := wrap_id (by omega) (by omega)
        obtain ⟨W1, hW1e⟩ : ∃ W1, wr.drew = W1 := ⟨_, rfl⟩
        rw [hW1e] at hg
        have hrow1 : Row W1 w2.heap.size (dfTo L m k) := by rw [← hW1e]; exact hrow.later (Below.refl _ _).drew
        have hbr1 : Below w2.heap.size w2 W1 := by rw [← hW1e]; exact hbr.drew
        have m1 : W1.cell? ⟨g, 1, none⟩ = some (.slice (some ⟨gl, 0, none⟩) (m + 1) (m + 1)) := hg.b0.cell 1
        have m2 : W1.cell? ⟨gl, k + 1, none⟩ = some (.int .i64 (nth L (k + 1))) := hg.rl.cell (by rw [hg.lenL]; omega)
        have m3 : W1.cell? ⟨gl, k, none⟩ = some (.int .i64 (nth L k)) := hg.rl.cell (by rw [hg.lenL]; omega)
        have m4 : W1.cell? ⟨w2.heap.size, k, none⟩ = some (.int .i64 (nth (dfTo L m k) k)) := hrow1.cell (by rw [dfTo_len]; exact hlt)
        have m5 := hrow1.free k
        have HF := Lib.hid (hrow1.put k (nth L (k + 1) - nth L k))
        have HF2 := Lib.hid (hbr1.setCell (p := ⟨w2.heap.size, k, none⟩) (Nat.le_refl _) (.int .i64 (nth L (k + 1) - nth L k)))
        have HK := Lib.hid hlt
        have HSU := Lib.hid (show dfTo L m (k + 1) = (dfTo L m k).set k (nth L (k + 1) - nth L k) from rfl)
        clear hg hrow hbr hrow1 hbr1 hbd0 hbd1 hk hlt
        generalize nth L (k + 1) = z1 at *
        generalize nth L k = z0 at *
        generalize nth (dfTo L m k) k = z2 at *
        generalize w2.heap.size = gp at *
        go_wp2_with fail
        refine still_tail 18 W1 hW1e (by kernel_rfl) (by kernel_rfl) ?_
        clear hW1e
        simp only [List.take_succ_cons, List.take_zero, List.drop_succ_cons, List.drop_zero]
        repeat still_step
        refine wpStill_nil ?_
        go_wp2_with fail
        go_roundw
        case rel => exact ⟨k + 1, by have := HK.out; omega, by go_num, by rw [HSU.out]; exact HF.out, HF2.out⟩
        case measure => have := HK.out; simp [intOf]; omega
      · obtain rfl : k = m := by omega
        have hd : decide ((k : Int) < (k : Int)) = false := by simp
        have HX := Lib.hid (⟨hrow, hbr⟩ : Row wr w2.heap.size (dfTo L k k) ∧ Below w2.heap.size w2 wr)
        clear hrow hbr hk hlt
        go_wp2_with fail
        go_ret2
        have hr := HX.out.1.ints_ (B := wr.heap.size) (c := k) (Nat.le_of_lt HX.out.1.lt |> fun _ => Nat.le_refl _) (by rw [dfTo_len]; have := HMM.out; omega) (by rw [dfTo_len]; omega)
        rw [dfTo_len] at hr
        exact ⟨.slice (some ⟨w2.heap.size, 0, none⟩) k k, by rw [HE.out.1]; rfl, by rw [HE.out.2]; exact hr, H2.out.2.1.trans (HX.out.2.mono H2.out.2.1.size)⟩

end Go.Proofs.Ytfafjojoapcliaa

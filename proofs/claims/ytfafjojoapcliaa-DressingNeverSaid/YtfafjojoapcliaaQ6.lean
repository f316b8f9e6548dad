/- Whether a plan does a task: both sides. -/
import Derived.Test.YtfafjojoapcliaaQ4
import Derived.Test.YtfafjojoapcliaaQ5
namespace Go.Proofs.Ytfafjojoapcliaa
open Go.RowKit

/-- the first covers are within the needs -/
def inTo (nd : List (Int × Int)) (l : List Int) (n : Nat) : Bool := (List.range n).all fun k => inB (nth l k) (nthP nd k).1 (nthP nd k).2
theorem inTo_succ (nd : List (Int × Int)) (l : List Int) (n : Nat) : inTo nd l (n + 1) = (inTo nd l n && inB (nth l n) (nthP nd n).1 (nthP nd n).2) := by
  unfold inTo; rw [List.range_succ, List.all_append]; simp
theorem inTo_false {nd : List (Int × Int)} {l : List Int} {k n : Nat} (hk : k < n) (h : inB (nth l k) (nthP nd k).1 (nthP nd k).2 = false) : inTo nd l n = false := by
  unfold inTo
  rw [List.all_eq_false]
  exact ⟨k, List.mem_range.2 hk, by simp [h]⟩
theorem inTo_at {nd : List (Int × Int)} {l : List Int} {k n : Nat} (h : inTo nd l n = true) (hk : k < n) : inB (nth l k) (nthP nd k).1 (nthP nd k).2 = true := by
  cases e : inB (nth l k) (nthP nd k).1 (nthP nd k).2
  · rw [inTo_false hk e] at h; cases h
  · rfl
def doesE (t : Tk) (p : List Int) : Int := if covE t p = 0 then (if inTo t.need (covR t p) t.need.length = true then 0 else 52) else covE t p
theorem covE_zero {t : Tk} {p : List Int} (h : covE t p = 0) : taskB t = true ∧ okPlan t p = true := by
  unfold covE at h
  split at h
  · rename_i h1
    split at h
    · rename_i h2; exact ⟨h1, h2⟩
    · omega
  · omega
theorem covR_len {t : Tk} {p : List Int} (h : covE t p = 0) : (covR t p).length = t.need.length ∧ t.need.length ≤ 400 := by
  obtain ⟨h1, h2⟩ := covE_zero h
  have h3 := szB_iff.1 (taskB_sz h1)
  refine ⟨?_, by omega⟩
  rw [(covE_ok h1 h2).2.1, covL_len]

set_option maxRecDepth 100000 in
set_option maxHeartbeats 8000000 in
theorem Does_c (t : Tk) (p : List Int) (v u : Value) (w : World) (h : IsTask w w.heap.size v t) (hp : Ints w w.heap.size u p) :
    Calls Try.prog 22 #[v, u] w fun e w' => e = .returned (.int .i64 (doesE t p)) ∧ Below w.heap.size w w' := by
  have HT := Lib.hid h
  have HP := Lib.hid hp
  obtain ⟨s, rfl, A, c, rfl, hcap, hcell⟩ := h
  have HC := Lib.hid hcell
  have HB := Lib.hid (Box.made w 24 #[.int .i64 t.wide, .slice A t.need.length c])
  clear hcell hcap hp
  by_cases h0 : covE t p = 0
  case neg =>
    have hne : (covE t p != 0) = true := by simp [h0]
    have H := Lib.hid (show doesE t p = covE t p by unfold doesE; rw [if_neg h0])
    clear h0
    go_enter Try.func22, Try.ntmps22
    go_wp2_with fail
    refine (Covers_c t p _ _ _ (HT.out.box _) (HP.out.box _)).mono ?_; rintro e w1 ⟨s, rfl, hs, hb1⟩
    clear hs
    go_wp2_with fail
    go_ret
    exact ⟨ret_int H.out.symm, boxed hb1⟩
  have H := Lib.hid (show doesE t p = if inTo t.need (covR t p) t.need.length = true then 0 else 52 by unfold doesE; rw [if_pos h0])
  have HL := Lib.hid (covR_len h0)
  have H0 := Lib.hid h0
  clear h0
  go_enter Try.func22, Try.ntmps22
  go_wp2_with fail
  refine (Covers_c t p _ _ _ (HT.out.box _) (HP.out.box _)).mono ?_; rintro e w1 ⟨s, rfl, hs, hb1⟩
  rw [H0.out]
  obtain ⟨-, A1, c1, rfl, hcap1, hcell1⟩ := hs
  have HC1 := Lib.hid hcell1
  have HW := Lib.hid (show Below w.heap.size w w1 from boxed hb1)
  have k0 : w1.cell? ⟨w.heap.size, 0, none⟩ = some (.int .i64 t.wide) := (HB.out.later hb1).cell 0
  have k1 : w1.cell? ⟨w.heap.size, 1, none⟩ = some (.slice A t.need.length c) := (HB.out.later hb1).cell 1
  clear hcell1 hcap1 hb1
  generalize covR t p = L at *
  go_wp2_with fail
  go_loopw [21] (fun i wr => ∃ k : Nat, k ≤ t.need.length ∧ i = .int .i64 (k : Int) ∧ inTo t.need L k = true ∧ Below w1.heap.size w1 wr) (fun i _ => t.need.length - (intOf i).toNat)
  case atStart => exact ⟨0, Nat.zero_le _, rfl, rfl, Below.refl _ _⟩
  case round =>
    clear k0 k1
    obtain ⟨k, hk, rfl, hin, hbr⟩ := hrel
    by_cases hlt : k < t.need.length
    · have hbw : Below w.heap.size w wr := HW.out.trans (hbr.mono HW.out.size)
      obtain ⟨b, off, rfl, hbB, hcc⟩ := HC.out (by omega)
      obtain ⟨b1, off1, rfl, hbB1, hcc1⟩ := HC1.out (by have := HL.out; omega)
      obtain ⟨y0, y1⟩ := hcc k hlt
      have q0 := keepd y0 hbw hbB
      have q1 := keepd y1 hbw hbB
      have z := keepd (hcc1 k (by have := HL.out; omega)) hbr hbB1
      have hsz := hbr.size
      have q2 : ∀ o : Obj, (wr.alloc o).cell? ⟨b1, off1 + k, none⟩ = some (.int .i64 (nth L k)) := fun o => keepd z ((Below.refl _ _).alloc (Nat.le_refl _) o) (by omega)
      have HS := Lib.hid (inTo_succ t.need L k)
      have HF := Lib.hid (fun hf => inTo_false (nd := t.need) (l := L) (n := t.need.length) hlt hf)
      have HI := Lib.hid hin
      have Hbd := Lib.hid (show ∀ (o : Obj) (nq : Nat), Below w1.heap.size w1 ((wr.alloc o).drewN nq) from fun o nq => ⟨(hbr.alloc hsz o).os, (hbr.alloc hsz o).tape, (hbr.alloc hsz o).output, (hbr.alloc hsz o).size, (hbr.alloc hsz o).block⟩)
      have HK := Lib.hid (show k < t.need.length ∧ t.need.length ≤ 400 from ⟨hlt, HL.out.2⟩)
      have hd : decide ((k : Int) < (t.need.length : Int)) = true := by simpa using hlt
      have i0 : (0 : Int) ≤ (k : Int) := by omega
      have i1 : (k : Int) < (t.need.length : Int) := by omega
      have i2 : (k : Int) < (L.length : Int) := by have := HL.out; omega
      have i3 : k ≤ 400 := by have := HL.out; omega
      clear hcc hcc1 y0 y1 z hin hbr hbw hbB hbB1 hsz hk
      generalize (nthP t.need k).1 = lo at *
      generalize (nthP t.need k).2 = hi at *
      generalize nth L k = x at *
      by_cases c1 : x < lo
      · have d1 : decide (x < lo) = true := by simpa using c1
        have Hn := Lib.hid (HF.out (by rw [inB_not]; omega))
        clear c1
        go_wp2_with fail
        go_quiet (fail)
        go_wp2_with fail
        go_ret
        exact ⟨ret_int (by rw [H.out, Hn.out]; rfl), HW.out.trans ((Hbd.out _ _).mono HW.out.size)⟩
      have d1 : decide (x < lo) = false := by simpa using c1
      by_cases c2 : hi < x
      · have d2 : decide (hi < x) = true := by simpa using c2
        have Hn := Lib.hid (HF.out (by rw [inB_not]; omega))
        clear c1 c2
        go_wp2_with fail
        go_quiet (fail)
        go_wp2_with fail
        go_ret
        exact ⟨ret_int (by rw [H.out, Hn.out]; rfl), HW.out.trans ((Hbd.out _ _).mono HW.out.size)⟩
      have d2 : decide (hi < x) = false := by simpa using c2
      have Hy := Lib.hid (show inTo t.need L (k + 1) = true by rw [HS.out, HI.out, inB_iff.2 (by omega)]; rfl)
      clear c1 c2
      go_wp2_with fail
      go_quiet (fail)
      go_wp2_with fail
      go_roundw
      case rel => exact ⟨k + 1, by have := HK.out; omega, by go_num, Hy.out, Hbd.out _ _⟩
      case measure => have := HK.out; simp [intOf]; omega
    · obtain rfl : k = t.need.length := by omega
      have HI := Lib.hid hin
      have HX := Lib.hid (HW.out.trans (hbr.mono HW.out.size))
      have hd : decide ((t.need.length : Int) < (t.need.length : Int)) = false := by simp
      clear hin hbr
      go_wp2_with fail
      go_ret
      exact ⟨ret_int (by rw [H.out, if_pos HI.out]), HX.out⟩

end Go.Proofs.Ytfafjojoapcliaa

/- Which tasks are valid: both sides walked. -/
import Derived.Test.YtfafjojoapcliaaQ0
namespace Go.Proofs.Ytfafjojoapcliaa
open Go.RowKit

set_option maxHeartbeats 1000000 in
theorem inOrder_c (lo hi a b : Int) (w : World) :
    Calls Try.prog 61 #[spanV lo hi, .int .i64 a, .int .i64 b] w fun e w' => e = .returned (.bool (ordB lo hi a b)) ∧ Below w.heap.size w w' := by
  by_cases h1 : a ≤ lo
  · by_cases h2 : lo ≤ hi
    · by_cases h3 : hi ≤ b
      · have H := Lib.hid (show ordB lo hi a b = true by simp [ordB, h1, h2, h3])
        have e1 : decide (a ≤ lo) = true := by simpa using h1
        have e2 : decide (lo ≤ hi) = true := by simpa using h2
        have e3 : decide (hi ≤ b) = true := by simpa using h3
        go_enter Try.func61, Try.ntmps61
        go_wp2
        go_ret
        exact ⟨ret_bool H.out.symm, (Below.refl _ _).alloc (Nat.le_refl _) _⟩
      · have H := Lib.hid (show ordB lo hi a b = false by simp [ordB, h3])
        have e1 : decide (a ≤ lo) = true := by simpa using h1
        have e2 : decide (lo ≤ hi) = true := by simpa using h2
        have e3 : decide (hi ≤ b) = false := by simpa using h3
        go_enter Try.func61, Try.ntmps61
        go_wp2
        go_ret
        exact ⟨ret_bool H.out.symm, (Below.refl _ _).alloc (Nat.le_refl _) _⟩
    · have H := Lib.hid (show ordB lo hi a b = false by simp [ordB, h2])
      have e1 : decide (a ≤ lo) = true := by simpa using h1
      have e2 : decide (lo ≤ hi) = false := by simpa using h2
      go_enter Try.func61, Try.ntmps61
      go_wp2
      go_ret
      exact ⟨ret_bool H.out.symm, (Below.refl _ _).alloc (Nat.le_refl _) _⟩
  · have H := Lib.hid (show ordB lo hi a b = false by simp [ordB, h1])
    have e1 : decide (a ≤ lo) = false := by simpa using h1
    go_enter Try.func61, Try.ntmps61
    go_wp2
    go_ret
    exact ⟨ret_bool H.out.symm, (Below.refl _ _).alloc (Nat.le_refl _) _⟩

set_option maxHeartbeats 1000000 in
theorem rwithin_c (n a b : Int) (w : World) :
    Calls Try.prog 60 #[.int .i64 n, .int .i64 a, .int .i64 b] w fun e w' => e = .returned (.bool (inB n a b)) ∧ w = w' := by
  by_cases h1 : a ≤ n
  · have H := Lib.hid (show inB n a b = decide (n ≤ b) by simp [inB, h1])
    have e1 : decide (a ≤ n) = true := by simpa using h1
    go_enter Try.func60, Try.ntmps60
    go_wp2
    go_ret
    exact ⟨ret_bool H.out.symm, rfl⟩
  · have H := Lib.hid (show inB n a b = false by simp [inB, h1])
    have e1 : decide (a ≤ n) = false := by simpa using h1
    go_enter Try.func60, Try.ntmps60
    go_wp2
    go_ret
    exact ⟨ret_bool H.out.symm, rfl⟩


set_option maxHeartbeats 2000000 in
theorem Check_c (t : Tk) (v : Value) (w : World) (h : IsTask w w.heap.size v t) :
    Calls Try.prog 35 #[v] w fun e w' => e = .returned (.int .i64 (tkE t)) ∧ Below w.heap.size w w' := by
  obtain ⟨s, rfl, A, c, rfl, hcap, hcell⟩ := h
  have hB1 : ∀ o : Obj, Below w.heap.size w (w.alloc o) := fun o => (Below.refl _ _).alloc (Nat.le_refl _) o
  by_cases h1 : (400 : Int) < (t.need.length : Int)
  · have H := Lib.hid (show tkE t = 50 from tkE_sz (by cases hs : szB t; rfl; rw [szB_iff] at hs; omega))
    have e1 : decide ((400 : Int) < (t.need.length : Int)) = true := by simpa using h1
    have e2 : decide (400 < t.need.length) = true := by simp; omega
    clear hcell h1
    go_enter Try.func35, Try.ntmps35
    go_wp2
    go_ret
    exact ⟨ret_int H.out.symm, hB1 _⟩
  have e1 : decide ((400 : Int) < (t.need.length : Int)) = false := by simpa using h1
  have e1' : decide (400 < t.need.length) = false := by simp; omega
  by_cases h2 : t.wide < 1
  · have H := Lib.hid (show tkE t = 50 from tkE_sz (by cases hs : szB t; rfl; rw [szB_iff] at hs; omega))
    have e2 : decide (t.wide < 1) = true := by simpa using h2
    clear hcell h1 h2
    go_enter Try.func35, Try.ntmps35
    go_wp2
    go_ret
    exact ⟨ret_int H.out.symm, hB1 _⟩
  have e2 : decide (t.wide < 1) = false := by simpa using h2
  by_cases h3 : (t.need.length : Int) < t.wide
  · have H := Lib.hid (show tkE t = 50 from tkE_sz (by cases hs : szB t; rfl; rw [szB_iff] at hs; omega))
    have e3 : decide ((t.need.length : Int) < t.wide) = true := by simpa using h3
    clear hcell h1 h2 h3
    go_enter Try.func35, Try.ntmps35
    go_wp2
    go_ret
    exact ⟨ret_int H.out.symm, hB1 _⟩
  have e3 : decide ((t.need.length : Int) < t.wide) = false := by simpa using h3
  have H := Lib.hid (tkE_all (show szB t = true by rw [szB_iff]; omega))
  have hlen : t.need.length ≤ 400 := by omega
  clear h1 h2 h3
  go_enter Try.func35, Try.ntmps35
  go_wp2_with fail
  go_loopw [25] (fun i wr => ∃ k : Nat, k ≤ t.need.length ∧ i = .int .i64 (k : Int) ∧ (t.need.take k).all okP = true ∧ Below w.heap.size w wr) (fun i _ => t.need.length - (intOf i).toNat)
  case atStart => exact ⟨0, Nat.zero_le _, rfl, rfl, hB1 _⟩
  case round =>
    obtain ⟨k, hk, rfl, hall, hbr⟩ := hrel
    have Hall := Lib.hid hall
    clear hall
    by_cases hlt : k < t.need.length
    · obtain ⟨b, off, rfl, hbB, hcc⟩ := hcell (by omega)
      obtain ⟨y0, y1⟩ := hcc k hlt
      have q0 := keepd y0 hbr hbB
      have q1 := keepd y1 hbr hbB
      have hd : decide ((k : Int) < (t.need.length : Int)) = true := by simpa using hlt
      clear hcell hcc y0 y1
      cases hq : okP (nthP t.need k)
      · have Hf := Lib.hid (allP_false hlt hq)
        have Hq := Lib.hid (show ordB (nthP t.need k).1 (nthP t.need k).2 0 100000 = false from hq)
        clear hq
        go_wp2_with fail
        refine (inOrder_c _ _ _ _ _).mono ?_; rintro e w2 ⟨rfl, hb2⟩
        rw [Hq.out]
        go_wp2_with fail
        go_ret
        exact ⟨ret_int (by rw [H.out, Hf.out]; rfl), hbr.trans ((boxed hb2).mono hbr.size)⟩
      · have Hf := Lib.hid (allP_snoc (q := okP) hlt)
        have Hq := Lib.hid (show ordB (nthP t.need k).1 (nthP t.need k).2 0 100000 = true from hq)
        have Hq' := Lib.hid hq
        clear hq
        go_wp2_with fail
        refine (inOrder_c _ _ _ _ _).mono ?_; rintro e w2 ⟨rfl, hb2⟩
        rw [Hq.out]
        go_wp2_with fail
        go_roundw
        case rel => exact ⟨k + 1, by omega, by go_num, by rw [Hf.out, Hall.out, Hq'.out]; rfl, hbr.trans ((boxed hb2).mono hbr.size)⟩
        case measure => simp [intOf]; omega
    · obtain rfl : k = t.need.length := by omega
      have hd : decide ((t.need.length : Int) < (t.need.length : Int)) = false := by simp
      clear hcell
      go_wp2_with fail
      go_ret
      exact ⟨ret_int (by rw [H.out, if_pos (by rw [← Hall.out, List.take_length])]), hbr⟩

theorem rwithin_b (n a b : Int) (r : Bool) (h : inB n a b = r) (w : World) : Calls Try.prog 60 #[.int .i64 n, .int .i64 a, .int .i64 b] w fun e w' => e = .returned (.bool r) ∧ w = w' :=
  (rwithin_c n a b w).mono fun _ _ ⟨h1, h2⟩ => ⟨h1.trans (ret_bool h), h2⟩

set_option maxRecDepth 100000 in
set_option maxHeartbeats 4000000 in
theorem rCheck_c (t : Tk) (v : Value) (w : World) (h : IsTask w w.heap.size v t) :
    Calls Try.prog 33 #[v] w fun e w' => e = .returned (.int .i64 (tkE t)) ∧ Below w.heap.size w w' := by
  obtain ⟨s, rfl, A, c, rfl, hcap, hcell⟩ := h
  have hB1 : ∀ o : Obj, Below w.heap.size w (w.alloc o) := fun o => (Below.refl _ _).alloc (Nat.le_refl _) o
  by_cases h1 : inB (t.need.length : Int) 1 400 = true
  case neg =>
    have H := Lib.hid (show tkE t = 50 from tkE_sz (by cases hs : szB t; rfl; rw [szB_iff] at hs; rw [inB_iff] at h1; omega))
    have h1' : inB (t.need.length : Int) 1 400 = false := by simpa using h1
    have H1 := Lib.hid h1'
    clear hcell h1 h1'
    go_enter Try.func33, Try.ntmps33
    go_wp2_with fail
    refine (rwithin_b _ _ _ false H1.out _).mono ?_; rintro e w' ⟨rfl, rfl⟩
    go_wp2_with fail
    go_ret
    exact ⟨ret_int H.out.symm, hB1 _⟩
  have h1' := inB_iff.1 h1
  have H1 := Lib.hid h1
  clear h1
  by_cases h2 : inB t.wide 1 (t.need.length : Int) = true
  case neg =>
    have H := Lib.hid (show tkE t = 50 from tkE_sz (by cases hs : szB t; rfl; rw [szB_iff] at hs; rw [inB_iff] at h2; omega))
    have h2' : inB t.wide 1 (t.need.length : Int) = false := by simpa using h2
    have H2 := Lib.hid h2'
    clear hcell h2 h1' h2'
    go_enter Try.func33, Try.ntmps33
    go_wp2_with fail
    refine (rwithin_b _ _ _ true H1.out _).mono ?_; rintro e w' ⟨rfl, rfl⟩
    go_wp2_with fail
    refine (rwithin_b _ _ _ false H2.out _).mono ?_; rintro e w' ⟨rfl, rfl⟩
    go_wp2_with fail
    go_ret
    exact ⟨ret_int H.out.symm, hB1 _⟩
  have h2' := inB_iff.1 h2
  have H2 := Lib.hid h2
  have H := Lib.hid (tkE_all (show szB t = true by rw [szB_iff]; omega))
  have hlen : t.need.length ≤ 400 := by omega
  clear h2 h1' h2'
  go_enter Try.func33, Try.ntmps33
  go_wp2_with fail
  refine (rwithin_b _ _ _ true H1.out _).mono ?_; rintro e w' ⟨rfl, rfl⟩
  go_wp2_with fail
  refine (rwithin_b _ _ _ true H2.out _).mono ?_; rintro e w' ⟨rfl, rfl⟩
  go_wp2_with fail
  have hb0 := Box.made w 24 #[.int .i64 t.wide, .slice A t.need.length c]
  go_loopw [3] (fun i wr => ∃ k : Nat, k ≤ t.need.length ∧ i = .int .i64 (k : Int) ∧ (t.need.take k).all okP = true ∧ Below w.heap.size w wr ∧ Box wr w.heap.size 24 #[.int .i64 t.wide, .slice A t.need.length c]) (fun i _ => t.need.length - (intOf i).toNat)
  case atStart => exact ⟨0, Nat.zero_le _, rfl, rfl, hB1 _, hb0⟩
  case round =>
    clear hb0
    obtain ⟨k, hk, rfl, hall, hbr, hbx⟩ := hrel
    have Hall := Lib.hid hall
    clear hall
    have k1 : wr.cell? ⟨w.heap.size, 1, none⟩ = some (.slice A t.need.length c) := hbx.cell 1
    by_cases hlt : k < t.need.length
    · obtain ⟨b, off, rfl, hbB, hcc⟩ := hcell (by omega)
      obtain ⟨y0, y1⟩ := hcc k hlt
      have q0 := keepd y0 hbr hbB
      have q1 := keepd y1 hbr hbB
      have hd : decide ((k : Int) < (t.need.length : Int)) = true := by simpa using hlt
      have i0 : (0 : Int) ≤ (k : Int) := Int.natCast_nonneg _
      have i1 : (k : Int) < (t.need.length : Int) := by omega
      have Hs := Lib.hid (allP_snoc (q := okP) hlt)
      have Hf := Lib.hid (allP_false (q := okP) hlt)
      have Hlt := Lib.hid hlt
      clear hcell hcc y0 y1
      have Hp := Lib.hid (show okP (nthP t.need k) = ordB (nthP t.need k).1 (nthP t.need k).2 0 100000 from rfl)
      generalize (nthP t.need k).1 = lo at *
      generalize (nthP t.need k).2 = hi at *
      have hbd : ∀ nq, Below w.heap.size w (wr.drewN nq) := fun nq => ⟨hbr.os, hbr.tape, hbr.output, hbr.size, hbr.block⟩
      have hbxd : ∀ nq, Box (wr.drewN nq) w.heap.size 24 #[.int .i64 t.wide, .slice (some ⟨b, off, none⟩) t.need.length c] := fun nq => hbx
      by_cases c1 : lo < 0
      · have d1 : decide (lo < 0) = true := by simpa using c1
        have Hn := Lib.hid (Hf.out (by rw [Hp.out]; simp [ordB]; omega))
        go_wp2_with fail
        go_quiet (fail)
        go_wp2_with fail
        go_ret
        exact ⟨ret_int (by rw [H.out, Hn.out]; rfl), hbd _⟩
      have d1 : decide (lo < 0) = false := by simpa using c1
      by_cases c2 : hi < lo
      · have d2 : decide (hi < lo) = true := by simpa using c2
        have Hn := Lib.hid (Hf.out (by rw [Hp.out]; simp [ordB]; omega))
        go_wp2_with fail
        go_quiet (fail)
        go_wp2_with fail
        go_ret
        exact ⟨ret_int (by rw [H.out, Hn.out]; rfl), hbd _⟩
      have d2 : decide (hi < lo) = false := by simpa using c2
      by_cases c3 : 100000 < hi
      · have d3 : decide (100000 < hi) = true := by simpa using c3
        have Hn := Lib.hid (Hf.out (by rw [Hp.out]; simp [ordB]; omega))
        go_wp2_with fail
        go_quiet (fail)
        go_wp2_with fail
        go_ret
        exact ⟨ret_int (by rw [H.out, Hn.out]; rfl), hbd _⟩
      have d3 : decide (100000 < hi) = false := by simpa using c3
      have Hy := Lib.hid (show okP (nthP t.need k) = true by rw [Hp.out, ordB_iff]; omega)
      go_wp2_with fail
      go_quiet (fail)
      go_wp2_with fail
      go_roundw
      case rel => exact ⟨k + 1, Hlt.out, by go_num, by rw [Hs.out, Hall.out, Hy.out]; rfl, hbd _, hbxd _⟩
      case measure => have := Hlt.out; simp [intOf]; omega
    · obtain rfl : k = t.need.length := by omega
      have hd : decide ((t.need.length : Int) < (t.need.length : Int)) = false := by simp
      clear hcell
      go_wp2_with fail
      go_ret
      exact ⟨ret_int (by rw [H.out, if_pos (by rw [← Hall.out, List.take_length])]), hbr⟩

end Go.Proofs.Ytfafjojoapcliaa

/- Heights after some strokes. -/
import Derived.Test.YtfhbpeafapabhaaV1
namespace Go.Proofs.Ytfhbpeafapabhaa
open Go.RowKit

def okH (lo hi : Int) : Bool := ordB lo hi (-1000000000) 1000000000
def okD (lo hi : Int) : Bool := ordB lo hi 1 1000000000
def okS (n : Int) : Bool := inB n 0 100000

theorem isHeight_k (lo hi : Int) (b : Bool) (h : okH lo hi = b) (w : World) : Calls Try.prog 87 #[spanV lo hi] w fun e w' => e = .returned (.bool b) ∧ Below w.heap.size w w' :=
  (isHeight_c lo hi w).mono fun _ _ ⟨h1, h2⟩ => ⟨h1.trans (ret_bool h), h2⟩
theorem isDepth_k (lo hi : Int) (b : Bool) (h : okD lo hi = b) (w : World) : Calls Try.prog 88 #[spanV lo hi] w fun e w' => e = .returned (.bool b) ∧ Below w.heap.size w w' :=
  (isDepth_c lo hi w).mono fun _ _ ⟨h1, h2⟩ => ⟨h1.trans (ret_bool h), h2⟩
theorem rIsHeight_k (lo hi : Int) (b : Bool) (h : okH lo hi = b) (w : World) : Calls Try.prog 89 #[spanV lo hi] w fun e w' => e = .returned (.bool b) ∧ Below w.heap.size w w' :=
  (rIsHeight_c lo hi w).mono fun _ _ ⟨h1, h2⟩ => ⟨h1.trans (ret_bool h), h2⟩
theorem rIsDepth_k (lo hi : Int) (b : Bool) (h : okD lo hi = b) (w : World) : Calls Try.prog 90 #[spanV lo hi] w fun e w' => e = .returned (.bool b) ∧ Below w.heap.size w w' :=
  (rIsDepth_c lo hi w).mono fun _ _ ⟨h1, h2⟩ => ⟨h1.trans (ret_bool h), h2⟩
theorem rwithin_k (n : Int) (b : Bool) (h : okS n = b) (w : World) : Calls Try.prog 73 #[.int .i64 n, .int .i64 0, .int .i64 100000] w fun e w' => e = .returned (.bool b) ∧ w = w' :=
  (rwithin_c n 0 100000 w).mono fun _ _ ⟨h1, h2⟩ => ⟨h1.trans (ret_bool h), h2⟩

/-- three boxes, and what calls make behind them -/
theorem boxed3 {w w1 : World} {o1 o2 o3 : Obj} (h : Below (((w.alloc o1).alloc o2).alloc o3).heap.size (((w.alloc o1).alloc o2).alloc o3) w1) : Below w.heap.size w w1 := boxed (boxed (boxed h))

def noSpan (e : Int) : Value := .tuple #[spanV 0 0, .int .i64 e]


theorem mul_bounds {a b A B : Int} (h0 : 0 ≤ a) (h1 : a ≤ A) (h2 : 0 ≤ b) (h3 : b ≤ B) : 0 ≤ a * b ∧ a * b ≤ A * B :=
  ⟨Int.mul_nonneg h0 h2, Int.mul_le_mul h1 h3 h2 (by omega)⟩
theorem okS_iff {n : Int} : okS n = true ↔ 0 ≤ n ∧ n ≤ 100000 := by unfold okS inB; simp
theorem okD_iff {a b : Int} : okD a b = true ↔ 1 ≤ a ∧ a ≤ b ∧ b ≤ 1000000000 := ordB_iff
theorem okH_iff {a b : Int} : okH a b = true ↔ -1000000000 ≤ a ∧ a ≤ b ∧ b ≤ 1000000000 := ordB_iff

set_option maxHeartbeats 2000000 in
theorem falls_bad1 (hl hh dl dh n : Int) (h1 : okH hl hh = false) (w : World) :
    Calls Try.prog 41 #[spanV hl hh, spanV dl dh, .int .i64 n] w fun e w' => e = .returned (noSpan 1) ∧ Below w.heap.size w w' := by
  go_enter Try.func41, Try.ntmps41
  go_wp2_with fail
  (go_at_call 87; refine (isHeight_k _ _ false h1 _).mono ?_; rintro e w1 ⟨rfl, hb1⟩; obtain ⟨hc1, hf1⟩ := bcell hb1)
  have hz1 := hb1.size
  try simp at hz1
  have hy10 : w.heap.size < w1.heap.size := by omega
  have hy11 : w.heap.size + 1 < w1.heap.size := by omega
  have hy12 : w.heap.size + 1 + 1 < w1.heap.size := by omega
  go_wp2_with fail
  exact bodyPost_ret (v := noSpan 1) (by simp [results, Try.results41, go_sem, hc1, noSpan]) rfl ⟨rfl, ((boxed3 hb1).setCell (by simp; omega) _).setCell (by simp; omega) _⟩

set_option maxHeartbeats 2000000 in
theorem falls_bad2 (hl hh dl dh n : Int) (h1 : okH hl hh = true) (h2 : okD dl dh = false) (w : World) :
    Calls Try.prog 41 #[spanV hl hh, spanV dl dh, .int .i64 n] w fun e w' => e = .returned (noSpan 1) ∧ Below w.heap.size w w' := by
  go_enter Try.func41, Try.ntmps41
  go_wp2_with fail
  (go_at_call 87; refine (isHeight_k _ _ true h1 _).mono ?_; rintro e w1 ⟨rfl, hb1⟩; obtain ⟨hc1, hf1⟩ := bcell hb1)
  have hz1 := hb1.size
  try simp at hz1
  have hy10 : w.heap.size < w1.heap.size := by omega
  have hy11 : w.heap.size + 1 < w1.heap.size := by omega
  have hy12 : w.heap.size + 1 + 1 < w1.heap.size := by omega
  go_wp2_with fail
  (go_at_call 88; refine (isDepth_k _ _ false h2 _).mono ?_; rintro e w2 ⟨rfl, hb2⟩; obtain ⟨hc2, hf2⟩ := bcell hb2)
  have hz2 := hb2.size
  try simp at hz2
  have hy20 : w.heap.size < w2.heap.size := by omega
  have hy21 : w.heap.size + 1 < w2.heap.size := by omega
  have hy22 : w.heap.size + 1 + 1 < w2.heap.size := by omega
  go_wp2_with fail
  exact bodyPost_ret (v := noSpan 1) (by simp [results, Try.results41, go_sem, hc1, hc2, hy12, noSpan]) rfl ⟨rfl, (((boxed3 hb1).trans (hb2.mono (by omega))).setCell (by simp; omega) _).setCell (by simp; omega) _⟩

set_option maxHeartbeats 2000000 in
theorem falls_bad3 (hl hh dl dh n : Int) (h1 : okH hl hh = true) (h2 : okD dl dh = true) (hn : n < 0) (w : World) :
    Calls Try.prog 41 #[spanV hl hh, spanV dl dh, .int .i64 n] w fun e w' => e = .returned (noSpan 1) ∧ Below w.heap.size w w' := by
  have e1 : decide (n < 0) = true := by simpa using hn
  go_enter Try.func41, Try.ntmps41
  go_wp2_with fail
  (go_at_call 87; refine (isHeight_k _ _ true h1 _).mono ?_; rintro e w1 ⟨rfl, hb1⟩; obtain ⟨hc1, hf1⟩ := bcell hb1)
  have hz1 := hb1.size
  try simp at hz1
  have hy10 : w.heap.size < w1.heap.size := by omega
  have hy11 : w.heap.size + 1 < w1.heap.size := by omega
  have hy12 : w.heap.size + 1 + 1 < w1.heap.size := by omega
  go_wp2_with fail
  (go_at_call 88; refine (isDepth_k _ _ true h2 _).mono ?_; rintro e w2 ⟨rfl, hb2⟩; obtain ⟨hc2, hf2⟩ := bcell hb2)
  have hz2 := hb2.size
  try simp at hz2
  have hy20 : w.heap.size < w2.heap.size := by omega
  have hy21 : w.heap.size + 1 < w2.heap.size := by omega
  have hy22 : w.heap.size + 1 + 1 < w2.heap.size := by omega
  go_wp2_with fail
  exact bodyPost_ret (v := noSpan 1) (by simp [results, Try.results41, go_sem, hc1, hc2, hy12, noSpan]) rfl ⟨rfl, (((boxed3 hb1).trans (hb2.mono (by omega))).setCell (by simp; omega) _).setCell (by simp; omega) _⟩

set_option maxHeartbeats 2000000 in
theorem falls_bad4 (hl hh dl dh n : Int) (h1 : okH hl hh = true) (h2 : okD dl dh = true) (hn : 100000 < n) (w : World) :
    Calls Try.prog 41 #[spanV hl hh, spanV dl dh, .int .i64 n] w fun e w' => e = .returned (noSpan 1) ∧ Below w.heap.size w w' := by
  have e1 : decide (n < 0) = false := by simp; omega
  have e2 : decide (100000 < n) = true := by simpa using hn
  go_enter Try.func41, Try.ntmps41
  go_wp2_with fail
  (go_at_call 87; refine (isHeight_k _ _ true h1 _).mono ?_; rintro e w1 ⟨rfl, hb1⟩; obtain ⟨hc1, hf1⟩ := bcell hb1)
  have hz1 := hb1.size
  try simp at hz1
  have hy10 : w.heap.size < w1.heap.size := by omega
  have hy11 : w.heap.size + 1 < w1.heap.size := by omega
  have hy12 : w.heap.size + 1 + 1 < w1.heap.size := by omega
  go_wp2_with fail
  (go_at_call 88; refine (isDepth_k _ _ true h2 _).mono ?_; rintro e w2 ⟨rfl, hb2⟩; obtain ⟨hc2, hf2⟩ := bcell hb2)
  have hz2 := hb2.size
  try simp at hz2
  have hy20 : w.heap.size < w2.heap.size := by omega
  have hy21 : w.heap.size + 1 < w2.heap.size := by omega
  have hy22 : w.heap.size + 1 + 1 < w2.heap.size := by omega
  go_wp2_with fail
  exact bodyPost_ret (v := noSpan 1) (by simp [results, Try.results41, go_sem, hc1, hc2, hy12, noSpan]) rfl ⟨rfl, (((boxed3 hb1).trans (hb2.mono (by omega))).setCell (by simp; omega) _).setCell (by simp; omega) _⟩

set_option maxHeartbeats 2000000 in
theorem falls_good (hl hh dl dh n : Int) (h1 : okH hl hh = true) (h2 : okD dl dh = true) (h3 : okS n = true) (w : World) :
    Calls Try.prog 41 #[spanV hl hh, spanV dl dh, .int .i64 n] w fun e w' => e = .returned (.tuple #[spanV (hl - n * dh) (hh - n * dl), .int .i64 0]) ∧ Below w.heap.size w w' := by
  have n0 : 0 ≤ n := (okS_iff.1 h3).1
  have n1 : n ≤ 100000 := (okS_iff.1 h3).2
  obtain ⟨d1, d2, d3⟩ := okD_iff.1 h2
  obtain ⟨g1, g2, g3⟩ := okH_iff.1 h1
  have m1 := (mul_bounds n0 n1 (show 0 ≤ dh by omega) d3)
  have m2 := (mul_bounds n0 n1 (show 0 ≤ dl by omega) (show dl ≤ 1000000000 by omega))
  have b1 := m1.1
  have b2 := m1.2
  have b3 := m2.1
  have b4 := m2.2
  clear m1 m2
  have e1 : decide (n < 0) = false := by simp; omega
  have e2 : decide (100000 < n) = false := by simp; omega
  go_enter Try.func41, Try.ntmps41
  go_wp2_with fail
  (go_at_call 87; refine (isHeight_k _ _ true h1 _).mono ?_; rintro e w1 ⟨rfl, hb1⟩; obtain ⟨hc1, hf1⟩ := bcell hb1)
  have hz1 := hb1.size
  try simp at hz1
  have hy10 : w.heap.size < w1.heap.size := by omega
  have hy11 : w.heap.size + 1 < w1.heap.size := by omega
  have hy12 : w.heap.size + 1 + 1 < w1.heap.size := by omega
  go_wp2_with fail
  (go_at_call 88; refine (isDepth_k _ _ true h2 _).mono ?_; rintro e w2 ⟨rfl, hb2⟩; obtain ⟨hc2, hf2⟩ := bcell hb2)
  have hz2 := hb2.size
  try simp at hz2
  have hy20 : w.heap.size < w2.heap.size := by omega
  have hy21 : w.heap.size + 1 < w2.heap.size := by omega
  have hy22 : w.heap.size + 1 + 1 < w2.heap.size := by omega
  go_wp2_with fail
  exact bodyPost_ret (v := .tuple #[spanV (hl - n * dh) (hh - n * dl), .int .i64 0]) (by simp [results, Try.results41, go_sem, hc1, hc2, hy12]) rfl ⟨rfl, (((boxed3 hb1).trans (hb2.mono (by omega))).setCell (by simp; omega) _).setCell (by simp; omega) _⟩

set_option maxHeartbeats 2000000 in
theorem rfalls_bad1 (hl hh dl dh n : Int) (h1 : okH hl hh = false) (w : World) :
    Calls Try.prog 42 #[spanV hl hh, spanV dl dh, .int .i64 n] w fun e w' => e = .returned (noSpan 1) ∧ Below w.heap.size w w' := by
  go_enter Try.func42, Try.ntmps42
  go_wp2_with fail
  (go_at_call 89; refine (rIsHeight_k _ _ false h1 _).mono ?_; rintro e w1 ⟨rfl, hb1⟩; obtain ⟨hc1, hf1⟩ := bcell hb1)
  have hz1 := hb1.size
  try simp at hz1
  have hy10 : w.heap.size < w1.heap.size := by omega
  have hy11 : w.heap.size + 1 < w1.heap.size := by omega
  have hy12 : w.heap.size + 1 + 1 < w1.heap.size := by omega
  go_wp2_with fail
  exact bodyPost_ret (v := noSpan 1) (by simp [results, Try.results42, go_sem, hc1, noSpan]) rfl ⟨rfl, ((boxed3 hb1).setCell (by simp; omega) _).setCell (by simp; omega) _⟩

set_option maxHeartbeats 2000000 in
theorem rfalls_bad2 (hl hh dl dh n : Int) (h1 : okH hl hh = true) (h2 : okD dl dh = false) (w : World) :
    Calls Try.prog 42 #[spanV hl hh, spanV dl dh, .int .i64 n] w fun e w' => e = .returned (noSpan 1) ∧ Below w.heap.size w w' := by
  go_enter Try.func42, Try.ntmps42
  go_wp2_with fail
  (go_at_call 89; refine (rIsHeight_k _ _ true h1 _).mono ?_; rintro e w1 ⟨rfl, hb1⟩; obtain ⟨hc1, hf1⟩ := bcell hb1)
  have hz1 := hb1.size
  try simp at hz1
  have hy10 : w.heap.size < w1.heap.size := by omega
  have hy11 : w.heap.size + 1 < w1.heap.size := by omega
  have hy12 : w.heap.size + 1 + 1 < w1.heap.size := by omega
  go_wp2_with fail
  (go_at_call 90; refine (rIsDepth_k _ _ false h2 _).mono ?_; rintro e w2 ⟨rfl, hb2⟩; obtain ⟨hc2, hf2⟩ := bcell hb2)
  have hz2 := hb2.size
  try simp at hz2
  have hy20 : w.heap.size < w2.heap.size := by omega
  have hy21 : w.heap.size + 1 < w2.heap.size := by omega
  have hy22 : w.heap.size + 1 + 1 < w2.heap.size := by omega
  go_wp2_with fail
  exact bodyPost_ret (v := noSpan 1) (by simp [results, Try.results42, go_sem, hc1, hc2, hy12, noSpan]) rfl ⟨rfl, (((boxed3 hb1).trans (hb2.mono (by omega))).setCell (by simp; omega) _).setCell (by simp; omega) _⟩

set_option maxHeartbeats 2000000 in
theorem rfalls_bad3 (hl hh dl dh n : Int) (h1 : okH hl hh = true) (h2 : okD dl dh = true) (h3 : okS n = false) (w : World) :
    Calls Try.prog 42 #[spanV hl hh, spanV dl dh, .int .i64 n] w fun e w' => e = .returned (noSpan 1) ∧ Below w.heap.size w w' := by
  go_enter Try.func42, Try.ntmps42
  go_wp2_with fail
  (go_at_call 89; refine (rIsHeight_k _ _ true h1 _).mono ?_; rintro e w1 ⟨rfl, hb1⟩; obtain ⟨hc1, hf1⟩ := bcell hb1)
  have hz1 := hb1.size
  try simp at hz1
  have hy10 : w.heap.size < w1.heap.size := by omega
  have hy11 : w.heap.size + 1 < w1.heap.size := by omega
  have hy12 : w.heap.size + 1 + 1 < w1.heap.size := by omega
  go_wp2_with fail
  (go_at_call 90; refine (rIsDepth_k _ _ true h2 _).mono ?_; rintro e w2 ⟨rfl, hb2⟩; obtain ⟨hc2, hf2⟩ := bcell hb2)
  have hz2 := hb2.size
  try simp at hz2
  have hy20 : w.heap.size < w2.heap.size := by omega
  have hy21 : w.heap.size + 1 < w2.heap.size := by omega
  have hy22 : w.heap.size + 1 + 1 < w2.heap.size := by omega
  go_wp2_with fail
  (go_at_call 73; refine (rwithin_k _ false h3 _).mono ?_; rintro e w' ⟨rfl, rfl⟩)
  go_wp2_with fail
  exact bodyPost_ret (v := noSpan 1) (by simp [results, Try.results42, go_sem, hc1, hc2, hy12, noSpan]) rfl ⟨rfl, (((boxed3 hb1).trans (hb2.mono (by omega))).setCell (by simp; omega) _).setCell (by simp; omega) _⟩

set_option maxHeartbeats 2000000 in
theorem rfalls_good (hl hh dl dh n : Int) (h1 : okH hl hh = true) (h2 : okD dl dh = true) (h3 : okS n = true) (w : World) :
    Calls Try.prog 42 #[spanV hl hh, spanV dl dh, .int .i64 n] w fun e w' => e = .returned (.tuple #[spanV (hl - n * dh) (hh - n * dl), .int .i64 0]) ∧ Below w.heap.size w w' := by
  have n0 : 0 ≤ n := (okS_iff.1 h3).1
  have n1 : n ≤ 100000 := (okS_iff.1 h3).2
  obtain ⟨d1, d2, d3⟩ := okD_iff.1 h2
  obtain ⟨g1, g2, g3⟩ := okH_iff.1 h1
  have m1 := (mul_bounds n0 n1 (show 0 ≤ dh by omega) d3)
  have m2 := (mul_bounds n0 n1 (show 0 ≤ dl by omega) (show dl ≤ 1000000000 by omega))
  have b1 := m1.1
  have b2 := m1.2
  have b3 := m2.1
  have b4 := m2.2
  clear m1 m2
  go_enter Try.func42, Try.ntmps42
  go_wp2_with fail
  (go_at_call 89; refine (rIsHeight_k _ _ true h1 _).mono ?_; rintro e w1 ⟨rfl, hb1⟩; obtain ⟨hc1, hf1⟩ := bcell hb1)
  have hz1 := hb1.size
  try simp at hz1
  have hy10 : w.heap.size < w1.heap.size := by omega
  have hy11 : w.heap.size + 1 < w1.heap.size := by omega
  have hy12 : w.heap.size + 1 + 1 < w1.heap.size := by omega
  go_wp2_with fail
  (go_at_call 90; refine (rIsDepth_k _ _ true h2 _).mono ?_; rintro e w2 ⟨rfl, hb2⟩; obtain ⟨hc2, hf2⟩ := bcell hb2)
  have hz2 := hb2.size
  try simp at hz2
  have hy20 : w.heap.size < w2.heap.size := by omega
  have hy21 : w.heap.size + 1 < w2.heap.size := by omega
  have hy22 : w.heap.size + 1 + 1 < w2.heap.size := by omega
  go_wp2_with fail
  (go_at_call 73; refine (rwithin_k _ true h3 _).mono ?_; rintro e w' ⟨rfl, rfl⟩)
  go_wp2_with fail
  exact bodyPost_ret (v := .tuple #[spanV (hl - n * dh) (hh - n * dl), .int .i64 0]) (by simp [results, Try.results42, go_sem, hc1, hc2, hy12]) rfl ⟨rfl, (((boxed3 hb1).trans (hb2.mono (by omega))).setCell (by simp; omega) _).setCell (by simp; omega) _⟩

/-- what Falls hands back -/
def fallsV (hl hh dl dh n : Int) : Value := if okH hl hh = true ∧ okD dl dh = true ∧ okS n = true then .tuple #[spanV (hl - n * dh) (hh - n * dl), .int .i64 0] else noSpan 1

theorem falls_c (hl hh dl dh n : Int) (w : World) : Calls Try.prog 41 #[spanV hl hh, spanV dl dh, .int .i64 n] w fun e w' => e = .returned (fallsV hl hh dl dh n) ∧ Below w.heap.size w w' := by
  unfold fallsV
  cases h1 : okH hl hh
  · rw [if_neg (by simp)]; exact falls_bad1 hl hh dl dh n h1 w
  cases h2 : okD dl dh
  · rw [if_neg (by simp)]; exact falls_bad2 hl hh dl dh n h1 h2 w
  cases h3 : okS n
  · rw [if_neg (by simp)]
    by_cases hn : n < 0
    · exact falls_bad3 hl hh dl dh n h1 h2 hn w
    · refine falls_bad4 hl hh dl dh n h1 h2 ?_ w
      have : ¬ okS n = true := by rw [h3]; simp
      rw [okS_iff] at this; omega
  · rw [if_pos ⟨rfl, rfl, rfl⟩]; exact falls_good hl hh dl dh n h1 h2 h3 w
theorem rfalls_c (hl hh dl dh n : Int) (w : World) : Calls Try.prog 42 #[spanV hl hh, spanV dl dh, .int .i64 n] w fun e w' => e = .returned (fallsV hl hh dl dh n) ∧ Below w.heap.size w w' := by
  unfold fallsV
  cases h1 : okH hl hh
  · rw [if_neg (by simp)]; exact rfalls_bad1 hl hh dl dh n h1 w
  cases h2 : okD dl dh
  · rw [if_neg (by simp)]; exact rfalls_bad2 hl hh dl dh n h1 h2 w
  cases h3 : okS n
  · rw [if_neg (by simp)]; exact rfalls_bad3 hl hh dl dh n h1 h2 h3 w
  · rw [if_pos ⟨rfl, rfl, rfl⟩]; exact rfalls_good hl hh dl dh n h1 h2 h3 w

end Go.Proofs.Ytfhbpeafapabhaa

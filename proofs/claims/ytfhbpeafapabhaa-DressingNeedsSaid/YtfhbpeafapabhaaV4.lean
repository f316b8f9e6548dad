/- How many strokes a height needs: both sides. -/
import Derived.Test.YtfhbpeafapabhaaV3
namespace Go.Proofs.Ytfhbpeafapabhaa
open Go.RowKit

theorem boxed4 {w w1 : World} {o1 o2 o3 o4 : Obj} (h : Below ((((w.alloc o1).alloc o2).alloc o3).alloc o4).heap.size ((((w.alloc o1).alloc o2).alloc o3).alloc o4) w1) : Below w.heap.size w w1 := boxed (boxed3 h)

theorem boxed2' {w w1 : World} {o1 o2 o3 : Obj} (h : Below (((w.alloc o1).alloc o2).alloc o3).heap.size (((w.alloc o1).alloc o2).alloc o3) w1) : Below w.heap.size w w1 := boxed3 h

theorem quotient_k (n b q : Int) (hq : n / b = q) (hn : -4000000000 ≤ n) (hn2 : n ≤ 4000000000) (hb : 1 ≤ b) (hb2 : b ≤ 1000000000) (w : World) :
    Calls Try.prog 91 #[.int .i64 n, .int .i64 b] w fun e w' => e = .returned (.int .i64 q) ∧ w = w' := by
  subst hq; exact quotient_c n b hn hn2 hb hb2 w
theorem common_k (l0 h0 l1 h1 l2 h2 L H : Int) (hL : max (max l0 l1) l2 = L) (hH : min (min h0 h1) h2 = H) (g : Nat) (w : World) (hg : g < w.heap.size) (c0 : w.cell? ⟨g, 0, none⟩ = some (.int .i64 l1)) (c1 : w.cell? ⟨g, 1, none⟩ = some (.int .i64 h1))
    (c2 : w.cell? ⟨g, 2, none⟩ = some (.int .i64 l2)) (c3 : w.cell? ⟨g, 3, none⟩ = some (.int .i64 h2)) :
    Calls Try.prog 92 #[spanV l0 h0, .slice (some ⟨g, 0, none⟩) 2 2] w fun e w' => e = .returned (spanV L H) ∧ Below w.heap.size w w' := by
  subst hL hH; exact common_c l0 h0 l1 h1 l2 h2 g w hg c0 c1 c2 c3

def needLo (hh ah dl : Int) : Int := max (max ((hh - ah + dl - 1) / dl) 0) 0
def needHi (hl al dh : Int) : Int := min (min 100000 ((hl - al) / dh)) 100000

set_option maxHeartbeats 4000000 in
theorem need_bad1 (hl hh al ah dl dh : Int) (h1 : okH hl hh = false) (w : World) :
    Calls Try.prog 43 #[spanV hl hh, spanV al ah, spanV dl dh] w fun e w' => e = .returned (noSpan 1) ∧ Below w.heap.size w w' := by
  go_enter Try.func43, Try.ntmps43
  go_wp2_with fail
  (go_at_call 87; refine (isHeight_k _ _ false h1 _).mono ?_; rintro e w1 ⟨rfl, hb1⟩; obtain ⟨hc1, hf1⟩ := bcell hb1)
  have hz1 := hb1.size
  try simp at hz1
  have hy10 : w.heap.size < w1.heap.size := by omega
  have hy11 : w.heap.size + 1 < w1.heap.size := by omega
  have hy12 : w.heap.size + 1 + 1 < w1.heap.size := by omega
  have hy13 : w.heap.size + 1 + 1 + 1 < w1.heap.size := by omega
  go_wp2_with fail
  exact bodyPost_ret (v := noSpan 1) (by simp [results, Try.results43, go_sem, hc1, noSpan]) rfl ⟨rfl, ((boxed4 hb1).setCell (by simp; omega) _).setCell (by simp; omega) _⟩

set_option maxHeartbeats 4000000 in
theorem need_bad2 (hl hh al ah dl dh : Int) (h1 : okH hl hh = true) (h2 : okH al ah = false) (w : World) :
    Calls Try.prog 43 #[spanV hl hh, spanV al ah, spanV dl dh] w fun e w' => e = .returned (noSpan 1) ∧ Below w.heap.size w w' := by
  go_enter Try.func43, Try.ntmps43
  go_wp2_with fail
  (go_at_call 87; refine (isHeight_k _ _ true h1 _).mono ?_; rintro e w1 ⟨rfl, hb1⟩; obtain ⟨hc1, hf1⟩ := bcell hb1)
  have hz1 := hb1.size
  try simp at hz1
  have hy10 : w.heap.size < w1.heap.size := by omega
  have hy11 : w.heap.size + 1 < w1.heap.size := by omega
  have hy12 : w.heap.size + 1 + 1 < w1.heap.size := by omega
  have hy13 : w.heap.size + 1 + 1 + 1 < w1.heap.size := by omega
  go_wp2_with fail
  (go_at_call 87; refine (isHeight_k _ _ false h2 _).mono ?_; rintro e w2 ⟨rfl, hb2⟩; obtain ⟨hc2, hf2⟩ := bcell hb2)
  have hz2 := hb2.size
  try simp at hz2
  have hy20 : w.heap.size < w2.heap.size := by omega
  have hy21 : w.heap.size + 1 < w2.heap.size := by omega
  have hy22 : w.heap.size + 1 + 1 < w2.heap.size := by omega
  have hy23 : w.heap.size + 1 + 1 + 1 < w2.heap.size := by omega
  go_wp2_with fail
  exact bodyPost_ret (v := noSpan 1) (by simp [results, Try.results43, go_sem, hc1, hc2, hy13, noSpan]) rfl ⟨rfl, (((boxed4 hb1).trans (hb2.mono (by omega))).setCell (by simp; omega) _).setCell (by simp; omega) _⟩

set_option maxHeartbeats 4000000 in
theorem need_bad3 (hl hh al ah dl dh : Int) (h1 : okH hl hh = true) (h2 : okH al ah = true) (h3 : okD dl dh = false) (w : World) :
    Calls Try.prog 43 #[spanV hl hh, spanV al ah, spanV dl dh] w fun e w' => e = .returned (noSpan 1) ∧ Below w.heap.size w w' := by
  go_enter Try.func43, Try.ntmps43
  go_wp2_with fail
  (go_at_call 87; refine (isHeight_k _ _ true h1 _).mono ?_; rintro e w1 ⟨rfl, hb1⟩; obtain ⟨hc1, hf1⟩ := bcell hb1)
  have hz1 := hb1.size
  try simp at hz1
  have hy10 : w.heap.size < w1.heap.size := by omega
  have hy11 : w.heap.size + 1 < w1.heap.size := by omega
  have hy12 : w.heap.size + 1 + 1 < w1.heap.size := by omega
  have hy13 : w.heap.size + 1 + 1 + 1 < w1.heap.size := by omega
  go_wp2_with fail
  (go_at_call 87; refine (isHeight_k _ _ true h2 _).mono ?_; rintro e w2 ⟨rfl, hb2⟩; obtain ⟨hc2, hf2⟩ := bcell hb2)
  have hz2 := hb2.size
  try simp at hz2
  have hy20 : w.heap.size < w2.heap.size := by omega
  have hy21 : w.heap.size + 1 < w2.heap.size := by omega
  have hy22 : w.heap.size + 1 + 1 < w2.heap.size := by omega
  have hy23 : w.heap.size + 1 + 1 + 1 < w2.heap.size := by omega
  go_wp2_with fail
  (go_at_call 88; refine (isDepth_k _ _ false h3 _).mono ?_; rintro e w3 ⟨rfl, hb3⟩; obtain ⟨hc3, hf3⟩ := bcell hb3)
  have hz3 := hb3.size
  try simp at hz3
  have hy30 : w.heap.size < w3.heap.size := by omega
  have hy31 : w.heap.size + 1 < w3.heap.size := by omega
  have hy32 : w.heap.size + 1 + 1 < w3.heap.size := by omega
  have hy33 : w.heap.size + 1 + 1 + 1 < w3.heap.size := by omega
  go_wp2_with fail
  exact bodyPost_ret (v := noSpan 1) (by simp [results, Try.results43, go_sem, hc1, hc2, hc3, hy13, hy23, noSpan]) rfl ⟨rfl, ((((boxed4 hb1).trans (hb2.mono (by omega))).trans (hb3.mono (by omega))).setCell (by simp; omega) _).setCell (by simp; omega) _⟩

set_option maxHeartbeats 4000000 in
theorem rneed_bad1 (hl hh al ah dl dh : Int) (h1 : okH hl hh = false) (w : World) :
    Calls Try.prog 44 #[spanV hl hh, spanV al ah, spanV dl dh] w fun e w' => e = .returned (noSpan 1) ∧ Below w.heap.size w w' := by
  go_enter Try.func44, Try.ntmps44
  go_wp2_with fail
  (go_at_call 89; refine (rIsHeight_k _ _ false h1 _).mono ?_; rintro e w1 ⟨rfl, hb1⟩; obtain ⟨hc1, hf1⟩ := bcell hb1)
  have hz1 := hb1.size
  try simp at hz1
  have hy10 : w.heap.size < w1.heap.size := by omega
  have hy11 : w.heap.size + 1 < w1.heap.size := by omega
  have hy12 : w.heap.size + 1 + 1 < w1.heap.size := by omega
  have hy13 : w.heap.size + 1 + 1 + 1 < w1.heap.size := by omega
  go_wp2_with fail
  exact bodyPost_ret (v := noSpan 1) (by simp [results, Try.results44, go_sem, hc1, noSpan]) rfl ⟨rfl, ((boxed4 hb1).setCell (by simp; omega) _).setCell (by simp; omega) _⟩

set_option maxHeartbeats 4000000 in
theorem rneed_bad2 (hl hh al ah dl dh : Int) (h1 : okH hl hh = true) (h2 : okH al ah = false) (w : World) :
    Calls Try.prog 44 #[spanV hl hh, spanV al ah, spanV dl dh] w fun e w' => e = .returned (noSpan 1) ∧ Below w.heap.size w w' := by
  go_enter Try.func44, Try.ntmps44
  go_wp2_with fail
  (go_at_call 89; refine (rIsHeight_k _ _ true h1 _).mono ?_; rintro e w1 ⟨rfl, hb1⟩; obtain ⟨hc1, hf1⟩ := bcell hb1)
  have hz1 := hb1.size
  try simp at hz1
  have hy10 : w.heap.size < w1.heap.size := by omega
  have hy11 : w.heap.size + 1 < w1.heap.size := by omega
  have hy12 : w.heap.size + 1 + 1 < w1.heap.size := by omega
  have hy13 : w.heap.size + 1 + 1 + 1 < w1.heap.size := by omega
  go_wp2_with fail
  (go_at_call 89; refine (rIsHeight_k _ _ false h2 _).mono ?_; rintro e w2 ⟨rfl, hb2⟩; obtain ⟨hc2, hf2⟩ := bcell hb2)
  have hz2 := hb2.size
  try simp at hz2
  have hy20 : w.heap.size < w2.heap.size := by omega
  have hy21 : w.heap.size + 1 < w2.heap.size := by omega
  have hy22 : w.heap.size + 1 + 1 < w2.heap.size := by omega
  have hy23 : w.heap.size + 1 + 1 + 1 < w2.heap.size := by omega
  go_wp2_with fail
  exact bodyPost_ret (v := noSpan 1) (by simp [results, Try.results44, go_sem, hc1, hc2, hy13, noSpan]) rfl ⟨rfl, (((boxed4 hb1).trans (hb2.mono (by omega))).setCell (by simp; omega) _).setCell (by simp; omega) _⟩

set_option maxHeartbeats 4000000 in
theorem rneed_bad3 (hl hh al ah dl dh : Int) (h1 : okH hl hh = true) (h2 : okH al ah = true) (h3 : okD dl dh = false) (w : World) :
    Calls Try.prog 44 #[spanV hl hh, spanV al ah, spanV dl dh] w fun e w' => e = .returned (noSpan 1) ∧ Below w.heap.size w w' := by
  go_enter Try.func44, Try.ntmps44
  go_wp2_with fail
  (go_at_call 89; refine (rIsHeight_k _ _ true h1 _).mono ?_; rintro e w1 ⟨rfl, hb1⟩; obtain ⟨hc1, hf1⟩ := bcell hb1)
  have hz1 := hb1.size
  try simp at hz1
  have hy10 : w.heap.size < w1.heap.size := by omega
  have hy11 : w.heap.size + 1 < w1.heap.size := by omega
  have hy12 : w.heap.size + 1 + 1 < w1.heap.size := by omega
  have hy13 : w.heap.size + 1 + 1 + 1 < w1.heap.size := by omega
  go_wp2_with fail
  (go_at_call 89; refine (rIsHeight_k _ _ true h2 _).mono ?_; rintro e w2 ⟨rfl, hb2⟩; obtain ⟨hc2, hf2⟩ := bcell hb2)
  have hz2 := hb2.size
  try simp at hz2
  have hy20 : w.heap.size < w2.heap.size := by omega
  have hy21 : w.heap.size + 1 < w2.heap.size := by omega
  have hy22 : w.heap.size + 1 + 1 < w2.heap.size := by omega
  have hy23 : w.heap.size + 1 + 1 + 1 < w2.heap.size := by omega
  go_wp2_with fail
  (go_at_call 90; refine (rIsDepth_k _ _ false h3 _).mono ?_; rintro e w3 ⟨rfl, hb3⟩; obtain ⟨hc3, hf3⟩ := bcell hb3)
  have hz3 := hb3.size
  try simp at hz3
  have hy30 : w.heap.size < w3.heap.size := by omega
  have hy31 : w.heap.size + 1 < w3.heap.size := by omega
  have hy32 : w.heap.size + 1 + 1 < w3.heap.size := by omega
  have hy33 : w.heap.size + 1 + 1 + 1 < w3.heap.size := by omega
  go_wp2_with fail
  exact bodyPost_ret (v := noSpan 1) (by simp [results, Try.results44, go_sem, hc1, hc2, hc3, hy13, hy23, noSpan]) rfl ⟨rfl, ((((boxed4 hb1).trans (hb2.mono (by omega))).trans (hb3.mono (by omega))).setCell (by simp; omega) _).setCell (by simp; omega) _⟩

set_option maxHeartbeats 4000000 in
theorem need_good (hl hh al ah dl dh : Int) (h1 : okH hl hh = true) (h2 : okH al ah = true) (h3 : okD dl dh = true) (q1 q2 L H : Int) (HQ1 : Hid ((hh - ah + dl - 1) / dl = q1)) (HQ2 : Hid ((hl - al) / dh = q2)) (HL : Hid (max (max q1 0) 0 = L)) (HH : Hid (min (min 100000 q2) 100000 = H)) (hle : L ≤ H) (w : World) :
    Calls Try.prog 43 #[spanV hl hh, spanV al ah, spanV dl dh] w fun e w' => e = .returned (.tuple #[spanV L H, .int .i64 0]) ∧ Below w.heap.size w w' := by
  obtain ⟨d1, d2, d3⟩ := okD_iff.1 h3
  obtain ⟨g1, g2, g3⟩ := okH_iff.1 h1
  obtain ⟨a1, a2, a3⟩ := okH_iff.1 h2
  have e1 : decide (H < L) = false := by simpa using hle
  go_enter Try.func43, Try.ntmps43
  go_wp2_with fail
  (go_at_call 87; refine (isHeight_k _ _ true h1 _).mono ?_; rintro e w1 ⟨rfl, hb1⟩; obtain ⟨hc1, hf1⟩ := bcell hb1)
  have hz1 := hb1.size
  try simp at hz1
  have hy10 : w.heap.size < w1.heap.size := by omega
  have hy11 : w.heap.size + 1 < w1.heap.size := by omega
  have hy12 : w.heap.size + 1 + 1 < w1.heap.size := by omega
  have hy13 : w.heap.size + 1 + 1 + 1 < w1.heap.size := by omega
  go_wp2_with fail
  (go_at_call 87; refine (isHeight_k _ _ true h2 _).mono ?_; rintro e w2 ⟨rfl, hb2⟩; obtain ⟨hc2, hf2⟩ := bcell hb2)
  have hz2 := hb2.size
  try simp at hz2
  have hy20 : w.heap.size < w2.heap.size := by omega
  have hy21 : w.heap.size + 1 < w2.heap.size := by omega
  have hy22 : w.heap.size + 1 + 1 < w2.heap.size := by omega
  have hy23 : w.heap.size + 1 + 1 + 1 < w2.heap.size := by omega
  go_wp2_with fail
  (go_at_call 88; refine (isDepth_k _ _ true h3 _).mono ?_; rintro e w3 ⟨rfl, hb3⟩; obtain ⟨hc3, hf3⟩ := bcell hb3)
  have hz3 := hb3.size
  try simp at hz3
  have hy30 : w.heap.size < w3.heap.size := by omega
  have hy31 : w.heap.size + 1 < w3.heap.size := by omega
  have hy32 : w.heap.size + 1 + 1 < w3.heap.size := by omega
  have hy33 : w.heap.size + 1 + 1 + 1 < w3.heap.size := by omega
  go_wp2_with fail
  (go_at_call 91; refine (quotient_k _ _ q1 HQ1.out (by omega) (by omega) (by omega) (by omega) _).mono ?_; rintro e w' ⟨rfl, rfl⟩)
  go_wp2_with fail
  (go_at_call 91; refine (quotient_k _ _ q2 HQ2.out (by omega) (by omega) (by omega) (by omega) _).mono ?_; rintro e w' ⟨rfl, rfl⟩)
  go_wp2_with fail
  go_at_call 92
  refine (common_k q1 100000 0 q2 0 100000 L H HL.out HH.out _ _ ?_ ?_ ?_ ?_ ?_).mono ?_
  · simp
  · simp [go_sem]
  · simp [go_sem]
  · simp [go_sem]
  · simp [go_sem]
  rintro e w4 ⟨rfl, hb4⟩
  obtain ⟨hc4, hf4⟩ := bcell hb4
  have hz4 := hb4.size
  simp at hz4
  have hy40 : w.heap.size < w4.heap.size := by omega
  have hy41 : w.heap.size + 1 < w4.heap.size := by omega
  have hy42 : w.heap.size + 1 + 1 < w4.heap.size := by omega
  have hy43 : w.heap.size + 1 + 1 + 1 < w4.heap.size := by omega
  go_wp2_with fail
  have hx : w.heap.size + 1 + 1 + 1 < w3.heap.size + 1 + 1 + 1 := by omega
  have p0 : w4.cell? ⟨w.heap.size + 1 + 1 + 1, 0, none⟩ = some (.int .i64 0) :=
    (hc4 _ _ (by simp; omega)).trans ((Below.cell (p := ⟨w.heap.size + 1 + 1 + 1, 0, none⟩) ((((Below.refl _ _).alloc (Nat.le_refl _) _).alloc (by simp) _).alloc (by simp; omega) _) hy33).trans
      ((hc3 _ _ hy23).trans ((hc2 _ _ hy13).trans ((hc1 _ _ (by simp)).trans (by simp [go_sem])))))
  have p1 : w4.cell? ⟨w.heap.size + 1 + 1 + 1, 1, none⟩ = some (.int .i64 0) :=
    (hc4 _ _ (by simp; omega)).trans ((Below.cell (p := ⟨w.heap.size + 1 + 1 + 1, 1, none⟩) ((((Below.refl _ _).alloc (Nat.le_refl _) _).alloc (by simp) _).alloc (by simp; omega) _) hy33).trans
      ((hc3 _ _ hy23).trans ((hc2 _ _ hy13).trans ((hc1 _ _ (by simp)).trans (by simp [go_sem])))))
  refine bodyPost_ret (v := .tuple #[spanV L H, .int .i64 0]) (by simp [results, Try.results43, go_sem, hy43, p0, p1]) rfl ⟨rfl, ?_⟩
  have hB := (((boxed4 hb1).trans (hb2.mono (by omega))).trans (hb3.mono (by omega))).trans ((boxed2' hb4).mono (show w.heap.size ≤ w3.heap.size by omega))
  clear hc1 hc2 hc3 hc4 hf1 hf2 hf3 hf4 p0 p1
  repeat (first | exact hB | refine Below.alloc ?_ (by simp; omega) _ | refine Below.setCell ?_ (by simp; omega) _)

set_option maxHeartbeats 4000000 in
theorem need_none (hl hh al ah dl dh : Int) (h1 : okH hl hh = true) (h2 : okH al ah = true) (h3 : okD dl dh = true) (q1 q2 L H : Int) (HQ1 : Hid ((hh - ah + dl - 1) / dl = q1)) (HQ2 : Hid ((hl - al) / dh = q2)) (HL : Hid (max (max q1 0) 0 = L)) (HH : Hid (min (min 100000 q2) 100000 = H)) (hle : H < L) (w : World) :
    Calls Try.prog 43 #[spanV hl hh, spanV al ah, spanV dl dh] w fun e w' => e = .returned (noSpan 51) ∧ Below w.heap.size w w' := by
  obtain ⟨d1, d2, d3⟩ := okD_iff.1 h3
  obtain ⟨g1, g2, g3⟩ := okH_iff.1 h1
  obtain ⟨a1, a2, a3⟩ := okH_iff.1 h2
  have e1 : decide (H < L) = true := by simpa using hle
  go_enter Try.func43, Try.ntmps43
  go_wp2_with fail
  (go_at_call 87; refine (isHeight_k _ _ true h1 _).mono ?_; rintro e w1 ⟨rfl, hb1⟩; obtain ⟨hc1, hf1⟩ := bcell hb1)
  have hz1 := hb1.size
  try simp at hz1
  have hy10 : w.heap.size < w1.heap.size := by omega
  have hy11 : w.heap.size + 1 < w1.heap.size := by omega
  have hy12 : w.heap.size + 1 + 1 < w1.heap.size := by omega
  have hy13 : w.heap.size + 1 + 1 + 1 < w1.heap.size := by omega
  go_wp2_with fail
  (go_at_call 87; refine (isHeight_k _ _ true h2 _).mono ?_; rintro e w2 ⟨rfl, hb2⟩; obtain ⟨hc2, hf2⟩ := bcell hb2)
  have hz2 := hb2.size
  try simp at hz2
  have hy20 : w.heap.size < w2.heap.size := by omega
  have hy21 : w.heap.size + 1 < w2.heap.size := by omega
  have hy22 : w.heap.size + 1 + 1 < w2.heap.size := by omega
  have hy23 : w.heap.size + 1 + 1 + 1 < w2.heap.size := by omega
  go_wp2_with fail
  (go_at_call 88; refine (isDepth_k _ _ true h3 _).mono ?_; rintro e w3 ⟨rfl, hb3⟩; obtain ⟨hc3, hf3⟩ := bcell hb3)
  have hz3 := hb3.size
  try simp at hz3
  have hy30 : w.heap.size < w3.heap.size := by omega
  have hy31 : w.heap.size + 1 < w3.heap.size := by omega
  have hy32 : w.heap.size + 1 + 1 < w3.heap.size := by omega
  have hy33 : w.heap.size + 1 + 1 + 1 < w3.heap.size := by omega
  go_wp2_with fail
  (go_at_call 91; refine (quotient_k _ _ q1 HQ1.out (by omega) (by omega) (by omega) (by omega) _).mono ?_; rintro e w' ⟨rfl, rfl⟩)
  go_wp2_with fail
  (go_at_call 91; refine (quotient_k _ _ q2 HQ2.out (by omega) (by omega) (by omega) (by omega) _).mono ?_; rintro e w' ⟨rfl, rfl⟩)
  go_wp2_with fail
  go_at_call 92
  refine (common_k q1 100000 0 q2 0 100000 L H HL.out HH.out _ _ ?_ ?_ ?_ ?_ ?_).mono ?_
  · simp
  · simp [go_sem]
  · simp [go_sem]
  · simp [go_sem]
  · simp [go_sem]
  rintro e w4 ⟨rfl, hb4⟩
  obtain ⟨hc4, hf4⟩ := bcell hb4
  have hz4 := hb4.size
  simp at hz4
  have hy40 : w.heap.size < w4.heap.size := by omega
  have hy41 : w.heap.size + 1 < w4.heap.size := by omega
  have hy42 : w.heap.size + 1 + 1 < w4.heap.size := by omega
  have hy43 : w.heap.size + 1 + 1 + 1 < w4.heap.size := by omega
  go_wp2_with fail
  have hx : w.heap.size + 1 + 1 + 1 < w3.heap.size + 1 + 1 + 1 := by omega
  have p0 : w4.cell? ⟨w.heap.size + 1 + 1 + 1, 0, none⟩ = some (.int .i64 0) :=
    (hc4 _ _ (by simp; omega)).trans ((Below.cell (p := ⟨w.heap.size + 1 + 1 + 1, 0, none⟩) ((((Below.refl _ _).alloc (Nat.le_refl _) _).alloc (by simp) _).alloc (by simp; omega) _) hy33).trans
      ((hc3 _ _ hy23).trans ((hc2 _ _ hy13).trans ((hc1 _ _ (by simp)).trans (by simp [go_sem])))))
  have p1 : w4.cell? ⟨w.heap.size + 1 + 1 + 1, 1, none⟩ = some (.int .i64 0) :=
    (hc4 _ _ (by simp; omega)).trans ((Below.cell (p := ⟨w.heap.size + 1 + 1 + 1, 1, none⟩) ((((Below.refl _ _).alloc (Nat.le_refl _) _).alloc (by simp) _).alloc (by simp; omega) _) hy33).trans
      ((hc3 _ _ hy23).trans ((hc2 _ _ hy13).trans ((hc1 _ _ (by simp)).trans (by simp [go_sem])))))
  refine bodyPost_ret (v := noSpan 51) (by simp [results, Try.results43, go_sem, hy43, p0, p1, noSpan]) rfl ⟨rfl, ?_⟩
  have hB := (((boxed4 hb1).trans (hb2.mono (by omega))).trans (hb3.mono (by omega))).trans ((boxed2' hb4).mono (show w.heap.size ≤ w3.heap.size by omega))
  clear hc1 hc2 hc3 hc4 hf1 hf2 hf3 hf4 p0 p1
  repeat (first | exact hB | refine Below.alloc ?_ (by simp; omega) _ | refine Below.setCell ?_ (by simp; omega) _)

set_option maxHeartbeats 4000000 in
theorem rneed_a1 (hl hh al ah dl dh : Int) (h1 : okH hl hh = true) (h2 : okH al ah = true) (h3 : okD dl dh = true) (k1 : ah < hh) (k2 : hl < al) (w : World) :
    Calls Try.prog 44 #[spanV hl hh, spanV al ah, spanV dl dh] w fun e w' => e = .returned (noSpan 51) ∧ Below w.heap.size w w' := by
  obtain ⟨d1, d2, d3⟩ := okD_iff.1 h3
  obtain ⟨g1, g2, g3⟩ := okH_iff.1 h1
  obtain ⟨a1, a2, a3⟩ := okH_iff.1 h2
  have dl0 : dl ≠ 0 := by omega
  have dh0 : dh ≠ 0 := by omega
  have e1 : decide (ah < hh) = true := by simpa using k1
  obtain ⟨m1, m2⟩ := ediv_bounds (a := hh - ah + dl - 1) (b := dl) (A := 4000000000) (by omega) (by omega) (by omega)
  have e2 : decide (hl < al) = true := by simpa using k2
  go_enter Try.func44, Try.ntmps44
  go_wp2_with fail
  (go_at_call 89; refine (rIsHeight_k _ _ true h1 _).mono ?_; rintro e w1 ⟨rfl, hb1⟩; obtain ⟨hc1, hf1⟩ := bcell hb1)
  have hz1 := hb1.size
  try simp at hz1
  have hy10 : w.heap.size < w1.heap.size := by omega
  have hy11 : w.heap.size + 1 < w1.heap.size := by omega
  have hy12 : w.heap.size + 1 + 1 < w1.heap.size := by omega
  have hy13 : w.heap.size + 1 + 1 + 1 < w1.heap.size := by omega
  go_wp2_with fail
  (go_at_call 89; refine (rIsHeight_k _ _ true h2 _).mono ?_; rintro e w2 ⟨rfl, hb2⟩; obtain ⟨hc2, hf2⟩ := bcell hb2)
  have hz2 := hb2.size
  try simp at hz2
  have hy20 : w.heap.size < w2.heap.size := by omega
  have hy21 : w.heap.size + 1 < w2.heap.size := by omega
  have hy22 : w.heap.size + 1 + 1 < w2.heap.size := by omega
  have hy23 : w.heap.size + 1 + 1 + 1 < w2.heap.size := by omega
  go_wp2_with fail
  (go_at_call 90; refine (rIsDepth_k _ _ true h3 _).mono ?_; rintro e w3 ⟨rfl, hb3⟩; obtain ⟨hc3, hf3⟩ := bcell hb3)
  have hz3 := hb3.size
  try simp at hz3
  have hy30 : w.heap.size < w3.heap.size := by omega
  have hy31 : w.heap.size + 1 < w3.heap.size := by omega
  have hy32 : w.heap.size + 1 + 1 < w3.heap.size := by omega
  have hy33 : w.heap.size + 1 + 1 + 1 < w3.heap.size := by omega
  go_wp2_with fail
  have p0 : w3.cell? ⟨w.heap.size + 1 + 1 + 1, 0, none⟩ = some (.int .i64 0) := (hc3 _ _ hy23).trans ((hc2 _ _ hy13).trans ((hc1 _ _ (by simp)).trans (by simp [go_sem])))
  have p1 : w3.cell? ⟨w.heap.size + 1 + 1 + 1, 1, none⟩ = some (.int .i64 0) := (hc3 _ _ hy23).trans ((hc2 _ _ hy13).trans ((hc1 _ _ (by simp)).trans (by simp [go_sem])))
  refine bodyPost_ret (v := noSpan 51) (by simp [results, Try.results44, go_sem, p0, p1, noSpan]) rfl ⟨rfl, ?_⟩
  have hB := (((boxed4 hb1).trans (hb2.mono (by omega))).trans (hb3.mono (by omega)))
  clear hc1 hc2 hc3 hf1 hf2 hf3 p0 p1
  repeat (first | exact hB | refine Below.alloc ?_ (by simp; omega) _ | refine Below.setCell ?_ (by simp; omega) _)

set_option maxHeartbeats 4000000 in
theorem rneed_a2 (hl hh al ah dl dh : Int) (h1 : okH hl hh = true) (h2 : okH al ah = true) (h3 : okD dl dh = true) (k1 : hh ≤ ah) (k2 : hl < al) (w : World) :
    Calls Try.prog 44 #[spanV hl hh, spanV al ah, spanV dl dh] w fun e w' => e = .returned (noSpan 51) ∧ Below w.heap.size w w' := by
  obtain ⟨d1, d2, d3⟩ := okD_iff.1 h3
  obtain ⟨g1, g2, g3⟩ := okH_iff.1 h1
  obtain ⟨a1, a2, a3⟩ := okH_iff.1 h2
  have dl0 : dl ≠ 0 := by omega
  have dh0 : dh ≠ 0 := by omega
  have e1 : decide (ah < hh) = false := by simpa using k1
  have e2 : decide (hl < al) = true := by simpa using k2
  go_enter Try.func44, Try.ntmps44
  go_wp2_with fail
  (go_at_call 89; refine (rIsHeight_k _ _ true h1 _).mono ?_; rintro e w1 ⟨rfl, hb1⟩; obtain ⟨hc1, hf1⟩ := bcell hb1)
  have hz1 := hb1.size
  try simp at hz1
  have hy10 : w.heap.size < w1.heap.size := by omega
  have hy11 : w.heap.size + 1 < w1.heap.size := by omega
  have hy12 : w.heap.size + 1 + 1 < w1.heap.size := by omega
  have hy13 : w.heap.size + 1 + 1 + 1 < w1.heap.size := by omega
  go_wp2_with fail
  (go_at_call 89; refine (rIsHeight_k _ _ true h2 _).mono ?_; rintro e w2 ⟨rfl, hb2⟩; obtain ⟨hc2, hf2⟩ := bcell hb2)
  have hz2 := hb2.size
  try simp at hz2
  have hy20 : w.heap.size < w2.heap.size := by omega
  have hy21 : w.heap.size + 1 < w2.heap.size := by omega
  have hy22 : w.heap.size + 1 + 1 < w2.heap.size := by omega
  have hy23 : w.heap.size + 1 + 1 + 1 < w2.heap.size := by omega
  go_wp2_with fail
  (go_at_call 90; refine (rIsDepth_k _ _ true h3 _).mono ?_; rintro e w3 ⟨rfl, hb3⟩; obtain ⟨hc3, hf3⟩ := bcell hb3)
  have hz3 := hb3.size
  try simp at hz3
  have hy30 : w.heap.size < w3.heap.size := by omega
  have hy31 : w.heap.size + 1 < w3.heap.size := by omega
  have hy32 : w.heap.size + 1 + 1 < w3.heap.size := by omega
  have hy33 : w.heap.size + 1 + 1 + 1 < w3.heap.size := by omega
  go_wp2_with fail
  have p0 : w3.cell? ⟨w.heap.size + 1 + 1 + 1, 0, none⟩ = some (.int .i64 0) := (hc3 _ _ hy23).trans ((hc2 _ _ hy13).trans ((hc1 _ _ (by simp)).trans (by simp [go_sem])))
  have p1 : w3.cell? ⟨w.heap.size + 1 + 1 + 1, 1, none⟩ = some (.int .i64 0) := (hc3 _ _ hy23).trans ((hc2 _ _ hy13).trans ((hc1 _ _ (by simp)).trans (by simp [go_sem])))
  refine bodyPost_ret (v := noSpan 51) (by simp [results, Try.results44, go_sem, p0, p1, noSpan]) rfl ⟨rfl, ?_⟩
  have hB := (((boxed4 hb1).trans (hb2.mono (by omega))).trans (hb3.mono (by omega)))
  clear hc1 hc2 hc3 hf1 hf2 hf3 p0 p1
  repeat (first | exact hB | refine Below.alloc ?_ (by simp; omega) _ | refine Below.setCell ?_ (by simp; omega) _)

set_option maxHeartbeats 4000000 in
theorem rneed_c1 (hl hh al ah dl dh : Int) (h1 : okH hl hh = true) (h2 : okH al ah = true) (h3 : okD dl dh = true) (k1 : hh ≤ ah) (k2 : al ≤ hl) (k3 : (hl - al) / dh ≤ 100000) (w : World) :
    Calls Try.prog 44 #[spanV hl hh, spanV al ah, spanV dl dh] w fun e w' => e = .returned (.tuple #[spanV (0) ((hl - al) / dh), .int .i64 0]) ∧ Below w.heap.size w w' := by
  obtain ⟨d1, d2, d3⟩ := okD_iff.1 h3
  obtain ⟨g1, g2, g3⟩ := okH_iff.1 h1
  obtain ⟨a1, a2, a3⟩ := okH_iff.1 h2
  have dl0 : dl ≠ 0 := by omega
  have dh0 : dh ≠ 0 := by omega
  have e1 : decide (ah < hh) = false := by simpa using k1
  have e2 : decide (hl < al) = false := by simpa using k2
  obtain ⟨m3, m4⟩ := ediv_bounds (a := hl - al) (b := dh) (A := 4000000000) (by omega) (by omega) (by omega)
  have e3 : decide (100000 < (hl - al) / dh) = false := by simpa using k3
  go_enter Try.func44, Try.ntmps44
  go_wp2_with fail
  (go_at_call 89; refine (rIsHeight_k _ _ true h1 _).mono ?_; rintro e w1 ⟨rfl, hb1⟩; obtain ⟨hc1, hf1⟩ := bcell hb1)
  have hz1 := hb1.size
  try simp at hz1
  have hy10 : w.heap.size < w1.heap.size := by omega
  have hy11 : w.heap.size + 1 < w1.heap.size := by omega
  have hy12 : w.heap.size + 1 + 1 < w1.heap.size := by omega
  have hy13 : w.heap.size + 1 + 1 + 1 < w1.heap.size := by omega
  go_wp2_with fail
  (go_at_call 89; refine (rIsHeight_k _ _ true h2 _).mono ?_; rintro e w2 ⟨rfl, hb2⟩; obtain ⟨hc2, hf2⟩ := bcell hb2)
  have hz2 := hb2.size
  try simp at hz2
  have hy20 : w.heap.size < w2.heap.size := by omega
  have hy21 : w.heap.size + 1 < w2.heap.size := by omega
  have hy22 : w.heap.size + 1 + 1 < w2.heap.size := by omega
  have hy23 : w.heap.size + 1 + 1 + 1 < w2.heap.size := by omega
  go_wp2_with fail
  (go_at_call 90; refine (rIsDepth_k _ _ true h3 _).mono ?_; rintro e w3 ⟨rfl, hb3⟩; obtain ⟨hc3, hf3⟩ := bcell hb3)
  have hz3 := hb3.size
  try simp at hz3
  have hy30 : w.heap.size < w3.heap.size := by omega
  have hy31 : w.heap.size + 1 < w3.heap.size := by omega
  have hy32 : w.heap.size + 1 + 1 < w3.heap.size := by omega
  have hy33 : w.heap.size + 1 + 1 + 1 < w3.heap.size := by omega
  go_wp2_with fail
  have p0 : w3.cell? ⟨w.heap.size + 1 + 1 + 1, 0, none⟩ = some (.int .i64 0) := (hc3 _ _ hy23).trans ((hc2 _ _ hy13).trans ((hc1 _ _ (by simp)).trans (by simp [go_sem])))
  have p1 : w3.cell? ⟨w.heap.size + 1 + 1 + 1, 1, none⟩ = some (.int .i64 0) := (hc3 _ _ hy23).trans ((hc2 _ _ hy13).trans ((hc1 _ _ (by simp)).trans (by simp [go_sem])))
  refine bodyPost_ret (v := .tuple #[spanV (0) ((hl - al) / dh), .int .i64 0]) (by simp [results, Try.results44, go_sem, p0, p1]) rfl ⟨rfl, ?_⟩
  have hB := (((boxed4 hb1).trans (hb2.mono (by omega))).trans (hb3.mono (by omega)))
  clear hc1 hc2 hc3 hf1 hf2 hf3 p0 p1
  repeat (first | exact hB | refine Below.alloc ?_ (by simp; omega) _ | refine Below.setCell ?_ (by simp; omega) _)

set_option maxHeartbeats 4000000 in
theorem rneed_c2 (hl hh al ah dl dh : Int) (h1 : okH hl hh = true) (h2 : okH al ah = true) (h3 : okD dl dh = true) (k1 : hh ≤ ah) (k2 : al ≤ hl) (k3 : 100000 < (hl - al) / dh) (w : World) :
    Calls Try.prog 44 #[spanV hl hh, spanV al ah, spanV dl dh] w fun e w' => e = .returned (.tuple #[spanV (0) (100000), .int .i64 0]) ∧ Below w.heap.size w w' := by
  obtain ⟨d1, d2, d3⟩ := okD_iff.1 h3
  obtain ⟨g1, g2, g3⟩ := okH_iff.1 h1
  obtain ⟨a1, a2, a3⟩ := okH_iff.1 h2
  have dl0 : dl ≠ 0 := by omega
  have dh0 : dh ≠ 0 := by omega
  have e1 : decide (ah < hh) = false := by simpa using k1
  have e2 : decide (hl < al) = false := by simpa using k2
  obtain ⟨m3, m4⟩ := ediv_bounds (a := hl - al) (b := dh) (A := 4000000000) (by omega) (by omega) (by omega)
  have e3 : decide (100000 < (hl - al) / dh) = true := by simpa using k3
  go_enter Try.func44, Try.ntmps44
  go_wp2_with fail
  (go_at_call 89; refine (rIsHeight_k _ _ true h1 _).mono ?_; rintro e w1 ⟨rfl, hb1⟩; obtain ⟨hc1, hf1⟩ := bcell hb1)
  have hz1 := hb1.size
  try simp at hz1
  have hy10 : w.heap.size < w1.heap.size := by omega
  have hy11 : w.heap.size + 1 < w1.heap.size := by omega
  have hy12 : w.heap.size + 1 + 1 < w1.heap.size := by omega
  have hy13 : w.heap.size + 1 + 1 + 1 < w1.heap.size := by omega
  go_wp2_with fail
  (go_at_call 89; refine (rIsHeight_k _ _ true h2 _).mono ?_; rintro e w2 ⟨rfl, hb2⟩; obtain ⟨hc2, hf2⟩ := bcell hb2)
  have hz2 := hb2.size
  try simp at hz2
  have hy20 : w.heap.size < w2.heap.size := by omega
  have hy21 : w.heap.size + 1 < w2.heap.size := by omega
  have hy22 : w.heap.size + 1 + 1 < w2.heap.size := by omega
  have hy23 : w.heap.size + 1 + 1 + 1 < w2.heap.size := by omega
  go_wp2_with fail
  (go_at_call 90; refine (rIsDepth_k _ _ true h3 _).mono ?_; rintro e w3 ⟨rfl, hb3⟩; obtain ⟨hc3, hf3⟩ := bcell hb3)
  have hz3 := hb3.size
  try simp at hz3
  have hy30 : w.heap.size < w3.heap.size := by omega
  have hy31 : w.heap.size + 1 < w3.heap.size := by omega
  have hy32 : w.heap.size + 1 + 1 < w3.heap.size := by omega
  have hy33 : w.heap.size + 1 + 1 + 1 < w3.heap.size := by omega
  go_wp2_with fail
  have p0 : w3.cell? ⟨w.heap.size + 1 + 1 + 1, 0, none⟩ = some (.int .i64 0) := (hc3 _ _ hy23).trans ((hc2 _ _ hy13).trans ((hc1 _ _ (by simp)).trans (by simp [go_sem])))
  have p1 : w3.cell? ⟨w.heap.size + 1 + 1 + 1, 1, none⟩ = some (.int .i64 0) := (hc3 _ _ hy23).trans ((hc2 _ _ hy13).trans ((hc1 _ _ (by simp)).trans (by simp [go_sem])))
  refine bodyPost_ret (v := .tuple #[spanV (0) (100000), .int .i64 0]) (by simp [results, Try.results44, go_sem, p0, p1]) rfl ⟨rfl, ?_⟩
  have hB := (((boxed4 hb1).trans (hb2.mono (by omega))).trans (hb3.mono (by omega)))
  clear hc1 hc2 hc3 hf1 hf2 hf3 p0 p1
  repeat (first | exact hB | refine Below.alloc ?_ (by simp; omega) _ | refine Below.setCell ?_ (by simp; omega) _)

set_option maxHeartbeats 4000000 in
theorem rneed_b1 (hl hh al ah dl dh : Int) (h1 : okH hl hh = true) (h2 : okH al ah = true) (h3 : okD dl dh = true) (k1 : ah < hh) (k2 : al ≤ hl) (k3 : (hl - al) / dh ≤ 100000) (k4 : (hh - ah + dl - 1) / dl ≤ (hl - al) / dh) (w : World) :
    Calls Try.prog 44 #[spanV hl hh, spanV al ah, spanV dl dh] w fun e w' => e = .returned (.tuple #[spanV ((hh - ah + dl - 1) / dl) ((hl - al) / dh), .int .i64 0]) ∧ Below w.heap.size w w' := by
  obtain ⟨d1, d2, d3⟩ := okD_iff.1 h3
  obtain ⟨g1, g2, g3⟩ := okH_iff.1 h1
  obtain ⟨a1, a2, a3⟩ := okH_iff.1 h2
  have dl0 : dl ≠ 0 := by omega
  have dh0 : dh ≠ 0 := by omega
  have e1 : decide (ah < hh) = true := by simpa using k1
  obtain ⟨m1, m2⟩ := ediv_bounds (a := hh - ah + dl - 1) (b := dl) (A := 4000000000) (by omega) (by omega) (by omega)
  have e2 : decide (hl < al) = false := by simpa using k2
  obtain ⟨m3, m4⟩ := ediv_bounds (a := hl - al) (b := dh) (A := 4000000000) (by omega) (by omega) (by omega)
  have e3 : decide (100000 < (hl - al) / dh) = false := by simpa using k3
  have e4 : decide ((hl - al) / dh < (hh - ah + dl - 1) / dl) = false := by simpa using k4
  go_enter Try.func44, Try.ntmps44
  go_wp2_with fail
  (go_at_call 89; refine (rIsHeight_k _ _ true h1 _).mono ?_; rintro e w1 ⟨rfl, hb1⟩; obtain ⟨hc1, hf1⟩ := bcell hb1)
  have hz1 := hb1.size
  try simp at hz1
  have hy10 : w.heap.size < w1.heap.size := by omega
  have hy11 : w.heap.size + 1 < w1.heap.size := by omega
  have hy12 : w.heap.size + 1 + 1 < w1.heap.size := by omega
  have hy13 : w.heap.size + 1 + 1 + 1 < w1.heap.size := by omega
  go_wp2_with fail
  (go_at_call 89; refine (rIsHeight_k _ _ true h2 _).mono ?_; rintro e w2 ⟨rfl, hb2⟩; obtain ⟨hc2, hf2⟩ := bcell hb2)
  have hz2 := hb2.size
  try simp at hz2
  have hy20 : w.heap.size < w2.heap.size := by omega
  have hy21 : w.heap.size + 1 < w2.heap.size := by omega
  have hy22 : w.heap.size + 1 + 1 < w2.heap.size := by omega
  have hy23 : w.heap.size + 1 + 1 + 1 < w2.heap.size := by omega
  go_wp2_with fail
  (go_at_call 90; refine (rIsDepth_k _ _ true h3 _).mono ?_; rintro e w3 ⟨rfl, hb3⟩; obtain ⟨hc3, hf3⟩ := bcell hb3)
  have hz3 := hb3.size
  try simp at hz3
  have hy30 : w.heap.size < w3.heap.size := by omega
  have hy31 : w.heap.size + 1 < w3.heap.size := by omega
  have hy32 : w.heap.size + 1 + 1 < w3.heap.size := by omega
  have hy33 : w.heap.size + 1 + 1 + 1 < w3.heap.size := by omega
  go_wp2_with fail
  have p0 : w3.cell? ⟨w.heap.size + 1 + 1 + 1, 0, none⟩ = some (.int .i64 0) := (hc3 _ _ hy23).trans ((hc2 _ _ hy13).trans ((hc1 _ _ (by simp)).trans (by simp [go_sem])))
  have p1 : w3.cell? ⟨w.heap.size + 1 + 1 + 1, 1, none⟩ = some (.int .i64 0) := (hc3 _ _ hy23).trans ((hc2 _ _ hy13).trans ((hc1 _ _ (by simp)).trans (by simp [go_sem])))
  refine bodyPost_ret (v := .tuple #[spanV ((hh - ah + dl - 1) / dl) ((hl - al) / dh), .int .i64 0]) (by simp [results, Try.results44, go_sem, p0, p1]) rfl ⟨rfl, ?_⟩
  have hB := (((boxed4 hb1).trans (hb2.mono (by omega))).trans (hb3.mono (by omega)))
  clear hc1 hc2 hc3 hf1 hf2 hf3 p0 p1
  repeat (first | exact hB | refine Below.alloc ?_ (by simp; omega) _ | refine Below.setCell ?_ (by simp; omega) _)

set_option maxHeartbeats 4000000 in
theorem rneed_b2 (hl hh al ah dl dh : Int) (h1 : okH hl hh = true) (h2 : okH al ah = true) (h3 : okD dl dh = true) (k1 : ah < hh) (k2 : al ≤ hl) (k3 : (hl - al) / dh ≤ 100000) (k4 : (hl - al) / dh < (hh - ah + dl - 1) / dl) (w : World) :
    Calls Try.prog 44 #[spanV hl hh, spanV al ah, spanV dl dh] w fun e w' => e = .returned (noSpan 51) ∧ Below w.heap.size w w' := by
  obtain ⟨d1, d2, d3⟩ := okD_iff.1 h3
  obtain ⟨g1, g2, g3⟩ := okH_iff.1 h1
  obtain ⟨a1, a2, a3⟩ := okH_iff.1 h2
  have dl0 : dl ≠ 0 := by omega
  have dh0 : dh ≠ 0 := by omega
  have e1 : decide (ah < hh) = true := by simpa using k1
  obtain ⟨m1, m2⟩ := ediv_bounds (a := hh - ah + dl - 1) (b := dl) (A := 4000000000) (by omega) (by omega) (by omega)
  have e2 : decide (hl < al) = false := by simpa using k2
  obtain ⟨m3, m4⟩ := ediv_bounds (a := hl - al) (b := dh) (A := 4000000000) (by omega) (by omega) (by omega)
  have e3 : decide (100000 < (hl - al) / dh) = false := by simpa using k3
  have e4 : decide ((hl - al) / dh < (hh - ah + dl - 1) / dl) = true := by simpa using k4
  go_enter Try.func44, Try.ntmps44
  go_wp2_with fail
  (go_at_call 89; refine (rIsHeight_k _ _ true h1 _).mono ?_; rintro e w1 ⟨rfl, hb1⟩; obtain ⟨hc1, hf1⟩ := bcell hb1)
  have hz1 := hb1.size
  try simp at hz1
  have hy10 : w.heap.size < w1.heap.size := by omega
  have hy11 : w.heap.size + 1 < w1.heap.size := by omega
  have hy12 : w.heap.size + 1 + 1 < w1.heap.size := by omega
  have hy13 : w.heap.size + 1 + 1 + 1 < w1.heap.size := by omega
  go_wp2_with fail
  (go_at_call 89; refine (rIsHeight_k _ _ true h2 _).mono ?_; rintro e w2 ⟨rfl, hb2⟩; obtain ⟨hc2, hf2⟩ := bcell hb2)
  have hz2 := hb2.size
  try simp at hz2
  have hy20 : w.heap.size < w2.heap.size := by omega
  have hy21 : w.heap.size + 1 < w2.heap.size := by omega
  have hy22 : w.heap.size + 1 + 1 < w2.heap.size := by omega
  have hy23 : w.heap.size + 1 + 1 + 1 < w2.heap.size := by omega
  go_wp2_with fail
  (go_at_call 90; refine (rIsDepth_k _ _ true h3 _).mono ?_; rintro e w3 ⟨rfl, hb3⟩; obtain ⟨hc3, hf3⟩ := bcell hb3)
  have hz3 := hb3.size
  try simp at hz3
  have hy30 : w.heap.size < w3.heap.size := by omega
  have hy31 : w.heap.size + 1 < w3.heap.size := by omega
  have hy32 : w.heap.size + 1 + 1 < w3.heap.size := by omega
  have hy33 : w.heap.size + 1 + 1 + 1 < w3.heap.size := by omega
  go_wp2_with fail
  have p0 : w3.cell? ⟨w.heap.size + 1 + 1 + 1, 0, none⟩ = some (.int .i64 0) := (hc3 _ _ hy23).trans ((hc2 _ _ hy13).trans ((hc1 _ _ (by simp)).trans (by simp [go_sem])))
  have p1 : w3.cell? ⟨w.heap.size + 1 + 1 + 1, 1, none⟩ = some (.int .i64 0) := (hc3 _ _ hy23).trans ((hc2 _ _ hy13).trans ((hc1 _ _ (by simp)).trans (by simp [go_sem])))
  refine bodyPost_ret (v := noSpan 51) (by simp [results, Try.results44, go_sem, p0, p1, noSpan]) rfl ⟨rfl, ?_⟩
  have hB := (((boxed4 hb1).trans (hb2.mono (by omega))).trans (hb3.mono (by omega)))
  clear hc1 hc2 hc3 hf1 hf2 hf3 p0 p1
  repeat (first | exact hB | refine Below.alloc ?_ (by simp; omega) _ | refine Below.setCell ?_ (by simp; omega) _)

set_option maxHeartbeats 4000000 in
theorem rneed_b3 (hl hh al ah dl dh : Int) (h1 : okH hl hh = true) (h2 : okH al ah = true) (h3 : okD dl dh = true) (k1 : ah < hh) (k2 : al ≤ hl) (k3 : 100000 < (hl - al) / dh) (k4 : (hh - ah + dl - 1) / dl ≤ 100000) (w : World) :
    Calls Try.prog 44 #[spanV hl hh, spanV al ah, spanV dl dh] w fun e w' => e = .returned (.tuple #[spanV ((hh - ah + dl - 1) / dl) (100000), .int .i64 0]) ∧ Below w.heap.size w w' := by
  obtain ⟨d1, d2, d3⟩ := okD_iff.1 h3
  obtain ⟨g1, g2, g3⟩ := okH_iff.1 h1
  obtain ⟨a1, a2, a3⟩ := okH_iff.1 h2
  have dl0 : dl ≠ 0 := by omega
  have dh0 : dh ≠ 0 := by omega
  have e1 : decide (ah < hh) = true := by simpa using k1
  obtain ⟨m1, m2⟩ := ediv_bounds (a := hh - ah + dl - 1) (b := dl) (A := 4000000000) (by omega) (by omega) (by omega)
  have e2 : decide (hl < al) = false := by simpa using k2
  obtain ⟨m3, m4⟩ := ediv_bounds (a := hl - al) (b := dh) (A := 4000000000) (by omega) (by omega) (by omega)
  have e3 : decide (100000 < (hl - al) / dh) = true := by simpa using k3
  have e4 : decide (100000 < (hh - ah + dl - 1) / dl) = false := by simpa using k4
  go_enter Try.func44, Try.ntmps44
  go_wp2_with fail
  (go_at_call 89; refine (rIsHeight_k _ _ true h1 _).mono ?_; rintro e w1 ⟨rfl, hb1⟩; obtain ⟨hc1, hf1⟩ := bcell hb1)
  have hz1 := hb1.size
  try simp at hz1
  have hy10 : w.heap.size < w1.heap.size := by omega
  have hy11 : w.heap.size + 1 < w1.heap.size := by omega
  have hy12 : w.heap.size + 1 + 1 < w1.heap.size := by omega
  have hy13 : w.heap.size + 1 + 1 + 1 < w1.heap.size := by omega
  go_wp2_with fail
  (go_at_call 89; refine (rIsHeight_k _ _ true h2 _).mono ?_; rintro e w2 ⟨rfl, hb2⟩; obtain ⟨hc2, hf2⟩ := bcell hb2)
  have hz2 := hb2.size
  try simp at hz2
  have hy20 : w.heap.size < w2.heap.size := by omega
  have hy21 : w.heap.size + 1 < w2.heap.size := by omega
  have hy22 : w.heap.size + 1 + 1 < w2.heap.size := by omega
  have hy23 : w.heap.size + 1 + 1 + 1 < w2.heap.size := by omega
  go_wp2_with fail
  (go_at_call 90; refine (rIsDepth_k _ _ true h3 _).mono ?_; rintro e w3 ⟨rfl, hb3⟩; obtain ⟨hc3, hf3⟩ := bcell hb3)
  have hz3 := hb3.size
  try simp at hz3
  have hy30 : w.heap.size < w3.heap.size := by omega
  have hy31 : w.heap.size + 1 < w3.heap.size := by omega
  have hy32 : w.heap.size + 1 + 1 < w3.heap.size := by omega
  have hy33 : w.heap.size + 1 + 1 + 1 < w3.heap.size := by omega
  go_wp2_with fail
  have p0 : w3.cell? ⟨w.heap.size + 1 + 1 + 1, 0, none⟩ = some (.int .i64 0) := (hc3 _ _ hy23).trans ((hc2 _ _ hy13).trans ((hc1 _ _ (by simp)).trans (by simp [go_sem])))
  have p1 : w3.cell? ⟨w.heap.size + 1 + 1 + 1, 1, none⟩ = some (.int .i64 0) := (hc3 _ _ hy23).trans ((hc2 _ _ hy13).trans ((hc1 _ _ (by simp)).trans (by simp [go_sem])))
  refine bodyPost_ret (v := .tuple #[spanV ((hh - ah + dl - 1) / dl) (100000), .int .i64 0]) (by simp [results, Try.results44, go_sem, p0, p1]) rfl ⟨rfl, ?_⟩
  have hB := (((boxed4 hb1).trans (hb2.mono (by omega))).trans (hb3.mono (by omega)))
  clear hc1 hc2 hc3 hf1 hf2 hf3 p0 p1
  repeat (first | exact hB | refine Below.alloc ?_ (by simp; omega) _ | refine Below.setCell ?_ (by simp; omega) _)

set_option maxHeartbeats 4000000 in
theorem rneed_b4 (hl hh al ah dl dh : Int) (h1 : okH hl hh = true) (h2 : okH al ah = true) (h3 : okD dl dh = true) (k1 : ah < hh) (k2 : al ≤ hl) (k3 : 100000 < (hl - al) / dh) (k4 : 100000 < (hh - ah + dl - 1) / dl) (w : World) :
    Calls Try.prog 44 #[spanV hl hh, spanV al ah, spanV dl dh] w fun e w' => e = .returned (noSpan 51) ∧ Below w.heap.size w w' := by
  obtain ⟨d1, d2, d3⟩ := okD_iff.1 h3
  obtain ⟨g1, g2, g3⟩ := okH_iff.1 h1
  obtain ⟨a1, a2, a3⟩ := okH_iff.1 h2
  have dl0 : dl ≠ 0 := by omega
  have dh0 : dh ≠ 0 := by omega
  have e1 : decide (ah < hh) = true := by simpa using k1
  obtain ⟨m1, m2⟩ := ediv_bounds (a := hh - ah + dl - 1) (b := dl) (A := 4000000000) (by omega) (by omega) (by omega)
  have e2 : decide (hl < al) = false := by simpa using k2
  obtain ⟨m3, m4⟩ := ediv_bounds (a := hl - al) (b := dh) (A := 4000000000) (by omega) (by omega) (by omega)
  have e3 : decide (100000 < (hl - al) / dh) = true := by simpa using k3
  have e4 : decide (100000 < (hh - ah + dl - 1) / dl) = true := by simpa using k4
  go_enter Try.func44, Try.ntmps44
  go_wp2_with fail
  (go_at_call 89; refine (rIsHeight_k _ _ true h1 _).mono ?_; rintro e w1 ⟨rfl, hb1⟩; obtain ⟨hc1, hf1⟩ := bcell hb1)
  have hz1 := hb1.size
  try simp at hz1
  have hy10 : w.heap.size < w1.heap.size := by omega
  have hy11 : w.heap.size + 1 < w1.heap.size := by omega
  have hy12 : w.heap.size + 1 + 1 < w1.heap.size := by omega
  have hy13 : w.heap.size + 1 + 1 + 1 < w1.heap.size := by omega
  go_wp2_with fail
  (go_at_call 89; refine (rIsHeight_k _ _ true h2 _).mono ?_; rintro e w2 ⟨rfl, hb2⟩; obtain ⟨hc2, hf2⟩ := bcell hb2)
  have hz2 := hb2.size
  try simp at hz2
  have hy20 : w.heap.size < w2.heap.size := by omega
  have hy21 : w.heap.size + 1 < w2.heap.size := by omega
  have hy22 : w.heap.size + 1 + 1 < w2.heap.size := by omega
  have hy23 : w.heap.size + 1 + 1 + 1 < w2.heap.size := by omega
  go_wp2_with fail
  (go_at_call 90; refine (rIsDepth_k _ _ true h3 _).mono ?_; rintro e w3 ⟨rfl, hb3⟩; obtain ⟨hc3, hf3⟩ := bcell hb3)
  have hz3 := hb3.size
  try simp at hz3
  have hy30 : w.heap.size < w3.heap.size := by omega
  have hy31 : w.heap.size + 1 < w3.heap.size := by omega
  have hy32 : w.heap.size + 1 + 1 < w3.heap.size := by omega
  have hy33 : w.heap.size + 1 + 1 + 1 < w3.heap.size := by omega
  go_wp2_with fail
  have p0 : w3.cell? ⟨w.heap.size + 1 + 1 + 1, 0, none⟩ = some (.int .i64 0) := (hc3 _ _ hy23).trans ((hc2 _ _ hy13).trans ((hc1 _ _ (by simp)).trans (by simp [go_sem])))
  have p1 : w3.cell? ⟨w.heap.size + 1 + 1 + 1, 1, none⟩ = some (.int .i64 0) := (hc3 _ _ hy23).trans ((hc2 _ _ hy13).trans ((hc1 _ _ (by simp)).trans (by simp [go_sem])))
  refine bodyPost_ret (v := noSpan 51) (by simp [results, Try.results44, go_sem, p0, p1, noSpan]) rfl ⟨rfl, ?_⟩
  have hB := (((boxed4 hb1).trans (hb2.mono (by omega))).trans (hb3.mono (by omega)))
  clear hc1 hc2 hc3 hf1 hf2 hf3 p0 p1
  repeat (first | exact hB | refine Below.alloc ?_ (by simp; omega) _ | refine Below.setCell ?_ (by simp; omega) _)

end Go.Proofs.Ytfhbpeafapabhaa

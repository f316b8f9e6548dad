/- DressingHeights: the law. -/
import Derived.Test.YtfhbpeafapabhaaV4
namespace Go.Proofs.Ytfhbpeafapabhaa
open Go.RowKit

/-- a span, and an error's number -/
abbrev spanE (x y e : Int) : Value := .tuple #[spanV x y, .int .i64 e]

def needV (hl hh al ah dl dh : Int) : Value :=
  if okH hl hh = true ∧ okH al ah = true ∧ okD dl dh = true then (if needLo hh ah dl ≤ needHi hl al dh then spanE (needLo hh ah dl) (needHi hl al dh) 0 else noSpan 51) else noSpan 1

theorem fallsV_form (hl hh dl dh n : Int) : ∃ x y e, fallsV hl hh dl dh n = spanE x y e := by
  unfold fallsV noSpan
  split
  · exact ⟨_, _, _, rfl⟩
  · exact ⟨_, _, _, rfl⟩
theorem needV_form (hl hh al ah dl dh : Int) : ∃ x y e, needV hl hh al ah dl dh = spanE x y e := by
  unfold needV noSpan
  split
  · split
    · exact ⟨_, _, _, rfl⟩
    · exact ⟨_, _, _, rfl⟩
  · exact ⟨_, _, _, rfl⟩

theorem need_c (hl hh al ah dl dh : Int) (w : World) : Calls Try.prog 43 #[spanV hl hh, spanV al ah, spanV dl dh] w fun e w' => e = .returned (needV hl hh al ah dl dh) ∧ Below w.heap.size w w' := by
  unfold needV
  cases h1 : okH hl hh
  · rw [if_neg (by simp)]; exact need_bad1 hl hh al ah dl dh h1 w
  cases h2 : okH al ah
  · rw [if_neg (by simp)]; exact need_bad2 hl hh al ah dl dh h1 h2 w
  cases h3 : okD dl dh
  · rw [if_neg (by simp)]; exact need_bad3 hl hh al ah dl dh h1 h2 h3 w
  rw [if_pos ⟨rfl, rfl, rfl⟩]
  by_cases hle : needLo hh ah dl ≤ needHi hl al dh
  · rw [if_pos hle]; exact need_good hl hh al ah dl dh h1 h2 h3 _ _ _ _ (Lib.hid rfl) (Lib.hid rfl) (Lib.hid rfl) (Lib.hid rfl) hle w
  · rw [if_neg hle]; exact need_none hl hh al ah dl dh h1 h2 h3 _ _ _ _ (Lib.hid rfl) (Lib.hid rfl) (Lib.hid rfl) (Lib.hid rfl) (show needHi hl al dh < needLo hh ah dl by omega) w

theorem rneed_c (hl hh al ah dl dh : Int) (w : World) : Calls Try.prog 44 #[spanV hl hh, spanV al ah, spanV dl dh] w fun e w' => e = .returned (needV hl hh al ah dl dh) ∧ Below w.heap.size w w' := by
  unfold needV
  cases h1 : okH hl hh
  · rw [if_neg (by simp)]; exact rneed_bad1 hl hh al ah dl dh h1 w
  cases h2 : okH al ah
  · rw [if_neg (by simp)]; exact rneed_bad2 hl hh al ah dl dh h1 h2 w
  cases h3 : okD dl dh
  · rw [if_neg (by simp)]; exact rneed_bad3 hl hh al ah dl dh h1 h2 h3 w
  rw [if_pos ⟨rfl, rfl, rfl⟩]
  obtain ⟨d1, d2, d3⟩ := okD_iff.1 h3
  by_cases k2 : hl < al
  · have hq : (hl - al) / dh < 0 := Int.ediv_lt_of_lt_mul (by omega) (by omega)
    have hn : ¬ needLo hh ah dl ≤ needHi hl al dh := by unfold needLo needHi; omega
    rw [if_neg hn]
    by_cases k1 : ah < hh
    · exact rneed_a1 hl hh al ah dl dh h1 h2 h3 k1 k2 w
    · exact rneed_a2 hl hh al ah dl dh h1 h2 h3 (by omega) k2 w
  have k2' : al ≤ hl := by omega
  have hq : 0 ≤ (hl - al) / dh := Int.ediv_nonneg (by omega) (by omega)
  by_cases k1 : ah < hh
  · have hp : 0 ≤ (hh - ah + dl - 1) / dl := Int.ediv_nonneg (by omega) (by omega)
    have el : needLo hh ah dl = (hh - ah + dl - 1) / dl := by unfold needLo; omega
    rw [el]
    by_cases k3 : (hl - al) / dh ≤ 100000
    · have eh : needHi hl al dh = (hl - al) / dh := by unfold needHi; omega
      rw [eh]
      by_cases k4 : (hh - ah + dl - 1) / dl ≤ (hl - al) / dh
      · rw [if_pos k4]; exact rneed_b1 hl hh al ah dl dh h1 h2 h3 k1 k2' k3 k4 w
      · rw [if_neg k4]; exact rneed_b2 hl hh al ah dl dh h1 h2 h3 k1 k2' k3 (by omega) w
    · have eh : needHi hl al dh = 100000 := by unfold needHi; omega
      rw [eh]
      by_cases k4 : (hh - ah + dl - 1) / dl ≤ 100000
      · rw [if_pos k4]; exact rneed_b3 hl hh al ah dl dh h1 h2 h3 k1 k2' (by omega) k4 w
      · rw [if_neg k4]; exact rneed_b4 hl hh al ah dl dh h1 h2 h3 k1 k2' (by omega) (by omega) w
  · have hp : (hh - ah + dl - 1) / dl < 1 := Int.ediv_lt_of_lt_mul (by omega) (by omega)
    have el : needLo hh ah dl = 0 := by unfold needLo; omega
    rw [el]
    by_cases k3 : (hl - al) / dh ≤ 100000
    · have eh : needHi hl al dh = (hl - al) / dh := by unfold needHi; omega
      rw [eh, if_pos hq]; exact rneed_c1 hl hh al ah dl dh h1 h2 h3 (by omega) k2' k3 w
    · have eh : needHi hl al dh = 100000 := by unfold needHi; omega
      rw [eh, if_pos (by omega)]; exact rneed_c2 hl hh al ah dl dh h1 h2 h3 (by omega) k2' (by omega) w

theorem falls_k (hl hh dl dh n x y e : Int) (h : fallsV hl hh dl dh n = spanE x y e) (w : World) : Calls Try.prog 41 #[spanV hl hh, spanV dl dh, .int .i64 n] w fun en w' => en = .returned (spanE x y e) ∧ Below w.heap.size w w' := by
  rw [← h]; exact falls_c hl hh dl dh n w
theorem rfalls_k (hl hh dl dh n x y e : Int) (h : fallsV hl hh dl dh n = spanE x y e) (w : World) : Calls Try.prog 42 #[spanV hl hh, spanV dl dh, .int .i64 n] w fun en w' => en = .returned (spanE x y e) ∧ Below w.heap.size w w' := by
  rw [← h]; exact rfalls_c hl hh dl dh n w
theorem need_k (hl hh al ah dl dh x y e : Int) (h : needV hl hh al ah dl dh = spanE x y e) (w : World) : Calls Try.prog 43 #[spanV hl hh, spanV al ah, spanV dl dh] w fun en w' => en = .returned (spanE x y e) ∧ Below w.heap.size w w' := by
  rw [← h]; exact need_c hl hh al ah dl dh w
theorem rneed_k (hl hh al ah dl dh x y e : Int) (h : needV hl hh al ah dl dh = spanE x y e) (w : World) : Calls Try.prog 44 #[spanV hl hh, spanV al ah, spanV dl dh] w fun en w' => en = .returned (spanE x y e) ∧ Below w.heap.size w w' := by
  rw [← h]; exact rneed_c hl hh al ah dl dh w

set_option maxHeartbeats 4000000 in
theorem DressingHeights_c (hl hh al ah dl dh n : Int) (w : World) :
    Calls Try.prog 7 #[spanV hl hh, spanV al ah, spanV dl dh, .int .i64 n] w fun e w' => e = .returned (.bool true) ∧ Below w.heap.size w w' := by
  obtain ⟨x, y, e, h1⟩ := fallsV_form hl hh dl dh n
  obtain ⟨x', y', e', h2⟩ := needV_form hl hh al ah dl dh
  have H1 := Lib.hid h1
  have H2 := Lib.hid h2
  clear h1 h2
  go_enter Try.func7, Try.ntmps7
  go_wp2_with fail
  (go_at_call 41; refine (falls_k _ _ _ _ _ x y e H1.out _).mono ?_; rintro en w1 ⟨rfl, hb1⟩; obtain ⟨hc1, hf1⟩ := bcell hb1)
  have hz1 := hb1.size
  simp at hz1
  have hy10 : w.heap.size < w1.heap.size := by omega
  have hy11 : w.heap.size + 1 < w1.heap.size := by omega
  have hy12 : w.heap.size + 1 + 1 < w1.heap.size := by omega
  go_wp2_with fail
  (go_at_call 42; refine (rfalls_k _ _ _ _ _ x y e H1.out _).mono ?_; rintro en w2 ⟨rfl, hb2⟩; obtain ⟨hc2, hf2⟩ := bcell hb2)
  have hz2 := hb2.size
  simp at hz2
  have hy20 : w.heap.size < w2.heap.size := by omega
  have hy21 : w.heap.size + 1 < w2.heap.size := by omega
  have hy22 : w.heap.size + 1 + 1 < w2.heap.size := by omega
  go_wp2_with fail
  (go_at_call 43; refine (need_k _ _ _ _ _ _ x' y' e' H2.out _).mono ?_; rintro en w3 ⟨rfl, hb3⟩; obtain ⟨hc3, hf3⟩ := bcell hb3)
  have hz3 := hb3.size
  simp at hz3
  have hy30 : w.heap.size < w3.heap.size := by omega
  have hy31 : w.heap.size + 1 < w3.heap.size := by omega
  have hy32 : w.heap.size + 1 + 1 < w3.heap.size := by omega
  go_wp2_with fail
  (go_at_call 44; refine (rneed_k _ _ _ _ _ _ x' y' e' H2.out _).mono ?_; rintro en w4 ⟨rfl, hb4⟩; obtain ⟨hc4, hf4⟩ := bcell hb4)
  have hz4 := hb4.size
  simp at hz4
  go_wp2_with fail
  (go_at_call 19; refine (awake_c _).mono ?_; rintro en w5 ⟨rfl, hb5⟩; obtain ⟨hc5, hf5⟩ := bcell hb5)
  have u4 : Below (w4.heap.size + 1) (w4.alloc (.cells #[.int .i64 x', .int .i64 y'] 49)) w5 := by simpa using hb5
  have u3 : Below (w3.heap.size + 1) (w3.alloc (.cells #[.int .i64 x', .int .i64 y'] 49)) w4 := by simpa using hb4
  have u2 : Below (w2.heap.size + 1) (w2.alloc (.cells #[.int .i64 x, .int .i64 y] 49)) w3 := by simpa using hb3
  have u1 : Below (w1.heap.size + 1) (w1.alloc (.cells #[.int .i64 x, .int .i64 y] 49)) w2 := by simpa using hb2
  have al : ∀ (W : World) (o : Obj) (B : Nat), B ≤ W.heap.size → Below B W (W.alloc o) := fun W o B hB => (Below.refl _ _).alloc hB o
  have t4 : Below (w4.heap.size) w4 w5 := (al w4 _ _ (Nat.le_refl _)).trans (u4.mono (by omega))
  have t3 : Below (w3.heap.size + 1) (w3.alloc (.cells #[.int .i64 x', .int .i64 y'] 49)) w5 := u3.trans (t4.mono (by omega))
  have t2 : Below (w2.heap.size + 1) (w2.alloc (.cells #[.int .i64 x, .int .i64 y] 49)) w5 := u2.trans ((al w3 _ _ (Nat.le_refl _)).mono (by omega) |>.trans (t3.mono (by omega)))
  have t1 : Below (w1.heap.size + 1) (w1.alloc (.cells #[.int .i64 x, .int .i64 y] 49)) w5 := u1.trans ((al w2 _ _ (Nat.le_refl _)).mono (by omega) |>.trans (t2.mono (by omega)))
  have a0 : w5.cell? ⟨w1.heap.size, 0, none⟩ = some (.int .i64 x) := (t1.cell (p := ⟨w1.heap.size, 0, none⟩) (by simp)).trans (by simp [go_sem])
  have a1 : w5.cell? ⟨w1.heap.size, 1, none⟩ = some (.int .i64 y) := (t1.cell (p := ⟨w1.heap.size, 1, none⟩) (by simp)).trans (by simp [go_sem])
  have b0 : w5.cell? ⟨w2.heap.size, 0, none⟩ = some (.int .i64 x) := (t2.cell (p := ⟨w2.heap.size, 0, none⟩) (by simp)).trans (by simp [go_sem])
  have b1 : w5.cell? ⟨w2.heap.size, 1, none⟩ = some (.int .i64 y) := (t2.cell (p := ⟨w2.heap.size, 1, none⟩) (by simp)).trans (by simp [go_sem])
  have c0 : w5.cell? ⟨w3.heap.size, 0, none⟩ = some (.int .i64 x') := (t3.cell (p := ⟨w3.heap.size, 0, none⟩) (by simp)).trans (by simp [go_sem])
  have c1 : w5.cell? ⟨w3.heap.size, 1, none⟩ = some (.int .i64 y') := (t3.cell (p := ⟨w3.heap.size, 1, none⟩) (by simp)).trans (by simp [go_sem])
  have d0 : w5.cell? ⟨w4.heap.size, 0, none⟩ = some (.int .i64 x') := (u4.cell (p := ⟨w4.heap.size, 0, none⟩) (by simp)).trans (by simp [go_sem])
  have d1 : w5.cell? ⟨w4.heap.size, 1, none⟩ = some (.int .i64 y') := (u4.cell (p := ⟨w4.heap.size, 1, none⟩) (by simp)).trans (by simp [go_sem])
  have hB : Below w.heap.size w w5 := (boxed3 hb1).trans ((al w1 _ _ (Nat.le_refl _)).mono (by omega) |>.trans (t1.mono (by omega)))
  clear hc1 hc2 hc3 hc4 hc5 hf1 hf2 hf3 hf4 hf5 u1 u2 u3 u4 t1 t2 t3 t4 al hb1 hb2 hb3 hb4 hb5
  go_wp2_with fail
  go_ret
  exact ⟨rfl, hB⟩

end Go.Proofs.Ytfhbpeafapabhaa

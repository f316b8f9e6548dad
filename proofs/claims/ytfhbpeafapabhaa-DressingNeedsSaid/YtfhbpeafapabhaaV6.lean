/- DressingNeeds: the law. -/
import Derived.Test.YtfhbpeafapabhaaV5
import Derived.Lib.QuietBelow
namespace Go.Proofs.Ytfhbpeafapabhaa
open Go.RowKit Go.Sort

def liesB (xl xh al ah : Int) : Bool := decide (al ≤ xl) && decide (xh ≤ ah)
theorem liesB_iff {xl xh al ah : Int} : liesB xl xh al ah = true ↔ al ≤ xl ∧ xh ≤ ah := by unfold liesB; simp

set_option maxHeartbeats 1000000 in
theorem lies_k (xl xh al ah : Int) (b : Bool) (h : liesB xl xh al ah = b) (w : World) :
    Calls Try.prog 59 #[spanV xl xh, spanV al ah] w fun e w' => e = .returned (.bool b) ∧ Below w.heap.size w w' := by
  have hB : ∀ o1 o2 : Obj, Below w.heap.size w ((w.alloc o1).alloc o2) := fun o1 o2 => ((Below.refl _ _).alloc (Nat.le_refl _) _).alloc (by simp) _
  by_cases h1 : al ≤ xl
  · have H := Lib.hid (show decide (xh ≤ ah) = b by rw [← h]; simp [liesB, h1])
    clear h
    have e1 : decide (al ≤ xl) = true := by simpa using h1
    go_enter Try.func59, Try.ntmps59
    go_wp2
    go_ret
    exact ⟨ret_bool H.out, hB _ _⟩
  · have H := Lib.hid (show false = b by rw [← h]; simp [liesB, h1])
    clear h
    have e1 : decide (al ≤ xl) = false := by simpa using h1
    go_enter Try.func59, Try.ntmps59
    go_wp2
    go_ret
    exact ⟨ret_bool H.out, hB _ _⟩

set_option maxHeartbeats 8000000 in
theorem needs_a (hl hh al ah dl dh a b : Int) (x y : Int) (H1 : Hid (fallsV hl hh dl dh a = spanE x y 1)) (w : World) :
    Calls Try.prog 14 #[spanV hl hh, spanV al ah, spanV dl dh, .int .i64 a, .int .i64 b] w fun e w' => e = .returned (.bool true) ∧ Below w.heap.size w w' := by
  go_enter Try.func14, Try.ntmps14
  go_wp2_with fail
  (go_at_call 19; refine (awake_c _).mono ?_; rintro en w1 ⟨rfl, hb1⟩; obtain ⟨hc1, hf1⟩ := bcell hb1)
  have hz1 := hb1.size
  try simp at hz1
  have hy10 : w.heap.size < w1.heap.size := by omega
  have hy11 : w.heap.size + 1 < w1.heap.size := by omega
  have hy12 : w.heap.size + 1 + 1 < w1.heap.size := by omega
  go_wp2_with fail
  (go_at_call 41; refine (falls_k _ _ _ _ _ x y 1 H1.out _).mono ?_; rintro en w2 ⟨rfl, hb2⟩; obtain ⟨hc2, hf2⟩ := bcell hb2)
  have hz2 := hb2.size
  try simp at hz2
  have hy20 : w.heap.size < w2.heap.size := by omega
  have hy21 : w.heap.size + 1 < w2.heap.size := by omega
  have hy22 : w.heap.size + 1 + 1 < w2.heap.size := by omega
  go_wp2_with fail
  have B1 : RowKit.Below w.heap.size w w1 := boxed3 hb1
  have B2 : RowKit.Below w.heap.size w w2 := B1.trans (hb2.mono (by omega))
  clear hc1 hf1 hc2 hf2
  go_ret
  refine ⟨rfl, ?_⟩
  repeat (first | exact B2 | refine RowKit.Below.alloc ?_ (by first | omega | (simp; omega)) _)

set_option maxHeartbeats 8000000 in
theorem needs_b1 (hl hh al ah dl dh a b : Int) (x y : Int) (H1 : Hid (fallsV hl hh dl dh a = spanE x y 0)) (k1 : al < -1000000000) (w : World) :
    Calls Try.prog 14 #[spanV hl hh, spanV al ah, spanV dl dh, .int .i64 a, .int .i64 b] w fun e w' => e = .returned (.bool true) ∧ Below w.heap.size w w' := by
  have e1 : decide (al < -1000000000) = true := by simp; omega
  go_enter Try.func14, Try.ntmps14
  go_wp2_with fail
  (go_at_call 19; refine (awake_c _).mono ?_; rintro en w1 ⟨rfl, hb1⟩; obtain ⟨hc1, hf1⟩ := bcell hb1)
  have hz1 := hb1.size
  try simp at hz1
  have hy10 : w.heap.size < w1.heap.size := by omega
  have hy11 : w.heap.size + 1 < w1.heap.size := by omega
  have hy12 : w.heap.size + 1 + 1 < w1.heap.size := by omega
  go_wp2_with fail
  (go_at_call 41; refine (falls_k _ _ _ _ _ x y 0 H1.out _).mono ?_; rintro en w2 ⟨rfl, hb2⟩; obtain ⟨hc2, hf2⟩ := bcell hb2)
  have hz2 := hb2.size
  try simp at hz2
  have hy20 : w.heap.size < w2.heap.size := by omega
  have hy21 : w.heap.size + 1 < w2.heap.size := by omega
  have hy22 : w.heap.size + 1 + 1 < w2.heap.size := by omega
  go_wp2_with fail
  have B1 : RowKit.Below w.heap.size w w1 := boxed3 hb1
  have B2 : RowKit.Below w.heap.size w w2 := B1.trans (hb2.mono (by omega))
  clear hc1 hf1 hc2 hf2
  go_ret
  refine ⟨rfl, ?_⟩
  repeat (first | exact B2 | refine RowKit.Below.alloc ?_ (by first | omega | (simp; omega)) _)

set_option maxHeartbeats 8000000 in
theorem needs_b2 (hl hh al ah dl dh a b : Int) (x y : Int) (H1 : Hid (fallsV hl hh dl dh a = spanE x y 0)) (k1 : -1000000000 ≤ al) (k2 : ah < al) (w : World) :
    Calls Try.prog 14 #[spanV hl hh, spanV al ah, spanV dl dh, .int .i64 a, .int .i64 b] w fun e w' => e = .returned (.bool true) ∧ Below w.heap.size w w' := by
  have e1 : decide (al < -1000000000) = false := by simp; omega
  have e2 : decide (ah < al) = true := by simp; omega
  go_enter Try.func14, Try.ntmps14
  go_wp2_with fail
  (go_at_call 19; refine (awake_c _).mono ?_; rintro en w1 ⟨rfl, hb1⟩; obtain ⟨hc1, hf1⟩ := bcell hb1)
  have hz1 := hb1.size
  try simp at hz1
  have hy10 : w.heap.size < w1.heap.size := by omega
  have hy11 : w.heap.size + 1 < w1.heap.size := by omega
  have hy12 : w.heap.size + 1 + 1 < w1.heap.size := by omega
  go_wp2_with fail
  (go_at_call 41; refine (falls_k _ _ _ _ _ x y 0 H1.out _).mono ?_; rintro en w2 ⟨rfl, hb2⟩; obtain ⟨hc2, hf2⟩ := bcell hb2)
  have hz2 := hb2.size
  try simp at hz2
  have hy20 : w.heap.size < w2.heap.size := by omega
  have hy21 : w.heap.size + 1 < w2.heap.size := by omega
  have hy22 : w.heap.size + 1 + 1 < w2.heap.size := by omega
  go_wp2_with fail
  have B1 : RowKit.Below w.heap.size w w1 := boxed3 hb1
  have B2 : RowKit.Below w.heap.size w w2 := B1.trans (hb2.mono (by omega))
  clear hc1 hf1 hc2 hf2
  go_ret
  refine ⟨rfl, ?_⟩
  repeat (first | exact B2 | refine RowKit.Below.alloc ?_ (by first | omega | (simp; omega)) _)

set_option maxHeartbeats 8000000 in
theorem needs_b3 (hl hh al ah dl dh a b : Int) (x y : Int) (H1 : Hid (fallsV hl hh dl dh a = spanE x y 0)) (k1 : -1000000000 ≤ al) (k2 : al ≤ ah) (k3 : 1000000000 < ah) (w : World) :
    Calls Try.prog 14 #[spanV hl hh, spanV al ah, spanV dl dh, .int .i64 a, .int .i64 b] w fun e w' => e = .returned (.bool true) ∧ Below w.heap.size w w' := by
  have e1 : decide (al < -1000000000) = false := by simp; omega
  have e2 : decide (ah < al) = false := by simp; omega
  have e3 : decide (1000000000 < ah) = true := by simp; omega
  go_enter Try.func14, Try.ntmps14
  go_wp2_with fail
  (go_at_call 19; refine (awake_c _).mono ?_; rintro en w1 ⟨rfl, hb1⟩; obtain ⟨hc1, hf1⟩ := bcell hb1)
  have hz1 := hb1.size
  try simp at hz1
  have hy10 : w.heap.size < w1.heap.size := by omega
  have hy11 : w.heap.size + 1 < w1.heap.size := by omega
  have hy12 : w.heap.size + 1 + 1 < w1.heap.size := by omega
  go_wp2_with fail
  (go_at_call 41; refine (falls_k _ _ _ _ _ x y 0 H1.out _).mono ?_; rintro en w2 ⟨rfl, hb2⟩; obtain ⟨hc2, hf2⟩ := bcell hb2)
  have hz2 := hb2.size
  try simp at hz2
  have hy20 : w.heap.size < w2.heap.size := by omega
  have hy21 : w.heap.size + 1 < w2.heap.size := by omega
  have hy22 : w.heap.size + 1 + 1 < w2.heap.size := by omega
  go_wp2_with fail
  have B1 : RowKit.Below w.heap.size w w1 := boxed3 hb1
  have B2 : RowKit.Below w.heap.size w w2 := B1.trans (hb2.mono (by omega))
  clear hc1 hf1 hc2 hf2
  go_ret
  refine ⟨rfl, ?_⟩
  repeat (first | exact B2 | refine RowKit.Below.alloc ?_ (by first | omega | (simp; omega)) _)

set_option maxHeartbeats 8000000 in
theorem needs_c (hl hh al ah dl dh a b : Int) (x y : Int) (H1 : Hid (fallsV hl hh dl dh a = spanE x y 0)) (k1 : -1000000000 ≤ al) (k2 : al ≤ ah) (k3 : ah ≤ 1000000000) (H2 : Hid (needV hl hh al ah dl dh = spanE 0 0 51)) (H3 : Hid (liesB x y al ah = false)) (w : World) :
    Calls Try.prog 14 #[spanV hl hh, spanV al ah, spanV dl dh, .int .i64 a, .int .i64 b] w fun e w' => e = .returned (.bool true) ∧ Below w.heap.size w w' := by
  have e1 : decide (al < -1000000000) = false := by simp; omega
  have e2 : decide (ah < al) = false := by simp; omega
  have e3 : decide (1000000000 < ah) = false := by simp; omega
  go_enter Try.func14, Try.ntmps14
  go_wp2_with fail
  (go_at_call 19; refine (awake_c _).mono ?_; rintro en w1 ⟨rfl, hb1⟩; obtain ⟨hc1, hf1⟩ := bcell hb1)
  have hz1 := hb1.size
  try simp at hz1
  have hy10 : w.heap.size < w1.heap.size := by omega
  have hy11 : w.heap.size + 1 < w1.heap.size := by omega
  have hy12 : w.heap.size + 1 + 1 < w1.heap.size := by omega
  go_wp2_with fail
  (go_at_call 41; refine (falls_k _ _ _ _ _ x y 0 H1.out _).mono ?_; rintro en w2 ⟨rfl, hb2⟩; obtain ⟨hc2, hf2⟩ := bcell hb2)
  have hz2 := hb2.size
  try simp at hz2
  have hy20 : w.heap.size < w2.heap.size := by omega
  have hy21 : w.heap.size + 1 < w2.heap.size := by omega
  have hy22 : w.heap.size + 1 + 1 < w2.heap.size := by omega
  go_wp2_with fail
  (go_at_call 43; refine (need_k _ _ _ _ _ _ 0 0 51 H2.out _).mono ?_; rintro en w3 ⟨rfl, hb3⟩; obtain ⟨hc3, hf3⟩ := bcell hb3)
  have hz3 := hb3.size
  try simp at hz3
  have hy30 : w.heap.size < w3.heap.size := by omega
  have hy31 : w.heap.size + 1 < w3.heap.size := by omega
  have hy32 : w.heap.size + 1 + 1 < w3.heap.size := by omega
  have hv32 : w2.heap.size < w3.heap.size := by omega
  go_wp2_with fail
  (go_at_call 59; refine (lies_k _ _ _ _ false H3.out _).mono ?_; rintro en w4 ⟨rfl, hb4⟩; obtain ⟨hc4, hf4⟩ := bcell hb4)
  have hz4 := hb4.size
  try simp at hz4
  have hy40 : w.heap.size < w4.heap.size := by omega
  have hy41 : w.heap.size + 1 < w4.heap.size := by omega
  have hy42 : w.heap.size + 1 + 1 < w4.heap.size := by omega
  have hv42 : w2.heap.size < w4.heap.size := by omega
  have hv43 : w3.heap.size < w4.heap.size := by omega
  go_wp2_with fail
  have B1 : RowKit.Below w.heap.size w w1 := boxed3 hb1
  have B2 : RowKit.Below w.heap.size w w2 := B1.trans (hb2.mono (by omega))
  have B3 : RowKit.Below w.heap.size w w3 := B2.trans ((boxed hb3).mono (by omega))
  have B4 : RowKit.Below w.heap.size w w4 := B3.trans ((boxed hb4).mono (by omega))
  clear hc1 hf1 hc2 hf2 hc3 hf3 hc4 hf4
  go_ret
  refine ⟨rfl, ?_⟩
  repeat (first | exact B4 | refine RowKit.Below.alloc ?_ (by first | omega | (simp; omega)) _)

set_option maxHeartbeats 8000000 in
theorem needs_d1 (hl hh al ah dl dh a b : Int) (x y : Int) (H1 : Hid (fallsV hl hh dl dh a = spanE x y 0)) (k1 : -1000000000 ≤ al) (k2 : al ≤ ah) (k3 : ah ≤ 1000000000) (L H : Int) (H2 : Hid (needV hl hh al ah dl dh = spanE L H 0)) (hLH : L ≤ H) (H3 : Hid (liesB x y al ah = true)) (m1 : L ≤ a) (m2 : a ≤ H) (T : Hid ((∃ x2 y2, fallsV x y dl dh b = spanE x2 y2 1) ∨ (∃ x2 y2, fallsV x y dl dh b = spanE x2 y2 0 ∧ 100000 - a < b) ∨ (∃ x2 y2, fallsV x y dl dh b = spanE x2 y2 0 ∧ 0 ≤ b ∧ b ≤ 100000 - a ∧ fallsV hl hh dl dh (a + b) = spanE x2 y2 0))) (a0 : 0 ≤ a) (a1 : a ≤ 100000)  (w : World) :
    Calls Try.prog 14 #[spanV hl hh, spanV al ah, spanV dl dh, .int .i64 a, .int .i64 b] w fun e w' => e = .returned (.bool true) ∧ Below w.heap.size w w' := by
  have e1 : decide (al < -1000000000) = false := by simp; omega
  have e2 : decide (ah < al) = false := by simp; omega
  have e3 : decide (1000000000 < ah) = false := by simp; omega
  have e4 : decide (L ≤ a) = true := by simp; omega
  have e5 : decide (a ≤ H) = true := by simp; omega
  have e6 : decide (H < L) = false := by simp; omega
  go_enter Try.func14, Try.ntmps14
  go_wp2_with fail
  (go_at_call 19; refine (awake_c _).mono ?_; rintro en w1 ⟨rfl, hb1⟩; obtain ⟨hc1, hf1⟩ := bcell hb1)
  have hz1 := hb1.size
  try simp at hz1
  have hy10 : w.heap.size < w1.heap.size := by omega
  have hy11 : w.heap.size + 1 < w1.heap.size := by omega
  have hy12 : w.heap.size + 1 + 1 < w1.heap.size := by omega
  go_wp2_with fail
  (go_at_call 41; refine (falls_k _ _ _ _ _ x y 0 H1.out _).mono ?_; rintro en w2 ⟨rfl, hb2⟩; obtain ⟨hc2, hf2⟩ := bcell hb2)
  have hz2 := hb2.size
  try simp at hz2
  have hy20 : w.heap.size < w2.heap.size := by omega
  have hy21 : w.heap.size + 1 < w2.heap.size := by omega
  have hy22 : w.heap.size + 1 + 1 < w2.heap.size := by omega
  go_wp2_with fail
  (go_at_call 43; refine (need_k _ _ _ _ _ _ L H 0 H2.out _).mono ?_; rintro en w3 ⟨rfl, hb3⟩; obtain ⟨hc3, hf3⟩ := bcell hb3)
  have hz3 := hb3.size
  try simp at hz3
  have hy30 : w.heap.size < w3.heap.size := by omega
  have hy31 : w.heap.size + 1 < w3.heap.size := by omega
  have hy32 : w.heap.size + 1 + 1 < w3.heap.size := by omega
  have hv32 : w2.heap.size < w3.heap.size := by omega
  go_wp2_with fail
  have U3 : RowKit.Below (w2.heap.size + 1) (w2.alloc (.cells #[.int .i64 x, .int .i64 y] 49)) w3 := by simpa using hb3
  have U8 : RowKit.Below w3.heap.size w3 (w3.alloc (.cells #[.int .i64 L, .int .i64 H] 49)) := (RowKit.Below.refl _ _).alloc (Nat.le_refl _) _
  have p0 : w1.cell? ⟨w.heap.size + 1, 0, none⟩ = some (.int .i64 al) := (hc1 _ _ (by simp)).trans (by simp [go_sem])
  have p1 : w1.cell? ⟨w.heap.size + 1, 1, none⟩ = some (.int .i64 ah) := (hc1 _ _ (by simp)).trans (by simp [go_sem])
  have V3 : RowKit.Below w2.heap.size w2 w3 := ((RowKit.Below.refl _ _).alloc (Nat.le_refl _) _).trans (U3.mono (by omega))
  have q0 : (w3.alloc (.cells #[.int .i64 L, .int .i64 H] 49)).cell? ⟨w.heap.size + 1, 0, none⟩ = some (.int .i64 al) := (U8.cell (p := ⟨w.heap.size + 1, 0, none⟩) hy31).trans ((V3.cell (p := ⟨w.heap.size + 1, 0, none⟩) hy21).trans ((hc2 _ _ hy11).trans p0))
  have q1 : (w3.alloc (.cells #[.int .i64 L, .int .i64 H] 49)).cell? ⟨w.heap.size + 1, 1, none⟩ = some (.int .i64 ah) := (U8.cell (p := ⟨w.heap.size + 1, 1, none⟩) hy31).trans ((V3.cell (p := ⟨w.heap.size + 1, 1, none⟩) hy21).trans ((hc2 _ _ hy11).trans p1))
  have q2 : (w3.alloc (.cells #[.int .i64 L, .int .i64 H] 49)).cell? ⟨w2.heap.size, 0, none⟩ = some (.int .i64 x) := (U8.cell (p := ⟨w2.heap.size, 0, none⟩) hv32).trans ((U3.cell (p := ⟨w2.heap.size, 0, none⟩) (by simp)).trans (by simp [go_sem]))
  have q3 : (w3.alloc (.cells #[.int .i64 L, .int .i64 H] 49)).cell? ⟨w2.heap.size, 1, none⟩ = some (.int .i64 y) := (U8.cell (p := ⟨w2.heap.size, 1, none⟩) hv32).trans ((U3.cell (p := ⟨w2.heap.size, 1, none⟩) (by simp)).trans (by simp [go_sem]))
  have q4 : (w3.alloc (.cells #[.int .i64 L, .int .i64 H] 49)).cell? ⟨w3.heap.size, 0, none⟩ = some (.int .i64 L) := by simp [go_sem]
  have q5 : (w3.alloc (.cells #[.int .i64 L, .int .i64 H] 49)).cell? ⟨w3.heap.size, 1, none⟩ = some (.int .i64 H) := by simp [go_sem]
  have g0 := fun d os => cell_regrown q0 d os
  have g1 := fun d os => cell_regrown q1 d os
  have g2 := fun d os => cell_regrown q2 d os
  have g3 := fun d os => cell_regrown q3 d os
  have g4 := fun d os => cell_regrown q4 d os
  have g5 := fun d os => cell_regrown q5 d os
  refine wp_region_quiet_below (by kernel_rfl) (by kernel_rfl) ?_
  repeat (quiet_step ((go_at_call 59; exact Calls.regrown_of (lies_k _ _ _ _ true H3.out _))))
  refine wpQuiet_nil ?_
  intro _ hw'
  obtain ⟨⟨dq, osq⟩, hw''⟩ := hw'
  subst hw''
  have hb4 := below_regrown (w3.alloc (.cells #[.int .i64 L, .int .i64 H] 49)) dq osq
  clear g0 g1 g2 g3 g4 g5 q0 q1 q2 q3 q4 q5 U8
  generalize grow (redrawn (w3.alloc (.cells #[.int .i64 L, .int .i64 H] 49)) dq) osq = w4 at hb4 ⊢
  obtain ⟨hc4, hf4⟩ := bcell hb4
  have hz4 := hb4.size
  simp at hz4
  have hy40 : w.heap.size < w4.heap.size := by omega
  have hy41 : w.heap.size + 1 < w4.heap.size := by omega
  have hy42 : w.heap.size + 1 + 1 < w4.heap.size := by omega
  have hv42 : w2.heap.size < w4.heap.size := by omega
  have hv43 : w3.heap.size < w4.heap.size := by omega
  go_wp2_with fail
  rcases T.out with ⟨x2, y2, t1⟩ | ⟨x2, y2, t1, t2⟩ | ⟨x2, y2, t1, t0, t2, t3⟩
  · have T1 := Lib.hid t1
    clear t1 T
    (go_at_call 41; refine (falls_k _ _ _ _ _ x2 y2 1 T1.out _).mono ?_; rintro en w5 ⟨rfl, hb5⟩; obtain ⟨hc5, hf5⟩ := bcell hb5)
    have hz5 := hb5.size
    try simp at hz5
    have hy50 : w.heap.size < w5.heap.size := by omega
    have hy51 : w.heap.size + 1 < w5.heap.size := by omega
    have hy52 : w.heap.size + 1 + 1 < w5.heap.size := by omega
    have hv52 : w2.heap.size < w5.heap.size := by omega
    have hv53 : w3.heap.size < w5.heap.size := by omega
    go_wp2_with fail
    have B1 : RowKit.Below w.heap.size w w1 := boxed3 hb1
    have B2 : RowKit.Below w.heap.size w w2 := B1.trans (hb2.mono (by omega))
    have B3 : RowKit.Below w.heap.size w w3 := B2.trans ((boxed hb3).mono (by omega))
    have B4 : RowKit.Below w.heap.size w w4 := B3.trans ((boxed hb4).mono (by omega))
    have B5 : RowKit.Below w.heap.size w w5 := B4.trans (hb5.mono (by omega))
    clear hc1 hf1 hc2 hf2 hc3 hf3 hc4 hf4 hc5 hf5
    go_ret
    refine ⟨rfl, ?_⟩
    repeat (first | exact B5 | refine RowKit.Below.alloc ?_ (by first | omega | (simp; omega)) _)
  · have T1 := Lib.hid t1
    clear t1 T
    have e7 : decide (100000 - a < b) = true := by simp; omega
    (go_at_call 41; refine (falls_k _ _ _ _ _ x2 y2 0 T1.out _).mono ?_; rintro en w5 ⟨rfl, hb5⟩; obtain ⟨hc5, hf5⟩ := bcell hb5)
    have hz5 := hb5.size
    try simp at hz5
    have hy50 : w.heap.size < w5.heap.size := by omega
    have hy51 : w.heap.size + 1 < w5.heap.size := by omega
    have hy52 : w.heap.size + 1 + 1 < w5.heap.size := by omega
    have hv52 : w2.heap.size < w5.heap.size := by omega
    have hv53 : w3.heap.size < w5.heap.size := by omega
    go_wp2_with fail
    have B1 : RowKit.Below w.heap.size w w1 := boxed3 hb1
    have B2 : RowKit.Below w.heap.size w w2 := B1.trans (hb2.mono (by omega))
    have B3 : RowKit.Below w.heap.size w w3 := B2.trans ((boxed hb3).mono (by omega))
    have B4 : RowKit.Below w.heap.size w w4 := B3.trans ((boxed hb4).mono (by omega))
    have B5 : RowKit.Below w.heap.size w w5 := B4.trans (hb5.mono (by omega))
    clear hc1 hf1 hc2 hf2 hc3 hf3 hc4 hf4 hc5 hf5
    go_ret
    refine ⟨rfl, ?_⟩
    repeat (first | exact B5 | refine RowKit.Below.alloc ?_ (by first | omega | (simp; omega)) _)
  · have T1 := Lib.hid t1
    have T3 := Lib.hid t3
    clear t1 t3 T
    have e7 : decide (100000 - a < b) = false := by simp; omega
    (go_at_call 41; refine (falls_k _ _ _ _ _ x2 y2 0 T1.out _).mono ?_; rintro en w5 ⟨rfl, hb5⟩; obtain ⟨hc5, hf5⟩ := bcell hb5)
    have hz5 := hb5.size
    try simp at hz5
    have hy50 : w.heap.size < w5.heap.size := by omega
    have hy51 : w.heap.size + 1 < w5.heap.size := by omega
    have hy52 : w.heap.size + 1 + 1 < w5.heap.size := by omega
    have hv52 : w2.heap.size < w5.heap.size := by omega
    have hv53 : w3.heap.size < w5.heap.size := by omega
    go_wp2_with fail
    (go_at_call 41; refine (falls_k _ _ _ _ _ x2 y2 0 T3.out _).mono ?_; rintro en w6 ⟨rfl, hb6⟩; obtain ⟨hc6, hf6⟩ := bcell hb6)
    have hz6 := hb6.size
    try simp at hz6
    have hy60 : w.heap.size < w6.heap.size := by omega
    have hy61 : w.heap.size + 1 < w6.heap.size := by omega
    have hy62 : w.heap.size + 1 + 1 < w6.heap.size := by omega
    have hv62 : w2.heap.size < w6.heap.size := by omega
    have hv63 : w3.heap.size < w6.heap.size := by omega
    have hv65 : w5.heap.size < w6.heap.size := by omega
    go_wp2_with fail
    have B1 : RowKit.Below w.heap.size w w1 := boxed3 hb1
    have B2 : RowKit.Below w.heap.size w w2 := B1.trans (hb2.mono (by omega))
    have B3 : RowKit.Below w.heap.size w w3 := B2.trans ((boxed hb3).mono (by omega))
    have B4 : RowKit.Below w.heap.size w w4 := B3.trans ((boxed hb4).mono (by omega))
    have B5 : RowKit.Below w.heap.size w w5 := B4.trans (hb5.mono (by omega))
    have B6 : RowKit.Below w.heap.size w w6 := B5.trans ((boxed hb6).mono (by omega))
    clear hc6 hf6 hc1 hf1 hc2 hf2 hc3 hf3 hc4 hf4 hc5 hf5
    go_ret
    refine ⟨rfl, ?_⟩
    repeat (first | exact B6 | refine RowKit.Below.alloc ?_ (by first | omega | (simp; omega)) _)

set_option maxHeartbeats 8000000 in
theorem needs_d2 (hl hh al ah dl dh a b : Int) (x y : Int) (H1 : Hid (fallsV hl hh dl dh a = spanE x y 0)) (k1 : -1000000000 ≤ al) (k2 : al ≤ ah) (k3 : ah ≤ 1000000000) (L H : Int) (H2 : Hid (needV hl hh al ah dl dh = spanE L H 0)) (hLH : L ≤ H) (H3 : Hid (liesB x y al ah = false)) (m1 : a < L) (T : Hid ((∃ x2 y2, fallsV x y dl dh b = spanE x2 y2 1) ∨ (∃ x2 y2, fallsV x y dl dh b = spanE x2 y2 0 ∧ 100000 - a < b) ∨ (∃ x2 y2, fallsV x y dl dh b = spanE x2 y2 0 ∧ 0 ≤ b ∧ b ≤ 100000 - a ∧ fallsV hl hh dl dh (a + b) = spanE x2 y2 0))) (a0 : 0 ≤ a) (a1 : a ≤ 100000)  (w : World) :
    Calls Try.prog 14 #[spanV hl hh, spanV al ah, spanV dl dh, .int .i64 a, .int .i64 b] w fun e w' => e = .returned (.bool true) ∧ Below w.heap.size w w' := by
  have e1 : decide (al < -1000000000) = false := by simp; omega
  have e2 : decide (ah < al) = false := by simp; omega
  have e3 : decide (1000000000 < ah) = false := by simp; omega
  have e4 : decide (L ≤ a) = false := by simp; omega
  have e6 : decide (H < L) = false := by simp; omega
  go_enter Try.func14, Try.ntmps14
  go_wp2_with fail
  (go_at_call 19; refine (awake_c _).mono ?_; rintro en w1 ⟨rfl, hb1⟩; obtain ⟨hc1, hf1⟩ := bcell hb1)
  have hz1 := hb1.size
  try simp at hz1
  have hy10 : w.heap.size < w1.heap.size := by omega
  have hy11 : w.heap.size + 1 < w1.heap.size := by omega
  have hy12 : w.heap.size + 1 + 1 < w1.heap.size := by omega
  go_wp2_with fail
  (go_at_call 41; refine (falls_k _ _ _ _ _ x y 0 H1.out _).mono ?_; rintro en w2 ⟨rfl, hb2⟩; obtain ⟨hc2, hf2⟩ := bcell hb2)
  have hz2 := hb2.size
  try simp at hz2
  have hy20 : w.heap.size < w2.heap.size := by omega
  have hy21 : w.heap.size + 1 < w2.heap.size := by omega
  have hy22 : w.heap.size + 1 + 1 < w2.heap.size := by omega
  go_wp2_with fail
  (go_at_call 43; refine (need_k _ _ _ _ _ _ L H 0 H2.out _).mono ?_; rintro en w3 ⟨rfl, hb3⟩; obtain ⟨hc3, hf3⟩ := bcell hb3)
  have hz3 := hb3.size
  try simp at hz3
  have hy30 : w.heap.size < w3.heap.size := by omega
  have hy31 : w.heap.size + 1 < w3.heap.size := by omega
  have hy32 : w.heap.size + 1 + 1 < w3.heap.size := by omega
  have hv32 : w2.heap.size < w3.heap.size := by omega
  go_wp2_with fail
  have U3 : RowKit.Below (w2.heap.size + 1) (w2.alloc (.cells #[.int .i64 x, .int .i64 y] 49)) w3 := by simpa using hb3
  have U8 : RowKit.Below w3.heap.size w3 (w3.alloc (.cells #[.int .i64 L, .int .i64 H] 49)) := (RowKit.Below.refl _ _).alloc (Nat.le_refl _) _
  have p0 : w1.cell? ⟨w.heap.size + 1, 0, none⟩ = some (.int .i64 al) := (hc1 _ _ (by simp)).trans (by simp [go_sem])
  have p1 : w1.cell? ⟨w.heap.size + 1, 1, none⟩ = some (.int .i64 ah) := (hc1 _ _ (by simp)).trans (by simp [go_sem])
  have V3 : RowKit.Below w2.heap.size w2 w3 := ((RowKit.Below.refl _ _).alloc (Nat.le_refl _) _).trans (U3.mono (by omega))
  have q0 : (w3.alloc (.cells #[.int .i64 L, .int .i64 H] 49)).cell? ⟨w.heap.size + 1, 0, none⟩ = some (.int .i64 al) := (U8.cell (p := ⟨w.heap.size + 1, 0, none⟩) hy31).trans ((V3.cell (p := ⟨w.heap.size + 1, 0, none⟩) hy21).trans ((hc2 _ _ hy11).trans p0))
  have q1 : (w3.alloc (.cells #[.int .i64 L, .int .i64 H] 49)).cell? ⟨w.heap.size + 1, 1, none⟩ = some (.int .i64 ah) := (U8.cell (p := ⟨w.heap.size + 1, 1, none⟩) hy31).trans ((V3.cell (p := ⟨w.heap.size + 1, 1, none⟩) hy21).trans ((hc2 _ _ hy11).trans p1))
  have q2 : (w3.alloc (.cells #[.int .i64 L, .int .i64 H] 49)).cell? ⟨w2.heap.size, 0, none⟩ = some (.int .i64 x) := (U8.cell (p := ⟨w2.heap.size, 0, none⟩) hv32).trans ((U3.cell (p := ⟨w2.heap.size, 0, none⟩) (by simp)).trans (by simp [go_sem]))
  have q3 : (w3.alloc (.cells #[.int .i64 L, .int .i64 H] 49)).cell? ⟨w2.heap.size, 1, none⟩ = some (.int .i64 y) := (U8.cell (p := ⟨w2.heap.size, 1, none⟩) hv32).trans ((U3.cell (p := ⟨w2.heap.size, 1, none⟩) (by simp)).trans (by simp [go_sem]))
  have q4 : (w3.alloc (.cells #[.int .i64 L, .int .i64 H] 49)).cell? ⟨w3.heap.size, 0, none⟩ = some (.int .i64 L) := by simp [go_sem]
  have q5 : (w3.alloc (.cells #[.int .i64 L, .int .i64 H] 49)).cell? ⟨w3.heap.size, 1, none⟩ = some (.int .i64 H) := by simp [go_sem]
  have g0 := fun d os => cell_regrown q0 d os
  have g1 := fun d os => cell_regrown q1 d os
  have g2 := fun d os => cell_regrown q2 d os
  have g3 := fun d os => cell_regrown q3 d os
  have g4 := fun d os => cell_regrown q4 d os
  have g5 := fun d os => cell_regrown q5 d os
  refine wp_region_quiet_below (by kernel_rfl) (by kernel_rfl) ?_
  repeat (quiet_step ((go_at_call 59; exact Calls.regrown_of (lies_k _ _ _ _ false H3.out _))))
  refine wpQuiet_nil ?_
  intro _ hw'
  obtain ⟨⟨dq, osq⟩, hw''⟩ := hw'
  subst hw''
  have hb4 := below_regrown (w3.alloc (.cells #[.int .i64 L, .int .i64 H] 49)) dq osq
  clear g0 g1 g2 g3 g4 g5 q0 q1 q2 q3 q4 q5 U8
  generalize grow (redrawn (w3.alloc (.cells #[.int .i64 L, .int .i64 H] 49)) dq) osq = w4 at hb4 ⊢
  obtain ⟨hc4, hf4⟩ := bcell hb4
  have hz4 := hb4.size
  simp at hz4
  have hy40 : w.heap.size < w4.heap.size := by omega
  have hy41 : w.heap.size + 1 < w4.heap.size := by omega
  have hy42 : w.heap.size + 1 + 1 < w4.heap.size := by omega
  have hv42 : w2.heap.size < w4.heap.size := by omega
  have hv43 : w3.heap.size < w4.heap.size := by omega
  go_wp2_with fail
  rcases T.out with ⟨x2, y2, t1⟩ | ⟨x2, y2, t1, t2⟩ | ⟨x2, y2, t1, t0, t2, t3⟩
  · have T1 := Lib.hid t1
    clear t1 T
    (go_at_call 41; refine (falls_k _ _ _ _ _ x2 y2 1 T1.out _).mono ?_; rintro en w5 ⟨rfl, hb5⟩; obtain ⟨hc5, hf5⟩ := bcell hb5)
    have hz5 := hb5.size
    try simp at hz5
    have hy50 : w.heap.size < w5.heap.size := by omega
    have hy51 : w.heap.size + 1 < w5.heap.size := by omega
    have hy52 : w.heap.size + 1 + 1 < w5.heap.size := by omega
    have hv52 : w2.heap.size < w5.heap.size := by omega
    have hv53 : w3.heap.size < w5.heap.size := by omega
    go_wp2_with fail
    have B1 : RowKit.Below w.heap.size w w1 := boxed3 hb1
    have B2 : RowKit.Below w.heap.size w w2 := B1.trans (hb2.mono (by omega))
    have B3 : RowKit.Below w.heap.size w w3 := B2.trans ((boxed hb3).mono (by omega))
    have B4 : RowKit.Below w.heap.size w w4 := B3.trans ((boxed hb4).mono (by omega))
    have B5 : RowKit.Below w.heap.size w w5 := B4.trans (hb5.mono (by omega))
    clear hc1 hf1 hc2 hf2 hc3 hf3 hc4 hf4 hc5 hf5
    go_ret
    refine ⟨rfl, ?_⟩
    repeat (first | exact B5 | refine RowKit.Below.alloc ?_ (by first | omega | (simp; omega)) _)
  · have T1 := Lib.hid t1
    clear t1 T
    have e7 : decide (100000 - a < b) = true := by simp; omega
    (go_at_call 41; refine (falls_k _ _ _ _ _ x2 y2 0 T1.out _).mono ?_; rintro en w5 ⟨rfl, hb5⟩; obtain ⟨hc5, hf5⟩ := bcell hb5)
    have hz5 := hb5.size
    try simp at hz5
    have hy50 : w.heap.size < w5.heap.size := by omega
    have hy51 : w.heap.size + 1 < w5.heap.size := by omega
    have hy52 : w.heap.size + 1 + 1 < w5.heap.size := by omega
    have hv52 : w2.heap.size < w5.heap.size := by omega
    have hv53 : w3.heap.size < w5.heap.size := by omega
    go_wp2_with fail
    have B1 : RowKit.Below w.heap.size w w1 := boxed3 hb1
    have B2 : RowKit.Below w.heap.size w w2 := B1.trans (hb2.mono (by omega))
    have B3 : RowKit.Below w.heap.size w w3 := B2.trans ((boxed hb3).mono (by omega))
    have B4 : RowKit.Below w.heap.size w w4 := B3.trans ((boxed hb4).mono (by omega))
    have B5 : RowKit.Below w.heap.size w w5 := B4.trans (hb5.mono (by omega))
    clear hc1 hf1 hc2 hf2 hc3 hf3 hc4 hf4 hc5 hf5
    go_ret
    refine ⟨rfl, ?_⟩
    repeat (first | exact B5 | refine RowKit.Below.alloc ?_ (by first | omega | (simp; omega)) _)
  · have T1 := Lib.hid t1
    have T3 := Lib.hid t3
    clear t1 t3 T
    have e7 : decide (100000 - a < b) = false := by simp; omega
    (go_at_call 41; refine (falls_k _ _ _ _ _ x2 y2 0 T1.out _).mono ?_; rintro en w5 ⟨rfl, hb5⟩; obtain ⟨hc5, hf5⟩ := bcell hb5)
    have hz5 := hb5.size
    try simp at hz5
    have hy50 : w.heap.size < w5.heap.size := by omega
    have hy51 : w.heap.size + 1 < w5.heap.size := by omega
    have hy52 : w.heap.size + 1 + 1 < w5.heap.size := by omega
    have hv52 : w2.heap.size < w5.heap.size := by omega
    have hv53 : w3.heap.size < w5.heap.size := by omega
    go_wp2_with fail
    (go_at_call 41; refine (falls_k _ _ _ _ _ x2 y2 0 T3.out _).mono ?_; rintro en w6 ⟨rfl, hb6⟩; obtain ⟨hc6, hf6⟩ := bcell hb6)
    have hz6 := hb6.size
    try simp at hz6
    have hy60 : w.heap.size < w6.heap.size := by omega
    have hy61 : w.heap.size + 1 < w6.heap.size := by omega
    have hy62 : w.heap.size + 1 + 1 < w6.heap.size := by omega
    have hv62 : w2.heap.size < w6.heap.size := by omega
    have hv63 : w3.heap.size < w6.heap.size := by omega
    have hv65 : w5.heap.size < w6.heap.size := by omega
    go_wp2_with fail
    have B1 : RowKit.Below w.heap.size w w1 := boxed3 hb1
    have B2 : RowKit.Below w.heap.size w w2 := B1.trans (hb2.mono (by omega))
    have B3 : RowKit.Below w.heap.size w w3 := B2.trans ((boxed hb3).mono (by omega))
    have B4 : RowKit.Below w.heap.size w w4 := B3.trans ((boxed hb4).mono (by omega))
    have B5 : RowKit.Below w.heap.size w w5 := B4.trans (hb5.mono (by omega))
    have B6 : RowKit.Below w.heap.size w w6 := B5.trans ((boxed hb6).mono (by omega))
    clear hc6 hf6 hc1 hf1 hc2 hf2 hc3 hf3 hc4 hf4 hc5 hf5
    go_ret
    refine ⟨rfl, ?_⟩
    repeat (first | exact B6 | refine RowKit.Below.alloc ?_ (by first | omega | (simp; omega)) _)

set_option maxHeartbeats 8000000 in
theorem needs_d3 (hl hh al ah dl dh a b : Int) (x y : Int) (H1 : Hid (fallsV hl hh dl dh a = spanE x y 0)) (k1 : -1000000000 ≤ al) (k2 : al ≤ ah) (k3 : ah ≤ 1000000000) (L H : Int) (H2 : Hid (needV hl hh al ah dl dh = spanE L H 0)) (hLH : L ≤ H) (H3 : Hid (liesB x y al ah = false)) (m1 : L ≤ a) (m2 : H < a) (T : Hid ((∃ x2 y2, fallsV x y dl dh b = spanE x2 y2 1) ∨ (∃ x2 y2, fallsV x y dl dh b = spanE x2 y2 0 ∧ 100000 - a < b) ∨ (∃ x2 y2, fallsV x y dl dh b = spanE x2 y2 0 ∧ 0 ≤ b ∧ b ≤ 100000 - a ∧ fallsV hl hh dl dh (a + b) = spanE x2 y2 0))) (a0 : 0 ≤ a) (a1 : a ≤ 100000)  (w : World) :
    Calls Try.prog 14 #[spanV hl hh, spanV al ah, spanV dl dh, .int .i64 a, .int .i64 b] w fun e w' => e = .returned (.bool true) ∧ Below w.heap.size w w' := by
  have e1 : decide (al < -1000000000) = false := by simp; omega
  have e2 : decide (ah < al) = false := by simp; omega
  have e3 : decide (1000000000 < ah) = false := by simp; omega
  have e4 : decide (L ≤ a) = true := by simp; omega
  have e5 : decide (a ≤ H) = false := by simp; omega
  have e6 : decide (H < L) = false := by simp; omega
  go_enter Try.func14, Try.ntmps14
  go_wp2_with fail
  (go_at_call 19; refine (awake_c _).mono ?_; rintro en w1 ⟨rfl, hb1⟩; obtain ⟨hc1, hf1⟩ := bcell hb1)
  have hz1 := hb1.size
  try simp at hz1
  have hy10 : w.heap.size < w1.heap.size := by omega
  have hy11 : w.heap.size + 1 < w1.heap.size := by omega
  have hy12 : w.heap.size + 1 + 1 < w1.heap.size := by omega
  go_wp2_with fail
  (go_at_call 41; refine (falls_k _ _ _ _ _ x y 0 H1.out _).mono ?_; rintro en w2 ⟨rfl, hb2⟩; obtain ⟨hc2, hf2⟩ := bcell hb2)
  have hz2 := hb2.size
  try simp at hz2
  have hy20 : w.heap.size < w2.heap.size := by omega
  have hy21 : w.heap.size + 1 < w2.heap.size := by omega
  have hy22 : w.heap.size + 1 + 1 < w2.heap.size := by omega
  go_wp2_with fail
  (go_at_call 43; refine (need_k _ _ _ _ _ _ L H 0 H2.out _).mono ?_; rintro en w3 ⟨rfl, hb3⟩; obtain ⟨hc3, hf3⟩ := bcell hb3)
  have hz3 := hb3.size
  try simp at hz3
  have hy30 : w.heap.size < w3.heap.size := by omega
  have hy31 : w.heap.size + 1 < w3.heap.size := by omega
  have hy32 : w.heap.size + 1 + 1 < w3.heap.size := by omega
  have hv32 : w2.heap.size < w3.heap.size := by omega
  go_wp2_with fail
  have U3 : RowKit.Below (w2.heap.size + 1) (w2.alloc (.cells #[.int .i64 x, .int .i64 y] 49)) w3 := by simpa using hb3
  have U8 : RowKit.Below w3.heap.size w3 (w3.alloc (.cells #[.int .i64 L, .int .i64 H] 49)) := (RowKit.Below.refl _ _).alloc (Nat.le_refl _) _
  have p0 : w1.cell? ⟨w.heap.size + 1, 0, none⟩ = some (.int .i64 al) := (hc1 _ _ (by simp)).trans (by simp [go_sem])
  have p1 : w1.cell? ⟨w.heap.size + 1, 1, none⟩ = some (.int .i64 ah) := (hc1 _ _ (by simp)).trans (by simp [go_sem])
  have V3 : RowKit.Below w2.heap.size w2 w3 := ((RowKit.Below.refl _ _).alloc (Nat.le_refl _) _).trans (U3.mono (by omega))
  have q0 : (w3.alloc (.cells #[.int .i64 L, .int .i64 H] 49)).cell? ⟨w.heap.size + 1, 0, none⟩ = some (.int .i64 al) := (U8.cell (p := ⟨w.heap.size + 1, 0, none⟩) hy31).trans ((V3.cell (p := ⟨w.heap.size + 1, 0, none⟩) hy21).trans ((hc2 _ _ hy11).trans p0))
  have q1 : (w3.alloc (.cells #[.int .i64 L, .int .i64 H] 49)).cell? ⟨w.heap.size + 1, 1, none⟩ = some (.int .i64 ah) := (U8.cell (p := ⟨w.heap.size + 1, 1, none⟩) hy31).trans ((V3.cell (p := ⟨w.heap.size + 1, 1, none⟩) hy21).trans ((hc2 _ _ hy11).trans p1))
  have q2 : (w3.alloc (.cells #[.int .i64 L, .int .i64 H] 49)).cell? ⟨w2.heap.size, 0, none⟩ = some (.int .i64 x) := (U8.cell (p := ⟨w2.heap.size, 0, none⟩) hv32).trans ((U3.cell (p := ⟨w2.heap.size, 0, none⟩) (by simp)).trans (by simp [go_sem]))
  have q3 : (w3.alloc (.cells #[.int .i64 L, .int .i64 H] 49)).cell? ⟨w2.heap.size, 1, none⟩ = some (.int .i64 y) := (U8.cell (p := ⟨w2.heap.size, 1, none⟩) hv32).trans ((U3.cell (p := ⟨w2.heap.size, 1, none⟩) (by simp)).trans (by simp [go_sem]))
  have q4 : (w3.alloc (.cells #[.int .i64 L, .int .i64 H] 49)).cell? ⟨w3.heap.size, 0, none⟩ = some (.int .i64 L) := by simp [go_sem]
  have q5 : (w3.alloc (.cells #[.int .i64 L, .int .i64 H] 49)).cell? ⟨w3.heap.size, 1, none⟩ = some (.int .i64 H) := by simp [go_sem]
  have g0 := fun d os => cell_regrown q0 d os
  have g1 := fun d os => cell_regrown q1 d os
  have g2 := fun d os => cell_regrown q2 d os
  have g3 := fun d os => cell_regrown q3 d os
  have g4 := fun d os => cell_regrown q4 d os
  have g5 := fun d os => cell_regrown q5 d os
  refine wp_region_quiet_below (by kernel_rfl) (by kernel_rfl) ?_
  repeat (quiet_step ((go_at_call 59; exact Calls.regrown_of (lies_k _ _ _ _ false H3.out _))))
  refine wpQuiet_nil ?_
  intro _ hw'
  obtain ⟨⟨dq, osq⟩, hw''⟩ := hw'
  subst hw''
  have hb4 := below_regrown (w3.alloc (.cells #[.int .i64 L, .int .i64 H] 49)) dq osq
  clear g0 g1 g2 g3 g4 g5 q0 q1 q2 q3 q4 q5 U8
  generalize grow (redrawn (w3.alloc (.cells #[.int .i64 L, .int .i64 H] 49)) dq) osq = w4 at hb4 ⊢
  obtain ⟨hc4, hf4⟩ := bcell hb4
  have hz4 := hb4.size
  simp at hz4
  have hy40 : w.heap.size < w4.heap.size := by omega
  have hy41 : w.heap.size + 1 < w4.heap.size := by omega
  have hy42 : w.heap.size + 1 + 1 < w4.heap.size := by omega
  have hv42 : w2.heap.size < w4.heap.size := by omega
  have hv43 : w3.heap.size < w4.heap.size := by omega
  go_wp2_with fail
  rcases T.out with ⟨x2, y2, t1⟩ | ⟨x2, y2, t1, t2⟩ | ⟨x2, y2, t1, t0, t2, t3⟩
  · have T1 := Lib.hid t1
    clear t1 T
    (go_at_call 41; refine (falls_k _ _ _ _ _ x2 y2 1 T1.out _).mono ?_; rintro en w5 ⟨rfl, hb5⟩; obtain ⟨hc5, hf5⟩ := bcell hb5)
    have hz5 := hb5.size
    try simp at hz5
    have hy50 : w.heap.size < w5.heap.size := by omega
    have hy51 : w.heap.size + 1 < w5.heap.size := by omega
    have hy52 : w.heap.size + 1 + 1 < w5.heap.size := by omega
    have hv52 : w2.heap.size < w5.heap.size := by omega
    have hv53 : w3.heap.size < w5.heap.size := by omega
    go_wp2_with fail
    have B1 : RowKit.Below w.heap.size w w1 := boxed3 hb1
    have B2 : RowKit.Below w.heap.size w w2 := B1.trans (hb2.mono (by omega))
    have B3 : RowKit.Below w.heap.size w w3 := B2.trans ((boxed hb3).mono (by omega))
    have B4 : RowKit.Below w.heap.size w w4 := B3.trans ((boxed hb4).mono (by omega))
    have B5 : RowKit.Below w.heap.size w w5 := B4.trans (hb5.mono (by omega))
    clear hc1 hf1 hc2 hf2 hc3 hf3 hc4 hf4 hc5 hf5
    go_ret
    refine ⟨rfl, ?_⟩
    repeat (first | exact B5 | refine RowKit.Below.alloc ?_ (by first | omega | (simp; omega)) _)
  · have T1 := Lib.hid t1
    clear t1 T
    have e7 : decide (100000 - a < b) = true := by simp; omega
    (go_at_call 41; refine (falls_k _ _ _ _ _ x2 y2 0 T1.out _).mono ?_; rintro en w5 ⟨rfl, hb5⟩; obtain ⟨hc5, hf5⟩ := bcell hb5)
    have hz5 := hb5.size
    try simp at hz5
    have hy50 : w.heap.size < w5.heap.size := by omega
    have hy51 : w.heap.size + 1 < w5.heap.size := by omega
    have hy52 : w.heap.size + 1 + 1 < w5.heap.size := by omega
    have hv52 : w2.heap.size < w5.heap.size := by omega
    have hv53 : w3.heap.size < w5.heap.size := by omega
    go_wp2_with fail
    have B1 : RowKit.Below w.heap.size w w1 := boxed3 hb1
    have B2 : RowKit.Below w.heap.size w w2 := B1.trans (hb2.mono (by omega))
    have B3 : RowKit.Below w.heap.size w w3 := B2.trans ((boxed hb3).mono (by omega))
    have B4 : RowKit.Below w.heap.size w w4 := B3.trans ((boxed hb4).mono (by omega))
    have B5 : RowKit.Below w.heap.size w w5 := B4.trans (hb5.mono (by omega))
    clear hc1 hf1 hc2 hf2 hc3 hf3 hc4 hf4 hc5 hf5
    go_ret
    refine ⟨rfl, ?_⟩
    repeat (first | exact B5 | refine RowKit.Below.alloc ?_ (by first | omega | (simp; omega)) _)
  · have T1 := Lib.hid t1
    have T3 := Lib.hid t3
    clear t1 t3 T
    have e7 : decide (100000 - a < b) = false := by simp; omega
    (go_at_call 41; refine (falls_k _ _ _ _ _ x2 y2 0 T1.out _).mono ?_; rintro en w5 ⟨rfl, hb5⟩; obtain ⟨hc5, hf5⟩ := bcell hb5)
    have hz5 := hb5.size
    try simp at hz5
    have hy50 : w.heap.size < w5.heap.size := by omega
    have hy51 : w.heap.size + 1 < w5.heap.size := by omega
    have hy52 : w.heap.size + 1 + 1 < w5.heap.size := by omega
    have hv52 : w2.heap.size < w5.heap.size := by omega
    have hv53 : w3.heap.size < w5.heap.size := by omega
    go_wp2_with fail
    (go_at_call 41; refine (falls_k _ _ _ _ _ x2 y2 0 T3.out _).mono ?_; rintro en w6 ⟨rfl, hb6⟩; obtain ⟨hc6, hf6⟩ := bcell hb6)
    have hz6 := hb6.size
    try simp at hz6
    have hy60 : w.heap.size < w6.heap.size := by omega
    have hy61 : w.heap.size + 1 < w6.heap.size := by omega
    have hy62 : w.heap.size + 1 + 1 < w6.heap.size := by omega
    have hv62 : w2.heap.size < w6.heap.size := by omega
    have hv63 : w3.heap.size < w6.heap.size := by omega
    have hv65 : w5.heap.size < w6.heap.size := by omega
    go_wp2_with fail
    have B1 : RowKit.Below w.heap.size w w1 := boxed3 hb1
    have B2 : RowKit.Below w.heap.size w w2 := B1.trans (hb2.mono (by omega))
    have B3 : RowKit.Below w.heap.size w w3 := B2.trans ((boxed hb3).mono (by omega))
    have B4 : RowKit.Below w.heap.size w w4 := B3.trans ((boxed hb4).mono (by omega))
    have B5 : RowKit.Below w.heap.size w w5 := B4.trans (hb5.mono (by omega))
    have B6 : RowKit.Below w.heap.size w w6 := B5.trans ((boxed hb6).mono (by omega))
    clear hc6 hf6 hc1 hf1 hc2 hf2 hc3 hf3 hc4 hf4 hc5 hf5
    go_ret
    refine ⟨rfl, ?_⟩
    repeat (first | exact B6 | refine RowKit.Below.alloc ?_ (by first | omega | (simp; omega)) _)


theorem fallsV_ok {hl hh dl dh n x y : Int} (h : fallsV hl hh dl dh n = spanE x y 0) : okH hl hh = true ∧ okD dl dh = true ∧ okS n = true ∧ x = hl - n * dh ∧ y = hh - n * dl := by
  unfold fallsV noSpan at h
  split at h
  · rename_i hk
    injection h with h
    simp at h
    exact ⟨hk.1, hk.2.1, hk.2.2, h.1.symm, h.2.symm⟩
  · injection h with h
    simp at h
theorem fallsV_two (hl hh dl dh n : Int) : (∃ x y, fallsV hl hh dl dh n = spanE x y 0) ∨ fallsV hl hh dl dh n = spanE 0 0 1 := by
  unfold fallsV noSpan
  split
  · exact .inl ⟨_, _, rfl⟩
  · exact .inr rfl

theorem le_ediv {n b q : Int} (hb : 0 < b) : q ≤ n / b ↔ q * b ≤ n := Int.le_ediv_iff_mul_le hb

theorem DressingNeeds_c (hl hh al ah dl dh a b : Int) (w : World) :
    Calls Try.prog 14 #[spanV hl hh, spanV al ah, spanV dl dh, .int .i64 a, .int .i64 b] w fun e w' => e = .returned (.bool true) ∧ Below w.heap.size w w' := by
  rcases fallsV_two hl hh dl dh a with ⟨x, y, h1⟩ | h1
  case inr => exact needs_a hl hh al ah dl dh a b 0 0 (Lib.hid h1) w
  obtain ⟨g1, g2, g3, rfl, rfl⟩ := fallsV_ok h1
  by_cases k1 : -1000000000 ≤ al
  case neg => exact needs_b1 hl hh al ah dl dh a b _ _ (Lib.hid h1) (by omega) w
  by_cases k2 : al ≤ ah
  case neg => exact needs_b2 hl hh al ah dl dh a b _ _ (Lib.hid h1) k1 (by omega) w
  by_cases k3 : ah ≤ 1000000000
  case neg => exact needs_b3 hl hh al ah dl dh a b _ _ (Lib.hid h1) k1 k2 (by omega) w
  have g4 : okH al ah = true := okH_iff.2 ⟨k1, k2, k3⟩
  obtain ⟨d1, d2, d3⟩ := okD_iff.1 g2
  obtain ⟨s1, s2⟩ := okS_iff.1 g3
  obtain ⟨e1, e2, e3⟩ := okH_iff.1 g1
  -- what the numbers of strokes say
  have q2 : a ≤ (hl - al) / dh ↔ al ≤ hl - a * dh := by rw [le_ediv (by omega)]; omega
  have q1 : (hh - ah + dl - 1) / dl ≤ a ↔ hh - a * dl ≤ ah := by
    have h := Int.ediv_lt_iff_lt_mul (a := hh - ah + dl - 1) (b := a + 1) (c := dl) (by omega)
    rw [Int.add_mul] at h
    constructor
    · intro hh'; have := h.1 (by omega); omega
    · intro hh'; have := h.2 (by omega); omega
  have lo : needLo hh ah dl ≤ a ↔ hh - a * dl ≤ ah := by rw [← q1]; unfold needLo; omega
  have hi : a ≤ needHi hl al dh ↔ al ≤ hl - a * dh := by rw [← q2]; unfold needHi; omega
  have lies : liesB (hl - a * dh) (hh - a * dl) al ah = true ↔ (needLo hh ah dl ≤ a ∧ a ≤ needHi hl al dh) := by
    rw [liesB_iff, lo, hi]; exact ⟨fun h => ⟨h.2, h.1⟩, fun h => ⟨h.2, h.1⟩⟩
  have hneed : needV hl hh al ah dl dh = if needLo hh ah dl ≤ needHi hl al dh then spanE (needLo hh ah dl) (needHi hl al dh) 0 else noSpan 51 := by
    unfold needV; rw [if_pos ⟨g1, g4, g2⟩]
  by_cases hLH : needLo hh ah dl ≤ needHi hl al dh
  case neg =>
    rw [if_neg hLH] at hneed
    have hf : liesB (hl - a * dh) (hh - a * dl) al ah = false := by
      cases hb : liesB (hl - a * dh) (hh - a * dl) al ah with
      | false => rfl
      | true => have := lies.1 hb; omega
    exact needs_c hl hh al ah dl dh a b _ _ (Lib.hid h1) k1 k2 k3 (Lib.hid hneed) (Lib.hid hf) w
  rw [if_pos hLH] at hneed
  have T : Hid ((∃ x2 y2, fallsV (hl - a * dh) (hh - a * dl) dl dh b = spanE x2 y2 1) ∨ (∃ x2 y2, fallsV (hl - a * dh) (hh - a * dl) dl dh b = spanE x2 y2 0 ∧ 100000 - a < b) ∨
      (∃ x2 y2, fallsV (hl - a * dh) (hh - a * dl) dl dh b = spanE x2 y2 0 ∧ 0 ≤ b ∧ b ≤ 100000 - a ∧ fallsV hl hh dl dh (a + b) = spanE x2 y2 0)) := by
    refine Lib.hid ?_
    rcases fallsV_two (hl - a * dh) (hh - a * dl) dl dh b with ⟨x2, y2, t1⟩ | t1
    case inr => exact .inl ⟨_, _, t1⟩
    by_cases hb : 100000 - a < b
    · exact .inr (.inl ⟨x2, y2, t1, hb⟩)
    · obtain ⟨f1, f2, f3, rfl, rfl⟩ := fallsV_ok t1
      obtain ⟨b1, b2⟩ := okS_iff.1 f3
      refine .inr (.inr ⟨_, _, t1, b1, by omega, ?_⟩)
      unfold fallsV
      rw [if_pos ⟨g1, g2, okS_iff.2 ⟨by omega, by omega⟩⟩, Int.add_mul, Int.add_mul]
      congr 4 <;> omega
  by_cases m1 : needLo hh ah dl ≤ a
  · by_cases m2 : a ≤ needHi hl al dh
    · exact needs_d1 hl hh al ah dl dh a b _ _ (Lib.hid h1) k1 k2 k3 _ _ (Lib.hid hneed) hLH (Lib.hid (lies.2 ⟨m1, m2⟩)) m1 m2 T s1 s2 w
    · have hf : liesB (hl - a * dh) (hh - a * dl) al ah = false := by
        cases hb : liesB (hl - a * dh) (hh - a * dl) al ah with
        | false => rfl
        | true => have := lies.1 hb; omega
      exact needs_d3 hl hh al ah dl dh a b _ _ (Lib.hid h1) k1 k2 k3 _ _ (Lib.hid hneed) hLH (Lib.hid hf) m1 (by omega) T s1 s2 w
  · have hf : liesB (hl - a * dh) (hh - a * dl) al ah = false := by
      cases hb : liesB (hl - a * dh) (hh - a * dl) al ah with
      | false => rfl
      | true => have := lies.1 hb; omega
    exact needs_d2 hl hh al ah dl dh a b _ _ (Lib.hid h1) k1 k2 k3 _ _ (Lib.hid hneed) hLH (Lib.hid hf) (by omega) T s1 s2 w

end Go.Proofs.Ytfhbpeafapabhaa

/- A graph that is being built: two edges for a cell. -/
import Derived.Test.YtfafjojoapcliaaR1
namespace Go.Proofs.Ytfafjojoapcliaa
open Go.RowKit

/-- what a cell's span asks for -/
def spanE (fr to c : Nat) (lo hi : Int) : List Eg := [⟨fr, to, lo, (c : Int), false⟩, ⟨to, fr, -hi, (c : Int), true⟩]
theorem spanE_row (fr to c : Nat) (lo hi : Int) : egRow (spanE fr to c lo hi) = [.int .i64 fr, .int .i64 to, .int .i64 lo, .int .i64 c, .bool false, .int .i64 to, .int .i64 fr, .int .i64 (-hi), .int .i64 c, .bool true] := by
  simp [egRow, spanE, egCells]

set_option maxRecDepth 100000 in
set_option maxHeartbeats 8000000 in
theorem span_c (w : World) (g gl gb N B0 : Nat) (lv : Value) (es : List Eg) (L B : List Int) (fr to c : Nat) (lo hi : Int) (h : Gb w g gl gb N lv es L B) (hl : es.length ≤ 2000) (hB : B0 ≤ g) (_hlo : 0 ≤ lo ∧ lo ≤ 100000) (hhi : 0 ≤ hi ∧ hi ≤ 100000) :
    Calls Try.prog 65 #[.pointer (some ⟨g, 0, none⟩), .int .i64 (fr : Int), .int .i64 (to : Int), .int .i64 (c : Int), spanV lo hi] w fun e w' => ∃ lv', e = .returned (.tuple #[]) ∧ Gb w' g gl gb N lv' (es ++ spanE fr to c lo hi) L B ∧ Below B0 w w' := by
  have hb1 : Below w.heap.size w (w.alloc (.cells #[.int .i64 lo, .int .i64 hi] 49)).drew := ((Below.refl _ _).alloc (Nat.le_refl _) _).drew
  have hg1 := h.later hb1
  have HG1 := Lib.hid hg1
  have HP := Lib.hid (show es.length ≤ 2000 ∧ B0 ≤ g ∧ g < w.heap.size from ⟨hl, hB, h.gsize⟩)
  have HBL := Lib.hid (show Below B0 w (w.alloc (.cells #[.int .i64 lo, .int .i64 hi] 49)).drew from hb1.mono (by have := h.gsize; omega))
  obtain ⟨i0, hi0, hz0, hz1, hz2⟩ : ∃ i, Try.prog.info? 101 = some i ∧ i.zero = some (.agg #[.int .i64 0, .int .i64 0, .int .i64 0, .int .i64 0, .bool false]) ∧ i.size = 5 ∧ i.bytes = 40 := ⟨_, rfl, rfl, rfl, rfl⟩
  have q0 : (w.alloc (.cells #[.int .i64 lo, .int .i64 hi] 49)).cell? ⟨g, 0, none⟩ = some lv := (h.b0.alloc _).cell 0
  have q1 : ∀ o : Obj, ((w.alloc (.cells #[.int .i64 lo, .int .i64 hi] 49)).alloc o).cell? ⟨g, 0, none⟩ = some lv := fun o => ((h.b0.alloc _).alloc o).cell 0
  have wn : IntKind.i64.wrap (-hi) = -hi := wrap_id (by omega) (by omega)
  have HE := Lib.hid (spanE_row fr to c lo hi)
  have HO := Lib.hid (hg1.own.alloc (.cells #[.int .i64 fr, .int .i64 to, .int .i64 lo, .int .i64 c, .bool false, .int .i64 to, .int .i64 fr, .int .i64 (-hi), .int .i64 c, .bool true] 101))
  have hN := news_cells (w.alloc (.cells #[.int .i64 lo, .int .i64 hi] 49)).drew 101 [.int .i64 fr, .int .i64 to, .int .i64 lo, .int .i64 c, .bool false, .int .i64 to, .int .i64 fr, .int .i64 (-hi), .int .i64 c, .bool true]
  rw [show (w.alloc (.cells #[.int .i64 lo, .int .i64 hi] 49)).drew.heap.size = w.heap.size + 1 from World.size_alloc _ _] at hN
  have HN := Lib.hid hN
  clear hN
  have H1 := Lib.hid (show ∀ u ∈ [Value.int .i64 fr, .int .i64 to, .int .i64 lo, .int .i64 c, .bool false, .int .i64 to, .int .i64 fr, .int .i64 (-hi), .int .i64 c, .bool true], u.oneCell' = true by
    intro u hu; simp at hu; rcases hu with rfl | rfl | rfl | rfl | rfl | rfl | rfl | rfl | rfl | rfl <;> rfl)
  have HM := Lib.hid (show es.length + 2 ≤ maxLen ∧ (es.length + 2) * 40 ≤ 140737488355328 ∧ g + 1 ≤ ((w.alloc (.cells #[.int .i64 lo, .int .i64 hi] 49)).drew.alloc (.cells #[.int .i64 fr, .int .i64 to, .int .i64 lo, .int .i64 c, .bool false, .int .i64 to, .int .i64 fr, .int .i64 (-hi), .int .i64 c, .bool true] 101)).heap.size by
    have := h.gsize
    refine ⟨by unfold maxLen; omega, by omega, ?_⟩
    simp; omega)
  clear h hl hB hhi hb1 hg1
  go_enter Try.func65, Try.ntmps65
  go_wp2_with fail
  go_region_law (refine step_append_lies _ rfl (.tmp 14) (.tmp 28) 61 rfl (g + 1) 101 i0 (.agg #[.int .i64 0, .int .i64 0, .int .i64 0, .int .i64 0, .bool false]) 5 40 Try.underlying61 hi0 hz0 hz1 hz2 rfl (by decide) lv _ _ rfl HO.out ⟨w.heap.size + 1, 0, none⟩ 2 2 [.int .i64 fr, .int .i64 to, .int .i64 lo, .int .i64 c, .bool false, .int .i64 to, .int .i64 fr, .int .i64 (-hi), .int .i64 c, .bool true] rfl rfl HN.out H1.out (by decide) HM.out.1 HM.out.2.1 HM.out.2.2 (w.heap.size + 1 + 1) (by simp) ?_; intro gg cap w7 hown7 hgrow7 _ _; obtain ⟨z0, z1⟩ := HG1.out.cell0 hgrow7)
  all_goals
    have hfin := HG1.out.more (xs := spanE fr to c lo hi) (B0 := B0) (w0 := w) rfl (by rw [HE.out]; exact hown7) hgrow7 HBL.out HP.out.2.1 (by have := HP.out; simp; omega)
    have HF := Lib.hid hfin
    clear hfin hown7 hgrow7
    go_wp2_with fail
    refine bodyPost_end (results_none rfl _ _ _) rfl ?_
    exact ⟨_, rfl, HF.out.1, HF.out.2⟩

end Go.Proofs.Ytfafjojoapcliaa

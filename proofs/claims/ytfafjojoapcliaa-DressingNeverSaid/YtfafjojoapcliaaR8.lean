/- The specification's edges of a task. -/
import Derived.Test.YtfafjojoapcliaaR3
import Derived.Test.YtfafjojoapcliaaR6
namespace Go.Proofs.Ytfafjojoapcliaa
open Go.RowKit

/-- an edge of the specification: it notes whether the least number asks for it -/
def reCells (x : Eg) : List Value := [.int .i64 x.fr, .int .i64 x.to, .int .i64 x.more, .int .i64 x.cell, .bool (decide (0 ≤ x.cell) && !x.high)]
def reRow (es : List Eg) : List Value := es.flatMap reCells
theorem reCells_len (x : Eg) : (reCells x).length = 5 := rfl
theorem reRow_len (es : List Eg) : (reRow es).length = es.length * 5 := by
  induction es with
  | nil => rfl
  | cons x es ih => rw [reRow, List.flatMap_cons, List.length_append, reCells_len]; change _ + (reRow es).length = _; rw [ih, List.length_cons]; omega
theorem reRow_app (a b : List Eg) : reRow (a ++ b) = reRow a ++ reRow b := by unfold reRow; rw [List.flatMap_append]
theorem reRow_one (x : Eg) : reRow [x] = reCells x := by simp [reRow]
theorem reRow_at (es : List Eg) (k j : Nat) (hk : k < es.length) (hj : j < 5) : (reRow es)[k * 5 + j]? = (reCells (egAt es k))[j]? := by
  induction es generalizing k with
  | nil => simp at hk
  | cons x es ih =>
    have e : reRow (x :: es) = reCells x ++ reRow es := by simp [reRow]
    rw [e]
    cases k with
    | zero => rw [List.getElem?_append_left (by rw [reCells_len]; omega)]; simp [egAt]
    | succ k =>
      rw [List.getElem?_append_right (by rw [reCells_len]; omega), reCells_len, show (k + 1) * 5 + j - 5 = k * 5 + j by omega, ih k (by simpa using hk)]
      simp [egAt]
theorem re_one (x : Eg) : ∀ u ∈ reCells x, u.oneCell' = true := by
  intro u hu
  simp [reCells] at hu
  rcases hu with rfl | rfl | rfl | rfl | rfl <;> rfl
/-- the edges of the specification in memory -/
abbrev Re (w : World) (base : Nat) (v : Value) (es : List Eg) : Prop := w.ownsRow base 82 5 v es.length (reRow es)
theorem Re.more {w w7 w0 : World} {o : Obj} {lv v' : Value} {base b0 B0 : Nat} {es : List Eg} {x : Eg} {t : TypeId} {cs : Array Value} (h : Re w base lv es) (hg : (w.alloc o).grownBy w7 lv.ownBlock)
    (h7 : w7.ownsRow base 82 5 v' (es.length + 1) (reRow es ++ reCells x)) (hbx : Box w b0 t cs) (hb0 : b0 < base) (hbel : Below B0 w0 w) (hB : B0 ≤ base) (hB2 : B0 ≤ w.heap.size) :
    Re w7 base v' (es ++ [x]) ∧ Box w7 b0 t cs ∧ Below B0 w0 w7 := by
  have ho6 := World.ownsRow.alloc h o
  refine ⟨?_, (hbx.alloc o).grown hg (fun e => by have := (ho6.lt b0 e).1; omega), (hbel.alloc hB2 o).grown hg (by simp; omega) (fun q e => by have := (ho6.lt q e).1; omega)⟩
  unfold Re
  rw [List.length_append, reRow_app, reRow_one]
  exact h7
theorem spanE_two (fr to c : Nat) (lo hi : Int) (es : List Eg) : es ++ spanE fr to c lo hi = (es ++ [⟨fr, to, lo, (c : Int), false⟩]) ++ [⟨to, fr, -hi, (c : Int), true⟩] := by simp [spanE]

set_option maxRecDepth 100000 in
set_option maxHeartbeats 16000000 in
theorem redges_c (t : Tk) (v : Value) (w : World) (h : IsTask w w.heap.size v t) (ht : taskB t = true) :
    Calls Try.prog 44 #[v] w fun e w' => ∃ lv, e = .returned lv ∧ Re w' (w.heap.size + 1) lv (edT t) ∧ Below w.heap.size w w' := by
  have HT := Lib.hid h
  obtain ⟨s, rfl, A, c, rfl, hcap, hcell⟩ := h
  have HC := Lib.hid hcell
  have HB := Lib.hid (Box.made w 24 #[.int .i64 t.wide, .slice A t.need.length c])
  have AR := Lib.hid (task_parts ht)
  obtain ⟨i0, hi0, hz0, hz1, hz2⟩ : ∃ i, Try.prog.info? 82 = some i ∧ i.zero = some (.agg #[.int .i64 0, .int .i64 0, .int .i64 0, .int .i64 0, .bool false]) ∧ i.size = 5 ∧ i.bytes = 40 := ⟨_, rfl, rfl, rfl, rfl⟩
  clear hcap hcell ht
  go_enter Try.func44, Try.ntmps44
  go_wp2_with fail
  refine (rFirsts_c t _ _ (HT.out.box _) AR.out.2.2.2.2.2.2.1).mono ?_; rintro e w1 ⟨rfl, hb1⟩
  rw [AR.out.2.1]
  have H1 := Lib.hid (show Below w.heap.size w w1 ∧ Box w1 w.heap.size 24 #[.int .i64 t.wide, .slice A t.need.length c] ∧ w.heap.size < w1.heap.size from ⟨boxed hb1, HB.out.later hb1, (HB.out.later hb1).lt⟩)
  clear hb1
  have A2 := Lib.hid (show t.wide = (tW t : Int) ∧ tM t + tW t = t.need.length + 1 ∧ 1 ≤ tM t ∧ 1 ≤ tW t ∧ t.need.length ≤ 400 ∧ t.need.all okP = true ∧ edT t = riseTo (tM t + 1) ++ spansTo t (tW t) (tM t) t.need.length from by
    obtain ⟨a1, a2, a3, a4, a5, a6, a7, a8⟩ := AR.out
    exact ⟨a1, a3, a4, a5, a6, a8, rfl⟩)
  clear AR HT
  generalize tM t = m at *
  generalize tW t = W at *
  go_wp2_with fail
  go_loopw [3, 5] (fun lw iv wr => ∃ k : Nat, k ≤ m ∧ iv = .int .i64 (k : Int) ∧ Re wr (w.heap.size + 1) lw (riseTo (k + 1)) ∧ Box wr w.heap.size 24 #[.int .i64 t.wide, .slice A t.need.length c] ∧ Below w.heap.size w wr) (fun _ iv _ => m - (intOf iv).toNat)
  case atStart => exact ⟨0, Nat.zero_le _, rfl, World.ownsRow_nil _ _ _ _, H1.out.2.1, H1.out.1⟩
  case round =>
    clear H1
    obtain ⟨k, hk, rfl, hre, hbx, hbr⟩ := hrel
    by_cases hlt : k < m
    · have hd : decide ((k : Int) < (m : Int)) = true := by simpa using hlt
      have i3 : k ≤ 400 := by have := A2.out; omega
      have HR := Lib.hid (⟨hre, hbx, hbr⟩ : Re wr (w.heap.size + 1) u3 (riseTo (k + 1)) ∧ Box wr w.heap.size 24 #[.int .i64 t.wide, .slice A t.need.length c] ∧ Below w.heap.size w wr)
      have wk : IntKind.i64.wrap ((k : Int) + 1) = (k : Int) + 1 := wrap_id (by omega) (by omega)
      have hE : reCells ⟨k, k + 1, 0, -1, false⟩ = [.int .i64 (k : Int), .int .i64 ((k : Int) + 1), .int .i64 0, .int .i64 (-1), .bool false] := by unfold reCells; rw [show (((k + 1 : Nat)) : Int) = (k : Int) + 1 by omega]; rfl
      have HE := Lib.hid hE
      have hnews := news_cells wr 82 (reCells ⟨k, k + 1, 0, -1, false⟩)
      have h1c := re_one ⟨k, k + 1, 0, -1, false⟩
      rw [hE] at hnews h1c
      have hlen : (riseTo (k + 1)).length ≤ 400 := by rw [riseTo_len]; omega
      have hk1' : (riseTo (k + 1)).length + 1 ≤ maxLen := by unfold maxLen; omega
      have hk2' : ((riseTo (k + 1)).length + 1) * 40 ≤ 140737488355328 := by omega
      have hk3' : w.heap.size + 1 ≤ (wr.alloc (.cells #[.int .i64 (k : Int), .int .i64 ((k : Int) + 1), .int .i64 0, .int .i64 (-1), .bool false] 82)).heap.size := by have := hbx.lt; simp; omega
      have ho6 := World.ownsRow.alloc hre (.cells #[.int .i64 (k : Int), .int .i64 ((k : Int) + 1), .int .i64 0, .int .i64 (-1), .bool false] 82)
      have HS := Lib.hid (show riseTo (k + 1 + 1) = riseTo (k + 1) ++ [⟨k, k + 1, 0, -1, false⟩] from riseTo_snoc (k + 1) (by omega))
      have HK := Lib.hid hlt
      clear hE hre hbx hbr hk hlen hlt
      generalize riseTo (k + 1) = E at *
      go_wp2_with (first
        | (at_builtin; refine wpList_append_own_at _ rfl _ _ 79 rfl (w.heap.size + 1) 82 i0 (.agg #[.int .i64 0, .int .i64 0, .int .i64 0, .int .i64 0, .bool false]) 5 40 Try.underlying79 hi0 hz0 hz1 hz2 rfl (by decide) u3 _ _ rfl ho6 ⟨wr.heap.size, 0, none⟩ 1 1 [.int .i64 (k : Int), .int .i64 ((k : Int) + 1), .int .i64 0, .int .i64 (-1), .bool false] rfl rfl hnews h1c hk1' hk2' hk3' ?_; intro v' w7 hown7 hgrow7 _ _; obtain ⟨vA, vc, rfl⟩ := own_shape hown7))
      have hfin := HR.out.1.more (x := ⟨k, k + 1, 0, -1, false⟩) hgrow7 (by rw [HE.out]; exact hown7) HR.out.2.1 (by omega) HR.out.2.2 (by omega) (by have := HR.out.2.2.size; omega)
      rw [← HS.out] at hfin
      have HF := Lib.hid hfin
      clear hfin
      go_roundw
      case rel => exact ⟨k + 1, by have := HK.out; omega, by go_num, HF.out.1, HF.out.2.1, HF.out.2.2⟩
      case measure => have := HK.out; simp [intOf]; omega
    · obtain rfl : k = m := by omega
      have hd : decide ((k : Int) < (k : Int)) = false := by simp
      have HR := Lib.hid (⟨by simpa [spansTo] using hre, hbx, hbr⟩ : Re wr (w.heap.size + 1) u3 (riseTo (k + 1) ++ spansTo t W k 0) ∧ Box wr w.heap.size 24 #[.int .i64 t.wide, .slice A t.need.length c] ∧ Below w.heap.size w wr)
      clear hre hbx hbr hk hlt
      go_wp2_with fail
      clear hd
      go_loopw [3, 6] (fun lw iv wr => ∃ c1 : Nat, c1 ≤ t.need.length ∧ iv = .int .i64 (c1 : Int) ∧ Re wr (w.heap.size + 1) lw (riseTo (k + 1) ++ spansTo t W k c1) ∧ Box wr w.heap.size 24 #[.int .i64 t.wide, .slice A t.need.length c] ∧ Below w.heap.size w wr) (fun _ iv _ => t.need.length - (intOf iv).toNat)
      case atStart => exact ⟨0, Nat.zero_le _, rfl, HR.out.1, HR.out.2.1, HR.out.2.2⟩
      case round =>
        clear HR
        obtain ⟨i, hi, rfl, hre, hbx, hbr⟩ := hrel
        have k1 : wr.cell? ⟨w.heap.size, 1, none⟩ = some (.slice A t.need.length c) := hbx.cell 1
        by_cases hlt : i < t.need.length
        · obtain ⟨b, off, rfl, hbB, hcc⟩ := HC.out (by omega)
          obtain ⟨y0, y1⟩ := hcc i hlt
          have q0 := keepd y0 hbr hbB
          have k0 : wr.cell? ⟨w.heap.size, 0, none⟩ = some (.int .i64 t.wide) := hbx.cell 0
          have hd : decide ((i : Int) < (t.need.length : Int)) = true := by simpa using hlt
          have i0' : (0 : Int) ≤ (i : Int) := by omega
          have i1 : (i : Int) < (t.need.length : Int) := by omega
          have i3 : i ≤ 400 := by have := A2.out; omega
          have HO := Lib.hid (okP_bd A2.out.2.2.2.2.2.1 hlt)
          have HK := Lib.hid (show i < t.need.length ∧ t.need.length ≤ 400 ∧ k ≤ 400 ∧ 1 ≤ k ∧ t.wide = (W : Int) ∧ 1 ≤ W ∧ W ≤ 400 from ⟨hlt, by have := A2.out; omega⟩)
          have hfr : (if (0 : Int) < (i : Int) - t.wide + 1 then (i : Int) - t.wide + 1 else 0) = ((i + 1 - W : Nat) : Int) := by have := HK.out; split <;> omega
          obtain ⟨to, hto⟩ : ∃ to : Nat, min (i + 1) k = to + 1 := ⟨min i (k - 1), by have := HK.out; omega⟩
          have hmn : (if (k : Int) - 1 < (i : Int) then (k : Int) - 1 else (i : Int)) = (to : Int) := by have := HK.out; split <;> omega
          have w1 : IntKind.i64.wrap ((i : Int) - t.wide) = (i : Int) - t.wide := by have := HK.out; exact wrap_id (by omega) (by omega)
          have w2 : IntKind.i64.wrap ((i : Int) - t.wide + 1) = (i : Int) - t.wide + 1 := by have := HK.out; exact wrap_id (by omega) (by omega)
          have w3 : IntKind.i64.wrap ((k : Int) - 1) = (k : Int) - 1 := by have := HK.out; exact wrap_id (by omega) (by omega)
          have w4 : IntKind.i64.wrap ((to : Int) + 1) = (to : Int) + 1 := by have := HK.out; exact wrap_id (by omega) (by omega)
          have HR := Lib.hid (⟨hre, hbx, hbr⟩ : Re wr (w.heap.size + 1) u3 (riseTo (k + 1) ++ spansTo t W k i) ∧ Box wr w.heap.size 24 #[.int .i64 t.wide, .slice (some ⟨b, off, none⟩) t.need.length c] ∧ Below w.heap.size w wr)
          have hlen : (riseTo (k + 1) ++ spansTo t W k i).length ≤ 1500 := by rw [List.length_append, riseTo_len, spansTo_len]; have := HK.out; omega
          have hSS := spansTo_succ t W k i
          rw [hto] at hSS
          have HS := Lib.hid (show riseTo (k + 1) ++ spansTo t W k (i + 1) = ((riseTo (k + 1) ++ spansTo t W k i) ++ [⟨i + 1 - W, to + 1, (nthP t.need i).1, (i : Int), false⟩]) ++ [⟨to + 1, i + 1 - W, -(nthP t.need i).2, (i : Int), true⟩] by rw [hSS, ← List.append_assoc, spanE_two])
          have HY := Lib.hid (show w.cell? ⟨b, off + i * 2 + 1, none⟩ = some (.int .i64 (nthP t.need i).2) ∧ b < w.heap.size from ⟨y1, hbB⟩)
          clear hre hbx hbr hi hlt hcc y0 y1 hbB hSS hto
          generalize (nthP t.need i).1 = lo at *
          generalize (nthP t.need i).2 = hi at *
          generalize riseTo (k + 1) ++ spansTo t W k i = E at *
          generalize hgF : i + 1 - W = fr at *
          clear hgF
          have hE : reCells ⟨fr, to + 1, lo, (i : Int), false⟩ = [.int .i64 (fr : Int), .int .i64 ((to : Int) + 1), .int .i64 lo, .int .i64 (i : Int), .bool true] := by
            unfold reCells
            dsimp only
            rw [show (((to + 1 : Nat)) : Int) = (to : Int) + 1 by omega, show decide ((0 : Int) ≤ (i : Int)) = true by simp]; rfl
          have HE := Lib.hid hE
          have hnews := news_cells wr 82 (reCells ⟨fr, to + 1, lo, (i : Int), false⟩)
          have h1c := re_one ⟨fr, to + 1, lo, (i : Int), false⟩
          rw [hE] at hnews h1c
          have hk1' : E.length + 1 ≤ maxLen := by unfold maxLen; omega
          have hk2' : (E.length + 1) * 40 ≤ 140737488355328 := by omega
          have hk3' : w.heap.size + 1 ≤ (wr.alloc (.cells #[.int .i64 (fr : Int), .int .i64 ((to : Int) + 1), .int .i64 lo, .int .i64 (i : Int), .bool true] 82)).heap.size := by have := HR.out.2.1.lt; simp; omega
          have ho6 := World.ownsRow.alloc HR.out.1 (.cells #[.int .i64 (fr : Int), .int .i64 ((to : Int) + 1), .int .i64 lo, .int .i64 (i : Int), .bool true] 82)
          obtain ⟨E2, hE2⟩ : ∃ E2, E ++ [⟨fr, to + 1, lo, (i : Int), false⟩] = E2 := ⟨_, rfl⟩
          rw [hE2] at HS
          have hlen2 : E2.length ≤ 1501 := by rw [← hE2]; simp; omega
          have HE2 := Lib.hid hE2
          have wn : IntKind.i64.wrap (-hi) = -hi := by have := HO.out; exact wrap_id (by omega) (by omega)
          have hE' : reCells ⟨to + 1, fr, -hi, (i : Int), true⟩ = [.int .i64 ((to : Int) + 1), .int .i64 (fr : Int), .int .i64 (-hi), .int .i64 (i : Int), .bool false] := by
            unfold reCells
            dsimp only
            rw [show (((to + 1 : Nat)) : Int) = (to : Int) + 1 by omega, Bool.not_true, Bool.and_false]
          have HE' := Lib.hid hE'
          have HL := Lib.hid (show E2.length + 1 ≤ maxLen ∧ (E2.length + 1) * 40 ≤ 140737488355328 from ⟨by unfold maxLen; omega, by omega⟩)
          have h2c := re_one ⟨to + 1, fr, -hi, (i : Int), true⟩
          rw [hE'] at h2c
          have H2C := Lib.hid h2c
          clear hE hlen hlen2 hE2 hE' h2c
          go_wp2_with (first
            | (at_builtin; refine wpList_append_own_at _ rfl _ _ 79 rfl (w.heap.size + 1) 82 i0 (.agg #[.int .i64 0, .int .i64 0, .int .i64 0, .int .i64 0, .bool false]) 5 40 Try.underlying79 hi0 hz0 hz1 hz2 rfl (by decide) u3 _ _ rfl ho6 ⟨wr.heap.size, 0, none⟩ 1 1 [.int .i64 (fr : Int), .int .i64 ((to : Int) + 1), .int .i64 lo, .int .i64 (i : Int), .bool true] rfl rfl hnews h1c hk1' hk2' hk3' ?_
               intro v' w7 hown7 hgrow7 _ _
               obtain ⟨vA, vc, rfl⟩ := own_shape hown7
               have HF1 := Lib.hid (show Re w7 (w.heap.size + 1) (.slice vA (E.length + 1) vc) E2 ∧ Box w7 w.heap.size 24 #[.int .i64 t.wide, .slice (some ⟨b, off, none⟩) t.need.length c] ∧ Below w.heap.size w w7 by
                 rw [← HE2.out]
                 exact HR.out.1.more (x := ⟨fr, to + 1, lo, (i : Int), false⟩) hgrow7 (by rw [HE.out]; exact hown7) HR.out.2.1 (Nat.lt_succ_self _) HR.out.2.2 (Nat.le_succ _) HR.out.2.2.size)
               have k17 : w7.cell? ⟨w.heap.size, 1, none⟩ = some (.slice (some ⟨b, off, none⟩) t.need.length c) := HF1.out.2.1.cell 1
               have q17 := keepd HY.out.1 HF1.out.2.2 HY.out.2
               have hnews2 := news_cells w7 82 [.int .i64 ((to : Int) + 1), .int .i64 (fr : Int), .int .i64 (-hi), .int .i64 (i : Int), .bool false]
               have ho62 := World.ownsRow.alloc HF1.out.1 (.cells #[.int .i64 ((to : Int) + 1), .int .i64 (fr : Int), .int .i64 (-hi), .int .i64 (i : Int), .bool false] 82)
               have hk32 : w.heap.size + 1 ≤ (w7.alloc (.cells #[.int .i64 ((to : Int) + 1), .int .i64 (fr : Int), .int .i64 (-hi), .int .i64 (i : Int), .bool false] 82)).heap.size := (by have := HF1.out.2.1.lt; simp; omega)
               clear hown7 hgrow7 hnews h1c hk1' hk2' hk3' ho6 k0 k1 q0)
            | (at_builtin; refine wpList_append_own_at _ rfl _ _ 79 rfl (w.heap.size + 1) 82 i0 (.agg #[.int .i64 0, .int .i64 0, .int .i64 0, .int .i64 0, .bool false]) 5 40 Try.underlying79 hi0 hz0 hz1 hz2 rfl (by decide) (.slice vA (E.length + 1) vc) _ _ rfl ho62 ⟨w7.heap.size, 0, none⟩ 1 1 [.int .i64 ((to : Int) + 1), .int .i64 (fr : Int), .int .i64 (-hi), .int .i64 (i : Int), .bool false] rfl rfl hnews2 H2C.out HL.out.1 HL.out.2 hk32 ?_
               intro v'' w8 hown8 hgrow8 _ _
               obtain ⟨vA8, vc8, rfl⟩ := own_shape hown8))
          have hfin := HF1.out.1.more (x := ⟨to + 1, fr, -hi, (i : Int), true⟩) hgrow8 (by rw [HE'.out]; exact hown8) HF1.out.2.1 (Nat.lt_succ_self _) HF1.out.2.2 (Nat.le_succ _) HF1.out.2.2.size
          rw [← HS.out] at hfin
          have HF := Lib.hid hfin
          clear hfin
          go_roundw
          case rel => exact ⟨i + 1, by have := HK.out; omega, by go_num, HF.out.1, HF.out.2.1, HF.out.2.2⟩
          case measure => have := HK.out; simp [intOf]; omega
        · obtain rfl : i = t.need.length := by omega
          have hd : decide ((t.need.length : Int) < (t.need.length : Int)) = false := by simp
          have HR := Lib.hid (⟨hre, hbr⟩ : Re wr (w.heap.size + 1) u3 (riseTo (k + 1) ++ spansTo t W k t.need.length) ∧ Below w.heap.size w wr)
          clear hre hbx hbr hi hlt
          go_wp2_with fail
          go_ret
          exact ⟨u3, rfl, by rw [A2.out.2.2.2.2.2.2]; exact HR.out.1, HR.out.2⟩

end Go.Proofs.Ytfafjojoapcliaa

/- The edges of a task. -/
import Derived.Test.YtfafjojoapcliaaR3r
namespace Go.Proofs.Ytfafjojoapcliaa
open Go.RowKit

/-- the edges of the first cells -/
def spansTo (t : Tk) (W m : Nat) (c : Nat) : List Eg := (List.range c).flatMap fun i => spanE (i + 1 - W) (min (i + 1) m) i (nthP t.need i).1 (nthP t.need i).2
theorem spansTo_succ (t : Tk) (W m c : Nat) : spansTo t W m (c + 1) = spansTo t W m c ++ spanE (c + 1 - W) (min (c + 1) m) c (nthP t.need c).1 (nthP t.need c).2 := by
  unfold spansTo; rw [List.range_succ, List.flatMap_append]; simp
theorem spansTo_len (t : Tk) (W m c : Nat) : (spansTo t W m c).length = c * 2 := by
  induction c with
  | zero => rfl
  | succ c ih => rw [spansTo_succ, List.length_append, ih]; simp [spanE]; omega
/-- all edges of a task -/
def edgesOf (t : Tk) (W m : Nat) : List Eg := riseTo (m + 1) ++ spansTo t W m t.need.length
theorem edgesOf_len (t : Tk) (W m : Nat) : (edgesOf t W m).length = m + t.need.length * 2 := by unfold edgesOf; rw [List.length_append, riseTo_len, spansTo_len]; omega
theorem mem_spansTo {t : Tk} {W m c : Nat} {x : Eg} (h : x ∈ spansTo t W m c) : ∃ i, i < c ∧ x ∈ spanE (i + 1 - W) (min (i + 1) m) i (nthP t.need i).1 (nthP t.need i).2 := by
  unfold spansTo at h
  obtain ⟨i, hi, hx⟩ := List.mem_flatMap.1 h
  exact ⟨i, List.mem_range.1 hi, hx⟩
theorem okP_bd {t : Tk} (h : t.need.all okP = true) {i : Nat} (hi : i < t.need.length) : 0 ≤ (nthP t.need i).1 ∧ (nthP t.need i).1 ≤ (nthP t.need i).2 ∧ (nthP t.need i).2 ≤ 100000 := ordB_iff.1 (allP_at h hi)
theorem edgesOf_to (t : Tk) (W m : Nat) (hm : 1 ≤ m) (hmW : m + W = t.need.length + 1) : ∀ x ∈ edgesOf t W m, x.fr < m + 1 ∧ x.to < m + 1 := by
  intro x hx
  unfold edgesOf at hx
  rcases List.mem_append.1 hx with hx | hx
  · unfold riseTo at hx
    obtain ⟨i, hi, rfl⟩ := List.mem_map.1 hx
    have := List.mem_range.1 hi
    dsimp only
    omega
  · obtain ⟨i, hi, hx⟩ := mem_spansTo hx
    simp only [spanE, List.mem_cons, List.not_mem_nil, or_false] at hx
    rcases hx with rfl | rfl <;> (dsimp only; omega)
theorem edgesOf_more (t : Tk) (W m : Nat) (h : t.need.all okP = true) : ∀ x ∈ edgesOf t W m, -100000 ≤ x.more ∧ x.more ≤ 100000 := by
  intro x hx
  unfold edgesOf at hx
  rcases List.mem_append.1 hx with hx | hx
  · unfold riseTo at hx
    obtain ⟨i, hi, rfl⟩ := List.mem_map.1 hx
    dsimp only
    omega
  · obtain ⟨i, hi, hx⟩ := mem_spansTo hx
    have := okP_bd h hi
    simp only [spanE, List.mem_cons, List.not_mem_nil, or_false] at hx
    rcases hx with rfl | rfl <;> (dsimp only; omega)

/-- what is noted at first -/
def byTo (N : Nat) : Nat → List Int
  | 0 => List.replicate N 0
  | k + 1 => (byTo N k).set k ((k : Int) - 1)
theorem byTo_len (N k : Nat) : (byTo N k).length = N := by
  induction k with
  | zero => simp [byTo]
  | succ k ih => simp [byTo, ih]
theorem byTo_nth (N k v : Nat) (hv : v < k) (hk : k ≤ N) : nth (byTo N k) v = (v : Int) - 1 := by
  induction k with
  | zero => omega
  | succ k ih =>
    rw [byTo, nth_set, byTo_len]
    by_cases e : k = v
    · subst e; rw [if_pos ⟨rfl, by omega⟩]
    · rw [if_neg (by omega)]; exact ih (by omega) (by omega)
/-- where a graph stands at first -/
def lf0 (N : Nat) : Lf := ⟨List.replicate N 0, byTo N N, -1⟩
theorem lf0_noted (t : Tk) (W m : Nat) (hm : 1 ≤ m) : Noted (edgesOf t W m) (m + 1) (lf0 (m + 1)) := by
  intro v hv
  have hz : ∀ k, nth (lf0 (m + 1)).L k = 0 := fun k => nth_rep _ _
  by_cases h0 : v = 0
  · left; exact ⟨h0, hz 0⟩
  · right
    have e : egAt (edgesOf t W m) (v - 1) = ⟨v - 1, v, 0, -1, false⟩ := by
      unfold egAt edgesOf
      rw [List.getD_eq_getElem?_getD, List.getElem?_append_left (by rw [riseTo_len]; omega)]
      unfold riseTo
      rw [List.getElem?_map, List.getElem?_range (by omega)]
      simp; omega
    refine ⟨v - 1, by rw [edgesOf_len]; omega, ?_, by rw [e], ?_⟩
    · show nth (byTo (m + 1) (m + 1)) v = _
      rw [byTo_nth _ _ _ hv (Nat.le_refl _)]; omega
    · rw [hz, hz, e]; simp

theorem rise_m (w : World) (g gl gb N B0 : Nat) (lv : Value) (es : List Eg) (L B : List Int) (m : Nat) (h : Gb w g gl gb N lv es L B) (hp : m + 1 ≤ 500) (hl : es.length ≤ 500) (hB : B0 ≤ g) :
    Calls Try.prog 63 #[.pointer (some ⟨g, 0, none⟩), .int .i64 ((m : Int) + 1)] w fun e w' => ∃ lv', e = .returned (.tuple #[]) ∧ Gb w' g gl gb N lv' (es ++ riseTo (m + 1)) L B ∧ Below B0 w w' := by
  have := rise_c w g gl gb N B0 lv es L B (m + 1) h (by omega) hp hl hB
  rwa [show ((m + 1 : Nat) : Int) = (m : Int) + 1 by omega] at this

set_option maxRecDepth 100000 in
set_option maxHeartbeats 16000000 in
theorem graphOf_c (t : Tk) (v : Value) (w : World) (W m : Nat) (h : IsTask w w.heap.size v t) (hs : szB t = true) (hok : t.need.all okP = true) (hW : t.wide = (W : Int)) (hm : firsts t = (m : Int)) (hmW : m + W = t.need.length + 1) (hm1 : 1 ≤ m) (hW1 : 1 ≤ W) (hn : t.need.length ≤ 400) :
    Calls Try.prog 42 #[v] w fun e w' => ∃ g gl gb lv, e = .returned (.pointer (some ⟨g, 0, none⟩)) ∧ Gb w' g gl gb (m + 1) lv (edgesOf t W m) (lf0 (m + 1)).L (lf0 (m + 1)).B ∧ w.heap.size ≤ gl ∧ w.heap.size ≤ gb ∧ w.heap.size ≤ g ∧ Below w.heap.size w w' := by
  have HT := Lib.hid h
  obtain ⟨s, rfl, A, c, rfl, hcap, hcell⟩ := h
  have HC := Lib.hid hcell
  have HB := Lib.hid (Box.made w 24 #[.int .i64 t.wide, .slice A t.need.length c])
  have AR := Lib.hid (show t.wide = (W : Int) ∧ firsts t = (m : Int) ∧ m + W = t.need.length + 1 ∧ 1 ≤ m ∧ 1 ≤ W ∧ t.need.length ≤ 400 ∧ szB t = true ∧ t.need.all okP = true from ⟨hW, hm, hmW, hm1, hW1, hn, hs, hok⟩)
  clear hcap hcell hs hok hW hm hmW hm1 hW1 hn
  go_enter Try.func42, Try.ntmps42
  go_wp2_with fail
  refine (firstCells_c t _ _ (HT.out.box _) AR.out.2.2.2.2.2.2.1).mono ?_; rintro e w1 ⟨rfl, hb1⟩
  rw [AR.out.2.1]
  have H1 := Lib.hid (show Below w.heap.size w w1 ∧ Box w1 w.heap.size 24 #[.int .i64 t.wide, .slice A t.need.length c] ∧ w.heap.size < w1.heap.size from ⟨boxed hb1, HB.out.later hb1, (HB.out.later hb1).lt⟩)
  clear hb1
  have wm : IntKind.i64.wrap ((m : Int) + 1) = (m : Int) + 1 := by have := AR.out; exact wrap_id (by omega) (by omega)
  go_wp2_with fail
  clear wm
  refine graph2_c w1 m (by have := AR.out; omega) _ _ _ _ _ _ _ _ _ _ _ _ _ _ _ _ _ _ _ _ _ _ _ _ _ _ _ _ _ _ _ _ _ _ _ _ _ _ _ _ _ _ _ _ _ _ _ _ _ _ _ _ _ _ _ _ _ _ _ _ _ _ _ _ _ ?_
  rintro gl gb _ _ _ _ _ W2 hg0 hgl hgb hb2
  have HG := Lib.hid (show Gb W2 (w1.heap.size + 2) gl gb (m + 1) (.slice none 0 0) [] (List.replicate (m + 1) 0) (List.replicate (m + 1) 0) ∧ w1.heap.size ≤ gl ∧ w1.heap.size ≤ gb ∧ Below w1.heap.size w1 W2 from ⟨hg0, hgl, hgb, hb2⟩)
  clear hg0 hgl hgb hb2
  go_wp2_with fail
  refine (rise_m W2 (w1.heap.size + 2) gl gb (m + 1) w1.heap.size _ _ _ _ m HG.out.1 (by have := AR.out; omega) (by simp) (by omega)).mono ?_; rintro e w3 ⟨lv3, rfl, hg3, hb3⟩
  have H3 := Lib.hid (show Gb w3 (w1.heap.size + 2) gl gb (m + 1) lv3 (riseTo (m + 1)) (List.replicate (m + 1) 0) (List.replicate (m + 1) 0) ∧ Below w1.heap.size w1 w3 from ⟨by simpa using hg3, HG.out.2.2.2.trans hb3⟩)
  have HL := Lib.hid (show w1.heap.size ≤ gl ∧ w1.heap.size ≤ gb from ⟨HG.out.2.1, HG.out.2.2.1⟩)
  clear HG hg3 hb3
  have hbx3 := H1.out.2.1.below H3.out.2 H1.out.2.2
  have k1 : w3.cell? ⟨w.heap.size, 1, none⟩ = some (.slice A t.need.length c) := hbx3.cell 1
  clear hbx3
  obtain ⟨g, hg⟩ : ∃ g, w1.heap.size + 2 = g := ⟨_, rfl⟩
  rw [hg] at H3 ⊢
  have HGe := Lib.hid hg
  clear hg
  go_wp2_with fail
  clear k1
  go_loopw [27] (fun kv wr => ∃ (k : Nat) (lw : Value), k ≤ t.need.length ∧ kv = .int .i64 (k : Int) ∧ Gb wr g gl gb (m + 1) lw (riseTo (m + 1) ++ spansTo t W m k) (List.replicate (m + 1) 0) (List.replicate (m + 1) 0) ∧ Below w1.heap.size w1 wr) (fun kv _ => t.need.length - (intOf kv).toNat)
  case atStart => exact ⟨0, lv3, Nat.zero_le _, rfl, by simpa [spansTo] using H3.out.1, H3.out.2⟩
  case round =>
    obtain ⟨k, lw, hk, rfl, hgw, hbr⟩ := hrel
    by_cases hlt : k < t.need.length
    · have hbw : Below w.heap.size w wr := H1.out.1.trans (hbr.mono H1.out.1.size)
      obtain ⟨b, off, rfl, hbB, hcc⟩ := HC.out (by omega)
      obtain ⟨y0, y1⟩ := hcc k hlt
      have q0 := keepd y0 hbw hbB
      have q1 := keepd y1 hbw hbB
      have hbx := H1.out.2.1.below hbr H1.out.2.2
      have k0 : ∀ o : Obj, (wr.alloc o).cell? ⟨w.heap.size, 0, none⟩ = some (.int .i64 t.wide) := fun o => (hbx.alloc o).cell 0
      have k1 : ∀ o : Obj, (wr.alloc o).cell? ⟨w.heap.size, 1, none⟩ = some (.slice (some ⟨b, off, none⟩) t.need.length c) := fun o => (hbx.alloc o).cell 1
      have hd : decide ((k : Int) < (t.need.length : Int)) = true := by simpa using hlt
      have i0 : (0 : Int) ≤ (k : Int) := by omega
      have i1 : (k : Int) < (t.need.length : Int) := by omega
      have i3 : k ≤ 400 := by have := AR.out; omega
      have HK := Lib.hid (show k < t.need.length ∧ t.need.length ≤ 400 from ⟨hlt, by have := AR.out; omega⟩)
      have HR := Lib.hid (⟨hgw, hbr, hbw⟩ : Gb wr g gl gb (m + 1) lw (riseTo (m + 1) ++ spansTo t W m k) (List.replicate (m + 1) 0) (List.replicate (m + 1) 0) ∧ Below w1.heap.size w1 wr ∧ Below w.heap.size w wr)
      have HS := Lib.hid (spansTo_succ t W m k)
      have HO := Lib.hid (okP_bd AR.out.2.2.2.2.2.2.2 hlt)
      clear hcc y0 y1 hgw hbr hbw hbx hbB hk hlt
      generalize (nthP t.need k).1 = lo at *
      generalize (nthP t.need k).2 = hi at *
      go_wp2_with fail
      have hal : Below wr.heap.size wr (wr.alloc (.cells #[.int .i64 lo, .int .i64 hi] 49)) := (Below.refl _ _).alloc (Nat.le_refl _) _
      have hbw4 : Below w.heap.size w (wr.alloc (.cells #[.int .i64 lo, .int .i64 hi] 49)) := HR.out.2.2.trans (hal.mono HR.out.2.2.size)
      refine (strokesOver_n t k W m AR.out.1 AR.out.2.1 _ _ (HT.out.mono hbw4 hbw4.size) AR.out.2.2.2.2.2.2.1 HK.out.1).mono ?_; rintro e w4 ⟨rfl, hb4⟩
      have hbx4 := (Box.made wr 49 #[.int .i64 lo, .int .i64 hi]).later hb4
      have hg4 := (HR.out.1.later hal).later hb4
      have hr4 : Below w1.heap.size w1 w4 := (HR.out.2.1.trans (hal.mono HR.out.2.1.size)).trans (hb4.mono (by have := HR.out.2.1.size; simp; omega))
      have H4 := Lib.hid (⟨hbx4, hg4, hr4⟩ : Box w4 wr.heap.size 49 #[.int .i64 lo, .int .i64 hi] ∧ Gb w4 g gl gb (m + 1) lw (riseTo (m + 1) ++ spansTo t W m k) (List.replicate (m + 1) 0) (List.replicate (m + 1) 0) ∧ Below w1.heap.size w1 w4)
      clear hal hbw4 hbx4 hg4 hr4 hb4 k0 k1 q0 q1 i0 i1 hd
      go_wp2_with fail
      obtain ⟨W1, hW1e⟩ : ∃ W1, w4.drew = W1 := ⟨_, rfl⟩
      have hb5 : Below w4.heap.size w4 W1 := by rw [← hW1e]; exact (Below.refl _ _).drew
      have p0 : W1.cell? ⟨wr.heap.size, 0, none⟩ = some (.int .i64 lo) := (H4.out.1.later hb5).cell 0
      have p1 : W1.cell? ⟨wr.heap.size, 1, none⟩ = some (.int .i64 hi) := (H4.out.1.later hb5).cell 1
      have H5 := Lib.hid (show Gb W1 g gl gb (m + 1) lw (riseTo (m + 1) ++ spansTo t W m k) (List.replicate (m + 1) 0) (List.replicate (m + 1) 0) ∧ Below w1.heap.size w1 W1 from ⟨H4.out.2.1.later hb5, H4.out.2.2.trans (hb5.mono H4.out.2.2.size)⟩)
      clear hb5 H4
      refine still_tail 7 W1 hW1e (by kernel_rfl) (by kernel_rfl) ?_
      clear hW1e
      simp only [List.take_succ_cons, List.take_zero, List.drop_succ_cons, List.drop_zero]
      repeat still_step
      refine wpStill_nil ?_
      go_wp2_with fail
      refine (span_c W1 g gl gb (m + 1) w1.heap.size lw _ _ _ (k + 1 - W) (min (k + 1) m) k lo hi H5.out.1 (by rw [List.length_append, riseTo_len, spansTo_len]; have := AR.out; have := HK.out; omega) (by have := HGe.out; omega) (by have := HO.out; omega) (by have := HO.out; omega)).mono ?_; rintro e w6 ⟨lv6, rfl, hg6, hb6⟩
      have H6 := Lib.hid (show Gb w6 g gl gb (m + 1) lv6 (riseTo (m + 1) ++ spansTo t W m (k + 1)) (List.replicate (m + 1) 0) (List.replicate (m + 1) 0) ∧ Below w1.heap.size w1 w6 from ⟨by rw [HS.out, ← List.append_assoc]; exact hg6, H5.out.2.trans hb6⟩)
      clear hg6 hb6 p0 p1
      go_wp2_with fail
      go_roundw
      case rel => exact ⟨k + 1, lv6, by have := HK.out; omega, by go_num, H6.out.1, H6.out.2⟩
      case measure => have := HK.out; simp [intOf]; omega
    · obtain rfl : k = t.need.length := by omega
      have hd : decide ((t.need.length : Int) < (t.need.length : Int)) = false := by simp
      have H7 := Lib.hid (show Gb wr g gl gb (m + 1) lw (edgesOf t W m) (List.replicate (m + 1) 0) (byTo (m + 1) 0) ∧ Below w1.heap.size w1 wr from ⟨hgw, hbr⟩)
      have q2 : wr.cell? ⟨g, 2, none⟩ = some (.slice (some ⟨gb, 0, none⟩) (m + 1) (m + 1)) := hgw.b0.cell 2
      clear hgw hbr hk hlt
      go_wp2_with fail
      clear hd q2
      go_loopw [52] (fun kv wr => ∃ (k : Nat), k ≤ m + 1 ∧ kv = .int .i64 (k : Int) ∧ Gb wr g gl gb (m + 1) lw (edgesOf t W m) (List.replicate (m + 1) 0) (byTo (m + 1) k) ∧ Below w1.heap.size w1 wr) (fun kv _ => m + 1 - (intOf kv).toNat)
      case atStart => exact ⟨0, Nat.zero_le _, rfl, H7.out.1, H7.out.2⟩
      case round =>
        clear H7
        obtain ⟨k, hk, rfl, hgw, hbr⟩ := hrel
        by_cases hlt : k < m + 1
        · have hd : decide ((k : Int) < (m : Int) + 1) = true := by simp; omega
          have hd2 : decide (k < m + 1) = true := by simpa using hlt
          have q2 : wr.cell? ⟨g, 2, none⟩ = some (.slice (some ⟨gb, 0, none⟩) (m + 1) (m + 1)) := hgw.b0.cell 2
          have r0 : wr.cell? ⟨gb, k, none⟩ = some (.int .i64 (nth (byTo (m + 1) k) k)) := hgw.rb.cell (by rw [byTo_len]; exact hlt)
          have r1 := hgw.rb.free k
          have i0 : (0 : Int) ≤ (k : Int) := by omega
          have i1 : (k : Int) < (m : Int) + 1 := by omega
          have i3 : k ≤ 400 := by have := AR.out; omega
          have wk : IntKind.i64.wrap ((k : Int) - 1) = (k : Int) - 1 := wrap_id (by omega) (by omega)
          have HF := Lib.hid (show Gb (wr.setCell ⟨gb, k, none⟩ (.int .i64 ((k : Int) - 1))) g gl gb (m + 1) lw (edgesOf t W m) (List.replicate (m + 1) 0) (byTo (m + 1) (k + 1)) from hgw.setB k ((k : Int) - 1))
          have HF2 := Lib.hid (show Below w1.heap.size w1 (wr.setCell ⟨gb, k, none⟩ (.int .i64 ((k : Int) - 1))) from hbr.setCell (by show w1.heap.size ≤ gb; exact HL.out.2) _)
          have HK := Lib.hid (show k < m + 1 ∧ m ≤ 400 from ⟨hlt, by have := AR.out; omega⟩)
          clear hgw hbr hk hlt
          generalize nth (byTo (m + 1) k) k = z at *
          go_wp2_with fail
          go_roundw
          case rel => exact ⟨k + 1, by have := HK.out; omega, by go_num, HF.out, HF2.out⟩
          case measure => have := HK.out; simp [intOf]; omega
        · obtain rfl : k = m + 1 := by omega
          have hd : decide (((m + 1 : Nat) : Int) < (m : Int) + 1) = false := by simp
          have hd2 : decide ((m : Int) + 1 < (m : Int) + 1) = false := by simp
          have H8 := Lib.hid (⟨hgw, hbr⟩ : Gb wr g gl gb (m + 1) lw (edgesOf t W m) (List.replicate (m + 1) 0) (byTo (m + 1) (m + 1)) ∧ Below w1.heap.size w1 wr)
          clear hgw hbr hk hlt
          go_wp2_with fail
          go_ret
          exact ⟨g, gl, gb, lw, rfl, H8.out.1, by have := HL.out; have := H1.out.2.2; omega, by have := HL.out; have := H1.out.2.2; omega, by have := HGe.out; have := H1.out.2.2; omega, H1.out.1.trans (H8.out.2.mono H1.out.1.size)⟩

end Go.Proofs.Ytfafjojoapcliaa

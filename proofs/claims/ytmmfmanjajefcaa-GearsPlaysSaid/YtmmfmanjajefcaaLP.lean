/- Layer 7: the turns of all shafts, as the program has them. -/
import Derived.Test.YtmmfmanjajefcaaLO
set_option linter.all false
namespace Go.Proofs.Ytmmfmanjajefcaa
open Go.RowKit

/-- the turns of a shaft in whole numbers -/
def shN (ms : List Mh) (s : Nat) : Nat × Nat := ((trnR ms s).n.toNat, (trnR ms s).d.toNat)
def shL (ms : List Mh) (k : Nat) : List (Nat × Nat) := (List.range k).map (shN ms)
/-- the first shafts have turns that are not too large -/
def shOk (ms : List Mh) (k : Nat) : Prop := ∀ s, s < k → (trnR ms s).e = 0
theorem shL_len (ms : List Mh) (k : Nat) : (shL ms k).length = k := by simp [shL]
theorem shL_snoc (ms : List Mh) (k : Nat) : shL ms (k + 1) = shL ms k ++ [shN ms k] := by
  unfold shL; rw [List.range_succ, List.map_append]; rfl
theorem shL_at (ms : List Mh) (k i : Nat) (h : i < (shL ms k).length) : (shL ms k)[i] = shN ms i := by
  simp [shL]
theorem frD_pos_ms {ms : List Mh} (hv : trB ms = true) (s : Nat) : 0 < frD ((ms.take s).map mF) * drv ms := by
  obtain ⟨k1, k2, k3, k4, -⟩ := tr_facts hv
  have hp := frPos_ms (all_sub k3 s) (by rw [List.length_take]; omega)
  exact Nat.mul_pos (frD_pos hp.1) (by omega)
theorem frN_pos_ms {ms : List Mh} (hv : trB ms = true) (s : Nat) : 0 < frN ((ms.take s).map mF) := by
  obtain ⟨k1, k2, k3, k4, -⟩ := tr_facts hv
  exact prodL_fst_pos (frPos_ms (all_sub k3 s) (by rw [List.length_take]; omega)).2
theorem trn_two {ms : List Mh} (hv : trB ms = true) (s : Nat) : ((trnR ms s).e ≠ 0 ∧ trnR ms s = ⟨0, 0, 2⟩) ∨ ((trnR ms s).e = 0 ∧ trnR ms s = ⟨((shN ms s).1 : Int), ((shN ms s).2 : Int), 0⟩ ∧ RtV (shN ms s).1 (shN ms s).2 ∧ 0 < (shN ms s).1 ∧ Is (shN ms s).1 (shN ms s).2 (frN ((ms.take s).map mF)) (frD ((ms.take s).map mF) * drv ms)) := by
  have h := rOf_two (N := frN ((ms.take s).map mF)) (frD_pos_ms hv s)
  have e : rOf (frN ((ms.take s).map mF)) (frD ((ms.take s).map mF) * drv ms) = trnR ms s := rfl
  have hp : (trnR ms s).e = 0 → 0 < (trnR ms s).n.toNat := rOf_pos (frN_pos_ms hv s) (frD_pos_ms hv s)
  rw [e] at h
  rcases h with h | ⟨h1, a, b, h2, h3, h4⟩
  · exact .inl h
  · right
    have hpp := hp h1
    unfold shN
    rw [h2] at hpp ⊢
    simp only [Int.toNat_natCast] at hpp ⊢
    exact ⟨by first | trivial | rfl | exact h1, by first | trivial | rfl, h3, hpp, h4⟩

def ShPost (w : World) (ms : List Mh) (e : Ending) (w' : World) : Prop :=
  ((shOk ms (ms.length + 1) ∧ ∃ v, e = .returned (.tuple #[v, .int .i64 0]) ∧ Frs w' w'.heap.size v (shL ms (ms.length + 1))) ∨ (¬ shOk ms (ms.length + 1) ∧ e = .returned (.tuple #[.slice none 0 0, .int .i64 2]))) ∧ Below w.heap.size w w'
theorem own_frsR {w : World} {base n : Nat} {v : Value} {fs : List (Nat × Nat)} (h : w.ownsRow base 23 2 v n (flat fs)) (hn : fs.length = n) : Frs w w.heap.size v fs := by
  subst hn
  have ho := h
  rcases ho.2 with ⟨h1, h2⟩ | ⟨ge, cap, cur, h3, h4, h5, h6, h7, h8, h9⟩
  · exact ⟨none, 0, by rw [h1, h2], by omega, fun h => by omega⟩
  · have hb : Box w ge 23 cur := h5
    refine ⟨_, _, h3, h6, fun _ => ⟨ge, 0, rfl, hb.lt, fun k hk => ?_⟩⟩
    subst h3
    have p := flat_at fs k hk
    rw [Nat.zero_add]
    exact ⟨(ho.cellAt _ (by omega)).trans p.1, (ho.cellAt _ (by omega)).trans p.2⟩

set_option maxRecDepth 100000 in
set_option maxHeartbeats 4000000 in
theorem shafts_c (ms : List Mh) (v : Value) (w : World) (h : IsTr w w.heap.size v ms) (hv : trB ms = true) : Calls Try.prog 72 #[v] w (ShPost w ms) := by
  have HT := Lib.hid h
  have HV := Lib.hid hv
  have HFC := Lib.hid (tr_facts hv)
  clear hv
  obtain ⟨s, rfl, A, c, rfl, hcap, hcell⟩ := h
  clear hcap hcell
  obtain ⟨l, hn⟩ : ∃ n, ms.length = n := ⟨_, rfl⟩
  have HN := Lib.hid hn
  unfold ShPost
  rw [hn] at HT ⊢
  have HL16 := Lib.hid (show l ≤ 16 by rw [← hn]; exact HFC.out.2.1)
  have L16 : l ≤ 16 := HL16.out
  have wl : IntKind.i64.wrap ((l : Int) + 1) = ((l + 1 : Nat) : Int) := by rw [show (l : Int) + 1 = ((l + 1 : Nat) : Int) by simp]; exact wrap_id (by omega) (by omega)
  clear hn
  obtain ⟨i0, hi0, hz0, hz1, hz2⟩ : ∃ i, Try.prog.info? 23 = some i ∧ i.zero = some (.agg #[.int .i64 0, .int .i64 0]) ∧ i.size = 2 ∧ i.bytes = 16 := ⟨_, rfl, rfl, rfl, rfl⟩
  go_enter Try.func72, Try.ntmps72
  go_wp2_with fail
  obtain ⟨W1, hW2⟩ : ∃ Wzz, (w.alloc (.cells #[.slice A l c] 35)) = Wzz := ⟨_, rfl⟩
  have B3 := Lib.hid (show Below w.heap.size w W1 by rw [← hW2]; exact ((Below.refl w.heap.size w).alloc (Nat.le_refl _) _))
  have X4 := Lib.hid (show Box W1 (w.heap.size) 35 #[.slice A l c] by rw [← hW2]; exact Box.made w 35 #[.slice A l c])
  have C5 := Lib.hid (HT.out.later B3.out)
  have SZ6 := Lib.hid (show W1.heap.size = w.heap.size + 1 by rw [← hW2]; simp)
  rw [hW2]
  clear hW2
  have q7 : W1.cell? ⟨w.heap.size, 0, none⟩ = some (.slice A l c) := X4.out.cell 0
  go_loopw [4, 12] (fun lv kv wr => ∃ k : Nat, k ≤ l + 1 ∧ kv = .int .i64 (k : Int) ∧ shOk ms k ∧ wr.ownsRow (w.heap.size + 1) 23 2 lv k (flat (shL ms k)) ∧ IsTr wr wr.heap.size (.agg #[.slice A l c]) ms ∧ Box wr w.heap.size 35 #[.slice A l c] ∧ Below w.heap.size w wr) (fun _ kv _ => l + 1 - (intOf kv).toNat)
  case atStart => exact ⟨0, Nat.zero_le _, rfl, fun s h => by omega, World.ownsRow_nil _ _ _ _, C5.out, X4.out, B3.out⟩
  case round =>
    obtain ⟨k, hk, rfl, hok, hown, htr, hbt, hbel⟩ := hrel
    have HOK := Lib.hid hok
    have HO := Lib.hid hown
    have Ht := Lib.hid htr
    have Xt := Lib.hid hbt
    have Bl := Lib.hid hbel
    clear hok hown htr hbt hbel
    have q8 : wr.cell? ⟨w.heap.size, 0, none⟩ = some (.slice A l c) := Xt.out.cell 0
    by_cases hlt : k < l + 1
    · have d1 : decide ((k : Int) < ((l + 1 : Nat) : Int)) = true := decide_eq_true (by omega)
      have d2 : decide (k < l + 1) = true := decide_eq_true (by omega)
      have d3 : decide ((k : Int) < (l : Int) + 1) = true := decide_eq_true (by omega)
      have HLT := Lib.hid hlt
      clear hlt
      go_wp2_with fail
      refine (turnsOf_c ms k _ _ Ht.out HV.out (by have := HLT.out; rw [HN.out]; omega)).mono ?_; rintro e v9 ⟨rfl, hb10⟩
      have HBZ := Lib.hid hb10
      have X11 := Lib.hid (Xt.out.later hb10)
      have C12 := Lib.hid (Ht.out.later hb10)
      have B13 := Lib.hid (Bl.out.trans (hb10.mono Bl.out.size))
      clear hb10
      have HO := Lib.hid (own_later HO.out HBZ.out)
      clear q8
      have q14 : v9.cell? ⟨w.heap.size, 0, none⟩ = some (.slice A l c) := X11.out.cell 0
      rcases trn_two HV.out k with ⟨he, hr⟩ | ⟨he, hr, hrv, hp, -⟩
      · have HNO := Lib.hid (show ¬ shOk ms (l + 1) from fun h => he (h k HLT.out))
        rw [hr]
        have e1 : ((2 : Int) != 0) = true := by decide
        clear he hr
        have X15 := Lib.hid (X11.out.alloc (.cells #[.int .i64 0, .int .i64 0] 23))
        have C16 := Lib.hid (C12.out.later ((Below.refl v9.heap.size v9).alloc (Nat.le_refl _) (.cells #[.int .i64 0, .int .i64 0] 23)))
        have B17 := Lib.hid (B13.out.alloc B13.out.size (.cells #[.int .i64 0, .int .i64 0] 23))
        have X18 := Lib.hid (Box.made v9 23 #[.int .i64 0, .int .i64 0])
        have q19 : (v9.alloc (.cells #[.int .i64 0, .int .i64 0] 23)).cell? ⟨w.heap.size, 0, none⟩ = some (.slice A l c) := X15.out.cell 0
        have q20 : (v9.alloc (.cells #[.int .i64 0, .int .i64 0] 23)).cell? ⟨v9.heap.size, 0, none⟩ = some (.int .i64 0) := X18.out.cell 0
        have q21 : (v9.alloc (.cells #[.int .i64 0, .int .i64 0] 23)).cell? ⟨v9.heap.size, 1, none⟩ = some (.int .i64 0) := X18.out.cell 1
        go_wp2_with fail
        go_ret2
        exact ⟨.inr ⟨HNO.out, rfl⟩, B17.out⟩
      · rw [hr]
        have e1 : ((0 : Int) != 0) = false := by decide
        have HOK2 := Lib.hid (show shOk ms (k + 1) from fun s hs => by
          by_cases hsk : s = k
          · rw [hsk]; exact he
          · exact HOK.out s (by omega))
        have HSN := Lib.hid (shL_snoc ms k)
        obtain ⟨n, hnn⟩ : ∃ n, (shN ms k).1 = n := ⟨_, rfl⟩
        obtain ⟨d, hdd⟩ : ∃ d, (shN ms k).2 = d := ⟨_, rfl⟩
        rw [hnn, hdd]
        have HND := Lib.hid (show shN ms k = (n, d) by rw [← hnn, ← hdd])
        clear he hr hrv hp hnn hdd
        have X22 := Lib.hid (X11.out.alloc (.cells #[.int .i64 (n : Int), .int .i64 (d : Int)] 23))
        have C23 := Lib.hid (C12.out.later ((Below.refl v9.heap.size v9).alloc (Nat.le_refl _) (.cells #[.int .i64 (n : Int), .int .i64 (d : Int)] 23)))
        have B24 := Lib.hid (B13.out.alloc B13.out.size (.cells #[.int .i64 (n : Int), .int .i64 (d : Int)] 23))
        have X25 := Lib.hid (Box.made v9 23 #[.int .i64 (n : Int), .int .i64 (d : Int)])
        have q26 : (v9.alloc (.cells #[.int .i64 (n : Int), .int .i64 (d : Int)] 23)).cell? ⟨w.heap.size, 0, none⟩ = some (.slice A l c) := X22.out.cell 0
        have q27 : (v9.alloc (.cells #[.int .i64 (n : Int), .int .i64 (d : Int)] 23)).cell? ⟨v9.heap.size, 0, none⟩ = some (.int .i64 (n : Int)) := X25.out.cell 0
        have q28 : (v9.alloc (.cells #[.int .i64 (n : Int), .int .i64 (d : Int)] 23)).cell? ⟨v9.heap.size, 1, none⟩ = some (.int .i64 (d : Int)) := X25.out.cell 1
        have q90 : ∀ o : Obj, ((v9.alloc (.cells #[.int .i64 (n : Int), .int .i64 (d : Int)] 23)).alloc o).cell? ⟨v9.heap.size, 0, none⟩ = some (.int .i64 (n : Int)) := fun o => (X25.out.alloc o).cell 0
        have HO1 := Lib.hid ((HO.out.alloc (.cells #[.int .i64 (n : Int), .int .i64 (d : Int)] 23)).alloc (.cells #[.int .i64 (n : Int), .int .i64 (d : Int)] 23))
        have HSZ := Lib.hid (show (v9.alloc (.cells #[.int .i64 (n : Int), .int .i64 (d : Int)] 23)).heap.size = v9.heap.size + 1 from World.size_alloc _ _)
        have HNW0 := news_box (W := (v9.alloc (.cells #[.int .i64 (n : Int), .int .i64 (d : Int)] 23)).alloc (.cells #[.int .i64 (n : Int), .int .i64 (d : Int)] 23)) (cs := [.int .i64 (n : Int), .int .i64 (d : Int)]) (Box.made (v9.alloc (.cells #[.int .i64 (n : Int), .int .i64 (d : Int)] 23)) 23 #[.int .i64 (n : Int), .int .i64 (d : Int)])
        rw [HSZ.out] at HNW0
        have HNW := Lib.hid HNW0
        clear HNW0
        have H1C := Lib.hid (show ∀ u ∈ [Value.int .i64 (n : Int), .int .i64 (d : Int)], u.oneCell' = true by intro u hu; simp at hu; rcases hu with rfl | rfl <;> rfl)
        have HL2 := Lib.hid (show k + 1 ≤ maxLen ∧ (k + 1) * 16 ≤ 140737488355328 ∧ w.heap.size + 1 ≤ ((v9.alloc (.cells #[.int .i64 (n : Int), .int .i64 (d : Int)] 23)).alloc (.cells #[.int .i64 (n : Int), .int .i64 (d : Int)] 23)).heap.size by
          have := HLT.out; have := B24.out.size; rw [World.size_alloc]; have := Xt.out.lt; unfold maxLen; omega)
        have HBA := Lib.hid (B24.out.alloc B24.out.size (.cells #[.int .i64 (n : Int), .int .i64 (d : Int)] 23))
        have HXA := Lib.hid (X22.out.alloc (.cells #[.int .i64 (n : Int), .int .i64 (d : Int)] 23))
        have HTA := Lib.hid (C23.out.later ((Below.refl _ _).alloc (Nat.le_refl _) (.cells #[.int .i64 (n : Int), .int .i64 (d : Int)] 23)))
        go_wp2_with (first
          | (at_builtin; refine wpList_append_own_at _ rfl _ _ 85 rfl (w.heap.size + 1) 23 i0 (.agg #[.int .i64 0, .int .i64 0]) 2 16 Try.underlying85 hi0 hz0 hz1 hz2 rfl (by decide) u4 _ _ rfl HO1.out ⟨v9.heap.size + 1, 0, none⟩ 1 1 [.int .i64 (n : Int), .int .i64 (d : Int)] rfl rfl HNW.out H1C.out HL2.out.1 HL2.out.2.1 HL2.out.2.2 ?_; intro v7 w7 hown7 hgrow7 _ _)
          | fail)
        have HF7 := Lib.hid (show w7.ownsRow (w.heap.size + 1) 23 2 v7 (k + 1) (flat (shL ms (k + 1))) by rw [HSN.out, HND.out, flat_snoc]; exact hown7)
        have HB7 := Lib.hid (HBA.out.grown hgrow7 (by rw [World.size_alloc, HSZ.out]; have := B24.out.size; rw [HSZ.out] at this; omega) (fun q e => by have := (HO1.out.lt q e).1; omega))
        have HX7 := Lib.hid (HXA.out.grown hgrow7 (fun e => by have := (HO1.out.lt _ e).1; omega))
        have HT7 := Lib.hid (HT.out.mono HB7.out HB7.out.size)
        clear hown7 hgrow7
        go_roundw
        case rel => exact ⟨k + 1, by have := HLT.out; omega, by go_num, HOK2.out, HF7.out, HT7.out, HX7.out, HB7.out⟩
        case measure => have := HLT.out; simp [intOf]; omega
    · obtain rfl : k = l + 1 := by omega
      have d1 : decide (((l + 1 : Nat) : Int) < ((l + 1 : Nat) : Int)) = false := by simp
      have d2 : decide (l + 1 < l + 1) = false := by simp
      have d3 : decide ((l : Int) + 1 < (l : Int) + 1) = false := by simp
      have HFR := Lib.hid (own_frsR HO.out (shL_len ms _))
      go_wp2_with fail
      go_ret2
      exact ⟨.inl ⟨HOK.out, _, rfl, HFR.out⟩, Bl.out⟩
  

end Go.Proofs.Ytmmfmanjajefcaa

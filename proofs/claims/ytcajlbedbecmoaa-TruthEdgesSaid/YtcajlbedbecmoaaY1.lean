/- Layer 6: which cells a straight edge reddens: the mathematics, and both sides walked. -/
import Derived.Test.YtcajlbedbecmoaaY0
namespace Go.Proofs.Ytcajlbedbecmoaa
open Go.RowKit

/-! ### different indices -/
def okAt (l : List Int) (n : Int) (k : Nat) : Bool := inB (nth l k) 0 (n - 1) && !decide (nth l k ∈ l.take k)
def diffTo (l : List Int) (n : Int) (k : Nat) : Bool := (List.range k).all (okAt l n)
def diffB (l : List Int) (n : Int) : Bool := diffTo l n l.length
theorem diffTo_succ (l : List Int) (n : Int) (k : Nat) : diffTo l n (k + 1) = (diffTo l n k && okAt l n k) := by
  unfold diffTo
  rw [List.range_succ, List.all_append]
  simp
theorem diffB_false (l : List Int) (n : Int) (k : Nat) (h : k < l.length) (hf : okAt l n k = false) : diffB l n = false := by
  unfold diffB diffTo
  rw [List.all_eq_false]
  exact ⟨k, by simpa using h, by simp [hf]⟩
theorem diffB_at {l : List Int} {n : Int} (h : diffB l n = true) {k : Nat} (hk : k < l.length) : 0 ≤ nth l k ∧ nth l k < n := by
  cases hq : okAt l n k
  · rw [diffB_false l n k hk hq] at h; cases h
  · unfold okAt at hq
    simp only [Bool.and_eq_true] at hq
    have := inB_iff.1 hq.1
    omega
/-- which indices have been seen -/
def seenTo (l : List Int) (n k : Nat) : List Bool := (List.range n).map fun i : Nat => decide ((i : Int) ∈ l.take k)
theorem seenTo_len (l : List Int) (n k : Nat) : (seenTo l n k).length = n := by simp [seenTo]
theorem seenTo_zero (l : List Int) (n : Nat) : seenTo l n 0 = List.replicate n false := by
  unfold seenTo
  simp only [List.take_zero, List.not_mem_nil, decide_false]
  rw [List.map_const', List.length_range]
theorem seenTo_at (l : List Int) (n k j : Nat) (h : j < n) : nthb (seenTo l n k) j = decide ((j : Int) ∈ l.take k) := by
  unfold seenTo nthb
  rw [List.getD_eq_getElem?_getD, List.getElem?_map, List.getElem?_range h]; rfl
theorem seenTo_put (l : List Int) (n k j : Nat) (hk : k < l.length) (hj : nth l k = (j : Int)) : (seenTo l n k).set j true = seenTo l n (k + 1) := by
  apply List.ext_getElem?
  intro i
  unfold seenTo
  rw [List.getElem?_set]
  have e : l.take (k + 1) = l.take k ++ [(j : Int)] := by
    rw [List.take_succ_eq_append_getElem hk]
    congr 2
    unfold nth at hj
    rw [List.getD_eq_getElem?_getD, List.getElem?_eq_getElem hk] at hj
    exact hj
  by_cases hi : i < n
  · rw [List.getElem?_map, List.getElem?_map, List.getElem?_range hi]
    by_cases hji : j = i
    · subst hji
      simp [hi, e]
    · have : ¬ (i : Int) = (j : Int) := by omega
      simp [hji, e, this]
  · simp [hi]
    try (intro h; omega)

set_option maxHeartbeats 2000000 in
theorem areDifferent_c (l : List Int) (n : Nat) (v : Value) (w : World) (h : Ints w w.heap.size v l) (hn : n ≤ 100000000) :
    Calls Try.prog 100 #[v, .int .i64 (n : Int)] w fun e w' => e = .returned (.bool (diffB l n)) ∧ Below w.heap.size w w' := by
  obtain ⟨_, A, c, rfl, hcap, hcell⟩ := h
  have hmk := mkBools w n hn
  have hw1 : IntKind.i64.wrap ((n : Int) - 1) = (n : Int) - 1 := wrap_id (by omega) (by omega)
  have HN := Lib.hid hn
  clear hn
  go_enter Try.func100, Try.ntmps100
  go_wp2_with fail
  go_loopw [12] (fun i wr => ∃ k : Nat, k ≤ l.length ∧ i = .int .i64 (k : Int) ∧ diffTo l n k = true ∧ RowB wr w.heap.size (seenTo l n k) ∧ Below w.heap.size w wr) (fun i _ => l.length - (intOf i).toNat)
  case atStart => exact ⟨0, Nat.zero_le _, rfl, rfl, by rw [seenTo_zero]; exact RowB.made _ _, (Below.refl _ _).alloc (Nat.le_refl _) _⟩
  case round =>
    clear hmk
    obtain ⟨k, hk, rfl, hall, hrow, hbr⟩ := hrel
    have Hall := Lib.hid hall
    have Hrow := Lib.hid hrow
    have Hbr := Lib.hid hbr
    clear hall
    by_cases hlt : k < l.length
    · obtain ⟨b0, off, rfl, hbB, hcc⟩ := hcell (by omega)
      have q0 := keepd (hcc k hlt) hbr hbB
      have hd : decide ((k : Int) < (l.length : Int)) = true := by simpa using hlt
      have Hs := Lib.hid (diffTo_succ l n k)
      have Hf := Lib.hid (diffB_false l n k hlt)
      cases hq : inB (nth l k) 0 ((n : Int) - 1)
      · have Hn := Lib.hid (Hf.out (by unfold okAt; rw [hq]; rfl))
        have Hq := Lib.hid hq
        clear hq hcell hcc hrow hbr
        go_wp2_with fail
        refine (isFromTo_b _ _ _ _ Hq.out _).mono ?_; rintro e w' ⟨rfl, rfl⟩
        go_wp2_with fail
        go_ret
        exact ⟨ret_bool Hn.out.symm, Hbr.out⟩
      · have hr := inB_iff.1 hq
        obtain ⟨j, hj⟩ : ∃ j : Nat, nth l k = (j : Int) := ⟨(nth l k).toNat, by omega⟩
        have hjn : j < n := by omega
        have HJ := Lib.hid hj
        have HS1 := Lib.hid (seenTo_put l n k j hlt hj)
        have Hq := Lib.hid (show inB ((j : Int)) 0 ((n : Int) - 1) = true by rw [← hj]; exact hq)
        have Hok := Lib.hid (show okAt l n k = !decide ((j : Int) ∈ l.take k) by unfold okAt; rw [hq, hj]; rfl)
        have r0 : wr.cell? ⟨w.heap.size, j, none⟩ = some (.bool (decide ((j : Int) ∈ l.take k))) := by rw [hrow.cell (by rw [seenTo_len]; exact hjn), seenTo_at l n k j hjn]
        have r1 := hrow.free j
        have j0 : (0 : Int) ≤ (j : Int) := by omega
        have j1 : (j : Int) < (n : Int) := by omega
        rw [hj] at q0
        clear hq hcell hcc hrow hbr hr hj
        cases hm : decide ((j : Int) ∈ l.take k)
        · have Hm := Lib.hid hm
          rw [hm] at r0
          have Hput := Lib.hid (Hrow.out.put j true)
          clear hm
          go_wp2_with fail
          refine (isFromTo_b _ _ _ _ Hq.out _).mono ?_; rintro e w' ⟨rfl, rfl⟩
          go_wp2_with fail
          go_roundw
          case rel => exact ⟨k + 1, by omega, by go_num, by rw [Hs.out, Hall.out, Hok.out, Hm.out]; rfl, by rw [← HS1.out]; exact Hput.out, Hbr.out.setCell (Nat.le_refl _) _⟩
          case measure => simp [intOf]; omega
        · have Hn := Lib.hid (Hf.out (by rw [Hok.out, hm]; rfl))
          rw [hm] at r0
          clear hm
          go_wp2_with fail
          refine (isFromTo_b _ _ _ _ Hq.out _).mono ?_; rintro e w' ⟨rfl, rfl⟩
          go_wp2_with fail
          go_ret
          exact ⟨ret_bool Hn.out.symm, Hbr.out⟩
    · obtain rfl : k = l.length := by omega
      have hd : decide ((l.length : Int) < (l.length : Int)) = false := by simp
      have Hy := Lib.hid (show diffB l n = true from Hall.out)
      clear hcell hrow hbr
      go_wp2_with fail
      go_ret
      exact ⟨ret_bool Hy.out.symm, Hbr.out⟩

end Go.Proofs.Ytcajlbedbecmoaa

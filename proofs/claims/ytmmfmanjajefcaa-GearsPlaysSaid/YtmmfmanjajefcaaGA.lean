/- Layer 7: lists compared; the train of the examples. -/
import Derived.Test.YtmmfmanjajefcaaLZ
set_option linter.all false
namespace Go.Proofs.Ytmmfmanjajefcaa
open Go.RowKit

set_option maxHeartbeats 4000000 in
theorem SameInts_c (l r : List Int) (v u : Value) (w : World) (hl : Ints w w.heap.size v l) (hr : Ints w w.heap.size u r) :
    Calls Try.prog 42 #[v, u] w fun e w' => e = .returned (.bool (decide (l = r))) ∧ Below w.heap.size w w' := by
  obtain ⟨l1, A, c, rfl, l2, l3⟩ := hl
  obtain ⟨r1, A', c', rfl, r2, r3⟩ := hr
  by_cases hn : l.length = r.length
  case neg =>
    have hne : ((l.length : Int) != (r.length : Int)) = true := by simp; omega
    have Hs := Lib.hid (show decide (l = r) = false by rw [decide_eq_false_iff_not]; intro h; exact hn (by rw [h]))
    clear hn l3 r3
    go_enter Try.func42, Try.ntmps42
    go_wp2_with fail
    go_ret
    exact ⟨ret_bool Hs.out.symm, Below.refl _ _⟩
  have hne : ((l.length : Int) != (r.length : Int)) = false := by simp [hn]
  have Hn := Lib.hid hn
  clear hn
  go_enter Try.func42, Try.ntmps42
  go_wp2_with fail
  go_loopw [5] (fun i wr => ∃ k : Nat, k ≤ l.length ∧ i = .int .i64 (k : Int) ∧ l.take k = r.take k ∧ Below w.heap.size w wr) (fun i _ => l.length - (intOf i).toNat)
  case atStart => exact ⟨0, Nat.zero_le _, rfl, rfl, Below.refl _ _⟩
  case round =>
    obtain ⟨k, hk, rfl, htk, hbr⟩ := hrel
    have Htk := Lib.hid htk
    clear htk
    by_cases hlt : k < l.length
    · have hlt2 : k < r.length := by have := Hn.out; omega
      obtain ⟨b, off, rfl, hbB, hcc⟩ := l3 (by omega)
      obtain ⟨b', off', rfl, hbB', hcc'⟩ := r3 (by omega)
      have hx := keepd (hcc k hlt) hbr hbB
      have hy := keepd (hcc' k hlt2) hbr hbB'
      have hi1 : (0 : Int) ≤ (k : Int) := by omega
      have hi2 : (k : Int) < (l.length : Int) := by omega
      have hi3 : (k : Int) < (r.length : Int) := by omega
      have hdl : decide ((k : Int) < (l.length : Int)) = true := by simpa using hlt
      have hbd : ∀ nq, Below w.heap.size w (wr.drewN nq) := fun nq => ⟨hbr.os, hbr.tape, hbr.output, hbr.size, hbr.block⟩
      have Hbd := Lib.hid hbd
      have HE := Lib.hid (show nth l k = nth r k → l.take (k + 1) = r.take (k + 1) from fun hz => by
        rw [List.take_succ_eq_append_getElem hlt, List.take_succ_eq_append_getElem hlt2, Htk.out]
        have e1 : nth l k = l[k] := by simp [nth, hlt]
        have e2 : nth r k = r[k] := by simp [nth, hlt2]
        rw [e1, e2] at hz
        rw [hz])
      have HN := Lib.hid (show nth l k ≠ nth r k → decide (l = r) = false from fun hz => by rw [decide_eq_false_iff_not]; intro h; exact hz (by rw [h]))
      have HL := Lib.hid (show k < l.length ∧ l.length * 8 ≤ 140737488351232 from ⟨hlt, l1⟩)
      have hk9 : k ≤ 17592186044416 := by omega
      clear l3 r3 hcc hcc' hbd hlt2
      generalize nth l k = x at *
      generalize nth r k = y at *
      by_cases hz : x = y
      · have hne : (x != y) = false := by simp [hz]
        have Hs := Lib.hid (HE.out hz)
        clear hz
        go_wp2_with fail
        go_quiet (fail)
        go_wp2_with fail
        go_roundw
        case rel => exact ⟨k + 1, by have := HL.out; omega, by go_num, Hs.out, Hbd.out _⟩
        case measure => have := HL.out; simp [intOf]; omega
      · have hne : (x != y) = true := by simp [hz]
        have Hs := Lib.hid (HN.out hz)
        clear hz
        go_wp2_with fail
        go_quiet (fail)
        go_wp2_with fail
        go_ret
        exact ⟨ret_bool Hs.out.symm, Hbd.out _⟩
    · obtain rfl : k = l.length := by omega
      have Hs := Lib.hid (show decide (l = r) = true by
        rw [decide_eq_true_iff]
        have := Htk.out
        rwa [List.take_length, Hn.out, List.take_length] at this)
      have hdl : decide ((l.length : Int) < (l.length : Int)) = false := by simp
      clear l3 r3
      go_wp2_with fail
      go_ret
      exact ⟨ret_bool Hs.out.symm, hbr⟩

theorem SameInts_b (l r : List Int) (b : Bool) (hb : decide (l = r) = b) (v u : Value) (w : World) (hl : Ints w w.heap.size v l) (hr : Ints w w.heap.size u r) :
    Calls Try.prog 42 #[v, u] w fun e w' => e = .returned (.bool b) ∧ Below w.heap.size w w' :=
  (SameInts_c l r v u w hl hr).mono fun _ _ ⟨h1, h2⟩ => ⟨h1.trans (ret_bool hb), h2⟩


/-- the train of the examples -/
def exms : List Mh := [(12, 8, 100), (10, 4, 0)]
set_option maxRecDepth 100000 in
set_option maxHeartbeats 4000000 in
theorem short_c (ms : List Mh) (v : Value) (w : World) (h : IsTr w w.heap.size v ms) : Calls Try.prog 27 #[v] w fun e w' => e = .returned (.bool (decide (ms.length ≤ 100))) ∧ Below w.heap.size w w' := by
  obtain ⟨sv, rfl, A, c, rfl, -, -⟩ := h
  have B1 := Lib.hid (show Below w.heap.size w (w.alloc (.cells #[.slice A ms.length c] 35)) from (Below.refl _ _).alloc (Nat.le_refl _) _)
  go_enter Try.func27, Try.ntmps27
  go_wp2_with fail
  go_ret
  exact ⟨ret_bool (by rw [decide_eq_decide]; omega), B1.out⟩
set_option maxRecDepth 100000 in
set_option maxHeartbeats 4000000 in
theorem train_c (w : World) : Calls Try.prog 62 #[] w fun e w' => ∃ v, e = .returned v ∧ IsTr w' w'.heap.size v exms ∧ Below w.heap.size w w' := by
  go_enter Try.func62, Try.ntmps62
  go_wp2_with fail
  have X := (Box.made w 35 #[.slice (some ⟨w.heap.size + 1, 0, none⟩) 2 2]).alloc (.cells #[.int .i64 12, .int .i64 8, .int .i64 100, .int .i64 10, .int .i64 4, .int .i64 0] 37)
  have Y := Box.made (w.alloc (.cells #[.slice (some ⟨w.heap.size + 1, 0, none⟩) 2 2] 35)) 37 #[.int .i64 12, .int .i64 8, .int .i64 100, .int .i64 10, .int .i64 4, .int .i64 0]
  rw [World.size_alloc] at Y
  have B := ((Below.refl w.heap.size w).alloc (Nat.le_refl _) (.cells #[.slice (some ⟨w.heap.size + 1, 0, none⟩) 2 2] 35)).alloc (by rw [World.size_alloc]; omega) (.cells #[.int .i64 12, .int .i64 8, .int .i64 100, .int .i64 10, .int .i64 4, .int .i64 0] 37)
  obtain ⟨W, hW⟩ : ∃ W, ((w.alloc (.cells #[.slice (some ⟨w.heap.size + 1, 0, none⟩) 2 2] 35)).alloc (.cells #[.int .i64 12, .int .i64 8, .int .i64 100, .int .i64 10, .int .i64 4, .int .i64 0] 37)) = W := ⟨_, rfl⟩
  rw [hW] at X Y B ⊢
  have q0 : W.cell? ⟨w.heap.size, 0, none⟩ = some (.slice (some ⟨w.heap.size + 1, 0, none⟩) 2 2) := X.cell 0
  refine bodyPost_ret (v := .agg #[.slice (some ⟨w.heap.size + 1, 0, none⟩) 2 2]) (by simp [results, Try.results62, go_sem, q0]) rfl ⟨_, rfl, ⟨_, rfl, _, _, rfl, by decide, fun _ => ⟨_, 0, rfl, Y.lt, fun k hk => ?_⟩⟩, B⟩
  unfold exms at hk ⊢
  have hk2 : k < 2 := hk
  rcases (by omega : k = 0 ∨ k = 1) with rfl | rfl
  · exact ⟨Y.cell 0, Y.cell 1, Y.cell 2⟩
  · exact ⟨Y.cell 3, Y.cell 4, Y.cell 5⟩
end Go.Proofs.Ytmmfmanjajefcaa

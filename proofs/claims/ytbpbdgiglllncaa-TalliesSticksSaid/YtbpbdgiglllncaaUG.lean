/- Layer 9: journals in memory, at whatever place of a block: what the program's own methods do. -/
import Derived.Test.YtbpbdgiglllncaaUC
set_option linter.all false
namespace Go.Proofs.Ytbpbdgiglllncaa
open Go.RowKit

set_option maxRecDepth 100000 in
set_option maxHeartbeats 4000000 in
theorem isFromTo_c (n a b : Int) (w : World) : Calls Try.prog 50 #[.int .i64 n, .int .i64 a, .int .i64 b] w fun e w' => e = .returned (.bool (inB n a b)) ∧ w = w' := by
  by_cases h1 : a ≤ n
  · have d1 : decide (a ≤ n) = true := decide_eq_true h1
    have HE := Lib.hid (show inB n a b = decide (n ≤ b) by unfold inB; rw [d1, Bool.true_and])
    clear h1
    go_enter Try.func50, Try.ntmps50
    go_wp2_with fail
    go_ret
    exact ⟨ret_bool HE.out.symm, rfl⟩
  · have d1 : decide (a ≤ n) = false := decide_eq_false h1
    have HE := Lib.hid (show inB n a b = false by unfold inB; rw [d1, Bool.false_and])
    clear h1
    go_enter Try.func50, Try.ntmps50
    go_wp2_with fail
    go_ret
    exact ⟨ret_bool HE.out.symm, rfl⟩

set_option maxRecDepth 100000 in
set_option maxHeartbeats 4000000 in
theorem holds_c (b o : Nat) (A : Option Addr) (n c m mc : Nat) (M : Option Addr) (w : World) (h0 : w.cell? ⟨b, o, none⟩ = some (.slice A n c)) (hn : n ≤ 33554432) (hm : m ≤ 33554432) :
    Calls Try.prog 55 #[.pointer (some ⟨b, o, none⟩), .slice M m mc] w fun e w' => e = .returned (.bool (decide (n + m ≤ 16777216))) ∧ w = w' := by
  have w1 : IntKind.wrap .i64 ((n : Int) + (m : Int)) = (n : Int) + (m : Int) := wrapI (by omega) (by omega)
  have HE := Lib.hid (show decide (n + m ≤ 16777216) = decide ((n : Int) + (m : Int) ≤ 16777216) by rw [decide_eq_decide]; omega)
  go_enter Try.func55, Try.ntmps55
  go_wp2_with fail
  go_ret
  exact ⟨ret_bool HE.out.symm, rfl⟩

set_option maxRecDepth 100000 in
set_option maxHeartbeats 4000000 in
theorem sync_c (b o : Nat) (A : Option Addr) (n c : Nat) (d : Value) (w : World) (h0 : w.cell? ⟨b, o, none⟩ = some (.slice A n c)) (h1 : w.cell? ⟨b, o + 1, none⟩ = some d) (hf : ∀ i, w.frozen? ⟨b, i, none⟩ = false) :
    Calls Try.prog 48 #[.pointer (some ⟨b, o, none⟩)] w fun e w' => (∃ r, e = .returned r) ∧ w' = w.setCell ⟨b, o + 1, none⟩ (.int .i64 (n : Int)) := by
  go_enter Try.func48, Try.ntmps48
  go_wp2_with fail
  go_end0
  exact ⟨⟨_, rfl⟩, rfl⟩

set_option maxRecDepth 100000 in
set_option maxHeartbeats 4000000 in
theorem pending_c (b o : Nat) (A : Option Addr) (n c : Nat) (d : Int) (w : World) (h0 : w.cell? ⟨b, o, none⟩ = some (.slice A n c)) (h1 : w.cell? ⟨b, o + 1, none⟩ = some (.int .i64 d)) (hn : n ≤ 33554432) (hd0 : 0 ≤ d) (hd : d ≤ (n : Int)) :
    Calls Try.prog 51 #[.pointer (some ⟨b, o, none⟩)] w fun e w' => e = .returned (.int .i64 ((n : Int) - d)) ∧ Below w.heap.size w w' := by
  have w1 : IntKind.wrap .i64 ((n : Int) - d) = (n : Int) - d := wrapI (by omega) (by omega)
  clear hd hd0
  go_enter Try.func51, Try.ntmps51
  go_wp2_with fail
  go_quiet (fail)
  go_wp2_with fail
  go_ret
  exact ⟨rfl, below_drewN _ _⟩

set_option maxRecDepth 100000 in
set_option maxHeartbeats 4000000 in
theorem add_c (b o : Nat) (A : Option Addr) (c base : Nat) (S xs : List Int) (u : Value) (w : World) (h0 : w.cell? ⟨b, o, none⟩ = some (.slice A S.length c)) (hf : ∀ i, w.frozen? ⟨b, i, none⟩ = false)
    (ho : w.ownsRow base 5 1 (.slice A S.length c) S.length (bys S)) (hu : Bys w w.heap.size u xs) (hsm : S.length + xs.length ≤ 1073741824) (hbase : base ≤ w.heap.size) (hb : b < w.heap.size) (hne : ∀ g, (Value.slice A S.length c).ownBlock = some g → g ≠ b) :
    Calls Try.prog 56 #[.pointer (some ⟨b, o, none⟩), u] w fun e w' => ∃ v' w7, (∃ r, e = .returned r) ∧ w' = w7.setCell ⟨b, o, none⟩ v' ∧ w7.ownsRow base 5 1 v' (S ++ xs).length (bys (S ++ xs)) ∧ w.grownBy w7 (Value.slice A S.length c).ownBlock ∧ (v'.ownBlock = (Value.slice A S.length c).ownBlock ∨ v'.ownBlock = some w.heap.size) := by
  obtain ⟨M, mc, rfl, -⟩ := hu.shape
  have HSM := Lib.hid (show S.length + xs.length ≤ 1099511627776 by omega)
  have HB := Lib.hid hb
  have HNE := Lib.hid hne
  have H0 := Lib.hid h0
  have HF := Lib.hid hf
  obtain ⟨n, hn⟩ : ∃ z, S.length = z := ⟨_, rfl⟩
  obtain ⟨m, hm⟩ : ∃ z, xs.length = z := ⟨_, rfl⟩
  have HN := Lib.hid hn
  have ho' := ho
  have hu' := hu
  rw [hn] at h0 ho' H0 HNE
  rw [hm] at hu'
  rw [hn, hm]
  have HO := Lib.hid ho'
  have HU := Lib.hid hu'
  clear ho hu hn hm ho' hu' hf hne hb hsm
  have hof := HO.out
  have huf := HU.out
  rw [← HN.out] at hof
  go_enter Try.func56, Try.ntmps56
  go_wp2_with (first
    | (at_builtin; refine wpList_bytes rfl _ _ rfl base (.slice A n c) S rfl (by rw [← HN.out]; exact hof) _ xs rfl huf HSM.out hbase ?_
       intro v' w7 hown7 hgrow7 hnw7
       have hh := Lib.hid (show w7.ownsRow base 5 1 v' (S ++ xs).length (bys (S ++ xs)) ∧ w.grownBy w7 (Value.slice A n c).ownBlock ∧ (v'.ownBlock = (Value.slice A n c).ownBlock ∨ v'.ownBlock = some w.heap.size) from ⟨hown7, hgrow7, hnw7⟩)
       have hne' : some b ≠ (Value.slice A n c).ownBlock := fun e => HNE.out b e.symm rfl
       have g7 : w7.cell? ⟨b, o, none⟩ = some (.slice A n c) := (World.cell?_of_block (w := w) (w' := w7) (a := ⟨b, o, none⟩) (hgrow7.block b HB.out hne')).trans H0.out
       have f7 : ∀ i, w7.frozen? ⟨b, i, none⟩ = false := fun i => (World.frozen?_of_block (w := w) (w' := w7) (a := ⟨b, i, none⟩) (hgrow7.block b HB.out hne')).trans (HF.out i)
       obtain ⟨A7, c7, rfl⟩ := own_shape hown7
       clear hown7 hgrow7 hnw7 hne' hof huf))
  go_end0
  refine ⟨_, w7, ⟨_, rfl⟩, rfl, ?_⟩
  have h := hh.out
  simp only [List.length_append] at h ⊢
  exact h
end Go.Proofs.Ytbpbdgiglllncaa

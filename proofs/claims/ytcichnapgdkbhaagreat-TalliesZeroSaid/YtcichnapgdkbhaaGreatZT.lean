/- Layer 9: worlds that were not made; light. -/
import Derived.Test.YtcichnapgdkbhaaGreatZQ
set_option linter.all false
namespace Go.Proofs.YtcichnapgdkbhaaGreat
open Go.RowKit

set_option maxRecDepth 100000 in
set_option maxHeartbeats 8000000 in
theorem zeroWorld_c (h : Value) (T : Array Value) (i : Int) (w : World) (d : DeadW w h) (hT : T.size = 25) :
    Calls Tryz.prog 8 #[h, .agg T, .int .i64 i] w fun e w' => e = .returned (.bool true) ∧ Below w.heap.size w w' := by
  have b0 : Below w.heap.size w (w.alloc (.cells T 31)) := (Below.refl _ _).alloc (Nat.le_refl _) _
  have Y0 := Lib.hid (Box.made w 31 T)
  have B0 := Lib.hid b0
  have D0 := Lib.hid (d.later b0)
  have hi : (Tryz.prog.info? 31).map (·.size) = some T.size := by rw [hT]; kernel_rfl
  have HI := Lib.hid hi
  clear b0 d hi
  go_enter Tryz.func8, Tryz.ntmps8
  go_wp2_with fail
  refine (wNotes h _ _ D0.out).mono ?_; rintro e w1 ⟨rfl, rfl⟩
  go_wp2_with (refine wpList_load_row rfl 31 (.tmp 4) rfl w.heap.size rfl 31 T (0, 0) _ Y0.out Tryz.underlying31 rfl HI.out ?_)
  refine (wStep h _ _ D0.out).mono ?_; rintro e w1 ⟨rfl, hb1⟩
  have B1 := Lib.hid (B0.out.trans (hb1.mono B0.out.size))
  have D1 := Lib.hid (D0.out.later hb1)
  clear hb1
  go_wp2_with fail
  refine (wSettle h _ D1.out).mono ?_; rintro e w2 ⟨rfl, rfl⟩
  go_wp2_with fail
  refine (wMails h _ D1.out).mono ?_; rintro e w2 ⟨rfl, rfl⟩
  go_wp2_with fail
  go_ret
  exact ⟨rfl, B1.out⟩

set_option maxRecDepth 100000 in
set_option maxHeartbeats 8000000 in
theorem light_c (A1 A2 : Option Addr) (l1 c1 l2 c2 : Nat) (m : Int) (w : World) (g : Nat) (cs : Array Value) (hb : Box w g 29 cs) (h1 : cs[15]? = some (.slice A1 l1 c1)) (h2 : cs[34]? = some (.slice A2 l2 c2)) :
    Calls Tryz.prog 5 #[.slice (some ⟨g, 0, none⟩) 2 2, .int .i64 m] w fun e w' => (∃ b, e = .returned (.bool b)) ∧ Below w.heap.size w w' := by
  have q1 : w.cell? ⟨g, 15, none⟩ = some (.slice A1 l1 c1) := (hb.cell 15).trans h1
  have q2 : w.cell? ⟨g, 34, none⟩ = some (.slice A2 l2 c2) := (hb.cell 34).trans h2
  clear hb h1 h2
  go_enter Tryz.func5, Tryz.ntmps5
  go_wp2_with fail
  go_loopw [5, 6] (fun n i wr => ∃ (k : Nat) (z : Int), k ≤ 2 ∧ n = .int .i64 z ∧ i = .int .i64 (k : Int) ∧ w = wr) (fun _ i _ => 2 - (intOf i).toNat)
  case atStart => exact ⟨0, _, Nat.zero_le _, rfl, rfl, rfl⟩
  case round =>
    obtain ⟨k, z, hk, rfl, rfl, rfl⟩ := hrel
    rcases (show k = 0 ∨ k = 1 ∨ k = 2 by omega) with rfl | rfl | rfl
    · go_wp2_with fail
      go_roundw
      case rel => exact ⟨1, _, by omega, rfl, by go_num, trivial⟩
      case measure => simp [intOf]
    · go_wp2_with fail
      go_roundw
      case rel => exact ⟨2, _, by omega, rfl, by go_num, trivial⟩
      case measure => simp [intOf]
    · go_wp2_with fail
      go_ret
      exact ⟨⟨_, rfl⟩, Below.refl _ _⟩
end Go.Proofs.YtcichnapgdkbhaaGreat

/- The walk of among. -/
import Derived.Test.YteajlfgnhjalnaaDoorH1
namespace Go.Proofs.YteajlfgnhjalnaaDoor
open Go.RowKit

theorem amongB_take {l : List (Int × Int)} {x : Int × Int} {k : Nat} (h : k < l.length) : amongB (l.take (k + 1)) x = (amongB (l.take k) x || ((cth l k).1 == x.1 && (cth l k).2 == x.2)) := by
  unfold amongB
  rw [List.take_succ_eq_append_getElem h, List.any_append, cth_get h]
  simp
theorem amongB_hit {l : List (Int × Int)} {x : Int × Int} {k : Nat} (h : k < l.length) (e : ((cth l k).1 == x.1 && (cth l k).2 == x.2) = true) : amongB l x = true := by
  unfold amongB
  rw [List.any_eq_true]
  exact ⟨_, cth_mem h, e⟩

set_option maxRecDepth 100000 in
set_option maxHeartbeats 1000000 in
theorem among_c (l : List (Int × Int)) (v : Value) (a b : Int) (w : World) (hl : Cels w w.heap.size v l) (hlen : l.length ≤ 1000) :
    Calls Tryd.prog 23 #[v, .agg #[.int .i64 a, .int .i64 b]] w fun e w' => e = .returned (.bool (amongB l (a, b))) ∧ Below w.heap.size w w' := by
  obtain ⟨A, c, rfl, l2, l3⟩ := hl
  have eqc := eqCell
  go_enter Tryd.func23, Tryd.ntmps23
  go_wp2_with fail
  go_loopw [5] (fun i wr => ∃ k : Nat, k ≤ l.length ∧ i = .int .i64 (k : Int) ∧ amongB (l.take k) (a, b) = false ∧ Box wr w.heap.size 41 #[.int .i64 a, .int .i64 b] ∧ Below w.heap.size w wr) (fun i _ => l.length - (intOf i).toNat)
  case atStart => exact ⟨0, Nat.zero_le _, rfl, rfl, Box.made _ _ _, (Below.refl _ _).alloc (Nat.le_refl _) _⟩
  case round =>
    obtain ⟨k, hk, rfl, htk, hbx, hbr⟩ := hrel
    have Htk := Lib.hid htk
    clear htk
    by_cases hlt : k < l.length
    · obtain ⟨bb, off, rfl, hbB, hcc⟩ := l3 (by omega)
      obtain ⟨hx, hy⟩ := hcc k hlt
      have hx := keepd hx hbr hbB
      have hy := keepd hy hbr hbB
      have hsz := hbr.size
      have hi1 : (0 : Int) ≤ (k : Int) := by omega
      have hi2 : (k : Int) < (l.length : Int) := by omega
      have hk96 : k ≤ 1000 := by omega
      have g0 : wr.cell? ⟨w.heap.size, 0, none⟩ = some (.int .i64 a) := hbx.cell 0
      have g1 : wr.cell? ⟨w.heap.size, 1, none⟩ = some (.int .i64 b) := hbx.cell 1
      clear l3 hcc
      have Hs := Lib.hid (amongB_take (x := (a, b)) hlt)
      have Hh := Lib.hid (amongB_hit (x := (a, b)) hlt)
      generalize cth l k = y at *
      obtain ⟨c1, c2⟩ := y
      dsimp only at *
      cases hz : (c1 == a && c2 == b)
      · have hs2 : amongB (l.take (k + 1)) (a, b) = false := by rw [Hs.out, Htk.out, hz]; rfl
        have Hs2 := Lib.hid hs2
        clear hs2
        go_wp2_with fail
        go_quiet (fail)
        rename_i nq
        have hbn : Below w.heap.size w (wr.drewN nq) := ⟨hbr.os, hbr.tape, hbr.output, hbr.size, hbr.block⟩
        have hbx2 := Box.drewN hbx nq
        clear hbr hbx
        go_wp2_with fail
        go_roundw
        case rel => exact ⟨k + 1, by omega, by go_num, Hs2.out, hbx2, hbn⟩
        case measure => simp [intOf]; omega
      · have hs2 : amongB l (a, b) = true := Hh.out hz
        have Hs2 := Lib.hid hs2
        clear hs2
        go_wp2_with fail
        go_quiet (fail)
        rename_i nq
        have hbn : Below w.heap.size w (wr.drewN nq) := ⟨hbr.os, hbr.tape, hbr.output, hbr.size, hbr.block⟩
        clear hbr hbx
        go_wp2_with fail
        go_ret
        exact ⟨ret_bool Hs2.out.symm, hbn⟩
    · obtain rfl : k = l.length := by omega
      have Hs := Lib.hid (show amongB l (a, b) = false by have := Htk.out; rwa [List.take_length] at this)
      clear l3
      go_wp2_with fail
      go_ret
      exact ⟨ret_bool Hs.out.symm, hbr⟩

end Go.Proofs.YteajlfgnhjalnaaDoor

/- The walk of checkCell. -/
import Derived.Test.YtpejcdjgggcjlaaGreatDoorH1
namespace Go.Proofs.YtpejcdjgggcjlaaGreatDoor
open Go.RowKit Go.Shelf Go.Maps Go.Lib
attribute [local go_sem] Oper.semAt_some

/-- what checkCell tells -/
def ckCell (f : Fc) (r c : Int) : Int := if validB f = true then (if InF f (r, c) then 0 else 3) else 10
theorem ckCell_ok {f : Fc} {r c : Int} (h : ckCell f r c = 0) : validB f = true ∧ InF f (r, c) := by
  unfold ckCell at h
  split at h
  · split at h
    · exact ⟨by assumption, by assumption⟩
    · omega
  · omega

set_option maxRecDepth 100000 in
set_option maxHeartbeats 1000000 in
theorem checkCell_c (f : Fc) (v : Value) (r c : Int) (w : World) (h : IsFace w w.heap.size v f) :
    Calls Tryz.prog 47 #[v, .agg #[.int .i64 r, .int .i64 c]] w fun e w' => e = .returned (.int .i64 (ckCell f r c)) ∧ Below w.heap.size w w' := by
  have hF := h
  obtain ⟨s, rfl, hlen, A, cp, rfl, hcap, hcell⟩ := h
  clear hcell
  have hb0 : Below w.heap.size w ((w.alloc (.cells #[.int .i64 f.eye, .int .i64 f.rings, .int .i64 f.sectors, .slice A f.kinds.length cp] 24)).alloc (.cells #[.int .i64 r, .int .i64 c] 26)) := ((Below.refl _ _).alloc (Nat.le_refl _) _).alloc (by simp) _
  have b0 := (Box.made w 24 #[.int .i64 f.eye, .int .i64 f.rings, .int .i64 f.sectors, .slice A f.kinds.length cp]).alloc (.cells #[.int .i64 r, .int .i64 c] 26)
  have b1 := Box.made (w.alloc (.cells #[.int .i64 f.eye, .int .i64 f.rings, .int .i64 f.sectors, .slice A f.kinds.length cp] 24)) 26 #[.int .i64 r, .int .i64 c]
  rw [World.size_alloc] at b1
  cases hv : validB f
  · have He := Lib.hid (show ckCell f r c = 10 by simp [ckCell, hv])
    go_enter Tryz.func47, Tryz.ntmps47
    go_wp2_with fail
    refine (Valid_c f _ _ ((hF.box _).box _)).mono ?_; rintro e w1 ⟨rfl, hb⟩
    rw [hv]
    go_wp2_with fail
    go_ret
    exact ⟨ret_int He.out.symm, chain hb0 hb⟩
  by_cases t1 : r < 0
  · have d1 : decide (r < 0) = true := by simpa using t1
    have He := Lib.hid (show ckCell f r c = 3 by simp only [ckCell, hv, if_true]; rw [if_neg]; rintro ⟨x1, -, -, -⟩; dsimp only at x1; omega)
    go_enter Tryz.func47, Tryz.ntmps47
    go_wp2_with fail
    refine (Valid_c f _ _ ((hF.box _).box _)).mono ?_; rintro e w1 ⟨rfl, hb⟩
    rw [hv]
    have hbw := chain hb0 hb
    have g1 : w1.cell? ⟨w.heap.size, 1, none⟩ = some (.int .i64 f.rings) := (b0.later hb).cell 1
    have g2 : w1.cell? ⟨w.heap.size, 2, none⟩ = some (.int .i64 f.sectors) := (b0.later hb).cell 2
    have g3 : w1.cell? ⟨w.heap.size + 1, 0, none⟩ = some (.int .i64 r) := (b1.later hb).cell 0
    have g4 : w1.cell? ⟨w.heap.size + 1, 1, none⟩ = some (.int .i64 c) := (b1.later hb).cell 1
    clear b0 b1 hb0 hb
    go_wp2_with fail
    go_ret
    exact ⟨ret_int He.out.symm, hbw⟩
  have d1 : decide (r < 0) = false := by simpa using t1
  by_cases t2 : f.rings ≤ r
  · have d2 : decide (f.rings ≤ r) = true := by simpa using t2
    have He := Lib.hid (show ckCell f r c = 3 by simp only [ckCell, hv, if_true]; rw [if_neg]; rintro ⟨-, x1, -, -⟩; dsimp only at x1; omega)
    go_enter Tryz.func47, Tryz.ntmps47
    go_wp2_with fail
    refine (Valid_c f _ _ ((hF.box _).box _)).mono ?_; rintro e w1 ⟨rfl, hb⟩
    rw [hv]
    have hbw := chain hb0 hb
    have g1 : w1.cell? ⟨w.heap.size, 1, none⟩ = some (.int .i64 f.rings) := (b0.later hb).cell 1
    have g2 : w1.cell? ⟨w.heap.size, 2, none⟩ = some (.int .i64 f.sectors) := (b0.later hb).cell 2
    have g3 : w1.cell? ⟨w.heap.size + 1, 0, none⟩ = some (.int .i64 r) := (b1.later hb).cell 0
    have g4 : w1.cell? ⟨w.heap.size + 1, 1, none⟩ = some (.int .i64 c) := (b1.later hb).cell 1
    clear b0 b1 hb0 hb
    go_wp2_with fail
    go_ret
    exact ⟨ret_int He.out.symm, hbw⟩
  have d2 : decide (f.rings ≤ r) = false := by simpa using t2
  by_cases t3 : c < 0
  · have d3 : decide (c < 0) = true := by simpa using t3
    have He := Lib.hid (show ckCell f r c = 3 by simp only [ckCell, hv, if_true]; rw [if_neg]; rintro ⟨-, -, x1, -⟩; dsimp only at x1; omega)
    go_enter Tryz.func47, Tryz.ntmps47
    go_wp2_with fail
    refine (Valid_c f _ _ ((hF.box _).box _)).mono ?_; rintro e w1 ⟨rfl, hb⟩
    rw [hv]
    have hbw := chain hb0 hb
    have g1 : w1.cell? ⟨w.heap.size, 1, none⟩ = some (.int .i64 f.rings) := (b0.later hb).cell 1
    have g2 : w1.cell? ⟨w.heap.size, 2, none⟩ = some (.int .i64 f.sectors) := (b0.later hb).cell 2
    have g3 : w1.cell? ⟨w.heap.size + 1, 0, none⟩ = some (.int .i64 r) := (b1.later hb).cell 0
    have g4 : w1.cell? ⟨w.heap.size + 1, 1, none⟩ = some (.int .i64 c) := (b1.later hb).cell 1
    clear b0 b1 hb0 hb
    go_wp2_with fail
    go_ret
    exact ⟨ret_int He.out.symm, hbw⟩
  have d3 : decide (c < 0) = false := by simpa using t3
  by_cases t4 : f.sectors ≤ c
  · have d4 : decide (f.sectors ≤ c) = true := by simpa using t4
    have He := Lib.hid (show ckCell f r c = 3 by simp only [ckCell, hv, if_true]; rw [if_neg]; rintro ⟨-, -, -, x1⟩; dsimp only at x1; omega)
    go_enter Tryz.func47, Tryz.ntmps47
    go_wp2_with fail
    refine (Valid_c f _ _ ((hF.box _).box _)).mono ?_; rintro e w1 ⟨rfl, hb⟩
    rw [hv]
    have hbw := chain hb0 hb
    have g1 : w1.cell? ⟨w.heap.size, 1, none⟩ = some (.int .i64 f.rings) := (b0.later hb).cell 1
    have g2 : w1.cell? ⟨w.heap.size, 2, none⟩ = some (.int .i64 f.sectors) := (b0.later hb).cell 2
    have g3 : w1.cell? ⟨w.heap.size + 1, 0, none⟩ = some (.int .i64 r) := (b1.later hb).cell 0
    have g4 : w1.cell? ⟨w.heap.size + 1, 1, none⟩ = some (.int .i64 c) := (b1.later hb).cell 1
    clear b0 b1 hb0 hb
    go_wp2_with fail
    go_ret
    exact ⟨ret_int He.out.symm, hbw⟩
  have d4 : decide (f.sectors ≤ c) = false := by simpa using t4
  have He := Lib.hid (show ckCell f r c = 0 by simp only [ckCell, hv, if_true]; rw [if_pos]; exact ⟨by dsimp only; omega, by dsimp only; omega, by dsimp only; omega, by dsimp only; omega⟩)
  go_enter Tryz.func47, Tryz.ntmps47
  go_wp2_with fail
  refine (Valid_c f _ _ ((hF.box _).box _)).mono ?_; rintro e w1 ⟨rfl, hb⟩
  rw [hv]
  have hbw := chain hb0 hb
  have g1 : w1.cell? ⟨w.heap.size, 1, none⟩ = some (.int .i64 f.rings) := (b0.later hb).cell 1
  have g2 : w1.cell? ⟨w.heap.size, 2, none⟩ = some (.int .i64 f.sectors) := (b0.later hb).cell 2
  have g3 : w1.cell? ⟨w.heap.size + 1, 0, none⟩ = some (.int .i64 r) := (b1.later hb).cell 0
  have g4 : w1.cell? ⟨w.heap.size + 1, 1, none⟩ = some (.int .i64 c) := (b1.later hb).cell 1
  clear b0 b1 hb0 hb
  go_wp2_with fail
  go_ret
  exact ⟨ret_int He.out.symm, hbw⟩

end Go.Proofs.YtpejcdjgggcjlaaGreatDoor

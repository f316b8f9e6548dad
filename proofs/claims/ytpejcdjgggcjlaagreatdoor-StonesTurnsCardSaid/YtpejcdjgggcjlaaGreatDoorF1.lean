/- The walks of Mirror and short. -/
import Derived.Test.YtpejcdjgggcjlaaGreatDoorA7
import Derived.Test.YtpejcdjgggcjlaaGreatDoorD1
namespace Go.Proofs.YtpejcdjgggcjlaaGreatDoor
open Go.RowKit

/-- the face as it is seen from below -/
def mirF (f : Fc) : Fc := { eye := f.eye, rings := f.rings, sectors := f.sectors, kinds := redL f f.sectors.toNat (fun i => f.sectors - 1 - i) (f.rings.toNat * f.sectors.toNat) }
theorem mirF_eye (f : Fc) : (mirF f).eye = f.eye := rfl
theorem mirF_rings (f : Fc) : (mirF f).rings = f.rings := rfl
theorem mirF_sectors (f : Fc) : (mirF f).sectors = f.sectors := rfl
attribute [go_sem] mirF_eye mirF_rings mirF_sectors

set_option maxRecDepth 100000 in
set_option maxHeartbeats 800000 in
theorem Mirror_c (f : Fc) (v : Value) (w : World) (h : IsFace w w.heap.size v f) :
    Calls Tryz.prog 30 #[v] w (RetFaceE w (if validB f = true then mirF f else zF) (if validB f = true then 0 else 10)) := by
  have hF := h
  obtain ⟨s, rfl, hlen, A, cp, rfl, hcap, hcell⟩ := h
  clear hcell
  have hr := resBox w (.cells #[.int .i64 f.eye, .int .i64 f.rings, .int .i64 f.sectors, .slice A f.kinds.length cp] 24)
  cases hv : validB f
  · go_enter Tryz.func30, Tryz.ntmps30
    go_wp2_with fail
    refine (Valid_c f _ _ ((hF.box _).box _)).mono ?_; rintro e w1 ⟨rfl, hb⟩
    have hbx := hr.later hb
    have hbw : Below w.heap.size w w1 := boxed (boxed hb)
    have h0 : w1.cell? ⟨w.heap.size + 1, 0, none⟩ = some (.int .i64 0) := hbx.cell 0
    have hf0 := hbx.free 0
    have h1 : w1.cell? ⟨w.heap.size + 1, 1, none⟩ = some (.int .i64 0) := hbx.cell 1
    have hf1 := hbx.free 1
    have h2 : w1.cell? ⟨w.heap.size + 1, 2, none⟩ = some (.int .i64 0) := hbx.cell 2
    have hf2 := hbx.free 2
    have h3 : w1.cell? ⟨w.heap.size + 1, 3, none⟩ = some (.slice none 0 0) := hbx.cell 3
    have hf3 := hbx.free 3
    clear hb
    go_wp2_with fail
    exact endPutE (G := zF) (lo := w.heap.size + 2) Tryz.results30 rfl rfl hbx (zF_ints _ _ _) (NewS.none_ _ _ _) (by omega) (by omega) hbw
  · go_enter Tryz.func30, Tryz.ntmps30
    go_wp2_with fail
    refine (Valid_c f _ _ ((hF.box _).box _)).mono ?_; rintro e w1 ⟨rfl, hb⟩
    have hbx := hr.later hb
    have hbw : Below w.heap.size w w1 := boxed (boxed hb)
    have hb0 := (faceBox w f (.slice A f.kinds.length cp) (.cells #[.int .i64 0, .int .i64 0, .int .i64 0, .slice none 0 0] 24)).later hb
    have k0 : w1.cell? ⟨w.heap.size, 0, none⟩ = some (.int .i64 f.eye) := hb0.cell 0
    have k1 : w1.cell? ⟨w.heap.size, 1, none⟩ = some (.int .i64 f.rings) := hb0.cell 1
    have k2 : w1.cell? ⟨w.heap.size, 2, none⟩ = some (.int .i64 f.sectors) := hb0.cell 2
    have k3 : w1.cell? ⟨w.heap.size, 3, none⟩ = some (.slice A f.kinds.length cp) := hb0.cell 3
    clear hb
    go_wp2_with fail
    refine (redrawnM f _ w.heap.size w1 (hF.mono hbw hbw.size) hv (by have := hbx.lt; omega) k2).mono ?_; rintro e w2 ⟨A2, n2, c2, rfl, hI, hN, hb2⟩
    have hbx2 := hbx.later hb2
    have hbw2 := hbw.trans (hb2.mono hbw.size)
    have hs1 := hbx.lt
    clear k0 k1 k2 k3
    have h0 : w2.cell? ⟨w.heap.size + 1, 0, none⟩ = some (.int .i64 0) := hbx2.cell 0
    have hf0 := hbx2.free 0
    have h1 : w2.cell? ⟨w.heap.size + 1, 1, none⟩ = some (.int .i64 0) := hbx2.cell 1
    have hf1 := hbx2.free 1
    have h2 : w2.cell? ⟨w.heap.size + 1, 2, none⟩ = some (.int .i64 0) := hbx2.cell 2
    have hf2 := hbx2.free 2
    have h3 : w2.cell? ⟨w.heap.size + 1, 3, none⟩ = some (.slice none 0 0) := hbx2.cell 3
    have hf3 := hbx2.free 3
    clear hb2
    go_wp2_with fail
    exact endPutE (G := mirF f) Tryz.results30 rfl rfl hbx2 hI hN hs1 (by omega) hbw2

theorem short_c (f : Fc) (v : Value) (w : World) (h : IsFace w w.heap.size v f) :
    Calls Tryz.prog 8 #[v] w fun e w' => e = .returned (.bool (decide (f.kinds.length ≤ 3000))) ∧ Below w.heap.size w w' := by
  obtain ⟨s, rfl, hlen, A, cp, rfl, hcap, hcell⟩ := h
  clear hcell
  go_enter Tryz.func8, Tryz.ntmps8
  go_wp2_with fail
  go_ret
  refine ⟨ret_bool ?_, (Below.refl _ _).alloc (Nat.le_refl _) _⟩
  rw [Bool.eq_iff_iff, decide_eq_true_iff, decide_eq_true_iff]
  omega

end Go.Proofs.YtpejcdjgggcjlaaGreatDoor

/- The walks of Turn and Normal. -/
import Derived.Test.YtpejcdjgggcjlaaGreatDoorA5
import Derived.Test.YtpejcdjgggcjlaaGreatDoorA6
namespace Go.Proofs.YtpejcdjgggcjlaaGreatDoor
open Go.RowKit

/-- no face -/
def zF : Fc := { eye := 0, rings := 0, sectors := 0, kinds := [] }
theorem zF_ints (w : World) (B c : Nat) : Ints w B (.slice none 0 c) zF.kinds := ⟨by simp [zF], none, c, rfl, Nat.zero_le _, fun h => by simp [zF] at h⟩

set_option maxRecDepth 100000 in
set_option maxHeartbeats 800000 in
theorem Turn_c (f : Fc) (v : Value) (by_ : Int) (w : World) (h : IsFace w w.heap.size v f) :
    Calls Tryz.prog 28 #[v, .int .i64 by_] w (RetFaceE w (if validB f = true then turnF f by_ else zF) (if validB f = true then 0 else 10)) := by
  have hF := h
  obtain ⟨s, rfl, hlen, A, cp, rfl, hcap, hcell⟩ := h
  clear hcell
  have hr := resBox w (.cells #[.int .i64 f.eye, .int .i64 f.rings, .int .i64 f.sectors, .slice A f.kinds.length cp] 24)
  cases hv : validB f
  · go_enter Tryz.func28, Tryz.ntmps28
    go_wp2_with fail
    refine (Valid_c f _ _ ((hF.box _).box _)).mono ?_; rintro e w1 ⟨rfl, hb⟩
    have hbx := hr.later hb
    have hbw : Below w.heap.size w w1 := boxed (boxed hb)
    have h0 : w1.cell? ⟨w.heap.size + 1, 0, none⟩ = some (.int .i64 0) := hbx.cell 0
    have hf0 := hbx.free 0
    have h1 : w1.cell? ⟨w.heap.size + 1, 1, none⟩ = some (.int .i64 0) := hbx.cell 1
    have hf1 := hbx.free 1
    have h2 : w1.cell? ⟨w.heap.size + 1, 2, none⟩ = some (.int .i64 0) := hbx.cell 2
    have hf2 := hbx.free 2
    have h3 : w1.cell? ⟨w.heap.size + 1, 3, none⟩ = some (.slice none 0 0) := hbx.cell 3
    have hf3 := hbx.free 3
    clear hb
    go_wp2_with fail
    exact endPutE (G := zF) (lo := w.heap.size + 2) Tryz.results28 rfl rfl hbx (zF_ints _ _ _) (NewS.none_ _ _ _) (by omega) (by omega) hbw
  · have hv2 : (validB f) = true := hv
    go_enter Tryz.func28, Tryz.ntmps28
    go_wp2_with fail
    refine (Valid_c f _ _ ((hF.box _).box _)).mono ?_; rintro e w1 ⟨rfl, hb⟩
    have hbx := hr.later hb
    have hbw : Below w.heap.size w w1 := boxed (boxed hb)
    have hb0 := (faceBox w f (.slice A f.kinds.length cp) (.cells #[.int .i64 0, .int .i64 0, .int .i64 0, .slice none 0 0] 24)).later hb
    have k0 : w1.cell? ⟨w.heap.size, 0, none⟩ = some (.int .i64 f.eye) := hb0.cell 0
    have k1 : w1.cell? ⟨w.heap.size, 1, none⟩ = some (.int .i64 f.rings) := hb0.cell 1
    have k2 : w1.cell? ⟨w.heap.size, 2, none⟩ = some (.int .i64 f.sectors) := hb0.cell 2
    have k3 : w1.cell? ⟨w.heap.size, 3, none⟩ = some (.slice A f.kinds.length cp) := hb0.cell 3
    clear hb
    go_wp2_with fail
    refine (turned_c f _ _ _ (hF.mono hbw hbw.size) hv).mono ?_; rintro e w2 ⟨A2, n2, c2, rfl, hI, hN, hb2⟩
    have hbx2 := hbx.later hb2
    have hbw2 := hbw.trans (hb2.mono hbw.size)
    have hs1 := hbx.lt
    clear k0 k1 k2 k3
    have h0 : w2.cell? ⟨w.heap.size + 1, 0, none⟩ = some (.int .i64 0) := hbx2.cell 0
    have hf0 := hbx2.free 0
    have h1 : w2.cell? ⟨w.heap.size + 1, 1, none⟩ = some (.int .i64 0) := hbx2.cell 1
    have hf1 := hbx2.free 1
    have h2 : w2.cell? ⟨w.heap.size + 1, 2, none⟩ = some (.int .i64 0) := hbx2.cell 2
    have hf2 := hbx2.free 2
    have h3 : w2.cell? ⟨w.heap.size + 1, 3, none⟩ = some (.slice none 0 0) := hbx2.cell 3
    have hf3 := hbx2.free 3
    clear hb2
    go_wp2_with fail
    exact endPutE (G := turnF f by_) Tryz.results28 rfl rfl hbx2 hI hN hs1 (by omega) hbw2

end Go.Proofs.YtpejcdjgggcjlaaGreatDoor

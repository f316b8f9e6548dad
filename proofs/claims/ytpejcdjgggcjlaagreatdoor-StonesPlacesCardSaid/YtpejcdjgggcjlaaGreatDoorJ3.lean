/- StonesAreas: the walk. -/
import Derived.Test.YtpejcdjgggcjlaaGreatDoorJ2a
import Derived.Test.YtpejcdjgggcjlaaGreatDoorE1
import Derived.Test.YtpejcdjgggcjlaaGreatDoorF1
namespace Go.Proofs.YtpejcdjgggcjlaaGreatDoor
open Go.RowKit

/-- a face and what is asked of it in their boxes -/
structure LkSt (w wr : World) (f : Fc) (s : Value) (r c i k n : Int) : Prop where
  b0 : Box wr w.heap.size 24 #[.int .i64 f.eye, .int .i64 f.rings, .int .i64 f.sectors, s]
  b1 : Box wr (w.heap.size + 1) 28 #[.int .i64 r, .int .i64 c, .int .i64 i, .int .i64 k, .int .i64 n]
  bel : Below w.heap.size w wr
theorem LkSt.later {w wr W : World} {f : Fc} {s : Value} {r c i k n : Int} (h : LkSt w wr f s r c i k n) (hb : Below wr.heap.size wr W) : LkSt w W f s r c i k n :=
  ⟨h.b0.later hb, h.b1.later hb, chain h.bel hb⟩

set_option maxRecDepth 100000 in
set_option maxHeartbeats 4000000 in
theorem StonesAreas_c (f : Fc) (v : Value) (r c i k n : Int) (w : World) (hf : IsFace w w.heap.size v f) (hml : ML w) :
    Calls Tryz.prog 4 #[v, .agg #[.int .i64 r, .int .i64 c, .int .i64 i, .int .i64 k, .int .i64 n]] w fun e w' => e = .returned (.bool true) ∧ Below w.heap.size w w' := by
  have hF := hf
  obtain ⟨s, rfl, hlen, A, cp, rfl, hcap, hcell⟩ := hf
  clear hcell
  have h0 : LkSt w ((w.alloc (.cells #[.int .i64 f.eye, .int .i64 f.rings, .int .i64 f.sectors, .slice A f.kinds.length cp] 24)).alloc (.cells #[.int .i64 r, .int .i64 c, .int .i64 i, .int .i64 k, .int .i64 n] 28)) f (.slice A f.kinds.length cp) r c i k n := by
    have b1 := Box.made (w.alloc (.cells #[.int .i64 f.eye, .int .i64 f.rings, .int .i64 f.sectors, .slice A f.kinds.length cp] 24)) 28 #[.int .i64 r, .int .i64 c, .int .i64 i, .int .i64 k, .int .i64 n]
    rw [World.size_alloc] at b1
    exact ⟨faceBox w f _ _, b1, ((Below.refl _ _).alloc (Nat.le_refl _) _).alloc (by simp) _⟩
  have hml2 := hml.later h0.bel
  clear hml
  go_enter Tryz.func4, Tryz.ntmps4
  go_wp2_with fail
  refine (awake_c _ hml2).mono ?_; rintro e w1 ⟨rfl, hb1⟩
  have h1 := h0.later hb1
  clear h0 hb1 hml2
  have k0 : w1.cell? ⟨w.heap.size, 0, none⟩ = some (.int .i64 f.eye) := h1.b0.cell 0
  have k1 : w1.cell? ⟨w.heap.size, 1, none⟩ = some (.int .i64 f.rings) := h1.b0.cell 1
  have k2 : w1.cell? ⟨w.heap.size, 2, none⟩ = some (.int .i64 f.sectors) := h1.b0.cell 2
  have k3 : w1.cell? ⟨w.heap.size, 3, none⟩ = some (.slice A f.kinds.length cp) := h1.b0.cell 3
  go_wp2_with fail
  refine (short_c f _ w1 (hF.mono h1.bel h1.bel.size)).mono ?_; rintro e w2 ⟨rfl, hb2⟩
  have h2 := h1.later hb2
  clear k0 k1 k2 k3 hb2 h1
  cases hsh : decide (f.kinds.length ≤ 3000)
  · go_wp2_with fail
    go_ret
    exact ⟨rfl, h2.bel⟩
  clear hsh
  have k0 : w2.cell? ⟨w.heap.size, 0, none⟩ = some (.int .i64 f.eye) := h2.b0.cell 0
  have k1 : w2.cell? ⟨w.heap.size, 1, none⟩ = some (.int .i64 f.rings) := h2.b0.cell 1
  have k2 : w2.cell? ⟨w.heap.size, 2, none⟩ = some (.int .i64 f.sectors) := h2.b0.cell 2
  have k3 : w2.cell? ⟨w.heap.size, 3, none⟩ = some (.slice A f.kinds.length cp) := h2.b0.cell 3
  have k4 : w2.cell? ⟨w.heap.size + 1, 4, none⟩ = some (.int .i64 n) := h2.b1.cell 4
  go_wp2_with fail
  refine (Weight_c f _ n w2 (hF.mono h2.bel h2.bel.size)).mono ?_; rintro e w3 ⟨rfl, hb3⟩
  have h3 := h2.later hb3
  clear k0 k1 k2 k3 k4 hb3 h2
  have k0 : w3.cell? ⟨w.heap.size, 0, none⟩ = some (.int .i64 f.eye) := h3.b0.cell 0
  have k1 : w3.cell? ⟨w.heap.size, 1, none⟩ = some (.int .i64 f.rings) := h3.b0.cell 1
  have k2 : w3.cell? ⟨w.heap.size, 2, none⟩ = some (.int .i64 f.sectors) := h3.b0.cell 2
  have k3 : w3.cell? ⟨w.heap.size, 3, none⟩ = some (.slice A f.kinds.length cp) := h3.b0.cell 3
  have k4 : w3.cell? ⟨w.heap.size + 1, 4, none⟩ = some (.int .i64 n) := h3.b1.cell 4
  go_wp2_with fail
  refine (rWeight_c f _ n w3 (hF.mono h3.bel h3.bel.size)).mono ?_; rintro e w4 ⟨rfl, hb4⟩
  have h4 := h3.later hb4
  clear k0 k1 k2 k3 k4 hb4 h3
  have k0 : w4.cell? ⟨w.heap.size, 0, none⟩ = some (.int .i64 f.eye) := h4.b0.cell 0
  have k1 : w4.cell? ⟨w.heap.size, 1, none⟩ = some (.int .i64 f.rings) := h4.b0.cell 1
  have k2 : w4.cell? ⟨w.heap.size, 2, none⟩ = some (.int .i64 f.sectors) := h4.b0.cell 2
  have k3 : w4.cell? ⟨w.heap.size, 3, none⟩ = some (.slice A f.kinds.length cp) := h4.b0.cell 3
  have k4 : w4.cell? ⟨w.heap.size + 1, 3, none⟩ = some (.int .i64 k) := h4.b1.cell 3
  go_wp2_with fail
  refine (Area_c f _ k w4 (hF.mono h4.bel h4.bel.size)).mono ?_; rintro e w5 ⟨rfl, hb5⟩
  have h5 := h4.later hb5
  clear k0 k1 k2 k3 k4 hb5 h4
  have k0 : w5.cell? ⟨w.heap.size, 0, none⟩ = some (.int .i64 f.eye) := h5.b0.cell 0
  have k1 : w5.cell? ⟨w.heap.size, 1, none⟩ = some (.int .i64 f.rings) := h5.b0.cell 1
  have k2 : w5.cell? ⟨w.heap.size, 2, none⟩ = some (.int .i64 f.sectors) := h5.b0.cell 2
  have k3 : w5.cell? ⟨w.heap.size, 3, none⟩ = some (.slice A f.kinds.length cp) := h5.b0.cell 3
  have k4 : w5.cell? ⟨w.heap.size + 1, 3, none⟩ = some (.int .i64 k) := h5.b1.cell 3
  go_wp2_with fail
  refine (rArea_c f _ k w5 (hF.mono h5.bel h5.bel.size)).mono ?_; rintro e w6 ⟨rfl, hb6⟩
  have h6 := h5.later hb6
  clear k0 k1 k2 k3 k4 hb6 h5
  have e1 : (weightOf f n == weightOf f n) = true := by simp
  have e2 : (ckRing f n == ckRing f n) = true := by simp
  have e3 : (areaOf f k == areaOf f k) = true := by simp
  have e4 : (ckKind f k == ckKind f k) = true := by simp
  go_wp2_with fail
  go_ret
  exact ⟨ret_bool (by simp), h6.bel⟩

end Go.Proofs.YtpejcdjgggcjlaaGreatDoor

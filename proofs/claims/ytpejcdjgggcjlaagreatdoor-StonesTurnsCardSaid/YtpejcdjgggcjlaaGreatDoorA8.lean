/- The walk of Normal. -/
import Derived.Test.YtpejcdjgggcjlaaGreatDoorA7
namespace Go.Proofs.YtpejcdjgggcjlaaGreatDoor
open Go.RowKit

/-- the least kinds of the first turns -/
def bestTo (f : Fc) : Nat → List Int
  | 0 => (turnF f 0).kinds
  | k + 1 => if cmpL (turnF f ((k : Int) + 1)).kinds (bestTo f k) < 0 then (turnF f ((k : Int) + 1)).kinds else bestTo f k
/-- the normal form -/
def normF (f : Fc) : Fc := { eye := f.eye, rings := f.rings, sectors := f.sectors, kinds := bestTo f (f.sectors.toNat - 1) }

/-- what memory looks like while the least turn is looked for -/
structure NormSt (w wr : World) (f : Fc) (s0 : Value) (g0 : Nat) (L : List Int) (s : Value) : Prop where
  b0 : Box wr w.heap.size 24 #[.int .i64 f.eye, .int .i64 f.rings, .int .i64 f.sectors, s0]
  b1 : Box wr (w.heap.size + 1) 24 #[.int .i64 0, .int .i64 0, .int .i64 0, .slice none 0 0]
  b2 : Box wr g0 24 #[.int .i64 f.eye, .int .i64 f.rings, .int .i64 f.sectors, s]
  hg : w.heap.size + 1 < g0
  hi : Ints wr wr.heap.size s L
  hn : NewS (w.heap.size + 2) s
  bel : Below w.heap.size w wr
theorem cmpL_neg {l r : List Int} : (cmpL l r < 0) = (decide (cmpL l r < 0) = true) := by simp

set_option maxRecDepth 100000 in
set_option maxHeartbeats 1600000 in
theorem Normal_c (f : Fc) (v : Value) (w : World) (h : IsFace w w.heap.size v f) :
    Calls Tryz.prog 32 #[v] w (RetFaceE w (if validB f = true then normF f else zF) (if validB f = true then 0 else 10)) := by
  have hF := h
  obtain ⟨s, rfl, hlen, A, cp, rfl, hcap, hcell⟩ := h
  clear hcell
  have hr := resBox w (.cells #[.int .i64 f.eye, .int .i64 f.rings, .int .i64 f.sectors, .slice A f.kinds.length cp] 24)
  cases hv : validB f
  · go_enter Tryz.func32, Tryz.ntmps32
    go_wp2_with fail
    refine (Valid_c f _ _ ((hF.box _).box _)).mono ?_; rintro e w1 ⟨rfl, hb⟩
    have hbx := hr.later hb
    have hbw : Below w.heap.size w w1 := boxed (boxed hb)
    have h0 : w1.cell? ⟨w.heap.size + 1, 0, none⟩ = some (.int .i64 0) := hbx.cell 0
    have hf0 := hbx.free 0
    have h1 : w1.cell? ⟨w.heap.size + 1, 1, none⟩ = some (.int .i64 0) := hbx.cell 1
    have hf1 := hbx.free 1
    have h2 : w1.cell? ⟨w.heap.size + 1, 2, none⟩ = some (.int .i64 0) := hbx.cell 2
    have hf2 := hbx.free 2
    have h3 : w1.cell? ⟨w.heap.size + 1, 3, none⟩ = some (.slice none 0 0) := hbx.cell 3
    have hf3 := hbx.free 3
    clear hb
    go_wp2_with fail
    exact endPutE (G := zF) (lo := w.heap.size + 2) Tryz.results32 rfl rfl hbx (zF_ints _ _ _) (NewS.none_ _ _ _) (by omega) (by omega) hbw
  · obtain ⟨⟨⟨a1, a2⟩, ⟨a3, a4⟩, a5, a6⟩, -, -⟩ := validB_iff.1 hv
    go_enter Tryz.func32, Tryz.ntmps32
    go_wp2_with fail
    refine (Valid_c f _ _ ((hF.box _).box _)).mono ?_; rintro e w1 ⟨rfl, hb⟩
    have hbx := hr.later hb
    have hbw : Below w.heap.size w w1 := boxed (boxed hb)
    have hb0 := (faceBox w f (.slice A f.kinds.length cp) (.cells #[.int .i64 0, .int .i64 0, .int .i64 0, .slice none 0 0] 24)).later hb
    have k0 : w1.cell? ⟨w.heap.size, 0, none⟩ = some (.int .i64 f.eye) := hb0.cell 0
    have k1 : w1.cell? ⟨w.heap.size, 1, none⟩ = some (.int .i64 f.rings) := hb0.cell 1
    have k2 : w1.cell? ⟨w.heap.size, 2, none⟩ = some (.int .i64 f.sectors) := hb0.cell 2
    have k3 : w1.cell? ⟨w.heap.size, 3, none⟩ = some (.slice A f.kinds.length cp) := hb0.cell 3
    clear hb
    go_wp2_with fail
    refine (turned_c f _ _ _ (hF.mono hbw hbw.size) hv).mono ?_; rintro e w2 ⟨A2, n2, c2, rfl, hI, hN, hb2⟩
    have hbx2 := hbx.later hb2
    have hb02 := hb0.later hb2
    have hbw2 := hbw.trans (hb2.mono hbw.size)
    have hs1 := hbx.lt
    clear k0 k1 k2 k3 hb2
    go_wp2_with fail
    obtain ⟨W, hW⟩ : ∃ W : World, W = w2.alloc (.cells #[.int .i64 f.eye, .int .i64 f.rings, .int .i64 f.sectors, .slice A2 n2 c2] 24) := ⟨_, rfl⟩
    have hst : NormSt w W f (.slice A f.kinds.length cp) w2.heap.size (bestTo f 0) (.slice A2 n2 c2) := by
      subst hW
      have hl2 := hbx2.lt
      exact ⟨hb02.alloc _, hbx2.alloc _, Box.made _ _ _, hl2, hI.box _, hN.mono hs1, hbw2.alloc hbw2.size _⟩
    have hg0 : w2.heap.size < w2.heap.size + 1 := by omega
    generalize w2.heap.size = g0 at *
    subst hW
    go_loopw [5] (fun i wr => ∃ (k : Nat) (s : Value), (k : Int) + 1 ≤ f.sectors ∧ i = .int .i64 ((k : Int) + 1) ∧ NormSt w wr f (.slice A f.kinds.length cp) g0 (bestTo f k) s) (fun i _ => f.sectors.toNat - (intOf i).toNat)
    case atStart => exact ⟨0, _, by omega, rfl, hst⟩
    case round =>
      clear hst
      obtain ⟨k, s, hk, rfl, hst⟩ := hrel
      have k0 : wr.cell? ⟨w.heap.size, 0, none⟩ = some (.int .i64 f.eye) := hst.b0.cell 0
      have k1 : wr.cell? ⟨w.heap.size, 1, none⟩ = some (.int .i64 f.rings) := hst.b0.cell 1
      have k2 : wr.cell? ⟨w.heap.size, 2, none⟩ = some (.int .i64 f.sectors) := hst.b0.cell 2
      have k3 : wr.cell? ⟨w.heap.size, 3, none⟩ = some (.slice A f.kinds.length cp) := hst.b0.cell 3
      by_cases hlt : (k : Int) + 1 < f.sectors
      · go_wp2_with fail
        refine (turned_c f _ _ _ (hF.mono hst.bel hst.bel.size) hv).mono ?_; rintro e w3 ⟨A3, n3, c3, rfl, hI3, hN3, hb3⟩
        have e0 := hst.b0.later hb3
        have e1 := hst.b1.later hb3
        have e2 := hst.b2.later hb3
        have ei := hst.hi.mono hb3 hb3.size
        have ebel := hst.bel.trans (hb3.mono hst.bel.size)
        have hl2 := hst.b2.lt
        obtain ⟨N, hN4⟩ : ∃ N : Obj, N = .cells #[.int .i64 f.eye, .int .i64 f.rings, .int .i64 f.sectors, .slice A3 n3 c3] 24 := ⟨_, rfl⟩
        have q0 : (w3.alloc (.cells #[.int .i64 f.eye, .int .i64 f.rings, .int .i64 f.sectors, .slice A3 n3 c3] 24)).cell? ⟨g0, 0, none⟩ = some (.int .i64 f.eye) := (e2.alloc _).cell 0
        have q1 : (w3.alloc (.cells #[.int .i64 f.eye, .int .i64 f.rings, .int .i64 f.sectors, .slice A3 n3 c3] 24)).cell? ⟨g0, 1, none⟩ = some (.int .i64 f.rings) := (e2.alloc _).cell 1
        have q2 : (w3.alloc (.cells #[.int .i64 f.eye, .int .i64 f.rings, .int .i64 f.sectors, .slice A3 n3 c3] 24)).cell? ⟨g0, 2, none⟩ = some (.int .i64 f.sectors) := (e2.alloc _).cell 2
        have q3 : (w3.alloc (.cells #[.int .i64 f.eye, .int .i64 f.rings, .int .i64 f.sectors, .slice A3 n3 c3] 24)).cell? ⟨g0, 3, none⟩ = some s := (e2.alloc _).cell 3
        have z0 := (e2.alloc (.cells #[.int .i64 f.eye, .int .i64 f.rings, .int .i64 f.sectors, .slice A3 n3 c3] 24)).free 0
        have z1 := (e2.alloc (.cells #[.int .i64 f.eye, .int .i64 f.rings, .int .i64 f.sectors, .slice A3 n3 c3] 24)).free 1
        have z2 := (e2.alloc (.cells #[.int .i64 f.eye, .int .i64 f.rings, .int .i64 f.sectors, .slice A3 n3 c3] 24)).free 2
        have z3 := (e2.alloc (.cells #[.int .i64 f.eye, .int .i64 f.rings, .int .i64 f.sectors, .slice A3 n3 c3] 24)).free 3
        clear hN4 N
        by_cases hcm : cmpL (turnF f ((k : Int) + 1)).kinds (bestTo f k) < 0
        · have Hb := Lib.hid (show bestTo f (k + 1) = (turnF f ((k : Int) + 1)).kinds by rw [bestTo, if_pos hcm])
          go_wp2_with fail
          refine (compare_c _ _ _ _ _ (hI3.box _) (ei.box _)).mono ?_; rintro e w' ⟨rfl, rfl⟩
          go_wp2_with fail
          go_roundw
          case rel =>
            refine ⟨k + 1, .slice A3 n3 c3, by omega, by go_num, ?_⟩
            rw [Hb.out]
            exact ⟨putF_far (G := f) (e0.alloc _) (by have := hst.hg; omega), putF_far (G := f) (e1.alloc _) (by have := hst.hg; omega), putF_box (G := f) (e2.alloc _), hst.hg, (putF_ints (G := f) (hI3.box _) hN3 hl2).more (by simp [World.setCell]), hN3.mono (by have := hst.hg; omega), putF_below (G := f) (ebel.alloc ebel.size _) (by have := hst.hg; omega)⟩
          case measure => simp [intOf]; omega
        · have Hb := Lib.hid (show bestTo f (k + 1) = bestTo f k by rw [bestTo, if_neg hcm])
          go_wp2_with fail
          refine (compare_c _ _ _ _ _ (hI3.box _) (ei.box _)).mono ?_; rintro e w' ⟨rfl, rfl⟩
          go_wp2_with fail
          go_roundw
          case rel =>
            refine ⟨k + 1, s, by omega, by go_num, ?_⟩
            rw [Hb.out]
            exact ⟨e0.alloc _, e1.alloc _, e2.alloc _, hst.hg, ei.box _, hst.hn, ebel.alloc ebel.size _⟩
          case measure => simp [intOf]; omega
      · obtain ⟨A4, n4, hs4⟩ : ∃ A c, s = .slice A (bestTo f k).length c := by obtain ⟨_, A4, c4, rfl, _⟩ := hst.hi; exact ⟨A4, c4, rfl⟩
        subst hs4
        have Hk := Lib.hid (show (normF f).kinds = bestTo f k by unfold normF; rw [show f.sectors.toNat - 1 = k by omega])
        have q0 : wr.cell? ⟨g0, 0, none⟩ = some (.int .i64 f.eye) := hst.b2.cell 0
        have q1 : wr.cell? ⟨g0, 1, none⟩ = some (.int .i64 f.rings) := hst.b2.cell 1
        have q2 : wr.cell? ⟨g0, 2, none⟩ = some (.int .i64 f.sectors) := hst.b2.cell 2
        have q3 : wr.cell? ⟨g0, 3, none⟩ = some (.slice A4 (bestTo f k).length n4) := hst.b2.cell 3
        have hb1 := hst.b1
        have h0 : wr.cell? ⟨w.heap.size + 1, 0, none⟩ = some (.int .i64 0) := hb1.cell 0
        have hf0 := hb1.free 0
        have h1 : wr.cell? ⟨w.heap.size + 1, 1, none⟩ = some (.int .i64 0) := hb1.cell 1
        have hf1 := hb1.free 1
        have h2 : wr.cell? ⟨w.heap.size + 1, 2, none⟩ = some (.int .i64 0) := hb1.cell 2
        have hf2 := hb1.free 2
        have h3 : wr.cell? ⟨w.heap.size + 1, 3, none⟩ = some (.slice none 0 0) := hb1.cell 3
        have hf3 := hb1.free 3
        go_wp2_with fail
        exact endPutE (G := normF f) (lo := w.heap.size + 2) Tryz.results32 rfl rfl hb1 (by rw [Hk.out]; exact hst.hi) hst.hn (by omega) (by omega) hst.bel

end Go.Proofs.YtpejcdjgggcjlaaGreatDoor

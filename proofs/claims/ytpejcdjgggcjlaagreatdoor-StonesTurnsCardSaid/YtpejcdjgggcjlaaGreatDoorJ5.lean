/- The walk of Set. -/
import Derived.Test.YtpejcdjgggcjlaaGreatDoorJ4
import Derived.Test.YtpejcdjgggcjlaaGreatDoorB3
namespace Go.Proofs.YtpejcdjgggcjlaaGreatDoor
open Go.RowKit

/-- what Set tells of its arguments first -/
def ckSet (f : Fc) (r c kind : Int) : Int := if ckCell f r c = 0 then (if inB kind 0 2 = true then 0 else 1) else ckCell f r c
/-- the face that Set hands back -/
def setOf (f : Fc) (r c kind : Int) : Fc := if ckSet f r c kind = 0 then setF f r c kind else zF

/-- a face, a cell and the result in their boxes -/
structure StSt (w wr : World) (f : Fc) (s : Value) (r c : Int) : Prop where
  b0 : Box wr w.heap.size 24 #[.int .i64 f.eye, .int .i64 f.rings, .int .i64 f.sectors, s]
  b1 : Box wr (w.heap.size + 1) 26 #[.int .i64 r, .int .i64 c]
  b2 : Box wr (w.heap.size + 2) 24 #[.int .i64 0, .int .i64 0, .int .i64 0, .slice none 0 0]
  bel : Below w.heap.size w wr
theorem StSt.later {w wr W : World} {f : Fc} {s : Value} {r c : Int} (h : StSt w wr f s r c) (hb : Below wr.heap.size wr W) : StSt w W f s r c :=
  ⟨h.b0.later hb, h.b1.later hb, h.b2.later hb, chain h.bel hb⟩
theorem StSt.made (w : World) (f : Fc) (s : Value) (r c : Int) : StSt w (((w.alloc (.cells #[.int .i64 f.eye, .int .i64 f.rings, .int .i64 f.sectors, s] 24)).alloc (.cells #[.int .i64 r, .int .i64 c] 26)).alloc (.cells #[.int .i64 0, .int .i64 0, .int .i64 0, .slice none 0 0] 24)) f s r c := by
  have h0 := FcSt.made w f s r c
  have b2 := Box.made ((w.alloc (.cells #[.int .i64 f.eye, .int .i64 f.rings, .int .i64 f.sectors, s] 24)).alloc (.cells #[.int .i64 r, .int .i64 c] 26)) 24 #[.int .i64 0, .int .i64 0, .int .i64 0, .slice none 0 0]
  rw [World.size_alloc, World.size_alloc] at b2
  exact ⟨h0.b0.alloc _, h0.b1.alloc _, b2, h0.bel.alloc (by simp; omega) _⟩

set_option maxRecDepth 100000 in
set_option maxHeartbeats 4000000 in
theorem Set_c (f : Fc) (v : Value) (r c kind : Int) (w : World) (h : IsFace w w.heap.size v f) :
    Calls Tryz.prog 11 #[v, .agg #[.int .i64 r, .int .i64 c], .int .i64 kind] w (RetFaceE w (setOf f r c kind) (ckSet f r c kind)) := by
  have hF := h
  obtain ⟨s, rfl, hlen, A, cp, rfl, hcap, hcell⟩ := h
  have h0 := StSt.made w f (.slice A f.kinds.length cp) r c
  have hF0 := hF.mono h0.bel h0.bel.size
  by_cases hk : ckCell f r c = 0
  · have hd : (ckCell f r c != 0) = false := by simp [hk]
    cases hkd : inB kind 0 2
    · have He := Lib.hid (show ckSet f r c kind = 1 by simp [ckSet, hk, hkd])
      have Hf := Lib.hid (show setOf f r c kind = zF by simp [setOf, He.out])
      clear hcell hk
      go_enter Tryz.func11, Tryz.ntmps11
      go_wp2_with fail
      refine (checkCell_c f _ r c _ hF0).mono ?_; rintro e w1 ⟨rfl, hb⟩
      have st1 := h0.later hb
      have hbx := st1.b2
      have h0 : w1.cell? ⟨w.heap.size + 2, 0, none⟩ = some (.int .i64 0) := hbx.cell 0
      have hf0 := hbx.free 0
      have h1 : w1.cell? ⟨w.heap.size + 2, 1, none⟩ = some (.int .i64 0) := hbx.cell 1
      have hf1 := hbx.free 1
      have h2 : w1.cell? ⟨w.heap.size + 2, 2, none⟩ = some (.int .i64 0) := hbx.cell 2
      have hf2 := hbx.free 2
      have h3 : w1.cell? ⟨w.heap.size + 2, 3, none⟩ = some (.slice none 0 0) := hbx.cell 3
      have hf3 := hbx.free 3
      go_wp2_with (go_at_call 51; refine (isKind_c _ _).mono ?_; rintro e w' ⟨rfl, rfl⟩)
      rw [Hf.out, He.out]
      exact endPutE (G := zF) (lo := w.heap.size + 3) Tryz.results11 rfl rfl hbx (zF_ints _ _ _) (NewS.none_ _ _ _) (by omega) (by omega) st1.bel
    · obtain ⟨hv, i1, i2, i3, i4⟩ := ckCell_ok hk
      dsimp only at i1 i2 i3 i4
      obtain ⟨j1, j2⟩ := idx_bd hv i1 i2 i3 i4
      obtain ⟨⟨⟨a1, a2⟩, ⟨a3, a4⟩, a5, a6⟩, -, -⟩ := validB_iff.1 hv
      have hl6 : f.kinds.length ≤ 2304 := (len_val hv).2.2
      have He := Lib.hid (show ckSet f r c kind = 0 by simp [ckSet, hk, hkd])
      have Hf := Lib.hid (show setOf f r c kind = setF f r c kind by simp [setOf, He.out])
      obtain ⟨b, off, rfl, hbB, hcc⟩ := hcell (by omega)
      clear hcell hk hv
      go_enter Tryz.func11, Tryz.ntmps11
      go_wp2_with fail
      refine (checkCell_c f _ r c _ hF0).mono ?_; rintro e w1 ⟨rfl, hb⟩
      have h1 := h0.later hb
      clear h0 hF0 hb
      have k0 : w1.cell? ⟨w.heap.size, 0, none⟩ = some (.int .i64 f.eye) := h1.b0.cell 0
      have k1 : w1.cell? ⟨w.heap.size, 1, none⟩ = some (.int .i64 f.rings) := h1.b0.cell 1
      have k2 : w1.cell? ⟨w.heap.size, 2, none⟩ = some (.int .i64 f.sectors) := h1.b0.cell 2
      have k3 : w1.cell? ⟨w.heap.size, 3, none⟩ = some (.slice (some ⟨b, off, none⟩) f.kinds.length cp) := h1.b0.cell 3
      have bg := Box.made w1 24 #[.int .i64 f.eye, .int .i64 f.rings, .int .i64 f.sectors, .slice (some ⟨b, off, none⟩) f.kinds.length cp]
      have hc2 : ∀ o : Obj, ∀ j, j < f.kinds.length → (w1.alloc o).cell? ⟨b, off + j, none⟩ = some (.int .i64 (f.kinds.getD j 0)) := fun o j hj => keepd (hcc j hj) (h1.bel.alloc h1.bel.size o) hbB
      have q3 : ∀ o : Obj, (w1.alloc o).cell? ⟨w.heap.size, 3, none⟩ = some (.slice (some ⟨b, off, none⟩) f.kinds.length cp) := fun o => (h1.b0.alloc o).cell 3
      have hc3 := fun (_ : Unit) => hc2
      clear hc2 hcc
      go_wp2_with (go_at_call 51; refine (isKind_c _ _).mono ?_; rintro e w' ⟨rfl, rfl⟩)
      refine (Tryz.slices_Clone_int b off f.kinds.length cp f.kinds _ (Nat.le_refl _) (by omega) (hc3 () _)).mono ?_
      rintro e w2 ⟨sv, rfl, hown, -, hb2⟩
      rw [List.take_length] at hown
      obtain ⟨gk, ck, rfl⟩ : ∃ gk ck, sv = .slice (some ⟨gk, 0, none⟩) f.kinds.length ck := by
        rcases hown.2 with ⟨-, hz⟩ | ⟨g, cap, cur, rfl, _⟩
        · omega
        · exact ⟨_, _, rfl⟩
      have hgk := hown.lt gk rfl
      have hb12 : Below w1.heap.size w1 w2 := boxed hb2
      have h2 := h1.later hb12
      have bg2 := bg.later hb2
      have hs1 := h1.b2.lt
      rw [World.size_alloc] at hgk
      clear q3 hc3 k0 k1 k2 k3
      have g3 : w2.cell? ⟨w1.heap.size, 3, none⟩ = some (.slice (some ⟨b, off, none⟩) f.kinds.length cp) := bg2.cell 3
      have gf3 := bg2.free 3
      go_wp2_with fail
      clear g3 gf3
      obtain ⟨n, hn⟩ := Int.eq_ofNat_of_zero_le j1
      have hn1 : n < f.kinds.length := by omega
      have Hn := Lib.hid hn
      have Hset := Lib.hid (show (setF f r c kind).kinds = f.kinds.set n kind by unfold setF; rw [hn]; rfl)
      clear hn j1 j2
      have bgW := bg2.put 3 (.slice (some ⟨gk, 0, none⟩) f.kinds.length ck)
      have h0W := h2.b0.far (p := ⟨w1.heap.size, 3, none⟩) (by simp; omega) (.slice (some ⟨gk, 0, none⟩) f.kinds.length ck)
      have h1W := h2.b1.far (p := ⟨w1.heap.size, 3, none⟩) (by simp; omega) (.slice (some ⟨gk, 0, none⟩) f.kinds.length ck)
      have h2W := h2.b2.far (p := ⟨w1.heap.size, 3, none⟩) (by simp; omega) (.slice (some ⟨gk, 0, none⟩) f.kinds.length ck)
      have ownW := own_far hown (p := ⟨w1.heap.size, 3, none⟩) (by simp) (.slice (some ⟨gk, 0, none⟩) f.kinds.length ck)
      have belW := h2.bel.setCell (p := ⟨w1.heap.size, 3, none⟩) (by simp; omega) (.slice (some ⟨gk, 0, none⟩) f.kinds.length ck)
      have hgk2 : gk < (w2.setCell ⟨w1.heap.size, 3, none⟩ (.slice (some ⟨gk, 0, none⟩) f.kinds.length ck)).heap.size := by rw [World.size_setCell]; exact hgk.2
      obtain ⟨hgk1, -⟩ := hgk
      simp only [World.size_alloc] at ownW
      clear hown bg bg2 h2 hb12 hb2 h1
      change Box _ w1.heap.size 24 #[.int .i64 f.eye, .int .i64 f.rings, .int .i64 f.sectors, .slice (some ⟨gk, 0, none⟩) f.kinds.length ck] at bgW
      generalize w2.setCell ⟨w1.heap.size, 3, none⟩ (.slice (some ⟨gk, 0, none⟩) f.kinds.length ck) = W at *
      have kx : W.cell? ⟨gk, n, none⟩ = some (.int .i64 (nth f.kinds n)) := by
        rw [ownW.cellAt n (by omega)]
        unfold nth
        rw [List.getElem?_map, List.getD_eq_getElem?_getD, List.getElem?_eq_getElem hn1]
        rfl
      have fx := ownW.frozenAt n
      have k0 : W.cell? ⟨w.heap.size, 0, none⟩ = some (.int .i64 f.eye) := h0W.cell 0
      have k1 : W.cell? ⟨w.heap.size, 1, none⟩ = some (.int .i64 f.rings) := h0W.cell 1
      have k2 : W.cell? ⟨w.heap.size, 2, none⟩ = some (.int .i64 f.sectors) := h0W.cell 2
      have k3 : W.cell? ⟨w.heap.size, 3, none⟩ = some (.slice (some ⟨b, off, none⟩) f.kinds.length cp) := h0W.cell 3
      have k4 : W.cell? ⟨w.heap.size + 1, 0, none⟩ = some (.int .i64 r) := h1W.cell 0
      have k5 : W.cell? ⟨w.heap.size + 1, 1, none⟩ = some (.int .i64 c) := h1W.cell 1
      have k6 : W.cell? ⟨w1.heap.size, 3, none⟩ = some (.slice (some ⟨gk, 0, none⟩) f.kinds.length ck) := bgW.cell 3
      have n1 : (0 : Int) ≤ (n : Int) := Int.natCast_nonneg _
      have n2 : (n : Int) < (f.kinds.length : Int) := by omega
      have hlw := bgW.lt
      go_region_law (first
        | (go_simp; go_at_call 53; refine (indexOf_c f (.slice (some ⟨b, off, none⟩) f.kinds.length cp) r c W.drew (by omega) (by omega) (by omega) (by omega) (by omega) (by omega)).mono ?_; rintro e w4 ⟨rfl, hb4⟩; rw [Hn.out]; have hb4 := Below.trans ((Below.refl W.heap.size W).drew) hb4; have kx4 := keepd kx hb4 hgk2; have k64 := keepd k6 hb4 hlw; have own4 := own_later ownW hb4; have fx4 := own4.frozenAt n; dsimp only))
      all_goals
        have own5 : (w4.setCell ⟨gk, n, none⟩ (.int .i64 kind)).ownsRow (w1.heap.size + 1) 3 1 (.slice (some ⟨gk, 0, none⟩) f.kinds.length ck) (f.kinds.set n kind).length (ints (f.kinds.set n kind)) := by
          rw [List.length_set, ints_set]
          exact (own4.stored n (.int .i64 kind)).1
        have bg5 := (bgW.later hb4).far (p := ⟨gk, n, none⟩) (by simp; omega) (.int .i64 kind)
        have h25 := (h2W.later hb4).far (p := ⟨gk, n, none⟩) (by simp; omega) (.int .i64 kind)
        have hb5 := (chain belW hb4).setCell (p := ⟨gk, n, none⟩) (by simp; omega) (.int .i64 kind)
        clear h0W h1W h2W ownW bgW kx fx k0 k1 k2 k3 k4 k5 k6 kx4 k64 own4 fx4 hb4
        generalize w4.setCell ⟨gk, n, none⟩ (.int .i64 kind) = W5 at *
        have g0 : W5.cell? ⟨w1.heap.size, 0, none⟩ = some (.int .i64 f.eye) := bg5.cell 0
        have g1 : W5.cell? ⟨w1.heap.size, 1, none⟩ = some (.int .i64 f.rings) := bg5.cell 1
        have g2 : W5.cell? ⟨w1.heap.size, 2, none⟩ = some (.int .i64 f.sectors) := bg5.cell 2
        have g3 : W5.cell? ⟨w1.heap.size, 3, none⟩ = some (.slice (some ⟨gk, 0, none⟩) f.kinds.length ck) := bg5.cell 3
        have y0 : W5.cell? ⟨w.heap.size + 2, 0, none⟩ = some (.int .i64 0) := h25.cell 0
        have yf0 := h25.free 0
        have y1 : W5.cell? ⟨w.heap.size + 2, 1, none⟩ = some (.int .i64 0) := h25.cell 1
        have yf1 := h25.free 1
        have y2 : W5.cell? ⟨w.heap.size + 2, 2, none⟩ = some (.int .i64 0) := h25.cell 2
        have yf2 := h25.free 2
        have y3 : W5.cell? ⟨w.heap.size + 2, 3, none⟩ = some (.slice none 0 0) := h25.cell 3
        have yf3 := h25.free 3
        go_wp2_with fail
        rw [Hf.out, He.out]
        exact endPutE (G := setF f r c kind) (lo := w.heap.size + 3) Tryz.results11 rfl rfl h25 (by rw [Hset.out]; exact ints_own own5 (Nat.le_refl _) (by rw [List.length_set]; omega)) ((NewS.own own5).mono (by omega)) (by omega) (by omega) hb5
  · have hd : (ckCell f r c != 0) = true := by simpa using hk
    have He := Lib.hid (show ckSet f r c kind = ckCell f r c by simp [ckSet, hk])
    have Hf := Lib.hid (show setOf f r c kind = zF by simp [setOf, He.out, hk])
    clear hcell hk
    go_enter Tryz.func11, Tryz.ntmps11
    go_wp2_with fail
    refine (checkCell_c f _ r c _ hF0).mono ?_; rintro e w1 ⟨rfl, hb⟩
    have st1 := h0.later hb
    have hbx := st1.b2
    have h0 : w1.cell? ⟨w.heap.size + 2, 0, none⟩ = some (.int .i64 0) := hbx.cell 0
    have hf0 := hbx.free 0
    have h1 : w1.cell? ⟨w.heap.size + 2, 1, none⟩ = some (.int .i64 0) := hbx.cell 1
    have hf1 := hbx.free 1
    have h2 : w1.cell? ⟨w.heap.size + 2, 2, none⟩ = some (.int .i64 0) := hbx.cell 2
    have hf2 := hbx.free 2
    have h3 : w1.cell? ⟨w.heap.size + 2, 3, none⟩ = some (.slice none 0 0) := hbx.cell 3
    have hf3 := hbx.free 3
    go_wp2_with fail
    rw [Hf.out, He.out]
    exact endPutE (G := zF) (lo := w.heap.size + 3) Tryz.results11 rfl rfl hbx (zF_ints _ _ _) (NewS.none_ _ _ _) (by omega) (by omega) st1.bel

end Go.Proofs.YtpejcdjgggcjlaaGreatDoor

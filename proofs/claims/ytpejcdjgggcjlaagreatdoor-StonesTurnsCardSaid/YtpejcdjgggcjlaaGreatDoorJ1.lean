/- The specification's Valid, Place, Weight, Cells, Area. -/
import Derived.Test.YtpejcdjgggcjlaaGreatDoorN0
import Derived.Test.YtpejcdjgggcjlaaGreatDoorH1
import Derived.Test.YtpejcdjgggcjlaaGreatDoorC1
namespace Go.Proofs.YtpejcdjgggcjlaaGreatDoor
open Go.RowKit

set_option maxRecDepth 100000 in
set_option maxHeartbeats 2000000 in
theorem rValid_c (f : Fc) (v : Value) (w : World) (h : IsFace w w.heap.size v f) :
    Calls Tryz.prog 14 #[v] w fun e w' => e = .returned (.bool (validB f)) ∧ Below w.heap.size w w' := by
  obtain ⟨s, rfl, hlen, A, c, rfl, hcap, hcell⟩ := h
  have hB1 : ∀ o : Obj, Below w.heap.size w (w.alloc o) := fun o => (Below.refl _ _).alloc (Nat.le_refl _) o
  cases c1 : inB f.eye 1 16
  · have H := Lib.hid (show validB f = false by simp [validB, sizesB, c1])
    clear hcell
    go_enter Tryz.func14, Tryz.ntmps14
    go_wp2_with (go_at_call 54; refine (rwithin_c _ _ _ _).mono ?_; rintro e w' ⟨rfl, rfl⟩)
    go_ret
    exact ⟨ret_bool H.out.symm, hB1 _⟩
  cases c2 : inB f.rings 1 24
  · have H := Lib.hid (show validB f = false by simp [validB, sizesB, c2])
    clear hcell
    go_enter Tryz.func14, Tryz.ntmps14
    go_wp2_with (go_at_call 54; refine (rwithin_c _ _ _ _).mono ?_; rintro e w' ⟨rfl, rfl⟩)
    go_ret
    exact ⟨ret_bool H.out.symm, hB1 _⟩
  cases c3 : inB f.sectors 2 96
  · have H := Lib.hid (show validB f = false by simp [validB, sizesB, c3])
    clear hcell
    go_enter Tryz.func14, Tryz.ntmps14
    go_wp2_with (go_at_call 54; refine (rwithin_c _ _ _ _).mono ?_; rintro e w' ⟨rfl, rfl⟩)
    go_ret
    exact ⟨ret_bool H.out.symm, hB1 _⟩
  obtain ⟨b1, b2⟩ := inB_iff.1 c2
  obtain ⟨b3, b4⟩ := inB_iff.1 c3
  obtain ⟨m1, m2⟩ : 0 ≤ f.rings * f.sectors ∧ f.rings * f.sectors ≤ 24 * 96 := mul_bd (by omega) (by omega) b2 b4
  by_cases hl : (f.kinds.length : Int) = f.rings * f.sectors
  · have H := Lib.hid (show validB f = kindsB f.kinds by simp [validB, sizesB, c1, c2, c3, hl])
    have hne : ((f.kinds.length : Int) != f.rings * f.sectors) = false := by simp [hl]
    have hl2 : f.kinds.length ≤ 2304 := by omega
    clear hl
    go_enter Tryz.func14, Tryz.ntmps14
    go_wp2_with (go_at_call 54; refine (rwithin_c _ _ _ _).mono ?_; rintro e w' ⟨rfl, rfl⟩)
    go_loopw [3] (fun i wr => ∃ k : Nat, k ≤ f.kinds.length ∧ i = .int .i64 (k : Int) ∧ kindsB (f.kinds.take k) = true ∧ Below (w.heap.size + 1) (w.alloc (.cells #[.int .i64 f.eye, .int .i64 f.rings, .int .i64 f.sectors, .slice A f.kinds.length c] 24)) wr) (fun i _ => f.kinds.length - (intOf i).toNat)
    case atStart => exact ⟨0, Nat.zero_le _, rfl, rfl, Below.refl _ _⟩
    case round =>
      obtain ⟨k, hk, rfl, hall, hbr⟩ := hrel
      have Hall := Lib.hid hall
      clear hall
      have hsz := hbr.size
      rw [World.size_alloc] at hsz
      have hbx := (Box.made w 24 #[.int .i64 f.eye, .int .i64 f.rings, .int .i64 f.sectors, .slice A f.kinds.length c]).below hbr (by omega)
      have hbw : Below w.heap.size w wr := (hB1 _).trans (hbr.mono (by omega))
      have g3 : wr.cell? ⟨w.heap.size, 3, none⟩ = some (.slice A f.kinds.length c) := hbx.cell 3
      by_cases hlt : k < f.kinds.length
      · obtain ⟨b, off, rfl, hbB, hcc⟩ := hcell (by omega)
        have hx := keepd (hcc k hlt) hbw hbB
        have hdk : decide ((k : Int) < (f.kinds.length : Int)) = true := by simpa using hlt
        have i0 : (0 : Int) ≤ (k : Int) := Int.natCast_nonneg _
        have i1 : (k : Int) < (f.kinds.length : Int) := by omega
        have Hs := Lib.hid (kindsB_snoc f.kinds k hlt)
        have Hf := Lib.hid (kindsB_false f.kinds k hlt)
        clear hcell hcc
        cases hb0 : inB (nth f.kinds k) 0 2
        · go_wp2_with (go_at_call 54; refine (rwithin_c _ _ _ _).mono ?_; rintro e w' ⟨rfl, rfl⟩)
          go_ret
          exact ⟨ret_bool (by rw [H.out, Hf.out hb0]), hbw⟩
        · go_wp2_with (go_at_call 54; refine (rwithin_c _ _ _ _).mono ?_; rintro e w' ⟨rfl, rfl⟩)
          go_roundw
          case rel => exact ⟨k + 1, by omega, by go_num, by rw [Hs.out, Hall.out, hb0]; rfl, hbr⟩
          case measure => simp [intOf]; omega
      · obtain rfl : k = f.kinds.length := by omega
        have hdk : decide ((f.kinds.length : Int) < (f.kinds.length : Int)) = false := by simp
        clear hcell
        go_wp2_with fail
        go_ret
        exact ⟨ret_bool (by rw [H.out, ← Hall.out, List.take_length]), hbw⟩
  · have H := Lib.hid (show validB f = false by simp [validB, hl])
    have hne : ((f.kinds.length : Int) != f.rings * f.sectors) = true := by simp [hl]
    clear hcell hl
    go_enter Tryz.func14, Tryz.ntmps14
    go_wp2_with (go_at_call 54; refine (rwithin_c _ _ _ _).mono ?_; rintro e w' ⟨rfl, rfl⟩)
    go_ret
    exact ⟨ret_bool H.out.symm, hB1 _⟩

set_option maxRecDepth 100000 in
set_option maxHeartbeats 800000 in
theorem rPlace_c (f : Fc) (s : Value) (i : Int) (w : World) (h1 : 0 ≤ i) (h2 : i ≤ 1000000) (h3 : 1 ≤ f.sectors) (h4 : f.sectors ≤ 96) :
    Calls Tryz.prog 59 #[.agg #[.int .i64 f.eye, .int .i64 f.rings, .int .i64 f.sectors, s], .int .i64 i] w fun e w' => e = .returned (.agg #[.int .i64 (i / f.sectors), .int .i64 (i % f.sectors)]) ∧ Below w.heap.size w w' := by
  have hs0 : ¬ f.sectors = 0 := by omega
  have hq := wrap_quo (a := i) (b := f.sectors) h1 (by omega) h3
  have hr := wrap_rem (a := i) (b := f.sectors) h3 h4
  go_enter Tryz.func59, Tryz.ntmps59
  go_wp2_with fail
  go_region_held3 (fun W => W.cell? ⟨(w.heap.size), 2, none⟩ = some (.int .i64 f.sectors) ∧ Below w.heap.size w W ∧ w.heap.size + 1 ≤ W.heap.size) (first | assumption | (refine ⟨?_, (((Below.refl _ _).alloc (Nat.le_refl _) _).alloc (by simp) _).drew, by first | (simp; done) | (simp; omega) | omega⟩ <;> go_keep) | (obtain ⟨x0, xb, xs⟩ := ‹_ ∧ _›; first | exact ⟨keepd x0 (Below.alloc (Below.refl (w.heap.size + 1) _) xs _) (by omega), Below.trans xb (Below.mono (Below.alloc (Below.refl (w.heap.size + 1) _) xs _) (by omega)), Nat.le_trans xs (Below.size (Below.alloc (Below.refl (w.heap.size + 1) _) xs _))⟩ | exact ⟨keepd x0 (Below.mono (B' := w.heap.size + 1) (by assumption) xs) (by omega), Below.trans xb (Below.mono (Below.mono (B' := w.heap.size + 1) (by assumption) xs) (by omega)), Nat.le_trans xs (Below.size (Below.mono (B' := w.heap.size + 1) (by assumption) xs))⟩ | exact ⟨keepd x0 (hgst) (by omega), Below.trans xb (Below.mono (hgst) (by omega)), Nat.le_trans xs (Below.size (hgst))⟩ | exact ⟨keepd x0 (Below.setCell (Below.refl (w.heap.size + 1) _) (by first | (simp; done) | (simp; omega)) _) (by omega), Below.trans xb (Below.mono (Below.setCell (Below.refl (w.heap.size + 1) _) (by first | (simp; done) | (simp; omega)) _) (by omega)), Nat.le_trans xs (Below.size (Below.setCell (Below.refl (w.heap.size + 1) _) (by first | (simp; done) | (simp; omega)) _))⟩ | exact ⟨keepd x0 (Below.setCell (Below.setCell (Below.setCell (Below.setCell (Below.refl (w.heap.size + 1) _) (by first | (simp; done) | (simp; omega)) _) (by first | (simp; done) | (simp; omega)) _) (by first | (simp; done) | (simp; omega)) _) (by first | (simp; done) | (simp; omega)) _) (by omega), Below.trans xb (Below.mono (Below.setCell (Below.setCell (Below.setCell (Below.setCell (Below.refl (w.heap.size + 1) _) (by first | (simp; done) | (simp; omega)) _) (by first | (simp; done) | (simp; omega)) _) (by first | (simp; done) | (simp; omega)) _) (by first | (simp; done) | (simp; omega)) _) (by omega)), Nat.le_trans xs (Below.size (Below.setCell (Below.setCell (Below.setCell (Below.setCell (Below.refl (w.heap.size + 1) _) (by first | (simp; done) | (simp; omega)) _) (by first | (simp; done) | (simp; omega)) _) (by first | (simp; done) | (simp; omega)) _) (by first | (simp; done) | (simp; omega)) _))⟩)) (first |fail)
  go_wp2_with fail
  have e1 : IntKind.i64.wrap (i.tdiv f.sectors) = i / f.sectors := by rw [Int.tdiv_eq_ediv_of_nonneg h1]; exact hq
  have e2 : i.tmod f.sectors = i % f.sectors := Int.tmod_eq_emod_of_nonneg h1
  rw [e1, e2]
  exact bodyPost_ret (v := .agg #[.int .i64 (i / f.sectors), .int .i64 (i % f.sectors)]) (by simp [results, Tryz.results59, go_sem]) rfl ⟨rfl, (((Below.refl _ _).alloc (Nat.le_refl _) _).alloc (by simp) _).drew⟩

/-- what Weight tells of its arguments first -/
def ckRing (f : Fc) (ring : Int) : Int := if validB f = true then (if inB ring 0 (f.rings - 1) = true then 0 else 3) else 10
/-- the area of a cell of a ring -/
def weightOf (f : Fc) (ring : Int) : Int := if ckRing f ring = 0 then 2 * (f.eye + ring) + 1 else 0

set_option maxRecDepth 100000 in
set_option maxHeartbeats 1000000 in
theorem rWeight_c (f : Fc) (v : Value) (ring : Int) (w : World) (h : IsFace w w.heap.size v f) :
    Calls Tryz.prog 25 #[v, .int .i64 ring] w fun e w' => e = .returned (.tuple #[.int .i64 (weightOf f ring), .int .i64 (ckRing f ring)]) ∧ Below w.heap.size w w' := by
  have hF := h
  obtain ⟨s, rfl, hI⟩ := h
  clear hI
  have b0 := Box.made w 24 #[.int .i64 f.eye, .int .i64 f.rings, .int .i64 f.sectors, s]
  cases hv : validB f
  · have He := Lib.hid (show ckRing f ring = 10 by simp [ckRing, hv])
    have Hw := Lib.hid (show weightOf f ring = 0 by simp [weightOf, ckRing, hv])
    go_enter Tryz.func25, Tryz.ntmps25
    go_wp2_with fail
    refine (rValid_c f _ _ (hF.box _)).mono ?_; rintro e w1 ⟨rfl, hb⟩
    rw [hv]
    go_wp2_with fail
    go_ret2
    exact ⟨by rw [He.out, Hw.out]; rfl, boxed hb⟩
  obtain ⟨⟨⟨a1, a2⟩, ⟨a3, a4⟩, a5, a6⟩, -, -⟩ := validB_iff.1 hv
  cases hk : inB ring 0 (f.rings - 1)
  · have He := Lib.hid (show ckRing f ring = 3 by simp [ckRing, hv, hk])
    have Hw := Lib.hid (show weightOf f ring = 0 by simp [weightOf, ckRing, hv, hk])
    go_enter Tryz.func25, Tryz.ntmps25
    go_wp2_with fail
    refine (rValid_c f _ _ (hF.box _)).mono ?_; rintro e w1 ⟨rfl, hb⟩
    rw [hv]
    have g1 : w1.cell? ⟨w.heap.size, 1, none⟩ = some (.int .i64 f.rings) := (b0.later hb).cell 1
    go_wp2_with (go_at_call 54; refine (rwithin_c _ _ _ _).mono ?_; rintro e w' ⟨rfl, rfl⟩)
    go_ret2
    exact ⟨by rw [He.out, Hw.out]; rfl, boxed hb⟩
  · have He := Lib.hid (show ckRing f ring = 0 by simp [ckRing, hv, hk])
    have Hw := Lib.hid (show weightOf f ring = 2 * (f.eye + ring) + 1 by simp [weightOf, ckRing, hv, hk])
    obtain ⟨k1, k2⟩ := inB_iff.1 hk
    go_enter Tryz.func25, Tryz.ntmps25
    go_wp2_with fail
    refine (rValid_c f _ _ (hF.box _)).mono ?_; rintro e w1 ⟨rfl, hb⟩
    rw [hv]
    have g0 : w1.cell? ⟨w.heap.size, 0, none⟩ = some (.int .i64 f.eye) := (b0.later hb).cell 0
    have g1 : w1.cell? ⟨w.heap.size, 1, none⟩ = some (.int .i64 f.rings) := (b0.later hb).cell 1
    go_wp2_with (go_at_call 54; refine (rwithin_c _ _ _ _).mono ?_; rintro e w' ⟨rfl, rfl⟩)
    go_ret2
    exact ⟨by rw [He.out, Hw.out]; rfl, boxed hb⟩

set_option maxRecDepth 100000 in
set_option maxHeartbeats 1000000 in
theorem Weight_c (f : Fc) (v : Value) (ring : Int) (w : World) (h : IsFace w w.heap.size v f) :
    Calls Tryz.prog 24 #[v, .int .i64 ring] w fun e w' => e = .returned (.tuple #[.int .i64 (weightOf f ring), .int .i64 (ckRing f ring)]) ∧ Below w.heap.size w w' := by
  have hF := h
  obtain ⟨s, rfl, hI⟩ := h
  clear hI
  have b0 := Box.made w 24 #[.int .i64 f.eye, .int .i64 f.rings, .int .i64 f.sectors, s]
  cases hv : validB f
  · have He := Lib.hid (show ckRing f ring = 10 by simp [ckRing, hv])
    have Hw := Lib.hid (show weightOf f ring = 0 by simp [weightOf, ckRing, hv])
    go_enter Tryz.func24, Tryz.ntmps24
    go_wp2_with fail
    refine (Valid_c f _ _ (hF.box _)).mono ?_; rintro e w1 ⟨rfl, hb⟩
    rw [hv]
    go_wp2_with fail
    go_ret2
    exact ⟨by rw [He.out, Hw.out]; rfl, boxed hb⟩
  obtain ⟨⟨⟨a1, a2⟩, ⟨a3, a4⟩, a5, a6⟩, -, -⟩ := validB_iff.1 hv
  by_cases h1 : ring < 0
  · have d1 : decide (ring < 0) = true := by simpa using h1
    have hk : inB ring 0 (f.rings - 1) = false := by rw [inB_not]; omega
    have He := Lib.hid (show ckRing f ring = 3 by simp [ckRing, hv, hk])
    have Hw := Lib.hid (show weightOf f ring = 0 by simp [weightOf, ckRing, hv, hk])
    go_enter Tryz.func24, Tryz.ntmps24
    go_wp2_with fail
    refine (Valid_c f _ _ (hF.box _)).mono ?_; rintro e w1 ⟨rfl, hb⟩
    rw [hv]
    have g1 : w1.cell? ⟨w.heap.size, 1, none⟩ = some (.int .i64 f.rings) := (b0.later hb).cell 1
    go_wp2_with fail
    go_ret2
    exact ⟨by rw [He.out, Hw.out]; rfl, boxed hb⟩
  have d1 : decide (ring < 0) = false := by simpa using h1
  by_cases h2 : f.rings ≤ ring
  · have d2 : decide (f.rings ≤ ring) = true := by simpa using h2
    have hk : inB ring 0 (f.rings - 1) = false := by rw [inB_not]; omega
    have He := Lib.hid (show ckRing f ring = 3 by simp [ckRing, hv, hk])
    have Hw := Lib.hid (show weightOf f ring = 0 by simp [weightOf, ckRing, hv, hk])
    go_enter Tryz.func24, Tryz.ntmps24
    go_wp2_with fail
    refine (Valid_c f _ _ (hF.box _)).mono ?_; rintro e w1 ⟨rfl, hb⟩
    rw [hv]
    have g1 : w1.cell? ⟨w.heap.size, 1, none⟩ = some (.int .i64 f.rings) := (b0.later hb).cell 1
    go_wp2_with fail
    go_ret2
    exact ⟨by rw [He.out, Hw.out]; rfl, boxed hb⟩
  · have d2 : decide (f.rings ≤ ring) = false := by simpa using h2
    have hk : inB ring 0 (f.rings - 1) = true := by rw [inB_iff]; omega
    have He := Lib.hid (show ckRing f ring = 0 by simp [ckRing, hv, hk])
    have Hw := Lib.hid (show weightOf f ring = 2 * (f.eye + ring) + 1 by simp [weightOf, ckRing, hv, hk])
    go_enter Tryz.func24, Tryz.ntmps24
    go_wp2_with fail
    refine (Valid_c f _ _ (hF.box _)).mono ?_; rintro e w1 ⟨rfl, hb⟩
    rw [hv]
    have g0 : w1.cell? ⟨w.heap.size, 0, none⟩ = some (.int .i64 f.eye) := (b0.later hb).cell 0
    have g1 : w1.cell? ⟨w.heap.size, 1, none⟩ = some (.int .i64 f.rings) := (b0.later hb).cell 1
    have g2 : w1.cell? ⟨w.heap.size, 2, none⟩ = some (.int .i64 f.sectors) := (b0.later hb).cell 2
    have g3 : w1.cell? ⟨w.heap.size, 3, none⟩ = some s := (b0.later hb).cell 3
    go_wp2_with fail
    refine (weight_c f s ring w1 (by omega) (by omega) (by omega) (by omega)).mono ?_; rintro e w2 ⟨rfl, hb2⟩
    go_wp2_with fail
    go_ret2
    exact ⟨by rw [He.out, Hw.out]; rfl, chain (boxed hb) hb2⟩

end Go.Proofs.YtpejcdjgggcjlaaGreatDoor

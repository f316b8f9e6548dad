/- The walks of Index, CellOf, At, Set and Cells. -/
import Derived.Test.YtpejcdjgggcjlaaGreatDoorM5
import Derived.Test.YtpejcdjgggcjlaaGreatDoorA7
import Derived.Test.YtpejcdjgggcjlaaGreatDoorShelf
namespace Go.Proofs.YtpejcdjgggcjlaaGreatDoor
open Go.RowKit

/-- a face and a cell in their boxes -/
structure FcSt (w wr : World) (f : Fc) (s : Value) (r c : Int) : Prop where
  b0 : Box wr w.heap.size 24 #[.int .i64 f.eye, .int .i64 f.rings, .int .i64 f.sectors, s]
  b1 : Box wr (w.heap.size + 1) 26 #[.int .i64 r, .int .i64 c]
  bel : Below w.heap.size w wr
theorem FcSt.later {w wr W : World} {f : Fc} {s : Value} {r c : Int} (h : FcSt w wr f s r c) (hb : Below wr.heap.size wr W) : FcSt w W f s r c :=
  ⟨h.b0.later hb, h.b1.later hb, chain h.bel hb⟩
theorem FcSt.made (w : World) (f : Fc) (s : Value) (r c : Int) : FcSt w ((w.alloc (.cells #[.int .i64 f.eye, .int .i64 f.rings, .int .i64 f.sectors, s] 24)).alloc (.cells #[.int .i64 r, .int .i64 c] 26)) f s r c := by
  have b1 := Box.made (w.alloc (.cells #[.int .i64 f.eye, .int .i64 f.rings, .int .i64 f.sectors, s] 24)) 26 #[.int .i64 r, .int .i64 c]
  rw [World.size_alloc] at b1
  exact ⟨faceBox w f _ _, b1, ((Below.refl _ _).alloc (Nat.le_refl _) _).alloc (by simp) _⟩

/-- the index that is told of a cell -/
def idxOf (f : Fc) (r c : Int) : Int := if ckCell f r c = 0 then r * f.sectors + c else 0
/-- the kind that is told of a cell -/
def atOf (f : Fc) (r c : Int) : Int := if ckCell f r c = 0 then kat f r c else 0
/-- what CellOf tells of its arguments first -/
def ckIdx (f : Fc) (i : Int) : Int := if validB f = true then (if 0 ≤ i ∧ i < f.kinds.length then 0 else 3) else 10
/-- the cell that is told of an index -/
def celOf (f : Fc) (i : Int) : Int × Int := if ckIdx f i = 0 then (i / f.sectors, i % f.sectors) else (0, 0)

set_option maxRecDepth 100000 in
set_option maxHeartbeats 1000000 in
theorem Index_c (f : Fc) (v : Value) (r c : Int) (w : World) (h : IsFace w w.heap.size v f) :
    Calls Tryz.prog 17 #[v, .agg #[.int .i64 r, .int .i64 c]] w fun e w' => e = .returned (.tuple #[.int .i64 (idxOf f r c), .int .i64 (ckCell f r c)]) ∧ Below w.heap.size w w' := by
  have hF := h
  obtain ⟨s, rfl, hI⟩ := h
  clear hI
  have h0 := FcSt.made w f s r c
  have hF0 := hF.mono h0.bel h0.bel.size
  by_cases hk : ckCell f r c = 0
  · obtain ⟨hv, i1, i2, i3, i4⟩ := ckCell_ok hk
    dsimp only at i1 i2 i3 i4
    obtain ⟨⟨⟨a1, a2⟩, ⟨a3, a4⟩, a5, a6⟩, -, -⟩ := validB_iff.1 hv
    have hd : (ckCell f r c != 0) = false := by simp [hk]
    have Hi := Lib.hid (show idxOf f r c = r * f.sectors + c by simp [idxOf, hk])
    have Hk := Lib.hid hk
    clear hk hv
    go_enter Tryz.func17, Tryz.ntmps17
    go_wp2_with fail
    refine (checkCell_c f _ r c _ hF0).mono ?_; rintro e w1 ⟨rfl, hb1⟩
    have h1 := h0.later hb1
    clear h0 hF0 hb1
    have k0 : w1.cell? ⟨w.heap.size, 0, none⟩ = some (.int .i64 f.eye) := h1.b0.cell 0
    have k1 : w1.cell? ⟨w.heap.size, 1, none⟩ = some (.int .i64 f.rings) := h1.b0.cell 1
    have k2 : w1.cell? ⟨w.heap.size, 2, none⟩ = some (.int .i64 f.sectors) := h1.b0.cell 2
    have k3 : w1.cell? ⟨w.heap.size, 3, none⟩ = some s := h1.b0.cell 3
    have k4 : w1.cell? ⟨w.heap.size + 1, 0, none⟩ = some (.int .i64 r) := h1.b1.cell 0
    have k5 : w1.cell? ⟨w.heap.size + 1, 1, none⟩ = some (.int .i64 c) := h1.b1.cell 1
    go_wp2_with fail
    refine (indexOf_c f s r c w1 (by omega) (by omega) (by omega) (by omega) (by omega) (by omega)).mono ?_; rintro e w2 ⟨rfl, hb2⟩
    go_wp2_with fail
    go_ret2
    exact ⟨by rw [Hi.out, Hk.out]; rfl, chain h1.bel hb2⟩
  · have hd : (ckCell f r c != 0) = true := by simpa using hk
    have Hi := Lib.hid (show idxOf f r c = 0 by simp [idxOf, hk])
    clear hk
    go_enter Tryz.func17, Tryz.ntmps17
    go_wp2_with fail
    refine (checkCell_c f _ r c _ hF0).mono ?_; rintro e w1 ⟨rfl, hb1⟩
    have hbw := chain h0.bel hb1
    go_wp2_with fail
    go_ret2
    exact ⟨by rw [Hi.out]; rfl, hbw⟩

set_option maxRecDepth 100000 in
set_option maxHeartbeats 1000000 in
theorem At_c (f : Fc) (v : Value) (r c : Int) (w : World) (h : IsFace w w.heap.size v f) :
    Calls Tryz.prog 9 #[v, .agg #[.int .i64 r, .int .i64 c]] w fun e w' => e = .returned (.tuple #[.int .i64 (atOf f r c), .int .i64 (ckCell f r c)]) ∧ Below w.heap.size w w' := by
  have hF := h
  obtain ⟨s, rfl, hI⟩ := h
  clear hI
  have h0 := FcSt.made w f s r c
  have hF0 := hF.mono h0.bel h0.bel.size
  by_cases hk : ckCell f r c = 0
  · obtain ⟨hv, i1, i2, i3, i4⟩ := ckCell_ok hk
    dsimp only at i1 i2 i3 i4
    have hd : (ckCell f r c != 0) = false := by simp [hk]
    have Hi := Lib.hid (show atOf f r c = kat f r c by simp [atOf, hk])
    have Hk := Lib.hid hk
    have Hv := Lib.hid hv
    clear hk hv
    go_enter Tryz.func9, Tryz.ntmps9
    go_wp2_with fail
    refine (checkCell_c f _ r c _ hF0).mono ?_; rintro e w1 ⟨rfl, hb1⟩
    have h1 := h0.later hb1
    clear h0 hF0 hb1
    have k0 : w1.cell? ⟨w.heap.size, 0, none⟩ = some (.int .i64 f.eye) := h1.b0.cell 0
    have k1 : w1.cell? ⟨w.heap.size, 1, none⟩ = some (.int .i64 f.rings) := h1.b0.cell 1
    have k2 : w1.cell? ⟨w.heap.size, 2, none⟩ = some (.int .i64 f.sectors) := h1.b0.cell 2
    have k3 : w1.cell? ⟨w.heap.size, 3, none⟩ = some s := h1.b0.cell 3
    have k4 : w1.cell? ⟨w.heap.size + 1, 0, none⟩ = some (.int .i64 r) := h1.b1.cell 0
    have k5 : w1.cell? ⟨w.heap.size + 1, 1, none⟩ = some (.int .i64 c) := h1.b1.cell 1
    go_wp2_with fail
    refine (kindAt_c f _ r c w1 (hF.mono h1.bel h1.bel.size) Hv.out i1 i2 i3 i4).mono ?_; rintro e w2 ⟨rfl, hb2⟩
    go_wp2_with fail
    go_ret2
    exact ⟨by rw [Hi.out, Hk.out]; rfl, chain h1.bel hb2⟩
  · have hd : (ckCell f r c != 0) = true := by simpa using hk
    have Hi := Lib.hid (show atOf f r c = 0 by simp [atOf, hk])
    clear hk
    go_enter Tryz.func9, Tryz.ntmps9
    go_wp2_with fail
    refine (checkCell_c f _ r c _ hF0).mono ?_; rintro e w1 ⟨rfl, hb1⟩
    have hbw := chain h0.bel hb1
    go_wp2_with fail
    go_ret2
    exact ⟨by rw [Hi.out]; rfl, hbw⟩

/-- the end of a function that hands back a cell out of a box of its own -/
theorem endCelE {fn : Func} {t u : Nat} {w wr : World} {g : Nat} {a b er : Int} {tmps : Array Value} {z0 z1 : Value} (hfn : fn.results = #[.cell t 26, .tmp u]) (ht : tmps[t]? = some (.pointer (some ⟨g, 0, none⟩))) (hu : tmps[u]? = some (.int .i64 er))
    (hb : Box wr g 26 #[z0, z1]) (hg : w.heap.size ≤ g) (hbel : Below w.heap.size w wr) :
    bodyPost Tryz.prog fn (fun e w' => e = .returned (.tuple #[.agg #[.int .i64 a, .int .i64 b], .int .i64 er]) ∧ Below w.heap.size w w') Exit.ret { tmps, defers := [] } ((wr.setCell ⟨g, 0, none⟩ (.int .i64 a)).setCell ⟨g, 1, none⟩ (.int .i64 b)) := by
  have hb2 := (hb.put 0 (.int .i64 a)).put 1 (.int .i64 b)
  have q0 : ((wr.setCell ⟨g, 0, none⟩ (.int .i64 a)).setCell ⟨g, 1, none⟩ (.int .i64 b)).cell? ⟨g, 0, none⟩ = some (.int .i64 a) := hb2.cell 0
  have q1 : ((wr.setCell ⟨g, 0, none⟩ (.int .i64 a)).setCell ⟨g, 1, none⟩ (.int .i64 b)).cell? ⟨g, 1, none⟩ = some (.int .i64 b) := hb2.cell 1
  exact bodyPost_ret (v := .tuple #[.agg #[.int .i64 a, .int .i64 b], .int .i64 er]) (by simp [results, hfn, go_sem, ht, hu, q0, q1]) rfl ⟨rfl, (hbel.setCell (p := ⟨g, 0, none⟩) hg _).setCell (p := ⟨g, 1, none⟩) hg _⟩
theorem resCel (w : World) (o : Obj) : Box ((w.alloc o).alloc (.cells #[.int .i64 0, .int .i64 0] 26)) (w.heap.size + 1) 26 #[.int .i64 0, .int .i64 0] := by
  have h := Box.made (w.alloc o) 26 #[.int .i64 0, .int .i64 0]
  rwa [World.size_alloc] at h

set_option maxRecDepth 100000 in
set_option maxHeartbeats 1000000 in
theorem CellOf_c (f : Fc) (v : Value) (i : Int) (w : World) (h : IsFace w w.heap.size v f) :
    Calls Tryz.prog 19 #[v, .int .i64 i] w fun e w' => e = .returned (.tuple #[.agg #[.int .i64 (celOf f i).1, .int .i64 (celOf f i).2], .int .i64 (ckIdx f i)]) ∧ Below w.heap.size w w' := by
  have hF := h
  obtain ⟨s, rfl, hlen, A, cp, rfl, hcap, hcell⟩ := h
  clear hcell
  have b0 := faceBox w f (.slice A f.kinds.length cp) (.cells #[.int .i64 0, .int .i64 0] 26)
  have hr := resCel w (.cells #[.int .i64 f.eye, .int .i64 f.rings, .int .i64 f.sectors, .slice A f.kinds.length cp] 24)
  cases hv : validB f
  · have Hi := Lib.hid (show ckIdx f i = 10 by simp [ckIdx, hv])
    have Hc := Lib.hid (show celOf f i = (0, 0) by simp [celOf, Hi.out])
    go_enter Tryz.func19, Tryz.ntmps19
    go_wp2_with fail
    refine (Valid_c f _ _ ((hF.box _).box _)).mono ?_; rintro e w1 ⟨rfl, hb⟩
    rw [hv]
    have hbx := hr.later hb
    have z0 : w1.cell? ⟨w.heap.size + 1, 0, none⟩ = some (.int .i64 0) := hbx.cell 0
    have z1 : w1.cell? ⟨w.heap.size + 1, 1, none⟩ = some (.int .i64 0) := hbx.cell 1
    have y0 := hbx.free 0
    have y1 := hbx.free 1
    have hbw : Below w.heap.size w w1 := boxed (boxed hb)
    go_wp2_with fail
    rw [Hc.out, Hi.out]
    exact endCelE Tryz.results19 rfl rfl hbx (by omega) hbw
  obtain ⟨⟨⟨a1, a2⟩, ⟨a3, a4⟩, a5, a6⟩, -, -⟩ := validB_iff.1 hv
  have hl6 : f.kinds.length ≤ 2304 := (len_val hv).2.2
  by_cases h1 : i < 0
  · have d1 : decide (i < 0) = true := by simpa using h1
    have Hi := Lib.hid (show ckIdx f i = 3 by simp only [ckIdx, hv, if_true]; rw [if_neg (by omega)])
    have Hc := Lib.hid (show celOf f i = (0, 0) by simp [celOf, Hi.out])
    go_enter Tryz.func19, Tryz.ntmps19
    go_wp2_with fail
    refine (Valid_c f _ _ ((hF.box _).box _)).mono ?_; rintro e w1 ⟨rfl, hb⟩
    rw [hv]
    have k3 : w1.cell? ⟨w.heap.size, 3, none⟩ = some (.slice A f.kinds.length cp) := (b0.later hb).cell 3
    have hbx := hr.later hb
    have z0 : w1.cell? ⟨w.heap.size + 1, 0, none⟩ = some (.int .i64 0) := hbx.cell 0
    have z1 : w1.cell? ⟨w.heap.size + 1, 1, none⟩ = some (.int .i64 0) := hbx.cell 1
    have y0 := hbx.free 0
    have y1 := hbx.free 1
    have hbw : Below w.heap.size w w1 := boxed (boxed hb)
    go_wp2_with fail
    rw [Hc.out, Hi.out]
    exact endCelE Tryz.results19 rfl rfl hbx (by omega) hbw
  have d1 : decide (i < 0) = false := by simpa using h1
  by_cases h2 : (f.kinds.length : Int) ≤ i
  · have d2 : decide ((f.kinds.length : Int) ≤ i) = true := by simpa using h2
    have Hi := Lib.hid (show ckIdx f i = 3 by simp only [ckIdx, hv, if_true]; rw [if_neg (by omega)])
    have Hc := Lib.hid (show celOf f i = (0, 0) by simp [celOf, Hi.out])
    go_enter Tryz.func19, Tryz.ntmps19
    go_wp2_with fail
    refine (Valid_c f _ _ ((hF.box _).box _)).mono ?_; rintro e w1 ⟨rfl, hb⟩
    rw [hv]
    have k3 : w1.cell? ⟨w.heap.size, 3, none⟩ = some (.slice A f.kinds.length cp) := (b0.later hb).cell 3
    have hbx := hr.later hb
    have z0 : w1.cell? ⟨w.heap.size + 1, 0, none⟩ = some (.int .i64 0) := hbx.cell 0
    have z1 : w1.cell? ⟨w.heap.size + 1, 1, none⟩ = some (.int .i64 0) := hbx.cell 1
    have y0 := hbx.free 0
    have y1 := hbx.free 1
    have hbw : Below w.heap.size w w1 := boxed (boxed hb)
    go_wp2_with fail
    rw [Hc.out, Hi.out]
    exact endCelE Tryz.results19 rfl rfl hbx (by omega) hbw
  · have d2 : decide ((f.kinds.length : Int) ≤ i) = false := by simpa using h2
    have Hi := Lib.hid (show ckIdx f i = 0 by simp only [ckIdx, hv, if_true]; rw [if_pos (by omega)])
    have Hc := Lib.hid (show celOf f i = (i / f.sectors, i % f.sectors) by simp [celOf, Hi.out])
    go_enter Tryz.func19, Tryz.ntmps19
    go_wp2_with fail
    refine (Valid_c f _ _ ((hF.box _).box _)).mono ?_; rintro e w1 ⟨rfl, hb⟩
    rw [hv]
    have b1 := b0.later hb
    have hb1 := hr.later hb
    have k0 : w1.cell? ⟨w.heap.size, 0, none⟩ = some (.int .i64 f.eye) := b1.cell 0
    have k1 : w1.cell? ⟨w.heap.size, 1, none⟩ = some (.int .i64 f.rings) := b1.cell 1
    have k2 : w1.cell? ⟨w.heap.size, 2, none⟩ = some (.int .i64 f.sectors) := b1.cell 2
    have k3 : w1.cell? ⟨w.heap.size, 3, none⟩ = some (.slice A f.kinds.length cp) := b1.cell 3
    have hbw1 : Below w.heap.size w w1 := boxed (boxed hb)
    go_wp2_with fail
    refine (cellAt_c f A f.kinds.length cp i w1 (by omega) (by omega) (by omega) (by omega)).mono ?_; rintro e w2 ⟨rfl, hb2⟩
    have hbx := hb1.later hb2
    have z0 : w2.cell? ⟨w.heap.size + 1, 0, none⟩ = some (.int .i64 0) := hbx.cell 0
    have z1 : w2.cell? ⟨w.heap.size + 1, 1, none⟩ = some (.int .i64 0) := hbx.cell 1
    have y0 := hbx.free 0
    have y1 := hbx.free 1
    have hbw := chain hbw1 hb2
    clear k0 k1 k2 k3
    go_wp2_with fail
    rw [Hc.out, Hi.out]
    exact endCelE Tryz.results19 rfl rfl hbx (by omega) hbw

end Go.Proofs.YtpejcdjgggcjlaaGreatDoor

/- StonesCells: the walk. -/
import Derived.Test.YtpejcdjgggcjlaaGreatDoorJ9
import Derived.Test.YtpejcdjgggcjlaaGreatDoorJ11r
import Derived.Test.YtpejcdjgggcjlaaGreatDoorE1
import Derived.Test.YtpejcdjgggcjlaaGreatDoorF1
namespace Go.Proofs.YtpejcdjgggcjlaaGreatDoor
open Go.RowKit

/-- two faces and what is asked of the first one in their boxes -/
structure LcSt (w wr : World) (f g : Fc) (s s' : Value) (r c i k n : Int) : Prop where
  b0 : Box wr w.heap.size 24 #[.int .i64 f.eye, .int .i64 f.rings, .int .i64 f.sectors, s]
  b1 : Box wr (w.heap.size + 1) 24 #[.int .i64 g.eye, .int .i64 g.rings, .int .i64 g.sectors, s']
  b2 : Box wr (w.heap.size + 2) 28 #[.int .i64 r, .int .i64 c, .int .i64 i, .int .i64 k, .int .i64 n]
  bel : Below w.heap.size w wr
theorem LcSt.later {w wr W : World} {f g : Fc} {s s' : Value} {r c i k n : Int} (h : LcSt w wr f g s s' r c i k n) (hb : Below wr.heap.size wr W) : LcSt w W f g s s' r c i k n :=
  ⟨h.b0.later hb, h.b1.later hb, h.b2.later hb, chain h.bel hb⟩

set_option maxRecDepth 100000 in
set_option maxHeartbeats 8000000 in
theorem StonesCells_c (f g : Fc) (v u : Value) (r c i k n : Int) (w : World) (hf : IsFace w w.heap.size v f) (hg : IsFace w w.heap.size u g) (hml : ML w) :
    Calls Tryz.prog 3 #[v, u, .agg #[.int .i64 r, .int .i64 c, .int .i64 i, .int .i64 k, .int .i64 n]] w fun e w' => e = .returned (.bool true) ∧ Below w.heap.size w w' := by
  have hF := hf
  have hG := hg
  obtain ⟨s, rfl, hlen, A, cp, rfl, hcap, hcell⟩ := hf
  obtain ⟨s', rfl, hlen', A', cp', rfl, hcap', hcell'⟩ := hg
  clear hcell hcell'
  have h0 : LcSt w (((w.alloc (.cells #[.int .i64 f.eye, .int .i64 f.rings, .int .i64 f.sectors, .slice A f.kinds.length cp] 24)).alloc (.cells #[.int .i64 g.eye, .int .i64 g.rings, .int .i64 g.sectors, .slice A' g.kinds.length cp'] 24)).alloc (.cells #[.int .i64 r, .int .i64 c, .int .i64 i, .int .i64 k, .int .i64 n] 28)) f g (.slice A f.kinds.length cp) (.slice A' g.kinds.length cp') r c i k n := by
    have b1 := Box.made (w.alloc (.cells #[.int .i64 f.eye, .int .i64 f.rings, .int .i64 f.sectors, .slice A f.kinds.length cp] 24)) 24 #[.int .i64 g.eye, .int .i64 g.rings, .int .i64 g.sectors, .slice A' g.kinds.length cp']
    have b2 := Box.made ((w.alloc (.cells #[.int .i64 f.eye, .int .i64 f.rings, .int .i64 f.sectors, .slice A f.kinds.length cp] 24)).alloc (.cells #[.int .i64 g.eye, .int .i64 g.rings, .int .i64 g.sectors, .slice A' g.kinds.length cp'] 24)) 28 #[.int .i64 r, .int .i64 c, .int .i64 i, .int .i64 k, .int .i64 n]
    rw [World.size_alloc] at b1
    rw [World.size_alloc, World.size_alloc] at b2
    exact ⟨(faceBox w f _ _).alloc _, b1.alloc _, b2, (((Below.refl _ _).alloc (Nat.le_refl _) _).alloc (by simp) _).alloc (by simp; omega) _⟩
  have hml2 := hml.later h0.bel
  have eqc := eqCell
  clear hml
  go_enter Tryz.func3, Tryz.ntmps3
  go_wp2_with fail
  refine (awake_c _ hml2).mono ?_; rintro e w1 ⟨rfl, hb1⟩
  have h1 := h0.later hb1
  clear h0 hb1 hml2
  have k0 : w1.cell? ⟨w.heap.size, 0, none⟩ = some (.int .i64 f.eye) := h1.b0.cell 0
  have k1 : w1.cell? ⟨w.heap.size, 1, none⟩ = some (.int .i64 f.rings) := h1.b0.cell 1
  have k2 : w1.cell? ⟨w.heap.size, 2, none⟩ = some (.int .i64 f.sectors) := h1.b0.cell 2
  have k3 : w1.cell? ⟨w.heap.size, 3, none⟩ = some (.slice A f.kinds.length cp) := h1.b0.cell 3
  go_wp2_with fail
  refine (short_c f _ w1 (hF.mono h1.bel h1.bel.size)).mono ?_; rintro e w2 ⟨rfl, hb2⟩
  have h2 := h1.later hb2
  clear k0 k1 k2 k3 hb2 h1
  cases hsh : decide (f.kinds.length ≤ 3000)
  · go_wp2_with fail
    go_ret
    exact ⟨rfl, h2.bel⟩
  have k0 : w2.cell? ⟨w.heap.size + 1, 0, none⟩ = some (.int .i64 g.eye) := h2.b1.cell 0
  have k1 : w2.cell? ⟨w.heap.size + 1, 1, none⟩ = some (.int .i64 g.rings) := h2.b1.cell 1
  have k2 : w2.cell? ⟨w.heap.size + 1, 2, none⟩ = some (.int .i64 g.sectors) := h2.b1.cell 2
  have k3 : w2.cell? ⟨w.heap.size + 1, 3, none⟩ = some (.slice A' g.kinds.length cp') := h2.b1.cell 3
  go_wp2_with fail
  refine (short_c g _ w2 (hG.mono h2.bel h2.bel.size)).mono ?_; rintro e w3 ⟨rfl, hb3⟩
  have h3 := h2.later hb3
  clear k0 k1 k2 k3 hb3 h2
  cases hsh2 : decide (g.kinds.length ≤ 3000)
  · go_wp2_with fail
    go_ret
    exact ⟨rfl, h3.bel⟩
  clear hsh2
  have hsh3 : f.kinds.length ≤ 3000 := by simpa using hsh
  clear hsh
  have k0 : w3.cell? ⟨w.heap.size, 0, none⟩ = some (.int .i64 f.eye) := h3.b0.cell 0
  have k1 : w3.cell? ⟨w.heap.size, 1, none⟩ = some (.int .i64 f.rings) := h3.b0.cell 1
  have k2 : w3.cell? ⟨w.heap.size, 2, none⟩ = some (.int .i64 f.sectors) := h3.b0.cell 2
  have k3 : w3.cell? ⟨w.heap.size, 3, none⟩ = some (.slice A f.kinds.length cp) := h3.b0.cell 3
  have k4 : w3.cell? ⟨w.heap.size + 2, 0, none⟩ = some (.int .i64 r) := h3.b2.cell 0
  have k5 : w3.cell? ⟨w.heap.size + 2, 1, none⟩ = some (.int .i64 c) := h3.b2.cell 1
  go_wp2_with fail
  refine (At_c f _ r c w3 (hF.mono h3.bel h3.bel.size)).mono ?_; rintro e w4 ⟨rfl, hb4⟩
  have h4 := h3.later hb4
  clear k0 k1 k2 k3 k4 k5 hb4 h3
  have k0 : w4.cell? ⟨w.heap.size, 0, none⟩ = some (.int .i64 f.eye) := h4.b0.cell 0
  have k1 : w4.cell? ⟨w.heap.size, 1, none⟩ = some (.int .i64 f.rings) := h4.b0.cell 1
  have k2 : w4.cell? ⟨w.heap.size, 2, none⟩ = some (.int .i64 f.sectors) := h4.b0.cell 2
  have k3 : w4.cell? ⟨w.heap.size, 3, none⟩ = some (.slice A f.kinds.length cp) := h4.b0.cell 3
  have k4 : w4.cell? ⟨w.heap.size + 2, 0, none⟩ = some (.int .i64 r) := h4.b2.cell 0
  have k5 : w4.cell? ⟨w.heap.size + 2, 1, none⟩ = some (.int .i64 c) := h4.b2.cell 1
  go_wp2_with fail
  refine (rAt_c f _ r c w4 (hF.mono h4.bel h4.bel.size)).mono ?_; rintro e w5 ⟨rfl, hb5⟩
  have h5 := h4.later hb5
  clear k0 k1 k2 k3 k4 k5 hb5 h4
  have k0 : w5.cell? ⟨w.heap.size, 0, none⟩ = some (.int .i64 f.eye) := h5.b0.cell 0
  have k1 : w5.cell? ⟨w.heap.size, 1, none⟩ = some (.int .i64 f.rings) := h5.b0.cell 1
  have k2 : w5.cell? ⟨w.heap.size, 2, none⟩ = some (.int .i64 f.sectors) := h5.b0.cell 2
  have k3 : w5.cell? ⟨w.heap.size, 3, none⟩ = some (.slice A f.kinds.length cp) := h5.b0.cell 3
  have k4 : w5.cell? ⟨w.heap.size + 2, 0, none⟩ = some (.int .i64 r) := h5.b2.cell 0
  have k5 : w5.cell? ⟨w.heap.size + 2, 1, none⟩ = some (.int .i64 c) := h5.b2.cell 1
  have k6 : w5.cell? ⟨w.heap.size + 2, 3, none⟩ = some (.int .i64 k) := h5.b2.cell 3
  go_wp2_with fail
  refine (Set_c f _ r c k w5 (hF.mono h5.bel h5.bel.size)).mono ?_; rintro e w6 ⟨A6, n6, c6, rfl, hI6, -, hb6⟩
  have h6 := h5.later hb6
  clear k0 k1 k2 k3 k4 k5 k6 hb6 h5
  obtain ⟨G, hGG⟩ : ∃ G, G = setOf f r c k := ⟨_, rfl⟩
  rw [← hGG] at hI6 ⊢
  have HG := Lib.hid hGG
  clear hGG
  have bc := Box.made w6 24 #[.int .i64 G.eye, .int .i64 G.rings, .int .i64 G.sectors, .slice A6 n6 c6]
  have hal : Below w6.heap.size w6 (w6.alloc (.cells #[.int .i64 G.eye, .int .i64 G.rings, .int .i64 G.sectors, .slice A6 n6 c6] 24)) := (Below.refl _ _).alloc (Nat.le_refl _) _
  have h7 := h6.later hal
  have hI7 := hI6.mono hal hal.size
  have hF7 := hF.mono h7.bel h7.bel.size
  have k0 : ∀ o : Obj, (w6.alloc o).cell? ⟨w.heap.size, 0, none⟩ = some (.int .i64 f.eye) := fun o => (h6.b0.alloc o).cell 0
  have k1 : ∀ o : Obj, (w6.alloc o).cell? ⟨w.heap.size, 1, none⟩ = some (.int .i64 f.rings) := fun o => (h6.b0.alloc o).cell 1
  have k2 : ∀ o : Obj, (w6.alloc o).cell? ⟨w.heap.size, 2, none⟩ = some (.int .i64 f.sectors) := fun o => (h6.b0.alloc o).cell 2
  have k3 : ∀ o : Obj, (w6.alloc o).cell? ⟨w.heap.size, 3, none⟩ = some (.slice A f.kinds.length cp) := fun o => (h6.b0.alloc o).cell 3
  have k4 : ∀ o : Obj, (w6.alloc o).cell? ⟨w.heap.size + 2, 0, none⟩ = some (.int .i64 r) := fun o => (h6.b2.alloc o).cell 0
  have k5 : ∀ o : Obj, (w6.alloc o).cell? ⟨w.heap.size + 2, 1, none⟩ = some (.int .i64 c) := fun o => (h6.b2.alloc o).cell 1
  have k6 : ∀ o : Obj, (w6.alloc o).cell? ⟨w.heap.size + 2, 3, none⟩ = some (.int .i64 k) := fun o => (h6.b2.alloc o).cell 3
  clear hal h6 hI6
  go_wp2_with fail
  refine (rSet_c f _ r c k _ hF7).mono ?_; rintro e w8 ⟨A8, n8, c8, rfl, hI8, -, hb8⟩
  rw [← HG.out] at hI8 ⊢
  have h8 := h7.later hb8
  have bc8 := bc.later hb8
  have hI78 := hI7.mono hb8 hb8.size
  have hal : Below w8.heap.size w8 (w8.alloc (.cells #[.int .i64 G.eye, .int .i64 G.rings, .int .i64 G.sectors, .slice A8 n8 c8] 24)) := (Below.refl _ _).alloc (Nat.le_refl _) _
  have bd := Box.made w8 24 #[.int .i64 G.eye, .int .i64 G.rings, .int .i64 G.sectors, .slice A8 n8 c8]
  have h9 := h8.later hal
  have bc9 := bc8.later hal
  have hI79 := hI78.mono hal hal.size
  have hI89 := hI8.mono hal hal.size
  clear k0 k1 k2 k3 k4 k5 k6 hb8 h7 bc hI7 hF7 h8 bc8 hI78 hI8 hal
  go_wp2_with fail
  generalize w8.alloc (.cells #[.int .i64 G.eye, .int .i64 G.rings, .int .i64 G.sectors, .slice A8 n8 c8] 24) = wq at *
  generalize w6.heap.size = cb at *
  generalize w8.heap.size = db at *
  refine cells8_c f g G A A' A6 A8 _ cp _ cp' n6 c6 n8 c8 w.heap.size (w.heap.size + 1) cb db (atOf f r c) (ckCell f r c) (ckSet f r c k) wq _ _ _ _ _ _ _ _ _ _ _ _ _ _ _ _ _ _ _ _ _ _ _ _ _ _ _ _ _ _ _ _ _ _ _ _ _ _ _ _ _ _ _ _ _ _ _ _ _ _ _ _ _ _ _ _ _ _ _ _ _ _ _ _ _ _ _ _ _ _ _ _ _ _ _ _ _ _ _ _ _ _ _ _ _ _ _ _ _ _ _ _ _ _ _ _ _ _ _ _ _ _ _ _ _ _ _ _ _ _ _ _ _ _ _ _ _ _ _ _ _ _ _ _ _ _ _ _ _ _ _ _ _ _ _ _ _ _ _ _ _ _ _ _ _ _ _ _ _ _ _ _ _ _ _ _ _ _ _ _ _ _ _ _ _ _ _ _ _
    (hF.mono h9.bel h9.bel.size) (hG.mono h9.bel h9.bel.size) (IsFace.mk hI79) (IsFace.mk hI89) h9.b0 h9.b1 bc9 bd ?_
  rintro _ _ _ _ _ _ _ _ _ _ _ _ _ _ _ _ _ _ _ _ _ _ _ _ _ _ _ _ _ _ _ _ _ _ w14 hb14
  have h14 := h9.later hb14
  clear bc9 bd hI79 hI89 h9 hb14
  have k0 : w14.cell? ⟨w.heap.size, 0, none⟩ = some (.int .i64 f.eye) := h14.b0.cell 0
  have k1 : w14.cell? ⟨w.heap.size, 1, none⟩ = some (.int .i64 f.rings) := h14.b0.cell 1
  have k2 : w14.cell? ⟨w.heap.size, 2, none⟩ = some (.int .i64 f.sectors) := h14.b0.cell 2
  have k3 : w14.cell? ⟨w.heap.size, 3, none⟩ = some (.slice A f.kinds.length cp) := h14.b0.cell 3
  have k4 : w14.cell? ⟨w.heap.size + 2, 0, none⟩ = some (.int .i64 r) := h14.b2.cell 0
  have k5 : w14.cell? ⟨w.heap.size + 2, 1, none⟩ = some (.int .i64 c) := h14.b2.cell 1
  go_wp2_with fail
  refine (Index_c f _ r c w14 (hF.mono h14.bel h14.bel.size)).mono ?_; rintro e w15 ⟨rfl, hb15⟩
  have h15 := h14.later hb15
  clear k0 k1 k2 k3 k4 k5 hb15 h14
  have k0 : w15.cell? ⟨w.heap.size, 0, none⟩ = some (.int .i64 f.eye) := h15.b0.cell 0
  have k1 : w15.cell? ⟨w.heap.size, 1, none⟩ = some (.int .i64 f.rings) := h15.b0.cell 1
  have k2 : w15.cell? ⟨w.heap.size, 2, none⟩ = some (.int .i64 f.sectors) := h15.b0.cell 2
  have k3 : w15.cell? ⟨w.heap.size, 3, none⟩ = some (.slice A f.kinds.length cp) := h15.b0.cell 3
  have k4 : w15.cell? ⟨w.heap.size + 2, 0, none⟩ = some (.int .i64 r) := h15.b2.cell 0
  have k5 : w15.cell? ⟨w.heap.size + 2, 1, none⟩ = some (.int .i64 c) := h15.b2.cell 1
  go_wp2_with fail
  refine (rIndex_c f _ r c w15 (hF.mono h15.bel h15.bel.size)).mono ?_; rintro e w16 ⟨rfl, hb16⟩
  have h16 := h15.later hb16
  clear k0 k1 k2 k3 k4 k5 hb16 h15
  have k0 : w16.cell? ⟨w.heap.size, 0, none⟩ = some (.int .i64 f.eye) := h16.b0.cell 0
  have k1 : w16.cell? ⟨w.heap.size, 1, none⟩ = some (.int .i64 f.rings) := h16.b0.cell 1
  have k2 : w16.cell? ⟨w.heap.size, 2, none⟩ = some (.int .i64 f.sectors) := h16.b0.cell 2
  have k3 : w16.cell? ⟨w.heap.size, 3, none⟩ = some (.slice A f.kinds.length cp) := h16.b0.cell 3
  have k4 : w16.cell? ⟨w.heap.size + 2, 2, none⟩ = some (.int .i64 i) := h16.b2.cell 2
  go_wp2_with fail
  refine (CellOf_c f _ i w16 (hF.mono h16.bel h16.bel.size)).mono ?_; rintro e w17 ⟨rfl, hb17⟩
  have h17 := h16.later hb17
  clear k0 k1 k2 k3 k4 hb17 h16
  obtain ⟨y1, hy1⟩ : ∃ y, y = (celOf f i).1 := ⟨_, rfl⟩
  obtain ⟨y2, hy2⟩ : ∃ y, y = (celOf f i).2 := ⟨_, rfl⟩
  rw [← hy1, ← hy2]
  have Hy := Lib.hid (And.intro hy1 hy2)
  clear hy1 hy2
  have bp := Box.made w17 26 #[.int .i64 y1, .int .i64 y2]
  have hal : Below w17.heap.size w17 (w17.alloc (.cells #[.int .i64 y1, .int .i64 y2] 26)) := (Below.refl _ _).alloc (Nat.le_refl _) _
  have h18 := h17.later hal
  have k0 : ∀ o : Obj, (w17.alloc o).cell? ⟨w.heap.size, 0, none⟩ = some (.int .i64 f.eye) := fun o => (h17.b0.alloc o).cell 0
  have k1 : ∀ o : Obj, (w17.alloc o).cell? ⟨w.heap.size, 1, none⟩ = some (.int .i64 f.rings) := fun o => (h17.b0.alloc o).cell 1
  have k2 : ∀ o : Obj, (w17.alloc o).cell? ⟨w.heap.size, 2, none⟩ = some (.int .i64 f.sectors) := fun o => (h17.b0.alloc o).cell 2
  have k3 : ∀ o : Obj, (w17.alloc o).cell? ⟨w.heap.size, 3, none⟩ = some (.slice A f.kinds.length cp) := fun o => (h17.b0.alloc o).cell 3
  have k4 : ∀ o : Obj, (w17.alloc o).cell? ⟨w.heap.size + 2, 2, none⟩ = some (.int .i64 i) := fun o => (h17.b2.alloc o).cell 2
  have hF18 := hF.mono h18.bel h18.bel.size
  clear hal h17
  go_wp2_with fail
  refine (rCellOf_c f _ i _ hF18).mono ?_; rintro e w19 ⟨rfl, hb19⟩
  have h19 := h18.later hb19
  have bp19 := bp.later hb19
  rw [← Hy.out.1, ← Hy.out.2]
  clear k0 k1 k2 k3 k4 hb19 h18 bp hF18
  have bq := Box.made w19 26 #[.int .i64 y1, .int .i64 y2]
  have hal : Below w19.heap.size w19 (w19.alloc (.cells #[.int .i64 y1, .int .i64 y2] 26)) := (Below.refl _ _).alloc (Nat.le_refl _) _
  have h20 := h19.later hal
  have bp20 := bp19.later hal
  have k0 : ∀ o : Obj, (w19.alloc o).cell? ⟨w.heap.size, 0, none⟩ = some (.int .i64 f.eye) := fun o => (h19.b0.alloc o).cell 0
  have k1 : ∀ o : Obj, (w19.alloc o).cell? ⟨w.heap.size, 1, none⟩ = some (.int .i64 f.rings) := fun o => (h19.b0.alloc o).cell 1
  have k2 : ∀ o : Obj, (w19.alloc o).cell? ⟨w.heap.size, 2, none⟩ = some (.int .i64 f.sectors) := fun o => (h19.b0.alloc o).cell 2
  have k3 : ∀ o : Obj, (w19.alloc o).cell? ⟨w.heap.size, 3, none⟩ = some (.slice A f.kinds.length cp) := fun o => (h19.b0.alloc o).cell 3
  have k4 : ∀ o : Obj, (w19.alloc o).cell? ⟨w.heap.size + 2, 3, none⟩ = some (.int .i64 k) := fun o => (h19.b2.alloc o).cell 3
  have hF20 := hF.mono h20.bel h20.bel.size
  clear hal h19 bp19
  go_wp2_with fail
  refine (Cells_c f _ k _ hF20).mono ?_; rintro e w21 ⟨lv, rfl, hC, hb21⟩
  have h21 := h20.later hb21
  have bp21 := bp20.later hb21
  have bq21 := bq.later hb21
  clear k0 k1 k2 k3 k4 hb21 h20 bp20 bq hF20
  have k0 : w21.cell? ⟨w.heap.size, 0, none⟩ = some (.int .i64 f.eye) := h21.b0.cell 0
  have k1 : w21.cell? ⟨w.heap.size, 1, none⟩ = some (.int .i64 f.rings) := h21.b0.cell 1
  have k2 : w21.cell? ⟨w.heap.size, 2, none⟩ = some (.int .i64 f.sectors) := h21.b0.cell 2
  have k3 : w21.cell? ⟨w.heap.size, 3, none⟩ = some (.slice A f.kinds.length cp) := h21.b0.cell 3
  have k4 : w21.cell? ⟨w.heap.size + 2, 3, none⟩ = some (.int .i64 k) := h21.b2.cell 3
  go_wp2_with fail
  refine (rCells_c f _ k w21 (hF.mono h21.bel h21.bel.size)).mono ?_; rintro e w22 ⟨lv2, rfl, hC2, hb22⟩
  have h22 := h21.later hb22
  have bp22 := bp21.later hb22
  have bq22 := bq21.later hb22
  have hC22 := hC.mono hb22 hb22.size
  clear k0 k1 k2 k3 k4 hb22 h21 bp21 bq21 hC
  have p0 : w22.cell? ⟨w17.heap.size, 0, none⟩ = some (.int .i64 y1) := bp22.cell 0
  have p1 : w22.cell? ⟨w17.heap.size, 1, none⟩ = some (.int .i64 y2) := bp22.cell 1
  have q0 : w22.cell? ⟨w19.heap.size, 0, none⟩ = some (.int .i64 y1) := bq22.cell 0
  have q1 : w22.cell? ⟨w19.heap.size, 1, none⟩ = some (.int .i64 y2) := bq22.cell 1
  have e1 : (idxOf f r c == idxOf f r c) = true := by simp
  have e2 : (ckCell f r c == ckCell f r c) = true := by simp
  have e3 : (ckIdx f i == ckIdx f i) = true := by simp
  have e4 : (ckKind f k == ckKind f k) = true := by simp
  have e5 : (y1 == y1 && y2 == y2) = true := by simp
  have hll : (kcOf f k).length ≤ 3000 := by
    unfold kcOf
    split
    · have := kindCells_len f k f.kinds.length; omega
    · simp
  have Hll := Lib.hid hll
  clear hll hsh3
  go_wp2_with fail
  refine (rSameCells_c (kcOf f k) lv lv2 _ hC22 hC2 Hll.out).mono ?_; rintro e w23 ⟨rfl, hb23⟩
  have hbw := chain h22.bel hb23
  clear p0 p1 q0 q1 h22 hb23 hC22 hC2
  go_wp2_with fail
  go_ret
  exact ⟨rfl, hbw⟩

end Go.Proofs.YtpejcdjgggcjlaaGreatDoor

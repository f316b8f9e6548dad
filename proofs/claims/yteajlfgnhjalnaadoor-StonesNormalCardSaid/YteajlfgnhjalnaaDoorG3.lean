/- StonesNormal: the walk. -/
import Derived.Test.YteajlfgnhjalnaaDoorE1
import Derived.Test.YteajlfgnhjalnaaDoorM3
import Derived.Test.YteajlfgnhjalnaaDoorG3r
namespace Go.Proofs.YteajlfgnhjalnaaDoor
open Go.RowKit

/-- the two arguments in their boxes -/
structure NmSt (w wr : World) (f g : Fc) (s s' : Value) : Prop where
  b0 : Box wr w.heap.size 28 #[.int .i64 f.eye, .int .i64 f.rings, .int .i64 f.sectors, s]
  b1 : Box wr (w.heap.size + 1) 28 #[.int .i64 g.eye, .int .i64 g.rings, .int .i64 g.sectors, s']
  bel : Below w.heap.size w wr
theorem NmSt.later {w wr W : World} {f g : Fc} {s s' : Value} (h : NmSt w wr f g s s') (hb : Below wr.heap.size wr W) : NmSt w W f g s s' :=
  ⟨h.b0.later hb, h.b1.later hb, chain h.bel hb⟩
theorem NmSt.alloc {w wr : World} {f g : Fc} {s s' : Value} (h : NmSt w wr f g s s') (o : Obj) : NmSt w (wr.alloc o) f g s s' :=
  ⟨h.b0.alloc o, h.b1.alloc o, h.bel.alloc h.bel.size o⟩

theorem normF_nums (f : Fc) : (normF f).eye = f.eye ∧ (normF f).rings = f.rings ∧ (normF f).sectors = f.sectors := ⟨rfl, rfl, rfl⟩
theorem normF_valid {f : Fc} (hv : validB f = true) : validB (normF f) = true := by
  obtain ⟨⟨k, -, h⟩, -⟩ := norm_is hv
  rw [h]
  exact turnF_valid hv _

/-- a region that comes to its end, and what stands there -/
def onlyNormal (R : Act → World → Prop) : Exit → Act → World → Prop
  | .normal, a, w => R a w
  | _, _, _ => False
theorem cut_region {P : Program} {c : Code} {Q : Exit → Act → World → Prop} {a : Act} {w : World} (R : Act → Act → World → Prop) (h1 : c.wp P (onlyNormal (R a)) a w) (h2 : ∀ a' w', R a a' w' → Q .normal a' w') : c.wp P Q a w :=
  Code.wp_mono (fun e a' w' h => by
    cases e <;> first | exact h2 a' w' h | exact (h : False).elim) h1
/-- what is known behind the turned face's making -/
def turnedAt (wr : World) (g : Fc) (a a' : Act) (wt : World) : Prop :=
  ∃ (bt : Nat) (A16 : Option Addr) (n16 c16 : Nat) (y148 y149 y150 y151 y152 y153 y154 y155 y156 : Value),
    a' = { tmps := (((((((((((a.tmps.setIfInBounds 23 (.pointer (some ⟨bt, 0, none⟩))).setIfInBounds 24 (.int .i64 0)).setIfInBounds 148 y148).setIfInBounds 149 y149).setIfInBounds 150 y150).setIfInBounds 151 y151).setIfInBounds 152 y152).setIfInBounds 153 y153).setIfInBounds 154 y154).setIfInBounds 155 y155).setIfInBounds 156 y156), defers := a.defers } ∧
    Box wt bt 28 #[.int .i64 g.eye, .int .i64 g.rings, .int .i64 g.sectors, .slice A16 n16 c16] ∧ Below wr.heap.size wr wt ∧ Ints wt wt.heap.size (.slice A16 n16 c16) g.kinds

theorem turnedAt_of {wr : World} {g : Fc} {a a' : Act} {wt : World} (bt : Nat) (A16 : Option Addr) (n16 c16 : Nat)
    (h : a' = { tmps := (((((((((((a.tmps.setIfInBounds 23 (.pointer (some ⟨bt, 0, none⟩))).setIfInBounds 24 (.int .i64 0)).setIfInBounds 148 (a'.tmps.getD 148 undef)).setIfInBounds 149 (a'.tmps.getD 149 undef)).setIfInBounds 150 (a'.tmps.getD 150 undef)).setIfInBounds 151 (a'.tmps.getD 151 undef)).setIfInBounds 152 (a'.tmps.getD 152 undef)).setIfInBounds 153 (a'.tmps.getD 153 undef)).setIfInBounds 154 (a'.tmps.getD 154 undef)).setIfInBounds 155 (a'.tmps.getD 155 undef)).setIfInBounds 156 (a'.tmps.getD 156 undef)), defers := a.defers })
    (bT : Box wt bt 28 #[.int .i64 g.eye, .int .i64 g.rings, .int .i64 g.sectors, .slice A16 n16 c16]) (hW : Below wr.heap.size wr wt) (iT : Ints wt wt.heap.size (.slice A16 n16 c16) g.kinds) : turnedAt wr g a a' wt :=
  ⟨bt, A16, n16, c16, _, _, _, _, _, _, _, _, _, h, bT, hW, iT⟩

set_option maxRecDepth 100000 in
set_option maxHeartbeats 4000000 in
theorem StonesNormal_c (f g : Fc) (v u : Value) (by_ : Int) (w : World) (hf : IsFace w w.heap.size v f) (hg : IsFace w w.heap.size u g) (hml : ML w) :
    Calls Tryd.prog 8 #[v, u, .int .i64 by_] w fun e w' => e = .returned (.bool true) ∧ Below w.heap.size w w' := by
  have hF := hf
  have hG := hg
  obtain ⟨s, rfl, hlen, A, cp, rfl, hcap, hcell⟩ := hf
  obtain ⟨s', rfl, hlen', A', cp', rfl, hcap', hcell'⟩ := hg
  clear hcell hcell'
  have h0 : NmSt w ((w.alloc (.cells #[.int .i64 f.eye, .int .i64 f.rings, .int .i64 f.sectors, .slice A f.kinds.length cp] 28)).alloc (.cells #[.int .i64 g.eye, .int .i64 g.rings, .int .i64 g.sectors, .slice A' g.kinds.length cp'] 28)) f g (.slice A f.kinds.length cp) (.slice A' g.kinds.length cp') := by
    have b1 := Box.made (w.alloc (.cells #[.int .i64 f.eye, .int .i64 f.rings, .int .i64 f.sectors, .slice A f.kinds.length cp] 28)) 28 #[.int .i64 g.eye, .int .i64 g.rings, .int .i64 g.sectors, .slice A' g.kinds.length cp']
    rw [World.size_alloc] at b1
    exact ⟨faceBox w f _ _, b1, ((Below.refl _ _).alloc (Nat.le_refl _) _).alloc (by simp) _⟩
  have hml2 := hml.later h0.bel
  clear hml
  go_enter Tryd.func8, Tryd.ntmps8
  go_wp2_with fail
  refine (awake_c _ hml2).mono ?_; rintro e w1 ⟨rfl, hb1⟩
  have h1 := h0.later hb1
  clear h0 hb1 hml2
  have k0 : w1.cell? ⟨w.heap.size, 0, none⟩ = some (.int .i64 f.eye) := h1.b0.cell 0
  have k1 : w1.cell? ⟨w.heap.size, 1, none⟩ = some (.int .i64 f.rings) := h1.b0.cell 1
  have k2 : w1.cell? ⟨w.heap.size, 2, none⟩ = some (.int .i64 f.sectors) := h1.b0.cell 2
  have k3 : w1.cell? ⟨w.heap.size, 3, none⟩ = some (.slice A f.kinds.length cp) := h1.b0.cell 3
  go_wp2_with fail
  refine (short_c f _ w1 (hF.mono h1.bel h1.bel.size)).mono ?_; rintro e w2 ⟨rfl, hb2⟩
  have h2 := h1.later hb2
  clear k0 k1 k2 k3 hb2 h1
  cases hsh : decide (f.kinds.length ≤ 3000)
  · go_wp2_with fail
    go_ret
    exact ⟨rfl, h2.bel⟩
  clear hsh
  have k0 : w2.cell? ⟨w.heap.size + 1, 0, none⟩ = some (.int .i64 g.eye) := h2.b1.cell 0
  have k1 : w2.cell? ⟨w.heap.size + 1, 1, none⟩ = some (.int .i64 g.rings) := h2.b1.cell 1
  have k2 : w2.cell? ⟨w.heap.size + 1, 2, none⟩ = some (.int .i64 g.sectors) := h2.b1.cell 2
  have k3 : w2.cell? ⟨w.heap.size + 1, 3, none⟩ = some (.slice A' g.kinds.length cp') := h2.b1.cell 3
  go_wp2_with fail
  refine (short_c g _ w2 (hG.mono h2.bel h2.bel.size)).mono ?_; rintro e w3 ⟨rfl, hb3⟩
  have h3 := h2.later hb3
  clear k0 k1 k2 k3 hb3 h2
  cases hsh : decide (g.kinds.length ≤ 3000)
  · go_wp2_with fail
    go_ret
    exact ⟨rfl, h3.bel⟩
  clear hsh
  have k0 : w3.cell? ⟨w.heap.size, 0, none⟩ = some (.int .i64 f.eye) := h3.b0.cell 0
  have k1 : w3.cell? ⟨w.heap.size, 1, none⟩ = some (.int .i64 f.rings) := h3.b0.cell 1
  have k2 : w3.cell? ⟨w.heap.size, 2, none⟩ = some (.int .i64 f.sectors) := h3.b0.cell 2
  have k3 : w3.cell? ⟨w.heap.size, 3, none⟩ = some (.slice A f.kinds.length cp) := h3.b0.cell 3
  go_wp2_with fail
  refine (Valid_c f _ w3 (hF.mono h3.bel h3.bel.size)).mono ?_; rintro e w4 ⟨rfl, hb4⟩
  have h4 := h3.later hb4
  clear k0 k1 k2 k3 hb4 h3
  cases hv : validB f
  · go_wp2_with fail
    go_ret
    exact ⟨rfl, h4.bel⟩
  have k0 : w4.cell? ⟨w.heap.size + 1, 0, none⟩ = some (.int .i64 g.eye) := h4.b1.cell 0
  have k1 : w4.cell? ⟨w.heap.size + 1, 1, none⟩ = some (.int .i64 g.rings) := h4.b1.cell 1
  have k2 : w4.cell? ⟨w.heap.size + 1, 2, none⟩ = some (.int .i64 g.sectors) := h4.b1.cell 2
  have k3 : w4.cell? ⟨w.heap.size + 1, 3, none⟩ = some (.slice A' g.kinds.length cp') := h4.b1.cell 3
  go_wp2_with fail
  refine (Valid_c g _ w4 (hG.mono h4.bel h4.bel.size)).mono ?_; rintro e w5 ⟨rfl, hb5⟩
  have h5 := h4.later hb5
  clear k0 k1 k2 k3 hb5 h4
  cases hvg : validB g
  · go_wp2_with fail
    go_ret
    exact ⟨rfl, h5.bel⟩
  have k0 : w5.cell? ⟨w.heap.size, 0, none⟩ = some (.int .i64 f.eye) := h5.b0.cell 0
  have k1 : w5.cell? ⟨w.heap.size, 1, none⟩ = some (.int .i64 f.rings) := h5.b0.cell 1
  have k2 : w5.cell? ⟨w.heap.size, 2, none⟩ = some (.int .i64 f.sectors) := h5.b0.cell 2
  have k3 : w5.cell? ⟨w.heap.size, 3, none⟩ = some (.slice A f.kinds.length cp) := h5.b0.cell 3
  go_wp2_with fail
  refine (Turn_c f _ by_ w5 (hF.mono h5.bel h5.bel.size)).mono ?_; rintro e w6 ⟨A6, n6, c6, rfl, hI6, -, hb6⟩
  rw [if_pos hv] at hI6
  rw [if_pos hv, if_pos hv]
  have h6 := h5.later hb6
  clear k0 k1 k2 k3 hb6 h5
  rw [turnF_eye, turnF_rings, turnF_sectors]
  have bX := Box.made w6 28 #[.int .i64 f.eye, .int .i64 f.rings, .int .i64 f.sectors, .slice A6 n6 c6]
  have h6a := h6.alloc (.cells #[.int .i64 f.eye, .int .i64 f.rings, .int .i64 f.sectors, .slice A6 n6 c6] 28)
  have iX := hI6.box (.cells #[.int .i64 f.eye, .int .i64 f.rings, .int .i64 f.sectors, .slice A6 n6 c6] 28)
  clear hI6
  have q0 : ∀ o : Obj, (w6.alloc o).cell? ⟨w.heap.size, 0, none⟩ = some (.int .i64 f.eye) := fun o => (h6.b0.alloc o).cell 0
  have q1 : ∀ o : Obj, (w6.alloc o).cell? ⟨w.heap.size, 1, none⟩ = some (.int .i64 f.rings) := fun o => (h6.b0.alloc o).cell 1
  have q2 : ∀ o : Obj, (w6.alloc o).cell? ⟨w.heap.size, 2, none⟩ = some (.int .i64 f.sectors) := fun o => (h6.b0.alloc o).cell 2
  have q3 : ∀ o : Obj, (w6.alloc o).cell? ⟨w.heap.size, 3, none⟩ = some (.slice A f.kinds.length cp) := fun o => (h6.b0.alloc o).cell 3
  go_wp2_with fail
  refine (Normal_c f _ _ (hF.mono h6a.bel h6a.bel.size)).mono ?_; rintro e w7 ⟨A7, n7, c7, rfl, hI7, -, hb7⟩
  rw [if_pos hv] at hI7
  rw [if_pos hv, if_pos hv, (normF_nums f).1, (normF_nums f).2.1, (normF_nums f).2.2]
  have h7 := h6a.later hb7
  have bX := bX.later hb7
  have iX := iX.mono hb7 hb7.size
  clear q0 q1 q2 q3 hb7 h6a h6
  have bA := Box.made w7 28 #[.int .i64 f.eye, .int .i64 f.rings, .int .i64 f.sectors, .slice A7 n7 c7]
  have h7a := h7.alloc (.cells #[.int .i64 f.eye, .int .i64 f.rings, .int .i64 f.sectors, .slice A7 n7 c7] 28)
  have iA := hI7.box (.cells #[.int .i64 f.eye, .int .i64 f.rings, .int .i64 f.sectors, .slice A7 n7 c7] 28)
  have iX := iX.box (.cells #[.int .i64 f.eye, .int .i64 f.rings, .int .i64 f.sectors, .slice A7 n7 c7] 28)
  clear hI7
  have q0 : ∀ o : Obj, (w7.alloc o).cell? ⟨w6.heap.size, 0, none⟩ = some (.int .i64 f.eye) := fun o => (bX.alloc o).cell 0
  have q1 : ∀ o : Obj, (w7.alloc o).cell? ⟨w6.heap.size, 1, none⟩ = some (.int .i64 f.rings) := fun o => (bX.alloc o).cell 1
  have q2 : ∀ o : Obj, (w7.alloc o).cell? ⟨w6.heap.size, 2, none⟩ = some (.int .i64 f.sectors) := fun o => (bX.alloc o).cell 2
  have q3 : ∀ o : Obj, (w7.alloc o).cell? ⟨w6.heap.size, 3, none⟩ = some (.slice A6 n6 c6) := fun o => (bX.alloc o).cell 3
  go_wp2_with fail
  refine (Normal_c (turnF f by_) _ _ (IsFace.mk iX)).mono ?_; rintro e w8 ⟨A8, n8, c8, rfl, hI8, -, hb8⟩
  rw [if_pos (turnF_valid hv by_), norm_turn hv by_] at hI8
  rw [if_pos (turnF_valid hv by_), if_pos (turnF_valid hv by_), norm_turn hv by_, (normF_nums f).1, (normF_nums f).2.1, (normF_nums f).2.2]
  have h8 := h7a.later hb8
  have bA := bA.later hb8
  have iA := iA.mono hb8 hb8.size
  clear q0 q1 q2 q3 hb8 h7a h7 bX iX
  have bB := Box.made w8 28 #[.int .i64 f.eye, .int .i64 f.rings, .int .i64 f.sectors, .slice A8 n8 c8]
  have h8a := h8.alloc (.cells #[.int .i64 f.eye, .int .i64 f.rings, .int .i64 f.sectors, .slice A8 n8 c8] 28)
  have iB := hI8.box (.cells #[.int .i64 f.eye, .int .i64 f.rings, .int .i64 f.sectors, .slice A8 n8 c8] 28)
  have iA := iA.box (.cells #[.int .i64 f.eye, .int .i64 f.rings, .int .i64 f.sectors, .slice A8 n8 c8] 28)
  have bA := bA.alloc (.cells #[.int .i64 f.eye, .int .i64 f.rings, .int .i64 f.sectors, .slice A8 n8 c8] 28)
  clear hI8
  have q0 : ∀ o : Obj, (w8.alloc o).cell? ⟨w.heap.size + 1, 0, none⟩ = some (.int .i64 g.eye) := fun o => (h8.b1.alloc o).cell 0
  have q1 : ∀ o : Obj, (w8.alloc o).cell? ⟨w.heap.size + 1, 1, none⟩ = some (.int .i64 g.rings) := fun o => (h8.b1.alloc o).cell 1
  have q2 : ∀ o : Obj, (w8.alloc o).cell? ⟨w.heap.size + 1, 2, none⟩ = some (.int .i64 g.sectors) := fun o => (h8.b1.alloc o).cell 2
  have q3 : ∀ o : Obj, (w8.alloc o).cell? ⟨w.heap.size + 1, 3, none⟩ = some (.slice A' g.kinds.length cp') := fun o => (h8.b1.alloc o).cell 3
  go_wp2_with fail
  refine (Normal_c g _ _ (hG.mono h8a.bel h8a.bel.size)).mono ?_; rintro e w9 ⟨A9, n9, c9, rfl, hI9, -, hb9⟩
  rw [if_pos hvg] at hI9
  rw [if_pos hvg, if_pos hvg, (normF_nums g).1, (normF_nums g).2.1, (normF_nums g).2.2]
  have h9 := h8a.later hb9
  have bA := bA.later hb9
  have bB := bB.later hb9
  have iA := iA.mono hb9 hb9.size
  have iB := iB.mono hb9 hb9.size
  clear q0 q1 q2 q3 hb9 h8a h8
  have bC := Box.made w9 28 #[.int .i64 g.eye, .int .i64 g.rings, .int .i64 g.sectors, .slice A9 n9 c9]
  have h9a := h9.alloc (.cells #[.int .i64 g.eye, .int .i64 g.rings, .int .i64 g.sectors, .slice A9 n9 c9] 28)
  have iC := hI9.box (.cells #[.int .i64 g.eye, .int .i64 g.rings, .int .i64 g.sectors, .slice A9 n9 c9] 28)
  have iA := iA.box (.cells #[.int .i64 g.eye, .int .i64 g.rings, .int .i64 g.sectors, .slice A9 n9 c9] 28)
  have iB := iB.box (.cells #[.int .i64 g.eye, .int .i64 g.rings, .int .i64 g.sectors, .slice A9 n9 c9] 28)
  clear hI9
  have q0 : ∀ o : Obj, (w9.alloc o).cell? ⟨w.heap.size, 0, none⟩ = some (.int .i64 f.eye) := fun o => (h9.b0.alloc o).cell 0
  have q1 : ∀ o : Obj, (w9.alloc o).cell? ⟨w.heap.size, 1, none⟩ = some (.int .i64 f.rings) := fun o => (h9.b0.alloc o).cell 1
  have q2 : ∀ o : Obj, (w9.alloc o).cell? ⟨w.heap.size, 2, none⟩ = some (.int .i64 f.sectors) := fun o => (h9.b0.alloc o).cell 2
  have q3 : ∀ o : Obj, (w9.alloc o).cell? ⟨w.heap.size, 3, none⟩ = some (.slice A f.kinds.length cp) := fun o => (h9.b0.alloc o).cell 3
  have p0 : ∀ o : Obj, (w9.alloc o).cell? ⟨w7.heap.size, 0, none⟩ = some (.int .i64 f.eye) := fun o => (bA.alloc o).cell 0
  have p1 : ∀ o : Obj, (w9.alloc o).cell? ⟨w7.heap.size, 1, none⟩ = some (.int .i64 f.rings) := fun o => (bA.alloc o).cell 1
  have p2 : ∀ o : Obj, (w9.alloc o).cell? ⟨w7.heap.size, 2, none⟩ = some (.int .i64 f.sectors) := fun o => (bA.alloc o).cell 2
  have p3 : ∀ o : Obj, (w9.alloc o).cell? ⟨w7.heap.size, 3, none⟩ = some (.slice A7 n7 c7) := fun o => (bA.alloc o).cell 3
  go_wp2_with fail
  refine (Turns_c f (normF f) _ _ _ (hF.mono h9a.bel h9a.bel.size) (IsFace.mk iA)).mono ?_; rintro e w10 ⟨A10, n10, c10, rfl, hI10, -, hb10⟩
  have hAnd : (validB f && validB (normF f)) = true := by rw [hv, normF_valid hv]; rfl
  rw [if_pos hAnd] at hI10
  rw [if_pos hAnd]
  have h10 := h9a.later hb10
  have bA := (bA.alloc _).later hb10
  have bB := (bB.alloc _).later hb10
  have bC := bC.later hb10
  have iA := iA.mono hb10 hb10.size
  have iB := iB.mono hb10 hb10.size
  have iC := iC.mono hb10 hb10.size
  clear q0 q1 q2 q3 p0 p1 p2 p3 hb10 h9a h9 hAnd
  obtain ⟨R, S, hR, hS, s1, s2, -, -, s5, s6, s7⟩ := dims hv
  have hpp : 1 ≤ perN f ∧ perN f ≤ S ∧ S % perN f = 0 := by
    obtain ⟨p1, p2, -, -⟩ := perN_is hv
    exact ⟨p1, by omega, per_dvd hv S hS⟩
  rw [s7] at hI10
  have hown : 0 < n10 ∧ n10 ≤ 96 := by
    obtain ⟨-, A', c', e, -⟩ := hI10
    injection e with _ e
    obtain ⟨⟨k, k1, k2⟩, -⟩ := norm_is hv
    rw [e, turnsN_is hv S hS k (by omega) k2.symm, List.length_map, List.length_range]
    exact ⟨Nat.div_pos hpp.2.1 (by omega), Nat.le_trans (Nat.div_le_self _ _) s2⟩
  have Hd := Lib.hid (show f.sectors = (S : Int) ∧ f.sectors.toNat = S ∧ S ≤ 96 ∧ f.rings = (R : Int) ∧ f.kinds.length = R * S from ⟨hS, s7, s2, hR, s5⟩)
  have Hp := Lib.hid hpp
  clear hR hS s1 s2 s5 s6 s7 hpp hI10
  have q0 : w10.cell? ⟨w.heap.size, 0, none⟩ = some (.int .i64 f.eye) := h10.b0.cell 0
  have q1 : w10.cell? ⟨w.heap.size, 1, none⟩ = some (.int .i64 f.rings) := h10.b0.cell 1
  have q2 : w10.cell? ⟨w.heap.size, 2, none⟩ = some (.int .i64 f.sectors) := h10.b0.cell 2
  have q3 : w10.cell? ⟨w.heap.size, 3, none⟩ = some (.slice A f.kinds.length cp) := h10.b0.cell 3
  have p0 : w10.cell? ⟨w.heap.size + 1, 0, none⟩ = some (.int .i64 g.eye) := h10.b1.cell 0
  have p1 : w10.cell? ⟨w.heap.size + 1, 1, none⟩ = some (.int .i64 g.rings) := h10.b1.cell 1
  have p2 : w10.cell? ⟨w.heap.size + 1, 2, none⟩ = some (.int .i64 g.sectors) := h10.b1.cell 2
  have p3 : w10.cell? ⟨w.heap.size + 1, 3, none⟩ = some (.slice A' g.kinds.length cp') := h10.b1.cell 3
  go_wp2_with fail
  refine (Turns_c f g _ _ _ (hF.mono h10.bel h10.bel.size) (hG.mono h10.bel h10.bel.size)).mono ?_; rintro e w11 ⟨A11, n11, c11, rfl, hI11, -, hb11⟩
  have hAnd : (validB f && validB g) = true := by rw [hv, hvg]; rfl
  rw [if_pos hAnd, Hd.out.2.1] at hI11
  rw [if_pos hAnd]
  have h11 := h10.later hb11
  have bA := bA.later hb11
  have bB := bB.later hb11
  have bC := bC.later hb11
  have iA := iA.mono hb11 hb11.size
  have iB := iB.mono hb11 hb11.size
  have iC := iC.mono hb11 hb11.size
  clear q0 q1 q2 q3 p0 p1 p2 p3 hb11 h10 hAnd
  have q0 : w11.cell? ⟨w.heap.size, 0, none⟩ = some (.int .i64 f.eye) := h11.b0.cell 0
  have q1 : w11.cell? ⟨w.heap.size, 1, none⟩ = some (.int .i64 f.rings) := h11.b0.cell 1
  have q2 : w11.cell? ⟨w.heap.size, 2, none⟩ = some (.int .i64 f.sectors) := h11.b0.cell 2
  have q3 : w11.cell? ⟨w.heap.size, 3, none⟩ = some (.slice A f.kinds.length cp) := h11.b0.cell 3
  go_wp2_with fail
  refine (Period_c f _ _ (hF.mono h11.bel h11.bel.size)).mono ?_; rintro e w12 ⟨rfl, hb12⟩
  rw [if_pos hv, if_pos hv]
  have h12 := h11.later hb12
  have bA := bA.later hb12
  have bB := bB.later hb12
  have bC := bC.later hb12
  have iA := iA.mono hb12 hb12.size
  have iB := iB.mono hb12 hb12.size
  have iC := iC.mono hb12 hb12.size
  have hL := hI11.mono hb12 hb12.size
  clear q0 q1 q2 q3 hb12 h11 hI11
  obtain ⟨hl8, A8', c8', e8, hc8, hd8⟩ := hL
  obtain ⟨rfl, hn11, rfl⟩ : A11 = A8' ∧ n11 = (turnsN f g S).length ∧ c11 = c8' := by injection e8 with q1 q2 q3; exact ⟨q1, q2, q3⟩
  clear e8 hl8 hc8
  have hiff : sameB (normF f) (normF g) = true ↔ ∃ k : Nat, (k : Int) < f.sectors ∧ turnF f (k : Int) = g := sameB_iff.trans (norm_iff hv hvg)
  have Hiff := Lib.hid hiff
  have Hn11 := Lib.hid hn11
  have Hd8 := Lib.hid hd8
  clear hiff hn11 hd8
  have p1 : 1 ≤ ((perN f : Nat) : Int) := by have := Hp.out; omega
  have p2 : f.sectors % ((perN f : Nat) : Int) = 0 := by rw [Hd.out.1]; have := Hp.out.2.2; omega
  have p3 : 0 ≤ f.sectors := by rw [Hd.out.1]; omega
  have p4 : f.sectors ≤ 96 := by rw [Hd.out.1]; have := Hd.out.2.2.1; omega
  have o1 : ((n10 : Int) == 0) = false := by have := hown.1; simp; omega
  have o2 : ¬ n10 = 0 := by omega
  obtain ⟨p, hp⟩ : ∃ p : Nat, p = perN f := ⟨_, rfl⟩
  have HP := Lib.hid hp
  rw [← hp] at p1 p2 ⊢
  clear hp
  have o3 : ¬ (p : Int) < 1 := by omega
  have o4 : ¬ p = 0 := by omega
  have q0 : w12.cell? ⟨w7.heap.size, 0, none⟩ = some (.int .i64 f.eye) := bA.cell 0
  have q1 : w12.cell? ⟨w7.heap.size, 1, none⟩ = some (.int .i64 f.rings) := bA.cell 1
  have q2 : w12.cell? ⟨w7.heap.size, 2, none⟩ = some (.int .i64 f.sectors) := bA.cell 2
  have q3 : w12.cell? ⟨w7.heap.size, 3, none⟩ = some (.slice A7 n7 c7) := bA.cell 3
  have r0 : w12.cell? ⟨w8.heap.size, 0, none⟩ = some (.int .i64 f.eye) := bB.cell 0
  have r1 : w12.cell? ⟨w8.heap.size, 1, none⟩ = some (.int .i64 f.rings) := bB.cell 1
  have r2 : w12.cell? ⟨w8.heap.size, 2, none⟩ = some (.int .i64 f.sectors) := bB.cell 2
  have r3 : w12.cell? ⟨w8.heap.size, 3, none⟩ = some (.slice A8 n8 c8) := bB.cell 3
  cases hsm : sameB (normF f) (normF g)
  · obtain rfl : n11 = 0 := by
      rw [Hn11.out, turnsN_none, List.length_nil]
      intro k hk e
      rw [Hiff.out.2 ⟨k, by rw [Hd.out.1]; omega, e⟩] at hsm
      cases hsm
    go_wp2_with fail
    refine (Same_c (normF f) (normF f) _ _ _ (IsFace.mk iA) (IsFace.mk iB)).mono ?_; rintro e w13 ⟨rfl, hb13⟩
    rw [sameB_iff.2 rfl]
    have h13 := h12.later hb13
    have bA := bA.later hb13
    have bC := bC.later hb13
    have iA := iA.mono hb13 hb13.size
    have iC := iC.mono hb13 hb13.size
    clear q0 q1 q2 q3 r0 r1 r2 r3 hb13 bB iB h12
    have q0 : w13.cell? ⟨w7.heap.size, 0, none⟩ = some (.int .i64 f.eye) := bA.cell 0
    have q1 : w13.cell? ⟨w7.heap.size, 1, none⟩ = some (.int .i64 f.rings) := bA.cell 1
    have q2 : w13.cell? ⟨w7.heap.size, 2, none⟩ = some (.int .i64 f.sectors) := bA.cell 2
    have q3 : w13.cell? ⟨w7.heap.size, 3, none⟩ = some (.slice A7 n7 c7) := bA.cell 3
    have r0 : w13.cell? ⟨w9.heap.size, 0, none⟩ = some (.int .i64 g.eye) := bC.cell 0
    have r1 : w13.cell? ⟨w9.heap.size, 1, none⟩ = some (.int .i64 g.rings) := bC.cell 1
    have r2 : w13.cell? ⟨w9.heap.size, 2, none⟩ = some (.int .i64 g.sectors) := bC.cell 2
    have r3 : w13.cell? ⟨w9.heap.size, 3, none⟩ = some (.slice A9 n9 c9) := bC.cell 3
    go_wp2_with fail
    refine (Same_c (normF f) (normF g) _ _ _ (IsFace.mk iA) (IsFace.mk iC)).mono ?_; rintro e w14 ⟨rfl, hb14⟩
    rw [hsm]
    have h14 := h13.later hb14
    clear q0 q1 q2 q3 r0 r1 r2 r3 hb14 bA bC iA iC h13
    have q0 : w14.cell? ⟨w.heap.size, 0, none⟩ = some (.int .i64 f.eye) := h14.b0.cell 0
    have q1 : w14.cell? ⟨w.heap.size, 1, none⟩ = some (.int .i64 f.rings) := h14.b0.cell 1
    have q2 : w14.cell? ⟨w.heap.size, 2, none⟩ = some (.int .i64 f.sectors) := h14.b0.cell 2
    have q3 : w14.cell? ⟨w.heap.size, 3, none⟩ = some (.slice A f.kinds.length cp) := h14.b0.cell 3
    go_wp2_with fail
    go_ret
    exact ⟨rfl, h14.bel⟩
  · obtain ⟨k, k1, k2⟩ := Hiff.out.1 hsm
    have hlist := turnsN_is hv S Hd.out.1 k (by have := Hd.out.1; omega) k2
    rw [← HP.out] at hlist
    have hnn : n11 = S / p := by rw [Hn11.out, hlist, List.length_map, List.length_range]
    have hpS : 1 ≤ n11 ∧ n11 ≤ 96 := by
      rw [hnn]
      have := Hp.out
      rw [← HP.out] at this
      exact ⟨Nat.div_pos this.2.1 (by omega), Nat.le_trans (Nat.div_le_self _ _) Hd.out.2.2.1⟩
    have hel : ∀ i, i < n11 → nth (turnsN f g S) i = ((k % p + i * p : Nat) : Int) := by
      intro i hi
      rw [hlist]
      unfold nth
      rw [List.getD_eq_getElem?_getD, List.getElem?_map, List.getElem?_range (by omega)]
      rfl
    have hturn : ∀ i, i < n11 → turnF f ((k % p + i * p : Nat) : Int) = g := by
      intro i hi
      have hm : nth (turnsN f g S) i ∈ turnsN f g S := by
        rw [nth_get (by rw [← Hn11.out]; exact hi)]
        exact List.getElem_mem _
      rw [hel i hi] at hm
      unfold turnsN at hm
      rw [List.mem_map] at hm
      obtain ⟨x, x1, x2⟩ := hm
      rw [List.mem_filter] at x1
      have x3 : x = k % p + i * p := by omega
      rw [← x3]
      exact sameB_iff.1 x1.2
    have hsm2 : ∀ i, i < n11 → k % p + i * p ≤ 96 := by
      intro i hi
      have x1 : k % p < p := Nat.mod_lt _ (by omega)
      have x2 : (i + 1) * p ≤ n11 * p := Nat.mul_le_mul_right _ hi
      have x3 : n11 * p ≤ S := by rw [hnn]; exact Nat.div_mul_le_self _ _
      have x4 := Hd.out.2.2.1
      rw [Nat.succ_mul] at x2
      omega
    have Hel := Lib.hid hel
    have Hturn := Lib.hid hturn
    have Hsm := Lib.hid hsm2
    have Hnn := Lib.hid hnn
    have o5 : ¬ n11 = 0 := by omega
    clear hlist hel hturn hsm2 hnn k1 k2
    go_wp2_with fail
    refine (Same_c (normF f) (normF f) _ _ _ (IsFace.mk iA) (IsFace.mk iB)).mono ?_; rintro e w13 ⟨rfl, hb13⟩
    rw [sameB_iff.2 rfl]
    have h13 := h12.later hb13
    have bA := bA.later hb13
    have bC := bC.later hb13
    have iA := iA.mono hb13 hb13.size
    have iC := iC.mono hb13 hb13.size
    have L13 := hb13
    clear q0 q1 q2 q3 r0 r1 r2 r3 bB iB h12
    have q0 : w13.cell? ⟨w7.heap.size, 0, none⟩ = some (.int .i64 f.eye) := bA.cell 0
    have q1 : w13.cell? ⟨w7.heap.size, 1, none⟩ = some (.int .i64 f.rings) := bA.cell 1
    have q2 : w13.cell? ⟨w7.heap.size, 2, none⟩ = some (.int .i64 f.sectors) := bA.cell 2
    have q3 : w13.cell? ⟨w7.heap.size, 3, none⟩ = some (.slice A7 n7 c7) := bA.cell 3
    have r0 : w13.cell? ⟨w9.heap.size, 0, none⟩ = some (.int .i64 g.eye) := bC.cell 0
    have r1 : w13.cell? ⟨w9.heap.size, 1, none⟩ = some (.int .i64 g.rings) := bC.cell 1
    have r2 : w13.cell? ⟨w9.heap.size, 2, none⟩ = some (.int .i64 g.sectors) := bC.cell 2
    have r3 : w13.cell? ⟨w9.heap.size, 3, none⟩ = some (.slice A9 n9 c9) := bC.cell 3
    go_wp2_with fail
    refine (Same_c (normF f) (normF g) _ _ _ (IsFace.mk iA) (IsFace.mk iC)).mono ?_; rintro e w14 ⟨rfl, hb14⟩
    rw [hsm]
    have h14 := h13.later hb14
    have L14 := chain L13 hb14
    clear q0 q1 q2 q3 r0 r1 r2 r3 hb14 bA bC iA iC h13 L13 hb13
    have q0 : w14.cell? ⟨w.heap.size, 0, none⟩ = some (.int .i64 f.eye) := h14.b0.cell 0
    have q1 : w14.cell? ⟨w.heap.size, 1, none⟩ = some (.int .i64 f.rings) := h14.b0.cell 1
    have q2 : w14.cell? ⟨w.heap.size, 2, none⟩ = some (.int .i64 f.sectors) := h14.b0.cell 2
    have q3 : w14.cell? ⟨w.heap.size, 3, none⟩ = some (.slice A f.kinds.length cp) := h14.b0.cell 3
    go_wp2_with fail
    clear q0 q1 q2 q3
    go_loopw [22] (fun iv wr => ∃ i : Nat, i ≤ n11 ∧ iv = .int .i64 (i : Int) ∧ Below w14.heap.size w14 wr) (fun iv _ => n11 - (intOf iv).toNat)
    case atStart => exact ⟨0, Nat.zero_le _, rfl, Below.refl _ _⟩
    case round =>
      obtain ⟨i, hi, rfl, hbr⟩ := hrel
      have hr := h14.later hbr
      clear h14
      by_cases hlt : i < n11
      · have Hlt := Lib.hid (show i + 1 ≤ n11 ∧ n11 - (i + 1) < n11 - i by omega)
        have hi96 : i ≤ 96 := by omega
        have hd : decide ((i : Int) < (n11 : Int)) = true := by simpa using hlt
        have i0 : (0 : Int) ≤ (i : Int) := Int.natCast_nonneg _
        have i1 : (i : Int) < (n11 : Int) := by omega
        obtain ⟨b, off, rfl, hbB, hcc⟩ := Hd8.out (by rw [← Hn11.out]; omega)
        have hx := keepd (hcc i (by rw [← Hn11.out]; exact hlt)) (chain L14 hbr) hbB
        rw [Hel.out i hlt] at hx
        have hprev : 0 < i → wr.cell? ⟨b, off + (i - 1), none⟩ = some (.int .i64 ((k % p + (i - 1) * p : Nat) : Int)) ∧ k % p + i * p = k % p + (i - 1) * p + p := fun h0 => by
          have e := keepd (hcc (i - 1) (by rw [← Hn11.out]; omega)) (chain L14 hbr) hbB
          rw [Hel.out (i - 1) (by omega)] at e
          refine ⟨e, ?_⟩
          obtain ⟨j, rfl⟩ : ∃ j, i = j + 1 := ⟨i - 1, by omega⟩
          rw [Nat.succ_mul, Nat.add_sub_cancel]
          omega
        have Hprev := Lib.hid hprev
        clear hprev
        have hbW : b < wr.heap.size := Nat.lt_of_lt_of_le hbB (chain L14 hbr).size
        have hbW2 : ¬ b = wr.heap.size := by omega
        obtain ⟨li, hli⟩ : ∃ li : Nat, li = k % p + i * p := ⟨_, rfl⟩
        have Hli := Lib.hid hli
        rw [← hli] at hx
        have ht := Hturn.out i hlt
        rw [← hli] at ht
        have Ht := Lib.hid ht
        have hl96 : li ≤ 96 := by rw [hli]; exact Hsm.out i hlt
        have hsz := hr.b1.lt
        have hFr := hF.mono hr.bel hr.bel.size
        have hdr : Below wr.heap.size wr wr.drew := (Below.refl _ _).drew
        have hFd := hFr.mono hdr hdr.size
        have hwr1 : ¬ w.heap.size = wr.heap.size := by omega
        have hwr2 : ¬ w.heap.size + 1 = wr.heap.size := by omega
        have qa0 : ∀ o : Obj, (wr.alloc o).cell? ⟨w.heap.size, 0, none⟩ = some (.int .i64 f.eye) := fun o => (hr.b0.alloc o).cell 0
        have qa1 : ∀ o : Obj, (wr.alloc o).cell? ⟨w.heap.size, 1, none⟩ = some (.int .i64 f.rings) := fun o => (hr.b0.alloc o).cell 1
        have qa2 : ∀ o : Obj, (wr.alloc o).cell? ⟨w.heap.size, 2, none⟩ = some (.int .i64 f.sectors) := fun o => (hr.b0.alloc o).cell 2
        have qa3 : ∀ o : Obj, (wr.alloc o).cell? ⟨w.heap.size, 3, none⟩ = some (.slice A f.kinds.length cp) := fun o => (hr.b0.alloc o).cell 3
        clear hcc ht hli hdr
        have q0 : wr.cell? ⟨w.heap.size, 0, none⟩ = some (.int .i64 f.eye) := hr.b0.cell 0
        have q1 : wr.cell? ⟨w.heap.size, 1, none⟩ = some (.int .i64 f.rings) := hr.b0.cell 1
        have q2 : wr.cell? ⟨w.heap.size, 2, none⟩ = some (.int .i64 f.sectors) := hr.b0.cell 2
        have q3 : wr.cell? ⟨w.heap.size, 3, none⟩ = some (.slice A f.kinds.length cp) := hr.b0.cell 3
        have r0 : wr.cell? ⟨w.heap.size + 1, 0, none⟩ = some (.int .i64 g.eye) := hr.b1.cell 0
        have r1 : wr.cell? ⟨w.heap.size + 1, 1, none⟩ = some (.int .i64 g.rings) := hr.b1.cell 1
        have r2 : wr.cell? ⟨w.heap.size + 1, 2, none⟩ = some (.int .i64 g.sectors) := hr.b1.cell 2
        have r3 : wr.cell? ⟨w.heap.size + 1, 3, none⟩ = some (.slice A' g.kinds.length cp') := hr.b1.cell 3
        go_wp2_with fail
        refine cut_region (turnedAt wr g) ?_ ?_
        · have o6 : ((n11 : Int) == 0) = false := by simpa using o5
          rw [o6]
          go_region_law (first
            | (go_simp; go_at_call 19; refine (Turn_c f _ (li : Int) _ (by first | exact hFd | exact hFd.box _)).mono ?_; rintro e w16 ⟨A16, n16, c16, rfl, hI16, hN16, hb16⟩; rw [if_pos hv] at hI16; rw [if_pos hv, if_pos hv, Ht.out]; rw [Ht.out] at hI16; have hbw : Below wr.heap.size wr w16 := (by first | exact Below.trans ((Below.refl _ _).drew) hb16 | exact boxed (Below.trans ((Below.refl _ _).drew) hb16) | exact boxed hb16); try (have hB : Box w16 wr.heap.size 28 #[.int .i64 0, .int .i64 0, .int .i64 0, .slice none 0 0] := Box.later (by first | exact Box.made wr.drew _ _ | exact Box.made wr _ _ | exact (Box.made wr.drew _ _).later (Below.refl _ _).drew) hb16; have z0 : w16.cell? ⟨wr.heap.size, 0, none⟩ = some (.int .i64 0) := hB.cell 0; have z1 : w16.cell? ⟨wr.heap.size, 1, none⟩ = some (.int .i64 0) := hB.cell 1; have z2 : w16.cell? ⟨wr.heap.size, 2, none⟩ = some (.int .i64 0) := hB.cell 2; have z3 : w16.cell? ⟨wr.heap.size, 3, none⟩ = some (.slice none 0 0) := hB.cell 3; have y0 := hB.free 0; have y1 := hB.free 1; have y2 := hB.free 2; have y3 := hB.free 3); dsimp only))
          all_goals first
            | (have bT : Box (w16.alloc (.cells #[.int .i64 g.eye, .int .i64 g.rings, .int .i64 g.sectors, .slice A16 n16 c16] 28)) w16.heap.size 28 #[.int .i64 g.eye, .int .i64 g.rings, .int .i64 g.sectors, .slice A16 n16 c16] := Box.made _ _ _
               have hW : Below wr.heap.size wr (w16.alloc (.cells #[.int .i64 g.eye, .int .i64 g.rings, .int .i64 g.sectors, .slice A16 n16 c16] 28)) := hbw.alloc hbw.size _
               have iT := hI16.box (.cells #[.int .i64 g.eye, .int .i64 g.rings, .int .i64 g.sectors, .slice A16 n16 c16] 28)
               obtain ⟨wt, hWe⟩ : ∃ wt : World, wt = w16.alloc (.cells #[.int .i64 g.eye, .int .i64 g.rings, .int .i64 g.sectors, .slice A16 n16 c16] 28) := ⟨_, rfl⟩
               rw [← hWe] at bT hW iT ⊢
               obtain ⟨bt, hbt⟩ : ∃ bt : Nat, bt = w16.heap.size := ⟨_, rfl⟩
               rw [← hbt] at bT ⊢
               clear hWe hbt hbw hI16 hN16 hb16)
            | (have bT : Box ((((w16.setCell ⟨wr.heap.size, 0, none⟩ (.int .i64 g.eye)).setCell ⟨wr.heap.size, 1, none⟩ (.int .i64 g.rings)).setCell ⟨wr.heap.size, 2, none⟩ (.int .i64 g.sectors)).setCell ⟨wr.heap.size, 3, none⟩ (.slice A16 n16 c16)) wr.heap.size 28 #[.int .i64 g.eye, .int .i64 g.rings, .int .i64 g.sectors, .slice A16 n16 c16] := putF_box (G := g) hB
               have hW : Below wr.heap.size wr ((((w16.setCell ⟨wr.heap.size, 0, none⟩ (.int .i64 g.eye)).setCell ⟨wr.heap.size, 1, none⟩ (.int .i64 g.rings)).setCell ⟨wr.heap.size, 2, none⟩ (.int .i64 g.sectors)).setCell ⟨wr.heap.size, 3, none⟩ (.slice A16 n16 c16)) := putF_below (G := g) hbw (Nat.le_refl _)
               have iT : Ints ((((w16.setCell ⟨wr.heap.size, 0, none⟩ (.int .i64 g.eye)).setCell ⟨wr.heap.size, 1, none⟩ (.int .i64 g.rings)).setCell ⟨wr.heap.size, 2, none⟩ (.int .i64 g.sectors)).setCell ⟨wr.heap.size, 3, none⟩ (.slice A16 n16 c16)) ((((w16.setCell ⟨wr.heap.size, 0, none⟩ (.int .i64 g.eye)).setCell ⟨wr.heap.size, 1, none⟩ (.int .i64 g.rings)).setCell ⟨wr.heap.size, 2, none⟩ (.int .i64 g.sectors)).setCell ⟨wr.heap.size, 3, none⟩ (.slice A16 n16 c16)).heap.size (.slice A16 n16 c16) g.kinds := (putF_ints (G := g) hI16 hN16 (by simp)).more (by simp [World.setCell])
               obtain ⟨wt, hWe⟩ : ∃ wt : World, wt = ((((w16.setCell ⟨wr.heap.size, 0, none⟩ (.int .i64 g.eye)).setCell ⟨wr.heap.size, 1, none⟩ (.int .i64 g.rings)).setCell ⟨wr.heap.size, 2, none⟩ (.int .i64 g.sectors)).setCell ⟨wr.heap.size, 3, none⟩ (.slice A16 n16 c16)) := ⟨_, rfl⟩
               rw [← hWe] at bT hW iT ⊢
               obtain ⟨bt, hbt⟩ : ∃ bt : Nat, bt = wr.heap.size := ⟨_, rfl⟩
               rw [← hbt] at bT ⊢
               clear hbt hWe hbw hI16 hN16 hb16 hB z0 z1 z2 z3 y0 y1 y2 y3)
          all_goals
            show turnedAt wr g _ _ _
            exact turnedAt_of bt A16 n16 c16 (by first | kernel_rfl | rfl) bT hW iT
        · rintro a' wt ⟨bt, A16, n16, c16, y148, y149, y150, y151, y152, y153, y154, y155, y156, rfl, bT, hW, iT⟩
          clear q0 q1 q2 q3 r0 r1 r2 r3 qa0 qa1 qa2 qa3 hFr hFd
          have hr2 := hr.later hW
          have hx2 := keepd hx hW hbW
          have hGr := hG.mono hr2.bel hr2.bel.size
          have hbW3 : Below w14.heap.size w14 wt := chain hbr hW
          have hbl : b < wt.heap.size := Nat.lt_of_lt_of_le hbW hW.size
          have bG := hr2.b1
          clear hx
          simp only [List.setIfInBounds_toArray, List.set_cons_zero, List.set_cons_succ]
          go_wp2_with fail
          refine reg21_c g A16 A' n16 c16 cp' (w.heap.size + 1) bt b off n11 c11 p i li (k % p + (i - 1) * p) wt _ _ _ _ _ _ _ _ _ _ _ _ _ _ _ _ _ _ _ _ _ _ _ _ _ _ _ _ _ _ _ _ _ _ _ _ _ _ _ _ _ _ _ _ _ _ _ _ _ _ _ _ _ _ _ _ _ _ _ _ _ _ _ _ _ _ _ _ _ _ _ _ _ _ _ _ _ _ _ _ _ _ _ _ _ _ _ _ _ _ _ _ _ _ _ _ _ _ _ _ _ _ _ _ _ _ _ _ _ _ _ _ _ _ _ _ _ _ _ _ _ _ _ _ _ _ _ _ _ _ _ _ _ _ _ _ _ _ _ _ _ _ _ _ _ _ _ _ _ _ _ _ _ _ _ _ _ _ _ _ _ _ _ _ _ _ _ _ _ _ _ _ _ _ _ _ _ _ _ _ _ _ _ _ _ _ _ _
            (IsFace.mk iT) hGr bT bG hbl hlt hi96 hx2 hl96 (fun h0 => ⟨keepd (Hprev.out h0).1 hW hbW, Hli.out.trans (Hprev.out h0).2⟩) ?_
          rintro _ _ _ _ _ _ _ _ _ _ _ _ _ _ _ _ _ _ _ _ _ _ _ _ _ w17 hb17
          have hbn := chain hbW3 hb17
          go_wp2_with fail
          go_roundw
          case rel => exact ⟨i + 1, Hlt.out.1, by go_num, hbn⟩
          case measure => have := Hlt.out; simp [intOf]; omega
      · obtain rfl : i = n11 := by omega
        have hd : decide ((i : Int) < (i : Int)) = false := by simp
        have q0 : wr.cell? ⟨w.heap.size, 0, none⟩ = some (.int .i64 f.eye) := hr.b0.cell 0
        have q1 : wr.cell? ⟨w.heap.size, 1, none⟩ = some (.int .i64 f.rings) := hr.b0.cell 1
        have q2 : wr.cell? ⟨w.heap.size, 2, none⟩ = some (.int .i64 f.sectors) := hr.b0.cell 2
        have q3 : wr.cell? ⟨w.heap.size, 3, none⟩ = some (.slice A f.kinds.length cp) := hr.b0.cell 3
        go_wp2_with fail
        have Hq := Lib.hid (show ((i : Int) == f.sectors / (p : Int)) = true by
          rw [Hd.out.1, ← Int.natCast_ediv, ← Hnn.out]; simp)
        go_ret
        exact ⟨ret_bool Hq.out, hr.bel⟩

end Go.Proofs.YteajlfgnhjalnaaDoor

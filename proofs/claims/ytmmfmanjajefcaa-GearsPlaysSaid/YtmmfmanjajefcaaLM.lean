/- Layer 7: the play of the runner, on both sides. -/
import Derived.Test.YtmmfmanjajefcaaLL
set_option linter.all false
namespace Go.Proofs.Ytmmfmanjajefcaa
open Go.RowKit

/-- a ratio in whole numbers -/
def RtV (n d : Nat) : Prop := n ≤ 1000000000 ∧ 0 < d ∧ d ≤ 1000000000 ∧ n.gcd d = 1
theorem RtV.b {n d : Nat} (h : RtV n d) : rtB (n : Int) (d : Int) = true := rtB_nat h.1 h.2.1 h.2.2.1 h.2.2.2
theorem rOf_two {N D : Nat} (hD : 0 < D) : ((rOf N D).e ≠ 0 ∧ rOf N D = ⟨0, 0, 2⟩) ∨ ((rOf N D).e = 0 ∧ ∃ a b : Nat, rOf N D = ⟨(a : Int), (b : Int), 0⟩ ∧ RtV a b ∧ Is a b N D) := by
  by_cases h : (rOf N D).e = 0
  · right
    obtain ⟨h1, h2⟩ := rOf_ok hD h
    obtain ⟨⟨a0, a1⟩, ⟨a2, a3⟩, a4⟩ := rtB_iff.1 h1
    generalize rOf N D = r at *
    obtain ⟨n, d, e⟩ := r
    simp only at *
    exact ⟨h, n.toNat, d.toNat, by rw [h]; congr 1 <;> omega, ⟨by omega, by omega, by omega, a4⟩, h2⟩
  · left
    exact ⟨h, rOf_bad h⟩
/-- the play behind a mesh, and behind all of a train's -/
def plS (n d : Nat) (m : Mh) : Rr := if (rOf (n * m.1.toNat) (d * m.2.1.toNat)).e = 0 then plR (rOf (n * m.1.toNat) (d * m.2.1.toNat)).n (rOf (n * m.1.toNat) (d * m.2.1.toNat)).d (reR m.2.2 (1000 * m.2.1)).n (reR m.2.2 (1000 * m.2.1)).d else ⟨0, 0, 2⟩
def plF : List Mh → Nat → Nat → Rr
  | [], n, d => ⟨(n : Int), (d : Int), 0⟩
  | m :: l, n, d => if (plS n d m).e = 0 then plF l (plS n d m).n.toNat (plS n d m).d.toNat else ⟨0, 0, 2⟩
def playR (ms : List Mh) : Rr := if trB ms then plF ms 0 1 else ⟨0, 0, 70⟩
theorem mesh_nat3 {a b p : Int} (h : meshB a b p = true) : ∃ X Y Z : Nat, a = (X : Int) ∧ b = (Y : Int) ∧ p = (Z : Int) ∧ 0 < X ∧ X ≤ 4096 ∧ 0 < Y ∧ Y ≤ 4096 ∧ Z ≤ 1000 := by
  unfold meshB at h
  rw [Bool.and_eq_true, Bool.and_eq_true] at h
  have i1 := inB_iff.1 h.1.1
  have i2 := inB_iff.1 h.1.2
  have i3 := inB_iff.1 h.2
  exact ⟨a.toNat, b.toNat, p.toNat, by omega, by omega, by omega, by omega, by omega, by omega, by omega, by omega⟩
/-- the parts of one step -/
theorem plS_parts {n d X Y Z : Nat} (hv : RtV n d) (hX : 0 < X ∧ X ≤ 4096) (hY : 0 < Y ∧ Y ≤ 4096) (hZ : Z ≤ 1000) :
    ∃ a' b' : Nat, reR (Z : Int) ((1000 * Y : Nat) : Int) = ⟨(a' : Int), (b' : Int), 0⟩ ∧ RtV a' b' ∧ Is a' b' Z (1000 * Y) ∧
      ((rOf (n * X) (d * Y) = ⟨0, 0, 2⟩ ∧ plS n d ((X : Int), (Y : Int), (Z : Int)) = ⟨0, 0, 2⟩) ∨
       ∃ a b : Nat, rOf (n * X) (d * Y) = ⟨(a : Int), (b : Int), 0⟩ ∧ RtV a b ∧ Is a b (n * X) (d * Y) ∧ plS n d ((X : Int), (Y : Int), (Z : Int)) = plR (a : Int) (b : Int) (a' : Int) (b' : Int)) := by
  obtain ⟨a', b', h1, h2, h3, h4, h5, h6⟩ := reR_small (N := Z) (D := 1000 * Y) (by omega) (by omega) (by omega)
  refine ⟨a', b', h1, ⟨h2, h3, h4, h5⟩, h6, ?_⟩
  have e : plS n d ((X : Int), (Y : Int), (Z : Int)) = if (rOf (n * X) (d * Y)).e = 0 then plR (rOf (n * X) (d * Y)).n (rOf (n * X) (d * Y)).d (a' : Int) (b' : Int) else ⟨0, 0, 2⟩ := by
    unfold plS
    simp only [Int.toNat_natCast]
    rw [show (1000 : Int) * (Y : Int) = ((1000 * Y : Nat) : Int) by simp, h1]
  rcases rOf_two (N := n * X) (D := d * Y) (Nat.mul_pos hv.2.1 hY.1) with ⟨k1, k2⟩ | ⟨k1, a, b, k2, k3, k4⟩
  · left
    exact ⟨k2, by rw [e, if_neg k1]⟩
  · right
    exact ⟨a, b, k2, k3, k4, by rw [e, if_pos k1, k2]⟩
theorem plR_two {an ad bn bd : Nat} (ha : RtV an ad) (hb : RtV bn bd) : ((plR (an : Int) (ad : Int) (bn : Int) (bd : Int)).e ≠ 0 ∧ plR (an : Int) (ad : Int) (bn : Int) (bd : Int) = ⟨0, 0, 2⟩) ∨ ((plR (an : Int) (ad : Int) (bn : Int) (bd : Int)).e = 0 ∧ ∃ a b : Nat, plR (an : Int) (ad : Int) (bn : Int) (bd : Int) = ⟨(a : Int), (b : Int), 0⟩ ∧ RtV a b ∧ Is a b (an * bd + bn * ad) (ad * bd)) := by
  have e := pl_val ha.b hb.b
  simp only [Int.toNat_natCast] at e
  rw [e]
  exact rOf_two (Nat.mul_pos ha.2.1 hb.2.1)
theorem plS_two {n d : Nat} {m : Mh} (hv : RtV n d) (hm : mB m = true) : ((plS n d m).e ≠ 0 ∧ plS n d m = ⟨0, 0, 2⟩) ∨ ((plS n d m).e = 0 ∧ ∃ a b : Nat, plS n d m = ⟨(a : Int), (b : Int), 0⟩ ∧ RtV a b) := by
  obtain ⟨x, y, z⟩ := m
  obtain ⟨X, Y, Z, rfl, rfl, rfl, x0, x1, y0, y1, z1⟩ := mesh_nat3 hm
  obtain ⟨a', b', h1, h2, h3, h4⟩ := plS_parts hv ⟨x0, x1⟩ ⟨y0, y1⟩ z1
  rcases h4 with ⟨-, h⟩ | ⟨a, b, -, k1, -, h⟩
  · left; rw [h]; exact ⟨by decide, rfl⟩
  · rw [h]
    rcases plR_two k1 h2 with ⟨p1, p2⟩ | ⟨p1, a2, b2, p2, p3, -⟩
    · left; exact ⟨p1, p2⟩
    · right; exact ⟨p1, a2, b2, p2, p3⟩

set_option maxRecDepth 100000 in
set_option maxHeartbeats 4000000 in
theorem behind_c (n d X Y Z : Nat) (w : World) (hv : RtV n d) (hX : 0 < X ∧ X ≤ 4096) (hY : 0 < Y ∧ Y ≤ 4096) (hZ : Z ≤ 1000) : Calls Try.prog 77 #[.agg #[.int .i64 (X : Int), .int .i64 (Y : Int), .int .i64 (Z : Int)], .agg #[.int .i64 (n : Int), .int .i64 (d : Int)]] w fun e w' => e = .returned (rrV (plS n d ((X : Int), (Y : Int), (Z : Int)))) ∧ Below w.heap.size w w' := by
  have HVV := Lib.hid hv
  have HXY := Lib.hid (show (0 < X ∧ X ≤ 4096) ∧ (0 < Y ∧ Y ≤ 4096) ∧ Z ≤ 1000 from ⟨hX, hY, hZ⟩)
  clear hv hX hY hZ
  go_enter Try.func77, Try.ntmps77
  go_wp2_with fail
  obtain ⟨W1, hW2⟩ : ∃ Wzz, (((w.alloc (.cells #[.int .i64 (X : Int), .int .i64 (Y : Int), .int .i64 (Z : Int)] 37)).alloc (.cells #[.int .i64 (n : Int), .int .i64 (d : Int)] 23)).alloc (.cells #[.int .i64 0, .int .i64 0] 23)) = Wzz := ⟨_, rfl⟩
  have B3 := Lib.hid (show Below w.heap.size w W1 by rw [← hW2]; exact ((((Below.refl w.heap.size w).alloc (Nat.le_refl _) _).alloc (by first | (simp; done) | (simp; omega)) _).alloc (by first | (simp; done) | (simp; omega)) _))
  have X4 := Lib.hid (show Box W1 (w.heap.size) 37 #[.int .i64 (X : Int), .int .i64 (Y : Int), .int .i64 (Z : Int)] by rw [← hW2]; exact Box.alloc (Box.alloc (Box.made w 37 #[.int .i64 (X : Int), .int .i64 (Y : Int), .int .i64 (Z : Int)]) (.cells #[.int .i64 (n : Int), .int .i64 (d : Int)] 23)) (.cells #[.int .i64 0, .int .i64 0] 23))
  have X5 := Lib.hid (show Box W1 (w.heap.size + 1) 23 #[.int .i64 (n : Int), .int .i64 (d : Int)] by
    have hz := Box.alloc (Box.made (w.alloc (.cells #[.int .i64 (X : Int), .int .i64 (Y : Int), .int .i64 (Z : Int)] 37)) 23 #[.int .i64 (n : Int), .int .i64 (d : Int)]) (.cells #[.int .i64 0, .int .i64 0] 23)
    rw [World.size_alloc] at hz
    rw [← hW2]; exact hz)
  have X6 := Lib.hid (show Box W1 (w.heap.size + 1 + 1) 23 #[.int .i64 0, .int .i64 0] by
    have hz := Box.made ((w.alloc (.cells #[.int .i64 (X : Int), .int .i64 (Y : Int), .int .i64 (Z : Int)] 37)).alloc (.cells #[.int .i64 (n : Int), .int .i64 (d : Int)] 23)) 23 #[.int .i64 0, .int .i64 0]
    rw [World.size_alloc, World.size_alloc] at hz
    rw [← hW2]; exact hz)
  have SZ7 := Lib.hid (show W1.heap.size = w.heap.size + 1 + 1 + 1 by rw [← hW2]; simp)
  rw [hW2]
  clear hW2
  have q8 : W1.cell? ⟨w.heap.size, 0, none⟩ = some (.int .i64 (X : Int)) := X4.out.cell 0
  have q9 : W1.cell? ⟨w.heap.size, 1, none⟩ = some (.int .i64 (Y : Int)) := X4.out.cell 1
  have q10 : W1.cell? ⟨w.heap.size, 2, none⟩ = some (.int .i64 (Z : Int)) := X4.out.cell 2
  have q11 : W1.cell? ⟨w.heap.size + 1, 0, none⟩ = some (.int .i64 (n : Int)) := X5.out.cell 0
  have q12 : W1.cell? ⟨w.heap.size + 1, 1, none⟩ = some (.int .i64 (d : Int)) := X5.out.cell 1
  have q13 : W1.cell? ⟨w.heap.size + 1 + 1, 0, none⟩ = some (.int .i64 0) := X6.out.cell 0
  have q14 : W1.cell? ⟨w.heap.size + 1 + 1, 1, none⟩ = some (.int .i64 0) := X6.out.cell 1
  have fz15 : ∀ o, W1.frozen? ⟨w.heap.size + 1 + 1, o, none⟩ = false := fun o => X6.out.free o
  have HF := Lib.hid (fr2 n d X Y)
  have HO := Lib.hid (frOk2 (a := n) (b := d) (c := X) (d := Y) (by have := HVV.out.1; omega) HVV.out.2.1 (by have := HVV.out.2.2.1; omega) (by have := HXY.out; omega) HXY.out.2.1.1 (by have := HXY.out; omega))
  have HFR := Lib.hid (frs2 W1 75 n d X Y (w.heap.size + 1 + 1 + 1) SZ7.out)
  have X16 := Lib.hid (X4.out.alloc (.cells #[.int .i64 (n : Int), .int .i64 (d : Int), .int .i64 (X : Int), .int .i64 (Y : Int)] 75))
  have X17 := Lib.hid (X5.out.alloc (.cells #[.int .i64 (n : Int), .int .i64 (d : Int), .int .i64 (X : Int), .int .i64 (Y : Int)] 75))
  have X18 := Lib.hid (X6.out.alloc (.cells #[.int .i64 (n : Int), .int .i64 (d : Int), .int .i64 (X : Int), .int .i64 (Y : Int)] 75))
  have B19 := Lib.hid (B3.out.alloc B3.out.size (.cells #[.int .i64 (n : Int), .int .i64 (d : Int), .int .i64 (X : Int), .int .i64 (Y : Int)] 75))
  have X20 := Lib.hid (Box.made W1 75 #[.int .i64 (n : Int), .int .i64 (d : Int), .int .i64 (X : Int), .int .i64 (Y : Int)])
  have q21 : (W1.alloc (.cells #[.int .i64 (n : Int), .int .i64 (d : Int), .int .i64 (X : Int), .int .i64 (Y : Int)] 75)).cell? ⟨w.heap.size, 0, none⟩ = some (.int .i64 (X : Int)) := X16.out.cell 0
  have q22 : (W1.alloc (.cells #[.int .i64 (n : Int), .int .i64 (d : Int), .int .i64 (X : Int), .int .i64 (Y : Int)] 75)).cell? ⟨w.heap.size, 1, none⟩ = some (.int .i64 (Y : Int)) := X16.out.cell 1
  have q23 : (W1.alloc (.cells #[.int .i64 (n : Int), .int .i64 (d : Int), .int .i64 (X : Int), .int .i64 (Y : Int)] 75)).cell? ⟨w.heap.size, 2, none⟩ = some (.int .i64 (Z : Int)) := X16.out.cell 2
  have q24 : (W1.alloc (.cells #[.int .i64 (n : Int), .int .i64 (d : Int), .int .i64 (X : Int), .int .i64 (Y : Int)] 75)).cell? ⟨w.heap.size + 1, 0, none⟩ = some (.int .i64 (n : Int)) := X17.out.cell 0
  have q25 : (W1.alloc (.cells #[.int .i64 (n : Int), .int .i64 (d : Int), .int .i64 (X : Int), .int .i64 (Y : Int)] 75)).cell? ⟨w.heap.size + 1, 1, none⟩ = some (.int .i64 (d : Int)) := X17.out.cell 1
  have q26 : (W1.alloc (.cells #[.int .i64 (n : Int), .int .i64 (d : Int), .int .i64 (X : Int), .int .i64 (Y : Int)] 75)).cell? ⟨w.heap.size + 1 + 1, 0, none⟩ = some (.int .i64 0) := X18.out.cell 0
  have q27 : (W1.alloc (.cells #[.int .i64 (n : Int), .int .i64 (d : Int), .int .i64 (X : Int), .int .i64 (Y : Int)] 75)).cell? ⟨w.heap.size + 1 + 1, 1, none⟩ = some (.int .i64 0) := X18.out.cell 1
  have fz28 : ∀ o, (W1.alloc (.cells #[.int .i64 (n : Int), .int .i64 (d : Int), .int .i64 (X : Int), .int .i64 (Y : Int)] 75)).frozen? ⟨w.heap.size + 1 + 1, o, none⟩ = false := fun o => X18.out.free o
  have q29 : (W1.alloc (.cells #[.int .i64 (n : Int), .int .i64 (d : Int), .int .i64 (X : Int), .int .i64 (Y : Int)] 75)).cell? ⟨W1.heap.size, 0, none⟩ = some (.int .i64 (n : Int)) := X20.out.cell 0
  have q30 : (W1.alloc (.cells #[.int .i64 (n : Int), .int .i64 (d : Int), .int .i64 (X : Int), .int .i64 (Y : Int)] 75)).cell? ⟨W1.heap.size, 1, none⟩ = some (.int .i64 (d : Int)) := X20.out.cell 1
  have q31 : (W1.alloc (.cells #[.int .i64 (n : Int), .int .i64 (d : Int), .int .i64 (X : Int), .int .i64 (Y : Int)] 75)).cell? ⟨W1.heap.size, 2, none⟩ = some (.int .i64 (X : Int)) := X20.out.cell 2
  have q32 : (W1.alloc (.cells #[.int .i64 (n : Int), .int .i64 (d : Int), .int .i64 (X : Int), .int .i64 (Y : Int)] 75)).cell? ⟨W1.heap.size, 3, none⟩ = some (.int .i64 (Y : Int)) := X20.out.cell 3
  go_wp2_with fail
  refine (product_c [(n, d), (X, Y)] _ _ HFR.out HO.out).mono ?_; rintro e v33 ⟨rfl, hb34⟩
  have X35 := Lib.hid (X16.out.later hb34)
  have X36 := Lib.hid (X17.out.later hb34)
  have X37 := Lib.hid (X18.out.later hb34)
  have X38 := Lib.hid (X20.out.later hb34)
  have B39 := Lib.hid (B19.out.trans (hb34.mono B19.out.size))
  clear hb34
  rw [HF.out.1, HF.out.2]
  clear q21 q22 q23 q24 q25 q26 q27 fz28 q29 q30 q31 q32 q8 q9 q10 q11 q12 q13 q14 fz15
  have q40 : v33.cell? ⟨w.heap.size, 0, none⟩ = some (.int .i64 (X : Int)) := X35.out.cell 0
  have q41 : v33.cell? ⟨w.heap.size, 1, none⟩ = some (.int .i64 (Y : Int)) := X35.out.cell 1
  have q42 : v33.cell? ⟨w.heap.size, 2, none⟩ = some (.int .i64 (Z : Int)) := X35.out.cell 2
  have q43 : v33.cell? ⟨w.heap.size + 1, 0, none⟩ = some (.int .i64 (n : Int)) := X36.out.cell 0
  have q44 : v33.cell? ⟨w.heap.size + 1, 1, none⟩ = some (.int .i64 (d : Int)) := X36.out.cell 1
  have q45 : v33.cell? ⟨w.heap.size + 1 + 1, 0, none⟩ = some (.int .i64 0) := X37.out.cell 0
  have q46 : v33.cell? ⟨w.heap.size + 1 + 1, 1, none⟩ = some (.int .i64 0) := X37.out.cell 1
  have fz47 : ∀ o, v33.frozen? ⟨w.heap.size + 1 + 1, o, none⟩ = false := fun o => X37.out.free o
  have q48 : v33.cell? ⟨W1.heap.size, 0, none⟩ = some (.int .i64 (n : Int)) := X38.out.cell 0
  have q49 : v33.cell? ⟨W1.heap.size, 1, none⟩ = some (.int .i64 (d : Int)) := X38.out.cell 1
  have q50 : v33.cell? ⟨W1.heap.size, 2, none⟩ = some (.int .i64 (X : Int)) := X38.out.cell 2
  have q51 : v33.cell? ⟨W1.heap.size, 3, none⟩ = some (.int .i64 (Y : Int)) := X38.out.cell 3
  obtain ⟨a', b', h1, h2, h3, h4⟩ := plS_parts HVV.out HXY.out.1 HXY.out.2.1 HXY.out.2.2
  rcases h4 with ⟨k1, k2⟩ | ⟨a, b, k1, k2, k3, k4⟩
  · have HR := Lib.hid k2
    rw [k1]
    have e1 : ((2 : Int) != 0) = true := by decide
    clear k1 k2 h1 h2 h3
    have X52 := Lib.hid (X35.out.alloc (.cells #[.int .i64 0, .int .i64 0] 23))
    have X53 := Lib.hid (X36.out.alloc (.cells #[.int .i64 0, .int .i64 0] 23))
    have X54 := Lib.hid (X37.out.alloc (.cells #[.int .i64 0, .int .i64 0] 23))
    have X55 := Lib.hid (X38.out.alloc (.cells #[.int .i64 0, .int .i64 0] 23))
    have B56 := Lib.hid (B39.out.alloc B39.out.size (.cells #[.int .i64 0, .int .i64 0] 23))
    have X57 := Lib.hid (Box.made v33 23 #[.int .i64 0, .int .i64 0])
    have q58 : (v33.alloc (.cells #[.int .i64 0, .int .i64 0] 23)).cell? ⟨w.heap.size, 0, none⟩ = some (.int .i64 (X : Int)) := X52.out.cell 0
    have q59 : (v33.alloc (.cells #[.int .i64 0, .int .i64 0] 23)).cell? ⟨w.heap.size, 1, none⟩ = some (.int .i64 (Y : Int)) := X52.out.cell 1
    have q60 : (v33.alloc (.cells #[.int .i64 0, .int .i64 0] 23)).cell? ⟨w.heap.size, 2, none⟩ = some (.int .i64 (Z : Int)) := X52.out.cell 2
    have q61 : (v33.alloc (.cells #[.int .i64 0, .int .i64 0] 23)).cell? ⟨w.heap.size + 1, 0, none⟩ = some (.int .i64 (n : Int)) := X53.out.cell 0
    have q62 : (v33.alloc (.cells #[.int .i64 0, .int .i64 0] 23)).cell? ⟨w.heap.size + 1, 1, none⟩ = some (.int .i64 (d : Int)) := X53.out.cell 1
    have q63 : (v33.alloc (.cells #[.int .i64 0, .int .i64 0] 23)).cell? ⟨w.heap.size + 1 + 1, 0, none⟩ = some (.int .i64 0) := X54.out.cell 0
    have q64 : (v33.alloc (.cells #[.int .i64 0, .int .i64 0] 23)).cell? ⟨w.heap.size + 1 + 1, 1, none⟩ = some (.int .i64 0) := X54.out.cell 1
    have fz65 : ∀ o, (v33.alloc (.cells #[.int .i64 0, .int .i64 0] 23)).frozen? ⟨w.heap.size + 1 + 1, o, none⟩ = false := fun o => X54.out.free o
    have q66 : (v33.alloc (.cells #[.int .i64 0, .int .i64 0] 23)).cell? ⟨W1.heap.size, 0, none⟩ = some (.int .i64 (n : Int)) := X55.out.cell 0
    have q67 : (v33.alloc (.cells #[.int .i64 0, .int .i64 0] 23)).cell? ⟨W1.heap.size, 1, none⟩ = some (.int .i64 (d : Int)) := X55.out.cell 1
    have q68 : (v33.alloc (.cells #[.int .i64 0, .int .i64 0] 23)).cell? ⟨W1.heap.size, 2, none⟩ = some (.int .i64 (X : Int)) := X55.out.cell 2
    have q69 : (v33.alloc (.cells #[.int .i64 0, .int .i64 0] 23)).cell? ⟨W1.heap.size, 3, none⟩ = some (.int .i64 (Y : Int)) := X55.out.cell 3
    have q70 : (v33.alloc (.cells #[.int .i64 0, .int .i64 0] 23)).cell? ⟨v33.heap.size, 0, none⟩ = some (.int .i64 0) := X57.out.cell 0
    have q71 : (v33.alloc (.cells #[.int .i64 0, .int .i64 0] 23)).cell? ⟨v33.heap.size, 1, none⟩ = some (.int .i64 0) := X57.out.cell 1
    go_wp2_with fail
    exact endRr Try.results77 rfl rfl HR.out X54.out (by omega) B56.out
  · rw [k1]
    have e1 : ((0 : Int) != 0) = false := by decide
    have HK := Lib.hid (show RtV a b ∧ RtV a' b' from ⟨k2, h2⟩)
    have HE := Lib.hid h1
    obtain ⟨r, hr⟩ : ∃ r, plR (a : Int) (b : Int) (a' : Int) (b' : Int) = r := ⟨_, rfl⟩
    have HR := Lib.hid (k4.trans hr)
    have HRR := Lib.hid hr
    obtain ⟨y, hy⟩ : ∃ y, 1000 * Y = y := ⟨_, rfl⟩
    rw [hy] at HE
    have hyb : y ≤ 4096000 := by have := HXY.out; omega
    have my : IntKind.i64.wrap ((1000 : Int) * (Y : Int)) = (y : Int) := by rw [show (1000 : Int) * (Y : Int) = ((1000 * Y : Nat) : Int) by simp, hy]; exact wrap_id (by omega) (by omega)
    have HYB := Lib.hid hyb
    clear k1 k2 k3 k4 h1 h2 h3 hr hy hyb
    have X72 := Lib.hid (X35.out.alloc (.cells #[.int .i64 (a : Int), .int .i64 (b : Int)] 23))
    have X73 := Lib.hid (X36.out.alloc (.cells #[.int .i64 (a : Int), .int .i64 (b : Int)] 23))
    have X74 := Lib.hid (X37.out.alloc (.cells #[.int .i64 (a : Int), .int .i64 (b : Int)] 23))
    have X75 := Lib.hid (X38.out.alloc (.cells #[.int .i64 (a : Int), .int .i64 (b : Int)] 23))
    have B76 := Lib.hid (B39.out.alloc B39.out.size (.cells #[.int .i64 (a : Int), .int .i64 (b : Int)] 23))
    have X77 := Lib.hid (Box.made v33 23 #[.int .i64 (a : Int), .int .i64 (b : Int)])
    have q78 : (v33.alloc (.cells #[.int .i64 (a : Int), .int .i64 (b : Int)] 23)).cell? ⟨w.heap.size, 0, none⟩ = some (.int .i64 (X : Int)) := X72.out.cell 0
    have q79 : (v33.alloc (.cells #[.int .i64 (a : Int), .int .i64 (b : Int)] 23)).cell? ⟨w.heap.size, 1, none⟩ = some (.int .i64 (Y : Int)) := X72.out.cell 1
    have q80 : (v33.alloc (.cells #[.int .i64 (a : Int), .int .i64 (b : Int)] 23)).cell? ⟨w.heap.size, 2, none⟩ = some (.int .i64 (Z : Int)) := X72.out.cell 2
    have q81 : (v33.alloc (.cells #[.int .i64 (a : Int), .int .i64 (b : Int)] 23)).cell? ⟨w.heap.size + 1, 0, none⟩ = some (.int .i64 (n : Int)) := X73.out.cell 0
    have q82 : (v33.alloc (.cells #[.int .i64 (a : Int), .int .i64 (b : Int)] 23)).cell? ⟨w.heap.size + 1, 1, none⟩ = some (.int .i64 (d : Int)) := X73.out.cell 1
    have q83 : (v33.alloc (.cells #[.int .i64 (a : Int), .int .i64 (b : Int)] 23)).cell? ⟨w.heap.size + 1 + 1, 0, none⟩ = some (.int .i64 0) := X74.out.cell 0
    have q84 : (v33.alloc (.cells #[.int .i64 (a : Int), .int .i64 (b : Int)] 23)).cell? ⟨w.heap.size + 1 + 1, 1, none⟩ = some (.int .i64 0) := X74.out.cell 1
    have fz85 : ∀ o, (v33.alloc (.cells #[.int .i64 (a : Int), .int .i64 (b : Int)] 23)).frozen? ⟨w.heap.size + 1 + 1, o, none⟩ = false := fun o => X74.out.free o
    have q86 : (v33.alloc (.cells #[.int .i64 (a : Int), .int .i64 (b : Int)] 23)).cell? ⟨W1.heap.size, 0, none⟩ = some (.int .i64 (n : Int)) := X75.out.cell 0
    have q87 : (v33.alloc (.cells #[.int .i64 (a : Int), .int .i64 (b : Int)] 23)).cell? ⟨W1.heap.size, 1, none⟩ = some (.int .i64 (d : Int)) := X75.out.cell 1
    have q88 : (v33.alloc (.cells #[.int .i64 (a : Int), .int .i64 (b : Int)] 23)).cell? ⟨W1.heap.size, 2, none⟩ = some (.int .i64 (X : Int)) := X75.out.cell 2
    have q89 : (v33.alloc (.cells #[.int .i64 (a : Int), .int .i64 (b : Int)] 23)).cell? ⟨W1.heap.size, 3, none⟩ = some (.int .i64 (Y : Int)) := X75.out.cell 3
    have q90 : (v33.alloc (.cells #[.int .i64 (a : Int), .int .i64 (b : Int)] 23)).cell? ⟨v33.heap.size, 0, none⟩ = some (.int .i64 (a : Int)) := X77.out.cell 0
    have q91 : (v33.alloc (.cells #[.int .i64 (a : Int), .int .i64 (b : Int)] 23)).cell? ⟨v33.heap.size, 1, none⟩ = some (.int .i64 (b : Int)) := X77.out.cell 1
    go_wp2_with fail
    refine (Reduce_c (Z : Int) (y : Int) _ (by have := HXY.out; omega) (by have := HYB.out; omega)).mono ?_; rintro e v92 ⟨rfl, hb93⟩
    have X94 := Lib.hid (X72.out.later hb93)
    have X95 := Lib.hid (X73.out.later hb93)
    have X96 := Lib.hid (X74.out.later hb93)
    have X97 := Lib.hid (X75.out.later hb93)
    have X98 := Lib.hid (X77.out.later hb93)
    have B99 := Lib.hid (B76.out.trans (hb93.mono B76.out.size))
    clear hb93
    rw [HE.out]
    clear q78 q79 q80 q81 q82 q83 q84 fz85 q86 q87 q88 q89 q90 q91 q40 q41 q42 q43 q44 q45 q46 fz47 q48 q49 q50 q51
    have q100 : v92.cell? ⟨w.heap.size, 0, none⟩ = some (.int .i64 (X : Int)) := X94.out.cell 0
    have q101 : v92.cell? ⟨w.heap.size, 1, none⟩ = some (.int .i64 (Y : Int)) := X94.out.cell 1
    have q102 : v92.cell? ⟨w.heap.size, 2, none⟩ = some (.int .i64 (Z : Int)) := X94.out.cell 2
    have q103 : v92.cell? ⟨w.heap.size + 1, 0, none⟩ = some (.int .i64 (n : Int)) := X95.out.cell 0
    have q104 : v92.cell? ⟨w.heap.size + 1, 1, none⟩ = some (.int .i64 (d : Int)) := X95.out.cell 1
    have q105 : v92.cell? ⟨w.heap.size + 1 + 1, 0, none⟩ = some (.int .i64 0) := X96.out.cell 0
    have q106 : v92.cell? ⟨w.heap.size + 1 + 1, 1, none⟩ = some (.int .i64 0) := X96.out.cell 1
    have fz107 : ∀ o, v92.frozen? ⟨w.heap.size + 1 + 1, o, none⟩ = false := fun o => X96.out.free o
    have q108 : v92.cell? ⟨W1.heap.size, 0, none⟩ = some (.int .i64 (n : Int)) := X97.out.cell 0
    have q109 : v92.cell? ⟨W1.heap.size, 1, none⟩ = some (.int .i64 (d : Int)) := X97.out.cell 1
    have q110 : v92.cell? ⟨W1.heap.size, 2, none⟩ = some (.int .i64 (X : Int)) := X97.out.cell 2
    have q111 : v92.cell? ⟨W1.heap.size, 3, none⟩ = some (.int .i64 (Y : Int)) := X97.out.cell 3
    have q112 : v92.cell? ⟨v33.heap.size, 0, none⟩ = some (.int .i64 (a : Int)) := X98.out.cell 0
    have q113 : v92.cell? ⟨v33.heap.size, 1, none⟩ = some (.int .i64 (b : Int)) := X98.out.cell 1
    have X114 := Lib.hid (X94.out.alloc (.cells #[(.int .i64 (a' : Int)), (.int .i64 (b' : Int))] 23))
    have X115 := Lib.hid (X95.out.alloc (.cells #[(.int .i64 (a' : Int)), (.int .i64 (b' : Int))] 23))
    have X116 := Lib.hid (X96.out.alloc (.cells #[(.int .i64 (a' : Int)), (.int .i64 (b' : Int))] 23))
    have X117 := Lib.hid (X97.out.alloc (.cells #[(.int .i64 (a' : Int)), (.int .i64 (b' : Int))] 23))
    have X118 := Lib.hid (X98.out.alloc (.cells #[(.int .i64 (a' : Int)), (.int .i64 (b' : Int))] 23))
    have B119 := Lib.hid (B99.out.alloc B99.out.size (.cells #[(.int .i64 (a' : Int)), (.int .i64 (b' : Int))] 23))
    have X120 := Lib.hid (Box.made v92 23 #[(.int .i64 (a' : Int)), (.int .i64 (b' : Int))])
    have q121 : (v92.alloc (.cells #[(.int .i64 (a' : Int)), (.int .i64 (b' : Int))] 23)).cell? ⟨w.heap.size, 0, none⟩ = some (.int .i64 (X : Int)) := X114.out.cell 0
    have q122 : (v92.alloc (.cells #[(.int .i64 (a' : Int)), (.int .i64 (b' : Int))] 23)).cell? ⟨w.heap.size, 1, none⟩ = some (.int .i64 (Y : Int)) := X114.out.cell 1
    have q123 : (v92.alloc (.cells #[(.int .i64 (a' : Int)), (.int .i64 (b' : Int))] 23)).cell? ⟨w.heap.size, 2, none⟩ = some (.int .i64 (Z : Int)) := X114.out.cell 2
    have q124 : (v92.alloc (.cells #[(.int .i64 (a' : Int)), (.int .i64 (b' : Int))] 23)).cell? ⟨w.heap.size + 1, 0, none⟩ = some (.int .i64 (n : Int)) := X115.out.cell 0
    have q125 : (v92.alloc (.cells #[(.int .i64 (a' : Int)), (.int .i64 (b' : Int))] 23)).cell? ⟨w.heap.size + 1, 1, none⟩ = some (.int .i64 (d : Int)) := X115.out.cell 1
    have q126 : (v92.alloc (.cells #[(.int .i64 (a' : Int)), (.int .i64 (b' : Int))] 23)).cell? ⟨w.heap.size + 1 + 1, 0, none⟩ = some (.int .i64 0) := X116.out.cell 0
    have q127 : (v92.alloc (.cells #[(.int .i64 (a' : Int)), (.int .i64 (b' : Int))] 23)).cell? ⟨w.heap.size + 1 + 1, 1, none⟩ = some (.int .i64 0) := X116.out.cell 1
    have fz128 : ∀ o, (v92.alloc (.cells #[(.int .i64 (a' : Int)), (.int .i64 (b' : Int))] 23)).frozen? ⟨w.heap.size + 1 + 1, o, none⟩ = false := fun o => X116.out.free o
    have q129 : (v92.alloc (.cells #[(.int .i64 (a' : Int)), (.int .i64 (b' : Int))] 23)).cell? ⟨W1.heap.size, 0, none⟩ = some (.int .i64 (n : Int)) := X117.out.cell 0
    have q130 : (v92.alloc (.cells #[(.int .i64 (a' : Int)), (.int .i64 (b' : Int))] 23)).cell? ⟨W1.heap.size, 1, none⟩ = some (.int .i64 (d : Int)) := X117.out.cell 1
    have q131 : (v92.alloc (.cells #[(.int .i64 (a' : Int)), (.int .i64 (b' : Int))] 23)).cell? ⟨W1.heap.size, 2, none⟩ = some (.int .i64 (X : Int)) := X117.out.cell 2
    have q132 : (v92.alloc (.cells #[(.int .i64 (a' : Int)), (.int .i64 (b' : Int))] 23)).cell? ⟨W1.heap.size, 3, none⟩ = some (.int .i64 (Y : Int)) := X117.out.cell 3
    have q133 : (v92.alloc (.cells #[(.int .i64 (a' : Int)), (.int .i64 (b' : Int))] 23)).cell? ⟨v33.heap.size, 0, none⟩ = some (.int .i64 (a : Int)) := X118.out.cell 0
    have q134 : (v92.alloc (.cells #[(.int .i64 (a' : Int)), (.int .i64 (b' : Int))] 23)).cell? ⟨v33.heap.size, 1, none⟩ = some (.int .i64 (b : Int)) := X118.out.cell 1
    have q135 : (v92.alloc (.cells #[(.int .i64 (a' : Int)), (.int .i64 (b' : Int))] 23)).cell? ⟨v92.heap.size, 0, none⟩ = some ((.int .i64 (a' : Int))) := X120.out.cell 0
    have q136 : (v92.alloc (.cells #[(.int .i64 (a' : Int)), (.int .i64 (b' : Int))] 23)).cell? ⟨v92.heap.size, 1, none⟩ = some ((.int .i64 (b' : Int))) := X120.out.cell 1
    go_wp2_with fail
    refine (Plus_c (a : Int) (b : Int) (a' : Int) (b' : Int) _).mono ?_; rintro e v137 ⟨rfl, hb138⟩
    have X139 := Lib.hid (X114.out.later hb138)
    have X140 := Lib.hid (X115.out.later hb138)
    have X141 := Lib.hid (X116.out.later hb138)
    have X142 := Lib.hid (X117.out.later hb138)
    have X143 := Lib.hid (X118.out.later hb138)
    have X144 := Lib.hid (X120.out.later hb138)
    have B145 := Lib.hid (B119.out.trans (hb138.mono B119.out.size))
    clear hb138
    rw [HRR.out]
    clear q121 q122 q123 q124 q125 q126 q127 fz128 q129 q130 q131 q132 q133 q134 q135 q136 q100 q101 q102 q103 q104 q105 q106 fz107 q108 q109 q110 q111 q112 q113
    have q146 : v137.cell? ⟨w.heap.size, 0, none⟩ = some (.int .i64 (X : Int)) := X139.out.cell 0
    have q147 : v137.cell? ⟨w.heap.size, 1, none⟩ = some (.int .i64 (Y : Int)) := X139.out.cell 1
    have q148 : v137.cell? ⟨w.heap.size, 2, none⟩ = some (.int .i64 (Z : Int)) := X139.out.cell 2
    have q149 : v137.cell? ⟨w.heap.size + 1, 0, none⟩ = some (.int .i64 (n : Int)) := X140.out.cell 0
    have q150 : v137.cell? ⟨w.heap.size + 1, 1, none⟩ = some (.int .i64 (d : Int)) := X140.out.cell 1
    have q151 : v137.cell? ⟨w.heap.size + 1 + 1, 0, none⟩ = some (.int .i64 0) := X141.out.cell 0
    have q152 : v137.cell? ⟨w.heap.size + 1 + 1, 1, none⟩ = some (.int .i64 0) := X141.out.cell 1
    have fz153 : ∀ o, v137.frozen? ⟨w.heap.size + 1 + 1, o, none⟩ = false := fun o => X141.out.free o
    have q154 : v137.cell? ⟨W1.heap.size, 0, none⟩ = some (.int .i64 (n : Int)) := X142.out.cell 0
    have q155 : v137.cell? ⟨W1.heap.size, 1, none⟩ = some (.int .i64 (d : Int)) := X142.out.cell 1
    have q156 : v137.cell? ⟨W1.heap.size, 2, none⟩ = some (.int .i64 (X : Int)) := X142.out.cell 2
    have q157 : v137.cell? ⟨W1.heap.size, 3, none⟩ = some (.int .i64 (Y : Int)) := X142.out.cell 3
    have q158 : v137.cell? ⟨v33.heap.size, 0, none⟩ = some (.int .i64 (a : Int)) := X143.out.cell 0
    have q159 : v137.cell? ⟨v33.heap.size, 1, none⟩ = some (.int .i64 (b : Int)) := X143.out.cell 1
    have q160 : v137.cell? ⟨v92.heap.size, 0, none⟩ = some ((.int .i64 (a' : Int))) := X144.out.cell 0
    have q161 : v137.cell? ⟨v92.heap.size, 1, none⟩ = some ((.int .i64 (b' : Int))) := X144.out.cell 1
    go_wp2_with fail
    exact endRr Try.results77 rfl rfl HR.out X141.out (by omega) B145.out

end Go.Proofs.Ytmmfmanjajefcaa

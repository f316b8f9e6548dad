/- StonesSum: the walk. -/
import Derived.Test.YtkolfdejnooceaaDoorE1
import Derived.Test.YtkolfdejnooceaaDoorM1
namespace Go.Proofs.YtkolfdejnooceaaDoor
open Go.RowKit

/-- the areas of the first kinds -/
def areasTo (f : Fc) : Nat → Int
  | 0 => 0
  | k + 1 => areasTo f k + areaOf f k
structure SumSt (w wr : World) (f T M : Fc) (s sT sM : Value) (bt bm : Nat) : Prop where
  bF : Box wr w.heap.size 28 #[.int .i64 f.eye, .int .i64 f.rings, .int .i64 f.sectors, s]
  bT : Box wr bt 28 #[.int .i64 f.eye, .int .i64 f.rings, .int .i64 f.sectors, sT]
  bM : Box wr bm 28 #[.int .i64 f.eye, .int .i64 f.rings, .int .i64 f.sectors, sM]
  iT : Ints wr wr.heap.size sT T.kinds
  iM : Ints wr wr.heap.size sM M.kinds
  bel : Below w.heap.size w wr
theorem SumSt.later {w wr W : World} {f T M : Fc} {s sT sM : Value} {bt bm : Nat} (h : SumSt w wr f T M s sT sM bt bm) (hb : Below wr.heap.size wr W) : SumSt w W f T M s sT sM bt bm :=
  ⟨h.bF.later hb, h.bT.later hb, h.bM.later hb, h.iT.mono hb hb.size, h.iM.mono hb hb.size, chain h.bel hb⟩

set_option maxRecDepth 100000 in
set_option maxHeartbeats 4000000 in
theorem StonesSum_c (f : Fc) (v : Value) (by_ : Int) (w : World) (h : IsFace w w.heap.size v f) (hml : ML w) :
    Calls Tryd.prog 4 #[v, .int .i64 by_] w fun e w' => e = .returned (.bool true) ∧ Below w.heap.size w w' := by
  have hF := h
  obtain ⟨s, rfl, hlen, A, cp, rfl, hcap, hcell⟩ := h
  clear hcell
  have b0 := Box.made w 28 #[.int .i64 f.eye, .int .i64 f.rings, .int .i64 f.sectors, .slice A f.kinds.length cp]
  go_enter Tryd.func4, Tryd.ntmps4
  go_wp2_with fail
  refine (awake_c _ (hml.later ((Below.refl _ _).alloc (Nat.le_refl _) _))).mono ?_; rintro e w1 ⟨rfl, hb1⟩
  have hw1 : Below w.heap.size w w1 := boxed hb1
  have b1 := b0.later hb1
  clear b0 hb1 hml
  have k0 : w1.cell? ⟨w.heap.size, 0, none⟩ = some (.int .i64 f.eye) := b1.cell 0
  have k1 : w1.cell? ⟨w.heap.size, 1, none⟩ = some (.int .i64 f.rings) := b1.cell 1
  have k2 : w1.cell? ⟨w.heap.size, 2, none⟩ = some (.int .i64 f.sectors) := b1.cell 2
  have k3 : w1.cell? ⟨w.heap.size, 3, none⟩ = some (.slice A f.kinds.length cp) := b1.cell 3
  go_wp2_with fail
  refine (short_c f _ w1 (hF.mono hw1 hw1.size)).mono ?_; rintro e w2 ⟨rfl, hb2⟩
  have b2 := b1.later hb2
  have hw2 := chain hw1 hb2
  clear k0 k1 k2 k3 hb2 b1 hw1
  cases hsh : decide (f.kinds.length ≤ 3000)
  · go_wp2_with fail
    go_ret
    exact ⟨rfl, hw2⟩
  clear hsh
  have k0 : w2.cell? ⟨w.heap.size, 0, none⟩ = some (.int .i64 f.eye) := b2.cell 0
  have k1 : w2.cell? ⟨w.heap.size, 1, none⟩ = some (.int .i64 f.rings) := b2.cell 1
  have k2 : w2.cell? ⟨w.heap.size, 2, none⟩ = some (.int .i64 f.sectors) := b2.cell 2
  have k3 : w2.cell? ⟨w.heap.size, 3, none⟩ = some (.slice A f.kinds.length cp) := b2.cell 3
  go_wp2_with fail
  refine (Valid_c f _ w2 (hF.mono hw2 hw2.size)).mono ?_; rintro e w3 ⟨rfl, hb3⟩
  have b3 := b2.later hb3
  have hw3 := chain hw2 hb3
  clear k0 k1 k2 k3 hb3 b2 hw2
  cases hv : validB f
  · go_wp2_with fail
    go_ret
    exact ⟨rfl, hw3⟩
  have k0 : w3.cell? ⟨w.heap.size, 0, none⟩ = some (.int .i64 f.eye) := b3.cell 0
  have k1 : w3.cell? ⟨w.heap.size, 1, none⟩ = some (.int .i64 f.rings) := b3.cell 1
  have k2 : w3.cell? ⟨w.heap.size, 2, none⟩ = some (.int .i64 f.sectors) := b3.cell 2
  have k3 : w3.cell? ⟨w.heap.size, 3, none⟩ = some (.slice A f.kinds.length cp) := b3.cell 3
  go_wp2_with fail
  refine (Turn_c f _ by_ w3 (hF.mono hw3 hw3.size)).mono ?_; rintro e w4 ⟨A4, n4, c4, rfl, hI4, -, hb4⟩
  rw [if_pos hv] at hI4
  rw [if_pos hv, if_pos hv]
  have b4 := b3.later hb4
  have hw4 := chain hw3 hb4
  clear k0 k1 k2 k3 hb4 b3 hw3
  have bT := Box.made w4 28 #[.int .i64 f.eye, .int .i64 f.rings, .int .i64 f.sectors, .slice A4 n4 c4]
  have q0 : ∀ o : Obj, (w4.alloc o).cell? ⟨w.heap.size, 0, none⟩ = some (.int .i64 f.eye) := fun o => (b4.alloc o).cell 0
  have q1 : ∀ o : Obj, (w4.alloc o).cell? ⟨w.heap.size, 1, none⟩ = some (.int .i64 f.rings) := fun o => (b4.alloc o).cell 1
  have q2 : ∀ o : Obj, (w4.alloc o).cell? ⟨w.heap.size, 2, none⟩ = some (.int .i64 f.sectors) := fun o => (b4.alloc o).cell 2
  have q3 : ∀ o : Obj, (w4.alloc o).cell? ⟨w.heap.size, 3, none⟩ = some (.slice A f.kinds.length cp) := fun o => (b4.alloc o).cell 3
  go_wp2_with fail
  refine (Mirror_c f _ _ ((hF.mono hw4 hw4.size).box _)).mono ?_; rintro e w5 ⟨A5, n5, c5, rfl, hI5, -, hb5⟩
  rw [if_pos hv] at hI5
  rw [if_pos hv, if_pos hv]
  have hk5 : Below w4.heap.size w4 w5 := boxed hb5
  have b5 := b4.later hk5
  have bT5 := bT.later hb5
  have hw5 := chain hw4 hk5
  have hI45 := hI4.mono hk5 hk5.size
  have bM := Box.made w5 28 #[.int .i64 f.eye, .int .i64 f.rings, .int .i64 f.sectors, .slice A5 n5 c5]
  clear q0 q1 q2 q3 hb5 b4 hw4 bT hk5 hI4
  go_wp2_with fail
  have hst : SumSt w (w5.alloc (.cells #[.int .i64 f.eye, .int .i64 f.rings, .int .i64 f.sectors, .slice A5 n5 c5] 28)) f (turnF f by_) (mirF f) (.slice A f.kinds.length cp) (.slice A4 n4 c4) (.slice A5 n5 c5) w4.heap.size w5.heap.size :=
    ⟨b5.alloc _, bT5.alloc _, bM, hI45.box _, hI5.box _, hw5.alloc hw5.size _⟩
  clear b5 bT5 bM hI45 hI5 hw5
  generalize w5.alloc (.cells #[.int .i64 f.eye, .int .i64 f.rings, .int .i64 f.sectors, .slice A5 n5 c5] 28) = w6 at *
  obtain ⟨⟨⟨a1, a2⟩, ⟨a3, a4⟩, a5, a6⟩, hl, -⟩ := validB_iff.1 hv
  have hl6 : f.kinds.length ≤ 2304 := (len_val hv).2.2
  have hbd : ∀ kind : Int, 0 ≤ kind ∧ kind ≤ 2 → 0 ≤ areaOf f kind ∧ areaOf f kind ≤ 186624 := fun kind hk => by
    have h1 := areaTo_bd (f := f) kind f.kinds.length a1 a2 a5 (by omega) a4
    unfold areaOf
    rw [if_pos (ckKind_of hv kind hk)]
    omega
  have hb0 := hbd 0 (by omega)
  have hb1 := hbd 1 (by omega)
  have hb2 := hbd 2 (by omega)
  have hall := area_all hv
  have Hall := Lib.hid hall
  clear hall hbd hl
  generalize w4.heap.size = bt at *
  generalize w5.heap.size = bm at *
  go_loopw [10, 11] (fun n kd wr => ∃ k : Nat, k ≤ 3 ∧ kd = .int .i64 (k : Int) ∧ n = .int .i64 (areasTo f k) ∧ SumSt w wr f (turnF f by_) (mirF f) (.slice A f.kinds.length cp) (.slice A4 n4 c4) (.slice A5 n5 c5) bt bm) (fun _ kd _ => 3 - (intOf kd).toNat)
  case atStart => exact ⟨0, by omega, rfl, rfl, hst⟩
  case round =>
    clear hst
    obtain ⟨k, hk, rfl, rfl, hst⟩ := hrel
    by_cases hlt : k < 3
    · have e1 := ckKind_of hv (k : Int) (by omega)
      have e2 := ckKind_of (turnF_valid hv by_) (k : Int) (by omega)
      have e3 := ckKind_of (mirF_valid hv) (k : Int) (by omega)
      have e4 := area_turn hv by_ (k : Int) (by omega)
      have e5 := area_mir hv (k : Int) (by omega)
      have e6 : areasTo f (k + 1) = areasTo f k + areaOf f (k : Int) := rfl
      have e7 : 0 ≤ areasTo f k ∧ areasTo f k ≤ 400000 := by
        have h3 : k = 0 ∨ k = 1 ∨ k = 2 := by omega
        rcases h3 with rfl | rfl | rfl
        · simp [areasTo]
        · simp only [areasTo]; dsimp only [Int.natCast_zero]; omega
        · simp only [areasTo]; dsimp only [Int.natCast_zero, Int.natCast_one]; omega
      have e8 : 0 ≤ areaOf f (k : Int) ∧ areaOf f (k : Int) ≤ 186624 := by
        have h3 : k = 0 ∨ k = 1 ∨ k = 2 := by omega
        rcases h3 with rfl | rfl | rfl
        · exact hb0
        · exact hb1
        · exact hb2
      have E1 := Lib.hid e1
      have E2 := Lib.hid e2
      have E3 := Lib.hid e3
      have E4 := Lib.hid e4
      have E5 := Lib.hid e5
      have E6 := Lib.hid e6
      obtain ⟨e71, e72⟩ := e7
      obtain ⟨e81, e82⟩ := e8
      clear e1 e2 e3 e4 e5 e6
      have k0 : wr.cell? ⟨w.heap.size, 0, none⟩ = some (.int .i64 f.eye) := hst.bF.cell 0
      have k1 : wr.cell? ⟨w.heap.size, 1, none⟩ = some (.int .i64 f.rings) := hst.bF.cell 1
      have k2 : wr.cell? ⟨w.heap.size, 2, none⟩ = some (.int .i64 f.sectors) := hst.bF.cell 2
      have k3 : wr.cell? ⟨w.heap.size, 3, none⟩ = some (.slice A f.kinds.length cp) := hst.bF.cell 3
      go_wp2_with fail
      refine (Area_c f _ (k : Int) wr (hF.mono hst.bel hst.bel.size)).mono ?_; rintro e w7 ⟨rfl, hb7⟩
      rw [E1.out]
      have h7 := hst.later hb7
      clear k0 k1 k2 k3 hst hb7
      have k0 : w7.cell? ⟨bt, 0, none⟩ = some (.int .i64 f.eye) := h7.bT.cell 0
      have k1 : w7.cell? ⟨bt, 1, none⟩ = some (.int .i64 f.rings) := h7.bT.cell 1
      have k2 : w7.cell? ⟨bt, 2, none⟩ = some (.int .i64 f.sectors) := h7.bT.cell 2
      have k3 : w7.cell? ⟨bt, 3, none⟩ = some (.slice A4 n4 c4) := h7.bT.cell 3
      go_wp2_with fail
      refine (Area_c (turnF f by_) _ (k : Int) w7 (IsFace.mk h7.iT)).mono ?_; rintro e w8 ⟨rfl, hb8⟩
      rw [E2.out, E4.out]
      have h8 := h7.later hb8
      clear k0 k1 k2 k3 h7 hb8
      have k0 : w8.cell? ⟨bm, 0, none⟩ = some (.int .i64 f.eye) := h8.bM.cell 0
      have k1 : w8.cell? ⟨bm, 1, none⟩ = some (.int .i64 f.rings) := h8.bM.cell 1
      have k2 : w8.cell? ⟨bm, 2, none⟩ = some (.int .i64 f.sectors) := h8.bM.cell 2
      have k3 : w8.cell? ⟨bm, 3, none⟩ = some (.slice A5 n5 c5) := h8.bM.cell 3
      go_wp2_with fail
      refine (Area_c (mirF f) _ (k : Int) w8 (IsFace.mk h8.iM)).mono ?_; rintro e w9 ⟨rfl, hb9⟩
      rw [E3.out, E5.out]
      have h9 := h8.later hb9
      clear k0 k1 k2 k3 h8 hb9
      go_wp2_with fail
      go_roundw
      case rel => exact ⟨k + 1, by omega, by go_num, by rw [E6.out], h9⟩
      case measure => simp [intOf]; omega
    · obtain rfl : k = 3 := by omega
      have k0 : wr.cell? ⟨w.heap.size, 0, none⟩ = some (.int .i64 f.eye) := hst.bF.cell 0
      have k1 : wr.cell? ⟨w.heap.size, 1, none⟩ = some (.int .i64 f.rings) := hst.bF.cell 1
      have k2 : wr.cell? ⟨w.heap.size, 2, none⟩ = some (.int .i64 f.sectors) := hst.bF.cell 2
      have e9 : areasTo f 3 = f.sectors * ((f.eye + f.rings) * (f.eye + f.rings) - f.eye * f.eye) := by
        rw [← Hall.out]
        show 0 + areaOf f 0 + areaOf f 1 + areaOf f 2 = _
        omega
      have E9 := Lib.hid e9
      clear e9
      obtain ⟨p1, p2⟩ := mul_bd (a := f.eye + f.rings) (b := f.eye + f.rings) (m := 40) (n := 40) (by omega) (by omega) (by omega) (by omega)
      obtain ⟨p3, p4⟩ := mul_bd (a := f.eye) (b := f.eye) (m := 16) (n := 16) (by omega) (by omega) (by omega) (by omega)
      have p5 : f.eye * f.eye ≤ (f.eye + f.rings) * (f.eye + f.rings) := Int.mul_le_mul (by omega) (by omega) (by omega) (by omega)
      obtain ⟨p6, p7⟩ := mul_bd (a := f.sectors) (b := (f.eye + f.rings) * (f.eye + f.rings) - f.eye * f.eye) (m := 96) (n := 1600) (by omega) (by omega) (by omega) (by omega)
      have u1 := wrap_id (n := (f.eye + f.rings) * (f.eye + f.rings)) (by omega) (by omega)
      have u2 := wrap_id (n := f.eye * f.eye) (by omega) (by omega)
      have u3 := wrap_id (n := (f.eye + f.rings) * (f.eye + f.rings) - f.eye * f.eye) (by omega) (by omega)
      have u4 := wrap_id (n := f.sectors * ((f.eye + f.rings) * (f.eye + f.rings) - f.eye * f.eye)) (by omega) (by omega)
      go_wp2_with fail
      go_ret
      exact ⟨ret_bool (by rw [E9.out]; simp), hst.bel⟩

end Go.Proofs.YtkolfdejnooceaaDoor

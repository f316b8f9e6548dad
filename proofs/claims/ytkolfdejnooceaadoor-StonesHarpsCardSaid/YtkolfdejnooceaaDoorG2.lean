/- StonesHarps: the walk. -/
import Derived.Test.YtkolfdejnooceaaDoorE1
import Derived.Test.YtkolfdejnooceaaDoorM2
namespace Go.Proofs.YtkolfdejnooceaaDoor
open Go.RowKit

structure HarpSt (w wr : World) (f : Fc) (m : Int) (s sX : Value) (bx : Nat) : Prop where
  bF : Box wr w.heap.size 28 #[.int .i64 f.eye, .int .i64 f.rings, .int .i64 f.sectors, s]
  bX : Box wr bx 28 #[.int .i64 f.eye, .int .i64 f.rings, .int .i64 m, sX]
  iX : Ints wr wr.heap.size sX (harpF f m).kinds
  bel : Below w.heap.size w wr
theorem HarpSt.later {w wr W : World} {f : Fc} {m : Int} {s sX : Value} {bx : Nat} (h : HarpSt w wr f m s sX bx) (hb : Below wr.heap.size wr W) : HarpSt w W f m s sX bx :=
  ⟨h.bF.later hb, h.bX.later hb, h.iX.mono hb hb.size, chain h.bel hb⟩

set_option maxRecDepth 100000 in
set_option maxHeartbeats 4000000 in
theorem StonesHarps_c (f : Fc) (v : Value) (w : World) (h : IsFace w w.heap.size v f) (hml : ML w) :
    Calls Tryd.prog 9 #[v] w fun e w' => e = .returned (.bool true) ∧ Below w.heap.size w w' := by
  have hF := h
  obtain ⟨s, rfl, hlen, A, cp, rfl, hcap, hcell⟩ := h
  have b0 := Box.made w 28 #[.int .i64 f.eye, .int .i64 f.rings, .int .i64 f.sectors, .slice A f.kinds.length cp]
  have Hcell := Lib.hid hcell
  clear hcell
  go_enter Tryd.func9, Tryd.ntmps9
  go_wp2_with fail
  refine (awake_c _ (hml.later ((Below.refl _ _).alloc (Nat.le_refl _) _))).mono ?_; rintro e w1 ⟨rfl, hb1⟩
  have hw1 : Below w.heap.size w w1 := boxed hb1
  have b1 := b0.later hb1
  clear b0 hb1 hml
  have k0 : w1.cell? ⟨w.heap.size, 0, none⟩ = some (.int .i64 f.eye) := b1.cell 0
  have k1 : w1.cell? ⟨w.heap.size, 1, none⟩ = some (.int .i64 f.rings) := b1.cell 1
  have k2 : w1.cell? ⟨w.heap.size, 2, none⟩ = some (.int .i64 f.sectors) := b1.cell 2
  have k3 : w1.cell? ⟨w.heap.size, 3, none⟩ = some (.slice A f.kinds.length cp) := b1.cell 3
  go_wp2_with fail
  refine (short_c f _ w1 (hF.mono hw1 hw1.size)).mono ?_; rintro e w2 ⟨rfl, hb2⟩
  have b2 := b1.later hb2
  have hw2 := chain hw1 hb2
  clear k0 k1 k2 k3 hb2 b1 hw1
  cases hsh : decide (f.kinds.length ≤ 3000)
  · go_wp2_with fail
    go_ret
    exact ⟨rfl, hw2⟩
  clear hsh
  have k0 : w2.cell? ⟨w.heap.size, 0, none⟩ = some (.int .i64 f.eye) := b2.cell 0
  have k1 : w2.cell? ⟨w.heap.size, 1, none⟩ = some (.int .i64 f.rings) := b2.cell 1
  have k2 : w2.cell? ⟨w.heap.size, 2, none⟩ = some (.int .i64 f.sectors) := b2.cell 2
  have k3 : w2.cell? ⟨w.heap.size, 3, none⟩ = some (.slice A f.kinds.length cp) := b2.cell 3
  go_wp2_with fail
  refine (Harp_c f _ w2 (hF.mono hw2 hw2.size)).mono ?_; rintro e w3 ⟨A3, n3, c3, rfl, hI3, -, hb3⟩
  have b3 := b2.later hb3
  have hw3 := chain hw2 hb3
  clear k0 k1 k2 k3 hb3 b2 hw2
  have q0 : ∀ o : Obj, (w3.alloc o).cell? ⟨w.heap.size, 0, none⟩ = some (.int .i64 f.eye) := fun o => (b3.alloc o).cell 0
  have q1 : ∀ o : Obj, (w3.alloc o).cell? ⟨w.heap.size, 1, none⟩ = some (.int .i64 f.rings) := fun o => (b3.alloc o).cell 1
  have q2 : ∀ o : Obj, (w3.alloc o).cell? ⟨w.heap.size, 2, none⟩ = some (.int .i64 f.sectors) := fun o => (b3.alloc o).cell 2
  have q3 : ∀ o : Obj, (w3.alloc o).cell? ⟨w.heap.size, 3, none⟩ = some (.slice A f.kinds.length cp) := fun o => (b3.alloc o).cell 3
  have hl3 := b3.lt
  cases hv : validB f
  · rw [hv] at hI3
    go_wp2_with fail
    refine (Period_c f _ _ ((hF.mono hw3 hw3.size).box _)).mono ?_; rintro e w4 ⟨rfl, hb4⟩
    have hw4 := chain hw3 (boxed hb4)
    rw [hv]
    clear q0 q1 q2 q3
    go_wp2_with fail
    go_ret
    exact ⟨rfl, hw4⟩
  rw [hv, if_pos rfl] at hI3
  obtain ⟨m, hm⟩ : ∃ m : Nat, (m : Int) = max ((perN f : Nat) : Int) 2 := by obtain ⟨m, hm⟩ := Int.eq_ofNat_of_zero_le (show 0 ≤ max ((perN f : Nat) : Int) 2 by omega); exact ⟨m, hm.symm⟩
  rw [← hm] at hI3
  rw [if_pos rfl, if_pos rfl]
  rw [← hm]
  obtain ⟨hl8, A8, c8, e8, hc8, hd8⟩ := hI3
  obtain ⟨rfl, rfl, rfl⟩ : A3 = A8 ∧ n3 = (harpF f m).kinds.length ∧ c3 = c8 := by injection e8 with q1 q2 q3; exact ⟨q1, q2, q3⟩
  clear e8
  have hI3 : Ints w3 w3.heap.size (.slice A3 (harpF f m).kinds.length c3) (harpF f m).kinds := ⟨hl8, A3, c3, rfl, hc8, hd8⟩
  clear hl8 hc8 hd8
  have Hm := Lib.hid hm
  have Hm2 := Lib.hid (show (m : Int) = ((max (perN f) 2 : Nat) : Int) by rw [hm]; omega)
  clear hm
  have bX := Box.made w3 28 #[.int .i64 f.eye, .int .i64 f.rings, .int .i64 m, .slice A3 (harpF f m).kinds.length c3]
  have ex : (harpF f m).eye = f.eye ∧ (harpF f m).rings = f.rings ∧ (harpF f m).sectors = m := ⟨rfl, rfl, rfl⟩
  rw [ex.1, ex.2.1, ex.2.2]
  clear ex
  go_wp2_with fail
  refine (Period_c f _ _ ((hF.mono hw3 hw3.size).box _)).mono ?_; rintro e w4 ⟨rfl, hb4⟩
  rw [if_pos hv]
  have hst : HarpSt w w4 f m (.slice A f.kinds.length cp) (.slice A3 (harpF f m).kinds.length c3) w3.heap.size := ⟨(b3.alloc _).later hb4, bX.later hb4, (hI3.box _).mono hb4 hb4.size, chain hw3 (boxed hb4)⟩
  clear q0 q1 q2 q3 hb4 bX b3 hw3 hI3
  have k0 : w4.cell? ⟨w3.heap.size, 0, none⟩ = some (.int .i64 f.eye) := hst.bX.cell 0
  have k1 : w4.cell? ⟨w3.heap.size, 1, none⟩ = some (.int .i64 f.rings) := hst.bX.cell 1
  have k2 : w4.cell? ⟨w3.heap.size, 2, none⟩ = some (.int .i64 m) := hst.bX.cell 2
  have k3 : w4.cell? ⟨w3.heap.size, 3, none⟩ = some (.slice A3 (harpF f m).kinds.length c3) := hst.bX.cell 3
  go_wp2_with fail
  refine (Valid_c (harpF f m) _ w4 (IsFace.mk hst.iX)).mono ?_; rintro e w5 ⟨rfl, hb5⟩
  rw [show validB (harpF f m) = true by rw [Hm.out]; exact harpF_valid hv]
  have h5 := hst.later hb5
  clear k0 k1 k2 k3 hst hb5
  have k2 : w5.cell? ⟨w3.heap.size, 2, none⟩ = some (.int .i64 m) := h5.bX.cell 2
  have k1 : w5.cell? ⟨w3.heap.size, 1, none⟩ = some (.int .i64 f.rings) := h5.bX.cell 1
  have k0 : w5.cell? ⟨w3.heap.size, 0, none⟩ = some (.int .i64 f.eye) := h5.bX.cell 0
  have k4 : w5.cell? ⟨w.heap.size, 0, none⟩ = some (.int .i64 f.eye) := h5.bF.cell 0
  have k5 : w5.cell? ⟨w.heap.size, 1, none⟩ = some (.int .i64 f.rings) := h5.bF.cell 1
  go_wp2_with fail
  clear k0 k1 k2 k4 k5
  obtain ⟨R, S, hR, hS, s1, s2, s3, s4, s5, s6, s7⟩ := dims hv
  have hmS : m ≤ S ∧ 2 ≤ m := by
    obtain ⟨p1, p2, -, -⟩ := perN_is hv
    have := Hm.out
    omega
  have hlX : (harpF f m).kinds.length = R * m := by
    show (redL f (m : Int).toNat (fun i => i) (f.rings.toNat * (m : Int).toNat)).length = _
    rw [redL_len, s6]; rfl
  have hJ := h5.iX
  have b5 := h5.bel
  have s5' := b5.size
  go_loopw [8] (fun i wr => ∃ k : Nat, k ≤ f.kinds.length ∧ i = .int .i64 (k : Int) ∧ Below w5.heap.size w5 wr) (fun i _ => f.kinds.length - (intOf i).toNat)
  case atStart => exact ⟨0, Nat.zero_le _, rfl, Below.refl _ _⟩
  case round =>
    obtain ⟨k, hk, rfl, hbr⟩ := hrel
    have h6 := h5.later hbr
    have k2 : wr.cell? ⟨w3.heap.size, 2, none⟩ = some (.int .i64 m) := h6.bX.cell 2
    have k3 : wr.cell? ⟨w3.heap.size, 3, none⟩ = some (.slice A3 (harpF f m).kinds.length c3) := h6.bX.cell 3
    have k4 : wr.cell? ⟨w.heap.size, 2, none⟩ = some (.int .i64 f.sectors) := h6.bF.cell 2
    have k5 : wr.cell? ⟨w.heap.size, 3, none⟩ = some (.slice A f.kinds.length cp) := h6.bF.cell 3
    have hbw := chain b5 hbr
    clear h5
    by_cases hlt : k < f.kinds.length
    · have hlt2 : k / S * m + k % S % m < (harpF f m).kinds.length := by
        have u1 : k / S < R := Nat.div_lt_of_lt_mul (by rw [Nat.mul_comm]; omega)
        have u2 : k % S % m < m := Nat.mod_lt _ (by omega)
        have u3 : (k / S + 1) * m ≤ R * m := Nat.mul_le_mul_right _ u1
        rw [Nat.add_mul] at u3
        omega
      obtain ⟨b, off, rfl, hbB, hcc⟩ := Hcell.out (by omega)
      obtain ⟨-, A9, c9, e9, -, hd9⟩ := hJ
      obtain ⟨rfl, rfl⟩ : A3 = A9 ∧ c3 = c9 := by injection e9 with q1 q2 q3; exact ⟨q1, q3⟩
      clear e9
      obtain ⟨b', off', rfl, hbB', hcc'⟩ := hd9 (by omega)
      have hx := keepd (hcc k hlt) hbw hbB
      have hy := keepd (hcc' _ hlt2) hbr hbB'
      rw [← harp_cell hv R S m hR hS Hm2.out k (by omega)] at hy
      have hne : (nth f.kinds k != nth f.kinds k) = false := by simp
      have hdl : decide ((k : Int) < (f.kinds.length : Int)) = true := by simpa using hlt
      have z1 : ¬ f.sectors = 0 := by omega
      have z2 : ¬ ((m : Nat) : Int) = 0 := by omega
      have d1 : k / S ≤ 24 := by
        have u1 : k / S < R := Nat.div_lt_of_lt_mul (by rw [Nat.mul_comm]; omega)
        omega
      have d2 : k / S * m ≤ 24 * 96 := Nat.mul_le_mul d1 (by omega)
      have wn : ∀ n : Nat, n ≤ 100000 → IntKind.i64.wrap (n : Int) = (n : Int) := fun n h => wrap_id (by omega) (by omega)
      have d3 : k % S % m < m := Nat.mod_lt _ (by omega)
      have e1 : (k : Int) / f.sectors = ((k / S : Nat) : Int) := by rw [hS]; rfl
      have e2 : (k : Int) % f.sectors = ((k % S : Nat) : Int) := by rw [hS]; rfl
      have e3 : ((k % S : Nat) : Int) % (m : Int) = ((k % S % m : Nat) : Int) := rfl
      have e4 : ((k / S : Nat) : Int) * (m : Int) = ((k / S * m : Nat) : Int) := rfl
      have j1 : k % S < S := Nat.mod_lt _ (by omega)
      have j2 : m ≤ 96 := by omega
      generalize hr : k % S % m = r at *
      generalize hr0 : k % S = r0 at *
      generalize hq : k / S * m = q at *
      generalize hq0 : k / S = q0 at *
      have z3 : 1 ≤ f.sectors := by omega
      have z4 : 1 ≤ (m : Int) := by omega
      have j4 : r ≤ 96 := by omega
      have j5 : r0 ≤ 96 := by omega
      have j6 : k ≤ 2304 := by
        have : R * S ≤ 24 * 96 := Nat.mul_le_mul (by omega) s2
        omega
      have i0 : (0 : Int) ≤ (k : Int) := Int.natCast_nonneg _
      have i1 : (k : Int) < (f.kinds.length : Int) := by omega
      have i2 : (0 : Int) ≤ (q : Int) + (r : Int) := by omega
      have i3 : (q : Int) + (r : Int) < ((harpF f m).kinds.length : Int) := by omega
      clear hcc hcc' hd9 hq hr hr0 hq0 d3 Hcell h6 wn hlX hmS s1 s2 s3 s4 s6 s7 hR hS j1
      have hsz := hbr.size
      clear ‹(m : Int) = max ((perN f : Nat) : Int) 2›
      go_wp2_with fail
      go_quiet (fail)
      have hbn : Below w5.heap.size w5 (wr.drewN nq) := ⟨hbr.os, hbr.tape, hbr.output, hbr.size, hbr.block⟩
      go_wp2_with fail
      go_roundw
      case rel => exact ⟨k + 1, by omega, by go_num, hbn⟩
      case measure => simp [intOf]; omega
    · obtain rfl : k = f.kinds.length := by omega
      have hdl : decide ((f.kinds.length : Int) < (f.kinds.length : Int)) = false := by simp
      go_wp2_with fail
      go_ret
      exact ⟨rfl, hbw⟩

end Go.Proofs.YtkolfdejnooceaaDoor

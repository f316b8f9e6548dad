/- Layer 2: the specification: cells, lists of moves. -/
import Derived.Test.YtikfiallhmhicaaC32
import Derived.Maps.AppendAt
set_option linter.all false
namespace Go.Proofs.Ytikfiallhmhicaa
open Go.RowKit

set_option maxRecDepth 100000 in
set_option maxHeartbeats 8000000 in
theorem kAround_c (n S : Int) (w : World) (hS : 2 ≤ S ∧ S ≤ 96) (h1 : -S ≤ n ∧ n ≤ 200) : Calls Try.prog 73 #[.int .i64 n, .int .i64 S] w fun e w' => e = .returned (.int .i64 (arnd n S)) ∧ w = w' := by
  obtain ⟨S, rfl⟩ : ∃ m : Nat, S = (m : Int) := ⟨S.toNat, by omega⟩
  have hd := Int.mul_tdiv_add_tmod n (S : Int)
  have hl1 : -(S : Int) < n.tmod S := by have := Int.tmod_lt_of_pos (-n) (b := (S : Int)) (by omega); rw [Int.neg_tmod] at this; omega
  have hl2 : n.tmod S < (S : Int) := Int.tmod_lt_of_pos n (by omega)
  obtain ⟨x, hx⟩ : ∃ x, n.tmod (S : Int) = x := ⟨_, rfl⟩
  rw [hx] at hd hl1 hl2
  obtain ⟨m, hm⟩ : ∃ m : Nat, x + (S : Int) = (m : Int) := ⟨(x + (S : Int)).toNat, by omega⟩
  have v1 : IntKind.i64.wrap (x + (S : Int)) = (m : Int) := by rw [hm]; exact wrap_id (by omega) (by omega)
  have hq := Nat.mod_lt m (show 0 < S by omega)
  obtain ⟨q, hqe⟩ : ∃ q, m % S = q := ⟨_, rfl⟩
  rw [hqe] at hq
  have eq : (m : Int) % (S : Int) = (q : Int) := by rw [← hqe]; simp
  have HN := Lib.hid (show arnd n (S : Int) = (q : Int) by
    unfold arnd
    rw [← eq, ← hm, Int.add_emod_right, ← hd, Int.mul_add_emod_self_left])
  have v2 : IntKind.i64.wrap (q : Int) = (q : Int) := wrap_id (by omega) (by omega)
  have v3 : IntKind.i64.wrap x = x := wrap_id (by omega) (by omega)
  have z3 : decide ((S : Int) = 0) = false := decide_eq_false (by omega)
  have z5 : ¬ S = 0 := by omega
  have z6 : ¬ (S : Int) = 0 := by omega
  have t2 : (m : Int).tmod (S : Int) = (q : Int) := by rw [Int.tmod_eq_emod_of_nonneg (by omega)]; exact eq
  have s0 : (0 : Int) < (S : Int) := by omega
  have s1 : 0 < S := by omega
  clear hd hl1 hl2 hm hq hqe hS h1
  go_enter Try.func73, Try.ntmps73
  go_wp2_with fail
  go_ret
  exact ⟨by first | exact ret_int HN.out.symm | (rw [HN.out]; first | rfl | (rw [eq])), rfl⟩

set_option maxRecDepth 100000 in
set_option maxHeartbeats 8000000 in
theorem kover_c (p : Pr) (a b t : Int) (v : Value) (w : World) (h : IsPair w w.heap.size v p) (h0 : ckE p = 0) (hs : hasB p ⟨a, b, t⟩ = true) : Calls Try.prog 47 #[v, .agg #[.int .i64 a, .int .i64 b, .int .i64 t]] w fun e w' => e = .returned (.tuple #[.int .i64 (bedK p ⟨a, b, t⟩), .int .i64 (runK p ⟨a, b, t⟩)]) ∧ Below w.heap.size w w' := by
  obtain ⟨s, r, d, hpv, i1, i2, i3⟩ := id h
  subst hpv
  obtain ⟨⟨e1, R1, S1, k1⟩, ⟨e2, R2, S2, k2⟩, dr⟩ := p
  obtain ⟨SA, sn, sc, rfl⟩ : ∃ A n c, s = .slice A n c := by obtain ⟨-, A, c, rfl, -⟩ := i1; exact ⟨_, _, _, rfl⟩
  obtain ⟨RA, rn, rc, rfl⟩ : ∃ A n c, r = .slice A n c := by obtain ⟨-, A, c, rfl, -⟩ := i2; exact ⟨_, _, _, rfl⟩
  unfold pairV at *
  dsimp only at *
  obtain ⟨n, m, q1, q2, q3, q4, q5, q6, -⟩ := over_bd h0 hs
  obtain ⟨hR, hS, -⟩ := ckE_bd h0
  obtain ⟨c1, c2, c3⟩ := hasB_parts.1 hs
  dsimp only at q3 q4 q5 q6 hR hS c1 c2 c3
  have ha := arnd_bd (n := b - t) (m := S1) (by omega)
  obtain ⟨⟨m1, m2⟩, m3, m4⟩ := cells_bd hS hR.2 c1 c2
  obtain ⟨-, m5, m6⟩ := cells_bd hS hR.2 c1 ha
  obtain ⟨m7, m8⟩ := mul_bd (a := R1) (b := S1) (m := 24) (n := 96) (by omega) (by omega) (by omega) (by omega)
  have HD := Lib.hid (show -S1 ≤ b - t ∧ b - t ≤ 200 by omega)
  have HSB := Lib.hid hS
  have q1' : a * S1 + b = (n : Int) := q1
  have q2' : a * S1 + arnd (b - t) S1 = (m : Int) := q2
  obtain ⟨r0, hr0⟩ : ∃ r, arnd (b - t) S1 = r := ⟨_, rfl⟩
  have HRR := Lib.hid hr0
  rw [hr0] at q2' ha m5 m6
  obtain ⟨x0, hx0⟩ : ∃ r, a * S1 = r := ⟨_, rfl⟩
  rw [hx0] at q1' q2' m1 m2 m3 m4 m5 m6
  have v1 : IntKind.i64.wrap (a * S1) = x0 := by rw [hx0]; exact wrap_id (by omega) (by omega)
  have v2 : IntKind.i64.wrap (x0 + b) = (n : Int) := by rw [q1']; exact wrap_id (by omega) (by omega)
  have v3 : IntKind.i64.wrap (b - t) = b - t := wrap_id (by omega) (by omega)
  have v4 : IntKind.i64.wrap (x0 + r0) = (m : Int) := by rw [q2']; exact wrap_id (by omega) (by omega)
  have HV := Lib.hid (And.intro q5 q6)
  obtain ⟨-, A1, cc1, he1, -, hc1⟩ := i1
  cases he1
  obtain ⟨-, A2, cc2, he2, -, hc2⟩ := i2
  cases he2
  obtain ⟨b1, o1, rfl, hb1, hcc1⟩ := hc1 (by omega)
  obtain ⟨b2, o2, rfl, hb2, hcc2⟩ := hc2 (by omega)
  have y1 := hcc1 n q3
  have y2 := hcc2 m q4
  obtain ⟨l1, hl1⟩ : ∃ l, k1.length = l := ⟨_, rfl⟩
  obtain ⟨l2, hl2⟩ : ∃ l, k2.length = l := ⟨_, rfl⟩
  rw [hl1] at q3 ⊢
  rw [hl2] at q4 ⊢
  have j0 : (0 : Int) ≤ (n : Int) := Int.natCast_nonneg _
  have j1 : (n : Int) < (l1 : Int) := by omega
  have j2 : (0 : Int) ≤ (m : Int) := Int.natCast_nonneg _
  have j3 : (m : Int) < (l2 : Int) := by omega
  obtain ⟨kb, hkb⟩ : ∃ z, nth k1 n = z := ⟨_, rfl⟩
  obtain ⟨kr, hkr⟩ : ∃ z, nth k2 m = z := ⟨_, rfl⟩
  rw [hkb] at y1 HV
  rw [hkr] at y2 HV
  have Y1 := Lib.hid (And.intro y1 hb1)
  have Y2 := Lib.hid (And.intro y2 hb2)
  clear h h0 hs i3 hc1 hc2 hcc1 hcc2 y1 y2 hb1 hb2 q1 q2 q1' q2' q3 q4 q5 q6 hR hS c1 c2 c3 ha m1 m2 m3 m4 m5 m6 m7 m8 hr0 hx0 hkb hkr hl1 hl2
  go_enter Try.func47, Try.ntmps47
  go_wp2_with fail
  obtain ⟨W1, hW2⟩ : ∃ Wzz, ((w.alloc (.cells #[.int .i64 e1, .int .i64 R1, .int .i64 S1, .slice (some ⟨b1, o1, none⟩) l1 sc, .int .i64 e2, .int .i64 R2, .int .i64 S2, .slice (some ⟨b2, o2, none⟩) l2 rc, d] 27)).alloc (.cells #[.int .i64 a, .int .i64 b, .int .i64 t] 29)) = Wzz := ⟨_, rfl⟩
  have B3 := Lib.hid (show Below w.heap.size w W1 by rw [← hW2]; exact (((Below.refl w.heap.size w).alloc (Nat.le_refl _) _).alloc (by first | (simp; done) | (simp; omega)) _))
  have X4 := Lib.hid (show Box W1 (w.heap.size) 27 #[.int .i64 e1, .int .i64 R1, .int .i64 S1, .slice (some ⟨b1, o1, none⟩) l1 sc, .int .i64 e2, .int .i64 R2, .int .i64 S2, .slice (some ⟨b2, o2, none⟩) l2 rc, d] by rw [← hW2]; exact Box.alloc (Box.made w 27 #[.int .i64 e1, .int .i64 R1, .int .i64 S1, .slice (some ⟨b1, o1, none⟩) l1 sc, .int .i64 e2, .int .i64 R2, .int .i64 S2, .slice (some ⟨b2, o2, none⟩) l2 rc, d]) (.cells #[.int .i64 a, .int .i64 b, .int .i64 t] 29))
  have X5 := Lib.hid (show Box W1 (w.heap.size + 1) 29 #[.int .i64 a, .int .i64 b, .int .i64 t] by
    have hz := Box.made (w.alloc (.cells #[.int .i64 e1, .int .i64 R1, .int .i64 S1, .slice (some ⟨b1, o1, none⟩) l1 sc, .int .i64 e2, .int .i64 R2, .int .i64 S2, .slice (some ⟨b2, o2, none⟩) l2 rc, d] 27)) 29 #[.int .i64 a, .int .i64 b, .int .i64 t]
    rw [World.size_alloc] at hz
    rw [← hW2]; exact hz)
  have SZ6 := Lib.hid (show W1.heap.size = w.heap.size + 1 + 1 by rw [← hW2]; simp)
  rw [hW2]
  clear hW2
  have q7 : W1.cell? ⟨w.heap.size, 0, none⟩ = some (.int .i64 e1) := X4.out.cell 0
  have q8 : W1.cell? ⟨w.heap.size, 1, none⟩ = some (.int .i64 R1) := X4.out.cell 1
  have q9 : W1.cell? ⟨w.heap.size, 2, none⟩ = some (.int .i64 S1) := X4.out.cell 2
  have q10 : W1.cell? ⟨w.heap.size, 3, none⟩ = some (.slice (some ⟨b1, o1, none⟩) l1 sc) := X4.out.cell 3
  have q11 : W1.cell? ⟨w.heap.size, 4, none⟩ = some (.int .i64 e2) := X4.out.cell 4
  have q12 : W1.cell? ⟨w.heap.size, 5, none⟩ = some (.int .i64 R2) := X4.out.cell 5
  have q13 : W1.cell? ⟨w.heap.size, 6, none⟩ = some (.int .i64 S2) := X4.out.cell 6
  have q14 : W1.cell? ⟨w.heap.size, 7, none⟩ = some (.slice (some ⟨b2, o2, none⟩) l2 rc) := X4.out.cell 7
  have q15 : W1.cell? ⟨w.heap.size, 8, none⟩ = some (d) := X4.out.cell 8
  have q16 : W1.cell? ⟨w.heap.size + 1, 0, none⟩ = some (.int .i64 a) := X5.out.cell 0
  have q17 : W1.cell? ⟨w.heap.size + 1, 1, none⟩ = some (.int .i64 b) := X5.out.cell 1
  have q18 : W1.cell? ⟨w.heap.size + 1, 2, none⟩ = some (.int .i64 t) := X5.out.cell 2
  go_wp2_with fail
  have hdr47 : Below (W1).heap.size (W1) (W1).drew := (Below.refl _ _).drew
  have lt33 := X4.out.lt
  have lt34 := X4.out.lt
  have lt35 := X4.out.lt
  have lt36 := X4.out.lt
  have lt37 := X4.out.lt
  have lt38 := X4.out.lt
  have lt39 := X4.out.lt
  have lt40 := X4.out.lt
  have lt41 := X4.out.lt
  have lt42 := X5.out.lt
  have lt43 := X5.out.lt
  have lt44 := X5.out.lt
  have lt45 := (Nat.lt_of_lt_of_le Y1.out.2 B3.out.size)
  have lt46 := (Nat.lt_of_lt_of_le Y2.out.2 B3.out.size)
  have hcall48 : ∀ X Y : World, (fun Wz => Wz.cell? ⟨w.heap.size, 0, none⟩ = some (.int .i64 e1) ∧ Wz.cell? ⟨w.heap.size, 1, none⟩ = some (.int .i64 R1) ∧ Wz.cell? ⟨w.heap.size, 2, none⟩ = some (.int .i64 S1) ∧ Wz.cell? ⟨w.heap.size, 3, none⟩ = some (.slice (some ⟨b1, o1, none⟩) l1 sc) ∧ Wz.cell? ⟨w.heap.size, 4, none⟩ = some (.int .i64 e2) ∧ Wz.cell? ⟨w.heap.size, 5, none⟩ = some (.int .i64 R2) ∧ Wz.cell? ⟨w.heap.size, 6, none⟩ = some (.int .i64 S2) ∧ Wz.cell? ⟨w.heap.size, 7, none⟩ = some (.slice (some ⟨b2, o2, none⟩) l2 rc) ∧ Wz.cell? ⟨w.heap.size, 8, none⟩ = some (d) ∧ Wz.cell? ⟨w.heap.size + 1, 0, none⟩ = some (.int .i64 a) ∧ Wz.cell? ⟨w.heap.size + 1, 1, none⟩ = some (.int .i64 b) ∧ Wz.cell? ⟨w.heap.size + 1, 2, none⟩ = some (.int .i64 t) ∧ Wz.cell? ⟨b1, o1 + n, none⟩ = some (.int .i64 kb) ∧ Wz.cell? ⟨b2, o2 + m, none⟩ = some (.int .i64 kr) ∧ (W1).heap.size ≤ Wz.heap.size) X → Below X.heap.size X Y → (fun Wz => Wz.cell? ⟨w.heap.size, 0, none⟩ = some (.int .i64 e1) ∧ Wz.cell? ⟨w.heap.size, 1, none⟩ = some (.int .i64 R1) ∧ Wz.cell? ⟨w.heap.size, 2, none⟩ = some (.int .i64 S1) ∧ Wz.cell? ⟨w.heap.size, 3, none⟩ = some (.slice (some ⟨b1, o1, none⟩) l1 sc) ∧ Wz.cell? ⟨w.heap.size, 4, none⟩ = some (.int .i64 e2) ∧ Wz.cell? ⟨w.heap.size, 5, none⟩ = some (.int .i64 R2) ∧ Wz.cell? ⟨w.heap.size, 6, none⟩ = some (.int .i64 S2) ∧ Wz.cell? ⟨w.heap.size, 7, none⟩ = some (.slice (some ⟨b2, o2, none⟩) l2 rc) ∧ Wz.cell? ⟨w.heap.size, 8, none⟩ = some (d) ∧ Wz.cell? ⟨w.heap.size + 1, 0, none⟩ = some (.int .i64 a) ∧ Wz.cell? ⟨w.heap.size + 1, 1, none⟩ = some (.int .i64 b) ∧ Wz.cell? ⟨w.heap.size + 1, 2, none⟩ = some (.int .i64 t) ∧ Wz.cell? ⟨b1, o1 + n, none⟩ = some (.int .i64 kb) ∧ Wz.cell? ⟨b2, o2 + m, none⟩ = some (.int .i64 kr) ∧ (W1).heap.size ≤ Wz.heap.size) Y := by
    rintro X Y ⟨z19, z20, z21, z22, z23, z24, z25, z26, z27, z28, z29, z30, z31, z32, xs⟩ hb
    have hb2 := Below.mono (B' := (W1).heap.size) hb xs
    exact ⟨keepd z19 hb2 lt33, keepd z20 hb2 lt34, keepd z21 hb2 lt35, keepd z22 hb2 lt36, keepd z23 hb2 lt37, keepd z24 hb2 lt38, keepd z25 hb2 lt39, keepd z26 hb2 lt40, keepd z27 hb2 lt41, keepd z28 hb2 lt42, keepd z29 hb2 lt43, keepd z30 hb2 lt44, keepd z31 hb2 lt45, keepd z32 hb2 lt46, Nat.le_trans xs hb.size⟩
  have hini49 : (fun Wz => Wz.cell? ⟨w.heap.size, 0, none⟩ = some (.int .i64 e1) ∧ Wz.cell? ⟨w.heap.size, 1, none⟩ = some (.int .i64 R1) ∧ Wz.cell? ⟨w.heap.size, 2, none⟩ = some (.int .i64 S1) ∧ Wz.cell? ⟨w.heap.size, 3, none⟩ = some (.slice (some ⟨b1, o1, none⟩) l1 sc) ∧ Wz.cell? ⟨w.heap.size, 4, none⟩ = some (.int .i64 e2) ∧ Wz.cell? ⟨w.heap.size, 5, none⟩ = some (.int .i64 R2) ∧ Wz.cell? ⟨w.heap.size, 6, none⟩ = some (.int .i64 S2) ∧ Wz.cell? ⟨w.heap.size, 7, none⟩ = some (.slice (some ⟨b2, o2, none⟩) l2 rc) ∧ Wz.cell? ⟨w.heap.size, 8, none⟩ = some (d) ∧ Wz.cell? ⟨w.heap.size + 1, 0, none⟩ = some (.int .i64 a) ∧ Wz.cell? ⟨w.heap.size + 1, 1, none⟩ = some (.int .i64 b) ∧ Wz.cell? ⟨w.heap.size + 1, 2, none⟩ = some (.int .i64 t) ∧ Wz.cell? ⟨b1, o1 + n, none⟩ = some (.int .i64 kb) ∧ Wz.cell? ⟨b2, o2 + m, none⟩ = some (.int .i64 kr) ∧ (W1).heap.size ≤ Wz.heap.size) (W1).drew := ⟨keepd (X4.out.cell 0) hdr47 lt33, keepd (X4.out.cell 1) hdr47 lt34, keepd (X4.out.cell 2) hdr47 lt35, keepd (X4.out.cell 3) hdr47 lt36, keepd (X4.out.cell 4) hdr47 lt37, keepd (X4.out.cell 5) hdr47 lt38, keepd (X4.out.cell 6) hdr47 lt39, keepd (X4.out.cell 7) hdr47 lt40, keepd (X4.out.cell 8) hdr47 lt41, keepd (X5.out.cell 0) hdr47 lt42, keepd (X5.out.cell 1) hdr47 lt43, keepd (X5.out.cell 2) hdr47 lt44, keepd (keepd Y1.out.1 B3.out Y1.out.2) hdr47 lt45, keepd (keepd Y2.out.1 B3.out Y2.out.2) hdr47 lt46, Nat.le_refl _⟩
  have Hcall48 := Lib.hid hcall48
  have Hini49 := Lib.hid hini49
  clear hcall48 hini49 lt33 lt34 lt35 lt36 lt37 lt38 lt39 lt40 lt41 lt42 lt43 lt44 lt45 lt46
  clear q7 q8 q9 q10 q11 q12 q13 q14 q15 q16 q17 q18
  refine wp_region_noPanic ?_
  refine wp_region_held_drew (S := (fun Wz => Wz.cell? ⟨w.heap.size, 0, none⟩ = some (.int .i64 e1) ∧ Wz.cell? ⟨w.heap.size, 1, none⟩ = some (.int .i64 R1) ∧ Wz.cell? ⟨w.heap.size, 2, none⟩ = some (.int .i64 S1) ∧ Wz.cell? ⟨w.heap.size, 3, none⟩ = some (.slice (some ⟨b1, o1, none⟩) l1 sc) ∧ Wz.cell? ⟨w.heap.size, 4, none⟩ = some (.int .i64 e2) ∧ Wz.cell? ⟨w.heap.size, 5, none⟩ = some (.int .i64 R2) ∧ Wz.cell? ⟨w.heap.size, 6, none⟩ = some (.int .i64 S2) ∧ Wz.cell? ⟨w.heap.size, 7, none⟩ = some (.slice (some ⟨b2, o2, none⟩) l2 rc) ∧ Wz.cell? ⟨w.heap.size, 8, none⟩ = some (d) ∧ Wz.cell? ⟨w.heap.size + 1, 0, none⟩ = some (.int .i64 a) ∧ Wz.cell? ⟨w.heap.size + 1, 1, none⟩ = some (.int .i64 b) ∧ Wz.cell? ⟨w.heap.size + 1, 2, none⟩ = some (.int .i64 t) ∧ Wz.cell? ⟨b1, o1 + n, none⟩ = some (.int .i64 kb) ∧ Wz.cell? ⟨b2, o2 + m, none⟩ = some (.int .i64 kr) ∧ (W1).heap.size ≤ Wz.heap.size)) (by kernel_rfl) Hini49.out (fun hHeld => ?_)
  obtain ⟨W51, hW52⟩ : ∃ Wzz, (W1).drew = Wzz := ⟨_, rfl⟩
  rw [hW52] at hHeld hdr47 ⊢
  clear hW52
  have X53 := Lib.hid (X4.out.later hdr47)
  have X54 := Lib.hid (X5.out.later hdr47)
  have B55 := Lib.hid (B3.out.trans (hdr47.mono B3.out.size))
  clear hdr47
  refine wpAnyH_take (i := 0) (oi := { dst := some 13, op := Op.fieldAddr 27 (Operand.tmp 2) 0, type := 0, pos := "ref.go:113", after := #[], guard := none }) (v := ?vh56) rfl ?hsh56 ?hfh56 ?hrh56 ?hQh56 ?hyh56 (by assumption) ?resth56
  case hsh56 => kernel_rfl
  case hfh56 => kernel_rfl
  case hrh56 => kernel_rfl
  case hQh56 => exact fun _ _ _ h => h
  case hyh56 => (refine Or.inl ⟨by rfl, ?_⟩; intro w hSw; (try dsimp only at hSw); go_simp; try with_reducible rfl)
  try simp only [Act.put, List.setIfInBounds_toArray, List.set_cons_zero, List.set_cons_succ]
  refine wpAnyH_take (i := 1) (oi := { dst := some 14, op := Op.fieldAddr 24 (Operand.tmp 13) 3, type := 0, pos := "ref.go:113", after := #[{ on := 0, ground := Ground.data }], guard := none }) (v := ?vh57) rfl ?hsh57 ?hfh57 ?hrh57 ?hQh57 ?hyh57 (by assumption) ?resth57
  case hsh57 => kernel_rfl
  case hfh57 => kernel_rfl
  case hrh57 => kernel_rfl
  case hQh57 => exact fun _ _ _ h => h
  case hyh57 => (refine Or.inl ⟨by rfl, ?_⟩; intro w hSw; (try dsimp only at hSw); go_simp; try with_reducible rfl)
  try simp only [Act.put, List.setIfInBounds_toArray, List.set_cons_zero, List.set_cons_succ]
  refine wpAnyH_take (i := 2) (oi := { dst := some 15, op := Op.load 22 (Operand.tmp 14), type := 22, pos := "ref.go:113", after := #[{ on := 1, ground := Ground.data }], guard := none }) (v := ?vh58) rfl ?hsh58 ?hfh58 ?hrh58 ?hQh58 ?hyh58 (by assumption) ?resth58
  case hsh58 => kernel_rfl
  case hfh58 => kernel_rfl
  case hrh58 => kernel_rfl
  case hQh58 => exact fun _ _ _ h => h
  case hyh58 => (refine Or.inl ⟨by rfl, ?_⟩; intro w hSw; (try dsimp only at hSw); go_simp; try with_reducible rfl)
  try simp only [Act.put, List.setIfInBounds_toArray, List.set_cons_zero, List.set_cons_succ]
  refine wpAnyH_take (i := 3) (oi := { dst := some 16, op := Op.move (Operand.tmp 6), type := 3, pos := "ref.go:113", after := #[], guard := none }) (v := ?vh59) rfl ?hsh59 ?hfh59 ?hrh59 ?hQh59 ?hyh59 (by assumption) ?resth59
  case hsh59 => kernel_rfl
  case hfh59 => kernel_rfl
  case hrh59 => kernel_rfl
  case hQh59 => exact fun _ _ _ h => h
  case hyh59 => (refine Or.inl ⟨by rfl, ?_⟩; intro w hSw; (try dsimp only at hSw); go_simp; try with_reducible rfl)
  try simp only [Act.put, List.setIfInBounds_toArray, List.set_cons_zero, List.set_cons_succ]
  refine wpAnyH_take (i := 4) (oi := { dst := some 17, op := Op.fieldAddr 29 (Operand.tmp 3) 1, type := 0, pos := "ref.go:113", after := #[], guard := none }) (v := ?vh60) rfl ?hsh60 ?hfh60 ?hrh60 ?hQh60 ?hyh60 (by assumption) ?resth60
  case hsh60 => kernel_rfl
  case hfh60 => kernel_rfl
  case hrh60 => kernel_rfl
  case hQh60 => exact fun _ _ _ h => h
  case hyh60 => (refine Or.inl ⟨by rfl, ?_⟩; intro w hSw; (try dsimp only at hSw); go_simp; try with_reducible rfl)
  try simp only [Act.put, List.setIfInBounds_toArray, List.set_cons_zero, List.set_cons_succ]
  refine wpAnyH_take (i := 5) (oi := { dst := some 18, op := Op.load 3 (Operand.tmp 17), type := 3, pos := "ref.go:113", after := #[{ on := 4, ground := Ground.data }], guard := none }) (v := ?vh61) rfl ?hsh61 ?hfh61 ?hrh61 ?hQh61 ?hyh61 (by assumption) ?resth61
  case hsh61 => kernel_rfl
  case hfh61 => kernel_rfl
  case hrh61 => kernel_rfl
  case hQh61 => exact fun _ _ _ h => h
  case hyh61 => (refine Or.inl ⟨by rfl, ?_⟩; intro w hSw; (try dsimp only at hSw); go_simp; try with_reducible rfl)
  try simp only [Act.put, List.setIfInBounds_toArray, List.set_cons_zero, List.set_cons_succ]
  refine wpAnyH_take (i := 6) (oi := { dst := some 19, op := Op.binOp BinOp.add 3 (Operand.tmp 16) (Operand.tmp 18) 3, type := 3, pos := "ref.go:113", after := #[{ on := 3, ground := Ground.data }, { on := 5, ground := Ground.data }], guard := none }) (v := ?vh62) rfl ?hsh62 ?hfh62 ?hrh62 ?hQh62 ?hyh62 (by assumption) ?resth62
  case hsh62 => kernel_rfl
  case hfh62 => kernel_rfl
  case hrh62 => kernel_rfl
  case hQh62 => exact fun _ _ _ h => h
  case hyh62 => (refine Or.inl ⟨by rfl, ?_⟩; intro w hSw; (try dsimp only at hSw); go_simp; try with_reducible rfl)
  try simp only [Act.put, List.setIfInBounds_toArray, List.set_cons_zero, List.set_cons_succ]
  refine wpAnyH_take (i := 7) (oi := { dst := some 20, op := Op.indexAddr 22 (Operand.tmp 15) (Operand.tmp 19), type := 0, pos := "ref.go:113", after := #[{ on := 2, ground := Ground.data }, { on := 6, ground := Ground.data }], guard := none }) (v := ?vh63) rfl ?hsh63 ?hfh63 ?hrh63 ?hQh63 ?hyh63 (by assumption) ?resth63
  case hsh63 => kernel_rfl
  case hfh63 => kernel_rfl
  case hrh63 => kernel_rfl
  case hQh63 => exact fun _ _ _ h => h
  case hyh63 => (refine Or.inl ⟨by rfl, ?_⟩; intro w hSw; (try dsimp only at hSw); go_simp; try with_reducible rfl)
  try simp only [Act.put, List.setIfInBounds_toArray, List.set_cons_zero, List.set_cons_succ]
  refine wpAnyH_take (i := 8) (oi := { dst := some 21, op := Op.load 3 (Operand.tmp 20), type := 3, pos := "ref.go:113", after := #[{ on := 7, ground := Ground.data }], guard := none }) (v := ?vh64) rfl ?hsh64 ?hfh64 ?hrh64 ?hQh64 ?hyh64 (by assumption) ?resth64
  case hsh64 => kernel_rfl
  case hfh64 => kernel_rfl
  case hrh64 => kernel_rfl
  case hQh64 => exact fun _ _ _ h => h
  case hyh64 => (refine Or.inl ⟨by rfl, ?_⟩; intro w hSw; (try dsimp only at hSw); go_simp; try with_reducible rfl)
  try simp only [Act.put, List.setIfInBounds_toArray, List.set_cons_zero, List.set_cons_succ]
  refine wpAnyH_take (i := 9) (oi := { dst := some 22, op := Op.fieldAddr 27 (Operand.tmp 2) 1, type := 0, pos := "ref.go:113", after := #[{ on := 25, ground := Ground.gcOnly Departure.lateStores }], guard := none }) (v := ?vh65) rfl ?hsh65 ?hfh65 ?hrh65 ?hQh65 ?hyh65 (by assumption) ?resth65
  case hsh65 => kernel_rfl
  case hfh65 => kernel_rfl
  case hrh65 => kernel_rfl
  case hQh65 => exact fun _ _ _ h => h
  case hyh65 => (refine Or.inl ⟨by rfl, ?_⟩; intro w hSw; (try dsimp only at hSw); go_simp; try with_reducible rfl)
  try simp only [Act.put, List.setIfInBounds_toArray, List.set_cons_zero, List.set_cons_succ]
  refine wpAnyH_take (i := 10) (oi := { dst := some 23, op := Op.fieldAddr 24 (Operand.tmp 22) 3, type := 0, pos := "ref.go:113", after := #[{ on := 9, ground := Ground.data }, { on := 25, ground := Ground.gcOnly Departure.lateStores }], guard := none }) (v := ?vh66) rfl ?hsh66 ?hfh66 ?hrh66 ?hQh66 ?hyh66 (by assumption) ?resth66
  case hsh66 => kernel_rfl
  case hfh66 => kernel_rfl
  case hrh66 => kernel_rfl
  case hQh66 => exact fun _ _ _ h => h
  case hyh66 => (refine Or.inl ⟨by rfl, ?_⟩; intro w hSw; (try dsimp only at hSw); go_simp; try with_reducible rfl)
  try simp only [Act.put, List.setIfInBounds_toArray, List.set_cons_zero, List.set_cons_succ]
  refine wpAnyH_take (i := 11) (oi := { dst := some 24, op := Op.load 22 (Operand.tmp 23), type := 22, pos := "ref.go:113", after := #[{ on := 10, ground := Ground.data }, { on := 25, ground := Ground.gcOnly Departure.lateStores }], guard := none }) (v := ?vh67) rfl ?hsh67 ?hfh67 ?hrh67 ?hQh67 ?hyh67 (by assumption) ?resth67
  case hsh67 => kernel_rfl
  case hfh67 => kernel_rfl
  case hrh67 => kernel_rfl
  case hQh67 => exact fun _ _ _ h => h
  case hyh67 => (refine Or.inl ⟨by rfl, ?_⟩; intro w hSw; (try dsimp only at hSw); go_simp; try with_reducible rfl)
  try simp only [Act.put, List.setIfInBounds_toArray, List.set_cons_zero, List.set_cons_succ]
  refine wpAnyH_take (i := 12) (oi := { dst := some 25, op := Op.move (Operand.tmp 6), type := 3, pos := "ref.go:113", after := #[{ on := 25, ground := Ground.gcOnly Departure.lateStores }], guard := none }) (v := ?vh68) rfl ?hsh68 ?hfh68 ?hrh68 ?hQh68 ?hyh68 (by assumption) ?resth68
  case hsh68 => kernel_rfl
  case hfh68 => kernel_rfl
  case hrh68 => kernel_rfl
  case hQh68 => exact fun _ _ _ h => h
  case hyh68 => (refine Or.inl ⟨by rfl, ?_⟩; intro w hSw; (try dsimp only at hSw); go_simp; try with_reducible rfl)
  try simp only [Act.put, List.setIfInBounds_toArray, List.set_cons_zero, List.set_cons_succ]
  refine wpAnyH_take (i := 13) (oi := { dst := some 26, op := Op.fieldAddr 29 (Operand.tmp 3) 1, type := 0, pos := "ref.go:113", after := #[], guard := none }) (v := ?vh69) rfl ?hsh69 ?hfh69 ?hrh69 ?hQh69 ?hyh69 (by assumption) ?resth69
  case hsh69 => kernel_rfl
  case hfh69 => kernel_rfl
  case hrh69 => kernel_rfl
  case hQh69 => exact fun _ _ _ h => h
  case hyh69 => (refine Or.inl ⟨by rfl, ?_⟩; intro w hSw; (try dsimp only at hSw); go_simp; try with_reducible rfl)
  try simp only [Act.put, List.setIfInBounds_toArray, List.set_cons_zero, List.set_cons_succ]
  refine wpAnyH_take (i := 14) (oi := { dst := some 27, op := Op.load 3 (Operand.tmp 26), type := 3, pos := "ref.go:113", after := #[{ on := 13, ground := Ground.data }], guard := none }) (v := ?vh70) rfl ?hsh70 ?hfh70 ?hrh70 ?hQh70 ?hyh70 (by assumption) ?resth70
  case hsh70 => kernel_rfl
  case hfh70 => kernel_rfl
  case hrh70 => kernel_rfl
  case hQh70 => exact fun _ _ _ h => h
  case hyh70 => (refine Or.inl ⟨by rfl, ?_⟩; intro w hSw; (try dsimp only at hSw); go_simp; try with_reducible rfl)
  try simp only [Act.put, List.setIfInBounds_toArray, List.set_cons_zero, List.set_cons_succ]
  refine wpAnyH_take (i := 15) (oi := { dst := some 28, op := Op.fieldAddr 29 (Operand.tmp 3) 2, type := 0, pos := "ref.go:113", after := #[], guard := none }) (v := ?vh71) rfl ?hsh71 ?hfh71 ?hrh71 ?hQh71 ?hyh71 (by assumption) ?resth71
  case hsh71 => kernel_rfl
  case hfh71 => kernel_rfl
  case hrh71 => kernel_rfl
  case hQh71 => exact fun _ _ _ h => h
  case hyh71 => (refine Or.inl ⟨by rfl, ?_⟩; intro w hSw; (try dsimp only at hSw); go_simp; try with_reducible rfl)
  try simp only [Act.put, List.setIfInBounds_toArray, List.set_cons_zero, List.set_cons_succ]
  refine wpAnyH_take (i := 16) (oi := { dst := some 29, op := Op.load 3 (Operand.tmp 28), type := 3, pos := "ref.go:113", after := #[{ on := 15, ground := Ground.data }], guard := none }) (v := ?vh72) rfl ?hsh72 ?hfh72 ?hrh72 ?hQh72 ?hyh72 (by assumption) ?resth72
  case hsh72 => kernel_rfl
  case hfh72 => kernel_rfl
  case hrh72 => kernel_rfl
  case hQh72 => exact fun _ _ _ h => h
  case hyh72 => (refine Or.inl ⟨by rfl, ?_⟩; intro w hSw; (try dsimp only at hSw); go_simp; try with_reducible rfl)
  try simp only [Act.put, List.setIfInBounds_toArray, List.set_cons_zero, List.set_cons_succ]
  refine wpAnyH_take (i := 17) (oi := { dst := some 30, op := Op.binOp BinOp.sub 3 (Operand.tmp 27) (Operand.tmp 29) 3, type := 3, pos := "ref.go:113", after := #[{ on := 14, ground := Ground.data }, { on := 16, ground := Ground.data }], guard := none }) (v := ?vh73) rfl ?hsh73 ?hfh73 ?hrh73 ?hQh73 ?hyh73 (by assumption) ?resth73
  case hsh73 => kernel_rfl
  case hfh73 => kernel_rfl
  case hrh73 => kernel_rfl
  case hQh73 => exact fun _ _ _ h => h
  case hyh73 => (refine Or.inl ⟨by rfl, ?_⟩; intro w hSw; (try dsimp only at hSw); go_simp; try with_reducible rfl)
  try simp only [Act.put, List.setIfInBounds_toArray, List.set_cons_zero, List.set_cons_succ]
  refine wpAnyH_take (i := 18) (oi := { dst := some 31, op := Op.fieldAddr 27 (Operand.tmp 2) 0, type := 0, pos := "ref.go:113", after := #[], guard := none }) (v := ?vh74) rfl ?hsh74 ?hfh74 ?hrh74 ?hQh74 ?hyh74 (by assumption) ?resth74
  case hsh74 => kernel_rfl
  case hfh74 => kernel_rfl
  case hrh74 => kernel_rfl
  case hQh74 => exact fun _ _ _ h => h
  case hyh74 => (refine Or.inl ⟨by rfl, ?_⟩; intro w hSw; (try dsimp only at hSw); go_simp; try with_reducible rfl)
  try simp only [Act.put, List.setIfInBounds_toArray, List.set_cons_zero, List.set_cons_succ]
  refine wpAnyH_take (i := 19) (oi := { dst := some 32, op := Op.fieldAddr 24 (Operand.tmp 31) 2, type := 0, pos := "ref.go:113", after := #[{ on := 18, ground := Ground.data }], guard := none }) (v := ?vh75) rfl ?hsh75 ?hfh75 ?hrh75 ?hQh75 ?hyh75 (by assumption) ?resth75
  case hsh75 => kernel_rfl
  case hfh75 => kernel_rfl
  case hrh75 => kernel_rfl
  case hQh75 => exact fun _ _ _ h => h
  case hyh75 => (refine Or.inl ⟨by rfl, ?_⟩; intro w hSw; (try dsimp only at hSw); go_simp; try with_reducible rfl)
  try simp only [Act.put, List.setIfInBounds_toArray, List.set_cons_zero, List.set_cons_succ]
  refine wpAnyH_take (i := 20) (oi := { dst := some 33, op := Op.load 3 (Operand.tmp 32), type := 3, pos := "ref.go:113", after := #[{ on := 19, ground := Ground.data }], guard := none }) (v := ?vh76) rfl ?hsh76 ?hfh76 ?hrh76 ?hQh76 ?hyh76 (by assumption) ?resth76
  case hsh76 => kernel_rfl
  case hfh76 => kernel_rfl
  case hrh76 => kernel_rfl
  case hQh76 => exact fun _ _ _ h => h
  case hyh76 => (refine Or.inl ⟨by rfl, ?_⟩; intro w hSw; (try dsimp only at hSw); go_simp; try with_reducible rfl)
  try simp only [Act.put, List.setIfInBounds_toArray, List.set_cons_zero, List.set_cons_succ]
  refine wpAnyH_ready (rs := [21]) (by kernel_rfl) (by simp) ?_
  refine AllReadyH.cons (o := _) (by rfl) (fun K hK => ?_) AllReadyH.nil
  go_simp
  go_at_call 73
  refine (kAround_c (b - t) S1 _ HSB.out HD.out).mono ?_; rintro e w' ⟨rfl, rfl⟩
  rw [HRR.out]
  go_wp2_with fail
  refine hK.out _ _ hHeld (fun hHeld77 => ?_)
  clear hK K hHeld
  have hHeld := hHeld77
  clear hHeld77
  try simp only [Act.put, List.setIfInBounds_toArray, List.set_cons_zero, List.set_cons_succ]
  refine wpAnyH_take (i := 22) (oi := { dst := some 35, op := Op.binOp BinOp.add 3 (Operand.tmp 25) (Operand.tmp 34) 3, type := 3, pos := "ref.go:113", after := #[{ on := 12, ground := Ground.data }, { on := 21, ground := Ground.data }, { on := 25, ground := Ground.gcOnly Departure.lateStores }], guard := none }) (v := ?vh78) rfl ?hsh78 ?hfh78 ?hrh78 ?hQh78 ?hyh78 (by assumption) ?resth78
  case hsh78 => kernel_rfl
  case hfh78 => kernel_rfl
  case hrh78 => kernel_rfl
  case hQh78 => exact fun _ _ _ h => h
  case hyh78 => (refine Or.inl ⟨by rfl, ?_⟩; intro w hSw; (try dsimp only at hSw); go_simp; try with_reducible rfl)
  try simp only [Act.put, List.setIfInBounds_toArray, List.set_cons_zero, List.set_cons_succ]
  refine wpAnyH_take (i := 23) (oi := { dst := some 36, op := Op.indexAddr 22 (Operand.tmp 24) (Operand.tmp 35), type := 0, pos := "ref.go:113", after := #[{ on := 11, ground := Ground.data }, { on := 22, ground := Ground.data }, { on := 25, ground := Ground.gcOnly Departure.lateStores }], guard := none }) (v := ?vh79) rfl ?hsh79 ?hfh79 ?hrh79 ?hQh79 ?hyh79 (by assumption) ?resth79
  case hsh79 => kernel_rfl
  case hfh79 => kernel_rfl
  case hrh79 => kernel_rfl
  case hQh79 => exact fun _ _ _ h => h
  case hyh79 => (refine Or.inl ⟨by rfl, ?_⟩; intro w hSw; (try dsimp only at hSw); go_simp; try with_reducible rfl)
  try simp only [Act.put, List.setIfInBounds_toArray, List.set_cons_zero, List.set_cons_succ]
  refine wpAnyH_take (i := 24) (oi := { dst := some 37, op := Op.load 3 (Operand.tmp 36), type := 3, pos := "ref.go:113", after := #[{ on := 23, ground := Ground.data }, { on := 25, ground := Ground.gcOnly Departure.lateStores }], guard := none }) (v := ?vh80) rfl ?hsh80 ?hfh80 ?hrh80 ?hQh80 ?hyh80 (by assumption) ?resth80
  case hsh80 => kernel_rfl
  case hfh80 => kernel_rfl
  case hrh80 => kernel_rfl
  case hQh80 => exact fun _ _ _ h => h
  case hyh80 => (refine Or.inl ⟨by rfl, ?_⟩; intro w hSw; (try dsimp only at hSw); go_simp; try with_reducible rfl)
  try simp only [Act.put, List.setIfInBounds_toArray, List.set_cons_zero, List.set_cons_succ]
  refine wpAnyH_take (i := 25) (oi := { dst := some 4, op := Op.assign (Operand.tmp 21), type := 3, pos := "ref.go:113", after := #[{ on := 8, ground := Ground.data }, { on := 21, ground := Ground.chain }, { on := 0, ground := Ground.phase }, { on := 1, ground := Ground.phase }, { on := 2, ground := Ground.phase }, { on := 3, ground := Ground.phase }, { on := 4, ground := Ground.phase }, { on := 5, ground := Ground.phase }, { on := 6, ground := Ground.phase }, { on := 7, ground := Ground.phase }, { on := 8, ground := Ground.phase }, { on := 9, ground := Ground.textOnly Departure.lateStores }, { on := 10, ground := Ground.textOnly Departure.lateStores }, { on := 11, ground := Ground.textOnly Departure.lateStores }, { on := 12, ground := Ground.textOnly Departure.lateStores }, { on := 13, ground := Ground.textOnly Departure.lateStores }, { on := 14, ground := Ground.textOnly Departure.lateStores }, { on := 15, ground := Ground.textOnly Departure.lateStores }, { on := 16, ground := Ground.textOnly Departure.lateStores }, { on := 17, ground := Ground.textOnly Departure.lateStores }, { on := 18, ground := Ground.textOnly Departure.lateStores }, { on := 19, ground := Ground.textOnly Departure.lateStores }, { on := 20, ground := Ground.textOnly Departure.lateStores }, { on := 21, ground := Ground.textOnly Departure.lateStoresUnsure }, { on := 22, ground := Ground.textOnly Departure.lateStores }, { on := 23, ground := Ground.textOnly Departure.lateStores }, { on := 24, ground := Ground.textOnly Departure.lateStores }], guard := none }) (v := ?vh81) rfl ?hsh81 ?hfh81 ?hrh81 ?hQh81 ?hyh81 (by assumption) ?resth81
  case hsh81 => kernel_rfl
  case hfh81 => kernel_rfl
  case hrh81 => kernel_rfl
  case hQh81 => exact fun _ _ _ h => h
  case hyh81 => (refine Or.inl ⟨by rfl, ?_⟩; intro w hSw; (try dsimp only at hSw); go_simp; try with_reducible rfl)
  try simp only [Act.put, List.setIfInBounds_toArray, List.set_cons_zero, List.set_cons_succ]
  refine wpAnyH_take (i := 26) (oi := { dst := some 5, op := Op.assign (Operand.tmp 37), type := 3, pos := "ref.go:113", after := #[{ on := 24, ground := Ground.data }, { on := 25, ground := Ground.chain }, { on := 0, ground := Ground.phase }, { on := 1, ground := Ground.phase }, { on := 2, ground := Ground.phase }, { on := 3, ground := Ground.phase }, { on := 4, ground := Ground.phase }, { on := 5, ground := Ground.phase }, { on := 6, ground := Ground.phase }, { on := 7, ground := Ground.phase }, { on := 8, ground := Ground.phase }, { on := 9, ground := Ground.phase }, { on := 10, ground := Ground.phase }, { on := 11, ground := Ground.phase }, { on := 12, ground := Ground.phase }, { on := 13, ground := Ground.phase }, { on := 14, ground := Ground.phase }, { on := 15, ground := Ground.phase }, { on := 16, ground := Ground.phase }, { on := 17, ground := Ground.phase }, { on := 18, ground := Ground.phase }, { on := 19, ground := Ground.phase }, { on := 20, ground := Ground.phase }, { on := 21, ground := Ground.phase }, { on := 22, ground := Ground.phase }, { on := 23, ground := Ground.phase }, { on := 24, ground := Ground.phase }, { on := 25, ground := Ground.phase }], guard := none }) (v := ?vh82) rfl ?hsh82 ?hfh82 ?hrh82 ?hQh82 ?hyh82 (by assumption) ?resth82
  case hsh82 => kernel_rfl
  case hfh82 => kernel_rfl
  case hrh82 => kernel_rfl
  case hQh82 => exact fun _ _ _ h => h
  case hyh82 => (refine Or.inl ⟨by rfl, ?_⟩; intro w hSw; (try dsimp only at hSw); go_simp; try with_reducible rfl)
  try simp only [Act.put, List.setIfInBounds_toArray, List.set_cons_zero, List.set_cons_succ]
  refine wpAnyH_done (by kernel_rfl) ?_ _
  refine NoPanic.normal ?_
  clear hHeld Hcall48 Hini49
  have q83 : W51.cell? ⟨w.heap.size, 0, none⟩ = some (.int .i64 e1) := X53.out.cell 0
  have q84 : W51.cell? ⟨w.heap.size, 1, none⟩ = some (.int .i64 R1) := X53.out.cell 1
  have q85 : W51.cell? ⟨w.heap.size, 2, none⟩ = some (.int .i64 S1) := X53.out.cell 2
  have q86 : W51.cell? ⟨w.heap.size, 3, none⟩ = some (.slice (some ⟨b1, o1, none⟩) l1 sc) := X53.out.cell 3
  have q87 : W51.cell? ⟨w.heap.size, 4, none⟩ = some (.int .i64 e2) := X53.out.cell 4
  have q88 : W51.cell? ⟨w.heap.size, 5, none⟩ = some (.int .i64 R2) := X53.out.cell 5
  have q89 : W51.cell? ⟨w.heap.size, 6, none⟩ = some (.int .i64 S2) := X53.out.cell 6
  have q90 : W51.cell? ⟨w.heap.size, 7, none⟩ = some (.slice (some ⟨b2, o2, none⟩) l2 rc) := X53.out.cell 7
  have q91 : W51.cell? ⟨w.heap.size, 8, none⟩ = some (d) := X53.out.cell 8
  have q92 : W51.cell? ⟨w.heap.size + 1, 0, none⟩ = some (.int .i64 a) := X54.out.cell 0
  have q93 : W51.cell? ⟨w.heap.size + 1, 1, none⟩ = some (.int .i64 b) := X54.out.cell 1
  have q94 : W51.cell? ⟨w.heap.size + 1, 2, none⟩ = some (.int .i64 t) := X54.out.cell 2
  go_wp2_with fail
  go_ret2
  exact ⟨by rw [HV.out.1, HV.out.2]; rfl, B55.out⟩

set_option maxRecDepth 100000 in
set_option maxHeartbeats 8000000 in
theorem kOver_bad (p : Pr) (a b t : Int) (v : Value) (w : World) (h : IsPair w w.heap.size v p) (h0 : asE p ⟨a, b, t⟩ ≠ 0) : Calls Try.prog 17 #[v, .agg #[.int .i64 a, .int .i64 b, .int .i64 t]] w fun e w' => e = .returned (.tuple #[.int .i64 0, .int .i64 0, .int .i64 (asE p ⟨a, b, t⟩)]) ∧ Below w.heap.size w w' := by
  obtain ⟨s, r, d, hpv, -, -, -⟩ := id h
  subst hpv
  have HP0 := Lib.hid h
  have HE := Lib.hid h0
  clear h h0
  unfold pairV at *
  have hne : (asE p ⟨a, b, t⟩ != 0) = true := by simpa using HE.out
  have hne2 : decide (asE p ⟨a, b, t⟩ = 0) = false := by simpa using HE.out
  go_enter Try.func17, Try.ntmps17
  go_wp2_with fail
  obtain ⟨W95, hW96⟩ : ∃ Wzz, ((w.alloc (.cells #[.int .i64 p.bed.eye, .int .i64 p.bed.rings, .int .i64 p.bed.sectors, s, .int .i64 p.run.eye, .int .i64 p.run.rings, .int .i64 p.run.sectors, r, d] 27)).alloc (.cells #[.int .i64 a, .int .i64 b, .int .i64 t] 29)) = Wzz := ⟨_, rfl⟩
  have B97 := Lib.hid (show Below w.heap.size w W95 by rw [← hW96]; exact (((Below.refl w.heap.size w).alloc (Nat.le_refl _) _).alloc (by first | (simp; done) | (simp; omega)) _))
  have X98 := Lib.hid (show Box W95 (w.heap.size) 27 #[.int .i64 p.bed.eye, .int .i64 p.bed.rings, .int .i64 p.bed.sectors, s, .int .i64 p.run.eye, .int .i64 p.run.rings, .int .i64 p.run.sectors, r, d] by rw [← hW96]; exact Box.alloc (Box.made w 27 #[.int .i64 p.bed.eye, .int .i64 p.bed.rings, .int .i64 p.bed.sectors, s, .int .i64 p.run.eye, .int .i64 p.run.rings, .int .i64 p.run.sectors, r, d]) (.cells #[.int .i64 a, .int .i64 b, .int .i64 t] 29))
  have X99 := Lib.hid (show Box W95 (w.heap.size + 1) 29 #[.int .i64 a, .int .i64 b, .int .i64 t] by
    have hz := Box.made (w.alloc (.cells #[.int .i64 p.bed.eye, .int .i64 p.bed.rings, .int .i64 p.bed.sectors, s, .int .i64 p.run.eye, .int .i64 p.run.rings, .int .i64 p.run.sectors, r, d] 27)) 29 #[.int .i64 a, .int .i64 b, .int .i64 t]
    rw [World.size_alloc] at hz
    rw [← hW96]; exact hz)
  have C100 := Lib.hid (HP0.out.later B97.out)
  have SZ101 := Lib.hid (show W95.heap.size = w.heap.size + 1 + 1 by rw [← hW96]; simp)
  rw [hW96]
  clear hW96
  have q102 : W95.cell? ⟨w.heap.size, 0, none⟩ = some (.int .i64 p.bed.eye) := X98.out.cell 0
  have q103 : W95.cell? ⟨w.heap.size, 1, none⟩ = some (.int .i64 p.bed.rings) := X98.out.cell 1
  have q104 : W95.cell? ⟨w.heap.size, 2, none⟩ = some (.int .i64 p.bed.sectors) := X98.out.cell 2
  have q105 : W95.cell? ⟨w.heap.size, 3, none⟩ = some (s) := X98.out.cell 3
  have q106 : W95.cell? ⟨w.heap.size, 4, none⟩ = some (.int .i64 p.run.eye) := X98.out.cell 4
  have q107 : W95.cell? ⟨w.heap.size, 5, none⟩ = some (.int .i64 p.run.rings) := X98.out.cell 5
  have q108 : W95.cell? ⟨w.heap.size, 6, none⟩ = some (.int .i64 p.run.sectors) := X98.out.cell 6
  have q109 : W95.cell? ⟨w.heap.size, 7, none⟩ = some (r) := X98.out.cell 7
  have q110 : W95.cell? ⟨w.heap.size, 8, none⟩ = some (d) := X98.out.cell 8
  have q111 : W95.cell? ⟨w.heap.size + 1, 0, none⟩ = some (.int .i64 a) := X99.out.cell 0
  have q112 : W95.cell? ⟨w.heap.size + 1, 1, none⟩ = some (.int .i64 b) := X99.out.cell 1
  have q113 : W95.cell? ⟨w.heap.size + 1, 2, none⟩ = some (.int .i64 t) := X99.out.cell 2
  go_wp2_with fail
  refine (kasked_c p a b t _ _ C100.out trivial).mono ?_; rintro e v114 ⟨rfl, hb115⟩
  have X116 := Lib.hid (X98.out.later hb115)
  have X117 := Lib.hid (X99.out.later hb115)
  have C118 := Lib.hid (C100.out.later hb115)
  have B119 := Lib.hid (B97.out.trans (hb115.mono B97.out.size))
  clear hb115
  clear q102 q103 q104 q105 q106 q107 q108 q109 q110 q111 q112 q113
  have q120 : v114.cell? ⟨w.heap.size, 0, none⟩ = some (.int .i64 p.bed.eye) := X116.out.cell 0
  have q121 : v114.cell? ⟨w.heap.size, 1, none⟩ = some (.int .i64 p.bed.rings) := X116.out.cell 1
  have q122 : v114.cell? ⟨w.heap.size, 2, none⟩ = some (.int .i64 p.bed.sectors) := X116.out.cell 2
  have q123 : v114.cell? ⟨w.heap.size, 3, none⟩ = some (s) := X116.out.cell 3
  have q124 : v114.cell? ⟨w.heap.size, 4, none⟩ = some (.int .i64 p.run.eye) := X116.out.cell 4
  have q125 : v114.cell? ⟨w.heap.size, 5, none⟩ = some (.int .i64 p.run.rings) := X116.out.cell 5
  have q126 : v114.cell? ⟨w.heap.size, 6, none⟩ = some (.int .i64 p.run.sectors) := X116.out.cell 6
  have q127 : v114.cell? ⟨w.heap.size, 7, none⟩ = some (r) := X116.out.cell 7
  have q128 : v114.cell? ⟨w.heap.size, 8, none⟩ = some (d) := X116.out.cell 8
  have q129 : v114.cell? ⟨w.heap.size + 1, 0, none⟩ = some (.int .i64 a) := X117.out.cell 0
  have q130 : v114.cell? ⟨w.heap.size + 1, 1, none⟩ = some (.int .i64 b) := X117.out.cell 1
  have q131 : v114.cell? ⟨w.heap.size + 1, 2, none⟩ = some (.int .i64 t) := X117.out.cell 2
  go_wp2_with fail
  go_ret3
  exact ⟨rfl, B119.out⟩

set_option maxRecDepth 100000 in
set_option maxHeartbeats 8000000 in
theorem kOver_ok (p : Pr) (a b t : Int) (v : Value) (w : World) (h : IsPair w w.heap.size v p) (h0 : asE p ⟨a, b, t⟩ = 0) : Calls Try.prog 17 #[v, .agg #[.int .i64 a, .int .i64 b, .int .i64 t]] w fun e w' => e = .returned (.tuple #[.int .i64 (bedK p ⟨a, b, t⟩), .int .i64 (runK p ⟨a, b, t⟩), .int .i64 0]) ∧ Below w.heap.size w w' := by
  obtain ⟨s, r, d, hpv, -, -, -⟩ := id h
  subst hpv
  have HP0 := Lib.hid h
  have HE := Lib.hid h0
  clear h h0
  unfold pairV at *
  go_enter Try.func17, Try.ntmps17
  go_wp2_with fail
  obtain ⟨W132, hW133⟩ : ∃ Wzz, ((w.alloc (.cells #[.int .i64 p.bed.eye, .int .i64 p.bed.rings, .int .i64 p.bed.sectors, s, .int .i64 p.run.eye, .int .i64 p.run.rings, .int .i64 p.run.sectors, r, d] 27)).alloc (.cells #[.int .i64 a, .int .i64 b, .int .i64 t] 29)) = Wzz := ⟨_, rfl⟩
  have B134 := Lib.hid (show Below w.heap.size w W132 by rw [← hW133]; exact (((Below.refl w.heap.size w).alloc (Nat.le_refl _) _).alloc (by first | (simp; done) | (simp; omega)) _))
  have X135 := Lib.hid (show Box W132 (w.heap.size) 27 #[.int .i64 p.bed.eye, .int .i64 p.bed.rings, .int .i64 p.bed.sectors, s, .int .i64 p.run.eye, .int .i64 p.run.rings, .int .i64 p.run.sectors, r, d] by rw [← hW133]; exact Box.alloc (Box.made w 27 #[.int .i64 p.bed.eye, .int .i64 p.bed.rings, .int .i64 p.bed.sectors, s, .int .i64 p.run.eye, .int .i64 p.run.rings, .int .i64 p.run.sectors, r, d]) (.cells #[.int .i64 a, .int .i64 b, .int .i64 t] 29))
  have X136 := Lib.hid (show Box W132 (w.heap.size + 1) 29 #[.int .i64 a, .int .i64 b, .int .i64 t] by
    have hz := Box.made (w.alloc (.cells #[.int .i64 p.bed.eye, .int .i64 p.bed.rings, .int .i64 p.bed.sectors, s, .int .i64 p.run.eye, .int .i64 p.run.rings, .int .i64 p.run.sectors, r, d] 27)) 29 #[.int .i64 a, .int .i64 b, .int .i64 t]
    rw [World.size_alloc] at hz
    rw [← hW133]; exact hz)
  have C137 := Lib.hid (HP0.out.later B134.out)
  have SZ138 := Lib.hid (show W132.heap.size = w.heap.size + 1 + 1 by rw [← hW133]; simp)
  rw [hW133]
  clear hW133
  have q139 : W132.cell? ⟨w.heap.size, 0, none⟩ = some (.int .i64 p.bed.eye) := X135.out.cell 0
  have q140 : W132.cell? ⟨w.heap.size, 1, none⟩ = some (.int .i64 p.bed.rings) := X135.out.cell 1
  have q141 : W132.cell? ⟨w.heap.size, 2, none⟩ = some (.int .i64 p.bed.sectors) := X135.out.cell 2
  have q142 : W132.cell? ⟨w.heap.size, 3, none⟩ = some (s) := X135.out.cell 3
  have q143 : W132.cell? ⟨w.heap.size, 4, none⟩ = some (.int .i64 p.run.eye) := X135.out.cell 4
  have q144 : W132.cell? ⟨w.heap.size, 5, none⟩ = some (.int .i64 p.run.rings) := X135.out.cell 5
  have q145 : W132.cell? ⟨w.heap.size, 6, none⟩ = some (.int .i64 p.run.sectors) := X135.out.cell 6
  have q146 : W132.cell? ⟨w.heap.size, 7, none⟩ = some (r) := X135.out.cell 7
  have q147 : W132.cell? ⟨w.heap.size, 8, none⟩ = some (d) := X135.out.cell 8
  have q148 : W132.cell? ⟨w.heap.size + 1, 0, none⟩ = some (.int .i64 a) := X136.out.cell 0
  have q149 : W132.cell? ⟨w.heap.size + 1, 1, none⟩ = some (.int .i64 b) := X136.out.cell 1
  have q150 : W132.cell? ⟨w.heap.size + 1, 2, none⟩ = some (.int .i64 t) := X136.out.cell 2
  go_wp2_with fail
  refine (kasked_c p a b t _ _ C137.out trivial).mono ?_; rintro e v151 ⟨rfl, hb152⟩
  have X153 := Lib.hid (X135.out.later hb152)
  have X154 := Lib.hid (X136.out.later hb152)
  have C155 := Lib.hid (C137.out.later hb152)
  have B156 := Lib.hid (B134.out.trans (hb152.mono B134.out.size))
  clear hb152
  rw [HE.out]
  clear q139 q140 q141 q142 q143 q144 q145 q146 q147 q148 q149 q150
  have q157 : v151.cell? ⟨w.heap.size, 0, none⟩ = some (.int .i64 p.bed.eye) := X153.out.cell 0
  have q158 : v151.cell? ⟨w.heap.size, 1, none⟩ = some (.int .i64 p.bed.rings) := X153.out.cell 1
  have q159 : v151.cell? ⟨w.heap.size, 2, none⟩ = some (.int .i64 p.bed.sectors) := X153.out.cell 2
  have q160 : v151.cell? ⟨w.heap.size, 3, none⟩ = some (s) := X153.out.cell 3
  have q161 : v151.cell? ⟨w.heap.size, 4, none⟩ = some (.int .i64 p.run.eye) := X153.out.cell 4
  have q162 : v151.cell? ⟨w.heap.size, 5, none⟩ = some (.int .i64 p.run.rings) := X153.out.cell 5
  have q163 : v151.cell? ⟨w.heap.size, 6, none⟩ = some (.int .i64 p.run.sectors) := X153.out.cell 6
  have q164 : v151.cell? ⟨w.heap.size, 7, none⟩ = some (r) := X153.out.cell 7
  have q165 : v151.cell? ⟨w.heap.size, 8, none⟩ = some (d) := X153.out.cell 8
  have q166 : v151.cell? ⟨w.heap.size + 1, 0, none⟩ = some (.int .i64 a) := X154.out.cell 0
  have q167 : v151.cell? ⟨w.heap.size + 1, 1, none⟩ = some (.int .i64 b) := X154.out.cell 1
  have q168 : v151.cell? ⟨w.heap.size + 1, 2, none⟩ = some (.int .i64 t) := X154.out.cell 2
  go_wp2_with fail
  refine (kover_c p a b t _ _ C155.out (asE_zero HE.out).1 (asE_zero HE.out).2).mono ?_; rintro e v169 ⟨rfl, hb170⟩
  have X171 := Lib.hid (X153.out.later hb170)
  have X172 := Lib.hid (X154.out.later hb170)
  have C173 := Lib.hid (C155.out.later hb170)
  have B174 := Lib.hid (B156.out.trans (hb170.mono B156.out.size))
  clear hb170
  clear q157 q158 q159 q160 q161 q162 q163 q164 q165 q166 q167 q168
  have q175 : v169.cell? ⟨w.heap.size, 0, none⟩ = some (.int .i64 p.bed.eye) := X171.out.cell 0
  have q176 : v169.cell? ⟨w.heap.size, 1, none⟩ = some (.int .i64 p.bed.rings) := X171.out.cell 1
  have q177 : v169.cell? ⟨w.heap.size, 2, none⟩ = some (.int .i64 p.bed.sectors) := X171.out.cell 2
  have q178 : v169.cell? ⟨w.heap.size, 3, none⟩ = some (s) := X171.out.cell 3
  have q179 : v169.cell? ⟨w.heap.size, 4, none⟩ = some (.int .i64 p.run.eye) := X171.out.cell 4
  have q180 : v169.cell? ⟨w.heap.size, 5, none⟩ = some (.int .i64 p.run.rings) := X171.out.cell 5
  have q181 : v169.cell? ⟨w.heap.size, 6, none⟩ = some (.int .i64 p.run.sectors) := X171.out.cell 6
  have q182 : v169.cell? ⟨w.heap.size, 7, none⟩ = some (r) := X171.out.cell 7
  have q183 : v169.cell? ⟨w.heap.size, 8, none⟩ = some (d) := X171.out.cell 8
  have q184 : v169.cell? ⟨w.heap.size + 1, 0, none⟩ = some (.int .i64 a) := X172.out.cell 0
  have q185 : v169.cell? ⟨w.heap.size + 1, 1, none⟩ = some (.int .i64 b) := X172.out.cell 1
  have q186 : v169.cell? ⟨w.heap.size + 1, 2, none⟩ = some (.int .i64 t) := X172.out.cell 2
  go_wp2_with fail
  go_ret3
  exact ⟨rfl, B174.out⟩

set_option maxRecDepth 100000 in
set_option maxHeartbeats 8000000 in
theorem kMovesOf_c (p : Pr) (a b t : Int) (v : Value) (w : World) (h : IsPair w w.heap.size v p) (h0 : ckE p = 0) (hs : hasB p ⟨a, b, t⟩ = true) : Calls Try.prog 50 #[v, .agg #[.int .i64 a, .int .i64 b, .int .i64 t]] w fun e w' => (∃ v, e = .returned v ∧ Moves w' w'.heap.size v (movesL p ⟨a, b, t⟩)) ∧ Below w.heap.size w w' := by
  obtain ⟨s, r, d, hpv, i1, i2, i3⟩ := id h
  subst hpv
  obtain ⟨⟨e1, R1, S1, k1⟩, ⟨e2, R2, S2, k2⟩, dr⟩ := p
  obtain ⟨SA, sn, sc, rfl⟩ : ∃ A n c, s = .slice A n c := by obtain ⟨-, A, c, rfl, -⟩ := i1; exact ⟨_, _, _, rfl⟩
  obtain ⟨RA, rn, rc, rfl⟩ : ∃ A n c, r = .slice A n c := by obtain ⟨-, A, c, rfl, -⟩ := i2; exact ⟨_, _, _, rfl⟩
  unfold pairV at *
  dsimp only at *
  obtain ⟨-, -, -, -, -, -, -, -, q1, q2⟩ := over_bd h0 hs
  obtain ⟨-, -, -, -, -, hd9, -, -⟩ := ckE_bd h0
  dsimp only at hd9
  obtain ⟨x, hx⟩ : ∃ x, bedK ⟨⟨e1, R1, S1, k1⟩, ⟨e2, R2, S2, k2⟩, dr⟩ ⟨a, b, t⟩ = x := ⟨_, rfl⟩
  obtain ⟨y, hy⟩ : ∃ x, runK ⟨⟨e1, R1, S1, k1⟩, ⟨e2, R2, S2, k2⟩, dr⟩ ⟨a, b, t⟩ = x := ⟨_, rfl⟩
  rw [hx] at q1
  rw [hy] at q2
  have HN := Lib.hid (And.intro hx hy)
  obtain ⟨k, hk⟩ : ∃ k : Nat, 3 * x + y = (k : Int) := ⟨(3 * x + y).toNat, by omega⟩
  have HJ := Lib.hid (show (3 * x + y).toNat = k by omega)
  have w1 : IntKind.i64.wrap (3 * x) = 3 * x := wrap_id (by omega) (by omega)
  have w2 : IntKind.i64.wrap (3 * x + y) = (k : Int) := by rw [hk]; exact wrap_id (by omega) (by omega)
  have hk9 : k < dr.length := by omega
  obtain ⟨b0, o0, dc, s0, hv0, -, -, -⟩ := i3.at (k := 0) (by omega)
  subst hv0
  obtain ⟨n0, hn0⟩ : ∃ n, dr.length = n := ⟨_, rfl⟩
  have HDL := Lib.hid hn0
  rw [hn0] at h i3 hk9 ⊢
  have HK := Lib.hid hk9
  have HD0 := Lib.hid i3
  have HP0 := Lib.hid h
  have HE := Lib.hid h0
  have HH := Lib.hid hs
  clear h h0 hs i1 i2 i3 q1 q2 hx hy hk hk9 hd9 hn0
  go_enter Try.func50, Try.ntmps50
  go_wp2_with fail
  obtain ⟨W187, hW188⟩ : ∃ Wzz, ((w.alloc (.cells #[.int .i64 e1, .int .i64 R1, .int .i64 S1, .slice SA sn sc, .int .i64 e2, .int .i64 R2, .int .i64 S2, .slice RA rn rc, .slice (some ⟨b0, o0, none⟩) n0 dc] 27)).alloc (.cells #[.int .i64 a, .int .i64 b, .int .i64 t] 29)) = Wzz := ⟨_, rfl⟩
  have B189 := Lib.hid (show Below w.heap.size w W187 by rw [← hW188]; exact (((Below.refl w.heap.size w).alloc (Nat.le_refl _) _).alloc (by first | (simp; done) | (simp; omega)) _))
  have X190 := Lib.hid (show Box W187 (w.heap.size) 27 #[.int .i64 e1, .int .i64 R1, .int .i64 S1, .slice SA sn sc, .int .i64 e2, .int .i64 R2, .int .i64 S2, .slice RA rn rc, .slice (some ⟨b0, o0, none⟩) n0 dc] by rw [← hW188]; exact Box.alloc (Box.made w 27 #[.int .i64 e1, .int .i64 R1, .int .i64 S1, .slice SA sn sc, .int .i64 e2, .int .i64 R2, .int .i64 S2, .slice RA rn rc, .slice (some ⟨b0, o0, none⟩) n0 dc]) (.cells #[.int .i64 a, .int .i64 b, .int .i64 t] 29))
  have X191 := Lib.hid (show Box W187 (w.heap.size + 1) 29 #[.int .i64 a, .int .i64 b, .int .i64 t] by
    have hz := Box.made (w.alloc (.cells #[.int .i64 e1, .int .i64 R1, .int .i64 S1, .slice SA sn sc, .int .i64 e2, .int .i64 R2, .int .i64 S2, .slice RA rn rc, .slice (some ⟨b0, o0, none⟩) n0 dc] 27)) 29 #[.int .i64 a, .int .i64 b, .int .i64 t]
    rw [World.size_alloc] at hz
    rw [← hW188]; exact hz)
  have C192 := Lib.hid (HP0.out.later B189.out)
  have C193 := Lib.hid (HD0.out.later B189.out)
  have SZ194 := Lib.hid (show W187.heap.size = w.heap.size + 1 + 1 by rw [← hW188]; simp)
  rw [hW188]
  clear hW188
  have q195 : W187.cell? ⟨w.heap.size, 0, none⟩ = some (.int .i64 e1) := X190.out.cell 0
  have q196 : W187.cell? ⟨w.heap.size, 1, none⟩ = some (.int .i64 R1) := X190.out.cell 1
  have q197 : W187.cell? ⟨w.heap.size, 2, none⟩ = some (.int .i64 S1) := X190.out.cell 2
  have q198 : W187.cell? ⟨w.heap.size, 3, none⟩ = some (.slice SA sn sc) := X190.out.cell 3
  have q199 : W187.cell? ⟨w.heap.size, 4, none⟩ = some (.int .i64 e2) := X190.out.cell 4
  have q200 : W187.cell? ⟨w.heap.size, 5, none⟩ = some (.int .i64 R2) := X190.out.cell 5
  have q201 : W187.cell? ⟨w.heap.size, 6, none⟩ = some (.int .i64 S2) := X190.out.cell 6
  have q202 : W187.cell? ⟨w.heap.size, 7, none⟩ = some (.slice RA rn rc) := X190.out.cell 7
  have q203 : W187.cell? ⟨w.heap.size, 8, none⟩ = some (.slice (some ⟨b0, o0, none⟩) n0 dc) := X190.out.cell 8
  have q204 : W187.cell? ⟨w.heap.size + 1, 0, none⟩ = some (.int .i64 a) := X191.out.cell 0
  have q205 : W187.cell? ⟨w.heap.size + 1, 1, none⟩ = some (.int .i64 b) := X191.out.cell 1
  have q206 : W187.cell? ⟨w.heap.size + 1, 2, none⟩ = some (.int .i64 t) := X191.out.cell 2
  go_wp2_with fail
  refine (kover_c ⟨⟨e1, R1, S1, k1⟩, ⟨e2, R2, S2, k2⟩, dr⟩ a b t _ _ C192.out HE.out HH.out).mono ?_; rintro e v207 ⟨rfl, hb208⟩
  have X209 := Lib.hid (X190.out.later hb208)
  have X210 := Lib.hid (X191.out.later hb208)
  have C211 := Lib.hid (C192.out.later hb208)
  have C212 := Lib.hid (C193.out.later hb208)
  have B213 := Lib.hid (B189.out.trans (hb208.mono B189.out.size))
  clear hb208
  rw [HN.out.1, HN.out.2]
  clear q195 q196 q197 q198 q199 q200 q201 q202 q203 q204 q205 q206
  have q214 : v207.cell? ⟨w.heap.size, 0, none⟩ = some (.int .i64 e1) := X209.out.cell 0
  have q215 : v207.cell? ⟨w.heap.size, 1, none⟩ = some (.int .i64 R1) := X209.out.cell 1
  have q216 : v207.cell? ⟨w.heap.size, 2, none⟩ = some (.int .i64 S1) := X209.out.cell 2
  have q217 : v207.cell? ⟨w.heap.size, 3, none⟩ = some (.slice SA sn sc) := X209.out.cell 3
  have q218 : v207.cell? ⟨w.heap.size, 4, none⟩ = some (.int .i64 e2) := X209.out.cell 4
  have q219 : v207.cell? ⟨w.heap.size, 5, none⟩ = some (.int .i64 R2) := X209.out.cell 5
  have q220 : v207.cell? ⟨w.heap.size, 6, none⟩ = some (.int .i64 S2) := X209.out.cell 6
  have q221 : v207.cell? ⟨w.heap.size, 7, none⟩ = some (.slice RA rn rc) := X209.out.cell 7
  have q222 : v207.cell? ⟨w.heap.size, 8, none⟩ = some (.slice (some ⟨b0, o0, none⟩) n0 dc) := X209.out.cell 8
  have q223 : v207.cell? ⟨w.heap.size + 1, 0, none⟩ = some (.int .i64 a) := X210.out.cell 0
  have q224 : v207.cell? ⟨w.heap.size + 1, 1, none⟩ = some (.int .i64 b) := X210.out.cell 1
  have q225 : v207.cell? ⟨w.heap.size + 1, 2, none⟩ = some (.int .i64 t) := X210.out.cell 2
  obtain ⟨b', o', c', sd, hv, hbB, y1, y2⟩ := C212.out.at (k := k) (by rw [HDL.out]; exact HK.out)
  rw [HDL.out] at hv
  cases hv
  have HM := Lib.hid y2
  have i0 : (0 : Int) ≤ (k : Int) := Int.natCast_nonneg _
  have i1 : (k : Int) < (n0 : Int) := by have := HK.out; omega
  clear y2 hbB
  go_wp2_with fail
  go_ret
  exact ⟨⟨sd, rfl, by unfold movesL; rw [HN.out.1, HN.out.2, HJ.out]; exact HM.out⟩, B213.out⟩

set_option maxRecDepth 100000 in
set_option maxHeartbeats 8000000 in
theorem kMoves_bad (p : Pr) (a b t : Int) (v : Value) (w : World) (h : IsPair w w.heap.size v p) (h0 : asE p ⟨a, b, t⟩ ≠ 0) : Calls Try.prog 19 #[v, .agg #[.int .i64 a, .int .i64 b, .int .i64 t]] w fun e w' => e = .returned (.tuple #[.slice none 0 0, .int .i64 (asE p ⟨a, b, t⟩)]) ∧ Below w.heap.size w w' := by
  obtain ⟨s, r, d, hpv, -, -, -⟩ := id h
  subst hpv
  have HP0 := Lib.hid h
  have HE := Lib.hid h0
  clear h h0
  unfold pairV at *
  have hne : (asE p ⟨a, b, t⟩ != 0) = true := by simpa using HE.out
  have hne2 : decide (asE p ⟨a, b, t⟩ = 0) = false := by simpa using HE.out
  go_enter Try.func19, Try.ntmps19
  go_wp2_with fail
  obtain ⟨W226, hW227⟩ : ∃ Wzz, ((w.alloc (.cells #[.int .i64 p.bed.eye, .int .i64 p.bed.rings, .int .i64 p.bed.sectors, s, .int .i64 p.run.eye, .int .i64 p.run.rings, .int .i64 p.run.sectors, r, d] 27)).alloc (.cells #[.int .i64 a, .int .i64 b, .int .i64 t] 29)) = Wzz := ⟨_, rfl⟩
  have B228 := Lib.hid (show Below w.heap.size w W226 by rw [← hW227]; exact (((Below.refl w.heap.size w).alloc (Nat.le_refl _) _).alloc (by first | (simp; done) | (simp; omega)) _))
  have X229 := Lib.hid (show Box W226 (w.heap.size) 27 #[.int .i64 p.bed.eye, .int .i64 p.bed.rings, .int .i64 p.bed.sectors, s, .int .i64 p.run.eye, .int .i64 p.run.rings, .int .i64 p.run.sectors, r, d] by rw [← hW227]; exact Box.alloc (Box.made w 27 #[.int .i64 p.bed.eye, .int .i64 p.bed.rings, .int .i64 p.bed.sectors, s, .int .i64 p.run.eye, .int .i64 p.run.rings, .int .i64 p.run.sectors, r, d]) (.cells #[.int .i64 a, .int .i64 b, .int .i64 t] 29))
  have X230 := Lib.hid (show Box W226 (w.heap.size + 1) 29 #[.int .i64 a, .int .i64 b, .int .i64 t] by
    have hz := Box.made (w.alloc (.cells #[.int .i64 p.bed.eye, .int .i64 p.bed.rings, .int .i64 p.bed.sectors, s, .int .i64 p.run.eye, .int .i64 p.run.rings, .int .i64 p.run.sectors, r, d] 27)) 29 #[.int .i64 a, .int .i64 b, .int .i64 t]
    rw [World.size_alloc] at hz
    rw [← hW227]; exact hz)
  have C231 := Lib.hid (HP0.out.later B228.out)
  have SZ232 := Lib.hid (show W226.heap.size = w.heap.size + 1 + 1 by rw [← hW227]; simp)
  rw [hW227]
  clear hW227
  have q233 : W226.cell? ⟨w.heap.size, 0, none⟩ = some (.int .i64 p.bed.eye) := X229.out.cell 0
  have q234 : W226.cell? ⟨w.heap.size, 1, none⟩ = some (.int .i64 p.bed.rings) := X229.out.cell 1
  have q235 : W226.cell? ⟨w.heap.size, 2, none⟩ = some (.int .i64 p.bed.sectors) := X229.out.cell 2
  have q236 : W226.cell? ⟨w.heap.size, 3, none⟩ = some (s) := X229.out.cell 3
  have q237 : W226.cell? ⟨w.heap.size, 4, none⟩ = some (.int .i64 p.run.eye) := X229.out.cell 4
  have q238 : W226.cell? ⟨w.heap.size, 5, none⟩ = some (.int .i64 p.run.rings) := X229.out.cell 5
  have q239 : W226.cell? ⟨w.heap.size, 6, none⟩ = some (.int .i64 p.run.sectors) := X229.out.cell 6
  have q240 : W226.cell? ⟨w.heap.size, 7, none⟩ = some (r) := X229.out.cell 7
  have q241 : W226.cell? ⟨w.heap.size, 8, none⟩ = some (d) := X229.out.cell 8
  have q242 : W226.cell? ⟨w.heap.size + 1, 0, none⟩ = some (.int .i64 a) := X230.out.cell 0
  have q243 : W226.cell? ⟨w.heap.size + 1, 1, none⟩ = some (.int .i64 b) := X230.out.cell 1
  have q244 : W226.cell? ⟨w.heap.size + 1, 2, none⟩ = some (.int .i64 t) := X230.out.cell 2
  go_wp2_with fail
  refine (kasked_c p a b t _ _ C231.out trivial).mono ?_; rintro e v245 ⟨rfl, hb246⟩
  have X247 := Lib.hid (X229.out.later hb246)
  have X248 := Lib.hid (X230.out.later hb246)
  have C249 := Lib.hid (C231.out.later hb246)
  have B250 := Lib.hid (B228.out.trans (hb246.mono B228.out.size))
  clear hb246
  clear q233 q234 q235 q236 q237 q238 q239 q240 q241 q242 q243 q244
  have q251 : v245.cell? ⟨w.heap.size, 0, none⟩ = some (.int .i64 p.bed.eye) := X247.out.cell 0
  have q252 : v245.cell? ⟨w.heap.size, 1, none⟩ = some (.int .i64 p.bed.rings) := X247.out.cell 1
  have q253 : v245.cell? ⟨w.heap.size, 2, none⟩ = some (.int .i64 p.bed.sectors) := X247.out.cell 2
  have q254 : v245.cell? ⟨w.heap.size, 3, none⟩ = some (s) := X247.out.cell 3
  have q255 : v245.cell? ⟨w.heap.size, 4, none⟩ = some (.int .i64 p.run.eye) := X247.out.cell 4
  have q256 : v245.cell? ⟨w.heap.size, 5, none⟩ = some (.int .i64 p.run.rings) := X247.out.cell 5
  have q257 : v245.cell? ⟨w.heap.size, 6, none⟩ = some (.int .i64 p.run.sectors) := X247.out.cell 6
  have q258 : v245.cell? ⟨w.heap.size, 7, none⟩ = some (r) := X247.out.cell 7
  have q259 : v245.cell? ⟨w.heap.size, 8, none⟩ = some (d) := X247.out.cell 8
  have q260 : v245.cell? ⟨w.heap.size + 1, 0, none⟩ = some (.int .i64 a) := X248.out.cell 0
  have q261 : v245.cell? ⟨w.heap.size + 1, 1, none⟩ = some (.int .i64 b) := X248.out.cell 1
  have q262 : v245.cell? ⟨w.heap.size + 1, 2, none⟩ = some (.int .i64 t) := X248.out.cell 2
  go_wp2_with fail
  go_ret2
  exact ⟨rfl, B250.out⟩

set_option maxRecDepth 100000 in
set_option maxHeartbeats 8000000 in
theorem kMoves_ok (p : Pr) (a b t : Int) (v : Value) (w : World) (h : IsPair w w.heap.size v p) (h0 : asE p ⟨a, b, t⟩ = 0) : Calls Try.prog 19 #[v, .agg #[.int .i64 a, .int .i64 b, .int .i64 t]] w fun e w' => (∃ v', e = .returned (.tuple #[v', .int .i64 0]) ∧ Moves w' w'.heap.size v' (movesL p ⟨a, b, t⟩)) ∧ Below w.heap.size w w' := by
  obtain ⟨s, r, d, hpv, -, -, -⟩ := id h
  subst hpv
  have HP0 := Lib.hid h
  have HE := Lib.hid h0
  clear h h0
  unfold pairV at *
  go_enter Try.func19, Try.ntmps19
  go_wp2_with fail
  obtain ⟨W263, hW264⟩ : ∃ Wzz, ((w.alloc (.cells #[.int .i64 p.bed.eye, .int .i64 p.bed.rings, .int .i64 p.bed.sectors, s, .int .i64 p.run.eye, .int .i64 p.run.rings, .int .i64 p.run.sectors, r, d] 27)).alloc (.cells #[.int .i64 a, .int .i64 b, .int .i64 t] 29)) = Wzz := ⟨_, rfl⟩
  have B265 := Lib.hid (show Below w.heap.size w W263 by rw [← hW264]; exact (((Below.refl w.heap.size w).alloc (Nat.le_refl _) _).alloc (by first | (simp; done) | (simp; omega)) _))
  have X266 := Lib.hid (show Box W263 (w.heap.size) 27 #[.int .i64 p.bed.eye, .int .i64 p.bed.rings, .int .i64 p.bed.sectors, s, .int .i64 p.run.eye, .int .i64 p.run.rings, .int .i64 p.run.sectors, r, d] by rw [← hW264]; exact Box.alloc (Box.made w 27 #[.int .i64 p.bed.eye, .int .i64 p.bed.rings, .int .i64 p.bed.sectors, s, .int .i64 p.run.eye, .int .i64 p.run.rings, .int .i64 p.run.sectors, r, d]) (.cells #[.int .i64 a, .int .i64 b, .int .i64 t] 29))
  have X267 := Lib.hid (show Box W263 (w.heap.size + 1) 29 #[.int .i64 a, .int .i64 b, .int .i64 t] by
    have hz := Box.made (w.alloc (.cells #[.int .i64 p.bed.eye, .int .i64 p.bed.rings, .int .i64 p.bed.sectors, s, .int .i64 p.run.eye, .int .i64 p.run.rings, .int .i64 p.run.sectors, r, d] 27)) 29 #[.int .i64 a, .int .i64 b, .int .i64 t]
    rw [World.size_alloc] at hz
    rw [← hW264]; exact hz)
  have C268 := Lib.hid (HP0.out.later B265.out)
  have SZ269 := Lib.hid (show W263.heap.size = w.heap.size + 1 + 1 by rw [← hW264]; simp)
  rw [hW264]
  clear hW264
  have q270 : W263.cell? ⟨w.heap.size, 0, none⟩ = some (.int .i64 p.bed.eye) := X266.out.cell 0
  have q271 : W263.cell? ⟨w.heap.size, 1, none⟩ = some (.int .i64 p.bed.rings) := X266.out.cell 1
  have q272 : W263.cell? ⟨w.heap.size, 2, none⟩ = some (.int .i64 p.bed.sectors) := X266.out.cell 2
  have q273 : W263.cell? ⟨w.heap.size, 3, none⟩ = some (s) := X266.out.cell 3
  have q274 : W263.cell? ⟨w.heap.size, 4, none⟩ = some (.int .i64 p.run.eye) := X266.out.cell 4
  have q275 : W263.cell? ⟨w.heap.size, 5, none⟩ = some (.int .i64 p.run.rings) := X266.out.cell 5
  have q276 : W263.cell? ⟨w.heap.size, 6, none⟩ = some (.int .i64 p.run.sectors) := X266.out.cell 6
  have q277 : W263.cell? ⟨w.heap.size, 7, none⟩ = some (r) := X266.out.cell 7
  have q278 : W263.cell? ⟨w.heap.size, 8, none⟩ = some (d) := X266.out.cell 8
  have q279 : W263.cell? ⟨w.heap.size + 1, 0, none⟩ = some (.int .i64 a) := X267.out.cell 0
  have q280 : W263.cell? ⟨w.heap.size + 1, 1, none⟩ = some (.int .i64 b) := X267.out.cell 1
  have q281 : W263.cell? ⟨w.heap.size + 1, 2, none⟩ = some (.int .i64 t) := X267.out.cell 2
  go_wp2_with fail
  refine (kasked_c p a b t _ _ C268.out trivial).mono ?_; rintro e v282 ⟨rfl, hb283⟩
  have X284 := Lib.hid (X266.out.later hb283)
  have X285 := Lib.hid (X267.out.later hb283)
  have C286 := Lib.hid (C268.out.later hb283)
  have B287 := Lib.hid (B265.out.trans (hb283.mono B265.out.size))
  clear hb283
  rw [HE.out]
  clear q270 q271 q272 q273 q274 q275 q276 q277 q278 q279 q280 q281
  have q288 : v282.cell? ⟨w.heap.size, 0, none⟩ = some (.int .i64 p.bed.eye) := X284.out.cell 0
  have q289 : v282.cell? ⟨w.heap.size, 1, none⟩ = some (.int .i64 p.bed.rings) := X284.out.cell 1
  have q290 : v282.cell? ⟨w.heap.size, 2, none⟩ = some (.int .i64 p.bed.sectors) := X284.out.cell 2
  have q291 : v282.cell? ⟨w.heap.size, 3, none⟩ = some (s) := X284.out.cell 3
  have q292 : v282.cell? ⟨w.heap.size, 4, none⟩ = some (.int .i64 p.run.eye) := X284.out.cell 4
  have q293 : v282.cell? ⟨w.heap.size, 5, none⟩ = some (.int .i64 p.run.rings) := X284.out.cell 5
  have q294 : v282.cell? ⟨w.heap.size, 6, none⟩ = some (.int .i64 p.run.sectors) := X284.out.cell 6
  have q295 : v282.cell? ⟨w.heap.size, 7, none⟩ = some (r) := X284.out.cell 7
  have q296 : v282.cell? ⟨w.heap.size, 8, none⟩ = some (d) := X284.out.cell 8
  have q297 : v282.cell? ⟨w.heap.size + 1, 0, none⟩ = some (.int .i64 a) := X285.out.cell 0
  have q298 : v282.cell? ⟨w.heap.size + 1, 1, none⟩ = some (.int .i64 b) := X285.out.cell 1
  have q299 : v282.cell? ⟨w.heap.size + 1, 2, none⟩ = some (.int .i64 t) := X285.out.cell 2
  have HGW := Lib.hid B287.out.size
  have HOW0 := Lib.hid (World.ownsRow_made (base := v282.heap.size) (e := 41) (size := 3) v282 #[] 0 (Nat.le_refl _) (Nat.zero_le _) rfl)
  have X300 := Lib.hid (X284.out.alloc (.cells #[] 41))
  have X301 := Lib.hid (X285.out.alloc (.cells #[] 41))
  have C302 := Lib.hid (C286.out.later ((Below.refl v282.heap.size v282).alloc (Nat.le_refl _) (.cells #[] 41)))
  have B303 := Lib.hid (B287.out.alloc B287.out.size (.cells #[] 41))
  have X304 := Lib.hid (Box.made v282 41 #[])
  have q305 : (v282.alloc (.cells #[] 41)).cell? ⟨w.heap.size, 0, none⟩ = some (.int .i64 p.bed.eye) := X300.out.cell 0
  have q306 : (v282.alloc (.cells #[] 41)).cell? ⟨w.heap.size, 1, none⟩ = some (.int .i64 p.bed.rings) := X300.out.cell 1
  have q307 : (v282.alloc (.cells #[] 41)).cell? ⟨w.heap.size, 2, none⟩ = some (.int .i64 p.bed.sectors) := X300.out.cell 2
  have q308 : (v282.alloc (.cells #[] 41)).cell? ⟨w.heap.size, 3, none⟩ = some (s) := X300.out.cell 3
  have q309 : (v282.alloc (.cells #[] 41)).cell? ⟨w.heap.size, 4, none⟩ = some (.int .i64 p.run.eye) := X300.out.cell 4
  have q310 : (v282.alloc (.cells #[] 41)).cell? ⟨w.heap.size, 5, none⟩ = some (.int .i64 p.run.rings) := X300.out.cell 5
  have q311 : (v282.alloc (.cells #[] 41)).cell? ⟨w.heap.size, 6, none⟩ = some (.int .i64 p.run.sectors) := X300.out.cell 6
  have q312 : (v282.alloc (.cells #[] 41)).cell? ⟨w.heap.size, 7, none⟩ = some (r) := X300.out.cell 7
  have q313 : (v282.alloc (.cells #[] 41)).cell? ⟨w.heap.size, 8, none⟩ = some (d) := X300.out.cell 8
  have q314 : (v282.alloc (.cells #[] 41)).cell? ⟨w.heap.size + 1, 0, none⟩ = some (.int .i64 a) := X301.out.cell 0
  have q315 : (v282.alloc (.cells #[] 41)).cell? ⟨w.heap.size + 1, 1, none⟩ = some (.int .i64 b) := X301.out.cell 1
  have q316 : (v282.alloc (.cells #[] 41)).cell? ⟨w.heap.size + 1, 2, none⟩ = some (.int .i64 t) := X301.out.cell 2
  go_wp2_with fail
  refine (kMovesOf_c p a b t _ _ C302.out (asE_zero HE.out).1 (asE_zero HE.out).2).mono ?_; rintro e v317 ⟨⟨u, rfl, hu⟩, hb318⟩
  have X319 := Lib.hid (X300.out.later hb318)
  have X320 := Lib.hid (X301.out.later hb318)
  have X321 := Lib.hid (X304.out.later hb318)
  have C322 := Lib.hid (C302.out.later hb318)
  have B323 := Lib.hid (B303.out.trans (hb318.mono B303.out.size))
  have HU := Lib.hid hu
  have HOW := Lib.hid (own_later HOW0.out hb318)
  have HGS := Lib.hid (Nat.le_trans (show v282.heap.size ≤ (v282.alloc (.cells #[] 41)).heap.size by rw [World.size_alloc]; exact Nat.le_succ _) hb318.size)
  clear hb318
  clear hu
  clear q305 q306 q307 q308 q309 q310 q311 q312 q313 q314 q315 q316 q288 q289 q290 q291 q292 q293 q294 q295 q296 q297 q298 q299
  have q324 : v317.cell? ⟨w.heap.size, 0, none⟩ = some (.int .i64 p.bed.eye) := X319.out.cell 0
  have q325 : v317.cell? ⟨w.heap.size, 1, none⟩ = some (.int .i64 p.bed.rings) := X319.out.cell 1
  have q326 : v317.cell? ⟨w.heap.size, 2, none⟩ = some (.int .i64 p.bed.sectors) := X319.out.cell 2
  have q327 : v317.cell? ⟨w.heap.size, 3, none⟩ = some (s) := X319.out.cell 3
  have q328 : v317.cell? ⟨w.heap.size, 4, none⟩ = some (.int .i64 p.run.eye) := X319.out.cell 4
  have q329 : v317.cell? ⟨w.heap.size, 5, none⟩ = some (.int .i64 p.run.rings) := X319.out.cell 5
  have q330 : v317.cell? ⟨w.heap.size, 6, none⟩ = some (.int .i64 p.run.sectors) := X319.out.cell 6
  have q331 : v317.cell? ⟨w.heap.size, 7, none⟩ = some (r) := X319.out.cell 7
  have q332 : v317.cell? ⟨w.heap.size, 8, none⟩ = some (d) := X319.out.cell 8
  have q333 : v317.cell? ⟨w.heap.size + 1, 0, none⟩ = some (.int .i64 a) := X320.out.cell 0
  have q334 : v317.cell? ⟨w.heap.size + 1, 1, none⟩ = some (.int .i64 b) := X320.out.cell 1
  have q335 : v317.cell? ⟨w.heap.size + 1, 2, none⟩ = some (.int .i64 t) := X320.out.cell 2
  have HL3 := Lib.hid (listB_parts (movesL_ok (asE_zero HE.out).1 (asE_zero HE.out).2)).1
  obtain ⟨b0, o0, cc, hv0, hb0, -, -, -⟩ := HU.out.at (k := 0) (by have := HL3.out; omega)
  subst hv0
  have hcc : ∀ k, k < (movesL p ⟨a, b, t⟩).length → v317.cell? ⟨b0, o0 + k * 3, none⟩ = some (.int .i64 (nthM (movesL p ⟨a, b, t⟩) k).out) ∧ v317.cell? ⟨b0, o0 + k * 3 + 1, none⟩ = some (.int .i64 (nthM (movesL p ⟨a, b, t⟩) k).side) ∧ v317.cell? ⟨b0, o0 + k * 3 + 2, none⟩ = some (.bool (nthM (movesL p ⟨a, b, t⟩) k).cut) := fun k hk => by
    obtain ⟨b', o', c', hv', -, z1, z2, z3⟩ := HU.out.at (k := k) hk
    cases hv'
    exact ⟨z1, z2, z3⟩
  obtain ⟨i0, hi0, hz0, hz1, hz2⟩ : ∃ i, Try.prog.info? 41 = some i ∧ i.zero = some (.agg #[.int .i64 0, .int .i64 0, .bool false]) ∧ i.size = 3 ∧ i.bytes = 24 := ⟨_, rfl, rfl, rfl, rfl⟩
  have hb4 := moves_news hcc (Below.refl v317.heap.size v317) hb0
  have ho := HOW.out
  have h1c := mrow_one (movesL p ⟨a, b, t⟩)
  have hk0 := mrow_len (movesL p ⟨a, b, t⟩)
  have hk1 : 0 + (movesL p ⟨a, b, t⟩).length ≤ maxLen := by have := HL3.out; unfold maxLen; omega
  have hk2 : (0 + (movesL p ⟨a, b, t⟩).length) * 24 ≤ 140737488355328 := by have := HL3.out; omega
  have hk3 : v282.heap.size ≤ v317.heap.size := HGS.out
  obtain ⟨n, hn⟩ : ∃ n, (movesL p ⟨a, b, t⟩).length = n := ⟨_, rfl⟩
  have HN := Lib.hid hn
  rw [hn] at hk0 hk1 hk2 ⊢
  obtain ⟨row, hrow⟩ : ∃ r, mrow (movesL p ⟨a, b, t⟩) = r := ⟨_, rfl⟩
  have HROW := Lib.hid hrow
  rw [hrow] at h1c hk0 hb4
  clear hn hrow hcc hb0
  go_wp2_with (first
    | (at_builtin; refine wpList_append_own_at _ rfl _ _ 44 rfl v282.heap.size 41 i0 (.agg #[.int .i64 0, .int .i64 0, .bool false]) 3 24 Try.underlying44 hi0 hz0 hz1 hz2 rfl (by decide) (.slice (some ⟨v282.heap.size, 0, none⟩) 0 0) _ _ rfl ho ⟨b0, o0, none⟩ n cc row rfl hk0 hb4 h1c hk1 hk2 hk3 ?_
       intro v' w7 hown7 hgrow7 _ _
       rw [Nat.zero_add, List.nil_append] at hown7
       have HOWN := Lib.hid hown7
       have HB7 := Lib.hid (B323.out.grown hgrow7 B323.out.size (fun q e => Nat.le_trans HGW.out (ho.lt q e).1))
       clear hown7 hgrow7 ho hb4 h1c hk0 hk1 hk2 hk3))
  go_ret2
  refine ⟨⟨v', rfl, ?_⟩, HB7.out⟩
  refine moves_own (base := v282.heap.size) ?_ (by have := HL3.out; omega)
  rw [HN.out, HROW.out]
  exact HOWN.out

end Go.Proofs.Ytikfiallhmhicaa

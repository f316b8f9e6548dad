/- Layer 3: the specification: moves, and where they lead. -/
import Derived.Test.YtikfiallhmhicaaGreatE3
import Derived.Test.YtikfiallhmhicaaGreatE4
set_option linter.all false
namespace Go.Proofs.YtikfiallhmhicaaGreat
open Go.RowKit

set_option maxRecDepth 100000 in
set_option maxHeartbeats 8000000 in
theorem rround_c (p : Pr) (n : Int) (v : Value) (w : World) (h : IsPair w w.heap.size v p) (hS : 2 ≤ p.bed.sectors ∧ p.bed.sectors ≤ 96) (h1 : -p.bed.sectors ≤ n ∧ n ≤ 200) : Calls Tryz.prog 77 #[v, .int .i64 n] w fun e w' => e = .returned (.int .i64 (arnd n p.bed.sectors)) ∧ Below w.heap.size w w' := by
  obtain ⟨s, r, d, rfl, -, -, -⟩ := h
  unfold pairV
  obtain ⟨S, hS2⟩ : ∃ m : Nat, p.bed.sectors = (m : Int) := ⟨p.bed.sectors.toNat, by omega⟩
  rw [hS2] at hS h1 ⊢
  have hd := Int.mul_tdiv_add_tmod n (S : Int)
  have hl1 : -(S : Int) < n.tmod S := by have := Int.tmod_lt_of_pos (-n) (b := (S : Int)) (by omega); rw [Int.neg_tmod] at this; omega
  have hl2 : n.tmod S < (S : Int) := Int.tmod_lt_of_pos n (by omega)
  obtain ⟨x, hx⟩ : ∃ x, n.tmod (S : Int) = x := ⟨_, rfl⟩
  rw [hx] at hd hl1 hl2
  obtain ⟨m, hm⟩ : ∃ m : Nat, x + (S : Int) = (m : Int) := ⟨(x + (S : Int)).toNat, by omega⟩
  have v1 : IntKind.i64.wrap (x + (S : Int)) = (m : Int) := by rw [hm]; exact wrap_id (by omega) (by omega)
  have hq := Nat.mod_lt m (show 0 < S by omega)
  obtain ⟨q, hqe⟩ : ∃ q, m % S = q := ⟨_, rfl⟩
  rw [hqe] at hq
  have eq : (m : Int) % (S : Int) = (q : Int) := by rw [← hqe]; simp
  have HN := Lib.hid (show arnd n (S : Int) = (q : Int) by
    unfold arnd
    rw [← eq, ← hm, Int.add_emod_right, ← hd, Int.mul_add_emod_self_left])
  have v2 : IntKind.i64.wrap (q : Int) = (q : Int) := wrap_id (by omega) (by omega)
  have v3 : IntKind.i64.wrap x = x := wrap_id (by omega) (by omega)
  have z3 : decide ((S : Int) = 0) = false := decide_eq_false (by omega)
  have z5 : ¬ S = 0 := by omega
  have z6 : ¬ (S : Int) = 0 := by omega
  have t2 : (m : Int).tmod (S : Int) = (q : Int) := by rw [Int.tmod_eq_emod_of_nonneg (by omega)]; exact eq
  have s0 : (0 : Int) < (S : Int) := by omega
  have s1 : 0 < S := by omega
  clear hd hl1 hl2 hm hq hqe hS h1
  clear hS2
  go_enter Tryz.func77, Tryz.ntmps77
  go_wp2_with fail
  obtain ⟨W180, hW181⟩ : ∃ Wzz, (w.alloc (.cells #[.int .i64 p.bed.eye, .int .i64 p.bed.rings, .int .i64 (S : Int), s, .int .i64 p.run.eye, .int .i64 p.run.rings, .int .i64 p.run.sectors, r, d] 31)) = Wzz := ⟨_, rfl⟩
  have B182 := Lib.hid (show Below w.heap.size w W180 by rw [← hW181]; exact ((Below.refl w.heap.size w).alloc (Nat.le_refl _) _))
  have X183 := Lib.hid (show Box W180 (w.heap.size) 31 #[.int .i64 p.bed.eye, .int .i64 p.bed.rings, .int .i64 (S : Int), s, .int .i64 p.run.eye, .int .i64 p.run.rings, .int .i64 p.run.sectors, r, d] by rw [← hW181]; exact Box.made w 31 #[.int .i64 p.bed.eye, .int .i64 p.bed.rings, .int .i64 (S : Int), s, .int .i64 p.run.eye, .int .i64 p.run.rings, .int .i64 p.run.sectors, r, d])
  have SZ184 := Lib.hid (show W180.heap.size = w.heap.size + 1 by rw [← hW181]; simp)
  rw [hW181]
  clear hW181
  have q185 : W180.cell? ⟨w.heap.size, 0, none⟩ = some (.int .i64 p.bed.eye) := X183.out.cell 0
  have q186 : W180.cell? ⟨w.heap.size, 1, none⟩ = some (.int .i64 p.bed.rings) := X183.out.cell 1
  have q187 : W180.cell? ⟨w.heap.size, 2, none⟩ = some (.int .i64 (S : Int)) := X183.out.cell 2
  have q188 : W180.cell? ⟨w.heap.size, 3, none⟩ = some (s) := X183.out.cell 3
  have q189 : W180.cell? ⟨w.heap.size, 4, none⟩ = some (.int .i64 p.run.eye) := X183.out.cell 4
  have q190 : W180.cell? ⟨w.heap.size, 5, none⟩ = some (.int .i64 p.run.rings) := X183.out.cell 5
  have q191 : W180.cell? ⟨w.heap.size, 6, none⟩ = some (.int .i64 p.run.sectors) := X183.out.cell 6
  have q192 : W180.cell? ⟨w.heap.size, 7, none⟩ = some (r) := X183.out.cell 7
  have q193 : W180.cell? ⟨w.heap.size, 8, none⟩ = some (d) := X183.out.cell 8
  try go_wp2_with fail
  go_quiet (fail)
  go_wp2_with fail
  go_ret
  exact ⟨by first | exact ret_int HN.out.symm | (rw [HN.out]; first | rfl | (rw [eq])), B182.out.trans (below_drewN _ _)⟩

set_option maxRecDepth 100000 in
set_option maxHeartbeats 8000000 in
theorem rmoves_c (p : Pr) (a b t : Int) (v : Value) (w : World) (h : IsPair w w.heap.size v p) (h0 : ckE p = 0) (hs : hasB p ⟨a, b, t⟩ = true) : Calls Tryz.prog 54 #[v, .agg #[.int .i64 a, .int .i64 b, .int .i64 t]] w fun e w' => (∃ v, e = .returned v ∧ Moves w' w'.heap.size v (movesL p ⟨a, b, t⟩)) ∧ Below w.heap.size w w' := by
  obtain ⟨s, r, d, rfl, i1, i2, i3⟩ := _root_.id h
  obtain ⟨n, j, q1, q2, q3, q4, q5, q6, q7, q8⟩ := over_bd h0 hs
  obtain ⟨hR, hS, -, -, -, hd9, -⟩ := ckE_bd h0
  obtain ⟨c1, c2, c3⟩ := hasB_parts.1 hs
  dsimp only at c1 c2 c3
  have ha := arnd_bd (n := b - t) (m := p.bed.sectors) (by omega)
  obtain ⟨⟨m1, m2⟩, m3, m4⟩ := cells_bd hS hR.2 c1 c2
  obtain ⟨-, m5, m6⟩ := cells_bd hS hR.2 c1 ha
  obtain ⟨m7, m8⟩ := mul_bd (a := p.bed.rings) (b := p.bed.sectors) (m := 24) (n := 96) (by omega) (by omega) (by omega) (by omega)
  obtain ⟨-, A1, cc1, rfl, -, hc1⟩ := i1
  obtain ⟨-, A2, cc2, rfl, -, hc2⟩ := i2
  obtain ⟨-, A3, cc3, rfl, -, hc3⟩ := i3
  obtain ⟨b1, o1, rfl, hb1, hcc1⟩ := hc1 (by omega)
  obtain ⟨b2, o2, rfl, hb2, hcc2⟩ := hc2 (by omega)
  obtain ⟨b3, o3, rfl, hb3, hcc3⟩ := hc3 (by omega)
  have y1 := hcc1 n q3
  have y2 := hcc2 j q4
  obtain ⟨x, hx⟩ : ∃ x, bedK p ⟨a, b, t⟩ = x := ⟨_, rfl⟩
  obtain ⟨y, hy⟩ : ∃ x, runK p ⟨a, b, t⟩ = x := ⟨_, rfl⟩
  rw [hx] at q5 q7
  rw [hy] at q6 q8
  rw [← q5] at y1
  rw [← q6] at y2
  obtain ⟨k, hk⟩ : ∃ k : Nat, 3 * x + y = (k : Int) := ⟨(3 * x + y).toNat, by omega⟩
  obtain ⟨sd, yd, hmv⟩ := hcc3 k (by omega)
  have HP0 := Lib.hid h
  have HSB := Lib.hid hS
  have HD := Lib.hid (show -p.bed.sectors ≤ b - t ∧ b - t ≤ 200 by omega)
  have q1' : a * p.bed.sectors + b = (n : Int) := q1
  have q2' : a * p.bed.sectors + arnd (b - t) p.bed.sectors = (j : Int) := q2
  obtain ⟨r0, hr0⟩ : ∃ r, arnd (b - t) p.bed.sectors = r := ⟨_, rfl⟩
  have HRR := Lib.hid hr0
  rw [hr0] at q2' ha m5 m6
  obtain ⟨x0, hx0⟩ : ∃ r, a * p.bed.sectors = r := ⟨_, rfl⟩
  rw [hx0] at q1' q2' m1 m2 m3 m4 m5 m6
  have v1 : IntKind.i64.wrap (a * p.bed.sectors) = x0 := by rw [hx0]; exact wrap_id (by omega) (by omega)
  have v2 : IntKind.i64.wrap (x0 + b) = (n : Int) := by rw [q1']; exact wrap_id (by omega) (by omega)
  have v3 : IntKind.i64.wrap (b - t) = b - t := wrap_id (by omega) (by omega)
  have v4 : IntKind.i64.wrap (x0 + r0) = (j : Int) := by rw [q2']; exact wrap_id (by omega) (by omega)
  have u1 : IntKind.i64.wrap (3 * x) = 3 * x := wrap_id (by omega) (by omega)
  have u2 : IntKind.i64.wrap (3 * x + y) = (k : Int) := by rw [hk]; exact wrap_id (by omega) (by omega)
  have HV := Lib.hid (show movesL p ⟨a, b, t⟩ = nthL p.drive k by unfold movesL; rw [hx, hy, hk]; rfl)
  have A0 : ∀ o o2, ((w.alloc o).alloc o2).cell? ⟨b1, o1 + n, none⟩ = some (.int .i64 x) := fun o o2 => keepd y1 (((Below.refl _ _).alloc (Nat.le_refl _) _).alloc (by simp) _) hb1
  have Y2 := Lib.hid (And.intro y2 hb2)
  have Y3 := Lib.hid (And.intro yd hb3)
  have HMV := Lib.hid hmv
  unfold pairV at *
  obtain ⟨l1, hl1⟩ : ∃ l, p.bed.kinds.length = l := ⟨_, rfl⟩
  obtain ⟨l2, hl2⟩ : ∃ l, p.run.kinds.length = l := ⟨_, rfl⟩
  rw [hl1] at q3 HP0 ⊢
  rw [hl2] at q4 HP0 ⊢
  rw [hd9] at HP0 ⊢
  have j0 : (0 : Int) ≤ (n : Int) := Int.natCast_nonneg _
  have j1 : (n : Int) < (l1 : Int) := by omega
  have j2 : (0 : Int) ≤ (j : Int) := Int.natCast_nonneg _
  have j3 : (j : Int) < (l2 : Int) := by omega
  have j4 : (0 : Int) ≤ (k : Int) := Int.natCast_nonneg _
  have j5 : (k : Int) < 9 := by omega
  clear h h0 hs hc1 hc2 hc3 hcc1 hcc2 hcc3 y1 y2 yd hmv hb1 hb2 hb3 q1 q2 q1' q2' q3 q4 q5 q6 q7 q8 hR hS c1 c2 c3 ha m1 m2 m3 m4 m5 m6 m7 m8 hr0 hx0 hx hy hk hl1 hl2 hd9
  go_enter Tryz.func54, Tryz.ntmps54
  go_wp2_with fail
  obtain ⟨W194, hW195⟩ : ∃ Wzz, ((w.alloc (.cells #[.int .i64 p.bed.eye, .int .i64 p.bed.rings, .int .i64 p.bed.sectors, .slice (some ⟨b1, o1, none⟩) l1 cc1, .int .i64 p.run.eye, .int .i64 p.run.rings, .int .i64 p.run.sectors, .slice (some ⟨b2, o2, none⟩) l2 cc2, .slice (some ⟨b3, o3, none⟩) 9 cc3] 31)).alloc (.cells #[.int .i64 a, .int .i64 b, .int .i64 t] 46)) = Wzz := ⟨_, rfl⟩
  have B196 := Lib.hid (show Below w.heap.size w W194 by rw [← hW195]; exact (((Below.refl w.heap.size w).alloc (Nat.le_refl _) _).alloc (by first | (simp; done) | (simp; omega)) _))
  have X197 := Lib.hid (show Box W194 (w.heap.size) 31 #[.int .i64 p.bed.eye, .int .i64 p.bed.rings, .int .i64 p.bed.sectors, .slice (some ⟨b1, o1, none⟩) l1 cc1, .int .i64 p.run.eye, .int .i64 p.run.rings, .int .i64 p.run.sectors, .slice (some ⟨b2, o2, none⟩) l2 cc2, .slice (some ⟨b3, o3, none⟩) 9 cc3] by rw [← hW195]; exact Box.alloc (Box.made w 31 #[.int .i64 p.bed.eye, .int .i64 p.bed.rings, .int .i64 p.bed.sectors, .slice (some ⟨b1, o1, none⟩) l1 cc1, .int .i64 p.run.eye, .int .i64 p.run.rings, .int .i64 p.run.sectors, .slice (some ⟨b2, o2, none⟩) l2 cc2, .slice (some ⟨b3, o3, none⟩) 9 cc3]) (.cells #[.int .i64 a, .int .i64 b, .int .i64 t] 46))
  have X198 := Lib.hid (show Box W194 (w.heap.size + 1) 46 #[.int .i64 a, .int .i64 b, .int .i64 t] by
    have hz := Box.made (w.alloc (.cells #[.int .i64 p.bed.eye, .int .i64 p.bed.rings, .int .i64 p.bed.sectors, .slice (some ⟨b1, o1, none⟩) l1 cc1, .int .i64 p.run.eye, .int .i64 p.run.rings, .int .i64 p.run.sectors, .slice (some ⟨b2, o2, none⟩) l2 cc2, .slice (some ⟨b3, o3, none⟩) 9 cc3] 31)) 46 #[.int .i64 a, .int .i64 b, .int .i64 t]
    rw [World.size_alloc] at hz
    rw [← hW195]; exact hz)
  have C199 := Lib.hid (HP0.out.later B196.out)
  have SZ200 := Lib.hid (show W194.heap.size = w.heap.size + 1 + 1 by rw [← hW195]; simp)
  rw [hW195]
  clear hW195
  have q201 : W194.cell? ⟨w.heap.size, 0, none⟩ = some (.int .i64 p.bed.eye) := X197.out.cell 0
  have q202 : W194.cell? ⟨w.heap.size, 1, none⟩ = some (.int .i64 p.bed.rings) := X197.out.cell 1
  have q203 : W194.cell? ⟨w.heap.size, 2, none⟩ = some (.int .i64 p.bed.sectors) := X197.out.cell 2
  have q204 : W194.cell? ⟨w.heap.size, 3, none⟩ = some (.slice (some ⟨b1, o1, none⟩) l1 cc1) := X197.out.cell 3
  have q205 : W194.cell? ⟨w.heap.size, 4, none⟩ = some (.int .i64 p.run.eye) := X197.out.cell 4
  have q206 : W194.cell? ⟨w.heap.size, 5, none⟩ = some (.int .i64 p.run.rings) := X197.out.cell 5
  have q207 : W194.cell? ⟨w.heap.size, 6, none⟩ = some (.int .i64 p.run.sectors) := X197.out.cell 6
  have q208 : W194.cell? ⟨w.heap.size, 7, none⟩ = some (.slice (some ⟨b2, o2, none⟩) l2 cc2) := X197.out.cell 7
  have q209 : W194.cell? ⟨w.heap.size, 8, none⟩ = some (.slice (some ⟨b3, o3, none⟩) 9 cc3) := X197.out.cell 8
  have q210 : W194.cell? ⟨w.heap.size + 1, 0, none⟩ = some (.int .i64 a) := X198.out.cell 0
  have q211 : W194.cell? ⟨w.heap.size + 1, 1, none⟩ = some (.int .i64 b) := X198.out.cell 1
  have q212 : W194.cell? ⟨w.heap.size + 1, 2, none⟩ = some (.int .i64 t) := X198.out.cell 2
  go_wp2_with fail
  have hdr239 : Below (W194).heap.size (W194) (W194).drew := (Below.refl _ _).drew
  have lt226 := X197.out.lt
  have lt227 := X197.out.lt
  have lt228 := X197.out.lt
  have lt229 := X197.out.lt
  have lt230 := X197.out.lt
  have lt231 := X197.out.lt
  have lt232 := X197.out.lt
  have lt233 := X197.out.lt
  have lt234 := X197.out.lt
  have lt235 := X198.out.lt
  have lt236 := X198.out.lt
  have lt237 := X198.out.lt
  have lt238 := (Nat.lt_of_lt_of_le Y2.out.2 B196.out.size)
  have hcall240 : ∀ X Y : World, (fun Wz => Wz.cell? ⟨w.heap.size, 0, none⟩ = some (.int .i64 p.bed.eye) ∧ Wz.cell? ⟨w.heap.size, 1, none⟩ = some (.int .i64 p.bed.rings) ∧ Wz.cell? ⟨w.heap.size, 2, none⟩ = some (.int .i64 p.bed.sectors) ∧ Wz.cell? ⟨w.heap.size, 3, none⟩ = some (.slice (some ⟨b1, o1, none⟩) l1 cc1) ∧ Wz.cell? ⟨w.heap.size, 4, none⟩ = some (.int .i64 p.run.eye) ∧ Wz.cell? ⟨w.heap.size, 5, none⟩ = some (.int .i64 p.run.rings) ∧ Wz.cell? ⟨w.heap.size, 6, none⟩ = some (.int .i64 p.run.sectors) ∧ Wz.cell? ⟨w.heap.size, 7, none⟩ = some (.slice (some ⟨b2, o2, none⟩) l2 cc2) ∧ Wz.cell? ⟨w.heap.size, 8, none⟩ = some (.slice (some ⟨b3, o3, none⟩) 9 cc3) ∧ Wz.cell? ⟨w.heap.size + 1, 0, none⟩ = some (.int .i64 a) ∧ Wz.cell? ⟨w.heap.size + 1, 1, none⟩ = some (.int .i64 b) ∧ Wz.cell? ⟨w.heap.size + 1, 2, none⟩ = some (.int .i64 t) ∧ Wz.cell? ⟨b2, o2 + j, none⟩ = some (.int .i64 y) ∧ (W194).heap.size ≤ Wz.heap.size) X → Below X.heap.size X Y → (fun Wz => Wz.cell? ⟨w.heap.size, 0, none⟩ = some (.int .i64 p.bed.eye) ∧ Wz.cell? ⟨w.heap.size, 1, none⟩ = some (.int .i64 p.bed.rings) ∧ Wz.cell? ⟨w.heap.size, 2, none⟩ = some (.int .i64 p.bed.sectors) ∧ Wz.cell? ⟨w.heap.size, 3, none⟩ = some (.slice (some ⟨b1, o1, none⟩) l1 cc1) ∧ Wz.cell? ⟨w.heap.size, 4, none⟩ = some (.int .i64 p.run.eye) ∧ Wz.cell? ⟨w.heap.size, 5, none⟩ = some (.int .i64 p.run.rings) ∧ Wz.cell? ⟨w.heap.size, 6, none⟩ = some (.int .i64 p.run.sectors) ∧ Wz.cell? ⟨w.heap.size, 7, none⟩ = some (.slice (some ⟨b2, o2, none⟩) l2 cc2) ∧ Wz.cell? ⟨w.heap.size, 8, none⟩ = some (.slice (some ⟨b3, o3, none⟩) 9 cc3) ∧ Wz.cell? ⟨w.heap.size + 1, 0, none⟩ = some (.int .i64 a) ∧ Wz.cell? ⟨w.heap.size + 1, 1, none⟩ = some (.int .i64 b) ∧ Wz.cell? ⟨w.heap.size + 1, 2, none⟩ = some (.int .i64 t) ∧ Wz.cell? ⟨b2, o2 + j, none⟩ = some (.int .i64 y) ∧ (W194).heap.size ≤ Wz.heap.size) Y := by
    rintro X Y ⟨z213, z214, z215, z216, z217, z218, z219, z220, z221, z222, z223, z224, z225, xs⟩ hb
    have hb2 := Below.mono (B' := (W194).heap.size) hb xs
    exact ⟨keepd z213 hb2 lt226, keepd z214 hb2 lt227, keepd z215 hb2 lt228, keepd z216 hb2 lt229, keepd z217 hb2 lt230, keepd z218 hb2 lt231, keepd z219 hb2 lt232, keepd z220 hb2 lt233, keepd z221 hb2 lt234, keepd z222 hb2 lt235, keepd z223 hb2 lt236, keepd z224 hb2 lt237, keepd z225 hb2 lt238, Nat.le_trans xs hb.size⟩
  have hini241 : (fun Wz => Wz.cell? ⟨w.heap.size, 0, none⟩ = some (.int .i64 p.bed.eye) ∧ Wz.cell? ⟨w.heap.size, 1, none⟩ = some (.int .i64 p.bed.rings) ∧ Wz.cell? ⟨w.heap.size, 2, none⟩ = some (.int .i64 p.bed.sectors) ∧ Wz.cell? ⟨w.heap.size, 3, none⟩ = some (.slice (some ⟨b1, o1, none⟩) l1 cc1) ∧ Wz.cell? ⟨w.heap.size, 4, none⟩ = some (.int .i64 p.run.eye) ∧ Wz.cell? ⟨w.heap.size, 5, none⟩ = some (.int .i64 p.run.rings) ∧ Wz.cell? ⟨w.heap.size, 6, none⟩ = some (.int .i64 p.run.sectors) ∧ Wz.cell? ⟨w.heap.size, 7, none⟩ = some (.slice (some ⟨b2, o2, none⟩) l2 cc2) ∧ Wz.cell? ⟨w.heap.size, 8, none⟩ = some (.slice (some ⟨b3, o3, none⟩) 9 cc3) ∧ Wz.cell? ⟨w.heap.size + 1, 0, none⟩ = some (.int .i64 a) ∧ Wz.cell? ⟨w.heap.size + 1, 1, none⟩ = some (.int .i64 b) ∧ Wz.cell? ⟨w.heap.size + 1, 2, none⟩ = some (.int .i64 t) ∧ Wz.cell? ⟨b2, o2 + j, none⟩ = some (.int .i64 y) ∧ (W194).heap.size ≤ Wz.heap.size) (W194).drew := ⟨keepd (X197.out.cell 0) hdr239 lt226, keepd (X197.out.cell 1) hdr239 lt227, keepd (X197.out.cell 2) hdr239 lt228, keepd (X197.out.cell 3) hdr239 lt229, keepd (X197.out.cell 4) hdr239 lt230, keepd (X197.out.cell 5) hdr239 lt231, keepd (X197.out.cell 6) hdr239 lt232, keepd (X197.out.cell 7) hdr239 lt233, keepd (X197.out.cell 8) hdr239 lt234, keepd (X198.out.cell 0) hdr239 lt235, keepd (X198.out.cell 1) hdr239 lt236, keepd (X198.out.cell 2) hdr239 lt237, keepd (keepd Y2.out.1 B196.out Y2.out.2) hdr239 lt238, Nat.le_refl _⟩
  have Hcall240 := Lib.hid hcall240
  have Hini241 := Lib.hid hini241
  clear hcall240 hini241 lt226 lt227 lt228 lt229 lt230 lt231 lt232 lt233 lt234 lt235 lt236 lt237 lt238
  clear q201 q202 q203 q204 q205 q206 q207 q208 q209 q210 q211 q212
  refine wp_region_noPanic ?_
  refine wp_region_held_drew (S := (fun Wz => Wz.cell? ⟨w.heap.size, 0, none⟩ = some (.int .i64 p.bed.eye) ∧ Wz.cell? ⟨w.heap.size, 1, none⟩ = some (.int .i64 p.bed.rings) ∧ Wz.cell? ⟨w.heap.size, 2, none⟩ = some (.int .i64 p.bed.sectors) ∧ Wz.cell? ⟨w.heap.size, 3, none⟩ = some (.slice (some ⟨b1, o1, none⟩) l1 cc1) ∧ Wz.cell? ⟨w.heap.size, 4, none⟩ = some (.int .i64 p.run.eye) ∧ Wz.cell? ⟨w.heap.size, 5, none⟩ = some (.int .i64 p.run.rings) ∧ Wz.cell? ⟨w.heap.size, 6, none⟩ = some (.int .i64 p.run.sectors) ∧ Wz.cell? ⟨w.heap.size, 7, none⟩ = some (.slice (some ⟨b2, o2, none⟩) l2 cc2) ∧ Wz.cell? ⟨w.heap.size, 8, none⟩ = some (.slice (some ⟨b3, o3, none⟩) 9 cc3) ∧ Wz.cell? ⟨w.heap.size + 1, 0, none⟩ = some (.int .i64 a) ∧ Wz.cell? ⟨w.heap.size + 1, 1, none⟩ = some (.int .i64 b) ∧ Wz.cell? ⟨w.heap.size + 1, 2, none⟩ = some (.int .i64 t) ∧ Wz.cell? ⟨b2, o2 + j, none⟩ = some (.int .i64 y) ∧ (W194).heap.size ≤ Wz.heap.size)) (by kernel_rfl) Hini241.out (fun hHeld => ?_)
  obtain ⟨W243, hW244⟩ : ∃ Wzz, (W194).drew = Wzz := ⟨_, rfl⟩
  rw [hW244] at hHeld hdr239 ⊢
  clear hW244
  have X245 := Lib.hid (X197.out.later hdr239)
  have X246 := Lib.hid (X198.out.later hdr239)
  have C247 := Lib.hid (C199.out.later hdr239)
  have B248 := Lib.hid (B196.out.trans (hdr239.mono B196.out.size))
  clear hdr239
  refine wpAnyH_take (i := 0) (oi := { dst := some 21, op := Op.fieldAddr 31 (Operand.tmp 2) 1, type := 0, pos := "ref.go:118", after := #[], guard := none }) (v := ?vh249) rfl ?hsh249 ?hfh249 ?hrh249 ?hQh249 ?hyh249 (by assumption) ?resth249
  case hsh249 => kernel_rfl
  case hfh249 => kernel_rfl
  case hrh249 => kernel_rfl
  case hQh249 => exact fun _ _ _ h => h
  case hyh249 => (refine Or.inl ⟨by rfl, ?_⟩; intro w hSw; (try dsimp only at hSw); go_simp; try with_reducible rfl)
  try simp only [Act.put, List.setIfInBounds_toArray, List.set_cons_zero, List.set_cons_succ]
  refine wpAnyH_take (i := 1) (oi := { dst := some 22, op := Op.fieldAddr 28 (Operand.tmp 21) 3, type := 0, pos := "ref.go:118", after := #[{ on := 0, ground := Ground.data }], guard := none }) (v := ?vh250) rfl ?hsh250 ?hfh250 ?hrh250 ?hQh250 ?hyh250 (by assumption) ?resth250
  case hsh250 => kernel_rfl
  case hfh250 => kernel_rfl
  case hrh250 => kernel_rfl
  case hQh250 => exact fun _ _ _ h => h
  case hyh250 => (refine Or.inl ⟨by rfl, ?_⟩; intro w hSw; (try dsimp only at hSw); go_simp; try with_reducible rfl)
  try simp only [Act.put, List.setIfInBounds_toArray, List.set_cons_zero, List.set_cons_succ]
  refine wpAnyH_take (i := 2) (oi := { dst := some 23, op := Op.load 26 (Operand.tmp 22), type := 26, pos := "ref.go:118", after := #[{ on := 1, ground := Ground.data }], guard := none }) (v := ?vh251) rfl ?hsh251 ?hfh251 ?hrh251 ?hQh251 ?hyh251 (by assumption) ?resth251
  case hsh251 => kernel_rfl
  case hfh251 => kernel_rfl
  case hrh251 => kernel_rfl
  case hQh251 => exact fun _ _ _ h => h
  case hyh251 => (refine Or.inl ⟨by rfl, ?_⟩; intro w hSw; (try dsimp only at hSw); go_simp; try with_reducible rfl)
  try simp only [Act.put, List.setIfInBounds_toArray, List.set_cons_zero, List.set_cons_succ]
  refine wpAnyH_take (i := 3) (oi := { dst := some 24, op := Op.fieldAddr 46 (Operand.tmp 3) 0, type := 0, pos := "ref.go:118", after := #[], guard := none }) (v := ?vh252) rfl ?hsh252 ?hfh252 ?hrh252 ?hQh252 ?hyh252 (by assumption) ?resth252
  case hsh252 => kernel_rfl
  case hfh252 => kernel_rfl
  case hrh252 => kernel_rfl
  case hQh252 => exact fun _ _ _ h => h
  case hyh252 => (refine Or.inl ⟨by rfl, ?_⟩; intro w hSw; (try dsimp only at hSw); go_simp; try with_reducible rfl)
  try simp only [Act.put, List.setIfInBounds_toArray, List.set_cons_zero, List.set_cons_succ]
  refine wpAnyH_take (i := 4) (oi := { dst := some 25, op := Op.load 3 (Operand.tmp 24), type := 3, pos := "ref.go:118", after := #[{ on := 3, ground := Ground.data }], guard := none }) (v := ?vh253) rfl ?hsh253 ?hfh253 ?hrh253 ?hQh253 ?hyh253 (by assumption) ?resth253
  case hsh253 => kernel_rfl
  case hfh253 => kernel_rfl
  case hrh253 => kernel_rfl
  case hQh253 => exact fun _ _ _ h => h
  case hyh253 => (refine Or.inl ⟨by rfl, ?_⟩; intro w hSw; (try dsimp only at hSw); go_simp; try with_reducible rfl)
  try simp only [Act.put, List.setIfInBounds_toArray, List.set_cons_zero, List.set_cons_succ]
  refine wpAnyH_take (i := 5) (oi := { dst := some 26, op := Op.fieldAddr 31 (Operand.tmp 2) 0, type := 0, pos := "ref.go:118", after := #[], guard := none }) (v := ?vh254) rfl ?hsh254 ?hfh254 ?hrh254 ?hQh254 ?hyh254 (by assumption) ?resth254
  case hsh254 => kernel_rfl
  case hfh254 => kernel_rfl
  case hrh254 => kernel_rfl
  case hQh254 => exact fun _ _ _ h => h
  case hyh254 => (refine Or.inl ⟨by rfl, ?_⟩; intro w hSw; (try dsimp only at hSw); go_simp; try with_reducible rfl)
  try simp only [Act.put, List.setIfInBounds_toArray, List.set_cons_zero, List.set_cons_succ]
  refine wpAnyH_take (i := 6) (oi := { dst := some 27, op := Op.fieldAddr 28 (Operand.tmp 26) 2, type := 0, pos := "ref.go:118", after := #[{ on := 5, ground := Ground.data }], guard := none }) (v := ?vh255) rfl ?hsh255 ?hfh255 ?hrh255 ?hQh255 ?hyh255 (by assumption) ?resth255
  case hsh255 => kernel_rfl
  case hfh255 => kernel_rfl
  case hrh255 => kernel_rfl
  case hQh255 => exact fun _ _ _ h => h
  case hyh255 => (refine Or.inl ⟨by rfl, ?_⟩; intro w hSw; (try dsimp only at hSw); go_simp; try with_reducible rfl)
  try simp only [Act.put, List.setIfInBounds_toArray, List.set_cons_zero, List.set_cons_succ]
  refine wpAnyH_take (i := 7) (oi := { dst := some 28, op := Op.load 3 (Operand.tmp 27), type := 3, pos := "ref.go:118", after := #[{ on := 6, ground := Ground.data }], guard := none }) (v := ?vh256) rfl ?hsh256 ?hfh256 ?hrh256 ?hQh256 ?hyh256 (by assumption) ?resth256
  case hsh256 => kernel_rfl
  case hfh256 => kernel_rfl
  case hrh256 => kernel_rfl
  case hQh256 => exact fun _ _ _ h => h
  case hyh256 => (refine Or.inl ⟨by rfl, ?_⟩; intro w hSw; (try dsimp only at hSw); go_simp; try with_reducible rfl)
  try simp only [Act.put, List.setIfInBounds_toArray, List.set_cons_zero, List.set_cons_succ]
  refine wpAnyH_take (i := 8) (oi := { dst := some 29, op := Op.binOp BinOp.mul 3 (Operand.tmp 25) (Operand.tmp 28) 3, type := 3, pos := "ref.go:118", after := #[{ on := 4, ground := Ground.data }, { on := 7, ground := Ground.data }], guard := none }) (v := ?vh257) rfl ?hsh257 ?hfh257 ?hrh257 ?hQh257 ?hyh257 (by assumption) ?resth257
  case hsh257 => kernel_rfl
  case hfh257 => kernel_rfl
  case hrh257 => kernel_rfl
  case hQh257 => exact fun _ _ _ h => h
  case hyh257 => (refine Or.inl ⟨by rfl, ?_⟩; intro w hSw; (try dsimp only at hSw); go_simp; try with_reducible rfl)
  try simp only [Act.put, List.setIfInBounds_toArray, List.set_cons_zero, List.set_cons_succ]
  refine wpAnyH_take (i := 9) (oi := { dst := some 30, op := Op.load 31 (Operand.tmp 2), type := 31, pos := "ref.go:118", after := #[], guard := none }) (v := ?vh258) rfl ?hsh258 ?hfh258 ?hrh258 ?hQh258 ?hyh258 (by assumption) ?resth258
  case hsh258 => kernel_rfl
  case hfh258 => kernel_rfl
  case hrh258 => kernel_rfl
  case hQh258 => exact fun _ _ _ h => h
  case hyh258 => (refine Or.inl ⟨by rfl, ?_⟩; intro w hSw; (try dsimp only at hSw); go_simp; try with_reducible rfl)
  try simp only [Act.put, List.setIfInBounds_toArray, List.set_cons_zero, List.set_cons_succ]
  refine wpAnyH_take (i := 10) (oi := { dst := some 31, op := Op.fieldAddr 46 (Operand.tmp 3) 1, type := 0, pos := "ref.go:118", after := #[], guard := none }) (v := ?vh259) rfl ?hsh259 ?hfh259 ?hrh259 ?hQh259 ?hyh259 (by assumption) ?resth259
  case hsh259 => kernel_rfl
  case hfh259 => kernel_rfl
  case hrh259 => kernel_rfl
  case hQh259 => exact fun _ _ _ h => h
  case hyh259 => (refine Or.inl ⟨by rfl, ?_⟩; intro w hSw; (try dsimp only at hSw); go_simp; try with_reducible rfl)
  try simp only [Act.put, List.setIfInBounds_toArray, List.set_cons_zero, List.set_cons_succ]
  refine wpAnyH_take (i := 11) (oi := { dst := some 32, op := Op.load 3 (Operand.tmp 31), type := 3, pos := "ref.go:118", after := #[{ on := 10, ground := Ground.data }], guard := none }) (v := ?vh260) rfl ?hsh260 ?hfh260 ?hrh260 ?hQh260 ?hyh260 (by assumption) ?resth260
  case hsh260 => kernel_rfl
  case hfh260 => kernel_rfl
  case hrh260 => kernel_rfl
  case hQh260 => exact fun _ _ _ h => h
  case hyh260 => (refine Or.inl ⟨by rfl, ?_⟩; intro w hSw; (try dsimp only at hSw); go_simp; try with_reducible rfl)
  try simp only [Act.put, List.setIfInBounds_toArray, List.set_cons_zero, List.set_cons_succ]
  refine wpAnyH_take (i := 12) (oi := { dst := some 33, op := Op.fieldAddr 46 (Operand.tmp 3) 2, type := 0, pos := "ref.go:118", after := #[], guard := none }) (v := ?vh261) rfl ?hsh261 ?hfh261 ?hrh261 ?hQh261 ?hyh261 (by assumption) ?resth261
  case hsh261 => kernel_rfl
  case hfh261 => kernel_rfl
  case hrh261 => kernel_rfl
  case hQh261 => exact fun _ _ _ h => h
  case hyh261 => (refine Or.inl ⟨by rfl, ?_⟩; intro w hSw; (try dsimp only at hSw); go_simp; try with_reducible rfl)
  try simp only [Act.put, List.setIfInBounds_toArray, List.set_cons_zero, List.set_cons_succ]
  refine wpAnyH_take (i := 13) (oi := { dst := some 34, op := Op.load 3 (Operand.tmp 33), type := 3, pos := "ref.go:118", after := #[{ on := 12, ground := Ground.data }], guard := none }) (v := ?vh262) rfl ?hsh262 ?hfh262 ?hrh262 ?hQh262 ?hyh262 (by assumption) ?resth262
  case hsh262 => kernel_rfl
  case hfh262 => kernel_rfl
  case hrh262 => kernel_rfl
  case hQh262 => exact fun _ _ _ h => h
  case hyh262 => (refine Or.inl ⟨by rfl, ?_⟩; intro w hSw; (try dsimp only at hSw); go_simp; try with_reducible rfl)
  try simp only [Act.put, List.setIfInBounds_toArray, List.set_cons_zero, List.set_cons_succ]
  refine wpAnyH_take (i := 14) (oi := { dst := some 35, op := Op.binOp BinOp.sub 3 (Operand.tmp 32) (Operand.tmp 34) 3, type := 3, pos := "ref.go:118", after := #[{ on := 11, ground := Ground.data }, { on := 13, ground := Ground.data }], guard := none }) (v := ?vh263) rfl ?hsh263 ?hfh263 ?hrh263 ?hQh263 ?hyh263 (by assumption) ?resth263
  case hsh263 => kernel_rfl
  case hfh263 => kernel_rfl
  case hrh263 => kernel_rfl
  case hQh263 => exact fun _ _ _ h => h
  case hyh263 => (refine Or.inl ⟨by rfl, ?_⟩; intro w hSw; (try dsimp only at hSw); go_simp; try with_reducible rfl)
  try simp only [Act.put, List.setIfInBounds_toArray, List.set_cons_zero, List.set_cons_succ]
  refine wpAnyH_ready (rs := [15]) (by kernel_rfl) (by simp) ?_
  refine AllReadyH.cons (o := _) (by rfl) (fun K hK => ?_) AllReadyH.nil
  go_simp
  go_at_call 77
  refine (rround_c p (b - t) _ _ C247.out HSB.out HD.out).mono ?_; rintro e v264 ⟨rfl, hb265⟩
  have X266 := Lib.hid (X245.out.later hb265)
  have X267 := Lib.hid (X246.out.later hb265)
  have C268 := Lib.hid (C247.out.later hb265)
  have B269 := Lib.hid (B248.out.trans (hb265.mono B248.out.size))
  clear X245 X246 C247 B248
  rw [HRR.out]
  go_wp2_with fail
  refine hK.out _ _ (Hcall240.out _ _ hHeld (by assumption)) (fun hHeld270 => ?_)
  clear hK K hHeld
  clear hb265
  have hHeld := hHeld270
  clear hHeld270
  try simp only [Act.put, List.setIfInBounds_toArray, List.set_cons_zero, List.set_cons_succ]
  refine wpAnyH_take (i := 16) (oi := { dst := some 37, op := Op.binOp BinOp.add 3 (Operand.tmp 29) (Operand.tmp 36) 3, type := 3, pos := "ref.go:118", after := #[{ on := 8, ground := Ground.data }, { on := 15, ground := Ground.data }], guard := none }) (v := ?vh271) rfl ?hsh271 ?hfh271 ?hrh271 ?hQh271 ?hyh271 (by assumption) ?resth271
  case hsh271 => kernel_rfl
  case hfh271 => kernel_rfl
  case hrh271 => kernel_rfl
  case hQh271 => exact fun _ _ _ h => h
  case hyh271 => (refine Or.inl ⟨by rfl, ?_⟩; intro w hSw; (try dsimp only at hSw); go_simp; try with_reducible rfl)
  try simp only [Act.put, List.setIfInBounds_toArray, List.set_cons_zero, List.set_cons_succ]
  refine wpAnyH_take (i := 17) (oi := { dst := some 38, op := Op.indexAddr 26 (Operand.tmp 23) (Operand.tmp 37), type := 0, pos := "ref.go:118", after := #[{ on := 2, ground := Ground.data }, { on := 16, ground := Ground.data }], guard := none }) (v := ?vh272) rfl ?hsh272 ?hfh272 ?hrh272 ?hQh272 ?hyh272 (by assumption) ?resth272
  case hsh272 => kernel_rfl
  case hfh272 => kernel_rfl
  case hrh272 => kernel_rfl
  case hQh272 => exact fun _ _ _ h => h
  case hyh272 => (refine Or.inl ⟨by rfl, ?_⟩; intro w hSw; (try dsimp only at hSw); go_simp; try with_reducible rfl)
  try simp only [Act.put, List.setIfInBounds_toArray, List.set_cons_zero, List.set_cons_succ]
  refine wpAnyH_take (i := 18) (oi := { dst := some 39, op := Op.load 3 (Operand.tmp 38), type := 3, pos := "ref.go:118", after := #[{ on := 17, ground := Ground.data }], guard := none }) (v := ?vh273) rfl ?hsh273 ?hfh273 ?hrh273 ?hQh273 ?hyh273 (by assumption) ?resth273
  case hsh273 => kernel_rfl
  case hfh273 => kernel_rfl
  case hrh273 => kernel_rfl
  case hQh273 => exact fun _ _ _ h => h
  case hyh273 => (refine Or.inl ⟨by rfl, ?_⟩; intro w hSw; (try dsimp only at hSw); go_simp; try with_reducible rfl)
  try simp only [Act.put, List.setIfInBounds_toArray, List.set_cons_zero, List.set_cons_succ]
  refine wpAnyH_take (i := 19) (oi := { dst := some 6, op := Op.assign (Operand.tmp 39), type := 3, pos := "ref.go:118", after := #[{ on := 18, ground := Ground.data }, { on := 15, ground := Ground.chain }, { on := 0, ground := Ground.phase }, { on := 1, ground := Ground.phase }, { on := 2, ground := Ground.phase }, { on := 3, ground := Ground.phase }, { on := 4, ground := Ground.phase }, { on := 5, ground := Ground.phase }, { on := 6, ground := Ground.phase }, { on := 7, ground := Ground.phase }, { on := 8, ground := Ground.phase }, { on := 9, ground := Ground.phase }, { on := 10, ground := Ground.phase }, { on := 11, ground := Ground.phase }, { on := 12, ground := Ground.phase }, { on := 13, ground := Ground.phase }, { on := 14, ground := Ground.phase }, { on := 15, ground := Ground.phase }, { on := 16, ground := Ground.phase }, { on := 17, ground := Ground.phase }, { on := 18, ground := Ground.phase }], guard := none }) (v := ?vh274) rfl ?hsh274 ?hfh274 ?hrh274 ?hQh274 ?hyh274 (by assumption) ?resth274
  case hsh274 => kernel_rfl
  case hfh274 => kernel_rfl
  case hrh274 => kernel_rfl
  case hQh274 => exact fun _ _ _ h => h
  case hyh274 => (refine Or.inl ⟨by rfl, ?_⟩; intro w hSw; (try dsimp only at hSw); go_simp; try with_reducible rfl)
  try simp only [Act.put, List.setIfInBounds_toArray, List.set_cons_zero, List.set_cons_succ]
  refine wpAnyH_done (by kernel_rfl) ?_ _
  refine NoPanic.normal ?_
  clear hHeld Hcall240 Hini241
  have q275 : v264.cell? ⟨w.heap.size, 0, none⟩ = some (.int .i64 p.bed.eye) := X266.out.cell 0
  have q276 : v264.cell? ⟨w.heap.size, 1, none⟩ = some (.int .i64 p.bed.rings) := X266.out.cell 1
  have q277 : v264.cell? ⟨w.heap.size, 2, none⟩ = some (.int .i64 p.bed.sectors) := X266.out.cell 2
  have q278 : v264.cell? ⟨w.heap.size, 3, none⟩ = some (.slice (some ⟨b1, o1, none⟩) l1 cc1) := X266.out.cell 3
  have q279 : v264.cell? ⟨w.heap.size, 4, none⟩ = some (.int .i64 p.run.eye) := X266.out.cell 4
  have q280 : v264.cell? ⟨w.heap.size, 5, none⟩ = some (.int .i64 p.run.rings) := X266.out.cell 5
  have q281 : v264.cell? ⟨w.heap.size, 6, none⟩ = some (.int .i64 p.run.sectors) := X266.out.cell 6
  have q282 : v264.cell? ⟨w.heap.size, 7, none⟩ = some (.slice (some ⟨b2, o2, none⟩) l2 cc2) := X266.out.cell 7
  have q283 : v264.cell? ⟨w.heap.size, 8, none⟩ = some (.slice (some ⟨b3, o3, none⟩) 9 cc3) := X266.out.cell 8
  have q284 : v264.cell? ⟨w.heap.size + 1, 0, none⟩ = some (.int .i64 a) := X267.out.cell 0
  have q285 : v264.cell? ⟨w.heap.size + 1, 1, none⟩ = some (.int .i64 b) := X267.out.cell 1
  have q286 : v264.cell? ⟨w.heap.size + 1, 2, none⟩ = some (.int .i64 t) := X267.out.cell 2
  have r9 := keepd Y3.out.1 B269.out Y3.out.2
  go_wp2_with fail
  go_ret
  exact ⟨⟨sd, rfl, by rw [HV.out]; exact HMV.out.mono B269.out B269.out.size⟩, B269.out⟩


theorem eqM_comm (a b : Mv) : eqM a b = eqM b a := by
  cases h : eqM b a
  · cases h2 : eqM a b
    · rfl
    · rw [eqM_iff.1 h2] at h; rw [eqM_iff.2 rfl] at h; cases h
  · rw [eqM_iff.1 h]; exact eqM_iff.2 rfl
set_option maxRecDepth 100000 in
set_option maxHeartbeats 8000000 in
theorem rhas_c (l : List Mv) (p q : Int) (r : Bool) (v : Value) (w : World) (h : Moves w w.heap.size v l) (h3 : l.length ≤ 3) : Calls Tryz.prog 53 #[v, .agg #[.int .i64 p, .int .i64 q, .bool r]] w fun e w' => e = .returned (.bool (hasM l ⟨p, q, r⟩)) ∧ Below w.heap.size w w' := by
  obtain ⟨n, hn⟩ : ∃ n, l.length = n := ⟨_, rfl⟩
  have HN := Lib.hid hn
  have HM := Lib.hid h
  obtain ⟨hlen, A, c, rfl, hcap, -⟩ := h
  rw [hn] at HM hlen h3 ⊢
  clear hcap hn
  go_enter Tryz.func53, Tryz.ntmps53
  go_wp2_with fail
  obtain ⟨W287, hW288⟩ : ∃ Wzz, (w.alloc (.cells #[.int .i64 p, .int .i64 q, .bool r] 50)) = Wzz := ⟨_, rfl⟩
  have B289 := Lib.hid (show Below w.heap.size w W287 by rw [← hW288]; exact ((Below.refl w.heap.size w).alloc (Nat.le_refl _) _))
  have X290 := Lib.hid (show Box W287 (w.heap.size) 50 #[.int .i64 p, .int .i64 q, .bool r] by rw [← hW288]; exact Box.made w 50 #[.int .i64 p, .int .i64 q, .bool r])
  have SZ291 := Lib.hid (show W287.heap.size = w.heap.size + 1 by rw [← hW288]; simp)
  rw [hW288]
  clear hW288
  have q292 : W287.cell? ⟨w.heap.size, 0, none⟩ = some (.int .i64 p) := X290.out.cell 0
  have q293 : W287.cell? ⟨w.heap.size, 1, none⟩ = some (.int .i64 q) := X290.out.cell 1
  have q294 : W287.cell? ⟨w.heap.size, 2, none⟩ = some (.bool r) := X290.out.cell 2
  go_loopw [5] (fun i wr => ∃ k : Nat, k ≤ n ∧ i = .int .i64 (k : Int) ∧ hasM (l.take k) ⟨p, q, r⟩ = false ∧ Box wr w.heap.size 50 #[.int .i64 p, .int .i64 q, .bool r] ∧ Below w.heap.size w wr) (fun i _ => n - (intOf i).toNat)
  case atStart => exact ⟨0, Nat.zero_le _, rfl, rfl, X290.out, B289.out⟩
  case round =>
    obtain ⟨k, hk, rfl, hno, hbx, hbr⟩ := hrel
    have HNO := Lib.hid hno
    have HBX := Lib.hid hbx
    have HBR := Lib.hid hbr
    have q0 : wr.cell? ⟨w.heap.size, 0, none⟩ = some (.int .i64 p) := hbx.cell 0
    have q1 : wr.cell? ⟨w.heap.size, 1, none⟩ = some (.int .i64 q) := hbx.cell 1
    have q2 : wr.cell? ⟨w.heap.size, 2, none⟩ = some (.bool r) := hbx.cell 2
    clear hno hbx hbr
    by_cases hlt : k < n
    · have hdk : decide ((k : Int) < (n : Int)) = true := by simpa using hlt
      have i0 : (0 : Int) ≤ (k : Int) := Int.natCast_nonneg _
      have i1 : (k : Int) < (n : Int) := by omega
      obtain ⟨b, off, c', hv, hbB, x1, x2, x3⟩ := HM.out.at (k := k) (by rw [HN.out]; exact hlt)
      rw [HN.out] at hv
      cases hv
      have y1 := keepd x1 HBR.out hbB
      have y2 := keepd x2 HBR.out hbB
      have y3 := keepd x3 HBR.out hbB
      obtain ⟨⟨x, y, z⟩, hm⟩ : ∃ m, nthM l k = m := ⟨_, rfl⟩
      have HK := Lib.hid hm
      have HLT := Lib.hid hlt
      rw [hm] at y1 y2 y3
      dsimp only at y1 y2 y3
      clear x1 x2 x3 hbB hm hlt
      have hE : ∀ w : World, (binOp .eql 50 (.agg #[.int .i64 x, .int .i64 y, .bool z]) (.agg #[.int .i64 p, .int .i64 q, .bool r])).run Tryz.prog w = .ok (.bool (eqM ⟨p, q, r⟩ ⟨x, y, z⟩)) w := fun w => by rw [eqM_comm]; exact eqMove x y z p q r w
      cases he : eqM ⟨p, q, r⟩ ⟨x, y, z⟩
      · have HS := Lib.hid (show hasM (l.take (k + 1)) ⟨p, q, r⟩ = false by rw [hasM_snoc (by rw [HN.out]; exact HLT.out), HNO.out, HK.out, he]; rfl)
        rw [he] at hE
        clear he
        go_wp2_with fail
        go_quiet (fail)
        go_wp2_with fail
        go_roundw
        case rel => exact ⟨k + 1, by have := HLT.out; omega, by go_num, HS.out, HBX.out.later (below_drewN _ _), HBR.out.trans (below_drewN _ _)⟩
        case measure => have := HLT.out; simp [intOf]; omega
      · have HS := Lib.hid (show hasM l ⟨p, q, r⟩ = true from hasM_at (k := k) (by rw [HN.out]; exact HLT.out) (by rw [HK.out]; exact he))
        rw [he] at hE
        clear he
        go_wp2_with fail
        go_quiet (fail)
        go_wp2_with fail
        go_ret
        exact ⟨ret_bool HS.out.symm, HBR.out.trans (below_drewN _ _)⟩
    · obtain rfl : k = n := by omega
      have hdk : decide ((k : Int) < (k : Int)) = false := by simp
      clear hlt
      go_wp2_with fail
      go_ret
      exact ⟨ret_bool (by have h := HNO.out; rw [← HN.out, List.take_length] at h; rw [h]), HBR.out⟩

set_option maxRecDepth 100000 in
set_option maxHeartbeats 8000000 in
theorem rnext_out (p : Pr) (a b t mo ms : Int) (mc : Bool) (v : Value) (w : World) (h : IsPair w w.heap.size v p) (h0 : ckE p = 0) (hs : hasB p ⟨a, b, t⟩ = true) (hm : mvB ⟨mo, ms, mc⟩ = true) (ho : a + mo = p.bed.rings) : Calls Tryz.prog 78 #[v, .agg #[.int .i64 a, .int .i64 b, .int .i64 t], .agg #[.int .i64 mo, .int .i64 ms, .bool mc]] w fun e w' => e = .returned (.tuple #[stV st0, .bool true]) ∧ Below w.heap.size w w' := by
  obtain ⟨s, r, d, rfl, i1, i2, i3⟩ := _root_.id h
  obtain ⟨hR, hS, -⟩ := ckE_bd h0
  obtain ⟨c1, c2, c3⟩ := hasB_parts.1 hs
  obtain ⟨c4, c5⟩ := mvB_parts.1 hm
  dsimp only at c1 c2 c3
  have HP0 := Lib.hid h
  have HSB := Lib.hid hS
  unfold pairV at *
  have x1 : IntKind.i64.wrap (a + mo) = a + mo := wrap_id (by omega) (by omega)
  clear i1 i2 i3
  have HO := Lib.hid ho
  clear x1
  have x1 : IntKind.i64.wrap (a + mo) = p.bed.rings := by rw [ho]; exact wrap_id (by omega) (by omega)
  have e1 : (p.bed.rings == p.bed.rings) = true := by simp
  clear h h0 hs hm hR hS c1 c2 c3 c4 c5 ho
  go_enter Tryz.func78, Tryz.ntmps78
  go_wp2_with fail
  obtain ⟨W295, hW296⟩ : ∃ Wzz, ((((w.alloc (.cells #[.int .i64 p.bed.eye, .int .i64 p.bed.rings, .int .i64 p.bed.sectors, s, .int .i64 p.run.eye, .int .i64 p.run.rings, .int .i64 p.run.sectors, r, d] 31)).alloc (.cells #[.int .i64 a, .int .i64 b, .int .i64 t] 46)).alloc (.cells #[.int .i64 mo, .int .i64 ms, .bool mc] 50)).alloc (.cells #[.int .i64 0, .int .i64 0, .int .i64 0] 46)) = Wzz := ⟨_, rfl⟩
  have B297 := Lib.hid (show Below w.heap.size w W295 by rw [← hW296]; exact (((((Below.refl w.heap.size w).alloc (Nat.le_refl _) _).alloc (by first | (simp; done) | (simp; omega)) _).alloc (by first | (simp; done) | (simp; omega)) _).alloc (by first | (simp; done) | (simp; omega)) _))
  have X298 := Lib.hid (show Box W295 (w.heap.size) 31 #[.int .i64 p.bed.eye, .int .i64 p.bed.rings, .int .i64 p.bed.sectors, s, .int .i64 p.run.eye, .int .i64 p.run.rings, .int .i64 p.run.sectors, r, d] by rw [← hW296]; exact Box.alloc (Box.alloc (Box.alloc (Box.made w 31 #[.int .i64 p.bed.eye, .int .i64 p.bed.rings, .int .i64 p.bed.sectors, s, .int .i64 p.run.eye, .int .i64 p.run.rings, .int .i64 p.run.sectors, r, d]) (.cells #[.int .i64 a, .int .i64 b, .int .i64 t] 46)) (.cells #[.int .i64 mo, .int .i64 ms, .bool mc] 50)) (.cells #[.int .i64 0, .int .i64 0, .int .i64 0] 46))
  have X299 := Lib.hid (show Box W295 (w.heap.size + 1) 46 #[.int .i64 a, .int .i64 b, .int .i64 t] by
    have hz := Box.alloc (Box.alloc (Box.made (w.alloc (.cells #[.int .i64 p.bed.eye, .int .i64 p.bed.rings, .int .i64 p.bed.sectors, s, .int .i64 p.run.eye, .int .i64 p.run.rings, .int .i64 p.run.sectors, r, d] 31)) 46 #[.int .i64 a, .int .i64 b, .int .i64 t]) (.cells #[.int .i64 mo, .int .i64 ms, .bool mc] 50)) (.cells #[.int .i64 0, .int .i64 0, .int .i64 0] 46)
    rw [World.size_alloc] at hz
    rw [← hW296]; exact hz)
  have X300 := Lib.hid (show Box W295 (w.heap.size + 1 + 1) 50 #[.int .i64 mo, .int .i64 ms, .bool mc] by
    have hz := Box.alloc (Box.made ((w.alloc (.cells #[.int .i64 p.bed.eye, .int .i64 p.bed.rings, .int .i64 p.bed.sectors, s, .int .i64 p.run.eye, .int .i64 p.run.rings, .int .i64 p.run.sectors, r, d] 31)).alloc (.cells #[.int .i64 a, .int .i64 b, .int .i64 t] 46)) 50 #[.int .i64 mo, .int .i64 ms, .bool mc]) (.cells #[.int .i64 0, .int .i64 0, .int .i64 0] 46)
    rw [World.size_alloc, World.size_alloc] at hz
    rw [← hW296]; exact hz)
  have X301 := Lib.hid (show Box W295 (w.heap.size + 1 + 1 + 1) 46 #[.int .i64 0, .int .i64 0, .int .i64 0] by
    have hz := Box.made (((w.alloc (.cells #[.int .i64 p.bed.eye, .int .i64 p.bed.rings, .int .i64 p.bed.sectors, s, .int .i64 p.run.eye, .int .i64 p.run.rings, .int .i64 p.run.sectors, r, d] 31)).alloc (.cells #[.int .i64 a, .int .i64 b, .int .i64 t] 46)).alloc (.cells #[.int .i64 mo, .int .i64 ms, .bool mc] 50)) 46 #[.int .i64 0, .int .i64 0, .int .i64 0]
    rw [World.size_alloc, World.size_alloc, World.size_alloc] at hz
    rw [← hW296]; exact hz)
  have C302 := Lib.hid (HP0.out.later B297.out)
  have SZ303 := Lib.hid (show W295.heap.size = w.heap.size + 1 + 1 + 1 + 1 by rw [← hW296]; simp)
  rw [hW296]
  clear hW296
  have q304 : W295.cell? ⟨w.heap.size, 0, none⟩ = some (.int .i64 p.bed.eye) := X298.out.cell 0
  have q305 : W295.cell? ⟨w.heap.size, 1, none⟩ = some (.int .i64 p.bed.rings) := X298.out.cell 1
  have q306 : W295.cell? ⟨w.heap.size, 2, none⟩ = some (.int .i64 p.bed.sectors) := X298.out.cell 2
  have q307 : W295.cell? ⟨w.heap.size, 3, none⟩ = some (s) := X298.out.cell 3
  have q308 : W295.cell? ⟨w.heap.size, 4, none⟩ = some (.int .i64 p.run.eye) := X298.out.cell 4
  have q309 : W295.cell? ⟨w.heap.size, 5, none⟩ = some (.int .i64 p.run.rings) := X298.out.cell 5
  have q310 : W295.cell? ⟨w.heap.size, 6, none⟩ = some (.int .i64 p.run.sectors) := X298.out.cell 6
  have q311 : W295.cell? ⟨w.heap.size, 7, none⟩ = some (r) := X298.out.cell 7
  have q312 : W295.cell? ⟨w.heap.size, 8, none⟩ = some (d) := X298.out.cell 8
  have q313 : W295.cell? ⟨w.heap.size + 1, 0, none⟩ = some (.int .i64 a) := X299.out.cell 0
  have q314 : W295.cell? ⟨w.heap.size + 1, 1, none⟩ = some (.int .i64 b) := X299.out.cell 1
  have q315 : W295.cell? ⟨w.heap.size + 1, 2, none⟩ = some (.int .i64 t) := X299.out.cell 2
  have q316 : W295.cell? ⟨w.heap.size + 1 + 1, 0, none⟩ = some (.int .i64 mo) := X300.out.cell 0
  have q317 : W295.cell? ⟨w.heap.size + 1 + 1, 1, none⟩ = some (.int .i64 ms) := X300.out.cell 1
  have q318 : W295.cell? ⟨w.heap.size + 1 + 1, 2, none⟩ = some (.bool mc) := X300.out.cell 2
  have q319 : W295.cell? ⟨w.heap.size + 1 + 1 + 1, 0, none⟩ = some (.int .i64 0) := X301.out.cell 0
  have q320 : W295.cell? ⟨w.heap.size + 1 + 1 + 1, 1, none⟩ = some (.int .i64 0) := X301.out.cell 1
  have q321 : W295.cell? ⟨w.heap.size + 1 + 1 + 1, 2, none⟩ = some (.int .i64 0) := X301.out.cell 2
  have fz322 : ∀ o, W295.frozen? ⟨w.heap.size + 1 + 1 + 1, o, none⟩ = false := fun o => X301.out.free o
  try go_wp2_with fail
  (try simp only [Exit.inBlock, Exit.then])
  refine endS2 (t := 6) (u := 7) (x := .bool true) (v := .tuple #[stV st0, .bool true]) ?_ ?_ ?_ X301.out B297.out ?_ <;> rfl

set_option maxRecDepth 100000 in
set_option maxHeartbeats 8000000 in
theorem rnext_in (p : Pr) (a b t mo ms : Int) (mc : Bool) (v : Value) (w : World) (h : IsPair w w.heap.size v p) (h0 : ckE p = 0) (hs : hasB p ⟨a, b, t⟩ = true) (hm : mvB ⟨mo, ms, mc⟩ = true) (ho : a + mo ≠ p.bed.rings) : Calls Tryz.prog 78 #[v, .agg #[.int .i64 a, .int .i64 b, .int .i64 t], .agg #[.int .i64 mo, .int .i64 ms, .bool mc]] w fun e w' => e = .returned (.tuple #[stV (nextS p ⟨a, b, t⟩ ⟨mo, ms, mc⟩), .bool false]) ∧ Below w.heap.size w w' := by
  obtain ⟨s, r, d, rfl, i1, i2, i3⟩ := _root_.id h
  obtain ⟨hR, hS, -⟩ := ckE_bd h0
  obtain ⟨c1, c2, c3⟩ := hasB_parts.1 hs
  obtain ⟨c4, c5⟩ := mvB_parts.1 hm
  dsimp only at c1 c2 c3
  have HP0 := Lib.hid h
  have HSB := Lib.hid hS
  unfold pairV at *
  have x1 : IntKind.i64.wrap (a + mo) = a + mo := wrap_id (by omega) (by omega)
  clear i1 i2 i3
  have HD := Lib.hid (show (-p.bed.sectors ≤ b + ms ∧ b + ms ≤ 200) ∧ -p.bed.sectors ≤ t + 1 ∧ t + 1 ≤ 200 by omega)
  have y2 : IntKind.i64.wrap (b + ms) = b + ms := wrap_id (by omega) (by omega)
  have y3 : IntKind.i64.wrap (t + 1) = t + 1 := wrap_id (by omega) (by omega)
  have HN0 : nextS p ⟨a, b, t⟩ ⟨mo, ms, mc⟩ = ⟨max 0 (a + mo), arnd (b + ms) p.bed.sectors, arnd (t + 1) p.bed.sectors⟩ := by
    unfold nextS outB
    dsimp only
    rw [if_neg (by simpa using ho)]
  have e1 : ((a + mo) == p.bed.rings) = false := by simpa using ho
  clear h h0 hs hm hR hS c1 c2 c3 c4 c5 ho
  obtain ⟨n1, hn1⟩ : ∃ n, a + mo = n := ⟨_, rfl⟩
  obtain ⟨x2, hx2⟩ : ∃ n, b + ms = n := ⟨_, rfl⟩
  obtain ⟨x3, hx3⟩ : ∃ n, t + 1 = n := ⟨_, rfl⟩
  rw [hx2, hx3] at HD
  have v1 : IntKind.i64.wrap (a + mo) = n1 := by rw [x1, hn1]
  have v2 : IntKind.i64.wrap (b + ms) = x2 := by rw [y2, hx2]
  have v3 : IntKind.i64.wrap (t + 1) = x3 := by rw [y3, hx3]
  rw [hn1] at HN0 e1
  rw [hx2, hx3] at HN0
  obtain ⟨r2, hr2⟩ : ∃ n, arnd x2 p.bed.sectors = n := ⟨_, rfl⟩
  obtain ⟨r3, hr3⟩ : ∃ n, arnd x3 p.bed.sectors = n := ⟨_, rfl⟩
  rw [hr2, hr3] at HN0
  have HR2 := Lib.hid hr2
  have HR3 := Lib.hid hr3
  have HN := Lib.hid HN0
  have e2 : decide (n1 = p.bed.rings) = false := by simpa using e1
  clear x1 y2 y3 hn1 hx2 hx3 hr2 hr3 HN0
  go_enter Tryz.func78, Tryz.ntmps78
  go_wp2_with fail
  obtain ⟨W323, hW324⟩ : ∃ Wzz, ((((w.alloc (.cells #[.int .i64 p.bed.eye, .int .i64 p.bed.rings, .int .i64 p.bed.sectors, s, .int .i64 p.run.eye, .int .i64 p.run.rings, .int .i64 p.run.sectors, r, d] 31)).alloc (.cells #[.int .i64 a, .int .i64 b, .int .i64 t] 46)).alloc (.cells #[.int .i64 mo, .int .i64 ms, .bool mc] 50)).alloc (.cells #[.int .i64 0, .int .i64 0, .int .i64 0] 46)) = Wzz := ⟨_, rfl⟩
  have B325 := Lib.hid (show Below w.heap.size w W323 by rw [← hW324]; exact (((((Below.refl w.heap.size w).alloc (Nat.le_refl _) _).alloc (by first | (simp; done) | (simp; omega)) _).alloc (by first | (simp; done) | (simp; omega)) _).alloc (by first | (simp; done) | (simp; omega)) _))
  have X326 := Lib.hid (show Box W323 (w.heap.size) 31 #[.int .i64 p.bed.eye, .int .i64 p.bed.rings, .int .i64 p.bed.sectors, s, .int .i64 p.run.eye, .int .i64 p.run.rings, .int .i64 p.run.sectors, r, d] by rw [← hW324]; exact Box.alloc (Box.alloc (Box.alloc (Box.made w 31 #[.int .i64 p.bed.eye, .int .i64 p.bed.rings, .int .i64 p.bed.sectors, s, .int .i64 p.run.eye, .int .i64 p.run.rings, .int .i64 p.run.sectors, r, d]) (.cells #[.int .i64 a, .int .i64 b, .int .i64 t] 46)) (.cells #[.int .i64 mo, .int .i64 ms, .bool mc] 50)) (.cells #[.int .i64 0, .int .i64 0, .int .i64 0] 46))
  have X327 := Lib.hid (show Box W323 (w.heap.size + 1) 46 #[.int .i64 a, .int .i64 b, .int .i64 t] by
    have hz := Box.alloc (Box.alloc (Box.made (w.alloc (.cells #[.int .i64 p.bed.eye, .int .i64 p.bed.rings, .int .i64 p.bed.sectors, s, .int .i64 p.run.eye, .int .i64 p.run.rings, .int .i64 p.run.sectors, r, d] 31)) 46 #[.int .i64 a, .int .i64 b, .int .i64 t]) (.cells #[.int .i64 mo, .int .i64 ms, .bool mc] 50)) (.cells #[.int .i64 0, .int .i64 0, .int .i64 0] 46)
    rw [World.size_alloc] at hz
    rw [← hW324]; exact hz)
  have X328 := Lib.hid (show Box W323 (w.heap.size + 1 + 1) 50 #[.int .i64 mo, .int .i64 ms, .bool mc] by
    have hz := Box.alloc (Box.made ((w.alloc (.cells #[.int .i64 p.bed.eye, .int .i64 p.bed.rings, .int .i64 p.bed.sectors, s, .int .i64 p.run.eye, .int .i64 p.run.rings, .int .i64 p.run.sectors, r, d] 31)).alloc (.cells #[.int .i64 a, .int .i64 b, .int .i64 t] 46)) 50 #[.int .i64 mo, .int .i64 ms, .bool mc]) (.cells #[.int .i64 0, .int .i64 0, .int .i64 0] 46)
    rw [World.size_alloc, World.size_alloc] at hz
    rw [← hW324]; exact hz)
  have X329 := Lib.hid (show Box W323 (w.heap.size + 1 + 1 + 1) 46 #[.int .i64 0, .int .i64 0, .int .i64 0] by
    have hz := Box.made (((w.alloc (.cells #[.int .i64 p.bed.eye, .int .i64 p.bed.rings, .int .i64 p.bed.sectors, s, .int .i64 p.run.eye, .int .i64 p.run.rings, .int .i64 p.run.sectors, r, d] 31)).alloc (.cells #[.int .i64 a, .int .i64 b, .int .i64 t] 46)).alloc (.cells #[.int .i64 mo, .int .i64 ms, .bool mc] 50)) 46 #[.int .i64 0, .int .i64 0, .int .i64 0]
    rw [World.size_alloc, World.size_alloc, World.size_alloc] at hz
    rw [← hW324]; exact hz)
  have C330 := Lib.hid (HP0.out.later B325.out)
  have SZ331 := Lib.hid (show W323.heap.size = w.heap.size + 1 + 1 + 1 + 1 by rw [← hW324]; simp)
  rw [hW324]
  clear hW324
  have q332 : W323.cell? ⟨w.heap.size, 0, none⟩ = some (.int .i64 p.bed.eye) := X326.out.cell 0
  have q333 : W323.cell? ⟨w.heap.size, 1, none⟩ = some (.int .i64 p.bed.rings) := X326.out.cell 1
  have q334 : W323.cell? ⟨w.heap.size, 2, none⟩ = some (.int .i64 p.bed.sectors) := X326.out.cell 2
  have q335 : W323.cell? ⟨w.heap.size, 3, none⟩ = some (s) := X326.out.cell 3
  have q336 : W323.cell? ⟨w.heap.size, 4, none⟩ = some (.int .i64 p.run.eye) := X326.out.cell 4
  have q337 : W323.cell? ⟨w.heap.size, 5, none⟩ = some (.int .i64 p.run.rings) := X326.out.cell 5
  have q338 : W323.cell? ⟨w.heap.size, 6, none⟩ = some (.int .i64 p.run.sectors) := X326.out.cell 6
  have q339 : W323.cell? ⟨w.heap.size, 7, none⟩ = some (r) := X326.out.cell 7
  have q340 : W323.cell? ⟨w.heap.size, 8, none⟩ = some (d) := X326.out.cell 8
  have q341 : W323.cell? ⟨w.heap.size + 1, 0, none⟩ = some (.int .i64 a) := X327.out.cell 0
  have q342 : W323.cell? ⟨w.heap.size + 1, 1, none⟩ = some (.int .i64 b) := X327.out.cell 1
  have q343 : W323.cell? ⟨w.heap.size + 1, 2, none⟩ = some (.int .i64 t) := X327.out.cell 2
  have q344 : W323.cell? ⟨w.heap.size + 1 + 1, 0, none⟩ = some (.int .i64 mo) := X328.out.cell 0
  have q345 : W323.cell? ⟨w.heap.size + 1 + 1, 1, none⟩ = some (.int .i64 ms) := X328.out.cell 1
  have q346 : W323.cell? ⟨w.heap.size + 1 + 1, 2, none⟩ = some (.bool mc) := X328.out.cell 2
  have q347 : W323.cell? ⟨w.heap.size + 1 + 1 + 1, 0, none⟩ = some (.int .i64 0) := X329.out.cell 0
  have q348 : W323.cell? ⟨w.heap.size + 1 + 1 + 1, 1, none⟩ = some (.int .i64 0) := X329.out.cell 1
  have q349 : W323.cell? ⟨w.heap.size + 1 + 1 + 1, 2, none⟩ = some (.int .i64 0) := X329.out.cell 2
  have fz350 : ∀ o, W323.frozen? ⟨w.heap.size + 1 + 1 + 1, o, none⟩ = false := fun o => X329.out.free o
  rcases Int.lt_or_le 0 n1 with hpos | hneg
  · have HX := Lib.hid (show max 0 n1 = n1 by omega)
    have d1 : decide (n1 < 0) = false := by simp; omega
    have d2 : decide (0 < n1) = true := by simp; omega
    have d3 : ¬ n1 < 0 := by omega
    have d4 : ¬ n1 ≤ 0 := by omega
    go_wp2_with fail
    have hdr381 : Below (W323).heap.size (W323) (W323).drew := (Below.refl _ _).drew
    have lt366 := X326.out.lt
    have lt367 := X326.out.lt
    have lt368 := X326.out.lt
    have lt369 := X326.out.lt
    have lt370 := X326.out.lt
    have lt371 := X326.out.lt
    have lt372 := X326.out.lt
    have lt373 := X326.out.lt
    have lt374 := X326.out.lt
    have lt375 := X327.out.lt
    have lt376 := X327.out.lt
    have lt377 := X327.out.lt
    have lt378 := X328.out.lt
    have lt379 := X328.out.lt
    have lt380 := X328.out.lt
    have hcall382 : ∀ X Y : World, (fun Wz => Wz.cell? ⟨w.heap.size, 0, none⟩ = some (.int .i64 p.bed.eye) ∧ Wz.cell? ⟨w.heap.size, 1, none⟩ = some (.int .i64 p.bed.rings) ∧ Wz.cell? ⟨w.heap.size, 2, none⟩ = some (.int .i64 p.bed.sectors) ∧ Wz.cell? ⟨w.heap.size, 3, none⟩ = some (s) ∧ Wz.cell? ⟨w.heap.size, 4, none⟩ = some (.int .i64 p.run.eye) ∧ Wz.cell? ⟨w.heap.size, 5, none⟩ = some (.int .i64 p.run.rings) ∧ Wz.cell? ⟨w.heap.size, 6, none⟩ = some (.int .i64 p.run.sectors) ∧ Wz.cell? ⟨w.heap.size, 7, none⟩ = some (r) ∧ Wz.cell? ⟨w.heap.size, 8, none⟩ = some (d) ∧ Wz.cell? ⟨w.heap.size + 1, 0, none⟩ = some (.int .i64 a) ∧ Wz.cell? ⟨w.heap.size + 1, 1, none⟩ = some (.int .i64 b) ∧ Wz.cell? ⟨w.heap.size + 1, 2, none⟩ = some (.int .i64 t) ∧ Wz.cell? ⟨w.heap.size + 1 + 1, 0, none⟩ = some (.int .i64 mo) ∧ Wz.cell? ⟨w.heap.size + 1 + 1, 1, none⟩ = some (.int .i64 ms) ∧ Wz.cell? ⟨w.heap.size + 1 + 1, 2, none⟩ = some (.bool mc) ∧ (W323).heap.size ≤ Wz.heap.size) X → Below X.heap.size X Y → (fun Wz => Wz.cell? ⟨w.heap.size, 0, none⟩ = some (.int .i64 p.bed.eye) ∧ Wz.cell? ⟨w.heap.size, 1, none⟩ = some (.int .i64 p.bed.rings) ∧ Wz.cell? ⟨w.heap.size, 2, none⟩ = some (.int .i64 p.bed.sectors) ∧ Wz.cell? ⟨w.heap.size, 3, none⟩ = some (s) ∧ Wz.cell? ⟨w.heap.size, 4, none⟩ = some (.int .i64 p.run.eye) ∧ Wz.cell? ⟨w.heap.size, 5, none⟩ = some (.int .i64 p.run.rings) ∧ Wz.cell? ⟨w.heap.size, 6, none⟩ = some (.int .i64 p.run.sectors) ∧ Wz.cell? ⟨w.heap.size, 7, none⟩ = some (r) ∧ Wz.cell? ⟨w.heap.size, 8, none⟩ = some (d) ∧ Wz.cell? ⟨w.heap.size + 1, 0, none⟩ = some (.int .i64 a) ∧ Wz.cell? ⟨w.heap.size + 1, 1, none⟩ = some (.int .i64 b) ∧ Wz.cell? ⟨w.heap.size + 1, 2, none⟩ = some (.int .i64 t) ∧ Wz.cell? ⟨w.heap.size + 1 + 1, 0, none⟩ = some (.int .i64 mo) ∧ Wz.cell? ⟨w.heap.size + 1 + 1, 1, none⟩ = some (.int .i64 ms) ∧ Wz.cell? ⟨w.heap.size + 1 + 1, 2, none⟩ = some (.bool mc) ∧ (W323).heap.size ≤ Wz.heap.size) Y := by
      rintro X Y ⟨z351, z352, z353, z354, z355, z356, z357, z358, z359, z360, z361, z362, z363, z364, z365, xs⟩ hb
      have hb2 := Below.mono (B' := (W323).heap.size) hb xs
      exact ⟨keepd z351 hb2 lt366, keepd z352 hb2 lt367, keepd z353 hb2 lt368, keepd z354 hb2 lt369, keepd z355 hb2 lt370, keepd z356 hb2 lt371, keepd z357 hb2 lt372, keepd z358 hb2 lt373, keepd z359 hb2 lt374, keepd z360 hb2 lt375, keepd z361 hb2 lt376, keepd z362 hb2 lt377, keepd z363 hb2 lt378, keepd z364 hb2 lt379, keepd z365 hb2 lt380, Nat.le_trans xs hb.size⟩
    have ne385 : w.heap.size ≠ w.heap.size + 1 + 1 + 1 := by first | (simp; done) | (simp; omega) | omega
    have ne394 : w.heap.size + 1 ≠ w.heap.size + 1 + 1 + 1 := by first | (simp; done) | (simp; omega) | omega
    have ne397 : w.heap.size + 1 + 1 ≠ w.heap.size + 1 + 1 + 1 := by first | (simp; done) | (simp; omega) | omega
    have hput384 : ∀ (X : World) (o : Nat) (v : Value), (fun Wz => Wz.cell? ⟨w.heap.size, 0, none⟩ = some (.int .i64 p.bed.eye) ∧ Wz.cell? ⟨w.heap.size, 1, none⟩ = some (.int .i64 p.bed.rings) ∧ Wz.cell? ⟨w.heap.size, 2, none⟩ = some (.int .i64 p.bed.sectors) ∧ Wz.cell? ⟨w.heap.size, 3, none⟩ = some (s) ∧ Wz.cell? ⟨w.heap.size, 4, none⟩ = some (.int .i64 p.run.eye) ∧ Wz.cell? ⟨w.heap.size, 5, none⟩ = some (.int .i64 p.run.rings) ∧ Wz.cell? ⟨w.heap.size, 6, none⟩ = some (.int .i64 p.run.sectors) ∧ Wz.cell? ⟨w.heap.size, 7, none⟩ = some (r) ∧ Wz.cell? ⟨w.heap.size, 8, none⟩ = some (d) ∧ Wz.cell? ⟨w.heap.size + 1, 0, none⟩ = some (.int .i64 a) ∧ Wz.cell? ⟨w.heap.size + 1, 1, none⟩ = some (.int .i64 b) ∧ Wz.cell? ⟨w.heap.size + 1, 2, none⟩ = some (.int .i64 t) ∧ Wz.cell? ⟨w.heap.size + 1 + 1, 0, none⟩ = some (.int .i64 mo) ∧ Wz.cell? ⟨w.heap.size + 1 + 1, 1, none⟩ = some (.int .i64 ms) ∧ Wz.cell? ⟨w.heap.size + 1 + 1, 2, none⟩ = some (.bool mc) ∧ (W323).heap.size ≤ Wz.heap.size) X → (fun Wz => Wz.cell? ⟨w.heap.size, 0, none⟩ = some (.int .i64 p.bed.eye) ∧ Wz.cell? ⟨w.heap.size, 1, none⟩ = some (.int .i64 p.bed.rings) ∧ Wz.cell? ⟨w.heap.size, 2, none⟩ = some (.int .i64 p.bed.sectors) ∧ Wz.cell? ⟨w.heap.size, 3, none⟩ = some (s) ∧ Wz.cell? ⟨w.heap.size, 4, none⟩ = some (.int .i64 p.run.eye) ∧ Wz.cell? ⟨w.heap.size, 5, none⟩ = some (.int .i64 p.run.rings) ∧ Wz.cell? ⟨w.heap.size, 6, none⟩ = some (.int .i64 p.run.sectors) ∧ Wz.cell? ⟨w.heap.size, 7, none⟩ = some (r) ∧ Wz.cell? ⟨w.heap.size, 8, none⟩ = some (d) ∧ Wz.cell? ⟨w.heap.size + 1, 0, none⟩ = some (.int .i64 a) ∧ Wz.cell? ⟨w.heap.size + 1, 1, none⟩ = some (.int .i64 b) ∧ Wz.cell? ⟨w.heap.size + 1, 2, none⟩ = some (.int .i64 t) ∧ Wz.cell? ⟨w.heap.size + 1 + 1, 0, none⟩ = some (.int .i64 mo) ∧ Wz.cell? ⟨w.heap.size + 1 + 1, 1, none⟩ = some (.int .i64 ms) ∧ Wz.cell? ⟨w.heap.size + 1 + 1, 2, none⟩ = some (.bool mc) ∧ (W323).heap.size ≤ Wz.heap.size) (X.setCell ⟨w.heap.size + 1 + 1 + 1, o, none⟩ v) := by
      rintro X o v ⟨z351, z352, z353, z354, z355, z356, z357, z358, z359, z360, z361, z362, z363, z364, z365, xs⟩
      exact ⟨(World.cell?_setCell_other X _ _ v (fun e => ne385 (congrArg Addr.block e).symm)).trans z351, (World.cell?_setCell_other X _ _ v (fun e => ne385 (congrArg Addr.block e).symm)).trans z352, (World.cell?_setCell_other X _ _ v (fun e => ne385 (congrArg Addr.block e).symm)).trans z353, (World.cell?_setCell_other X _ _ v (fun e => ne385 (congrArg Addr.block e).symm)).trans z354, (World.cell?_setCell_other X _ _ v (fun e => ne385 (congrArg Addr.block e).symm)).trans z355, (World.cell?_setCell_other X _ _ v (fun e => ne385 (congrArg Addr.block e).symm)).trans z356, (World.cell?_setCell_other X _ _ v (fun e => ne385 (congrArg Addr.block e).symm)).trans z357, (World.cell?_setCell_other X _ _ v (fun e => ne385 (congrArg Addr.block e).symm)).trans z358, (World.cell?_setCell_other X _ _ v (fun e => ne385 (congrArg Addr.block e).symm)).trans z359, (World.cell?_setCell_other X _ _ v (fun e => ne394 (congrArg Addr.block e).symm)).trans z360, (World.cell?_setCell_other X _ _ v (fun e => ne394 (congrArg Addr.block e).symm)).trans z361, (World.cell?_setCell_other X _ _ v (fun e => ne394 (congrArg Addr.block e).symm)).trans z362, (World.cell?_setCell_other X _ _ v (fun e => ne397 (congrArg Addr.block e).symm)).trans z363, (World.cell?_setCell_other X _ _ v (fun e => ne397 (congrArg Addr.block e).symm)).trans z364, (World.cell?_setCell_other X _ _ v (fun e => ne397 (congrArg Addr.block e).symm)).trans z365, by rw [World.size_setCell]; exact xs⟩
    have hini383 : (fun Wz => Wz.cell? ⟨w.heap.size, 0, none⟩ = some (.int .i64 p.bed.eye) ∧ Wz.cell? ⟨w.heap.size, 1, none⟩ = some (.int .i64 p.bed.rings) ∧ Wz.cell? ⟨w.heap.size, 2, none⟩ = some (.int .i64 p.bed.sectors) ∧ Wz.cell? ⟨w.heap.size, 3, none⟩ = some (s) ∧ Wz.cell? ⟨w.heap.size, 4, none⟩ = some (.int .i64 p.run.eye) ∧ Wz.cell? ⟨w.heap.size, 5, none⟩ = some (.int .i64 p.run.rings) ∧ Wz.cell? ⟨w.heap.size, 6, none⟩ = some (.int .i64 p.run.sectors) ∧ Wz.cell? ⟨w.heap.size, 7, none⟩ = some (r) ∧ Wz.cell? ⟨w.heap.size, 8, none⟩ = some (d) ∧ Wz.cell? ⟨w.heap.size + 1, 0, none⟩ = some (.int .i64 a) ∧ Wz.cell? ⟨w.heap.size + 1, 1, none⟩ = some (.int .i64 b) ∧ Wz.cell? ⟨w.heap.size + 1, 2, none⟩ = some (.int .i64 t) ∧ Wz.cell? ⟨w.heap.size + 1 + 1, 0, none⟩ = some (.int .i64 mo) ∧ Wz.cell? ⟨w.heap.size + 1 + 1, 1, none⟩ = some (.int .i64 ms) ∧ Wz.cell? ⟨w.heap.size + 1 + 1, 2, none⟩ = some (.bool mc) ∧ (W323).heap.size ≤ Wz.heap.size) (W323).drew := ⟨keepd (X326.out.cell 0) hdr381 lt366, keepd (X326.out.cell 1) hdr381 lt367, keepd (X326.out.cell 2) hdr381 lt368, keepd (X326.out.cell 3) hdr381 lt369, keepd (X326.out.cell 4) hdr381 lt370, keepd (X326.out.cell 5) hdr381 lt371, keepd (X326.out.cell 6) hdr381 lt372, keepd (X326.out.cell 7) hdr381 lt373, keepd (X326.out.cell 8) hdr381 lt374, keepd (X327.out.cell 0) hdr381 lt375, keepd (X327.out.cell 1) hdr381 lt376, keepd (X327.out.cell 2) hdr381 lt377, keepd (X328.out.cell 0) hdr381 lt378, keepd (X328.out.cell 1) hdr381 lt379, keepd (X328.out.cell 2) hdr381 lt380, Nat.le_refl _⟩
    have Hcall382 := Lib.hid hcall382
    have Hini383 := Lib.hid hini383
    have Hput384 := Lib.hid hput384
    clear hcall382 ne385 ne394 ne397 hput384 hini383 lt366 lt367 lt368 lt369 lt370 lt371 lt372 lt373 lt374 lt375 lt376 lt377 lt378 lt379 lt380
    clear q332 q333 q334 q335 q336 q337 q338 q339 q340 q341 q342 q343 q344 q345 q346 q347 q348 q349 fz350
    refine wp_region_noPanic ?_
    refine wp_region_held_drew (S := (fun Wz => Wz.cell? ⟨w.heap.size, 0, none⟩ = some (.int .i64 p.bed.eye) ∧ Wz.cell? ⟨w.heap.size, 1, none⟩ = some (.int .i64 p.bed.rings) ∧ Wz.cell? ⟨w.heap.size, 2, none⟩ = some (.int .i64 p.bed.sectors) ∧ Wz.cell? ⟨w.heap.size, 3, none⟩ = some (s) ∧ Wz.cell? ⟨w.heap.size, 4, none⟩ = some (.int .i64 p.run.eye) ∧ Wz.cell? ⟨w.heap.size, 5, none⟩ = some (.int .i64 p.run.rings) ∧ Wz.cell? ⟨w.heap.size, 6, none⟩ = some (.int .i64 p.run.sectors) ∧ Wz.cell? ⟨w.heap.size, 7, none⟩ = some (r) ∧ Wz.cell? ⟨w.heap.size, 8, none⟩ = some (d) ∧ Wz.cell? ⟨w.heap.size + 1, 0, none⟩ = some (.int .i64 a) ∧ Wz.cell? ⟨w.heap.size + 1, 1, none⟩ = some (.int .i64 b) ∧ Wz.cell? ⟨w.heap.size + 1, 2, none⟩ = some (.int .i64 t) ∧ Wz.cell? ⟨w.heap.size + 1 + 1, 0, none⟩ = some (.int .i64 mo) ∧ Wz.cell? ⟨w.heap.size + 1 + 1, 1, none⟩ = some (.int .i64 ms) ∧ Wz.cell? ⟨w.heap.size + 1 + 1, 2, none⟩ = some (.bool mc) ∧ (W323).heap.size ≤ Wz.heap.size)) (by kernel_rfl) Hini383.out (fun hHeld => ?_)
    obtain ⟨W400, hW401⟩ : ∃ Wzz, (W323).drew = Wzz := ⟨_, rfl⟩
    rw [hW401] at hHeld hdr381 ⊢
    clear hW401
    have X402 := Lib.hid (X326.out.later hdr381)
    have X403 := Lib.hid (X327.out.later hdr381)
    have X404 := Lib.hid (X328.out.later hdr381)
    have X405 := Lib.hid (X329.out.later hdr381)
    have C406 := Lib.hid (C330.out.later hdr381)
    have B407 := Lib.hid (B325.out.trans (hdr381.mono B325.out.size))
    clear hdr381
    refine wpAnyH_take (i := 0) (oi := { dst := some 18, op := Op.fieldAddr 46 (Operand.tmp 4) 0, type := 0, pos := "ref.go:127", after := #[], guard := none }) (v := ?vh408) rfl ?hsh408 ?hfh408 ?hrh408 ?hQh408 ?hyh408 (by assumption) ?resth408
    case hsh408 => kernel_rfl
    case hfh408 => kernel_rfl
    case hrh408 => kernel_rfl
    case hQh408 => exact fun _ _ _ h => h
    case hyh408 => (refine Or.inl ⟨by rfl, ?_⟩; intro w hSw; (try dsimp only at hSw); go_simp; try with_reducible rfl)
    try simp only [Act.put, List.setIfInBounds_toArray, List.set_cons_zero, List.set_cons_succ]
    refine wpAnyH_take (i := 1) (oi := { dst := some 19, op := Op.load 3 (Operand.tmp 18), type := 3, pos := "ref.go:127", after := #[{ on := 0, ground := Ground.data }], guard := none }) (v := ?vh409) rfl ?hsh409 ?hfh409 ?hrh409 ?hQh409 ?hyh409 (by assumption) ?resth409
    case hsh409 => kernel_rfl
    case hfh409 => kernel_rfl
    case hrh409 => kernel_rfl
    case hQh409 => exact fun _ _ _ h => h
    case hyh409 => (refine Or.inl ⟨by rfl, ?_⟩; intro w hSw; (try dsimp only at hSw); go_simp; try with_reducible rfl)
    try simp only [Act.put, List.setIfInBounds_toArray, List.set_cons_zero, List.set_cons_succ]
    refine wpAnyH_take (i := 2) (oi := { dst := some 20, op := Op.fieldAddr 50 (Operand.tmp 5) 0, type := 0, pos := "ref.go:127", after := #[], guard := none }) (v := ?vh410) rfl ?hsh410 ?hfh410 ?hrh410 ?hQh410 ?hyh410 (by assumption) ?resth410
    case hsh410 => kernel_rfl
    case hfh410 => kernel_rfl
    case hrh410 => kernel_rfl
    case hQh410 => exact fun _ _ _ h => h
    case hyh410 => (refine Or.inl ⟨by rfl, ?_⟩; intro w hSw; (try dsimp only at hSw); go_simp; try with_reducible rfl)
    try simp only [Act.put, List.setIfInBounds_toArray, List.set_cons_zero, List.set_cons_succ]
    refine wpAnyH_take (i := 3) (oi := { dst := some 21, op := Op.load 3 (Operand.tmp 20), type := 3, pos := "ref.go:127", after := #[{ on := 2, ground := Ground.data }], guard := none }) (v := ?vh411) rfl ?hsh411 ?hfh411 ?hrh411 ?hQh411 ?hyh411 (by assumption) ?resth411
    case hsh411 => kernel_rfl
    case hfh411 => kernel_rfl
    case hrh411 => kernel_rfl
    case hQh411 => exact fun _ _ _ h => h
    case hyh411 => (refine Or.inl ⟨by rfl, ?_⟩; intro w hSw; (try dsimp only at hSw); go_simp; try with_reducible rfl)
    try simp only [Act.put, List.setIfInBounds_toArray, List.set_cons_zero, List.set_cons_succ]
    refine wpAnyH_take (i := 4) (oi := { dst := some 22, op := Op.binOp BinOp.add 3 (Operand.tmp 19) (Operand.tmp 21) 3, type := 3, pos := "ref.go:127", after := #[{ on := 1, ground := Ground.data }, { on := 3, ground := Ground.data }], guard := none }) (v := ?vh412) rfl ?hsh412 ?hfh412 ?hrh412 ?hQh412 ?hyh412 (by assumption) ?resth412
    case hsh412 => kernel_rfl
    case hfh412 => kernel_rfl
    case hrh412 => kernel_rfl
    case hQh412 => exact fun _ _ _ h => h
    case hyh412 => (refine Or.inl ⟨by rfl, ?_⟩; intro w hSw; (try dsimp only at hSw); go_simp; try with_reducible rfl)
    try simp only [Act.put, List.setIfInBounds_toArray, List.set_cons_zero, List.set_cons_succ]
    refine wpAnyH_take (i := 5) (oi := { dst := some 23, op := Op.call { callee := Callee.builtin Builtin.max, args := #[Operand.const (Value.int IntKind.i64 0), Operand.tmp 22], argTypes := #[3, 3] }, type := 3, pos := "ref.go:127", after := #[{ on := 4, ground := Ground.data }], guard := none }) (v := ?vh413) rfl ?hsh413 ?hfh413 ?hrh413 ?hQh413 ?hyh413 (by assumption) ?resth413
    case hsh413 => kernel_rfl
    case hfh413 => kernel_rfl
    case hrh413 => kernel_rfl
    case hQh413 => exact fun _ _ _ h => h
    case hyh413 => (refine Or.inl ⟨by rfl, ?_⟩; intro w hSw; (try dsimp only at hSw); go_simp; try with_reducible rfl)
    try simp only [Act.put, List.setIfInBounds_toArray, List.set_cons_zero, List.set_cons_succ]
    refine wpAnyH_take (i := 6) (oi := { dst := some 24, op := Op.load 31 (Operand.tmp 3), type := 31, pos := "ref.go:127", after := #[], guard := none }) (v := ?vh414) rfl ?hsh414 ?hfh414 ?hrh414 ?hQh414 ?hyh414 (by assumption) ?resth414
    case hsh414 => kernel_rfl
    case hfh414 => kernel_rfl
    case hrh414 => kernel_rfl
    case hQh414 => exact fun _ _ _ h => h
    case hyh414 => (refine Or.inl ⟨by rfl, ?_⟩; intro w hSw; (try dsimp only at hSw); go_simp; try with_reducible rfl)
    try simp only [Act.put, List.setIfInBounds_toArray, List.set_cons_zero, List.set_cons_succ]
    refine wpAnyH_take (i := 7) (oi := { dst := some 25, op := Op.fieldAddr 46 (Operand.tmp 4) 1, type := 0, pos := "ref.go:127", after := #[], guard := none }) (v := ?vh415) rfl ?hsh415 ?hfh415 ?hrh415 ?hQh415 ?hyh415 (by assumption) ?resth415
    case hsh415 => kernel_rfl
    case hfh415 => kernel_rfl
    case hrh415 => kernel_rfl
    case hQh415 => exact fun _ _ _ h => h
    case hyh415 => (refine Or.inl ⟨by rfl, ?_⟩; intro w hSw; (try dsimp only at hSw); go_simp; try with_reducible rfl)
    try simp only [Act.put, List.setIfInBounds_toArray, List.set_cons_zero, List.set_cons_succ]
    refine wpAnyH_take (i := 8) (oi := { dst := some 26, op := Op.load 3 (Operand.tmp 25), type := 3, pos := "ref.go:127", after := #[{ on := 7, ground := Ground.data }], guard := none }) (v := ?vh416) rfl ?hsh416 ?hfh416 ?hrh416 ?hQh416 ?hyh416 (by assumption) ?resth416
    case hsh416 => kernel_rfl
    case hfh416 => kernel_rfl
    case hrh416 => kernel_rfl
    case hQh416 => exact fun _ _ _ h => h
    case hyh416 => (refine Or.inl ⟨by rfl, ?_⟩; intro w hSw; (try dsimp only at hSw); go_simp; try with_reducible rfl)
    try simp only [Act.put, List.setIfInBounds_toArray, List.set_cons_zero, List.set_cons_succ]
    refine wpAnyH_take (i := 9) (oi := { dst := some 27, op := Op.fieldAddr 50 (Operand.tmp 5) 1, type := 0, pos := "ref.go:127", after := #[], guard := none }) (v := ?vh417) rfl ?hsh417 ?hfh417 ?hrh417 ?hQh417 ?hyh417 (by assumption) ?resth417
    case hsh417 => kernel_rfl
    case hfh417 => kernel_rfl
    case hrh417 => kernel_rfl
    case hQh417 => exact fun _ _ _ h => h
    case hyh417 => (refine Or.inl ⟨by rfl, ?_⟩; intro w hSw; (try dsimp only at hSw); go_simp; try with_reducible rfl)
    try simp only [Act.put, List.setIfInBounds_toArray, List.set_cons_zero, List.set_cons_succ]
    refine wpAnyH_take (i := 10) (oi := { dst := some 28, op := Op.load 3 (Operand.tmp 27), type := 3, pos := "ref.go:127", after := #[{ on := 9, ground := Ground.data }], guard := none }) (v := ?vh418) rfl ?hsh418 ?hfh418 ?hrh418 ?hQh418 ?hyh418 (by assumption) ?resth418
    case hsh418 => kernel_rfl
    case hfh418 => kernel_rfl
    case hrh418 => kernel_rfl
    case hQh418 => exact fun _ _ _ h => h
    case hyh418 => (refine Or.inl ⟨by rfl, ?_⟩; intro w hSw; (try dsimp only at hSw); go_simp; try with_reducible rfl)
    try simp only [Act.put, List.setIfInBounds_toArray, List.set_cons_zero, List.set_cons_succ]
    refine wpAnyH_take (i := 11) (oi := { dst := some 29, op := Op.binOp BinOp.add 3 (Operand.tmp 26) (Operand.tmp 28) 3, type := 3, pos := "ref.go:127", after := #[{ on := 8, ground := Ground.data }, { on := 10, ground := Ground.data }], guard := none }) (v := ?vh419) rfl ?hsh419 ?hfh419 ?hrh419 ?hQh419 ?hyh419 (by assumption) ?resth419
    case hsh419 => kernel_rfl
    case hfh419 => kernel_rfl
    case hrh419 => kernel_rfl
    case hQh419 => exact fun _ _ _ h => h
    case hyh419 => (refine Or.inl ⟨by rfl, ?_⟩; intro w hSw; (try dsimp only at hSw); go_simp; try with_reducible rfl)
    try simp only [Act.put, List.setIfInBounds_toArray, List.set_cons_zero, List.set_cons_succ]
    refine wpAnyH_take (i := 13) (oi := { dst := some 31, op := Op.load 31 (Operand.tmp 3), type := 31, pos := "ref.go:127", after := #[], guard := none }) (v := ?vh420) rfl ?hsh420 ?hfh420 ?hrh420 ?hQh420 ?hyh420 (by assumption) ?resth420
    case hsh420 => kernel_rfl
    case hfh420 => kernel_rfl
    case hrh420 => kernel_rfl
    case hQh420 => exact fun _ _ _ h => h
    case hyh420 => (refine Or.inl ⟨by rfl, ?_⟩; intro w hSw; (try dsimp only at hSw); go_simp; try with_reducible rfl)
    try simp only [Act.put, List.setIfInBounds_toArray, List.set_cons_zero, List.set_cons_succ]
    refine wpAnyH_take (i := 14) (oi := { dst := some 32, op := Op.fieldAddr 46 (Operand.tmp 4) 2, type := 0, pos := "ref.go:127", after := #[], guard := none }) (v := ?vh421) rfl ?hsh421 ?hfh421 ?hrh421 ?hQh421 ?hyh421 (by assumption) ?resth421
    case hsh421 => kernel_rfl
    case hfh421 => kernel_rfl
    case hrh421 => kernel_rfl
    case hQh421 => exact fun _ _ _ h => h
    case hyh421 => (refine Or.inl ⟨by rfl, ?_⟩; intro w hSw; (try dsimp only at hSw); go_simp; try with_reducible rfl)
    try simp only [Act.put, List.setIfInBounds_toArray, List.set_cons_zero, List.set_cons_succ]
    refine wpAnyH_take (i := 15) (oi := { dst := some 33, op := Op.load 3 (Operand.tmp 32), type := 3, pos := "ref.go:127", after := #[{ on := 14, ground := Ground.data }], guard := none }) (v := ?vh422) rfl ?hsh422 ?hfh422 ?hrh422 ?hQh422 ?hyh422 (by assumption) ?resth422
    case hsh422 => kernel_rfl
    case hfh422 => kernel_rfl
    case hrh422 => kernel_rfl
    case hQh422 => exact fun _ _ _ h => h
    case hyh422 => (refine Or.inl ⟨by rfl, ?_⟩; intro w hSw; (try dsimp only at hSw); go_simp; try with_reducible rfl)
    try simp only [Act.put, List.setIfInBounds_toArray, List.set_cons_zero, List.set_cons_succ]
    refine wpAnyH_take (i := 16) (oi := { dst := some 34, op := Op.binOp BinOp.add 3 (Operand.tmp 33) (Operand.const (Value.int IntKind.i64 1)) 3, type := 3, pos := "ref.go:127", after := #[{ on := 15, ground := Ground.data }], guard := none }) (v := ?vh423) rfl ?hsh423 ?hfh423 ?hrh423 ?hQh423 ?hyh423 (by assumption) ?resth423
    case hsh423 => kernel_rfl
    case hfh423 => kernel_rfl
    case hrh423 => kernel_rfl
    case hQh423 => exact fun _ _ _ h => h
    case hyh423 => (refine Or.inl ⟨by rfl, ?_⟩; intro w hSw; (try dsimp only at hSw); go_simp; try with_reducible rfl)
    try simp only [Act.put, List.setIfInBounds_toArray, List.set_cons_zero, List.set_cons_succ]
    refine wpAnyH_ready (rs := [12]) (by kernel_rfl) (by simp) ?_
    refine AllReadyH.cons (o := _) (by rfl) (fun K hK => ?_) AllReadyH.nil
    go_simp
    go_at_call 77
    refine (rround_c p x2 _ _ C406.out HSB.out HD.out.1).mono ?_; rintro e v424 ⟨rfl, hb425⟩
    have X426 := Lib.hid (X402.out.later hb425)
    have X427 := Lib.hid (X403.out.later hb425)
    have X428 := Lib.hid (X404.out.later hb425)
    have X429 := Lib.hid (X405.out.later hb425)
    have C430 := Lib.hid (C406.out.later hb425)
    have B431 := Lib.hid (B407.out.trans (hb425.mono B407.out.size))
    clear X402 X403 X404 X405 C406 B407
    rw [HR2.out]
    go_wp2_with fail
    refine hK.out _ _ (Hcall382.out _ _ hHeld (by assumption)) (fun hHeld432 => ?_)
    clear hK K hHeld
    clear hb425
    have hHeld := hHeld432
    clear hHeld432
    try simp only [Act.put, List.setIfInBounds_toArray, List.set_cons_zero, List.set_cons_succ]
    refine wpAnyH_ready (rs := [17]) (by kernel_rfl) (by simp) ?_
    refine AllReadyH.cons (o := _) (by rfl) (fun K hK => ?_) AllReadyH.nil
    go_simp
    go_at_call 77
    refine (rround_c p x3 _ _ C430.out HSB.out HD.out.2).mono ?_; rintro e v433 ⟨rfl, hb434⟩
    have X435 := Lib.hid (X426.out.later hb434)
    have X436 := Lib.hid (X427.out.later hb434)
    have X437 := Lib.hid (X428.out.later hb434)
    have X438 := Lib.hid (X429.out.later hb434)
    have C439 := Lib.hid (C430.out.later hb434)
    have B440 := Lib.hid (B431.out.trans (hb434.mono B431.out.size))
    clear X426 X427 X428 X429 C430 B431
    rw [HR3.out]
    go_wp2_with fail
    refine hK.out _ _ (Hcall382.out _ _ hHeld (by assumption)) (fun hHeld441 => ?_)
    clear hK K hHeld
    clear hb434
    have hHeld := hHeld441
    clear hHeld441
    try simp only [Act.put, List.setIfInBounds_toArray, List.set_cons_zero, List.set_cons_succ]
    refine wpAnyH_take (i := 18) (oi := { dst := some 36, op := Op.build 46 #[(0, Operand.tmp 23), (1, Operand.tmp 30), (2, Operand.tmp 35)], type := 46, pos := "ref.go:127", after := #[{ on := 5, ground := Ground.data }, { on := 12, ground := Ground.data }, { on := 17, ground := Ground.data }], guard := none }) (v := ?vh442) rfl ?hsh442 ?hfh442 ?hrh442 ?hQh442 ?hyh442 (by assumption) ?resth442
    case hsh442 => kernel_rfl
    case hfh442 => kernel_rfl
    case hrh442 => kernel_rfl
    case hQh442 => exact fun _ _ _ h => h
    case hyh442 => (refine Or.inl ⟨by rfl, ?_⟩; intro w hSw; (try dsimp only at hSw); go_simp; try with_reducible rfl)
    try simp only [Act.put, List.setIfInBounds_toArray, List.set_cons_zero, List.set_cons_succ]
    refine wpAnyH_ready (rs := [19]) (by kernel_rfl) (by simp) ?_
    refine AllReadyH.cons (o := _) (by rfl) (fun K hK => ?_) AllReadyH.nil
    have q443 : v433.cell? ⟨w.heap.size + 1 + 1 + 1, 0, none⟩ = some (.int .i64 0) := X438.out.cell 0
    have q444 : v433.cell? ⟨w.heap.size + 1 + 1 + 1, 1, none⟩ = some (.int .i64 0) := X438.out.cell 1
    have q445 : v433.cell? ⟨w.heap.size + 1 + 1 + 1, 2, none⟩ = some (.int .i64 0) := X438.out.cell 2
    have q446 : ∀ o, v433.frozen? ⟨w.heap.size + 1 + 1 + 1, o, none⟩ = false := fun o => X438.out.free o
    go_simp
    clear q443 q444 q445 q446
    have X447 := Lib.hid (show Box (((v433.setCell ⟨w.heap.size + 1 + 1 + 1, 0, none⟩ (.int .i64 n1)).setCell ⟨w.heap.size + 1 + 1 + 1, 1, none⟩ (.int .i64 r2)).setCell ⟨w.heap.size + 1 + 1 + 1, 2, none⟩ (.int .i64 r3)) (w.heap.size) 31 #[.int .i64 p.bed.eye, .int .i64 p.bed.rings, .int .i64 p.bed.sectors, s, .int .i64 p.run.eye, .int .i64 p.run.rings, .int .i64 p.run.sectors, r, d] from ((((((X435.out).far (p := ⟨w.heap.size + 1 + 1 + 1, 0, none⟩) (by first | (simp; done) | (simp; omega) | omega) (.int .i64 n1))).far (p := ⟨w.heap.size + 1 + 1 + 1, 1, none⟩) (by first | (simp; done) | (simp; omega) | omega) (.int .i64 r2))).far (p := ⟨w.heap.size + 1 + 1 + 1, 2, none⟩) (by first | (simp; done) | (simp; omega) | omega) (.int .i64 r3)))
    have X448 := Lib.hid (show Box (((v433.setCell ⟨w.heap.size + 1 + 1 + 1, 0, none⟩ (.int .i64 n1)).setCell ⟨w.heap.size + 1 + 1 + 1, 1, none⟩ (.int .i64 r2)).setCell ⟨w.heap.size + 1 + 1 + 1, 2, none⟩ (.int .i64 r3)) (w.heap.size + 1) 46 #[.int .i64 a, .int .i64 b, .int .i64 t] from ((((((X436.out).far (p := ⟨w.heap.size + 1 + 1 + 1, 0, none⟩) (by first | (simp; done) | (simp; omega) | omega) (.int .i64 n1))).far (p := ⟨w.heap.size + 1 + 1 + 1, 1, none⟩) (by first | (simp; done) | (simp; omega) | omega) (.int .i64 r2))).far (p := ⟨w.heap.size + 1 + 1 + 1, 2, none⟩) (by first | (simp; done) | (simp; omega) | omega) (.int .i64 r3)))
    have X449 := Lib.hid (show Box (((v433.setCell ⟨w.heap.size + 1 + 1 + 1, 0, none⟩ (.int .i64 n1)).setCell ⟨w.heap.size + 1 + 1 + 1, 1, none⟩ (.int .i64 r2)).setCell ⟨w.heap.size + 1 + 1 + 1, 2, none⟩ (.int .i64 r3)) (w.heap.size + 1 + 1) 50 #[.int .i64 mo, .int .i64 ms, .bool mc] from ((((((X437.out).far (p := ⟨w.heap.size + 1 + 1 + 1, 0, none⟩) (by first | (simp; done) | (simp; omega) | omega) (.int .i64 n1))).far (p := ⟨w.heap.size + 1 + 1 + 1, 1, none⟩) (by first | (simp; done) | (simp; omega) | omega) (.int .i64 r2))).far (p := ⟨w.heap.size + 1 + 1 + 1, 2, none⟩) (by first | (simp; done) | (simp; omega) | omega) (.int .i64 r3)))
    have X450 := Lib.hid (show Box (((v433.setCell ⟨w.heap.size + 1 + 1 + 1, 0, none⟩ (.int .i64 n1)).setCell ⟨w.heap.size + 1 + 1 + 1, 1, none⟩ (.int .i64 r2)).setCell ⟨w.heap.size + 1 + 1 + 1, 2, none⟩ (.int .i64 r3)) (w.heap.size + 1 + 1 + 1) 46 #[.int .i64 n1, .int .i64 r2, .int .i64 r3] from ((((((X438.out).put 0 (.int .i64 n1))).put 1 (.int .i64 r2))).put 2 (.int .i64 r3)))
    have B451 := Lib.hid ((((((B440.out).setCell (p := ⟨w.heap.size + 1 + 1 + 1, 0, none⟩) (by first | (simp; done) | (simp; omega) | omega) (.int .i64 n1))).setCell (p := ⟨w.heap.size + 1 + 1 + 1, 1, none⟩) (by first | (simp; done) | (simp; omega) | omega) (.int .i64 r2))).setCell (p := ⟨w.heap.size + 1 + 1 + 1, 2, none⟩) (by first | (simp; done) | (simp; omega) | omega) (.int .i64 r3))
    refine hK.out _ _ (Hput384.out _ 2 (.int .i64 r3) (Hput384.out _ 1 (.int .i64 r2) (Hput384.out _ 0 (.int .i64 n1) hHeld))) (fun hHeld452 => ?_)
    clear hK K hHeld
    have hHeld := hHeld452
    clear hHeld452
    try simp only [Act.put, List.setIfInBounds_toArray, List.set_cons_zero, List.set_cons_succ]
    refine wpAnyH_take (i := 20) (oi := { dst := some 7, op := Op.assign (Operand.const (Value.bool false)), type := 4, pos := "ref.go:127", after := #[{ on := 19, ground := Ground.chain }, { on := 0, ground := Ground.phase }, { on := 1, ground := Ground.phase }, { on := 2, ground := Ground.phase }, { on := 3, ground := Ground.phase }, { on := 4, ground := Ground.phase }, { on := 5, ground := Ground.phase }, { on := 6, ground := Ground.phase }, { on := 7, ground := Ground.phase }, { on := 8, ground := Ground.phase }, { on := 9, ground := Ground.phase }, { on := 10, ground := Ground.phase }, { on := 11, ground := Ground.phase }, { on := 12, ground := Ground.phase }, { on := 13, ground := Ground.phase }, { on := 14, ground := Ground.phase }, { on := 15, ground := Ground.phase }, { on := 16, ground := Ground.phase }, { on := 17, ground := Ground.phase }, { on := 18, ground := Ground.phase }, { on := 19, ground := Ground.phase }], guard := none }) (v := ?vh453) rfl ?hsh453 ?hfh453 ?hrh453 ?hQh453 ?hyh453 (by assumption) ?resth453
    case hsh453 => kernel_rfl
    case hfh453 => kernel_rfl
    case hrh453 => kernel_rfl
    case hQh453 => exact fun _ _ _ h => h
    case hyh453 => (refine Or.inl ⟨by rfl, ?_⟩; intro w hSw; (try dsimp only at hSw); go_simp; try with_reducible rfl)
    try simp only [Act.put, List.setIfInBounds_toArray, List.set_cons_zero, List.set_cons_succ]
    refine wpAnyH_done (by kernel_rfl) ?_ _
    refine NoPanic.normal ?_
    clear hHeld Hcall382 Hini383 Hput384
    obtain ⟨W454, hW455⟩ : ∃ Wzz, (((v433.setCell ⟨w.heap.size + 1 + 1 + 1, 0, none⟩ (.int .i64 n1)).setCell ⟨w.heap.size + 1 + 1 + 1, 1, none⟩ (.int .i64 r2)).setCell ⟨w.heap.size + 1 + 1 + 1, 2, none⟩ (.int .i64 r3)) = Wzz := ⟨_, rfl⟩
    have x456 := X447.out
    rw [hW455] at x456
    have X456 := Lib.hid x456
    clear x456 X447
    have x457 := X448.out
    rw [hW455] at x457
    have X457 := Lib.hid x457
    clear x457 X448
    have x458 := X449.out
    rw [hW455] at x458
    have X458 := Lib.hid x458
    clear x458 X449
    have x459 := X450.out
    rw [hW455] at x459
    have X459 := Lib.hid x459
    clear x459 X450
    have b460 := B451.out
    rw [hW455] at b460
    have B460 := Lib.hid b460
    clear b460 B451
    rw [hW455]
    clear hW455
    have q461 : W454.cell? ⟨w.heap.size, 0, none⟩ = some (.int .i64 p.bed.eye) := X456.out.cell 0
    have q462 : W454.cell? ⟨w.heap.size, 1, none⟩ = some (.int .i64 p.bed.rings) := X456.out.cell 1
    have q463 : W454.cell? ⟨w.heap.size, 2, none⟩ = some (.int .i64 p.bed.sectors) := X456.out.cell 2
    have q464 : W454.cell? ⟨w.heap.size, 3, none⟩ = some (s) := X456.out.cell 3
    have q465 : W454.cell? ⟨w.heap.size, 4, none⟩ = some (.int .i64 p.run.eye) := X456.out.cell 4
    have q466 : W454.cell? ⟨w.heap.size, 5, none⟩ = some (.int .i64 p.run.rings) := X456.out.cell 5
    have q467 : W454.cell? ⟨w.heap.size, 6, none⟩ = some (.int .i64 p.run.sectors) := X456.out.cell 6
    have q468 : W454.cell? ⟨w.heap.size, 7, none⟩ = some (r) := X456.out.cell 7
    have q469 : W454.cell? ⟨w.heap.size, 8, none⟩ = some (d) := X456.out.cell 8
    have q470 : W454.cell? ⟨w.heap.size + 1, 0, none⟩ = some (.int .i64 a) := X457.out.cell 0
    have q471 : W454.cell? ⟨w.heap.size + 1, 1, none⟩ = some (.int .i64 b) := X457.out.cell 1
    have q472 : W454.cell? ⟨w.heap.size + 1, 2, none⟩ = some (.int .i64 t) := X457.out.cell 2
    have q473 : W454.cell? ⟨w.heap.size + 1 + 1, 0, none⟩ = some (.int .i64 mo) := X458.out.cell 0
    have q474 : W454.cell? ⟨w.heap.size + 1 + 1, 1, none⟩ = some (.int .i64 ms) := X458.out.cell 1
    have q475 : W454.cell? ⟨w.heap.size + 1 + 1, 2, none⟩ = some (.bool mc) := X458.out.cell 2
    have q476 : W454.cell? ⟨w.heap.size + 1 + 1 + 1, 0, none⟩ = some (.int .i64 n1) := X459.out.cell 0
    have q477 : W454.cell? ⟨w.heap.size + 1 + 1 + 1, 1, none⟩ = some (.int .i64 r2) := X459.out.cell 1
    have q478 : W454.cell? ⟨w.heap.size + 1 + 1 + 1, 2, none⟩ = some (.int .i64 r3) := X459.out.cell 2
    have fz479 : ∀ o, W454.frozen? ⟨w.heap.size + 1 + 1 + 1, o, none⟩ = false := fun o => X459.out.free o
    go_wp2_with fail
    (try simp only [Exit.inBlock, Exit.then])
    refine endS2 (t := 6) (u := 7) (x := .bool false) (v := .tuple #[stV (nextS p ⟨a, b, t⟩ ⟨mo, ms, mc⟩), .bool false]) ?_ ?_ ?_ X459.out B460.out ?_
    · rfl
    · rfl
    · rfl
    · rw [HN.out, HX.out]; rfl
  · have HX := Lib.hid (show max 0 n1 = 0 by omega)
    have d2 : decide (0 < n1) = false := by simp; omega
    have d4 : ¬ 0 < n1 := by omega
    go_wp2_with fail
    have hdr510 : Below (W323).heap.size (W323) (W323).drew := (Below.refl _ _).drew
    have lt495 := X326.out.lt
    have lt496 := X326.out.lt
    have lt497 := X326.out.lt
    have lt498 := X326.out.lt
    have lt499 := X326.out.lt
    have lt500 := X326.out.lt
    have lt501 := X326.out.lt
    have lt502 := X326.out.lt
    have lt503 := X326.out.lt
    have lt504 := X327.out.lt
    have lt505 := X327.out.lt
    have lt506 := X327.out.lt
    have lt507 := X328.out.lt
    have lt508 := X328.out.lt
    have lt509 := X328.out.lt
    have hcall511 : ∀ X Y : World, (fun Wz => Wz.cell? ⟨w.heap.size, 0, none⟩ = some (.int .i64 p.bed.eye) ∧ Wz.cell? ⟨w.heap.size, 1, none⟩ = some (.int .i64 p.bed.rings) ∧ Wz.cell? ⟨w.heap.size, 2, none⟩ = some (.int .i64 p.bed.sectors) ∧ Wz.cell? ⟨w.heap.size, 3, none⟩ = some (s) ∧ Wz.cell? ⟨w.heap.size, 4, none⟩ = some (.int .i64 p.run.eye) ∧ Wz.cell? ⟨w.heap.size, 5, none⟩ = some (.int .i64 p.run.rings) ∧ Wz.cell? ⟨w.heap.size, 6, none⟩ = some (.int .i64 p.run.sectors) ∧ Wz.cell? ⟨w.heap.size, 7, none⟩ = some (r) ∧ Wz.cell? ⟨w.heap.size, 8, none⟩ = some (d) ∧ Wz.cell? ⟨w.heap.size + 1, 0, none⟩ = some (.int .i64 a) ∧ Wz.cell? ⟨w.heap.size + 1, 1, none⟩ = some (.int .i64 b) ∧ Wz.cell? ⟨w.heap.size + 1, 2, none⟩ = some (.int .i64 t) ∧ Wz.cell? ⟨w.heap.size + 1 + 1, 0, none⟩ = some (.int .i64 mo) ∧ Wz.cell? ⟨w.heap.size + 1 + 1, 1, none⟩ = some (.int .i64 ms) ∧ Wz.cell? ⟨w.heap.size + 1 + 1, 2, none⟩ = some (.bool mc) ∧ (W323).heap.size ≤ Wz.heap.size) X → Below X.heap.size X Y → (fun Wz => Wz.cell? ⟨w.heap.size, 0, none⟩ = some (.int .i64 p.bed.eye) ∧ Wz.cell? ⟨w.heap.size, 1, none⟩ = some (.int .i64 p.bed.rings) ∧ Wz.cell? ⟨w.heap.size, 2, none⟩ = some (.int .i64 p.bed.sectors) ∧ Wz.cell? ⟨w.heap.size, 3, none⟩ = some (s) ∧ Wz.cell? ⟨w.heap.size, 4, none⟩ = some (.int .i64 p.run.eye) ∧ Wz.cell? ⟨w.heap.size, 5, none⟩ = some (.int .i64 p.run.rings) ∧ Wz.cell? ⟨w.heap.size, 6, none⟩ = some (.int .i64 p.run.sectors) ∧ Wz.cell? ⟨w.heap.size, 7, none⟩ = some (r) ∧ Wz.cell? ⟨w.heap.size, 8, none⟩ = some (d) ∧ Wz.cell? ⟨w.heap.size + 1, 0, none⟩ = some (.int .i64 a) ∧ Wz.cell? ⟨w.heap.size + 1, 1, none⟩ = some (.int .i64 b) ∧ Wz.cell? ⟨w.heap.size + 1, 2, none⟩ = some (.int .i64 t) ∧ Wz.cell? ⟨w.heap.size + 1 + 1, 0, none⟩ = some (.int .i64 mo) ∧ Wz.cell? ⟨w.heap.size + 1 + 1, 1, none⟩ = some (.int .i64 ms) ∧ Wz.cell? ⟨w.heap.size + 1 + 1, 2, none⟩ = some (.bool mc) ∧ (W323).heap.size ≤ Wz.heap.size) Y := by
      rintro X Y ⟨z480, z481, z482, z483, z484, z485, z486, z487, z488, z489, z490, z491, z492, z493, z494, xs⟩ hb
      have hb2 := Below.mono (B' := (W323).heap.size) hb xs
      exact ⟨keepd z480 hb2 lt495, keepd z481 hb2 lt496, keepd z482 hb2 lt497, keepd z483 hb2 lt498, keepd z484 hb2 lt499, keepd z485 hb2 lt500, keepd z486 hb2 lt501, keepd z487 hb2 lt502, keepd z488 hb2 lt503, keepd z489 hb2 lt504, keepd z490 hb2 lt505, keepd z491 hb2 lt506, keepd z492 hb2 lt507, keepd z493 hb2 lt508, keepd z494 hb2 lt509, Nat.le_trans xs hb.size⟩
    have ne514 : w.heap.size ≠ w.heap.size + 1 + 1 + 1 := by first | (simp; done) | (simp; omega) | omega
    have ne523 : w.heap.size + 1 ≠ w.heap.size + 1 + 1 + 1 := by first | (simp; done) | (simp; omega) | omega
    have ne526 : w.heap.size + 1 + 1 ≠ w.heap.size + 1 + 1 + 1 := by first | (simp; done) | (simp; omega) | omega
    have hput513 : ∀ (X : World) (o : Nat) (v : Value), (fun Wz => Wz.cell? ⟨w.heap.size, 0, none⟩ = some (.int .i64 p.bed.eye) ∧ Wz.cell? ⟨w.heap.size, 1, none⟩ = some (.int .i64 p.bed.rings) ∧ Wz.cell? ⟨w.heap.size, 2, none⟩ = some (.int .i64 p.bed.sectors) ∧ Wz.cell? ⟨w.heap.size, 3, none⟩ = some (s) ∧ Wz.cell? ⟨w.heap.size, 4, none⟩ = some (.int .i64 p.run.eye) ∧ Wz.cell? ⟨w.heap.size, 5, none⟩ = some (.int .i64 p.run.rings) ∧ Wz.cell? ⟨w.heap.size, 6, none⟩ = some (.int .i64 p.run.sectors) ∧ Wz.cell? ⟨w.heap.size, 7, none⟩ = some (r) ∧ Wz.cell? ⟨w.heap.size, 8, none⟩ = some (d) ∧ Wz.cell? ⟨w.heap.size + 1, 0, none⟩ = some (.int .i64 a) ∧ Wz.cell? ⟨w.heap.size + 1, 1, none⟩ = some (.int .i64 b) ∧ Wz.cell? ⟨w.heap.size + 1, 2, none⟩ = some (.int .i64 t) ∧ Wz.cell? ⟨w.heap.size + 1 + 1, 0, none⟩ = some (.int .i64 mo) ∧ Wz.cell? ⟨w.heap.size + 1 + 1, 1, none⟩ = some (.int .i64 ms) ∧ Wz.cell? ⟨w.heap.size + 1 + 1, 2, none⟩ = some (.bool mc) ∧ (W323).heap.size ≤ Wz.heap.size) X → (fun Wz => Wz.cell? ⟨w.heap.size, 0, none⟩ = some (.int .i64 p.bed.eye) ∧ Wz.cell? ⟨w.heap.size, 1, none⟩ = some (.int .i64 p.bed.rings) ∧ Wz.cell? ⟨w.heap.size, 2, none⟩ = some (.int .i64 p.bed.sectors) ∧ Wz.cell? ⟨w.heap.size, 3, none⟩ = some (s) ∧ Wz.cell? ⟨w.heap.size, 4, none⟩ = some (.int .i64 p.run.eye) ∧ Wz.cell? ⟨w.heap.size, 5, none⟩ = some (.int .i64 p.run.rings) ∧ Wz.cell? ⟨w.heap.size, 6, none⟩ = some (.int .i64 p.run.sectors) ∧ Wz.cell? ⟨w.heap.size, 7, none⟩ = some (r) ∧ Wz.cell? ⟨w.heap.size, 8, none⟩ = some (d) ∧ Wz.cell? ⟨w.heap.size + 1, 0, none⟩ = some (.int .i64 a) ∧ Wz.cell? ⟨w.heap.size + 1, 1, none⟩ = some (.int .i64 b) ∧ Wz.cell? ⟨w.heap.size + 1, 2, none⟩ = some (.int .i64 t) ∧ Wz.cell? ⟨w.heap.size + 1 + 1, 0, none⟩ = some (.int .i64 mo) ∧ Wz.cell? ⟨w.heap.size + 1 + 1, 1, none⟩ = some (.int .i64 ms) ∧ Wz.cell? ⟨w.heap.size + 1 + 1, 2, none⟩ = some (.bool mc) ∧ (W323).heap.size ≤ Wz.heap.size) (X.setCell ⟨w.heap.size + 1 + 1 + 1, o, none⟩ v) := by
      rintro X o v ⟨z480, z481, z482, z483, z484, z485, z486, z487, z488, z489, z490, z491, z492, z493, z494, xs⟩
      exact ⟨(World.cell?_setCell_other X _ _ v (fun e => ne514 (congrArg Addr.block e).symm)).trans z480, (World.cell?_setCell_other X _ _ v (fun e => ne514 (congrArg Addr.block e).symm)).trans z481, (World.cell?_setCell_other X _ _ v (fun e => ne514 (congrArg Addr.block e).symm)).trans z482, (World.cell?_setCell_other X _ _ v (fun e => ne514 (congrArg Addr.block e).symm)).trans z483, (World.cell?_setCell_other X _ _ v (fun e => ne514 (congrArg Addr.block e).symm)).trans z484, (World.cell?_setCell_other X _ _ v (fun e => ne514 (congrArg Addr.block e).symm)).trans z485, (World.cell?_setCell_other X _ _ v (fun e => ne514 (congrArg Addr.block e).symm)).trans z486, (World.cell?_setCell_other X _ _ v (fun e => ne514 (congrArg Addr.block e).symm)).trans z487, (World.cell?_setCell_other X _ _ v (fun e => ne514 (congrArg Addr.block e).symm)).trans z488, (World.cell?_setCell_other X _ _ v (fun e => ne523 (congrArg Addr.block e).symm)).trans z489, (World.cell?_setCell_other X _ _ v (fun e => ne523 (congrArg Addr.block e).symm)).trans z490, (World.cell?_setCell_other X _ _ v (fun e => ne523 (congrArg Addr.block e).symm)).trans z491, (World.cell?_setCell_other X _ _ v (fun e => ne526 (congrArg Addr.block e).symm)).trans z492, (World.cell?_setCell_other X _ _ v (fun e => ne526 (congrArg Addr.block e).symm)).trans z493, (World.cell?_setCell_other X _ _ v (fun e => ne526 (congrArg Addr.block e).symm)).trans z494, by rw [World.size_setCell]; exact xs⟩
    have hini512 : (fun Wz => Wz.cell? ⟨w.heap.size, 0, none⟩ = some (.int .i64 p.bed.eye) ∧ Wz.cell? ⟨w.heap.size, 1, none⟩ = some (.int .i64 p.bed.rings) ∧ Wz.cell? ⟨w.heap.size, 2, none⟩ = some (.int .i64 p.bed.sectors) ∧ Wz.cell? ⟨w.heap.size, 3, none⟩ = some (s) ∧ Wz.cell? ⟨w.heap.size, 4, none⟩ = some (.int .i64 p.run.eye) ∧ Wz.cell? ⟨w.heap.size, 5, none⟩ = some (.int .i64 p.run.rings) ∧ Wz.cell? ⟨w.heap.size, 6, none⟩ = some (.int .i64 p.run.sectors) ∧ Wz.cell? ⟨w.heap.size, 7, none⟩ = some (r) ∧ Wz.cell? ⟨w.heap.size, 8, none⟩ = some (d) ∧ Wz.cell? ⟨w.heap.size + 1, 0, none⟩ = some (.int .i64 a) ∧ Wz.cell? ⟨w.heap.size + 1, 1, none⟩ = some (.int .i64 b) ∧ Wz.cell? ⟨w.heap.size + 1, 2, none⟩ = some (.int .i64 t) ∧ Wz.cell? ⟨w.heap.size + 1 + 1, 0, none⟩ = some (.int .i64 mo) ∧ Wz.cell? ⟨w.heap.size + 1 + 1, 1, none⟩ = some (.int .i64 ms) ∧ Wz.cell? ⟨w.heap.size + 1 + 1, 2, none⟩ = some (.bool mc) ∧ (W323).heap.size ≤ Wz.heap.size) (W323).drew := ⟨keepd (X326.out.cell 0) hdr510 lt495, keepd (X326.out.cell 1) hdr510 lt496, keepd (X326.out.cell 2) hdr510 lt497, keepd (X326.out.cell 3) hdr510 lt498, keepd (X326.out.cell 4) hdr510 lt499, keepd (X326.out.cell 5) hdr510 lt500, keepd (X326.out.cell 6) hdr510 lt501, keepd (X326.out.cell 7) hdr510 lt502, keepd (X326.out.cell 8) hdr510 lt503, keepd (X327.out.cell 0) hdr510 lt504, keepd (X327.out.cell 1) hdr510 lt505, keepd (X327.out.cell 2) hdr510 lt506, keepd (X328.out.cell 0) hdr510 lt507, keepd (X328.out.cell 1) hdr510 lt508, keepd (X328.out.cell 2) hdr510 lt509, Nat.le_refl _⟩
    have Hcall511 := Lib.hid hcall511
    have Hini512 := Lib.hid hini512
    have Hput513 := Lib.hid hput513
    clear hcall511 ne514 ne523 ne526 hput513 hini512 lt495 lt496 lt497 lt498 lt499 lt500 lt501 lt502 lt503 lt504 lt505 lt506 lt507 lt508 lt509
    clear q332 q333 q334 q335 q336 q337 q338 q339 q340 q341 q342 q343 q344 q345 q346 q347 q348 q349 fz350
    refine wp_region_noPanic ?_
    refine wp_region_held_drew (S := (fun Wz => Wz.cell? ⟨w.heap.size, 0, none⟩ = some (.int .i64 p.bed.eye) ∧ Wz.cell? ⟨w.heap.size, 1, none⟩ = some (.int .i64 p.bed.rings) ∧ Wz.cell? ⟨w.heap.size, 2, none⟩ = some (.int .i64 p.bed.sectors) ∧ Wz.cell? ⟨w.heap.size, 3, none⟩ = some (s) ∧ Wz.cell? ⟨w.heap.size, 4, none⟩ = some (.int .i64 p.run.eye) ∧ Wz.cell? ⟨w.heap.size, 5, none⟩ = some (.int .i64 p.run.rings) ∧ Wz.cell? ⟨w.heap.size, 6, none⟩ = some (.int .i64 p.run.sectors) ∧ Wz.cell? ⟨w.heap.size, 7, none⟩ = some (r) ∧ Wz.cell? ⟨w.heap.size, 8, none⟩ = some (d) ∧ Wz.cell? ⟨w.heap.size + 1, 0, none⟩ = some (.int .i64 a) ∧ Wz.cell? ⟨w.heap.size + 1, 1, none⟩ = some (.int .i64 b) ∧ Wz.cell? ⟨w.heap.size + 1, 2, none⟩ = some (.int .i64 t) ∧ Wz.cell? ⟨w.heap.size + 1 + 1, 0, none⟩ = some (.int .i64 mo) ∧ Wz.cell? ⟨w.heap.size + 1 + 1, 1, none⟩ = some (.int .i64 ms) ∧ Wz.cell? ⟨w.heap.size + 1 + 1, 2, none⟩ = some (.bool mc) ∧ (W323).heap.size ≤ Wz.heap.size)) (by kernel_rfl) Hini512.out (fun hHeld => ?_)
    obtain ⟨W529, hW530⟩ : ∃ Wzz, (W323).drew = Wzz := ⟨_, rfl⟩
    rw [hW530] at hHeld hdr510 ⊢
    clear hW530
    have X531 := Lib.hid (X326.out.later hdr510)
    have X532 := Lib.hid (X327.out.later hdr510)
    have X533 := Lib.hid (X328.out.later hdr510)
    have X534 := Lib.hid (X329.out.later hdr510)
    have C535 := Lib.hid (C330.out.later hdr510)
    have B536 := Lib.hid (B325.out.trans (hdr510.mono B325.out.size))
    clear hdr510
    refine wpAnyH_take (i := 0) (oi := { dst := some 18, op := Op.fieldAddr 46 (Operand.tmp 4) 0, type := 0, pos := "ref.go:127", after := #[], guard := none }) (v := ?vh537) rfl ?hsh537 ?hfh537 ?hrh537 ?hQh537 ?hyh537 (by assumption) ?resth537
    case hsh537 => kernel_rfl
    case hfh537 => kernel_rfl
    case hrh537 => kernel_rfl
    case hQh537 => exact fun _ _ _ h => h
    case hyh537 => (refine Or.inl ⟨by rfl, ?_⟩; intro w hSw; (try dsimp only at hSw); go_simp; try with_reducible rfl)
    try simp only [Act.put, List.setIfInBounds_toArray, List.set_cons_zero, List.set_cons_succ]
    refine wpAnyH_take (i := 1) (oi := { dst := some 19, op := Op.load 3 (Operand.tmp 18), type := 3, pos := "ref.go:127", after := #[{ on := 0, ground := Ground.data }], guard := none }) (v := ?vh538) rfl ?hsh538 ?hfh538 ?hrh538 ?hQh538 ?hyh538 (by assumption) ?resth538
    case hsh538 => kernel_rfl
    case hfh538 => kernel_rfl
    case hrh538 => kernel_rfl
    case hQh538 => exact fun _ _ _ h => h
    case hyh538 => (refine Or.inl ⟨by rfl, ?_⟩; intro w hSw; (try dsimp only at hSw); go_simp; try with_reducible rfl)
    try simp only [Act.put, List.setIfInBounds_toArray, List.set_cons_zero, List.set_cons_succ]
    refine wpAnyH_take (i := 2) (oi := { dst := some 20, op := Op.fieldAddr 50 (Operand.tmp 5) 0, type := 0, pos := "ref.go:127", after := #[], guard := none }) (v := ?vh539) rfl ?hsh539 ?hfh539 ?hrh539 ?hQh539 ?hyh539 (by assumption) ?resth539
    case hsh539 => kernel_rfl
    case hfh539 => kernel_rfl
    case hrh539 => kernel_rfl
    case hQh539 => exact fun _ _ _ h => h
    case hyh539 => (refine Or.inl ⟨by rfl, ?_⟩; intro w hSw; (try dsimp only at hSw); go_simp; try with_reducible rfl)
    try simp only [Act.put, List.setIfInBounds_toArray, List.set_cons_zero, List.set_cons_succ]
    refine wpAnyH_take (i := 3) (oi := { dst := some 21, op := Op.load 3 (Operand.tmp 20), type := 3, pos := "ref.go:127", after := #[{ on := 2, ground := Ground.data }], guard := none }) (v := ?vh540) rfl ?hsh540 ?hfh540 ?hrh540 ?hQh540 ?hyh540 (by assumption) ?resth540
    case hsh540 => kernel_rfl
    case hfh540 => kernel_rfl
    case hrh540 => kernel_rfl
    case hQh540 => exact fun _ _ _ h => h
    case hyh540 => (refine Or.inl ⟨by rfl, ?_⟩; intro w hSw; (try dsimp only at hSw); go_simp; try with_reducible rfl)
    try simp only [Act.put, List.setIfInBounds_toArray, List.set_cons_zero, List.set_cons_succ]
    refine wpAnyH_take (i := 4) (oi := { dst := some 22, op := Op.binOp BinOp.add 3 (Operand.tmp 19) (Operand.tmp 21) 3, type := 3, pos := "ref.go:127", after := #[{ on := 1, ground := Ground.data }, { on := 3, ground := Ground.data }], guard := none }) (v := ?vh541) rfl ?hsh541 ?hfh541 ?hrh541 ?hQh541 ?hyh541 (by assumption) ?resth541
    case hsh541 => kernel_rfl
    case hfh541 => kernel_rfl
    case hrh541 => kernel_rfl
    case hQh541 => exact fun _ _ _ h => h
    case hyh541 => (refine Or.inl ⟨by rfl, ?_⟩; intro w hSw; (try dsimp only at hSw); go_simp; try with_reducible rfl)
    try simp only [Act.put, List.setIfInBounds_toArray, List.set_cons_zero, List.set_cons_succ]
    refine wpAnyH_take (i := 5) (oi := { dst := some 23, op := Op.call { callee := Callee.builtin Builtin.max, args := #[Operand.const (Value.int IntKind.i64 0), Operand.tmp 22], argTypes := #[3, 3] }, type := 3, pos := "ref.go:127", after := #[{ on := 4, ground := Ground.data }], guard := none }) (v := ?vh542) rfl ?hsh542 ?hfh542 ?hrh542 ?hQh542 ?hyh542 (by assumption) ?resth542
    case hsh542 => kernel_rfl
    case hfh542 => kernel_rfl
    case hrh542 => kernel_rfl
    case hQh542 => exact fun _ _ _ h => h
    case hyh542 => (refine Or.inl ⟨by rfl, ?_⟩; intro w hSw; (try dsimp only at hSw); go_simp; try with_reducible rfl)
    try simp only [Act.put, List.setIfInBounds_toArray, List.set_cons_zero, List.set_cons_succ]
    refine wpAnyH_take (i := 6) (oi := { dst := some 24, op := Op.load 31 (Operand.tmp 3), type := 31, pos := "ref.go:127", after := #[], guard := none }) (v := ?vh543) rfl ?hsh543 ?hfh543 ?hrh543 ?hQh543 ?hyh543 (by assumption) ?resth543
    case hsh543 => kernel_rfl
    case hfh543 => kernel_rfl
    case hrh543 => kernel_rfl
    case hQh543 => exact fun _ _ _ h => h
    case hyh543 => (refine Or.inl ⟨by rfl, ?_⟩; intro w hSw; (try dsimp only at hSw); go_simp; try with_reducible rfl)
    try simp only [Act.put, List.setIfInBounds_toArray, List.set_cons_zero, List.set_cons_succ]
    refine wpAnyH_take (i := 7) (oi := { dst := some 25, op := Op.fieldAddr 46 (Operand.tmp 4) 1, type := 0, pos := "ref.go:127", after := #[], guard := none }) (v := ?vh544) rfl ?hsh544 ?hfh544 ?hrh544 ?hQh544 ?hyh544 (by assumption) ?resth544
    case hsh544 => kernel_rfl
    case hfh544 => kernel_rfl
    case hrh544 => kernel_rfl
    case hQh544 => exact fun _ _ _ h => h
    case hyh544 => (refine Or.inl ⟨by rfl, ?_⟩; intro w hSw; (try dsimp only at hSw); go_simp; try with_reducible rfl)
    try simp only [Act.put, List.setIfInBounds_toArray, List.set_cons_zero, List.set_cons_succ]
    refine wpAnyH_take (i := 8) (oi := { dst := some 26, op := Op.load 3 (Operand.tmp 25), type := 3, pos := "ref.go:127", after := #[{ on := 7, ground := Ground.data }], guard := none }) (v := ?vh545) rfl ?hsh545 ?hfh545 ?hrh545 ?hQh545 ?hyh545 (by assumption) ?resth545
    case hsh545 => kernel_rfl
    case hfh545 => kernel_rfl
    case hrh545 => kernel_rfl
    case hQh545 => exact fun _ _ _ h => h
    case hyh545 => (refine Or.inl ⟨by rfl, ?_⟩; intro w hSw; (try dsimp only at hSw); go_simp; try with_reducible rfl)
    try simp only [Act.put, List.setIfInBounds_toArray, List.set_cons_zero, List.set_cons_succ]
    refine wpAnyH_take (i := 9) (oi := { dst := some 27, op := Op.fieldAddr 50 (Operand.tmp 5) 1, type := 0, pos := "ref.go:127", after := #[], guard := none }) (v := ?vh546) rfl ?hsh546 ?hfh546 ?hrh546 ?hQh546 ?hyh546 (by assumption) ?resth546
    case hsh546 => kernel_rfl
    case hfh546 => kernel_rfl
    case hrh546 => kernel_rfl
    case hQh546 => exact fun _ _ _ h => h
    case hyh546 => (refine Or.inl ⟨by rfl, ?_⟩; intro w hSw; (try dsimp only at hSw); go_simp; try with_reducible rfl)
    try simp only [Act.put, List.setIfInBounds_toArray, List.set_cons_zero, List.set_cons_succ]
    refine wpAnyH_take (i := 10) (oi := { dst := some 28, op := Op.load 3 (Operand.tmp 27), type := 3, pos := "ref.go:127", after := #[{ on := 9, ground := Ground.data }], guard := none }) (v := ?vh547) rfl ?hsh547 ?hfh547 ?hrh547 ?hQh547 ?hyh547 (by assumption) ?resth547
    case hsh547 => kernel_rfl
    case hfh547 => kernel_rfl
    case hrh547 => kernel_rfl
    case hQh547 => exact fun _ _ _ h => h
    case hyh547 => (refine Or.inl ⟨by rfl, ?_⟩; intro w hSw; (try dsimp only at hSw); go_simp; try with_reducible rfl)
    try simp only [Act.put, List.setIfInBounds_toArray, List.set_cons_zero, List.set_cons_succ]
    refine wpAnyH_take (i := 11) (oi := { dst := some 29, op := Op.binOp BinOp.add 3 (Operand.tmp 26) (Operand.tmp 28) 3, type := 3, pos := "ref.go:127", after := #[{ on := 8, ground := Ground.data }, { on := 10, ground := Ground.data }], guard := none }) (v := ?vh548) rfl ?hsh548 ?hfh548 ?hrh548 ?hQh548 ?hyh548 (by assumption) ?resth548
    case hsh548 => kernel_rfl
    case hfh548 => kernel_rfl
    case hrh548 => kernel_rfl
    case hQh548 => exact fun _ _ _ h => h
    case hyh548 => (refine Or.inl ⟨by rfl, ?_⟩; intro w hSw; (try dsimp only at hSw); go_simp; try with_reducible rfl)
    try simp only [Act.put, List.setIfInBounds_toArray, List.set_cons_zero, List.set_cons_succ]
    refine wpAnyH_take (i := 13) (oi := { dst := some 31, op := Op.load 31 (Operand.tmp 3), type := 31, pos := "ref.go:127", after := #[], guard := none }) (v := ?vh549) rfl ?hsh549 ?hfh549 ?hrh549 ?hQh549 ?hyh549 (by assumption) ?resth549
    case hsh549 => kernel_rfl
    case hfh549 => kernel_rfl
    case hrh549 => kernel_rfl
    case hQh549 => exact fun _ _ _ h => h
    case hyh549 => (refine Or.inl ⟨by rfl, ?_⟩; intro w hSw; (try dsimp only at hSw); go_simp; try with_reducible rfl)
    try simp only [Act.put, List.setIfInBounds_toArray, List.set_cons_zero, List.set_cons_succ]
    refine wpAnyH_take (i := 14) (oi := { dst := some 32, op := Op.fieldAddr 46 (Operand.tmp 4) 2, type := 0, pos := "ref.go:127", after := #[], guard := none }) (v := ?vh550) rfl ?hsh550 ?hfh550 ?hrh550 ?hQh550 ?hyh550 (by assumption) ?resth550
    case hsh550 => kernel_rfl
    case hfh550 => kernel_rfl
    case hrh550 => kernel_rfl
    case hQh550 => exact fun _ _ _ h => h
    case hyh550 => (refine Or.inl ⟨by rfl, ?_⟩; intro w hSw; (try dsimp only at hSw); go_simp; try with_reducible rfl)
    try simp only [Act.put, List.setIfInBounds_toArray, List.set_cons_zero, List.set_cons_succ]
    refine wpAnyH_take (i := 15) (oi := { dst := some 33, op := Op.load 3 (Operand.tmp 32), type := 3, pos := "ref.go:127", after := #[{ on := 14, ground := Ground.data }], guard := none }) (v := ?vh551) rfl ?hsh551 ?hfh551 ?hrh551 ?hQh551 ?hyh551 (by assumption) ?resth551
    case hsh551 => kernel_rfl
    case hfh551 => kernel_rfl
    case hrh551 => kernel_rfl
    case hQh551 => exact fun _ _ _ h => h
    case hyh551 => (refine Or.inl ⟨by rfl, ?_⟩; intro w hSw; (try dsimp only at hSw); go_simp; try with_reducible rfl)
    try simp only [Act.put, List.setIfInBounds_toArray, List.set_cons_zero, List.set_cons_succ]
    refine wpAnyH_take (i := 16) (oi := { dst := some 34, op := Op.binOp BinOp.add 3 (Operand.tmp 33) (Operand.const (Value.int IntKind.i64 1)) 3, type := 3, pos := "ref.go:127", after := #[{ on := 15, ground := Ground.data }], guard := none }) (v := ?vh552) rfl ?hsh552 ?hfh552 ?hrh552 ?hQh552 ?hyh552 (by assumption) ?resth552
    case hsh552 => kernel_rfl
    case hfh552 => kernel_rfl
    case hrh552 => kernel_rfl
    case hQh552 => exact fun _ _ _ h => h
    case hyh552 => (refine Or.inl ⟨by rfl, ?_⟩; intro w hSw; (try dsimp only at hSw); go_simp; try with_reducible rfl)
    try simp only [Act.put, List.setIfInBounds_toArray, List.set_cons_zero, List.set_cons_succ]
    refine wpAnyH_ready (rs := [12]) (by kernel_rfl) (by simp) ?_
    refine AllReadyH.cons (o := _) (by rfl) (fun K hK => ?_) AllReadyH.nil
    go_simp
    go_at_call 77
    refine (rround_c p x2 _ _ C535.out HSB.out HD.out.1).mono ?_; rintro e v553 ⟨rfl, hb554⟩
    have X555 := Lib.hid (X531.out.later hb554)
    have X556 := Lib.hid (X532.out.later hb554)
    have X557 := Lib.hid (X533.out.later hb554)
    have X558 := Lib.hid (X534.out.later hb554)
    have C559 := Lib.hid (C535.out.later hb554)
    have B560 := Lib.hid (B536.out.trans (hb554.mono B536.out.size))
    clear X531 X532 X533 X534 C535 B536
    rw [HR2.out]
    go_wp2_with fail
    refine hK.out _ _ (Hcall511.out _ _ hHeld (by assumption)) (fun hHeld561 => ?_)
    clear hK K hHeld
    clear hb554
    have hHeld := hHeld561
    clear hHeld561
    try simp only [Act.put, List.setIfInBounds_toArray, List.set_cons_zero, List.set_cons_succ]
    refine wpAnyH_ready (rs := [17]) (by kernel_rfl) (by simp) ?_
    refine AllReadyH.cons (o := _) (by rfl) (fun K hK => ?_) AllReadyH.nil
    go_simp
    go_at_call 77
    refine (rround_c p x3 _ _ C559.out HSB.out HD.out.2).mono ?_; rintro e v562 ⟨rfl, hb563⟩
    have X564 := Lib.hid (X555.out.later hb563)
    have X565 := Lib.hid (X556.out.later hb563)
    have X566 := Lib.hid (X557.out.later hb563)
    have X567 := Lib.hid (X558.out.later hb563)
    have C568 := Lib.hid (C559.out.later hb563)
    have B569 := Lib.hid (B560.out.trans (hb563.mono B560.out.size))
    clear X555 X556 X557 X558 C559 B560
    rw [HR3.out]
    go_wp2_with fail
    refine hK.out _ _ (Hcall511.out _ _ hHeld (by assumption)) (fun hHeld570 => ?_)
    clear hK K hHeld
    clear hb563
    have hHeld := hHeld570
    clear hHeld570
    try simp only [Act.put, List.setIfInBounds_toArray, List.set_cons_zero, List.set_cons_succ]
    refine wpAnyH_take (i := 18) (oi := { dst := some 36, op := Op.build 46 #[(0, Operand.tmp 23), (1, Operand.tmp 30), (2, Operand.tmp 35)], type := 46, pos := "ref.go:127", after := #[{ on := 5, ground := Ground.data }, { on := 12, ground := Ground.data }, { on := 17, ground := Ground.data }], guard := none }) (v := ?vh571) rfl ?hsh571 ?hfh571 ?hrh571 ?hQh571 ?hyh571 (by assumption) ?resth571
    case hsh571 => kernel_rfl
    case hfh571 => kernel_rfl
    case hrh571 => kernel_rfl
    case hQh571 => exact fun _ _ _ h => h
    case hyh571 => (refine Or.inl ⟨by rfl, ?_⟩; intro w hSw; (try dsimp only at hSw); go_simp; try with_reducible rfl)
    try simp only [Act.put, List.setIfInBounds_toArray, List.set_cons_zero, List.set_cons_succ]
    refine wpAnyH_ready (rs := [19]) (by kernel_rfl) (by simp) ?_
    refine AllReadyH.cons (o := _) (by rfl) (fun K hK => ?_) AllReadyH.nil
    have q572 : v562.cell? ⟨w.heap.size + 1 + 1 + 1, 0, none⟩ = some (.int .i64 0) := X567.out.cell 0
    have q573 : v562.cell? ⟨w.heap.size + 1 + 1 + 1, 1, none⟩ = some (.int .i64 0) := X567.out.cell 1
    have q574 : v562.cell? ⟨w.heap.size + 1 + 1 + 1, 2, none⟩ = some (.int .i64 0) := X567.out.cell 2
    have q575 : ∀ o, v562.frozen? ⟨w.heap.size + 1 + 1 + 1, o, none⟩ = false := fun o => X567.out.free o
    go_simp
    clear q572 q573 q574 q575
    have X576 := Lib.hid (show Box (((v562.setCell ⟨w.heap.size + 1 + 1 + 1, 0, none⟩ (.int .i64 0)).setCell ⟨w.heap.size + 1 + 1 + 1, 1, none⟩ (.int .i64 r2)).setCell ⟨w.heap.size + 1 + 1 + 1, 2, none⟩ (.int .i64 r3)) (w.heap.size) 31 #[.int .i64 p.bed.eye, .int .i64 p.bed.rings, .int .i64 p.bed.sectors, s, .int .i64 p.run.eye, .int .i64 p.run.rings, .int .i64 p.run.sectors, r, d] from ((((((X564.out).far (p := ⟨w.heap.size + 1 + 1 + 1, 0, none⟩) (by first | (simp; done) | (simp; omega) | omega) (.int .i64 0))).far (p := ⟨w.heap.size + 1 + 1 + 1, 1, none⟩) (by first | (simp; done) | (simp; omega) | omega) (.int .i64 r2))).far (p := ⟨w.heap.size + 1 + 1 + 1, 2, none⟩) (by first | (simp; done) | (simp; omega) | omega) (.int .i64 r3)))
    have X577 := Lib.hid (show Box (((v562.setCell ⟨w.heap.size + 1 + 1 + 1, 0, none⟩ (.int .i64 0)).setCell ⟨w.heap.size + 1 + 1 + 1, 1, none⟩ (.int .i64 r2)).setCell ⟨w.heap.size + 1 + 1 + 1, 2, none⟩ (.int .i64 r3)) (w.heap.size + 1) 46 #[.int .i64 a, .int .i64 b, .int .i64 t] from ((((((X565.out).far (p := ⟨w.heap.size + 1 + 1 + 1, 0, none⟩) (by first | (simp; done) | (simp; omega) | omega) (.int .i64 0))).far (p := ⟨w.heap.size + 1 + 1 + 1, 1, none⟩) (by first | (simp; done) | (simp; omega) | omega) (.int .i64 r2))).far (p := ⟨w.heap.size + 1 + 1 + 1, 2, none⟩) (by first | (simp; done) | (simp; omega) | omega) (.int .i64 r3)))
    have X578 := Lib.hid (show Box (((v562.setCell ⟨w.heap.size + 1 + 1 + 1, 0, none⟩ (.int .i64 0)).setCell ⟨w.heap.size + 1 + 1 + 1, 1, none⟩ (.int .i64 r2)).setCell ⟨w.heap.size + 1 + 1 + 1, 2, none⟩ (.int .i64 r3)) (w.heap.size + 1 + 1) 50 #[.int .i64 mo, .int .i64 ms, .bool mc] from ((((((X566.out).far (p := ⟨w.heap.size + 1 + 1 + 1, 0, none⟩) (by first | (simp; done) | (simp; omega) | omega) (.int .i64 0))).far (p := ⟨w.heap.size + 1 + 1 + 1, 1, none⟩) (by first | (simp; done) | (simp; omega) | omega) (.int .i64 r2))).far (p := ⟨w.heap.size + 1 + 1 + 1, 2, none⟩) (by first | (simp; done) | (simp; omega) | omega) (.int .i64 r3)))
    have X579 := Lib.hid (show Box (((v562.setCell ⟨w.heap.size + 1 + 1 + 1, 0, none⟩ (.int .i64 0)).setCell ⟨w.heap.size + 1 + 1 + 1, 1, none⟩ (.int .i64 r2)).setCell ⟨w.heap.size + 1 + 1 + 1, 2, none⟩ (.int .i64 r3)) (w.heap.size + 1 + 1 + 1) 46 #[.int .i64 0, .int .i64 r2, .int .i64 r3] from ((((((X567.out).put 0 (.int .i64 0))).put 1 (.int .i64 r2))).put 2 (.int .i64 r3)))
    have B580 := Lib.hid ((((((B569.out).setCell (p := ⟨w.heap.size + 1 + 1 + 1, 0, none⟩) (by first | (simp; done) | (simp; omega) | omega) (.int .i64 0))).setCell (p := ⟨w.heap.size + 1 + 1 + 1, 1, none⟩) (by first | (simp; done) | (simp; omega) | omega) (.int .i64 r2))).setCell (p := ⟨w.heap.size + 1 + 1 + 1, 2, none⟩) (by first | (simp; done) | (simp; omega) | omega) (.int .i64 r3))
    refine hK.out _ _ (Hput513.out _ 2 (.int .i64 r3) (Hput513.out _ 1 (.int .i64 r2) (Hput513.out _ 0 (.int .i64 0) hHeld))) (fun hHeld581 => ?_)
    clear hK K hHeld
    have hHeld := hHeld581
    clear hHeld581
    try simp only [Act.put, List.setIfInBounds_toArray, List.set_cons_zero, List.set_cons_succ]
    refine wpAnyH_take (i := 20) (oi := { dst := some 7, op := Op.assign (Operand.const (Value.bool false)), type := 4, pos := "ref.go:127", after := #[{ on := 19, ground := Ground.chain }, { on := 0, ground := Ground.phase }, { on := 1, ground := Ground.phase }, { on := 2, ground := Ground.phase }, { on := 3, ground := Ground.phase }, { on := 4, ground := Ground.phase }, { on := 5, ground := Ground.phase }, { on := 6, ground := Ground.phase }, { on := 7, ground := Ground.phase }, { on := 8, ground := Ground.phase }, { on := 9, ground := Ground.phase }, { on := 10, ground := Ground.phase }, { on := 11, ground := Ground.phase }, { on := 12, ground := Ground.phase }, { on := 13, ground := Ground.phase }, { on := 14, ground := Ground.phase }, { on := 15, ground := Ground.phase }, { on := 16, ground := Ground.phase }, { on := 17, ground := Ground.phase }, { on := 18, ground := Ground.phase }, { on := 19, ground := Ground.phase }], guard := none }) (v := ?vh582) rfl ?hsh582 ?hfh582 ?hrh582 ?hQh582 ?hyh582 (by assumption) ?resth582
    case hsh582 => kernel_rfl
    case hfh582 => kernel_rfl
    case hrh582 => kernel_rfl
    case hQh582 => exact fun _ _ _ h => h
    case hyh582 => (refine Or.inl ⟨by rfl, ?_⟩; intro w hSw; (try dsimp only at hSw); go_simp; try with_reducible rfl)
    try simp only [Act.put, List.setIfInBounds_toArray, List.set_cons_zero, List.set_cons_succ]
    refine wpAnyH_done (by kernel_rfl) ?_ _
    refine NoPanic.normal ?_
    clear hHeld Hcall511 Hini512 Hput513
    obtain ⟨W583, hW584⟩ : ∃ Wzz, (((v562.setCell ⟨w.heap.size + 1 + 1 + 1, 0, none⟩ (.int .i64 0)).setCell ⟨w.heap.size + 1 + 1 + 1, 1, none⟩ (.int .i64 r2)).setCell ⟨w.heap.size + 1 + 1 + 1, 2, none⟩ (.int .i64 r3)) = Wzz := ⟨_, rfl⟩
    have x585 := X576.out
    rw [hW584] at x585
    have X585 := Lib.hid x585
    clear x585 X576
    have x586 := X577.out
    rw [hW584] at x586
    have X586 := Lib.hid x586
    clear x586 X577
    have x587 := X578.out
    rw [hW584] at x587
    have X587 := Lib.hid x587
    clear x587 X578
    have x588 := X579.out
    rw [hW584] at x588
    have X588 := Lib.hid x588
    clear x588 X579
    have b589 := B580.out
    rw [hW584] at b589
    have B589 := Lib.hid b589
    clear b589 B580
    rw [hW584]
    clear hW584
    have q590 : W583.cell? ⟨w.heap.size, 0, none⟩ = some (.int .i64 p.bed.eye) := X585.out.cell 0
    have q591 : W583.cell? ⟨w.heap.size, 1, none⟩ = some (.int .i64 p.bed.rings) := X585.out.cell 1
    have q592 : W583.cell? ⟨w.heap.size, 2, none⟩ = some (.int .i64 p.bed.sectors) := X585.out.cell 2
    have q593 : W583.cell? ⟨w.heap.size, 3, none⟩ = some (s) := X585.out.cell 3
    have q594 : W583.cell? ⟨w.heap.size, 4, none⟩ = some (.int .i64 p.run.eye) := X585.out.cell 4
    have q595 : W583.cell? ⟨w.heap.size, 5, none⟩ = some (.int .i64 p.run.rings) := X585.out.cell 5
    have q596 : W583.cell? ⟨w.heap.size, 6, none⟩ = some (.int .i64 p.run.sectors) := X585.out.cell 6
    have q597 : W583.cell? ⟨w.heap.size, 7, none⟩ = some (r) := X585.out.cell 7
    have q598 : W583.cell? ⟨w.heap.size, 8, none⟩ = some (d) := X585.out.cell 8
    have q599 : W583.cell? ⟨w.heap.size + 1, 0, none⟩ = some (.int .i64 a) := X586.out.cell 0
    have q600 : W583.cell? ⟨w.heap.size + 1, 1, none⟩ = some (.int .i64 b) := X586.out.cell 1
    have q601 : W583.cell? ⟨w.heap.size + 1, 2, none⟩ = some (.int .i64 t) := X586.out.cell 2
    have q602 : W583.cell? ⟨w.heap.size + 1 + 1, 0, none⟩ = some (.int .i64 mo) := X587.out.cell 0
    have q603 : W583.cell? ⟨w.heap.size + 1 + 1, 1, none⟩ = some (.int .i64 ms) := X587.out.cell 1
    have q604 : W583.cell? ⟨w.heap.size + 1 + 1, 2, none⟩ = some (.bool mc) := X587.out.cell 2
    have q605 : W583.cell? ⟨w.heap.size + 1 + 1 + 1, 0, none⟩ = some (.int .i64 0) := X588.out.cell 0
    have q606 : W583.cell? ⟨w.heap.size + 1 + 1 + 1, 1, none⟩ = some (.int .i64 r2) := X588.out.cell 1
    have q607 : W583.cell? ⟨w.heap.size + 1 + 1 + 1, 2, none⟩ = some (.int .i64 r3) := X588.out.cell 2
    have fz608 : ∀ o, W583.frozen? ⟨w.heap.size + 1 + 1 + 1, o, none⟩ = false := fun o => X588.out.free o
    go_wp2_with fail
    (try simp only [Exit.inBlock, Exit.then])
    refine endS2 (t := 6) (u := 7) (x := .bool false) (v := .tuple #[stV (nextS p ⟨a, b, t⟩ ⟨mo, ms, mc⟩), .bool false]) ?_ ?_ ?_ X588.out B589.out ?_
    · rfl
    · rfl
    · rfl
    · rw [HN.out, HX.out]; rfl


theorem rnext_c (p : Pr) (a b t mo ms : Int) (mc : Bool) (v : Value) (w : World) (h : IsPair w w.heap.size v p) (h0 : ckE p = 0) (hs : hasB p ⟨a, b, t⟩ = true) (hm : mvB ⟨mo, ms, mc⟩ = true) : Calls Tryz.prog 78 #[v, .agg #[.int .i64 a, .int .i64 b, .int .i64 t], .agg #[.int .i64 mo, .int .i64 ms, .bool mc]] w fun e w' => e = .returned (.tuple #[stV (nextS p ⟨a, b, t⟩ ⟨mo, ms, mc⟩), .bool (outB p ⟨a, b, t⟩ ⟨mo, ms, mc⟩)]) ∧ Below w.heap.size w w' := by
  by_cases ho : a + mo = p.bed.rings
  · have h1 : outB p ⟨a, b, t⟩ ⟨mo, ms, mc⟩ = true := by unfold outB; exact decide_eq_true ho
    have h2 : nextS p ⟨a, b, t⟩ ⟨mo, ms, mc⟩ = st0 := by unfold nextS; rw [if_pos h1]
    rw [h1, h2]
    exact rnext_out p a b t mo ms mc v w h h0 hs hm ho
  · have h1 : outB p ⟨a, b, t⟩ ⟨mo, ms, mc⟩ = false := by unfold outB; exact decide_eq_false ho
    rw [h1]
    exact rnext_in p a b t mo ms mc v w h h0 hs hm ho
end Go.Proofs.YtikfiallhmhicaaGreat

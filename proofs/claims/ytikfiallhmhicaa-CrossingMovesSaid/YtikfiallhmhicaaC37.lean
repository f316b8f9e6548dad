/- Layer 2: the specification: where a move leads. -/
import Derived.Test.YtikfiallhmhicaaC36
import Derived.Test.YtikfiallhmhicaaC2A
set_option linter.all false
namespace Go.Proofs.Ytikfiallhmhicaa
open Go.RowKit


theorem eqM_comm (a b : Mv) : eqM a b = eqM b a := by
  cases h : eqM b a
  · cases h2 : eqM a b
    · rfl
    · rw [eqM_iff.1 h2] at h; rw [eqM_iff.2 rfl] at h; cases h
  · rw [eqM_iff.1 h]; exact eqM_iff.2 rfl
set_option maxRecDepth 100000 in
set_option maxHeartbeats 8000000 in
theorem kof_c (l : List Mv) (p q : Int) (r : Bool) (v : Value) (w : World) (h : Moves w w.heap.size v l) (h3 : l.length ≤ 3) : Calls Try.prog 53 #[.agg #[.int .i64 p, .int .i64 q, .bool r], v] w fun e w' => e = .returned (.bool (hasM l ⟨p, q, r⟩)) ∧ Below w.heap.size w w' := by
  obtain ⟨n, hn⟩ : ∃ n, l.length = n := ⟨_, rfl⟩
  have HN := Lib.hid hn
  have HM := Lib.hid h
  obtain ⟨hlen, A, c, rfl, hcap, -⟩ := h
  rw [hn] at HM hlen h3 ⊢
  clear hcap hn
  go_enter Try.func53, Try.ntmps53
  go_wp2_with fail
  obtain ⟨W1, hW2⟩ : ∃ Wzz, (w.alloc (.cells #[.int .i64 p, .int .i64 q, .bool r] 41)) = Wzz := ⟨_, rfl⟩
  have B3 := Lib.hid (show Below w.heap.size w W1 by rw [← hW2]; exact ((Below.refl w.heap.size w).alloc (Nat.le_refl _) _))
  have X4 := Lib.hid (show Box W1 (w.heap.size) 41 #[.int .i64 p, .int .i64 q, .bool r] by rw [← hW2]; exact Box.made w 41 #[.int .i64 p, .int .i64 q, .bool r])
  have SZ5 := Lib.hid (show W1.heap.size = w.heap.size + 1 by rw [← hW2]; simp)
  rw [hW2]
  clear hW2
  have q6 : W1.cell? ⟨w.heap.size, 0, none⟩ = some (.int .i64 p) := X4.out.cell 0
  have q7 : W1.cell? ⟨w.heap.size, 1, none⟩ = some (.int .i64 q) := X4.out.cell 1
  have q8 : W1.cell? ⟨w.heap.size, 2, none⟩ = some (.bool r) := X4.out.cell 2
  go_loopw [5] (fun i wr => ∃ k : Nat, k ≤ n ∧ i = .int .i64 (k : Int) ∧ hasM (l.take k) ⟨p, q, r⟩ = false ∧ Box wr w.heap.size 41 #[.int .i64 p, .int .i64 q, .bool r] ∧ Below w.heap.size w wr) (fun i _ => n - (intOf i).toNat)
  case atStart => exact ⟨0, Nat.zero_le _, rfl, rfl, X4.out, B3.out⟩
  case round =>
    obtain ⟨k, hk, rfl, hno, hbx, hbr⟩ := hrel
    have HNO := Lib.hid hno
    have HBX := Lib.hid hbx
    have HBR := Lib.hid hbr
    have q0 : wr.cell? ⟨w.heap.size, 0, none⟩ = some (.int .i64 p) := hbx.cell 0
    have q1 : wr.cell? ⟨w.heap.size, 1, none⟩ = some (.int .i64 q) := hbx.cell 1
    have q2 : wr.cell? ⟨w.heap.size, 2, none⟩ = some (.bool r) := hbx.cell 2
    clear hno hbx hbr
    by_cases hlt : k < n
    · have hdk : decide ((k : Int) < (n : Int)) = true := by simpa using hlt
      have i0 : (0 : Int) ≤ (k : Int) := Int.natCast_nonneg _
      have i1 : (k : Int) < (n : Int) := by omega
      obtain ⟨b, off, c', hv, hbB, x1, x2, x3⟩ := HM.out.at (k := k) (by rw [HN.out]; exact hlt)
      rw [HN.out] at hv
      cases hv
      have y1 := keepd x1 HBR.out hbB
      have y2 := keepd x2 HBR.out hbB
      have y3 := keepd x3 HBR.out hbB
      obtain ⟨⟨x, y, z⟩, hm⟩ : ∃ m, nthM l k = m := ⟨_, rfl⟩
      have HK := Lib.hid hm
      have HLT := Lib.hid hlt
      rw [hm] at y1 y2 y3
      dsimp only at y1 y2 y3
      clear x1 x2 x3 hbB hm hlt
      have hE : ∀ w : World, (binOp .eql 41 (.agg #[.int .i64 x, .int .i64 y, .bool z]) (.agg #[.int .i64 p, .int .i64 q, .bool r])).run Try.prog w = .ok (.bool (eqM ⟨p, q, r⟩ ⟨x, y, z⟩)) w := fun w => by rw [eqM_comm]; exact eqMove x y z p q r w
      cases he : eqM ⟨p, q, r⟩ ⟨x, y, z⟩
      · have HS := Lib.hid (show hasM (l.take (k + 1)) ⟨p, q, r⟩ = false by rw [hasM_snoc (by rw [HN.out]; exact HLT.out), HNO.out, HK.out, he]; rfl)
        rw [he] at hE
        clear he
        go_wp2_with fail
        go_quiet (fail)
        go_wp2_with fail
        go_roundw
        case rel => exact ⟨k + 1, by have := HLT.out; omega, by go_num, HS.out, HBX.out.later (below_drewN _ _), HBR.out.trans (below_drewN _ _)⟩
        case measure => have := HLT.out; simp [intOf]; omega
      · have HS := Lib.hid (show hasM l ⟨p, q, r⟩ = true from hasM_at (k := k) (by rw [HN.out]; exact HLT.out) (by rw [HK.out]; exact he))
        rw [he] at hE
        clear he
        go_wp2_with fail
        go_quiet (fail)
        go_wp2_with fail
        go_ret
        exact ⟨ret_bool HS.out.symm, HBR.out.trans (below_drewN _ _)⟩
    · obtain rfl : k = n := by omega
      have hdk : decide ((k : Int) < (k : Int)) = false := by simp
      clear hlt
      go_wp2_with fail
      go_ret
      exact ⟨ret_bool (by have h := HNO.out; rw [← HN.out, List.take_length] at h; rw [h]), HBR.out⟩

set_option maxRecDepth 100000 in
set_option maxHeartbeats 8000000 in
theorem kStep_out (p : Pr) (a b t mo ms : Int) (mc : Bool) (v : Value) (w : World) (h : IsPair w w.heap.size v p) (h0 : ckE p = 0) (hs : hasB p ⟨a, b, t⟩ = true) (hm : mvB ⟨mo, ms, mc⟩ = true) (ho : a + mo = p.bed.rings) : Calls Try.prog 54 #[v, .agg #[.int .i64 a, .int .i64 b, .int .i64 t], .agg #[.int .i64 mo, .int .i64 ms, .bool mc]] w fun e w' => e = .returned (.tuple #[stV st0, .bool false]) ∧ Below w.heap.size w w' := by
  obtain ⟨s, r, d, hpv, i1, i2, i3⟩ := id h
  subst hpv
  obtain ⟨⟨e1, R1, S1, k1⟩, ⟨e2, R2, S2, k2⟩, dr⟩ := p
  obtain ⟨SA, sn, sc, rfl⟩ : ∃ A n c, s = .slice A n c := by obtain ⟨-, A, c, rfl, -⟩ := i1; exact ⟨_, _, _, rfl⟩
  obtain ⟨RA, rn, rc, rfl⟩ : ∃ A n c, r = .slice A n c := by obtain ⟨-, A, c, rfl, -⟩ := i2; exact ⟨_, _, _, rfl⟩
  unfold pairV at *
  dsimp only at *
  obtain ⟨hR, hS, -⟩ := ckE_bd h0
  obtain ⟨c1, c2, c3⟩ := hasB_parts.1 hs
  obtain ⟨c4, c5⟩ := mvB_parts.1 hm
  dsimp only at c1 c2 c3 hR hS
  have HSB := Lib.hid hS
  have HP := Lib.hid h0
  have x1 : IntKind.i64.wrap (a + mo) = a + mo := wrap_id (by omega) (by omega)
  clear x1
  have x1 : IntKind.i64.wrap (a + mo) = R1 := by rw [ho]; exact wrap_id (by omega) (by omega)
  have n1 : (R1 == R1) = true := by simp
  clear h h0 hs hm hR hS c1 c2 c3 c4 c5 ho i1 i2 i3 HP HSB
  go_enter Try.func54, Try.ntmps54
  go_wp2_with fail
  obtain ⟨W9, hW10⟩ : ∃ Wzz, ((((w.alloc (.cells #[.int .i64 e1, .int .i64 R1, .int .i64 S1, .slice SA sn sc, .int .i64 e2, .int .i64 R2, .int .i64 S2, .slice RA rn rc, d] 27)).alloc (.cells #[.int .i64 a, .int .i64 b, .int .i64 t] 29)).alloc (.cells #[.int .i64 mo, .int .i64 ms, .bool mc] 41)).alloc (.cells #[.int .i64 0, .int .i64 0, .int .i64 0] 29)) = Wzz := ⟨_, rfl⟩
  have B11 := Lib.hid (show Below w.heap.size w W9 by rw [← hW10]; exact (((((Below.refl w.heap.size w).alloc (Nat.le_refl _) _).alloc (by first | (simp; done) | (simp; omega)) _).alloc (by first | (simp; done) | (simp; omega)) _).alloc (by first | (simp; done) | (simp; omega)) _))
  have X12 := Lib.hid (show Box W9 (w.heap.size) 27 #[.int .i64 e1, .int .i64 R1, .int .i64 S1, .slice SA sn sc, .int .i64 e2, .int .i64 R2, .int .i64 S2, .slice RA rn rc, d] by rw [← hW10]; exact Box.alloc (Box.alloc (Box.alloc (Box.made w 27 #[.int .i64 e1, .int .i64 R1, .int .i64 S1, .slice SA sn sc, .int .i64 e2, .int .i64 R2, .int .i64 S2, .slice RA rn rc, d]) (.cells #[.int .i64 a, .int .i64 b, .int .i64 t] 29)) (.cells #[.int .i64 mo, .int .i64 ms, .bool mc] 41)) (.cells #[.int .i64 0, .int .i64 0, .int .i64 0] 29))
  have X13 := Lib.hid (show Box W9 (w.heap.size + 1) 29 #[.int .i64 a, .int .i64 b, .int .i64 t] by
    have hz := Box.alloc (Box.alloc (Box.made (w.alloc (.cells #[.int .i64 e1, .int .i64 R1, .int .i64 S1, .slice SA sn sc, .int .i64 e2, .int .i64 R2, .int .i64 S2, .slice RA rn rc, d] 27)) 29 #[.int .i64 a, .int .i64 b, .int .i64 t]) (.cells #[.int .i64 mo, .int .i64 ms, .bool mc] 41)) (.cells #[.int .i64 0, .int .i64 0, .int .i64 0] 29)
    rw [World.size_alloc] at hz
    rw [← hW10]; exact hz)
  have X14 := Lib.hid (show Box W9 (w.heap.size + 1 + 1) 41 #[.int .i64 mo, .int .i64 ms, .bool mc] by
    have hz := Box.alloc (Box.made ((w.alloc (.cells #[.int .i64 e1, .int .i64 R1, .int .i64 S1, .slice SA sn sc, .int .i64 e2, .int .i64 R2, .int .i64 S2, .slice RA rn rc, d] 27)).alloc (.cells #[.int .i64 a, .int .i64 b, .int .i64 t] 29)) 41 #[.int .i64 mo, .int .i64 ms, .bool mc]) (.cells #[.int .i64 0, .int .i64 0, .int .i64 0] 29)
    rw [World.size_alloc, World.size_alloc] at hz
    rw [← hW10]; exact hz)
  have X15 := Lib.hid (show Box W9 (w.heap.size + 1 + 1 + 1) 29 #[.int .i64 0, .int .i64 0, .int .i64 0] by
    have hz := Box.made (((w.alloc (.cells #[.int .i64 e1, .int .i64 R1, .int .i64 S1, .slice SA sn sc, .int .i64 e2, .int .i64 R2, .int .i64 S2, .slice RA rn rc, d] 27)).alloc (.cells #[.int .i64 a, .int .i64 b, .int .i64 t] 29)).alloc (.cells #[.int .i64 mo, .int .i64 ms, .bool mc] 41)) 29 #[.int .i64 0, .int .i64 0, .int .i64 0]
    rw [World.size_alloc, World.size_alloc, World.size_alloc] at hz
    rw [← hW10]; exact hz)
  have SZ16 := Lib.hid (show W9.heap.size = w.heap.size + 1 + 1 + 1 + 1 by rw [← hW10]; simp)
  rw [hW10]
  clear hW10
  have q17 : W9.cell? ⟨w.heap.size, 0, none⟩ = some (.int .i64 e1) := X12.out.cell 0
  have q18 : W9.cell? ⟨w.heap.size, 1, none⟩ = some (.int .i64 R1) := X12.out.cell 1
  have q19 : W9.cell? ⟨w.heap.size, 2, none⟩ = some (.int .i64 S1) := X12.out.cell 2
  have q20 : W9.cell? ⟨w.heap.size, 3, none⟩ = some (.slice SA sn sc) := X12.out.cell 3
  have q21 : W9.cell? ⟨w.heap.size, 4, none⟩ = some (.int .i64 e2) := X12.out.cell 4
  have q22 : W9.cell? ⟨w.heap.size, 5, none⟩ = some (.int .i64 R2) := X12.out.cell 5
  have q23 : W9.cell? ⟨w.heap.size, 6, none⟩ = some (.int .i64 S2) := X12.out.cell 6
  have q24 : W9.cell? ⟨w.heap.size, 7, none⟩ = some (.slice RA rn rc) := X12.out.cell 7
  have q25 : W9.cell? ⟨w.heap.size, 8, none⟩ = some (d) := X12.out.cell 8
  have q26 : W9.cell? ⟨w.heap.size + 1, 0, none⟩ = some (.int .i64 a) := X13.out.cell 0
  have q27 : W9.cell? ⟨w.heap.size + 1, 1, none⟩ = some (.int .i64 b) := X13.out.cell 1
  have q28 : W9.cell? ⟨w.heap.size + 1, 2, none⟩ = some (.int .i64 t) := X13.out.cell 2
  have q29 : W9.cell? ⟨w.heap.size + 1 + 1, 0, none⟩ = some (.int .i64 mo) := X14.out.cell 0
  have q30 : W9.cell? ⟨w.heap.size + 1 + 1, 1, none⟩ = some (.int .i64 ms) := X14.out.cell 1
  have q31 : W9.cell? ⟨w.heap.size + 1 + 1, 2, none⟩ = some (.bool mc) := X14.out.cell 2
  have q32 : W9.cell? ⟨w.heap.size + 1 + 1 + 1, 0, none⟩ = some (.int .i64 0) := X15.out.cell 0
  have q33 : W9.cell? ⟨w.heap.size + 1 + 1 + 1, 1, none⟩ = some (.int .i64 0) := X15.out.cell 1
  have q34 : W9.cell? ⟨w.heap.size + 1 + 1 + 1, 2, none⟩ = some (.int .i64 0) := X15.out.cell 2
  have fz35 : ∀ o, W9.frozen? ⟨w.heap.size + 1 + 1 + 1, o, none⟩ = false := fun o => X15.out.free o
  try go_wp2_with fail
  (try simp only [Exit.inBlock, Exit.then])
  refine endS2 (t := 6) (u := 7) (x := .bool false) (v := .tuple #[stV st0, .bool false]) ?_ ?_ ?_ X15.out B11.out ?_ <;> rfl

set_option maxRecDepth 100000 in
set_option maxHeartbeats 8000000 in
theorem kStep_in (p : Pr) (a b t mo ms : Int) (mc : Bool) (v : Value) (w : World) (h : IsPair w w.heap.size v p) (h0 : ckE p = 0) (hs : hasB p ⟨a, b, t⟩ = true) (hm : mvB ⟨mo, ms, mc⟩ = true) (ho : a + mo ≠ p.bed.rings) : Calls Try.prog 54 #[v, .agg #[.int .i64 a, .int .i64 b, .int .i64 t], .agg #[.int .i64 mo, .int .i64 ms, .bool mc]] w fun e w' => e = .returned (.tuple #[stV (nextS p ⟨a, b, t⟩ ⟨mo, ms, mc⟩), .bool true]) ∧ Below w.heap.size w w' := by
  obtain ⟨s, r, d, hpv, i1, i2, i3⟩ := id h
  subst hpv
  obtain ⟨⟨e1, R1, S1, k1⟩, ⟨e2, R2, S2, k2⟩, dr⟩ := p
  obtain ⟨SA, sn, sc, rfl⟩ : ∃ A n c, s = .slice A n c := by obtain ⟨-, A, c, rfl, -⟩ := i1; exact ⟨_, _, _, rfl⟩
  obtain ⟨RA, rn, rc, rfl⟩ : ∃ A n c, r = .slice A n c := by obtain ⟨-, A, c, rfl, -⟩ := i2; exact ⟨_, _, _, rfl⟩
  unfold pairV at *
  dsimp only at *
  obtain ⟨hR, hS, -⟩ := ckE_bd h0
  obtain ⟨c1, c2, c3⟩ := hasB_parts.1 hs
  obtain ⟨c4, c5⟩ := mvB_parts.1 hm
  dsimp only at c1 c2 c3 hR hS
  have HSB := Lib.hid hS
  have HP := Lib.hid h0
  have x1 : IntKind.i64.wrap (a + mo) = a + mo := wrap_id (by omega) (by omega)
  have HD := Lib.hid (show (-S1 ≤ b + ms ∧ b + ms ≤ 200) ∧ -S1 ≤ t + 1 ∧ t + 1 ≤ 200 by omega)
  have y2 : IntKind.i64.wrap (b + ms) = b + ms := wrap_id (by omega) (by omega)
  have y3 : IntKind.i64.wrap (t + 1) = t + 1 := wrap_id (by omega) (by omega)
  have HN0 : nextS ⟨⟨e1, R1, S1, k1⟩, ⟨e2, R2, S2, k2⟩, dr⟩ ⟨a, b, t⟩ ⟨mo, ms, mc⟩ = ⟨max 0 (a + mo), arnd (b + ms) S1, arnd (t + 1) S1⟩ := by
    unfold nextS outB
    dsimp only
    rw [if_neg (by simpa using ho)]
  have f1 : ((a + mo) == R1) = false := by simpa using ho
  clear h h0 hs hm hR hS c1 c2 c3 c4 c5 ho i1 i2 i3 HP
  obtain ⟨n1, hn1⟩ : ∃ n, a + mo = n := ⟨_, rfl⟩
  obtain ⟨x2, hx2⟩ : ∃ n, b + ms = n := ⟨_, rfl⟩
  obtain ⟨x3, hx3⟩ : ∃ n, t + 1 = n := ⟨_, rfl⟩
  rw [hx2, hx3] at HD
  have v1 : IntKind.i64.wrap (a + mo) = n1 := by rw [x1, hn1]
  have v2 : IntKind.i64.wrap (b + ms) = x2 := by rw [y2, hx2]
  have v3 : IntKind.i64.wrap (t + 1) = x3 := by rw [y3, hx3]
  rw [hn1] at HN0 f1
  rw [hx2, hx3] at HN0
  obtain ⟨r2, hr2⟩ : ∃ n, arnd x2 S1 = n := ⟨_, rfl⟩
  obtain ⟨r3, hr3⟩ : ∃ n, arnd x3 S1 = n := ⟨_, rfl⟩
  rw [hr2, hr3] at HN0
  have HR2 := Lib.hid hr2
  have HR3 := Lib.hid hr3
  have HN := Lib.hid HN0
  have f2 : decide (n1 = R1) = false := by simpa using f1
  clear x1 y2 y3 hn1 hx2 hx3 hr2 hr3 HN0
  go_enter Try.func54, Try.ntmps54
  go_wp2_with fail
  obtain ⟨W36, hW37⟩ : ∃ Wzz, ((((w.alloc (.cells #[.int .i64 e1, .int .i64 R1, .int .i64 S1, .slice SA sn sc, .int .i64 e2, .int .i64 R2, .int .i64 S2, .slice RA rn rc, d] 27)).alloc (.cells #[.int .i64 a, .int .i64 b, .int .i64 t] 29)).alloc (.cells #[.int .i64 mo, .int .i64 ms, .bool mc] 41)).alloc (.cells #[.int .i64 0, .int .i64 0, .int .i64 0] 29)) = Wzz := ⟨_, rfl⟩
  have B38 := Lib.hid (show Below w.heap.size w W36 by rw [← hW37]; exact (((((Below.refl w.heap.size w).alloc (Nat.le_refl _) _).alloc (by first | (simp; done) | (simp; omega)) _).alloc (by first | (simp; done) | (simp; omega)) _).alloc (by first | (simp; done) | (simp; omega)) _))
  have X39 := Lib.hid (show Box W36 (w.heap.size) 27 #[.int .i64 e1, .int .i64 R1, .int .i64 S1, .slice SA sn sc, .int .i64 e2, .int .i64 R2, .int .i64 S2, .slice RA rn rc, d] by rw [← hW37]; exact Box.alloc (Box.alloc (Box.alloc (Box.made w 27 #[.int .i64 e1, .int .i64 R1, .int .i64 S1, .slice SA sn sc, .int .i64 e2, .int .i64 R2, .int .i64 S2, .slice RA rn rc, d]) (.cells #[.int .i64 a, .int .i64 b, .int .i64 t] 29)) (.cells #[.int .i64 mo, .int .i64 ms, .bool mc] 41)) (.cells #[.int .i64 0, .int .i64 0, .int .i64 0] 29))
  have X40 := Lib.hid (show Box W36 (w.heap.size + 1) 29 #[.int .i64 a, .int .i64 b, .int .i64 t] by
    have hz := Box.alloc (Box.alloc (Box.made (w.alloc (.cells #[.int .i64 e1, .int .i64 R1, .int .i64 S1, .slice SA sn sc, .int .i64 e2, .int .i64 R2, .int .i64 S2, .slice RA rn rc, d] 27)) 29 #[.int .i64 a, .int .i64 b, .int .i64 t]) (.cells #[.int .i64 mo, .int .i64 ms, .bool mc] 41)) (.cells #[.int .i64 0, .int .i64 0, .int .i64 0] 29)
    rw [World.size_alloc] at hz
    rw [← hW37]; exact hz)
  have X41 := Lib.hid (show Box W36 (w.heap.size + 1 + 1) 41 #[.int .i64 mo, .int .i64 ms, .bool mc] by
    have hz := Box.alloc (Box.made ((w.alloc (.cells #[.int .i64 e1, .int .i64 R1, .int .i64 S1, .slice SA sn sc, .int .i64 e2, .int .i64 R2, .int .i64 S2, .slice RA rn rc, d] 27)).alloc (.cells #[.int .i64 a, .int .i64 b, .int .i64 t] 29)) 41 #[.int .i64 mo, .int .i64 ms, .bool mc]) (.cells #[.int .i64 0, .int .i64 0, .int .i64 0] 29)
    rw [World.size_alloc, World.size_alloc] at hz
    rw [← hW37]; exact hz)
  have X42 := Lib.hid (show Box W36 (w.heap.size + 1 + 1 + 1) 29 #[.int .i64 0, .int .i64 0, .int .i64 0] by
    have hz := Box.made (((w.alloc (.cells #[.int .i64 e1, .int .i64 R1, .int .i64 S1, .slice SA sn sc, .int .i64 e2, .int .i64 R2, .int .i64 S2, .slice RA rn rc, d] 27)).alloc (.cells #[.int .i64 a, .int .i64 b, .int .i64 t] 29)).alloc (.cells #[.int .i64 mo, .int .i64 ms, .bool mc] 41)) 29 #[.int .i64 0, .int .i64 0, .int .i64 0]
    rw [World.size_alloc, World.size_alloc, World.size_alloc] at hz
    rw [← hW37]; exact hz)
  have SZ43 := Lib.hid (show W36.heap.size = w.heap.size + 1 + 1 + 1 + 1 by rw [← hW37]; simp)
  rw [hW37]
  clear hW37
  have q44 : W36.cell? ⟨w.heap.size, 0, none⟩ = some (.int .i64 e1) := X39.out.cell 0
  have q45 : W36.cell? ⟨w.heap.size, 1, none⟩ = some (.int .i64 R1) := X39.out.cell 1
  have q46 : W36.cell? ⟨w.heap.size, 2, none⟩ = some (.int .i64 S1) := X39.out.cell 2
  have q47 : W36.cell? ⟨w.heap.size, 3, none⟩ = some (.slice SA sn sc) := X39.out.cell 3
  have q48 : W36.cell? ⟨w.heap.size, 4, none⟩ = some (.int .i64 e2) := X39.out.cell 4
  have q49 : W36.cell? ⟨w.heap.size, 5, none⟩ = some (.int .i64 R2) := X39.out.cell 5
  have q50 : W36.cell? ⟨w.heap.size, 6, none⟩ = some (.int .i64 S2) := X39.out.cell 6
  have q51 : W36.cell? ⟨w.heap.size, 7, none⟩ = some (.slice RA rn rc) := X39.out.cell 7
  have q52 : W36.cell? ⟨w.heap.size, 8, none⟩ = some (d) := X39.out.cell 8
  have q53 : W36.cell? ⟨w.heap.size + 1, 0, none⟩ = some (.int .i64 a) := X40.out.cell 0
  have q54 : W36.cell? ⟨w.heap.size + 1, 1, none⟩ = some (.int .i64 b) := X40.out.cell 1
  have q55 : W36.cell? ⟨w.heap.size + 1, 2, none⟩ = some (.int .i64 t) := X40.out.cell 2
  have q56 : W36.cell? ⟨w.heap.size + 1 + 1, 0, none⟩ = some (.int .i64 mo) := X41.out.cell 0
  have q57 : W36.cell? ⟨w.heap.size + 1 + 1, 1, none⟩ = some (.int .i64 ms) := X41.out.cell 1
  have q58 : W36.cell? ⟨w.heap.size + 1 + 1, 2, none⟩ = some (.bool mc) := X41.out.cell 2
  have q59 : W36.cell? ⟨w.heap.size + 1 + 1 + 1, 0, none⟩ = some (.int .i64 0) := X42.out.cell 0
  have q60 : W36.cell? ⟨w.heap.size + 1 + 1 + 1, 1, none⟩ = some (.int .i64 0) := X42.out.cell 1
  have q61 : W36.cell? ⟨w.heap.size + 1 + 1 + 1, 2, none⟩ = some (.int .i64 0) := X42.out.cell 2
  have fz62 : ∀ o, W36.frozen? ⟨w.heap.size + 1 + 1 + 1, o, none⟩ = false := fun o => X42.out.free o
  rcases Int.lt_or_le 0 n1 with hpos | hneg
  · have HX := Lib.hid (show max 0 n1 = n1 by omega)
    have d1 : decide (n1 < 0) = false := by simp; omega
    have d2 : decide (0 < n1) = true := by simp; omega
    have d3 : ¬ n1 < 0 := by omega
    have d4 : ¬ n1 ≤ 0 := by omega
    go_wp2_with fail
    have hdr93 : Below (W36).heap.size (W36) (W36).drew := (Below.refl _ _).drew
    have lt78 := X39.out.lt
    have lt79 := X39.out.lt
    have lt80 := X39.out.lt
    have lt81 := X39.out.lt
    have lt82 := X39.out.lt
    have lt83 := X39.out.lt
    have lt84 := X39.out.lt
    have lt85 := X39.out.lt
    have lt86 := X39.out.lt
    have lt87 := X40.out.lt
    have lt88 := X40.out.lt
    have lt89 := X40.out.lt
    have lt90 := X41.out.lt
    have lt91 := X41.out.lt
    have lt92 := X41.out.lt
    have hcall94 : ∀ X Y : World, (fun Wz => Wz.cell? ⟨w.heap.size, 0, none⟩ = some (.int .i64 e1) ∧ Wz.cell? ⟨w.heap.size, 1, none⟩ = some (.int .i64 R1) ∧ Wz.cell? ⟨w.heap.size, 2, none⟩ = some (.int .i64 S1) ∧ Wz.cell? ⟨w.heap.size, 3, none⟩ = some (.slice SA sn sc) ∧ Wz.cell? ⟨w.heap.size, 4, none⟩ = some (.int .i64 e2) ∧ Wz.cell? ⟨w.heap.size, 5, none⟩ = some (.int .i64 R2) ∧ Wz.cell? ⟨w.heap.size, 6, none⟩ = some (.int .i64 S2) ∧ Wz.cell? ⟨w.heap.size, 7, none⟩ = some (.slice RA rn rc) ∧ Wz.cell? ⟨w.heap.size, 8, none⟩ = some (d) ∧ Wz.cell? ⟨w.heap.size + 1, 0, none⟩ = some (.int .i64 a) ∧ Wz.cell? ⟨w.heap.size + 1, 1, none⟩ = some (.int .i64 b) ∧ Wz.cell? ⟨w.heap.size + 1, 2, none⟩ = some (.int .i64 t) ∧ Wz.cell? ⟨w.heap.size + 1 + 1, 0, none⟩ = some (.int .i64 mo) ∧ Wz.cell? ⟨w.heap.size + 1 + 1, 1, none⟩ = some (.int .i64 ms) ∧ Wz.cell? ⟨w.heap.size + 1 + 1, 2, none⟩ = some (.bool mc) ∧ (W36).heap.size ≤ Wz.heap.size) X → Below X.heap.size X Y → (fun Wz => Wz.cell? ⟨w.heap.size, 0, none⟩ = some (.int .i64 e1) ∧ Wz.cell? ⟨w.heap.size, 1, none⟩ = some (.int .i64 R1) ∧ Wz.cell? ⟨w.heap.size, 2, none⟩ = some (.int .i64 S1) ∧ Wz.cell? ⟨w.heap.size, 3, none⟩ = some (.slice SA sn sc) ∧ Wz.cell? ⟨w.heap.size, 4, none⟩ = some (.int .i64 e2) ∧ Wz.cell? ⟨w.heap.size, 5, none⟩ = some (.int .i64 R2) ∧ Wz.cell? ⟨w.heap.size, 6, none⟩ = some (.int .i64 S2) ∧ Wz.cell? ⟨w.heap.size, 7, none⟩ = some (.slice RA rn rc) ∧ Wz.cell? ⟨w.heap.size, 8, none⟩ = some (d) ∧ Wz.cell? ⟨w.heap.size + 1, 0, none⟩ = some (.int .i64 a) ∧ Wz.cell? ⟨w.heap.size + 1, 1, none⟩ = some (.int .i64 b) ∧ Wz.cell? ⟨w.heap.size + 1, 2, none⟩ = some (.int .i64 t) ∧ Wz.cell? ⟨w.heap.size + 1 + 1, 0, none⟩ = some (.int .i64 mo) ∧ Wz.cell? ⟨w.heap.size + 1 + 1, 1, none⟩ = some (.int .i64 ms) ∧ Wz.cell? ⟨w.heap.size + 1 + 1, 2, none⟩ = some (.bool mc) ∧ (W36).heap.size ≤ Wz.heap.size) Y := by
      rintro X Y ⟨z63, z64, z65, z66, z67, z68, z69, z70, z71, z72, z73, z74, z75, z76, z77, xs⟩ hb
      have hb2 := Below.mono (B' := (W36).heap.size) hb xs
      exact ⟨keepd z63 hb2 lt78, keepd z64 hb2 lt79, keepd z65 hb2 lt80, keepd z66 hb2 lt81, keepd z67 hb2 lt82, keepd z68 hb2 lt83, keepd z69 hb2 lt84, keepd z70 hb2 lt85, keepd z71 hb2 lt86, keepd z72 hb2 lt87, keepd z73 hb2 lt88, keepd z74 hb2 lt89, keepd z75 hb2 lt90, keepd z76 hb2 lt91, keepd z77 hb2 lt92, Nat.le_trans xs hb.size⟩
    have ne97 : w.heap.size ≠ w.heap.size + 1 + 1 + 1 := by first | (simp; done) | (simp; omega) | omega
    have ne106 : w.heap.size + 1 ≠ w.heap.size + 1 + 1 + 1 := by first | (simp; done) | (simp; omega) | omega
    have ne109 : w.heap.size + 1 + 1 ≠ w.heap.size + 1 + 1 + 1 := by first | (simp; done) | (simp; omega) | omega
    have hput96 : ∀ (X : World) (o : Nat) (v : Value), (fun Wz => Wz.cell? ⟨w.heap.size, 0, none⟩ = some (.int .i64 e1) ∧ Wz.cell? ⟨w.heap.size, 1, none⟩ = some (.int .i64 R1) ∧ Wz.cell? ⟨w.heap.size, 2, none⟩ = some (.int .i64 S1) ∧ Wz.cell? ⟨w.heap.size, 3, none⟩ = some (.slice SA sn sc) ∧ Wz.cell? ⟨w.heap.size, 4, none⟩ = some (.int .i64 e2) ∧ Wz.cell? ⟨w.heap.size, 5, none⟩ = some (.int .i64 R2) ∧ Wz.cell? ⟨w.heap.size, 6, none⟩ = some (.int .i64 S2) ∧ Wz.cell? ⟨w.heap.size, 7, none⟩ = some (.slice RA rn rc) ∧ Wz.cell? ⟨w.heap.size, 8, none⟩ = some (d) ∧ Wz.cell? ⟨w.heap.size + 1, 0, none⟩ = some (.int .i64 a) ∧ Wz.cell? ⟨w.heap.size + 1, 1, none⟩ = some (.int .i64 b) ∧ Wz.cell? ⟨w.heap.size + 1, 2, none⟩ = some (.int .i64 t) ∧ Wz.cell? ⟨w.heap.size + 1 + 1, 0, none⟩ = some (.int .i64 mo) ∧ Wz.cell? ⟨w.heap.size + 1 + 1, 1, none⟩ = some (.int .i64 ms) ∧ Wz.cell? ⟨w.heap.size + 1 + 1, 2, none⟩ = some (.bool mc) ∧ (W36).heap.size ≤ Wz.heap.size) X → (fun Wz => Wz.cell? ⟨w.heap.size, 0, none⟩ = some (.int .i64 e1) ∧ Wz.cell? ⟨w.heap.size, 1, none⟩ = some (.int .i64 R1) ∧ Wz.cell? ⟨w.heap.size, 2, none⟩ = some (.int .i64 S1) ∧ Wz.cell? ⟨w.heap.size, 3, none⟩ = some (.slice SA sn sc) ∧ Wz.cell? ⟨w.heap.size, 4, none⟩ = some (.int .i64 e2) ∧ Wz.cell? ⟨w.heap.size, 5, none⟩ = some (.int .i64 R2) ∧ Wz.cell? ⟨w.heap.size, 6, none⟩ = some (.int .i64 S2) ∧ Wz.cell? ⟨w.heap.size, 7, none⟩ = some (.slice RA rn rc) ∧ Wz.cell? ⟨w.heap.size, 8, none⟩ = some (d) ∧ Wz.cell? ⟨w.heap.size + 1, 0, none⟩ = some (.int .i64 a) ∧ Wz.cell? ⟨w.heap.size + 1, 1, none⟩ = some (.int .i64 b) ∧ Wz.cell? ⟨w.heap.size + 1, 2, none⟩ = some (.int .i64 t) ∧ Wz.cell? ⟨w.heap.size + 1 + 1, 0, none⟩ = some (.int .i64 mo) ∧ Wz.cell? ⟨w.heap.size + 1 + 1, 1, none⟩ = some (.int .i64 ms) ∧ Wz.cell? ⟨w.heap.size + 1 + 1, 2, none⟩ = some (.bool mc) ∧ (W36).heap.size ≤ Wz.heap.size) (X.setCell ⟨w.heap.size + 1 + 1 + 1, o, none⟩ v) := by
      rintro X o v ⟨z63, z64, z65, z66, z67, z68, z69, z70, z71, z72, z73, z74, z75, z76, z77, xs⟩
      exact ⟨(World.cell?_setCell_other X _ _ v (fun e => ne97 (congrArg Addr.block e).symm)).trans z63, (World.cell?_setCell_other X _ _ v (fun e => ne97 (congrArg Addr.block e).symm)).trans z64, (World.cell?_setCell_other X _ _ v (fun e => ne97 (congrArg Addr.block e).symm)).trans z65, (World.cell?_setCell_other X _ _ v (fun e => ne97 (congrArg Addr.block e).symm)).trans z66, (World.cell?_setCell_other X _ _ v (fun e => ne97 (congrArg Addr.block e).symm)).trans z67, (World.cell?_setCell_other X _ _ v (fun e => ne97 (congrArg Addr.block e).symm)).trans z68, (World.cell?_setCell_other X _ _ v (fun e => ne97 (congrArg Addr.block e).symm)).trans z69, (World.cell?_setCell_other X _ _ v (fun e => ne97 (congrArg Addr.block e).symm)).trans z70, (World.cell?_setCell_other X _ _ v (fun e => ne97 (congrArg Addr.block e).symm)).trans z71, (World.cell?_setCell_other X _ _ v (fun e => ne106 (congrArg Addr.block e).symm)).trans z72, (World.cell?_setCell_other X _ _ v (fun e => ne106 (congrArg Addr.block e).symm)).trans z73, (World.cell?_setCell_other X _ _ v (fun e => ne106 (congrArg Addr.block e).symm)).trans z74, (World.cell?_setCell_other X _ _ v (fun e => ne109 (congrArg Addr.block e).symm)).trans z75, (World.cell?_setCell_other X _ _ v (fun e => ne109 (congrArg Addr.block e).symm)).trans z76, (World.cell?_setCell_other X _ _ v (fun e => ne109 (congrArg Addr.block e).symm)).trans z77, by rw [World.size_setCell]; exact xs⟩
    have hini95 : (fun Wz => Wz.cell? ⟨w.heap.size, 0, none⟩ = some (.int .i64 e1) ∧ Wz.cell? ⟨w.heap.size, 1, none⟩ = some (.int .i64 R1) ∧ Wz.cell? ⟨w.heap.size, 2, none⟩ = some (.int .i64 S1) ∧ Wz.cell? ⟨w.heap.size, 3, none⟩ = some (.slice SA sn sc) ∧ Wz.cell? ⟨w.heap.size, 4, none⟩ = some (.int .i64 e2) ∧ Wz.cell? ⟨w.heap.size, 5, none⟩ = some (.int .i64 R2) ∧ Wz.cell? ⟨w.heap.size, 6, none⟩ = some (.int .i64 S2) ∧ Wz.cell? ⟨w.heap.size, 7, none⟩ = some (.slice RA rn rc) ∧ Wz.cell? ⟨w.heap.size, 8, none⟩ = some (d) ∧ Wz.cell? ⟨w.heap.size + 1, 0, none⟩ = some (.int .i64 a) ∧ Wz.cell? ⟨w.heap.size + 1, 1, none⟩ = some (.int .i64 b) ∧ Wz.cell? ⟨w.heap.size + 1, 2, none⟩ = some (.int .i64 t) ∧ Wz.cell? ⟨w.heap.size + 1 + 1, 0, none⟩ = some (.int .i64 mo) ∧ Wz.cell? ⟨w.heap.size + 1 + 1, 1, none⟩ = some (.int .i64 ms) ∧ Wz.cell? ⟨w.heap.size + 1 + 1, 2, none⟩ = some (.bool mc) ∧ (W36).heap.size ≤ Wz.heap.size) (W36).drew := ⟨keepd (X39.out.cell 0) hdr93 lt78, keepd (X39.out.cell 1) hdr93 lt79, keepd (X39.out.cell 2) hdr93 lt80, keepd (X39.out.cell 3) hdr93 lt81, keepd (X39.out.cell 4) hdr93 lt82, keepd (X39.out.cell 5) hdr93 lt83, keepd (X39.out.cell 6) hdr93 lt84, keepd (X39.out.cell 7) hdr93 lt85, keepd (X39.out.cell 8) hdr93 lt86, keepd (X40.out.cell 0) hdr93 lt87, keepd (X40.out.cell 1) hdr93 lt88, keepd (X40.out.cell 2) hdr93 lt89, keepd (X41.out.cell 0) hdr93 lt90, keepd (X41.out.cell 1) hdr93 lt91, keepd (X41.out.cell 2) hdr93 lt92, Nat.le_refl _⟩
    have Hcall94 := Lib.hid hcall94
    have Hini95 := Lib.hid hini95
    have Hput96 := Lib.hid hput96
    clear hcall94 ne97 ne106 ne109 hput96 hini95 lt78 lt79 lt80 lt81 lt82 lt83 lt84 lt85 lt86 lt87 lt88 lt89 lt90 lt91 lt92
    clear q44 q45 q46 q47 q48 q49 q50 q51 q52 q53 q54 q55 q56 q57 q58 q59 q60 q61 fz62
    refine wp_region_noPanic ?_
    refine wp_region_held_drew (S := (fun Wz => Wz.cell? ⟨w.heap.size, 0, none⟩ = some (.int .i64 e1) ∧ Wz.cell? ⟨w.heap.size, 1, none⟩ = some (.int .i64 R1) ∧ Wz.cell? ⟨w.heap.size, 2, none⟩ = some (.int .i64 S1) ∧ Wz.cell? ⟨w.heap.size, 3, none⟩ = some (.slice SA sn sc) ∧ Wz.cell? ⟨w.heap.size, 4, none⟩ = some (.int .i64 e2) ∧ Wz.cell? ⟨w.heap.size, 5, none⟩ = some (.int .i64 R2) ∧ Wz.cell? ⟨w.heap.size, 6, none⟩ = some (.int .i64 S2) ∧ Wz.cell? ⟨w.heap.size, 7, none⟩ = some (.slice RA rn rc) ∧ Wz.cell? ⟨w.heap.size, 8, none⟩ = some (d) ∧ Wz.cell? ⟨w.heap.size + 1, 0, none⟩ = some (.int .i64 a) ∧ Wz.cell? ⟨w.heap.size + 1, 1, none⟩ = some (.int .i64 b) ∧ Wz.cell? ⟨w.heap.size + 1, 2, none⟩ = some (.int .i64 t) ∧ Wz.cell? ⟨w.heap.size + 1 + 1, 0, none⟩ = some (.int .i64 mo) ∧ Wz.cell? ⟨w.heap.size + 1 + 1, 1, none⟩ = some (.int .i64 ms) ∧ Wz.cell? ⟨w.heap.size + 1 + 1, 2, none⟩ = some (.bool mc) ∧ (W36).heap.size ≤ Wz.heap.size)) (by kernel_rfl) Hini95.out (fun hHeld => ?_)
    obtain ⟨W112, hW113⟩ : ∃ Wzz, (W36).drew = Wzz := ⟨_, rfl⟩
    rw [hW113] at hHeld hdr93 ⊢
    clear hW113
    have X114 := Lib.hid (X39.out.later hdr93)
    have X115 := Lib.hid (X40.out.later hdr93)
    have X116 := Lib.hid (X41.out.later hdr93)
    have X117 := Lib.hid (X42.out.later hdr93)
    have B118 := Lib.hid (B38.out.trans (hdr93.mono B38.out.size))
    clear hdr93
    refine wpAnyH_take (i := 0) (oi := { dst := some 22, op := Op.fieldAddr 29 (Operand.tmp 4) 0, type := 0, pos := "ref.go:147", after := #[], guard := none }) (v := ?vh119) rfl ?hsh119 ?hfh119 ?hrh119 ?hQh119 ?hyh119 (by assumption) ?resth119
    case hsh119 => kernel_rfl
    case hfh119 => kernel_rfl
    case hrh119 => kernel_rfl
    case hQh119 => exact fun _ _ _ h => h
    case hyh119 => (refine Or.inl ⟨by rfl, ?_⟩; intro w hSw; (try dsimp only at hSw); go_simp; try with_reducible rfl)
    try simp only [Act.put, List.setIfInBounds_toArray, List.set_cons_zero, List.set_cons_succ]
    refine wpAnyH_take (i := 1) (oi := { dst := some 23, op := Op.load 3 (Operand.tmp 22), type := 3, pos := "ref.go:147", after := #[{ on := 0, ground := Ground.data }], guard := none }) (v := ?vh120) rfl ?hsh120 ?hfh120 ?hrh120 ?hQh120 ?hyh120 (by assumption) ?resth120
    case hsh120 => kernel_rfl
    case hfh120 => kernel_rfl
    case hrh120 => kernel_rfl
    case hQh120 => exact fun _ _ _ h => h
    case hyh120 => (refine Or.inl ⟨by rfl, ?_⟩; intro w hSw; (try dsimp only at hSw); go_simp; try with_reducible rfl)
    try simp only [Act.put, List.setIfInBounds_toArray, List.set_cons_zero, List.set_cons_succ]
    refine wpAnyH_take (i := 2) (oi := { dst := some 24, op := Op.fieldAddr 41 (Operand.tmp 5) 0, type := 0, pos := "ref.go:147", after := #[], guard := none }) (v := ?vh121) rfl ?hsh121 ?hfh121 ?hrh121 ?hQh121 ?hyh121 (by assumption) ?resth121
    case hsh121 => kernel_rfl
    case hfh121 => kernel_rfl
    case hrh121 => kernel_rfl
    case hQh121 => exact fun _ _ _ h => h
    case hyh121 => (refine Or.inl ⟨by rfl, ?_⟩; intro w hSw; (try dsimp only at hSw); go_simp; try with_reducible rfl)
    try simp only [Act.put, List.setIfInBounds_toArray, List.set_cons_zero, List.set_cons_succ]
    refine wpAnyH_take (i := 3) (oi := { dst := some 25, op := Op.load 3 (Operand.tmp 24), type := 3, pos := "ref.go:147", after := #[{ on := 2, ground := Ground.data }], guard := none }) (v := ?vh122) rfl ?hsh122 ?hfh122 ?hrh122 ?hQh122 ?hyh122 (by assumption) ?resth122
    case hsh122 => kernel_rfl
    case hfh122 => kernel_rfl
    case hrh122 => kernel_rfl
    case hQh122 => exact fun _ _ _ h => h
    case hyh122 => (refine Or.inl ⟨by rfl, ?_⟩; intro w hSw; (try dsimp only at hSw); go_simp; try with_reducible rfl)
    try simp only [Act.put, List.setIfInBounds_toArray, List.set_cons_zero, List.set_cons_succ]
    refine wpAnyH_take (i := 4) (oi := { dst := some 26, op := Op.binOp BinOp.add 3 (Operand.tmp 23) (Operand.tmp 25) 3, type := 3, pos := "ref.go:147", after := #[{ on := 1, ground := Ground.data }, { on := 3, ground := Ground.data }], guard := none }) (v := ?vh123) rfl ?hsh123 ?hfh123 ?hrh123 ?hQh123 ?hyh123 (by assumption) ?resth123
    case hsh123 => kernel_rfl
    case hfh123 => kernel_rfl
    case hrh123 => kernel_rfl
    case hQh123 => exact fun _ _ _ h => h
    case hyh123 => (refine Or.inl ⟨by rfl, ?_⟩; intro w hSw; (try dsimp only at hSw); go_simp; try with_reducible rfl)
    try simp only [Act.put, List.setIfInBounds_toArray, List.set_cons_zero, List.set_cons_succ]
    refine wpAnyH_take (i := 5) (oi := { dst := some 27, op := Op.call { callee := Callee.builtin Builtin.max, args := #[Operand.const (Value.int IntKind.i64 0), Operand.tmp 26], argTypes := #[3, 3] }, type := 3, pos := "ref.go:147", after := #[{ on := 4, ground := Ground.data }], guard := none }) (v := ?vh124) rfl ?hsh124 ?hfh124 ?hrh124 ?hQh124 ?hyh124 (by assumption) ?resth124
    case hsh124 => kernel_rfl
    case hfh124 => kernel_rfl
    case hrh124 => kernel_rfl
    case hQh124 => exact fun _ _ _ h => h
    case hyh124 => (refine Or.inl ⟨by rfl, ?_⟩; intro w hSw; (try dsimp only at hSw); go_simp; try with_reducible rfl)
    try simp only [Act.put, List.setIfInBounds_toArray, List.set_cons_zero, List.set_cons_succ]
    refine wpAnyH_take (i := 6) (oi := { dst := some 28, op := Op.fieldAddr 29 (Operand.tmp 4) 1, type := 0, pos := "ref.go:147", after := #[], guard := none }) (v := ?vh125) rfl ?hsh125 ?hfh125 ?hrh125 ?hQh125 ?hyh125 (by assumption) ?resth125
    case hsh125 => kernel_rfl
    case hfh125 => kernel_rfl
    case hrh125 => kernel_rfl
    case hQh125 => exact fun _ _ _ h => h
    case hyh125 => (refine Or.inl ⟨by rfl, ?_⟩; intro w hSw; (try dsimp only at hSw); go_simp; try with_reducible rfl)
    try simp only [Act.put, List.setIfInBounds_toArray, List.set_cons_zero, List.set_cons_succ]
    refine wpAnyH_take (i := 7) (oi := { dst := some 29, op := Op.load 3 (Operand.tmp 28), type := 3, pos := "ref.go:147", after := #[{ on := 6, ground := Ground.data }], guard := none }) (v := ?vh126) rfl ?hsh126 ?hfh126 ?hrh126 ?hQh126 ?hyh126 (by assumption) ?resth126
    case hsh126 => kernel_rfl
    case hfh126 => kernel_rfl
    case hrh126 => kernel_rfl
    case hQh126 => exact fun _ _ _ h => h
    case hyh126 => (refine Or.inl ⟨by rfl, ?_⟩; intro w hSw; (try dsimp only at hSw); go_simp; try with_reducible rfl)
    try simp only [Act.put, List.setIfInBounds_toArray, List.set_cons_zero, List.set_cons_succ]
    refine wpAnyH_take (i := 8) (oi := { dst := some 30, op := Op.fieldAddr 41 (Operand.tmp 5) 1, type := 0, pos := "ref.go:147", after := #[], guard := none }) (v := ?vh127) rfl ?hsh127 ?hfh127 ?hrh127 ?hQh127 ?hyh127 (by assumption) ?resth127
    case hsh127 => kernel_rfl
    case hfh127 => kernel_rfl
    case hrh127 => kernel_rfl
    case hQh127 => exact fun _ _ _ h => h
    case hyh127 => (refine Or.inl ⟨by rfl, ?_⟩; intro w hSw; (try dsimp only at hSw); go_simp; try with_reducible rfl)
    try simp only [Act.put, List.setIfInBounds_toArray, List.set_cons_zero, List.set_cons_succ]
    refine wpAnyH_take (i := 9) (oi := { dst := some 31, op := Op.load 3 (Operand.tmp 30), type := 3, pos := "ref.go:147", after := #[{ on := 8, ground := Ground.data }], guard := none }) (v := ?vh128) rfl ?hsh128 ?hfh128 ?hrh128 ?hQh128 ?hyh128 (by assumption) ?resth128
    case hsh128 => kernel_rfl
    case hfh128 => kernel_rfl
    case hrh128 => kernel_rfl
    case hQh128 => exact fun _ _ _ h => h
    case hyh128 => (refine Or.inl ⟨by rfl, ?_⟩; intro w hSw; (try dsimp only at hSw); go_simp; try with_reducible rfl)
    try simp only [Act.put, List.setIfInBounds_toArray, List.set_cons_zero, List.set_cons_succ]
    refine wpAnyH_take (i := 10) (oi := { dst := some 32, op := Op.binOp BinOp.add 3 (Operand.tmp 29) (Operand.tmp 31) 3, type := 3, pos := "ref.go:147", after := #[{ on := 7, ground := Ground.data }, { on := 9, ground := Ground.data }], guard := none }) (v := ?vh129) rfl ?hsh129 ?hfh129 ?hrh129 ?hQh129 ?hyh129 (by assumption) ?resth129
    case hsh129 => kernel_rfl
    case hfh129 => kernel_rfl
    case hrh129 => kernel_rfl
    case hQh129 => exact fun _ _ _ h => h
    case hyh129 => (refine Or.inl ⟨by rfl, ?_⟩; intro w hSw; (try dsimp only at hSw); go_simp; try with_reducible rfl)
    try simp only [Act.put, List.setIfInBounds_toArray, List.set_cons_zero, List.set_cons_succ]
    refine wpAnyH_take (i := 11) (oi := { dst := some 33, op := Op.move (Operand.tmp 8), type := 3, pos := "ref.go:147", after := #[], guard := none }) (v := ?vh130) rfl ?hsh130 ?hfh130 ?hrh130 ?hQh130 ?hyh130 (by assumption) ?resth130
    case hsh130 => kernel_rfl
    case hfh130 => kernel_rfl
    case hrh130 => kernel_rfl
    case hQh130 => exact fun _ _ _ h => h
    case hyh130 => (refine Or.inl ⟨by rfl, ?_⟩; intro w hSw; (try dsimp only at hSw); go_simp; try with_reducible rfl)
    try simp only [Act.put, List.setIfInBounds_toArray, List.set_cons_zero, List.set_cons_succ]
    refine wpAnyH_take (i := 13) (oi := { dst := some 35, op := Op.fieldAddr 29 (Operand.tmp 4) 2, type := 0, pos := "ref.go:147", after := #[], guard := none }) (v := ?vh131) rfl ?hsh131 ?hfh131 ?hrh131 ?hQh131 ?hyh131 (by assumption) ?resth131
    case hsh131 => kernel_rfl
    case hfh131 => kernel_rfl
    case hrh131 => kernel_rfl
    case hQh131 => exact fun _ _ _ h => h
    case hyh131 => (refine Or.inl ⟨by rfl, ?_⟩; intro w hSw; (try dsimp only at hSw); go_simp; try with_reducible rfl)
    try simp only [Act.put, List.setIfInBounds_toArray, List.set_cons_zero, List.set_cons_succ]
    refine wpAnyH_take (i := 14) (oi := { dst := some 36, op := Op.load 3 (Operand.tmp 35), type := 3, pos := "ref.go:147", after := #[{ on := 13, ground := Ground.data }], guard := none }) (v := ?vh132) rfl ?hsh132 ?hfh132 ?hrh132 ?hQh132 ?hyh132 (by assumption) ?resth132
    case hsh132 => kernel_rfl
    case hfh132 => kernel_rfl
    case hrh132 => kernel_rfl
    case hQh132 => exact fun _ _ _ h => h
    case hyh132 => (refine Or.inl ⟨by rfl, ?_⟩; intro w hSw; (try dsimp only at hSw); go_simp; try with_reducible rfl)
    try simp only [Act.put, List.setIfInBounds_toArray, List.set_cons_zero, List.set_cons_succ]
    refine wpAnyH_take (i := 15) (oi := { dst := some 37, op := Op.binOp BinOp.add 3 (Operand.tmp 36) (Operand.const (Value.int IntKind.i64 1)) 3, type := 3, pos := "ref.go:147", after := #[{ on := 14, ground := Ground.data }], guard := none }) (v := ?vh133) rfl ?hsh133 ?hfh133 ?hrh133 ?hQh133 ?hyh133 (by assumption) ?resth133
    case hsh133 => kernel_rfl
    case hfh133 => kernel_rfl
    case hrh133 => kernel_rfl
    case hQh133 => exact fun _ _ _ h => h
    case hyh133 => (refine Or.inl ⟨by rfl, ?_⟩; intro w hSw; (try dsimp only at hSw); go_simp; try with_reducible rfl)
    try simp only [Act.put, List.setIfInBounds_toArray, List.set_cons_zero, List.set_cons_succ]
    refine wpAnyH_take (i := 16) (oi := { dst := some 38, op := Op.move (Operand.tmp 8), type := 3, pos := "ref.go:147", after := #[], guard := none }) (v := ?vh134) rfl ?hsh134 ?hfh134 ?hrh134 ?hQh134 ?hyh134 (by assumption) ?resth134
    case hsh134 => kernel_rfl
    case hfh134 => kernel_rfl
    case hrh134 => kernel_rfl
    case hQh134 => exact fun _ _ _ h => h
    case hyh134 => (refine Or.inl ⟨by rfl, ?_⟩; intro w hSw; (try dsimp only at hSw); go_simp; try with_reducible rfl)
    try simp only [Act.put, List.setIfInBounds_toArray, List.set_cons_zero, List.set_cons_succ]
    refine wpAnyH_ready (rs := [12]) (by kernel_rfl) (by simp) ?_
    refine AllReadyH.cons (o := _) (by rfl) (fun K hK => ?_) AllReadyH.nil
    go_simp
    go_at_call 73
    refine (kAround_c x2 S1 _ HSB.out HD.out.1).mono ?_; rintro e w' ⟨rfl, rfl⟩
    rw [HR2.out]
    go_wp2_with fail
    refine hK.out _ _ hHeld (fun hHeld135 => ?_)
    clear hK K hHeld
    have hHeld := hHeld135
    clear hHeld135
    try simp only [Act.put, List.setIfInBounds_toArray, List.set_cons_zero, List.set_cons_succ]
    refine wpAnyH_ready (rs := [17]) (by kernel_rfl) (by simp) ?_
    refine AllReadyH.cons (o := _) (by rfl) (fun K hK => ?_) AllReadyH.nil
    go_simp
    go_at_call 73
    refine (kAround_c x3 S1 _ HSB.out HD.out.2).mono ?_; rintro e w' ⟨rfl, rfl⟩
    rw [HR3.out]
    go_wp2_with fail
    refine hK.out _ _ hHeld (fun hHeld136 => ?_)
    clear hK K hHeld
    have hHeld := hHeld136
    clear hHeld136
    try simp only [Act.put, List.setIfInBounds_toArray, List.set_cons_zero, List.set_cons_succ]
    refine wpAnyH_take (i := 18) (oi := { dst := some 40, op := Op.build 29 #[(0, Operand.tmp 27), (1, Operand.tmp 34), (2, Operand.tmp 39)], type := 29, pos := "ref.go:147", after := #[{ on := 5, ground := Ground.data }, { on := 12, ground := Ground.data }, { on := 17, ground := Ground.data }], guard := none }) (v := ?vh137) rfl ?hsh137 ?hfh137 ?hrh137 ?hQh137 ?hyh137 (by assumption) ?resth137
    case hsh137 => kernel_rfl
    case hfh137 => kernel_rfl
    case hrh137 => kernel_rfl
    case hQh137 => exact fun _ _ _ h => h
    case hyh137 => (refine Or.inl ⟨by rfl, ?_⟩; intro w hSw; (try dsimp only at hSw); go_simp; try with_reducible rfl)
    try simp only [Act.put, List.setIfInBounds_toArray, List.set_cons_zero, List.set_cons_succ]
    refine wpAnyH_ready (rs := [19]) (by kernel_rfl) (by simp) ?_
    refine AllReadyH.cons (o := _) (by rfl) (fun K hK => ?_) AllReadyH.nil
    have q138 : W112.cell? ⟨w.heap.size + 1 + 1 + 1, 0, none⟩ = some (.int .i64 0) := X117.out.cell 0
    have q139 : W112.cell? ⟨w.heap.size + 1 + 1 + 1, 1, none⟩ = some (.int .i64 0) := X117.out.cell 1
    have q140 : W112.cell? ⟨w.heap.size + 1 + 1 + 1, 2, none⟩ = some (.int .i64 0) := X117.out.cell 2
    have q141 : ∀ o, W112.frozen? ⟨w.heap.size + 1 + 1 + 1, o, none⟩ = false := fun o => X117.out.free o
    go_simp
    clear q138 q139 q140 q141
    have X142 := Lib.hid (show Box (((W112.setCell ⟨w.heap.size + 1 + 1 + 1, 0, none⟩ (.int .i64 n1)).setCell ⟨w.heap.size + 1 + 1 + 1, 1, none⟩ (.int .i64 r2)).setCell ⟨w.heap.size + 1 + 1 + 1, 2, none⟩ (.int .i64 r3)) (w.heap.size) 27 #[.int .i64 e1, .int .i64 R1, .int .i64 S1, .slice SA sn sc, .int .i64 e2, .int .i64 R2, .int .i64 S2, .slice RA rn rc, d] from ((((((X114.out).far (p := ⟨w.heap.size + 1 + 1 + 1, 0, none⟩) (by first | (simp; done) | (simp; omega) | omega) (.int .i64 n1))).far (p := ⟨w.heap.size + 1 + 1 + 1, 1, none⟩) (by first | (simp; done) | (simp; omega) | omega) (.int .i64 r2))).far (p := ⟨w.heap.size + 1 + 1 + 1, 2, none⟩) (by first | (simp; done) | (simp; omega) | omega) (.int .i64 r3)))
    have X143 := Lib.hid (show Box (((W112.setCell ⟨w.heap.size + 1 + 1 + 1, 0, none⟩ (.int .i64 n1)).setCell ⟨w.heap.size + 1 + 1 + 1, 1, none⟩ (.int .i64 r2)).setCell ⟨w.heap.size + 1 + 1 + 1, 2, none⟩ (.int .i64 r3)) (w.heap.size + 1) 29 #[.int .i64 a, .int .i64 b, .int .i64 t] from ((((((X115.out).far (p := ⟨w.heap.size + 1 + 1 + 1, 0, none⟩) (by first | (simp; done) | (simp; omega) | omega) (.int .i64 n1))).far (p := ⟨w.heap.size + 1 + 1 + 1, 1, none⟩) (by first | (simp; done) | (simp; omega) | omega) (.int .i64 r2))).far (p := ⟨w.heap.size + 1 + 1 + 1, 2, none⟩) (by first | (simp; done) | (simp; omega) | omega) (.int .i64 r3)))
    have X144 := Lib.hid (show Box (((W112.setCell ⟨w.heap.size + 1 + 1 + 1, 0, none⟩ (.int .i64 n1)).setCell ⟨w.heap.size + 1 + 1 + 1, 1, none⟩ (.int .i64 r2)).setCell ⟨w.heap.size + 1 + 1 + 1, 2, none⟩ (.int .i64 r3)) (w.heap.size + 1 + 1) 41 #[.int .i64 mo, .int .i64 ms, .bool mc] from ((((((X116.out).far (p := ⟨w.heap.size + 1 + 1 + 1, 0, none⟩) (by first | (simp; done) | (simp; omega) | omega) (.int .i64 n1))).far (p := ⟨w.heap.size + 1 + 1 + 1, 1, none⟩) (by first | (simp; done) | (simp; omega) | omega) (.int .i64 r2))).far (p := ⟨w.heap.size + 1 + 1 + 1, 2, none⟩) (by first | (simp; done) | (simp; omega) | omega) (.int .i64 r3)))
    have X145 := Lib.hid (show Box (((W112.setCell ⟨w.heap.size + 1 + 1 + 1, 0, none⟩ (.int .i64 n1)).setCell ⟨w.heap.size + 1 + 1 + 1, 1, none⟩ (.int .i64 r2)).setCell ⟨w.heap.size + 1 + 1 + 1, 2, none⟩ (.int .i64 r3)) (w.heap.size + 1 + 1 + 1) 29 #[.int .i64 n1, .int .i64 r2, .int .i64 r3] from ((((((X117.out).put 0 (.int .i64 n1))).put 1 (.int .i64 r2))).put 2 (.int .i64 r3)))
    have B146 := Lib.hid ((((((B118.out).setCell (p := ⟨w.heap.size + 1 + 1 + 1, 0, none⟩) (by first | (simp; done) | (simp; omega) | omega) (.int .i64 n1))).setCell (p := ⟨w.heap.size + 1 + 1 + 1, 1, none⟩) (by first | (simp; done) | (simp; omega) | omega) (.int .i64 r2))).setCell (p := ⟨w.heap.size + 1 + 1 + 1, 2, none⟩) (by first | (simp; done) | (simp; omega) | omega) (.int .i64 r3))
    refine hK.out _ _ (Hput96.out _ 2 (.int .i64 r3) (Hput96.out _ 1 (.int .i64 r2) (Hput96.out _ 0 (.int .i64 n1) hHeld))) (fun hHeld147 => ?_)
    clear hK K hHeld
    have hHeld := hHeld147
    clear hHeld147
    try simp only [Act.put, List.setIfInBounds_toArray, List.set_cons_zero, List.set_cons_succ]
    refine wpAnyH_take (i := 20) (oi := { dst := some 7, op := Op.assign (Operand.const (Value.bool true)), type := 4, pos := "ref.go:147", after := #[{ on := 19, ground := Ground.chain }, { on := 0, ground := Ground.phase }, { on := 1, ground := Ground.phase }, { on := 2, ground := Ground.phase }, { on := 3, ground := Ground.phase }, { on := 4, ground := Ground.phase }, { on := 5, ground := Ground.phase }, { on := 6, ground := Ground.phase }, { on := 7, ground := Ground.phase }, { on := 8, ground := Ground.phase }, { on := 9, ground := Ground.phase }, { on := 10, ground := Ground.phase }, { on := 11, ground := Ground.phase }, { on := 12, ground := Ground.phase }, { on := 13, ground := Ground.phase }, { on := 14, ground := Ground.phase }, { on := 15, ground := Ground.phase }, { on := 16, ground := Ground.phase }, { on := 17, ground := Ground.phase }, { on := 18, ground := Ground.phase }, { on := 19, ground := Ground.phase }], guard := none }) (v := ?vh148) rfl ?hsh148 ?hfh148 ?hrh148 ?hQh148 ?hyh148 (by assumption) ?resth148
    case hsh148 => kernel_rfl
    case hfh148 => kernel_rfl
    case hrh148 => kernel_rfl
    case hQh148 => exact fun _ _ _ h => h
    case hyh148 => (refine Or.inl ⟨by rfl, ?_⟩; intro w hSw; (try dsimp only at hSw); go_simp; try with_reducible rfl)
    try simp only [Act.put, List.setIfInBounds_toArray, List.set_cons_zero, List.set_cons_succ]
    refine wpAnyH_done (by kernel_rfl) ?_ _
    refine NoPanic.normal ?_
    clear hHeld Hcall94 Hini95 Hput96
    obtain ⟨W149, hW150⟩ : ∃ Wzz, (((W112.setCell ⟨w.heap.size + 1 + 1 + 1, 0, none⟩ (.int .i64 n1)).setCell ⟨w.heap.size + 1 + 1 + 1, 1, none⟩ (.int .i64 r2)).setCell ⟨w.heap.size + 1 + 1 + 1, 2, none⟩ (.int .i64 r3)) = Wzz := ⟨_, rfl⟩
    have x151 := X142.out
    rw [hW150] at x151
    have X151 := Lib.hid x151
    clear x151 X142
    have x152 := X143.out
    rw [hW150] at x152
    have X152 := Lib.hid x152
    clear x152 X143
    have x153 := X144.out
    rw [hW150] at x153
    have X153 := Lib.hid x153
    clear x153 X144
    have x154 := X145.out
    rw [hW150] at x154
    have X154 := Lib.hid x154
    clear x154 X145
    have b155 := B146.out
    rw [hW150] at b155
    have B155 := Lib.hid b155
    clear b155 B146
    rw [hW150]
    clear hW150
    have q156 : W149.cell? ⟨w.heap.size, 0, none⟩ = some (.int .i64 e1) := X151.out.cell 0
    have q157 : W149.cell? ⟨w.heap.size, 1, none⟩ = some (.int .i64 R1) := X151.out.cell 1
    have q158 : W149.cell? ⟨w.heap.size, 2, none⟩ = some (.int .i64 S1) := X151.out.cell 2
    have q159 : W149.cell? ⟨w.heap.size, 3, none⟩ = some (.slice SA sn sc) := X151.out.cell 3
    have q160 : W149.cell? ⟨w.heap.size, 4, none⟩ = some (.int .i64 e2) := X151.out.cell 4
    have q161 : W149.cell? ⟨w.heap.size, 5, none⟩ = some (.int .i64 R2) := X151.out.cell 5
    have q162 : W149.cell? ⟨w.heap.size, 6, none⟩ = some (.int .i64 S2) := X151.out.cell 6
    have q163 : W149.cell? ⟨w.heap.size, 7, none⟩ = some (.slice RA rn rc) := X151.out.cell 7
    have q164 : W149.cell? ⟨w.heap.size, 8, none⟩ = some (d) := X151.out.cell 8
    have q165 : W149.cell? ⟨w.heap.size + 1, 0, none⟩ = some (.int .i64 a) := X152.out.cell 0
    have q166 : W149.cell? ⟨w.heap.size + 1, 1, none⟩ = some (.int .i64 b) := X152.out.cell 1
    have q167 : W149.cell? ⟨w.heap.size + 1, 2, none⟩ = some (.int .i64 t) := X152.out.cell 2
    have q168 : W149.cell? ⟨w.heap.size + 1 + 1, 0, none⟩ = some (.int .i64 mo) := X153.out.cell 0
    have q169 : W149.cell? ⟨w.heap.size + 1 + 1, 1, none⟩ = some (.int .i64 ms) := X153.out.cell 1
    have q170 : W149.cell? ⟨w.heap.size + 1 + 1, 2, none⟩ = some (.bool mc) := X153.out.cell 2
    have q171 : W149.cell? ⟨w.heap.size + 1 + 1 + 1, 0, none⟩ = some (.int .i64 n1) := X154.out.cell 0
    have q172 : W149.cell? ⟨w.heap.size + 1 + 1 + 1, 1, none⟩ = some (.int .i64 r2) := X154.out.cell 1
    have q173 : W149.cell? ⟨w.heap.size + 1 + 1 + 1, 2, none⟩ = some (.int .i64 r3) := X154.out.cell 2
    have fz174 : ∀ o, W149.frozen? ⟨w.heap.size + 1 + 1 + 1, o, none⟩ = false := fun o => X154.out.free o
    go_wp2_with fail
    (try simp only [Exit.inBlock, Exit.then])
    refine endS2 (t := 6) (u := 7) (x := .bool true) (v := .tuple #[stV (nextS ⟨⟨e1, R1, S1, k1⟩, ⟨e2, R2, S2, k2⟩, dr⟩ ⟨a, b, t⟩ ⟨mo, ms, mc⟩), .bool true]) ?_ ?_ ?_ X154.out B155.out ?_
    · rfl
    · rfl
    · rfl
    · rw [HN.out, HX.out]; rfl
  · have HX := Lib.hid (show max 0 n1 = 0 by omega)
    have d2 : decide (0 < n1) = false := by simp; omega
    have d4 : ¬ 0 < n1 := by omega
    go_wp2_with fail
    have hdr205 : Below (W36).heap.size (W36) (W36).drew := (Below.refl _ _).drew
    have lt190 := X39.out.lt
    have lt191 := X39.out.lt
    have lt192 := X39.out.lt
    have lt193 := X39.out.lt
    have lt194 := X39.out.lt
    have lt195 := X39.out.lt
    have lt196 := X39.out.lt
    have lt197 := X39.out.lt
    have lt198 := X39.out.lt
    have lt199 := X40.out.lt
    have lt200 := X40.out.lt
    have lt201 := X40.out.lt
    have lt202 := X41.out.lt
    have lt203 := X41.out.lt
    have lt204 := X41.out.lt
    have hcall206 : ∀ X Y : World, (fun Wz => Wz.cell? ⟨w.heap.size, 0, none⟩ = some (.int .i64 e1) ∧ Wz.cell? ⟨w.heap.size, 1, none⟩ = some (.int .i64 R1) ∧ Wz.cell? ⟨w.heap.size, 2, none⟩ = some (.int .i64 S1) ∧ Wz.cell? ⟨w.heap.size, 3, none⟩ = some (.slice SA sn sc) ∧ Wz.cell? ⟨w.heap.size, 4, none⟩ = some (.int .i64 e2) ∧ Wz.cell? ⟨w.heap.size, 5, none⟩ = some (.int .i64 R2) ∧ Wz.cell? ⟨w.heap.size, 6, none⟩ = some (.int .i64 S2) ∧ Wz.cell? ⟨w.heap.size, 7, none⟩ = some (.slice RA rn rc) ∧ Wz.cell? ⟨w.heap.size, 8, none⟩ = some (d) ∧ Wz.cell? ⟨w.heap.size + 1, 0, none⟩ = some (.int .i64 a) ∧ Wz.cell? ⟨w.heap.size + 1, 1, none⟩ = some (.int .i64 b) ∧ Wz.cell? ⟨w.heap.size + 1, 2, none⟩ = some (.int .i64 t) ∧ Wz.cell? ⟨w.heap.size + 1 + 1, 0, none⟩ = some (.int .i64 mo) ∧ Wz.cell? ⟨w.heap.size + 1 + 1, 1, none⟩ = some (.int .i64 ms) ∧ Wz.cell? ⟨w.heap.size + 1 + 1, 2, none⟩ = some (.bool mc) ∧ (W36).heap.size ≤ Wz.heap.size) X → Below X.heap.size X Y → (fun Wz => Wz.cell? ⟨w.heap.size, 0, none⟩ = some (.int .i64 e1) ∧ Wz.cell? ⟨w.heap.size, 1, none⟩ = some (.int .i64 R1) ∧ Wz.cell? ⟨w.heap.size, 2, none⟩ = some (.int .i64 S1) ∧ Wz.cell? ⟨w.heap.size, 3, none⟩ = some (.slice SA sn sc) ∧ Wz.cell? ⟨w.heap.size, 4, none⟩ = some (.int .i64 e2) ∧ Wz.cell? ⟨w.heap.size, 5, none⟩ = some (.int .i64 R2) ∧ Wz.cell? ⟨w.heap.size, 6, none⟩ = some (.int .i64 S2) ∧ Wz.cell? ⟨w.heap.size, 7, none⟩ = some (.slice RA rn rc) ∧ Wz.cell? ⟨w.heap.size, 8, none⟩ = some (d) ∧ Wz.cell? ⟨w.heap.size + 1, 0, none⟩ = some (.int .i64 a) ∧ Wz.cell? ⟨w.heap.size + 1, 1, none⟩ = some (.int .i64 b) ∧ Wz.cell? ⟨w.heap.size + 1, 2, none⟩ = some (.int .i64 t) ∧ Wz.cell? ⟨w.heap.size + 1 + 1, 0, none⟩ = some (.int .i64 mo) ∧ Wz.cell? ⟨w.heap.size + 1 + 1, 1, none⟩ = some (.int .i64 ms) ∧ Wz.cell? ⟨w.heap.size + 1 + 1, 2, none⟩ = some (.bool mc) ∧ (W36).heap.size ≤ Wz.heap.size) Y := by
      rintro X Y ⟨z175, z176, z177, z178, z179, z180, z181, z182, z183, z184, z185, z186, z187, z188, z189, xs⟩ hb
      have hb2 := Below.mono (B' := (W36).heap.size) hb xs
      exact ⟨keepd z175 hb2 lt190, keepd z176 hb2 lt191, keepd z177 hb2 lt192, keepd z178 hb2 lt193, keepd z179 hb2 lt194, keepd z180 hb2 lt195, keepd z181 hb2 lt196, keepd z182 hb2 lt197, keepd z183 hb2 lt198, keepd z184 hb2 lt199, keepd z185 hb2 lt200, keepd z186 hb2 lt201, keepd z187 hb2 lt202, keepd z188 hb2 lt203, keepd z189 hb2 lt204, Nat.le_trans xs hb.size⟩
    have ne209 : w.heap.size ≠ w.heap.size + 1 + 1 + 1 := by first | (simp; done) | (simp; omega) | omega
    have ne218 : w.heap.size + 1 ≠ w.heap.size + 1 + 1 + 1 := by first | (simp; done) | (simp; omega) | omega
    have ne221 : w.heap.size + 1 + 1 ≠ w.heap.size + 1 + 1 + 1 := by first | (simp; done) | (simp; omega) | omega
    have hput208 : ∀ (X : World) (o : Nat) (v : Value), (fun Wz => Wz.cell? ⟨w.heap.size, 0, none⟩ = some (.int .i64 e1) ∧ Wz.cell? ⟨w.heap.size, 1, none⟩ = some (.int .i64 R1) ∧ Wz.cell? ⟨w.heap.size, 2, none⟩ = some (.int .i64 S1) ∧ Wz.cell? ⟨w.heap.size, 3, none⟩ = some (.slice SA sn sc) ∧ Wz.cell? ⟨w.heap.size, 4, none⟩ = some (.int .i64 e2) ∧ Wz.cell? ⟨w.heap.size, 5, none⟩ = some (.int .i64 R2) ∧ Wz.cell? ⟨w.heap.size, 6, none⟩ = some (.int .i64 S2) ∧ Wz.cell? ⟨w.heap.size, 7, none⟩ = some (.slice RA rn rc) ∧ Wz.cell? ⟨w.heap.size, 8, none⟩ = some (d) ∧ Wz.cell? ⟨w.heap.size + 1, 0, none⟩ = some (.int .i64 a) ∧ Wz.cell? ⟨w.heap.size + 1, 1, none⟩ = some (.int .i64 b) ∧ Wz.cell? ⟨w.heap.size + 1, 2, none⟩ = some (.int .i64 t) ∧ Wz.cell? ⟨w.heap.size + 1 + 1, 0, none⟩ = some (.int .i64 mo) ∧ Wz.cell? ⟨w.heap.size + 1 + 1, 1, none⟩ = some (.int .i64 ms) ∧ Wz.cell? ⟨w.heap.size + 1 + 1, 2, none⟩ = some (.bool mc) ∧ (W36).heap.size ≤ Wz.heap.size) X → (fun Wz => Wz.cell? ⟨w.heap.size, 0, none⟩ = some (.int .i64 e1) ∧ Wz.cell? ⟨w.heap.size, 1, none⟩ = some (.int .i64 R1) ∧ Wz.cell? ⟨w.heap.size, 2, none⟩ = some (.int .i64 S1) ∧ Wz.cell? ⟨w.heap.size, 3, none⟩ = some (.slice SA sn sc) ∧ Wz.cell? ⟨w.heap.size, 4, none⟩ = some (.int .i64 e2) ∧ Wz.cell? ⟨w.heap.size, 5, none⟩ = some (.int .i64 R2) ∧ Wz.cell? ⟨w.heap.size, 6, none⟩ = some (.int .i64 S2) ∧ Wz.cell? ⟨w.heap.size, 7, none⟩ = some (.slice RA rn rc) ∧ Wz.cell? ⟨w.heap.size, 8, none⟩ = some (d) ∧ Wz.cell? ⟨w.heap.size + 1, 0, none⟩ = some (.int .i64 a) ∧ Wz.cell? ⟨w.heap.size + 1, 1, none⟩ = some (.int .i64 b) ∧ Wz.cell? ⟨w.heap.size + 1, 2, none⟩ = some (.int .i64 t) ∧ Wz.cell? ⟨w.heap.size + 1 + 1, 0, none⟩ = some (.int .i64 mo) ∧ Wz.cell? ⟨w.heap.size + 1 + 1, 1, none⟩ = some (.int .i64 ms) ∧ Wz.cell? ⟨w.heap.size + 1 + 1, 2, none⟩ = some (.bool mc) ∧ (W36).heap.size ≤ Wz.heap.size) (X.setCell ⟨w.heap.size + 1 + 1 + 1, o, none⟩ v) := by
      rintro X o v ⟨z175, z176, z177, z178, z179, z180, z181, z182, z183, z184, z185, z186, z187, z188, z189, xs⟩
      exact ⟨(World.cell?_setCell_other X _ _ v (fun e => ne209 (congrArg Addr.block e).symm)).trans z175, (World.cell?_setCell_other X _ _ v (fun e => ne209 (congrArg Addr.block e).symm)).trans z176, (World.cell?_setCell_other X _ _ v (fun e => ne209 (congrArg Addr.block e).symm)).trans z177, (World.cell?_setCell_other X _ _ v (fun e => ne209 (congrArg Addr.block e).symm)).trans z178, (World.cell?_setCell_other X _ _ v (fun e => ne209 (congrArg Addr.block e).symm)).trans z179, (World.cell?_setCell_other X _ _ v (fun e => ne209 (congrArg Addr.block e).symm)).trans z180, (World.cell?_setCell_other X _ _ v (fun e => ne209 (congrArg Addr.block e).symm)).trans z181, (World.cell?_setCell_other X _ _ v (fun e => ne209 (congrArg Addr.block e).symm)).trans z182, (World.cell?_setCell_other X _ _ v (fun e => ne209 (congrArg Addr.block e).symm)).trans z183, (World.cell?_setCell_other X _ _ v (fun e => ne218 (congrArg Addr.block e).symm)).trans z184, (World.cell?_setCell_other X _ _ v (fun e => ne218 (congrArg Addr.block e).symm)).trans z185, (World.cell?_setCell_other X _ _ v (fun e => ne218 (congrArg Addr.block e).symm)).trans z186, (World.cell?_setCell_other X _ _ v (fun e => ne221 (congrArg Addr.block e).symm)).trans z187, (World.cell?_setCell_other X _ _ v (fun e => ne221 (congrArg Addr.block e).symm)).trans z188, (World.cell?_setCell_other X _ _ v (fun e => ne221 (congrArg Addr.block e).symm)).trans z189, by rw [World.size_setCell]; exact xs⟩
    have hini207 : (fun Wz => Wz.cell? ⟨w.heap.size, 0, none⟩ = some (.int .i64 e1) ∧ Wz.cell? ⟨w.heap.size, 1, none⟩ = some (.int .i64 R1) ∧ Wz.cell? ⟨w.heap.size, 2, none⟩ = some (.int .i64 S1) ∧ Wz.cell? ⟨w.heap.size, 3, none⟩ = some (.slice SA sn sc) ∧ Wz.cell? ⟨w.heap.size, 4, none⟩ = some (.int .i64 e2) ∧ Wz.cell? ⟨w.heap.size, 5, none⟩ = some (.int .i64 R2) ∧ Wz.cell? ⟨w.heap.size, 6, none⟩ = some (.int .i64 S2) ∧ Wz.cell? ⟨w.heap.size, 7, none⟩ = some (.slice RA rn rc) ∧ Wz.cell? ⟨w.heap.size, 8, none⟩ = some (d) ∧ Wz.cell? ⟨w.heap.size + 1, 0, none⟩ = some (.int .i64 a) ∧ Wz.cell? ⟨w.heap.size + 1, 1, none⟩ = some (.int .i64 b) ∧ Wz.cell? ⟨w.heap.size + 1, 2, none⟩ = some (.int .i64 t) ∧ Wz.cell? ⟨w.heap.size + 1 + 1, 0, none⟩ = some (.int .i64 mo) ∧ Wz.cell? ⟨w.heap.size + 1 + 1, 1, none⟩ = some (.int .i64 ms) ∧ Wz.cell? ⟨w.heap.size + 1 + 1, 2, none⟩ = some (.bool mc) ∧ (W36).heap.size ≤ Wz.heap.size) (W36).drew := ⟨keepd (X39.out.cell 0) hdr205 lt190, keepd (X39.out.cell 1) hdr205 lt191, keepd (X39.out.cell 2) hdr205 lt192, keepd (X39.out.cell 3) hdr205 lt193, keepd (X39.out.cell 4) hdr205 lt194, keepd (X39.out.cell 5) hdr205 lt195, keepd (X39.out.cell 6) hdr205 lt196, keepd (X39.out.cell 7) hdr205 lt197, keepd (X39.out.cell 8) hdr205 lt198, keepd (X40.out.cell 0) hdr205 lt199, keepd (X40.out.cell 1) hdr205 lt200, keepd (X40.out.cell 2) hdr205 lt201, keepd (X41.out.cell 0) hdr205 lt202, keepd (X41.out.cell 1) hdr205 lt203, keepd (X41.out.cell 2) hdr205 lt204, Nat.le_refl _⟩
    have Hcall206 := Lib.hid hcall206
    have Hini207 := Lib.hid hini207
    have Hput208 := Lib.hid hput208
    clear hcall206 ne209 ne218 ne221 hput208 hini207 lt190 lt191 lt192 lt193 lt194 lt195 lt196 lt197 lt198 lt199 lt200 lt201 lt202 lt203 lt204
    clear q44 q45 q46 q47 q48 q49 q50 q51 q52 q53 q54 q55 q56 q57 q58 q59 q60 q61 fz62
    refine wp_region_noPanic ?_
    refine wp_region_held_drew (S := (fun Wz => Wz.cell? ⟨w.heap.size, 0, none⟩ = some (.int .i64 e1) ∧ Wz.cell? ⟨w.heap.size, 1, none⟩ = some (.int .i64 R1) ∧ Wz.cell? ⟨w.heap.size, 2, none⟩ = some (.int .i64 S1) ∧ Wz.cell? ⟨w.heap.size, 3, none⟩ = some (.slice SA sn sc) ∧ Wz.cell? ⟨w.heap.size, 4, none⟩ = some (.int .i64 e2) ∧ Wz.cell? ⟨w.heap.size, 5, none⟩ = some (.int .i64 R2) ∧ Wz.cell? ⟨w.heap.size, 6, none⟩ = some (.int .i64 S2) ∧ Wz.cell? ⟨w.heap.size, 7, none⟩ = some (.slice RA rn rc) ∧ Wz.cell? ⟨w.heap.size, 8, none⟩ = some (d) ∧ Wz.cell? ⟨w.heap.size + 1, 0, none⟩ = some (.int .i64 a) ∧ Wz.cell? ⟨w.heap.size + 1, 1, none⟩ = some (.int .i64 b) ∧ Wz.cell? ⟨w.heap.size + 1, 2, none⟩ = some (.int .i64 t) ∧ Wz.cell? ⟨w.heap.size + 1 + 1, 0, none⟩ = some (.int .i64 mo) ∧ Wz.cell? ⟨w.heap.size + 1 + 1, 1, none⟩ = some (.int .i64 ms) ∧ Wz.cell? ⟨w.heap.size + 1 + 1, 2, none⟩ = some (.bool mc) ∧ (W36).heap.size ≤ Wz.heap.size)) (by kernel_rfl) Hini207.out (fun hHeld => ?_)
    obtain ⟨W224, hW225⟩ : ∃ Wzz, (W36).drew = Wzz := ⟨_, rfl⟩
    rw [hW225] at hHeld hdr205 ⊢
    clear hW225
    have X226 := Lib.hid (X39.out.later hdr205)
    have X227 := Lib.hid (X40.out.later hdr205)
    have X228 := Lib.hid (X41.out.later hdr205)
    have X229 := Lib.hid (X42.out.later hdr205)
    have B230 := Lib.hid (B38.out.trans (hdr205.mono B38.out.size))
    clear hdr205
    refine wpAnyH_take (i := 0) (oi := { dst := some 22, op := Op.fieldAddr 29 (Operand.tmp 4) 0, type := 0, pos := "ref.go:147", after := #[], guard := none }) (v := ?vh231) rfl ?hsh231 ?hfh231 ?hrh231 ?hQh231 ?hyh231 (by assumption) ?resth231
    case hsh231 => kernel_rfl
    case hfh231 => kernel_rfl
    case hrh231 => kernel_rfl
    case hQh231 => exact fun _ _ _ h => h
    case hyh231 => (refine Or.inl ⟨by rfl, ?_⟩; intro w hSw; (try dsimp only at hSw); go_simp; try with_reducible rfl)
    try simp only [Act.put, List.setIfInBounds_toArray, List.set_cons_zero, List.set_cons_succ]
    refine wpAnyH_take (i := 1) (oi := { dst := some 23, op := Op.load 3 (Operand.tmp 22), type := 3, pos := "ref.go:147", after := #[{ on := 0, ground := Ground.data }], guard := none }) (v := ?vh232) rfl ?hsh232 ?hfh232 ?hrh232 ?hQh232 ?hyh232 (by assumption) ?resth232
    case hsh232 => kernel_rfl
    case hfh232 => kernel_rfl
    case hrh232 => kernel_rfl
    case hQh232 => exact fun _ _ _ h => h
    case hyh232 => (refine Or.inl ⟨by rfl, ?_⟩; intro w hSw; (try dsimp only at hSw); go_simp; try with_reducible rfl)
    try simp only [Act.put, List.setIfInBounds_toArray, List.set_cons_zero, List.set_cons_succ]
    refine wpAnyH_take (i := 2) (oi := { dst := some 24, op := Op.fieldAddr 41 (Operand.tmp 5) 0, type := 0, pos := "ref.go:147", after := #[], guard := none }) (v := ?vh233) rfl ?hsh233 ?hfh233 ?hrh233 ?hQh233 ?hyh233 (by assumption) ?resth233
    case hsh233 => kernel_rfl
    case hfh233 => kernel_rfl
    case hrh233 => kernel_rfl
    case hQh233 => exact fun _ _ _ h => h
    case hyh233 => (refine Or.inl ⟨by rfl, ?_⟩; intro w hSw; (try dsimp only at hSw); go_simp; try with_reducible rfl)
    try simp only [Act.put, List.setIfInBounds_toArray, List.set_cons_zero, List.set_cons_succ]
    refine wpAnyH_take (i := 3) (oi := { dst := some 25, op := Op.load 3 (Operand.tmp 24), type := 3, pos := "ref.go:147", after := #[{ on := 2, ground := Ground.data }], guard := none }) (v := ?vh234) rfl ?hsh234 ?hfh234 ?hrh234 ?hQh234 ?hyh234 (by assumption) ?resth234
    case hsh234 => kernel_rfl
    case hfh234 => kernel_rfl
    case hrh234 => kernel_rfl
    case hQh234 => exact fun _ _ _ h => h
    case hyh234 => (refine Or.inl ⟨by rfl, ?_⟩; intro w hSw; (try dsimp only at hSw); go_simp; try with_reducible rfl)
    try simp only [Act.put, List.setIfInBounds_toArray, List.set_cons_zero, List.set_cons_succ]
    refine wpAnyH_take (i := 4) (oi := { dst := some 26, op := Op.binOp BinOp.add 3 (Operand.tmp 23) (Operand.tmp 25) 3, type := 3, pos := "ref.go:147", after := #[{ on := 1, ground := Ground.data }, { on := 3, ground := Ground.data }], guard := none }) (v := ?vh235) rfl ?hsh235 ?hfh235 ?hrh235 ?hQh235 ?hyh235 (by assumption) ?resth235
    case hsh235 => kernel_rfl
    case hfh235 => kernel_rfl
    case hrh235 => kernel_rfl
    case hQh235 => exact fun _ _ _ h => h
    case hyh235 => (refine Or.inl ⟨by rfl, ?_⟩; intro w hSw; (try dsimp only at hSw); go_simp; try with_reducible rfl)
    try simp only [Act.put, List.setIfInBounds_toArray, List.set_cons_zero, List.set_cons_succ]
    refine wpAnyH_take (i := 5) (oi := { dst := some 27, op := Op.call { callee := Callee.builtin Builtin.max, args := #[Operand.const (Value.int IntKind.i64 0), Operand.tmp 26], argTypes := #[3, 3] }, type := 3, pos := "ref.go:147", after := #[{ on := 4, ground := Ground.data }], guard := none }) (v := ?vh236) rfl ?hsh236 ?hfh236 ?hrh236 ?hQh236 ?hyh236 (by assumption) ?resth236
    case hsh236 => kernel_rfl
    case hfh236 => kernel_rfl
    case hrh236 => kernel_rfl
    case hQh236 => exact fun _ _ _ h => h
    case hyh236 => (refine Or.inl ⟨by rfl, ?_⟩; intro w hSw; (try dsimp only at hSw); go_simp; try with_reducible rfl)
    try simp only [Act.put, List.setIfInBounds_toArray, List.set_cons_zero, List.set_cons_succ]
    refine wpAnyH_take (i := 6) (oi := { dst := some 28, op := Op.fieldAddr 29 (Operand.tmp 4) 1, type := 0, pos := "ref.go:147", after := #[], guard := none }) (v := ?vh237) rfl ?hsh237 ?hfh237 ?hrh237 ?hQh237 ?hyh237 (by assumption) ?resth237
    case hsh237 => kernel_rfl
    case hfh237 => kernel_rfl
    case hrh237 => kernel_rfl
    case hQh237 => exact fun _ _ _ h => h
    case hyh237 => (refine Or.inl ⟨by rfl, ?_⟩; intro w hSw; (try dsimp only at hSw); go_simp; try with_reducible rfl)
    try simp only [Act.put, List.setIfInBounds_toArray, List.set_cons_zero, List.set_cons_succ]
    refine wpAnyH_take (i := 7) (oi := { dst := some 29, op := Op.load 3 (Operand.tmp 28), type := 3, pos := "ref.go:147", after := #[{ on := 6, ground := Ground.data }], guard := none }) (v := ?vh238) rfl ?hsh238 ?hfh238 ?hrh238 ?hQh238 ?hyh238 (by assumption) ?resth238
    case hsh238 => kernel_rfl
    case hfh238 => kernel_rfl
    case hrh238 => kernel_rfl
    case hQh238 => exact fun _ _ _ h => h
    case hyh238 => (refine Or.inl ⟨by rfl, ?_⟩; intro w hSw; (try dsimp only at hSw); go_simp; try with_reducible rfl)
    try simp only [Act.put, List.setIfInBounds_toArray, List.set_cons_zero, List.set_cons_succ]
    refine wpAnyH_take (i := 8) (oi := { dst := some 30, op := Op.fieldAddr 41 (Operand.tmp 5) 1, type := 0, pos := "ref.go:147", after := #[], guard := none }) (v := ?vh239) rfl ?hsh239 ?hfh239 ?hrh239 ?hQh239 ?hyh239 (by assumption) ?resth239
    case hsh239 => kernel_rfl
    case hfh239 => kernel_rfl
    case hrh239 => kernel_rfl
    case hQh239 => exact fun _ _ _ h => h
    case hyh239 => (refine Or.inl ⟨by rfl, ?_⟩; intro w hSw; (try dsimp only at hSw); go_simp; try with_reducible rfl)
    try simp only [Act.put, List.setIfInBounds_toArray, List.set_cons_zero, List.set_cons_succ]
    refine wpAnyH_take (i := 9) (oi := { dst := some 31, op := Op.load 3 (Operand.tmp 30), type := 3, pos := "ref.go:147", after := #[{ on := 8, ground := Ground.data }], guard := none }) (v := ?vh240) rfl ?hsh240 ?hfh240 ?hrh240 ?hQh240 ?hyh240 (by assumption) ?resth240
    case hsh240 => kernel_rfl
    case hfh240 => kernel_rfl
    case hrh240 => kernel_rfl
    case hQh240 => exact fun _ _ _ h => h
    case hyh240 => (refine Or.inl ⟨by rfl, ?_⟩; intro w hSw; (try dsimp only at hSw); go_simp; try with_reducible rfl)
    try simp only [Act.put, List.setIfInBounds_toArray, List.set_cons_zero, List.set_cons_succ]
    refine wpAnyH_take (i := 10) (oi := { dst := some 32, op := Op.binOp BinOp.add 3 (Operand.tmp 29) (Operand.tmp 31) 3, type := 3, pos := "ref.go:147", after := #[{ on := 7, ground := Ground.data }, { on := 9, ground := Ground.data }], guard := none }) (v := ?vh241) rfl ?hsh241 ?hfh241 ?hrh241 ?hQh241 ?hyh241 (by assumption) ?resth241
    case hsh241 => kernel_rfl
    case hfh241 => kernel_rfl
    case hrh241 => kernel_rfl
    case hQh241 => exact fun _ _ _ h => h
    case hyh241 => (refine Or.inl ⟨by rfl, ?_⟩; intro w hSw; (try dsimp only at hSw); go_simp; try with_reducible rfl)
    try simp only [Act.put, List.setIfInBounds_toArray, List.set_cons_zero, List.set_cons_succ]
    refine wpAnyH_take (i := 11) (oi := { dst := some 33, op := Op.move (Operand.tmp 8), type := 3, pos := "ref.go:147", after := #[], guard := none }) (v := ?vh242) rfl ?hsh242 ?hfh242 ?hrh242 ?hQh242 ?hyh242 (by assumption) ?resth242
    case hsh242 => kernel_rfl
    case hfh242 => kernel_rfl
    case hrh242 => kernel_rfl
    case hQh242 => exact fun _ _ _ h => h
    case hyh242 => (refine Or.inl ⟨by rfl, ?_⟩; intro w hSw; (try dsimp only at hSw); go_simp; try with_reducible rfl)
    try simp only [Act.put, List.setIfInBounds_toArray, List.set_cons_zero, List.set_cons_succ]
    refine wpAnyH_take (i := 13) (oi := { dst := some 35, op := Op.fieldAddr 29 (Operand.tmp 4) 2, type := 0, pos := "ref.go:147", after := #[], guard := none }) (v := ?vh243) rfl ?hsh243 ?hfh243 ?hrh243 ?hQh243 ?hyh243 (by assumption) ?resth243
    case hsh243 => kernel_rfl
    case hfh243 => kernel_rfl
    case hrh243 => kernel_rfl
    case hQh243 => exact fun _ _ _ h => h
    case hyh243 => (refine Or.inl ⟨by rfl, ?_⟩; intro w hSw; (try dsimp only at hSw); go_simp; try with_reducible rfl)
    try simp only [Act.put, List.setIfInBounds_toArray, List.set_cons_zero, List.set_cons_succ]
    refine wpAnyH_take (i := 14) (oi := { dst := some 36, op := Op.load 3 (Operand.tmp 35), type := 3, pos := "ref.go:147", after := #[{ on := 13, ground := Ground.data }], guard := none }) (v := ?vh244) rfl ?hsh244 ?hfh244 ?hrh244 ?hQh244 ?hyh244 (by assumption) ?resth244
    case hsh244 => kernel_rfl
    case hfh244 => kernel_rfl
    case hrh244 => kernel_rfl
    case hQh244 => exact fun _ _ _ h => h
    case hyh244 => (refine Or.inl ⟨by rfl, ?_⟩; intro w hSw; (try dsimp only at hSw); go_simp; try with_reducible rfl)
    try simp only [Act.put, List.setIfInBounds_toArray, List.set_cons_zero, List.set_cons_succ]
    refine wpAnyH_take (i := 15) (oi := { dst := some 37, op := Op.binOp BinOp.add 3 (Operand.tmp 36) (Operand.const (Value.int IntKind.i64 1)) 3, type := 3, pos := "ref.go:147", after := #[{ on := 14, ground := Ground.data }], guard := none }) (v := ?vh245) rfl ?hsh245 ?hfh245 ?hrh245 ?hQh245 ?hyh245 (by assumption) ?resth245
    case hsh245 => kernel_rfl
    case hfh245 => kernel_rfl
    case hrh245 => kernel_rfl
    case hQh245 => exact fun _ _ _ h => h
    case hyh245 => (refine Or.inl ⟨by rfl, ?_⟩; intro w hSw; (try dsimp only at hSw); go_simp; try with_reducible rfl)
    try simp only [Act.put, List.setIfInBounds_toArray, List.set_cons_zero, List.set_cons_succ]
    refine wpAnyH_take (i := 16) (oi := { dst := some 38, op := Op.move (Operand.tmp 8), type := 3, pos := "ref.go:147", after := #[], guard := none }) (v := ?vh246) rfl ?hsh246 ?hfh246 ?hrh246 ?hQh246 ?hyh246 (by assumption) ?resth246
    case hsh246 => kernel_rfl
    case hfh246 => kernel_rfl
    case hrh246 => kernel_rfl
    case hQh246 => exact fun _ _ _ h => h
    case hyh246 => (refine Or.inl ⟨by rfl, ?_⟩; intro w hSw; (try dsimp only at hSw); go_simp; try with_reducible rfl)
    try simp only [Act.put, List.setIfInBounds_toArray, List.set_cons_zero, List.set_cons_succ]
    refine wpAnyH_ready (rs := [12]) (by kernel_rfl) (by simp) ?_
    refine AllReadyH.cons (o := _) (by rfl) (fun K hK => ?_) AllReadyH.nil
    go_simp
    go_at_call 73
    refine (kAround_c x2 S1 _ HSB.out HD.out.1).mono ?_; rintro e w' ⟨rfl, rfl⟩
    rw [HR2.out]
    go_wp2_with fail
    refine hK.out _ _ hHeld (fun hHeld247 => ?_)
    clear hK K hHeld
    have hHeld := hHeld247
    clear hHeld247
    try simp only [Act.put, List.setIfInBounds_toArray, List.set_cons_zero, List.set_cons_succ]
    refine wpAnyH_ready (rs := [17]) (by kernel_rfl) (by simp) ?_
    refine AllReadyH.cons (o := _) (by rfl) (fun K hK => ?_) AllReadyH.nil
    go_simp
    go_at_call 73
    refine (kAround_c x3 S1 _ HSB.out HD.out.2).mono ?_; rintro e w' ⟨rfl, rfl⟩
    rw [HR3.out]
    go_wp2_with fail
    refine hK.out _ _ hHeld (fun hHeld248 => ?_)
    clear hK K hHeld
    have hHeld := hHeld248
    clear hHeld248
    try simp only [Act.put, List.setIfInBounds_toArray, List.set_cons_zero, List.set_cons_succ]
    refine wpAnyH_take (i := 18) (oi := { dst := some 40, op := Op.build 29 #[(0, Operand.tmp 27), (1, Operand.tmp 34), (2, Operand.tmp 39)], type := 29, pos := "ref.go:147", after := #[{ on := 5, ground := Ground.data }, { on := 12, ground := Ground.data }, { on := 17, ground := Ground.data }], guard := none }) (v := ?vh249) rfl ?hsh249 ?hfh249 ?hrh249 ?hQh249 ?hyh249 (by assumption) ?resth249
    case hsh249 => kernel_rfl
    case hfh249 => kernel_rfl
    case hrh249 => kernel_rfl
    case hQh249 => exact fun _ _ _ h => h
    case hyh249 => (refine Or.inl ⟨by rfl, ?_⟩; intro w hSw; (try dsimp only at hSw); go_simp; try with_reducible rfl)
    try simp only [Act.put, List.setIfInBounds_toArray, List.set_cons_zero, List.set_cons_succ]
    refine wpAnyH_ready (rs := [19]) (by kernel_rfl) (by simp) ?_
    refine AllReadyH.cons (o := _) (by rfl) (fun K hK => ?_) AllReadyH.nil
    have q250 : W224.cell? ⟨w.heap.size + 1 + 1 + 1, 0, none⟩ = some (.int .i64 0) := X229.out.cell 0
    have q251 : W224.cell? ⟨w.heap.size + 1 + 1 + 1, 1, none⟩ = some (.int .i64 0) := X229.out.cell 1
    have q252 : W224.cell? ⟨w.heap.size + 1 + 1 + 1, 2, none⟩ = some (.int .i64 0) := X229.out.cell 2
    have q253 : ∀ o, W224.frozen? ⟨w.heap.size + 1 + 1 + 1, o, none⟩ = false := fun o => X229.out.free o
    go_simp
    clear q250 q251 q252 q253
    have X254 := Lib.hid (show Box (((W224.setCell ⟨w.heap.size + 1 + 1 + 1, 0, none⟩ (.int .i64 0)).setCell ⟨w.heap.size + 1 + 1 + 1, 1, none⟩ (.int .i64 r2)).setCell ⟨w.heap.size + 1 + 1 + 1, 2, none⟩ (.int .i64 r3)) (w.heap.size) 27 #[.int .i64 e1, .int .i64 R1, .int .i64 S1, .slice SA sn sc, .int .i64 e2, .int .i64 R2, .int .i64 S2, .slice RA rn rc, d] from ((((((X226.out).far (p := ⟨w.heap.size + 1 + 1 + 1, 0, none⟩) (by first | (simp; done) | (simp; omega) | omega) (.int .i64 0))).far (p := ⟨w.heap.size + 1 + 1 + 1, 1, none⟩) (by first | (simp; done) | (simp; omega) | omega) (.int .i64 r2))).far (p := ⟨w.heap.size + 1 + 1 + 1, 2, none⟩) (by first | (simp; done) | (simp; omega) | omega) (.int .i64 r3)))
    have X255 := Lib.hid (show Box (((W224.setCell ⟨w.heap.size + 1 + 1 + 1, 0, none⟩ (.int .i64 0)).setCell ⟨w.heap.size + 1 + 1 + 1, 1, none⟩ (.int .i64 r2)).setCell ⟨w.heap.size + 1 + 1 + 1, 2, none⟩ (.int .i64 r3)) (w.heap.size + 1) 29 #[.int .i64 a, .int .i64 b, .int .i64 t] from ((((((X227.out).far (p := ⟨w.heap.size + 1 + 1 + 1, 0, none⟩) (by first | (simp; done) | (simp; omega) | omega) (.int .i64 0))).far (p := ⟨w.heap.size + 1 + 1 + 1, 1, none⟩) (by first | (simp; done) | (simp; omega) | omega) (.int .i64 r2))).far (p := ⟨w.heap.size + 1 + 1 + 1, 2, none⟩) (by first | (simp; done) | (simp; omega) | omega) (.int .i64 r3)))
    have X256 := Lib.hid (show Box (((W224.setCell ⟨w.heap.size + 1 + 1 + 1, 0, none⟩ (.int .i64 0)).setCell ⟨w.heap.size + 1 + 1 + 1, 1, none⟩ (.int .i64 r2)).setCell ⟨w.heap.size + 1 + 1 + 1, 2, none⟩ (.int .i64 r3)) (w.heap.size + 1 + 1) 41 #[.int .i64 mo, .int .i64 ms, .bool mc] from ((((((X228.out).far (p := ⟨w.heap.size + 1 + 1 + 1, 0, none⟩) (by first | (simp; done) | (simp; omega) | omega) (.int .i64 0))).far (p := ⟨w.heap.size + 1 + 1 + 1, 1, none⟩) (by first | (simp; done) | (simp; omega) | omega) (.int .i64 r2))).far (p := ⟨w.heap.size + 1 + 1 + 1, 2, none⟩) (by first | (simp; done) | (simp; omega) | omega) (.int .i64 r3)))
    have X257 := Lib.hid (show Box (((W224.setCell ⟨w.heap.size + 1 + 1 + 1, 0, none⟩ (.int .i64 0)).setCell ⟨w.heap.size + 1 + 1 + 1, 1, none⟩ (.int .i64 r2)).setCell ⟨w.heap.size + 1 + 1 + 1, 2, none⟩ (.int .i64 r3)) (w.heap.size + 1 + 1 + 1) 29 #[.int .i64 0, .int .i64 r2, .int .i64 r3] from ((((((X229.out).put 0 (.int .i64 0))).put 1 (.int .i64 r2))).put 2 (.int .i64 r3)))
    have B258 := Lib.hid ((((((B230.out).setCell (p := ⟨w.heap.size + 1 + 1 + 1, 0, none⟩) (by first | (simp; done) | (simp; omega) | omega) (.int .i64 0))).setCell (p := ⟨w.heap.size + 1 + 1 + 1, 1, none⟩) (by first | (simp; done) | (simp; omega) | omega) (.int .i64 r2))).setCell (p := ⟨w.heap.size + 1 + 1 + 1, 2, none⟩) (by first | (simp; done) | (simp; omega) | omega) (.int .i64 r3))
    refine hK.out _ _ (Hput208.out _ 2 (.int .i64 r3) (Hput208.out _ 1 (.int .i64 r2) (Hput208.out _ 0 (.int .i64 0) hHeld))) (fun hHeld259 => ?_)
    clear hK K hHeld
    have hHeld := hHeld259
    clear hHeld259
    try simp only [Act.put, List.setIfInBounds_toArray, List.set_cons_zero, List.set_cons_succ]
    refine wpAnyH_take (i := 20) (oi := { dst := some 7, op := Op.assign (Operand.const (Value.bool true)), type := 4, pos := "ref.go:147", after := #[{ on := 19, ground := Ground.chain }, { on := 0, ground := Ground.phase }, { on := 1, ground := Ground.phase }, { on := 2, ground := Ground.phase }, { on := 3, ground := Ground.phase }, { on := 4, ground := Ground.phase }, { on := 5, ground := Ground.phase }, { on := 6, ground := Ground.phase }, { on := 7, ground := Ground.phase }, { on := 8, ground := Ground.phase }, { on := 9, ground := Ground.phase }, { on := 10, ground := Ground.phase }, { on := 11, ground := Ground.phase }, { on := 12, ground := Ground.phase }, { on := 13, ground := Ground.phase }, { on := 14, ground := Ground.phase }, { on := 15, ground := Ground.phase }, { on := 16, ground := Ground.phase }, { on := 17, ground := Ground.phase }, { on := 18, ground := Ground.phase }, { on := 19, ground := Ground.phase }], guard := none }) (v := ?vh260) rfl ?hsh260 ?hfh260 ?hrh260 ?hQh260 ?hyh260 (by assumption) ?resth260
    case hsh260 => kernel_rfl
    case hfh260 => kernel_rfl
    case hrh260 => kernel_rfl
    case hQh260 => exact fun _ _ _ h => h
    case hyh260 => (refine Or.inl ⟨by rfl, ?_⟩; intro w hSw; (try dsimp only at hSw); go_simp; try with_reducible rfl)
    try simp only [Act.put, List.setIfInBounds_toArray, List.set_cons_zero, List.set_cons_succ]
    refine wpAnyH_done (by kernel_rfl) ?_ _
    refine NoPanic.normal ?_
    clear hHeld Hcall206 Hini207 Hput208
    obtain ⟨W261, hW262⟩ : ∃ Wzz, (((W224.setCell ⟨w.heap.size + 1 + 1 + 1, 0, none⟩ (.int .i64 0)).setCell ⟨w.heap.size + 1 + 1 + 1, 1, none⟩ (.int .i64 r2)).setCell ⟨w.heap.size + 1 + 1 + 1, 2, none⟩ (.int .i64 r3)) = Wzz := ⟨_, rfl⟩
    have x263 := X254.out
    rw [hW262] at x263
    have X263 := Lib.hid x263
    clear x263 X254
    have x264 := X255.out
    rw [hW262] at x264
    have X264 := Lib.hid x264
    clear x264 X255
    have x265 := X256.out
    rw [hW262] at x265
    have X265 := Lib.hid x265
    clear x265 X256
    have x266 := X257.out
    rw [hW262] at x266
    have X266 := Lib.hid x266
    clear x266 X257
    have b267 := B258.out
    rw [hW262] at b267
    have B267 := Lib.hid b267
    clear b267 B258
    rw [hW262]
    clear hW262
    have q268 : W261.cell? ⟨w.heap.size, 0, none⟩ = some (.int .i64 e1) := X263.out.cell 0
    have q269 : W261.cell? ⟨w.heap.size, 1, none⟩ = some (.int .i64 R1) := X263.out.cell 1
    have q270 : W261.cell? ⟨w.heap.size, 2, none⟩ = some (.int .i64 S1) := X263.out.cell 2
    have q271 : W261.cell? ⟨w.heap.size, 3, none⟩ = some (.slice SA sn sc) := X263.out.cell 3
    have q272 : W261.cell? ⟨w.heap.size, 4, none⟩ = some (.int .i64 e2) := X263.out.cell 4
    have q273 : W261.cell? ⟨w.heap.size, 5, none⟩ = some (.int .i64 R2) := X263.out.cell 5
    have q274 : W261.cell? ⟨w.heap.size, 6, none⟩ = some (.int .i64 S2) := X263.out.cell 6
    have q275 : W261.cell? ⟨w.heap.size, 7, none⟩ = some (.slice RA rn rc) := X263.out.cell 7
    have q276 : W261.cell? ⟨w.heap.size, 8, none⟩ = some (d) := X263.out.cell 8
    have q277 : W261.cell? ⟨w.heap.size + 1, 0, none⟩ = some (.int .i64 a) := X264.out.cell 0
    have q278 : W261.cell? ⟨w.heap.size + 1, 1, none⟩ = some (.int .i64 b) := X264.out.cell 1
    have q279 : W261.cell? ⟨w.heap.size + 1, 2, none⟩ = some (.int .i64 t) := X264.out.cell 2
    have q280 : W261.cell? ⟨w.heap.size + 1 + 1, 0, none⟩ = some (.int .i64 mo) := X265.out.cell 0
    have q281 : W261.cell? ⟨w.heap.size + 1 + 1, 1, none⟩ = some (.int .i64 ms) := X265.out.cell 1
    have q282 : W261.cell? ⟨w.heap.size + 1 + 1, 2, none⟩ = some (.bool mc) := X265.out.cell 2
    have q283 : W261.cell? ⟨w.heap.size + 1 + 1 + 1, 0, none⟩ = some (.int .i64 0) := X266.out.cell 0
    have q284 : W261.cell? ⟨w.heap.size + 1 + 1 + 1, 1, none⟩ = some (.int .i64 r2) := X266.out.cell 1
    have q285 : W261.cell? ⟨w.heap.size + 1 + 1 + 1, 2, none⟩ = some (.int .i64 r3) := X266.out.cell 2
    have fz286 : ∀ o, W261.frozen? ⟨w.heap.size + 1 + 1 + 1, o, none⟩ = false := fun o => X266.out.free o
    go_wp2_with fail
    (try simp only [Exit.inBlock, Exit.then])
    refine endS2 (t := 6) (u := 7) (x := .bool true) (v := .tuple #[stV (nextS ⟨⟨e1, R1, S1, k1⟩, ⟨e2, R2, S2, k2⟩, dr⟩ ⟨a, b, t⟩ ⟨mo, ms, mc⟩), .bool true]) ?_ ?_ ?_ X266.out B267.out ?_
    · rfl
    · rfl
    · rfl
    · rw [HN.out, HX.out]; rfl

end Go.Proofs.Ytikfiallhmhicaa

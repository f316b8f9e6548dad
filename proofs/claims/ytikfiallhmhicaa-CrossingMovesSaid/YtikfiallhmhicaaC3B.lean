/- Layer 2: the law on moves. -/
import Derived.Test.YtikfiallhmhicaaC33
import Derived.Test.YtikfiallhmhicaaC38
import Derived.Test.YtikfiallhmhicaaC3A
set_option linter.all false
namespace Go.Proofs.Ytikfiallhmhicaa
open Go.RowKit


def ovB (p : Pr) (s : St3) : Int := if asE p s = 0 then bedK p s else 0
def ovR (p : Pr) (s : St3) : Int := if asE p s = 0 then runK p s else 0
def mvR (p : Pr) (s : St3) : List Mv := if asE p s = 0 then movesL p s else []
def nxR (p : Pr) (s : St3) (m : Mv) : St3 := if asE p s = 0 then (if hasM (movesL p s) m then nextS p s m else st0) else st0
def nxO (p : Pr) (s : St3) (m : Mv) : Bool := decide (asE p s = 0) && hasM (movesL p s) m && outB p s m
def nxE (p : Pr) (s : St3) (m : Mv) : Int := if asE p s = 0 then (if hasM (movesL p s) m then 0 else 1) else asE p s
def enR (p : Pr) : List St3 := if ckE p = 0 then entS p p.bed.sectors.toNat (p.bed.sectors.toNat * p.bed.sectors.toNat) else []
theorem no_moves (w : World) : Moves w w.heap.size (.slice none 0 0) [] := ⟨by simp, none, 0, rfl, Nat.le_refl _, fun h => by simp at h⟩
theorem no_states (w : World) : States w w.heap.size (.slice none 0 0) [] := ⟨none, 0, rfl, Nat.le_refl _, fun h => by simp at h⟩
theorem mvR_len (p : Pr) (s : St3) : (mvR p s).length ≤ 3 := by
  unfold mvR
  split
  · rename_i h; exact (listB_parts (movesL_ok (asE_zero h).1 (asE_zero h).2)).1.2
  · simp
theorem enR_len (p : Pr) : (enR p).length ≤ 9216 := by
  unfold enR
  split
  · rename_i h
    obtain ⟨-, hS, -⟩ := ckE_bd h
    rw [entS_len]
    exact Nat.mul_le_mul (show p.bed.sectors.toNat ≤ 96 by omega) (show p.bed.sectors.toNat ≤ 96 by omega)
  · simp
theorem Over_c (p : Pr) (a b t : Int) (v : Value) (w : World) (h : IsPair w w.heap.size v p) : Calls Try.prog 16 #[v, .agg #[.int .i64 a, .int .i64 b, .int .i64 t]] w fun e w' => e = .returned (.tuple #[.int .i64 (ovB p ⟨a, b, t⟩), .int .i64 (ovR p ⟨a, b, t⟩), .int .i64 (asE p ⟨a, b, t⟩)]) ∧ Below w.heap.size w w' := by
  unfold ovB ovR
  by_cases h0 : asE p ⟨a, b, t⟩ = 0
  · rw [if_pos h0, if_pos h0, h0]; exact Over_ok p a b t v w h h0
  · rw [if_neg h0, if_neg h0]; exact Over_bad p a b t v w h h0
theorem Moves_c (p : Pr) (a b t : Int) (v : Value) (w : World) (h : IsPair w w.heap.size v p) : Calls Try.prog 18 #[v, .agg #[.int .i64 a, .int .i64 b, .int .i64 t]] w fun e w' => (∃ v', e = .returned (.tuple #[v', .int .i64 (asE p ⟨a, b, t⟩)]) ∧ Moves w' w'.heap.size v' (mvR p ⟨a, b, t⟩)) ∧ Below w.heap.size w w' := by
  unfold mvR
  by_cases h0 : asE p ⟨a, b, t⟩ = 0
  · rw [if_pos h0, h0]; exact Moves_ok p a b t v w h h0
  · rw [if_neg h0]
    exact (Moves_bad p a b t v w h h0).mono fun e w' hh => ⟨⟨_, hh.1, no_moves w'⟩, hh.2⟩
theorem Entries_c (p : Pr)  (v : Value) (w : World) (h : IsPair w w.heap.size v p) : Calls Try.prog 22 #[v] w fun e w' => (∃ v', e = .returned (.tuple #[v', .int .i64 (ckE p)]) ∧ States w' w'.heap.size v' (enR p)) ∧ Below w.heap.size w w' := by
  unfold enR
  by_cases h0 : ckE p = 0
  · rw [if_pos h0, h0]
    obtain ⟨-, hS, -⟩ := ckE_bd h0
    exact Entries_ok p _ v w h h0 (by omega)
  · rw [if_neg h0]
    exact (Entries_bad p v w h h0).mono fun e w' hh => ⟨⟨_, hh.1, no_states w'⟩, hh.2⟩
theorem Next_c (p : Pr) (a b t mo ms : Int) (mc : Bool) (v : Value) (w : World) (h : IsPair w w.heap.size v p) : Calls Try.prog 20 #[v, .agg #[.int .i64 a, .int .i64 b, .int .i64 t], .agg #[.int .i64 mo, .int .i64 ms, .bool mc]] w fun e w' => e = .returned (.tuple #[stV (nxR p ⟨a, b, t⟩ ⟨mo, ms, mc⟩), .bool (nxO p ⟨a, b, t⟩ ⟨mo, ms, mc⟩), .int .i64 (nxE p ⟨a, b, t⟩ ⟨mo, ms, mc⟩)]) ∧ Below w.heap.size w w' := by
  unfold nxR nxO nxE
  by_cases h0 : asE p ⟨a, b, t⟩ = 0
  · cases hh : hasM (movesL p ⟨a, b, t⟩) ⟨mo, ms, mc⟩
    · simp only [h0, decide_true, Bool.and_false, Bool.false_and, if_true, if_false, Bool.false_eq_true]; exact Next_none p a b t mo ms mc v w h h0 hh
    · by_cases ho : a + mo = p.bed.rings
      · have e1 : outB p ⟨a, b, t⟩ ⟨mo, ms, mc⟩ = true := by unfold outB; exact decide_eq_true ho
        have e2 : nextS p ⟨a, b, t⟩ ⟨mo, ms, mc⟩ = st0 := by unfold nextS; rw [e1]; rfl
        simp only [h0, e1, e2, decide_true, Bool.and_self, if_true]; exact Next_out p a b t mo ms mc v w h h0 hh ho
      · have e1 : outB p ⟨a, b, t⟩ ⟨mo, ms, mc⟩ = false := by unfold outB; exact decide_eq_false ho
        simp only [h0, e1, decide_true, Bool.and_false, if_true]; exact Next_in p a b t mo ms mc v w h h0 hh ho
  · simp only [h0, decide_false, Bool.false_and, if_false, Bool.false_eq_true]; exact Next_bad p a b t mo ms mc v w h h0
theorem kOver_c (p : Pr) (a b t : Int) (v : Value) (w : World) (h : IsPair w w.heap.size v p) : Calls Try.prog 17 #[v, .agg #[.int .i64 a, .int .i64 b, .int .i64 t]] w fun e w' => e = .returned (.tuple #[.int .i64 (ovB p ⟨a, b, t⟩), .int .i64 (ovR p ⟨a, b, t⟩), .int .i64 (asE p ⟨a, b, t⟩)]) ∧ Below w.heap.size w w' := by
  unfold ovB ovR
  by_cases h0 : asE p ⟨a, b, t⟩ = 0
  · rw [if_pos h0, if_pos h0, h0]; exact kOver_ok p a b t v w h h0
  · rw [if_neg h0, if_neg h0]; exact kOver_bad p a b t v w h h0
theorem kMoves_c (p : Pr) (a b t : Int) (v : Value) (w : World) (h : IsPair w w.heap.size v p) : Calls Try.prog 19 #[v, .agg #[.int .i64 a, .int .i64 b, .int .i64 t]] w fun e w' => (∃ v', e = .returned (.tuple #[v', .int .i64 (asE p ⟨a, b, t⟩)]) ∧ Moves w' w'.heap.size v' (mvR p ⟨a, b, t⟩)) ∧ Below w.heap.size w w' := by
  unfold mvR
  by_cases h0 : asE p ⟨a, b, t⟩ = 0
  · rw [if_pos h0, h0]; exact kMoves_ok p a b t v w h h0
  · rw [if_neg h0]
    exact (kMoves_bad p a b t v w h h0).mono fun e w' hh => ⟨⟨_, hh.1, no_moves w'⟩, hh.2⟩
theorem kEntries_c (p : Pr)  (v : Value) (w : World) (h : IsPair w w.heap.size v p) : Calls Try.prog 23 #[v] w fun e w' => (∃ v', e = .returned (.tuple #[v', .int .i64 (ckE p)]) ∧ States w' w'.heap.size v' (enR p)) ∧ Below w.heap.size w w' := by
  unfold enR
  by_cases h0 : ckE p = 0
  · rw [if_pos h0, h0]
    obtain ⟨-, hS, -⟩ := ckE_bd h0
    exact kEntries_ok p _ v w h h0 (by omega)
  · rw [if_neg h0]
    exact (kEntries_bad p v w h h0).mono fun e w' hh => ⟨⟨_, hh.1, no_states w'⟩, hh.2⟩
theorem kNext_c (p : Pr) (a b t mo ms : Int) (mc : Bool) (v : Value) (w : World) (h : IsPair w w.heap.size v p) : Calls Try.prog 21 #[v, .agg #[.int .i64 a, .int .i64 b, .int .i64 t], .agg #[.int .i64 mo, .int .i64 ms, .bool mc]] w fun e w' => e = .returned (.tuple #[stV (nxR p ⟨a, b, t⟩ ⟨mo, ms, mc⟩), .bool (nxO p ⟨a, b, t⟩ ⟨mo, ms, mc⟩), .int .i64 (nxE p ⟨a, b, t⟩ ⟨mo, ms, mc⟩)]) ∧ Below w.heap.size w w' := by
  unfold nxR nxO nxE
  by_cases h0 : asE p ⟨a, b, t⟩ = 0
  · cases hh : hasM (movesL p ⟨a, b, t⟩) ⟨mo, ms, mc⟩
    · simp only [h0, decide_true, Bool.and_false, Bool.false_and, if_true, if_false, Bool.false_eq_true]; exact kNext_none p a b t mo ms mc v w h h0 hh
    · by_cases ho : a + mo = p.bed.rings
      · have e1 : outB p ⟨a, b, t⟩ ⟨mo, ms, mc⟩ = true := by unfold outB; exact decide_eq_true ho
        have e2 : nextS p ⟨a, b, t⟩ ⟨mo, ms, mc⟩ = st0 := by unfold nextS; rw [e1]; rfl
        simp only [h0, e1, e2, decide_true, Bool.and_self, if_true]; exact kNext_out p a b t mo ms mc v w h h0 hh ho
      · have e1 : outB p ⟨a, b, t⟩ ⟨mo, ms, mc⟩ = false := by unfold outB; exact decide_eq_false ho
        simp only [h0, e1, decide_true, Bool.and_false, if_true]; exact kNext_in p a b t mo ms mc v w h h0 hh ho
  · simp only [h0, decide_false, Bool.false_and, if_false, Bool.false_eq_true]; exact kNext_bad p a b t mo ms mc v w h h0
set_option maxRecDepth 100000 in
set_option maxHeartbeats 8000000 in
theorem SameStates_c (l : List St3) (v u : Value) (w : World) (h : States w w.heap.size v l) (hu : States w w.heap.size u l) (h3 : l.length ≤ 9216) : Calls Try.prog 25 #[v, u] w fun e w' => e = .returned (.bool true) ∧ Below w.heap.size w w' := by
  obtain ⟨n, hn⟩ : ∃ n, l.length = n := ⟨_, rfl⟩
  have HN := Lib.hid hn
  have HM := Lib.hid h
  have HU := Lib.hid hu
  obtain ⟨A, c, rfl, hcap, -⟩ := h
  obtain ⟨A2, c2, rfl, hcap2, -⟩ := hu
  rw [hn] at HM HU h3 ⊢
  have e1 : ((n : Int) != (n : Int)) = false := by simp
  clear hcap hcap2 hn
  go_enter Try.func25, Try.ntmps25
  go_wp2_with fail
  go_loopw [5] (fun i wr => ∃ k : Nat, k ≤ n ∧ i = .int .i64 (k : Int) ∧ Below w.heap.size w wr) (fun i _ => n - (intOf i).toNat)
  case atStart => exact ⟨0, Nat.zero_le _, rfl, Below.refl _ _⟩
  case round =>
    obtain ⟨k, hk, rfl, hbr⟩ := hrel
    have HBR := Lib.hid hbr
    clear hbr
    by_cases hlt : k < n
    · have hdk : decide ((k : Int) < (n : Int)) = true := by simpa using hlt
      have i0 : (0 : Int) ≤ (k : Int) := Int.natCast_nonneg _
      have i1 : (k : Int) < (n : Int) := by omega
      obtain ⟨b, off, c', hv, hbB, x1, x2, x3⟩ := HM.out.at (k := k) (by rw [HN.out]; exact hlt)
      rw [HN.out] at hv
      cases hv
      obtain ⟨b2, off2, c2', hv2, hbB2, z1, z2, z3⟩ := HU.out.at (k := k) (by rw [HN.out]; exact hlt)
      rw [HN.out] at hv2
      cases hv2
      have y1 := keepd x1 HBR.out hbB
      have y2 := keepd x2 HBR.out hbB
      have y3 := keepd x3 HBR.out hbB
      have y4 := keepd z1 HBR.out hbB2
      have y5 := keepd z2 HBR.out hbB2
      have y6 := keepd z3 HBR.out hbB2
      obtain ⟨⟨x, y, z⟩, hm⟩ : ∃ m, l.getD k st0 = m := ⟨_, rfl⟩
      have HLT := Lib.hid hlt
      rw [hm] at y1 y2 y3 y4 y5 y6
      dsimp only at y1 y2 y3 y4 y5 y6
      clear x1 x2 x3 z1 z2 z3 hbB hbB2 hm hlt
      have hE : ∀ w : World, (binOp .neq 29 (.agg #[.int .i64 x, .int .i64 y, .int .i64 z]) (.agg #[.int .i64 x, .int .i64 y, .int .i64 z])).run Try.prog w = .ok (.bool false) w := fun w => by rw [eqState .neq (.inr rfl)]; simp [eqS]
      go_wp2_with fail
      go_quiet (fail)
      go_wp2_with fail
      go_roundw
      case rel => exact ⟨k + 1, by have := HLT.out; omega, by go_num, HBR.out.trans (below_drewN _ _)⟩
      case measure => have := HLT.out; simp [intOf]; omega
    · obtain rfl : k = n := by omega
      have hdk : decide ((k : Int) < (k : Int)) = false := by simp
      clear hlt
      go_wp2_with fail
      go_ret
      exact ⟨rfl, HBR.out⟩

set_option maxRecDepth 100000 in
set_option maxHeartbeats 8000000 in
theorem CrossingMoves_c (p : Pr) (a b t : Int) (mo ms : Int) (mc : Bool) (v : Value) (w : World) (h : IsPair w w.heap.size v p) : Calls Try.prog 4 #[v, .agg #[.int .i64 a, .int .i64 b, .int .i64 t], .agg #[.int .i64 mo, .int .i64 ms, .bool mc]] w fun e w' => e = .returned (.bool true) ∧ Below w.heap.size w w' := by
  obtain ⟨s, r, d, hpv, -, -, -⟩ := id h
  subst hpv
  have HP0 := Lib.hid h
  clear h
  unfold pairV at *
  go_enter Try.func4, Try.ntmps4
  go_wp2_with fail
  obtain ⟨W1, hW2⟩ : ∃ Wzz, (((w.alloc (.cells #[.int .i64 p.bed.eye, .int .i64 p.bed.rings, .int .i64 p.bed.sectors, s, .int .i64 p.run.eye, .int .i64 p.run.rings, .int .i64 p.run.sectors, r, d] 27)).alloc (.cells #[.int .i64 a, .int .i64 b, .int .i64 t] 29)).alloc (.cells #[.int .i64 mo, .int .i64 ms, .bool mc] 41)) = Wzz := ⟨_, rfl⟩
  have B3 := Lib.hid (show Below w.heap.size w W1 by rw [← hW2]; exact ((((Below.refl w.heap.size w).alloc (Nat.le_refl _) _).alloc (by first | (simp; done) | (simp; omega)) _).alloc (by first | (simp; done) | (simp; omega)) _))
  have X4 := Lib.hid (show Box W1 (w.heap.size) 27 #[.int .i64 p.bed.eye, .int .i64 p.bed.rings, .int .i64 p.bed.sectors, s, .int .i64 p.run.eye, .int .i64 p.run.rings, .int .i64 p.run.sectors, r, d] by rw [← hW2]; exact Box.alloc (Box.alloc (Box.made w 27 #[.int .i64 p.bed.eye, .int .i64 p.bed.rings, .int .i64 p.bed.sectors, s, .int .i64 p.run.eye, .int .i64 p.run.rings, .int .i64 p.run.sectors, r, d]) (.cells #[.int .i64 a, .int .i64 b, .int .i64 t] 29)) (.cells #[.int .i64 mo, .int .i64 ms, .bool mc] 41))
  have X5 := Lib.hid (show Box W1 (w.heap.size + 1) 29 #[.int .i64 a, .int .i64 b, .int .i64 t] by
    have hz := Box.alloc (Box.made (w.alloc (.cells #[.int .i64 p.bed.eye, .int .i64 p.bed.rings, .int .i64 p.bed.sectors, s, .int .i64 p.run.eye, .int .i64 p.run.rings, .int .i64 p.run.sectors, r, d] 27)) 29 #[.int .i64 a, .int .i64 b, .int .i64 t]) (.cells #[.int .i64 mo, .int .i64 ms, .bool mc] 41)
    rw [World.size_alloc] at hz
    rw [← hW2]; exact hz)
  have X6 := Lib.hid (show Box W1 (w.heap.size + 1 + 1) 41 #[.int .i64 mo, .int .i64 ms, .bool mc] by
    have hz := Box.made ((w.alloc (.cells #[.int .i64 p.bed.eye, .int .i64 p.bed.rings, .int .i64 p.bed.sectors, s, .int .i64 p.run.eye, .int .i64 p.run.rings, .int .i64 p.run.sectors, r, d] 27)).alloc (.cells #[.int .i64 a, .int .i64 b, .int .i64 t] 29)) 41 #[.int .i64 mo, .int .i64 ms, .bool mc]
    rw [World.size_alloc, World.size_alloc] at hz
    rw [← hW2]; exact hz)
  have C7 := Lib.hid (HP0.out.later B3.out)
  have SZ8 := Lib.hid (show W1.heap.size = w.heap.size + 1 + 1 + 1 by rw [← hW2]; simp)
  rw [hW2]
  clear hW2
  have q9 : W1.cell? ⟨w.heap.size, 0, none⟩ = some (.int .i64 p.bed.eye) := X4.out.cell 0
  have q10 : W1.cell? ⟨w.heap.size, 1, none⟩ = some (.int .i64 p.bed.rings) := X4.out.cell 1
  have q11 : W1.cell? ⟨w.heap.size, 2, none⟩ = some (.int .i64 p.bed.sectors) := X4.out.cell 2
  have q12 : W1.cell? ⟨w.heap.size, 3, none⟩ = some (s) := X4.out.cell 3
  have q13 : W1.cell? ⟨w.heap.size, 4, none⟩ = some (.int .i64 p.run.eye) := X4.out.cell 4
  have q14 : W1.cell? ⟨w.heap.size, 5, none⟩ = some (.int .i64 p.run.rings) := X4.out.cell 5
  have q15 : W1.cell? ⟨w.heap.size, 6, none⟩ = some (.int .i64 p.run.sectors) := X4.out.cell 6
  have q16 : W1.cell? ⟨w.heap.size, 7, none⟩ = some (r) := X4.out.cell 7
  have q17 : W1.cell? ⟨w.heap.size, 8, none⟩ = some (d) := X4.out.cell 8
  have q18 : W1.cell? ⟨w.heap.size + 1, 0, none⟩ = some (.int .i64 a) := X5.out.cell 0
  have q19 : W1.cell? ⟨w.heap.size + 1, 1, none⟩ = some (.int .i64 b) := X5.out.cell 1
  have q20 : W1.cell? ⟨w.heap.size + 1, 2, none⟩ = some (.int .i64 t) := X5.out.cell 2
  have q21 : W1.cell? ⟨w.heap.size + 1 + 1, 0, none⟩ = some (.int .i64 mo) := X6.out.cell 0
  have q22 : W1.cell? ⟨w.heap.size + 1 + 1, 1, none⟩ = some (.int .i64 ms) := X6.out.cell 1
  have q23 : W1.cell? ⟨w.heap.size + 1 + 1, 2, none⟩ = some (.bool mc) := X6.out.cell 2
  go_wp2_with fail
  refine (awake_c _).mono ?_; rintro e v24 ⟨rfl, hb25⟩
  have X26 := Lib.hid (X4.out.later hb25)
  have X27 := Lib.hid (X5.out.later hb25)
  have X28 := Lib.hid (X6.out.later hb25)
  have C29 := Lib.hid (C7.out.later hb25)
  have B30 := Lib.hid (B3.out.trans (hb25.mono B3.out.size))
  clear hb25
  clear q9 q10 q11 q12 q13 q14 q15 q16 q17 q18 q19 q20 q21 q22 q23
  have q31 : v24.cell? ⟨w.heap.size, 0, none⟩ = some (.int .i64 p.bed.eye) := X26.out.cell 0
  have q32 : v24.cell? ⟨w.heap.size, 1, none⟩ = some (.int .i64 p.bed.rings) := X26.out.cell 1
  have q33 : v24.cell? ⟨w.heap.size, 2, none⟩ = some (.int .i64 p.bed.sectors) := X26.out.cell 2
  have q34 : v24.cell? ⟨w.heap.size, 3, none⟩ = some (s) := X26.out.cell 3
  have q35 : v24.cell? ⟨w.heap.size, 4, none⟩ = some (.int .i64 p.run.eye) := X26.out.cell 4
  have q36 : v24.cell? ⟨w.heap.size, 5, none⟩ = some (.int .i64 p.run.rings) := X26.out.cell 5
  have q37 : v24.cell? ⟨w.heap.size, 6, none⟩ = some (.int .i64 p.run.sectors) := X26.out.cell 6
  have q38 : v24.cell? ⟨w.heap.size, 7, none⟩ = some (r) := X26.out.cell 7
  have q39 : v24.cell? ⟨w.heap.size, 8, none⟩ = some (d) := X26.out.cell 8
  have q40 : v24.cell? ⟨w.heap.size + 1, 0, none⟩ = some (.int .i64 a) := X27.out.cell 0
  have q41 : v24.cell? ⟨w.heap.size + 1, 1, none⟩ = some (.int .i64 b) := X27.out.cell 1
  have q42 : v24.cell? ⟨w.heap.size + 1, 2, none⟩ = some (.int .i64 t) := X27.out.cell 2
  have q43 : v24.cell? ⟨w.heap.size + 1 + 1, 0, none⟩ = some (.int .i64 mo) := X28.out.cell 0
  have q44 : v24.cell? ⟨w.heap.size + 1 + 1, 1, none⟩ = some (.int .i64 ms) := X28.out.cell 1
  have q45 : v24.cell? ⟨w.heap.size + 1 + 1, 2, none⟩ = some (.bool mc) := X28.out.cell 2
  go_wp2_with fail
  refine (small_c p _ _ C29.out).mono ?_; rintro e v46 ⟨⟨sm, rfl⟩, hb47⟩
  have X48 := Lib.hid (X26.out.later hb47)
  have X49 := Lib.hid (X27.out.later hb47)
  have X50 := Lib.hid (X28.out.later hb47)
  have C51 := Lib.hid (C29.out.later hb47)
  have B52 := Lib.hid (B30.out.trans (hb47.mono B30.out.size))
  clear hb47
  clear q31 q32 q33 q34 q35 q36 q37 q38 q39 q40 q41 q42 q43 q44 q45
  have q53 : v46.cell? ⟨w.heap.size, 0, none⟩ = some (.int .i64 p.bed.eye) := X48.out.cell 0
  have q54 : v46.cell? ⟨w.heap.size, 1, none⟩ = some (.int .i64 p.bed.rings) := X48.out.cell 1
  have q55 : v46.cell? ⟨w.heap.size, 2, none⟩ = some (.int .i64 p.bed.sectors) := X48.out.cell 2
  have q56 : v46.cell? ⟨w.heap.size, 3, none⟩ = some (s) := X48.out.cell 3
  have q57 : v46.cell? ⟨w.heap.size, 4, none⟩ = some (.int .i64 p.run.eye) := X48.out.cell 4
  have q58 : v46.cell? ⟨w.heap.size, 5, none⟩ = some (.int .i64 p.run.rings) := X48.out.cell 5
  have q59 : v46.cell? ⟨w.heap.size, 6, none⟩ = some (.int .i64 p.run.sectors) := X48.out.cell 6
  have q60 : v46.cell? ⟨w.heap.size, 7, none⟩ = some (r) := X48.out.cell 7
  have q61 : v46.cell? ⟨w.heap.size, 8, none⟩ = some (d) := X48.out.cell 8
  have q62 : v46.cell? ⟨w.heap.size + 1, 0, none⟩ = some (.int .i64 a) := X49.out.cell 0
  have q63 : v46.cell? ⟨w.heap.size + 1, 1, none⟩ = some (.int .i64 b) := X49.out.cell 1
  have q64 : v46.cell? ⟨w.heap.size + 1, 2, none⟩ = some (.int .i64 t) := X49.out.cell 2
  have q65 : v46.cell? ⟨w.heap.size + 1 + 1, 0, none⟩ = some (.int .i64 mo) := X50.out.cell 0
  have q66 : v46.cell? ⟨w.heap.size + 1 + 1, 1, none⟩ = some (.int .i64 ms) := X50.out.cell 1
  have q67 : v46.cell? ⟨w.heap.size + 1 + 1, 2, none⟩ = some (.bool mc) := X50.out.cell 2
  cases sm
  · go_wp2_with fail
    go_ret
    exact ⟨rfl, B52.out⟩
  · obtain ⟨N, hn9⟩ : ∃ X9, ovB p ⟨a, b, t⟩ = X9 := ⟨_, rfl⟩
    have HN := Lib.hid hn9
    clear hn9
    obtain ⟨M, hm9⟩ : ∃ X9, ovR p ⟨a, b, t⟩ = X9 := ⟨_, rfl⟩
    have HM := Lib.hid hm9
    clear hm9
    obtain ⟨F, hf9⟩ : ∃ X9, asE p ⟨a, b, t⟩ = X9 := ⟨_, rfl⟩
    have HF := Lib.hid hf9
    clear hf9
    obtain ⟨E, he9⟩ : ∃ X9, ckE p = X9 := ⟨_, rfl⟩
    have HE := Lib.hid he9
    clear he9
    obtain ⟨o, ho9⟩ : ∃ X9, nxO p ⟨a, b, t⟩ ⟨mo, ms, mc⟩ = X9 := ⟨_, rfl⟩
    have HO := Lib.hid ho9
    clear ho9
    obtain ⟨G, hg9⟩ : ∃ X9, nxE p ⟨a, b, t⟩ ⟨mo, ms, mc⟩ = X9 := ⟨_, rfl⟩
    have HG := Lib.hid hg9
    clear hg9
    obtain ⟨⟨sx, sy, sz⟩, hs9⟩ : ∃ X9, nxR p ⟨a, b, t⟩ ⟨mo, ms, mc⟩ = X9 := ⟨_, rfl⟩
    have HS := Lib.hid hs9
    clear hs9
    go_wp2_with fail
    refine (Over_c p a b t _ _ C51.out).mono ?_; rintro e v68 ⟨rfl, hb69⟩
    have X70 := Lib.hid (X48.out.later hb69)
    have X71 := Lib.hid (X49.out.later hb69)
    have X72 := Lib.hid (X50.out.later hb69)
    have C73 := Lib.hid (C51.out.later hb69)
    have B74 := Lib.hid (B52.out.trans (hb69.mono B52.out.size))
    clear hb69
    rw [HN.out, HM.out, HF.out]
    clear q53 q54 q55 q56 q57 q58 q59 q60 q61 q62 q63 q64 q65 q66 q67
    have q75 : v68.cell? ⟨w.heap.size, 0, none⟩ = some (.int .i64 p.bed.eye) := X70.out.cell 0
    have q76 : v68.cell? ⟨w.heap.size, 1, none⟩ = some (.int .i64 p.bed.rings) := X70.out.cell 1
    have q77 : v68.cell? ⟨w.heap.size, 2, none⟩ = some (.int .i64 p.bed.sectors) := X70.out.cell 2
    have q78 : v68.cell? ⟨w.heap.size, 3, none⟩ = some (s) := X70.out.cell 3
    have q79 : v68.cell? ⟨w.heap.size, 4, none⟩ = some (.int .i64 p.run.eye) := X70.out.cell 4
    have q80 : v68.cell? ⟨w.heap.size, 5, none⟩ = some (.int .i64 p.run.rings) := X70.out.cell 5
    have q81 : v68.cell? ⟨w.heap.size, 6, none⟩ = some (.int .i64 p.run.sectors) := X70.out.cell 6
    have q82 : v68.cell? ⟨w.heap.size, 7, none⟩ = some (r) := X70.out.cell 7
    have q83 : v68.cell? ⟨w.heap.size, 8, none⟩ = some (d) := X70.out.cell 8
    have q84 : v68.cell? ⟨w.heap.size + 1, 0, none⟩ = some (.int .i64 a) := X71.out.cell 0
    have q85 : v68.cell? ⟨w.heap.size + 1, 1, none⟩ = some (.int .i64 b) := X71.out.cell 1
    have q86 : v68.cell? ⟨w.heap.size + 1, 2, none⟩ = some (.int .i64 t) := X71.out.cell 2
    have q87 : v68.cell? ⟨w.heap.size + 1 + 1, 0, none⟩ = some (.int .i64 mo) := X72.out.cell 0
    have q88 : v68.cell? ⟨w.heap.size + 1 + 1, 1, none⟩ = some (.int .i64 ms) := X72.out.cell 1
    have q89 : v68.cell? ⟨w.heap.size + 1 + 1, 2, none⟩ = some (.bool mc) := X72.out.cell 2
    go_wp2_with fail
    refine (kOver_c p a b t _ _ C73.out).mono ?_; rintro e v90 ⟨rfl, hb91⟩
    have X92 := Lib.hid (X70.out.later hb91)
    have X93 := Lib.hid (X71.out.later hb91)
    have X94 := Lib.hid (X72.out.later hb91)
    have C95 := Lib.hid (C73.out.later hb91)
    have B96 := Lib.hid (B74.out.trans (hb91.mono B74.out.size))
    clear hb91
    rw [HN.out, HM.out, HF.out]
    clear q75 q76 q77 q78 q79 q80 q81 q82 q83 q84 q85 q86 q87 q88 q89
    have q97 : v90.cell? ⟨w.heap.size, 0, none⟩ = some (.int .i64 p.bed.eye) := X92.out.cell 0
    have q98 : v90.cell? ⟨w.heap.size, 1, none⟩ = some (.int .i64 p.bed.rings) := X92.out.cell 1
    have q99 : v90.cell? ⟨w.heap.size, 2, none⟩ = some (.int .i64 p.bed.sectors) := X92.out.cell 2
    have q100 : v90.cell? ⟨w.heap.size, 3, none⟩ = some (s) := X92.out.cell 3
    have q101 : v90.cell? ⟨w.heap.size, 4, none⟩ = some (.int .i64 p.run.eye) := X92.out.cell 4
    have q102 : v90.cell? ⟨w.heap.size, 5, none⟩ = some (.int .i64 p.run.rings) := X92.out.cell 5
    have q103 : v90.cell? ⟨w.heap.size, 6, none⟩ = some (.int .i64 p.run.sectors) := X92.out.cell 6
    have q104 : v90.cell? ⟨w.heap.size, 7, none⟩ = some (r) := X92.out.cell 7
    have q105 : v90.cell? ⟨w.heap.size, 8, none⟩ = some (d) := X92.out.cell 8
    have q106 : v90.cell? ⟨w.heap.size + 1, 0, none⟩ = some (.int .i64 a) := X93.out.cell 0
    have q107 : v90.cell? ⟨w.heap.size + 1, 1, none⟩ = some (.int .i64 b) := X93.out.cell 1
    have q108 : v90.cell? ⟨w.heap.size + 1, 2, none⟩ = some (.int .i64 t) := X93.out.cell 2
    have q109 : v90.cell? ⟨w.heap.size + 1 + 1, 0, none⟩ = some (.int .i64 mo) := X94.out.cell 0
    have q110 : v90.cell? ⟨w.heap.size + 1 + 1, 1, none⟩ = some (.int .i64 ms) := X94.out.cell 1
    have q111 : v90.cell? ⟨w.heap.size + 1 + 1, 2, none⟩ = some (.bool mc) := X94.out.cell 2
    go_wp2_with fail
    refine (Moves_c p a b t _ _ C95.out).mono ?_; rintro e v112 ⟨⟨u1, rfl, hu1⟩, hb113⟩
    have X114 := Lib.hid (X92.out.later hb113)
    have X115 := Lib.hid (X93.out.later hb113)
    have X116 := Lib.hid (X94.out.later hb113)
    have C117 := Lib.hid (C95.out.later hb113)
    have B118 := Lib.hid (B96.out.trans (hb113.mono B96.out.size))
    clear hb113
    have HU1 := Lib.hid hu1
    clear hu1
    rw [HF.out]
    clear q97 q98 q99 q100 q101 q102 q103 q104 q105 q106 q107 q108 q109 q110 q111
    have q119 : v112.cell? ⟨w.heap.size, 0, none⟩ = some (.int .i64 p.bed.eye) := X114.out.cell 0
    have q120 : v112.cell? ⟨w.heap.size, 1, none⟩ = some (.int .i64 p.bed.rings) := X114.out.cell 1
    have q121 : v112.cell? ⟨w.heap.size, 2, none⟩ = some (.int .i64 p.bed.sectors) := X114.out.cell 2
    have q122 : v112.cell? ⟨w.heap.size, 3, none⟩ = some (s) := X114.out.cell 3
    have q123 : v112.cell? ⟨w.heap.size, 4, none⟩ = some (.int .i64 p.run.eye) := X114.out.cell 4
    have q124 : v112.cell? ⟨w.heap.size, 5, none⟩ = some (.int .i64 p.run.rings) := X114.out.cell 5
    have q125 : v112.cell? ⟨w.heap.size, 6, none⟩ = some (.int .i64 p.run.sectors) := X114.out.cell 6
    have q126 : v112.cell? ⟨w.heap.size, 7, none⟩ = some (r) := X114.out.cell 7
    have q127 : v112.cell? ⟨w.heap.size, 8, none⟩ = some (d) := X114.out.cell 8
    have q128 : v112.cell? ⟨w.heap.size + 1, 0, none⟩ = some (.int .i64 a) := X115.out.cell 0
    have q129 : v112.cell? ⟨w.heap.size + 1, 1, none⟩ = some (.int .i64 b) := X115.out.cell 1
    have q130 : v112.cell? ⟨w.heap.size + 1, 2, none⟩ = some (.int .i64 t) := X115.out.cell 2
    have q131 : v112.cell? ⟨w.heap.size + 1 + 1, 0, none⟩ = some (.int .i64 mo) := X116.out.cell 0
    have q132 : v112.cell? ⟨w.heap.size + 1 + 1, 1, none⟩ = some (.int .i64 ms) := X116.out.cell 1
    have q133 : v112.cell? ⟨w.heap.size + 1 + 1, 2, none⟩ = some (.bool mc) := X116.out.cell 2
    go_wp2_with fail
    refine (kMoves_c p a b t _ _ C117.out).mono ?_; rintro e v134 ⟨⟨u2, rfl, hu2⟩, hb135⟩
    have X136 := Lib.hid (X114.out.later hb135)
    have X137 := Lib.hid (X115.out.later hb135)
    have X138 := Lib.hid (X116.out.later hb135)
    have C139 := Lib.hid (C117.out.later hb135)
    have C140 := Lib.hid (HU1.out.later hb135)
    have B141 := Lib.hid (B118.out.trans (hb135.mono B118.out.size))
    clear hb135
    have HU2 := Lib.hid hu2
    clear hu2
    rw [HF.out]
    clear q119 q120 q121 q122 q123 q124 q125 q126 q127 q128 q129 q130 q131 q132 q133
    have q142 : v134.cell? ⟨w.heap.size, 0, none⟩ = some (.int .i64 p.bed.eye) := X136.out.cell 0
    have q143 : v134.cell? ⟨w.heap.size, 1, none⟩ = some (.int .i64 p.bed.rings) := X136.out.cell 1
    have q144 : v134.cell? ⟨w.heap.size, 2, none⟩ = some (.int .i64 p.bed.sectors) := X136.out.cell 2
    have q145 : v134.cell? ⟨w.heap.size, 3, none⟩ = some (s) := X136.out.cell 3
    have q146 : v134.cell? ⟨w.heap.size, 4, none⟩ = some (.int .i64 p.run.eye) := X136.out.cell 4
    have q147 : v134.cell? ⟨w.heap.size, 5, none⟩ = some (.int .i64 p.run.rings) := X136.out.cell 5
    have q148 : v134.cell? ⟨w.heap.size, 6, none⟩ = some (.int .i64 p.run.sectors) := X136.out.cell 6
    have q149 : v134.cell? ⟨w.heap.size, 7, none⟩ = some (r) := X136.out.cell 7
    have q150 : v134.cell? ⟨w.heap.size, 8, none⟩ = some (d) := X136.out.cell 8
    have q151 : v134.cell? ⟨w.heap.size + 1, 0, none⟩ = some (.int .i64 a) := X137.out.cell 0
    have q152 : v134.cell? ⟨w.heap.size + 1, 1, none⟩ = some (.int .i64 b) := X137.out.cell 1
    have q153 : v134.cell? ⟨w.heap.size + 1, 2, none⟩ = some (.int .i64 t) := X137.out.cell 2
    have q154 : v134.cell? ⟨w.heap.size + 1 + 1, 0, none⟩ = some (.int .i64 mo) := X138.out.cell 0
    have q155 : v134.cell? ⟨w.heap.size + 1 + 1, 1, none⟩ = some (.int .i64 ms) := X138.out.cell 1
    have q156 : v134.cell? ⟨w.heap.size + 1 + 1, 2, none⟩ = some (.bool mc) := X138.out.cell 2
    go_wp2_with fail
    refine (Next_c p a b t mo ms mc _ _ C139.out).mono ?_; rintro e v157 ⟨rfl, hb158⟩
    have X159 := Lib.hid (X136.out.later hb158)
    have X160 := Lib.hid (X137.out.later hb158)
    have X161 := Lib.hid (X138.out.later hb158)
    have C162 := Lib.hid (C139.out.later hb158)
    have C163 := Lib.hid (C140.out.later hb158)
    have C164 := Lib.hid (HU2.out.later hb158)
    have B165 := Lib.hid (B141.out.trans (hb158.mono B141.out.size))
    clear hb158
    rw [HS.out, HO.out, HG.out]
    unfold stV
    dsimp only
    clear q142 q143 q144 q145 q146 q147 q148 q149 q150 q151 q152 q153 q154 q155 q156
    have q166 : v157.cell? ⟨w.heap.size, 0, none⟩ = some (.int .i64 p.bed.eye) := X159.out.cell 0
    have q167 : v157.cell? ⟨w.heap.size, 1, none⟩ = some (.int .i64 p.bed.rings) := X159.out.cell 1
    have q168 : v157.cell? ⟨w.heap.size, 2, none⟩ = some (.int .i64 p.bed.sectors) := X159.out.cell 2
    have q169 : v157.cell? ⟨w.heap.size, 3, none⟩ = some (s) := X159.out.cell 3
    have q170 : v157.cell? ⟨w.heap.size, 4, none⟩ = some (.int .i64 p.run.eye) := X159.out.cell 4
    have q171 : v157.cell? ⟨w.heap.size, 5, none⟩ = some (.int .i64 p.run.rings) := X159.out.cell 5
    have q172 : v157.cell? ⟨w.heap.size, 6, none⟩ = some (.int .i64 p.run.sectors) := X159.out.cell 6
    have q173 : v157.cell? ⟨w.heap.size, 7, none⟩ = some (r) := X159.out.cell 7
    have q174 : v157.cell? ⟨w.heap.size, 8, none⟩ = some (d) := X159.out.cell 8
    have q175 : v157.cell? ⟨w.heap.size + 1, 0, none⟩ = some (.int .i64 a) := X160.out.cell 0
    have q176 : v157.cell? ⟨w.heap.size + 1, 1, none⟩ = some (.int .i64 b) := X160.out.cell 1
    have q177 : v157.cell? ⟨w.heap.size + 1, 2, none⟩ = some (.int .i64 t) := X160.out.cell 2
    have q178 : v157.cell? ⟨w.heap.size + 1 + 1, 0, none⟩ = some (.int .i64 mo) := X161.out.cell 0
    have q179 : v157.cell? ⟨w.heap.size + 1 + 1, 1, none⟩ = some (.int .i64 ms) := X161.out.cell 1
    have q180 : v157.cell? ⟨w.heap.size + 1 + 1, 2, none⟩ = some (.bool mc) := X161.out.cell 2
    have LT181 := Lib.hid X161.out.lt
    have X182 := Lib.hid (X159.out.alloc (.cells #[.int .i64 sx, .int .i64 sy, .int .i64 sz] 29))
    have X183 := Lib.hid (X160.out.alloc (.cells #[.int .i64 sx, .int .i64 sy, .int .i64 sz] 29))
    have X184 := Lib.hid (X161.out.alloc (.cells #[.int .i64 sx, .int .i64 sy, .int .i64 sz] 29))
    have C185 := Lib.hid (C162.out.later ((Below.refl v157.heap.size v157).alloc (Nat.le_refl _) (.cells #[.int .i64 sx, .int .i64 sy, .int .i64 sz] 29)))
    have C186 := Lib.hid (C163.out.later ((Below.refl v157.heap.size v157).alloc (Nat.le_refl _) (.cells #[.int .i64 sx, .int .i64 sy, .int .i64 sz] 29)))
    have C187 := Lib.hid (C164.out.later ((Below.refl v157.heap.size v157).alloc (Nat.le_refl _) (.cells #[.int .i64 sx, .int .i64 sy, .int .i64 sz] 29)))
    have B188 := Lib.hid (B165.out.alloc B165.out.size (.cells #[.int .i64 sx, .int .i64 sy, .int .i64 sz] 29))
    have X189 := Lib.hid (Box.made v157 29 #[.int .i64 sx, .int .i64 sy, .int .i64 sz])
    have q190 : (v157.alloc (.cells #[.int .i64 sx, .int .i64 sy, .int .i64 sz] 29)).cell? ⟨w.heap.size, 0, none⟩ = some (.int .i64 p.bed.eye) := X182.out.cell 0
    have q191 : (v157.alloc (.cells #[.int .i64 sx, .int .i64 sy, .int .i64 sz] 29)).cell? ⟨w.heap.size, 1, none⟩ = some (.int .i64 p.bed.rings) := X182.out.cell 1
    have q192 : (v157.alloc (.cells #[.int .i64 sx, .int .i64 sy, .int .i64 sz] 29)).cell? ⟨w.heap.size, 2, none⟩ = some (.int .i64 p.bed.sectors) := X182.out.cell 2
    have q193 : (v157.alloc (.cells #[.int .i64 sx, .int .i64 sy, .int .i64 sz] 29)).cell? ⟨w.heap.size, 3, none⟩ = some (s) := X182.out.cell 3
    have q194 : (v157.alloc (.cells #[.int .i64 sx, .int .i64 sy, .int .i64 sz] 29)).cell? ⟨w.heap.size, 4, none⟩ = some (.int .i64 p.run.eye) := X182.out.cell 4
    have q195 : (v157.alloc (.cells #[.int .i64 sx, .int .i64 sy, .int .i64 sz] 29)).cell? ⟨w.heap.size, 5, none⟩ = some (.int .i64 p.run.rings) := X182.out.cell 5
    have q196 : (v157.alloc (.cells #[.int .i64 sx, .int .i64 sy, .int .i64 sz] 29)).cell? ⟨w.heap.size, 6, none⟩ = some (.int .i64 p.run.sectors) := X182.out.cell 6
    have q197 : (v157.alloc (.cells #[.int .i64 sx, .int .i64 sy, .int .i64 sz] 29)).cell? ⟨w.heap.size, 7, none⟩ = some (r) := X182.out.cell 7
    have q198 : (v157.alloc (.cells #[.int .i64 sx, .int .i64 sy, .int .i64 sz] 29)).cell? ⟨w.heap.size, 8, none⟩ = some (d) := X182.out.cell 8
    have q199 : (v157.alloc (.cells #[.int .i64 sx, .int .i64 sy, .int .i64 sz] 29)).cell? ⟨w.heap.size + 1, 0, none⟩ = some (.int .i64 a) := X183.out.cell 0
    have q200 : (v157.alloc (.cells #[.int .i64 sx, .int .i64 sy, .int .i64 sz] 29)).cell? ⟨w.heap.size + 1, 1, none⟩ = some (.int .i64 b) := X183.out.cell 1
    have q201 : (v157.alloc (.cells #[.int .i64 sx, .int .i64 sy, .int .i64 sz] 29)).cell? ⟨w.heap.size + 1, 2, none⟩ = some (.int .i64 t) := X183.out.cell 2
    have q202 : (v157.alloc (.cells #[.int .i64 sx, .int .i64 sy, .int .i64 sz] 29)).cell? ⟨w.heap.size + 1 + 1, 0, none⟩ = some (.int .i64 mo) := X184.out.cell 0
    have q203 : (v157.alloc (.cells #[.int .i64 sx, .int .i64 sy, .int .i64 sz] 29)).cell? ⟨w.heap.size + 1 + 1, 1, none⟩ = some (.int .i64 ms) := X184.out.cell 1
    have q204 : (v157.alloc (.cells #[.int .i64 sx, .int .i64 sy, .int .i64 sz] 29)).cell? ⟨w.heap.size + 1 + 1, 2, none⟩ = some (.bool mc) := X184.out.cell 2
    have q205 : (v157.alloc (.cells #[.int .i64 sx, .int .i64 sy, .int .i64 sz] 29)).cell? ⟨v157.heap.size, 0, none⟩ = some (.int .i64 sx) := X189.out.cell 0
    have q206 : (v157.alloc (.cells #[.int .i64 sx, .int .i64 sy, .int .i64 sz] 29)).cell? ⟨v157.heap.size, 1, none⟩ = some (.int .i64 sy) := X189.out.cell 1
    have q207 : (v157.alloc (.cells #[.int .i64 sx, .int .i64 sy, .int .i64 sz] 29)).cell? ⟨v157.heap.size, 2, none⟩ = some (.int .i64 sz) := X189.out.cell 2
    go_wp2_with fail
    refine (kNext_c p a b t mo ms mc _ _ C185.out).mono ?_; rintro e v208 ⟨rfl, hb209⟩
    have X210 := Lib.hid (X182.out.later hb209)
    have X211 := Lib.hid (X183.out.later hb209)
    have X212 := Lib.hid (X184.out.later hb209)
    have X213 := Lib.hid (X189.out.later hb209)
    have C214 := Lib.hid (C185.out.later hb209)
    have C215 := Lib.hid (C186.out.later hb209)
    have C216 := Lib.hid (C187.out.later hb209)
    have B217 := Lib.hid (B188.out.trans (hb209.mono B188.out.size))
    clear hb209
    rw [HS.out, HO.out, HG.out]
    unfold stV
    dsimp only
    clear q190 q191 q192 q193 q194 q195 q196 q197 q198 q199 q200 q201 q202 q203 q204 q205 q206 q207 q166 q167 q168 q169 q170 q171 q172 q173 q174 q175 q176 q177 q178 q179 q180
    have q218 : v208.cell? ⟨w.heap.size, 0, none⟩ = some (.int .i64 p.bed.eye) := X210.out.cell 0
    have q219 : v208.cell? ⟨w.heap.size, 1, none⟩ = some (.int .i64 p.bed.rings) := X210.out.cell 1
    have q220 : v208.cell? ⟨w.heap.size, 2, none⟩ = some (.int .i64 p.bed.sectors) := X210.out.cell 2
    have q221 : v208.cell? ⟨w.heap.size, 3, none⟩ = some (s) := X210.out.cell 3
    have q222 : v208.cell? ⟨w.heap.size, 4, none⟩ = some (.int .i64 p.run.eye) := X210.out.cell 4
    have q223 : v208.cell? ⟨w.heap.size, 5, none⟩ = some (.int .i64 p.run.rings) := X210.out.cell 5
    have q224 : v208.cell? ⟨w.heap.size, 6, none⟩ = some (.int .i64 p.run.sectors) := X210.out.cell 6
    have q225 : v208.cell? ⟨w.heap.size, 7, none⟩ = some (r) := X210.out.cell 7
    have q226 : v208.cell? ⟨w.heap.size, 8, none⟩ = some (d) := X210.out.cell 8
    have q227 : v208.cell? ⟨w.heap.size + 1, 0, none⟩ = some (.int .i64 a) := X211.out.cell 0
    have q228 : v208.cell? ⟨w.heap.size + 1, 1, none⟩ = some (.int .i64 b) := X211.out.cell 1
    have q229 : v208.cell? ⟨w.heap.size + 1, 2, none⟩ = some (.int .i64 t) := X211.out.cell 2
    have q230 : v208.cell? ⟨w.heap.size + 1 + 1, 0, none⟩ = some (.int .i64 mo) := X212.out.cell 0
    have q231 : v208.cell? ⟨w.heap.size + 1 + 1, 1, none⟩ = some (.int .i64 ms) := X212.out.cell 1
    have q232 : v208.cell? ⟨w.heap.size + 1 + 1, 2, none⟩ = some (.bool mc) := X212.out.cell 2
    have q233 : v208.cell? ⟨v157.heap.size, 0, none⟩ = some (.int .i64 sx) := X213.out.cell 0
    have q234 : v208.cell? ⟨v157.heap.size, 1, none⟩ = some (.int .i64 sy) := X213.out.cell 1
    have q235 : v208.cell? ⟨v157.heap.size, 2, none⟩ = some (.int .i64 sz) := X213.out.cell 2
    have LT236 := Lib.hid X212.out.lt
    have X237 := Lib.hid (X210.out.alloc (.cells #[.int .i64 sx, .int .i64 sy, .int .i64 sz] 29))
    have X238 := Lib.hid (X211.out.alloc (.cells #[.int .i64 sx, .int .i64 sy, .int .i64 sz] 29))
    have X239 := Lib.hid (X212.out.alloc (.cells #[.int .i64 sx, .int .i64 sy, .int .i64 sz] 29))
    have X240 := Lib.hid (X213.out.alloc (.cells #[.int .i64 sx, .int .i64 sy, .int .i64 sz] 29))
    have C241 := Lib.hid (C214.out.later ((Below.refl v208.heap.size v208).alloc (Nat.le_refl _) (.cells #[.int .i64 sx, .int .i64 sy, .int .i64 sz] 29)))
    have C242 := Lib.hid (C215.out.later ((Below.refl v208.heap.size v208).alloc (Nat.le_refl _) (.cells #[.int .i64 sx, .int .i64 sy, .int .i64 sz] 29)))
    have C243 := Lib.hid (C216.out.later ((Below.refl v208.heap.size v208).alloc (Nat.le_refl _) (.cells #[.int .i64 sx, .int .i64 sy, .int .i64 sz] 29)))
    have B244 := Lib.hid (B217.out.alloc B217.out.size (.cells #[.int .i64 sx, .int .i64 sy, .int .i64 sz] 29))
    have X245 := Lib.hid (Box.made v208 29 #[.int .i64 sx, .int .i64 sy, .int .i64 sz])
    have q246 : (v208.alloc (.cells #[.int .i64 sx, .int .i64 sy, .int .i64 sz] 29)).cell? ⟨w.heap.size, 0, none⟩ = some (.int .i64 p.bed.eye) := X237.out.cell 0
    have q247 : (v208.alloc (.cells #[.int .i64 sx, .int .i64 sy, .int .i64 sz] 29)).cell? ⟨w.heap.size, 1, none⟩ = some (.int .i64 p.bed.rings) := X237.out.cell 1
    have q248 : (v208.alloc (.cells #[.int .i64 sx, .int .i64 sy, .int .i64 sz] 29)).cell? ⟨w.heap.size, 2, none⟩ = some (.int .i64 p.bed.sectors) := X237.out.cell 2
    have q249 : (v208.alloc (.cells #[.int .i64 sx, .int .i64 sy, .int .i64 sz] 29)).cell? ⟨w.heap.size, 3, none⟩ = some (s) := X237.out.cell 3
    have q250 : (v208.alloc (.cells #[.int .i64 sx, .int .i64 sy, .int .i64 sz] 29)).cell? ⟨w.heap.size, 4, none⟩ = some (.int .i64 p.run.eye) := X237.out.cell 4
    have q251 : (v208.alloc (.cells #[.int .i64 sx, .int .i64 sy, .int .i64 sz] 29)).cell? ⟨w.heap.size, 5, none⟩ = some (.int .i64 p.run.rings) := X237.out.cell 5
    have q252 : (v208.alloc (.cells #[.int .i64 sx, .int .i64 sy, .int .i64 sz] 29)).cell? ⟨w.heap.size, 6, none⟩ = some (.int .i64 p.run.sectors) := X237.out.cell 6
    have q253 : (v208.alloc (.cells #[.int .i64 sx, .int .i64 sy, .int .i64 sz] 29)).cell? ⟨w.heap.size, 7, none⟩ = some (r) := X237.out.cell 7
    have q254 : (v208.alloc (.cells #[.int .i64 sx, .int .i64 sy, .int .i64 sz] 29)).cell? ⟨w.heap.size, 8, none⟩ = some (d) := X237.out.cell 8
    have q255 : (v208.alloc (.cells #[.int .i64 sx, .int .i64 sy, .int .i64 sz] 29)).cell? ⟨w.heap.size + 1, 0, none⟩ = some (.int .i64 a) := X238.out.cell 0
    have q256 : (v208.alloc (.cells #[.int .i64 sx, .int .i64 sy, .int .i64 sz] 29)).cell? ⟨w.heap.size + 1, 1, none⟩ = some (.int .i64 b) := X238.out.cell 1
    have q257 : (v208.alloc (.cells #[.int .i64 sx, .int .i64 sy, .int .i64 sz] 29)).cell? ⟨w.heap.size + 1, 2, none⟩ = some (.int .i64 t) := X238.out.cell 2
    have q258 : (v208.alloc (.cells #[.int .i64 sx, .int .i64 sy, .int .i64 sz] 29)).cell? ⟨w.heap.size + 1 + 1, 0, none⟩ = some (.int .i64 mo) := X239.out.cell 0
    have q259 : (v208.alloc (.cells #[.int .i64 sx, .int .i64 sy, .int .i64 sz] 29)).cell? ⟨w.heap.size + 1 + 1, 1, none⟩ = some (.int .i64 ms) := X239.out.cell 1
    have q260 : (v208.alloc (.cells #[.int .i64 sx, .int .i64 sy, .int .i64 sz] 29)).cell? ⟨w.heap.size + 1 + 1, 2, none⟩ = some (.bool mc) := X239.out.cell 2
    have q261 : (v208.alloc (.cells #[.int .i64 sx, .int .i64 sy, .int .i64 sz] 29)).cell? ⟨v157.heap.size, 0, none⟩ = some (.int .i64 sx) := X240.out.cell 0
    have q262 : (v208.alloc (.cells #[.int .i64 sx, .int .i64 sy, .int .i64 sz] 29)).cell? ⟨v157.heap.size, 1, none⟩ = some (.int .i64 sy) := X240.out.cell 1
    have q263 : (v208.alloc (.cells #[.int .i64 sx, .int .i64 sy, .int .i64 sz] 29)).cell? ⟨v157.heap.size, 2, none⟩ = some (.int .i64 sz) := X240.out.cell 2
    have q264 : (v208.alloc (.cells #[.int .i64 sx, .int .i64 sy, .int .i64 sz] 29)).cell? ⟨v208.heap.size, 0, none⟩ = some (.int .i64 sx) := X245.out.cell 0
    have q265 : (v208.alloc (.cells #[.int .i64 sx, .int .i64 sy, .int .i64 sz] 29)).cell? ⟨v208.heap.size, 1, none⟩ = some (.int .i64 sy) := X245.out.cell 1
    have q266 : (v208.alloc (.cells #[.int .i64 sx, .int .i64 sy, .int .i64 sz] 29)).cell? ⟨v208.heap.size, 2, none⟩ = some (.int .i64 sz) := X245.out.cell 2
    go_wp2_with fail
    refine (Entries_c p _ _ C241.out).mono ?_; rintro e v267 ⟨⟨u3, rfl, hu3⟩, hb268⟩
    have X269 := Lib.hid (X237.out.later hb268)
    have X270 := Lib.hid (X238.out.later hb268)
    have X271 := Lib.hid (X239.out.later hb268)
    have X272 := Lib.hid (X240.out.later hb268)
    have X273 := Lib.hid (X245.out.later hb268)
    have C274 := Lib.hid (C241.out.later hb268)
    have C275 := Lib.hid (C242.out.later hb268)
    have C276 := Lib.hid (C243.out.later hb268)
    have B277 := Lib.hid (B244.out.trans (hb268.mono B244.out.size))
    clear hb268
    have HU3 := Lib.hid hu3
    clear hu3
    rw [HE.out]
    clear q246 q247 q248 q249 q250 q251 q252 q253 q254 q255 q256 q257 q258 q259 q260 q261 q262 q263 q264 q265 q266 q218 q219 q220 q221 q222 q223 q224 q225 q226 q227 q228 q229 q230 q231 q232 q233 q234 q235
    have q278 : v267.cell? ⟨w.heap.size, 0, none⟩ = some (.int .i64 p.bed.eye) := X269.out.cell 0
    have q279 : v267.cell? ⟨w.heap.size, 1, none⟩ = some (.int .i64 p.bed.rings) := X269.out.cell 1
    have q280 : v267.cell? ⟨w.heap.size, 2, none⟩ = some (.int .i64 p.bed.sectors) := X269.out.cell 2
    have q281 : v267.cell? ⟨w.heap.size, 3, none⟩ = some (s) := X269.out.cell 3
    have q282 : v267.cell? ⟨w.heap.size, 4, none⟩ = some (.int .i64 p.run.eye) := X269.out.cell 4
    have q283 : v267.cell? ⟨w.heap.size, 5, none⟩ = some (.int .i64 p.run.rings) := X269.out.cell 5
    have q284 : v267.cell? ⟨w.heap.size, 6, none⟩ = some (.int .i64 p.run.sectors) := X269.out.cell 6
    have q285 : v267.cell? ⟨w.heap.size, 7, none⟩ = some (r) := X269.out.cell 7
    have q286 : v267.cell? ⟨w.heap.size, 8, none⟩ = some (d) := X269.out.cell 8
    have q287 : v267.cell? ⟨w.heap.size + 1, 0, none⟩ = some (.int .i64 a) := X270.out.cell 0
    have q288 : v267.cell? ⟨w.heap.size + 1, 1, none⟩ = some (.int .i64 b) := X270.out.cell 1
    have q289 : v267.cell? ⟨w.heap.size + 1, 2, none⟩ = some (.int .i64 t) := X270.out.cell 2
    have q290 : v267.cell? ⟨w.heap.size + 1 + 1, 0, none⟩ = some (.int .i64 mo) := X271.out.cell 0
    have q291 : v267.cell? ⟨w.heap.size + 1 + 1, 1, none⟩ = some (.int .i64 ms) := X271.out.cell 1
    have q292 : v267.cell? ⟨w.heap.size + 1 + 1, 2, none⟩ = some (.bool mc) := X271.out.cell 2
    have q293 : v267.cell? ⟨v157.heap.size, 0, none⟩ = some (.int .i64 sx) := X272.out.cell 0
    have q294 : v267.cell? ⟨v157.heap.size, 1, none⟩ = some (.int .i64 sy) := X272.out.cell 1
    have q295 : v267.cell? ⟨v157.heap.size, 2, none⟩ = some (.int .i64 sz) := X272.out.cell 2
    have q296 : v267.cell? ⟨v208.heap.size, 0, none⟩ = some (.int .i64 sx) := X273.out.cell 0
    have q297 : v267.cell? ⟨v208.heap.size, 1, none⟩ = some (.int .i64 sy) := X273.out.cell 1
    have q298 : v267.cell? ⟨v208.heap.size, 2, none⟩ = some (.int .i64 sz) := X273.out.cell 2
    go_wp2_with fail
    refine (kEntries_c p _ _ C274.out).mono ?_; rintro e v299 ⟨⟨u4, rfl, hu4⟩, hb300⟩
    have X301 := Lib.hid (X269.out.later hb300)
    have X302 := Lib.hid (X270.out.later hb300)
    have X303 := Lib.hid (X271.out.later hb300)
    have X304 := Lib.hid (X272.out.later hb300)
    have X305 := Lib.hid (X273.out.later hb300)
    have C306 := Lib.hid (C274.out.later hb300)
    have C307 := Lib.hid (C275.out.later hb300)
    have C308 := Lib.hid (C276.out.later hb300)
    have C309 := Lib.hid (HU3.out.later hb300)
    have B310 := Lib.hid (B277.out.trans (hb300.mono B277.out.size))
    clear hb300
    have HU4 := Lib.hid hu4
    clear hu4
    rw [HE.out]
    clear q278 q279 q280 q281 q282 q283 q284 q285 q286 q287 q288 q289 q290 q291 q292 q293 q294 q295 q296 q297 q298
    have q311 : v299.cell? ⟨w.heap.size, 0, none⟩ = some (.int .i64 p.bed.eye) := X301.out.cell 0
    have q312 : v299.cell? ⟨w.heap.size, 1, none⟩ = some (.int .i64 p.bed.rings) := X301.out.cell 1
    have q313 : v299.cell? ⟨w.heap.size, 2, none⟩ = some (.int .i64 p.bed.sectors) := X301.out.cell 2
    have q314 : v299.cell? ⟨w.heap.size, 3, none⟩ = some (s) := X301.out.cell 3
    have q315 : v299.cell? ⟨w.heap.size, 4, none⟩ = some (.int .i64 p.run.eye) := X301.out.cell 4
    have q316 : v299.cell? ⟨w.heap.size, 5, none⟩ = some (.int .i64 p.run.rings) := X301.out.cell 5
    have q317 : v299.cell? ⟨w.heap.size, 6, none⟩ = some (.int .i64 p.run.sectors) := X301.out.cell 6
    have q318 : v299.cell? ⟨w.heap.size, 7, none⟩ = some (r) := X301.out.cell 7
    have q319 : v299.cell? ⟨w.heap.size, 8, none⟩ = some (d) := X301.out.cell 8
    have q320 : v299.cell? ⟨w.heap.size + 1, 0, none⟩ = some (.int .i64 a) := X302.out.cell 0
    have q321 : v299.cell? ⟨w.heap.size + 1, 1, none⟩ = some (.int .i64 b) := X302.out.cell 1
    have q322 : v299.cell? ⟨w.heap.size + 1, 2, none⟩ = some (.int .i64 t) := X302.out.cell 2
    have q323 : v299.cell? ⟨w.heap.size + 1 + 1, 0, none⟩ = some (.int .i64 mo) := X303.out.cell 0
    have q324 : v299.cell? ⟨w.heap.size + 1 + 1, 1, none⟩ = some (.int .i64 ms) := X303.out.cell 1
    have q325 : v299.cell? ⟨w.heap.size + 1 + 1, 2, none⟩ = some (.bool mc) := X303.out.cell 2
    have q326 : v299.cell? ⟨v157.heap.size, 0, none⟩ = some (.int .i64 sx) := X304.out.cell 0
    have q327 : v299.cell? ⟨v157.heap.size, 1, none⟩ = some (.int .i64 sy) := X304.out.cell 1
    have q328 : v299.cell? ⟨v157.heap.size, 2, none⟩ = some (.int .i64 sz) := X304.out.cell 2
    have q329 : v299.cell? ⟨v208.heap.size, 0, none⟩ = some (.int .i64 sx) := X305.out.cell 0
    have q330 : v299.cell? ⟨v208.heap.size, 1, none⟩ = some (.int .i64 sy) := X305.out.cell 1
    have q331 : v299.cell? ⟨v208.heap.size, 2, none⟩ = some (.int .i64 sz) := X305.out.cell 2
    have e0 : ∀ z : Int, (z == z) = true := fun z => by simp
    have e1 : (o == o) = true := by simp
    have hS : ∀ w : World, (binOp .eql 29 (.agg #[.int .i64 sx, .int .i64 sy, .int .i64 sz]) (.agg #[.int .i64 sx, .int .i64 sy, .int .i64 sz])).run Try.prog w = .ok (.bool true) w := fun w => by rw [eqState .eql (.inl rfl)]; simp [eqS]
    go_wp2_with fail
    refine (SameMoves_c (mvR p ⟨a, b, t⟩) u1 u2 _ C307.out C308.out (mvR_len p ⟨a, b, t⟩)).mono ?_; rintro e v332 ⟨rfl, hb333⟩
    have X334 := Lib.hid (X301.out.later hb333)
    have X335 := Lib.hid (X302.out.later hb333)
    have X336 := Lib.hid (X303.out.later hb333)
    have X337 := Lib.hid (X304.out.later hb333)
    have X338 := Lib.hid (X305.out.later hb333)
    have C339 := Lib.hid (C306.out.later hb333)
    have C340 := Lib.hid (C307.out.later hb333)
    have C341 := Lib.hid (C308.out.later hb333)
    have C342 := Lib.hid (C309.out.later hb333)
    have C343 := Lib.hid (HU4.out.later hb333)
    have B344 := Lib.hid (B310.out.trans (hb333.mono B310.out.size))
    clear hb333
    clear q311 q312 q313 q314 q315 q316 q317 q318 q319 q320 q321 q322 q323 q324 q325 q326 q327 q328 q329 q330 q331
    have q345 : v332.cell? ⟨w.heap.size, 0, none⟩ = some (.int .i64 p.bed.eye) := X334.out.cell 0
    have q346 : v332.cell? ⟨w.heap.size, 1, none⟩ = some (.int .i64 p.bed.rings) := X334.out.cell 1
    have q347 : v332.cell? ⟨w.heap.size, 2, none⟩ = some (.int .i64 p.bed.sectors) := X334.out.cell 2
    have q348 : v332.cell? ⟨w.heap.size, 3, none⟩ = some (s) := X334.out.cell 3
    have q349 : v332.cell? ⟨w.heap.size, 4, none⟩ = some (.int .i64 p.run.eye) := X334.out.cell 4
    have q350 : v332.cell? ⟨w.heap.size, 5, none⟩ = some (.int .i64 p.run.rings) := X334.out.cell 5
    have q351 : v332.cell? ⟨w.heap.size, 6, none⟩ = some (.int .i64 p.run.sectors) := X334.out.cell 6
    have q352 : v332.cell? ⟨w.heap.size, 7, none⟩ = some (r) := X334.out.cell 7
    have q353 : v332.cell? ⟨w.heap.size, 8, none⟩ = some (d) := X334.out.cell 8
    have q354 : v332.cell? ⟨w.heap.size + 1, 0, none⟩ = some (.int .i64 a) := X335.out.cell 0
    have q355 : v332.cell? ⟨w.heap.size + 1, 1, none⟩ = some (.int .i64 b) := X335.out.cell 1
    have q356 : v332.cell? ⟨w.heap.size + 1, 2, none⟩ = some (.int .i64 t) := X335.out.cell 2
    have q357 : v332.cell? ⟨w.heap.size + 1 + 1, 0, none⟩ = some (.int .i64 mo) := X336.out.cell 0
    have q358 : v332.cell? ⟨w.heap.size + 1 + 1, 1, none⟩ = some (.int .i64 ms) := X336.out.cell 1
    have q359 : v332.cell? ⟨w.heap.size + 1 + 1, 2, none⟩ = some (.bool mc) := X336.out.cell 2
    have q360 : v332.cell? ⟨v157.heap.size, 0, none⟩ = some (.int .i64 sx) := X337.out.cell 0
    have q361 : v332.cell? ⟨v157.heap.size, 1, none⟩ = some (.int .i64 sy) := X337.out.cell 1
    have q362 : v332.cell? ⟨v157.heap.size, 2, none⟩ = some (.int .i64 sz) := X337.out.cell 2
    have q363 : v332.cell? ⟨v208.heap.size, 0, none⟩ = some (.int .i64 sx) := X338.out.cell 0
    have q364 : v332.cell? ⟨v208.heap.size, 1, none⟩ = some (.int .i64 sy) := X338.out.cell 1
    have q365 : v332.cell? ⟨v208.heap.size, 2, none⟩ = some (.int .i64 sz) := X338.out.cell 2
    go_wp2_with fail
    refine (SameStates_c (enR p) u3 u4 _ C342.out C343.out (enR_len p)).mono ?_; rintro e v366 ⟨rfl, hb367⟩
    have X368 := Lib.hid (X334.out.later hb367)
    have X369 := Lib.hid (X335.out.later hb367)
    have X370 := Lib.hid (X336.out.later hb367)
    have X371 := Lib.hid (X337.out.later hb367)
    have X372 := Lib.hid (X338.out.later hb367)
    have C373 := Lib.hid (C339.out.later hb367)
    have C374 := Lib.hid (C340.out.later hb367)
    have C375 := Lib.hid (C341.out.later hb367)
    have C376 := Lib.hid (C342.out.later hb367)
    have C377 := Lib.hid (C343.out.later hb367)
    have B378 := Lib.hid (B344.out.trans (hb367.mono B344.out.size))
    clear hb367
    clear q345 q346 q347 q348 q349 q350 q351 q352 q353 q354 q355 q356 q357 q358 q359 q360 q361 q362 q363 q364 q365
    have q379 : v366.cell? ⟨w.heap.size, 0, none⟩ = some (.int .i64 p.bed.eye) := X368.out.cell 0
    have q380 : v366.cell? ⟨w.heap.size, 1, none⟩ = some (.int .i64 p.bed.rings) := X368.out.cell 1
    have q381 : v366.cell? ⟨w.heap.size, 2, none⟩ = some (.int .i64 p.bed.sectors) := X368.out.cell 2
    have q382 : v366.cell? ⟨w.heap.size, 3, none⟩ = some (s) := X368.out.cell 3
    have q383 : v366.cell? ⟨w.heap.size, 4, none⟩ = some (.int .i64 p.run.eye) := X368.out.cell 4
    have q384 : v366.cell? ⟨w.heap.size, 5, none⟩ = some (.int .i64 p.run.rings) := X368.out.cell 5
    have q385 : v366.cell? ⟨w.heap.size, 6, none⟩ = some (.int .i64 p.run.sectors) := X368.out.cell 6
    have q386 : v366.cell? ⟨w.heap.size, 7, none⟩ = some (r) := X368.out.cell 7
    have q387 : v366.cell? ⟨w.heap.size, 8, none⟩ = some (d) := X368.out.cell 8
    have q388 : v366.cell? ⟨w.heap.size + 1, 0, none⟩ = some (.int .i64 a) := X369.out.cell 0
    have q389 : v366.cell? ⟨w.heap.size + 1, 1, none⟩ = some (.int .i64 b) := X369.out.cell 1
    have q390 : v366.cell? ⟨w.heap.size + 1, 2, none⟩ = some (.int .i64 t) := X369.out.cell 2
    have q391 : v366.cell? ⟨w.heap.size + 1 + 1, 0, none⟩ = some (.int .i64 mo) := X370.out.cell 0
    have q392 : v366.cell? ⟨w.heap.size + 1 + 1, 1, none⟩ = some (.int .i64 ms) := X370.out.cell 1
    have q393 : v366.cell? ⟨w.heap.size + 1 + 1, 2, none⟩ = some (.bool mc) := X370.out.cell 2
    have q394 : v366.cell? ⟨v157.heap.size, 0, none⟩ = some (.int .i64 sx) := X371.out.cell 0
    have q395 : v366.cell? ⟨v157.heap.size, 1, none⟩ = some (.int .i64 sy) := X371.out.cell 1
    have q396 : v366.cell? ⟨v157.heap.size, 2, none⟩ = some (.int .i64 sz) := X371.out.cell 2
    have q397 : v366.cell? ⟨v208.heap.size, 0, none⟩ = some (.int .i64 sx) := X372.out.cell 0
    have q398 : v366.cell? ⟨v208.heap.size, 1, none⟩ = some (.int .i64 sy) := X372.out.cell 1
    have q399 : v366.cell? ⟨v208.heap.size, 2, none⟩ = some (.int .i64 sz) := X372.out.cell 2
    go_wp2_with fail
    go_ret
    exact ⟨rfl, B378.out⟩

end Go.Proofs.Ytikfiallhmhicaa

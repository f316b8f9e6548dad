/- Layer 2: a pair laid together: states, their numbers, cells. -/
import Derived.Test.YtikfiallhmhicaaGreatC24
set_option linter.all false
namespace Go.Proofs.YtikfiallhmhicaaGreat
open Go.RowKit


theorem hasB_parts {p : Pr} {s : St3} : hasB p s = true ↔ (0 ≤ s.ring ∧ s.ring < p.bed.rings) ∧ (0 ≤ s.sector ∧ s.sector < p.bed.sectors) ∧ 0 ≤ s.turn ∧ s.turn < p.bed.sectors := by
  unfold hasB; rw [Bool.and_eq_true, Bool.and_eq_true, inB_iff, inB_iff, inB_iff]; omega
theorem hasB_not {p : Pr} {s : St3} (h : ¬ ((0 ≤ s.ring ∧ s.ring < p.bed.rings) ∧ (0 ≤ s.sector ∧ s.sector < p.bed.sectors) ∧ 0 ≤ s.turn ∧ s.turn < p.bed.sectors)) : hasB p s = false := by
  cases hb : hasB p s
  · rfl
  · exact absurd (hasB_parts.1 hb) h
set_option maxRecDepth 100000 in
set_option maxHeartbeats 8000000 in
theorem has_c (p : Pr) (a b t : Int) (g : Nat) (w : World) (h : IsChart w g p) : Calls Tryz.prog 114 #[.pointer (some ⟨g, 0, none⟩), .agg #[.int .i64 a, .int .i64 b, .int .i64 t]] w fun e w' => e = .returned (.bool (hasB p ⟨a, b, t⟩)) ∧ Below w.heap.size w w' := by
  obtain ⟨z0, z1, z2⟩ := h.rings
  have hB0 := Lib.hid (fun h => hasB_not (p := p) (s := ⟨a, b, t⟩) h)
  have hB1 := Lib.hid ((hasB_parts (p := p) (s := ⟨a, b, t⟩)).2)
  dsimp only at hB0 hB1
  clear h
  obtain ⟨R, hR⟩ : ∃ R, p.bed.rings = R := ⟨_, rfl⟩
  obtain ⟨S, hS⟩ : ∃ S, p.bed.sectors = S := ⟨_, rfl⟩
  rw [hR] at z0 hB0 hB1
  rw [hS] at z1 hB0 hB1
  have C0 := Lib.hid z0
  have C1 := Lib.hid z1
  have L := Lib.hid z2
  clear z0 z1 z2 hR hS
  go_enter Tryz.func114, Tryz.ntmps114
  go_wp2_with fail
  obtain ⟨W1, hW2⟩ : ∃ Wzz, (w.alloc (.cells #[.int .i64 a, .int .i64 b, .int .i64 t] 46)) = Wzz := ⟨_, rfl⟩
  have B3 := Lib.hid (show Below w.heap.size w W1 by rw [← hW2]; exact ((Below.refl w.heap.size w).alloc (Nat.le_refl _) _))
  have X4 := Lib.hid (show Box W1 (w.heap.size) 46 #[.int .i64 a, .int .i64 b, .int .i64 t] by rw [← hW2]; exact Box.made w 46 #[.int .i64 a, .int .i64 b, .int .i64 t])
  have SZ5 := Lib.hid (show W1.heap.size = w.heap.size + 1 by rw [← hW2]; simp)
  rw [hW2]
  clear hW2
  have q6 : W1.cell? ⟨w.heap.size, 0, none⟩ = some (.int .i64 a) := X4.out.cell 0
  have q7 : W1.cell? ⟨w.heap.size, 1, none⟩ = some (.int .i64 b) := X4.out.cell 1
  have q8 : W1.cell? ⟨w.heap.size, 2, none⟩ = some (.int .i64 t) := X4.out.cell 2
  have k0 := keepd C0.out B3.out L.out
  have k1 := keepd C1.out B3.out L.out
  by_cases c0 : 0 ≤ a; rotate_left
  · have HR := Lib.hid (hB0.out (by omega))
    have d0 : decide (0 ≤ a) = false := decide_eq_false c0
    clear c0
    go_wp2_with fail
    go_quiet (fail)
    go_wp2_with fail
    go_ret
    exact ⟨ret_bool HR.out.symm, B3.out.trans (below_drewN _ _)⟩
  · have d0 : decide (0 ≤ a) = true := decide_eq_true c0
    by_cases c1 : a < R; rotate_left
    · have HR := Lib.hid (hB0.out (by omega))
      have d1 : decide (a < R) = false := decide_eq_false c1
      clear c1
      go_wp2_with fail
      go_quiet (fail)
      go_wp2_with fail
      go_ret
      exact ⟨ret_bool HR.out.symm, B3.out.trans (below_drewN _ _)⟩
    · have d1 : decide (a < R) = true := decide_eq_true c1
      by_cases c2 : 0 ≤ b; rotate_left
      · have HR := Lib.hid (hB0.out (by omega))
        have d2 : decide (0 ≤ b) = false := decide_eq_false c2
        clear c2
        go_wp2_with fail
        go_quiet (fail)
        go_wp2_with fail
        go_ret
        exact ⟨ret_bool HR.out.symm, B3.out.trans (below_drewN _ _)⟩
      · have d2 : decide (0 ≤ b) = true := decide_eq_true c2
        by_cases c3 : b < S; rotate_left
        · have HR := Lib.hid (hB0.out (by omega))
          have d3 : decide (b < S) = false := decide_eq_false c3
          clear c3
          go_wp2_with fail
          go_quiet (fail)
          go_wp2_with fail
          go_ret
          exact ⟨ret_bool HR.out.symm, B3.out.trans (below_drewN _ _)⟩
        · have d3 : decide (b < S) = true := decide_eq_true c3
          by_cases c4 : 0 ≤ t; rotate_left
          · have HR := Lib.hid (hB0.out (by omega))
            have d4 : decide (0 ≤ t) = false := decide_eq_false c4
            clear c4
            go_wp2_with fail
            go_quiet (fail)
            go_wp2_with fail
            go_ret
            exact ⟨ret_bool HR.out.symm, B3.out.trans (below_drewN _ _)⟩
          · have d4 : decide (0 ≤ t) = true := decide_eq_true c4
            by_cases c5 : t < S; rotate_left
            · have HR := Lib.hid (hB0.out (by omega))
              have d5 : decide (t < S) = false := decide_eq_false c5
              clear c5
              go_wp2_with fail
              go_quiet (fail)
              go_wp2_with fail
              go_ret
              exact ⟨ret_bool HR.out.symm, B3.out.trans (below_drewN _ _)⟩
            · have d5 : decide (t < S) = true := decide_eq_true c5
              have HR := Lib.hid (hB1.out ⟨⟨c0, c1⟩, ⟨c2, c3⟩, c4, c5⟩)
              clear c0 c1 c2 c3 c4 c5
              go_wp2_with fail
              go_quiet (fail)
              go_wp2_with fail
              go_ret
              exact ⟨ret_bool HR.out.symm, B3.out.trans (below_drewN _ _)⟩


theorem num_bd {R S a b t : Int} (hR : 1 ≤ R ∧ R ≤ 24) (hS : 2 ≤ S ∧ S ≤ 96) (ha : 0 ≤ a ∧ a < R) (hb : 0 ≤ b ∧ b < S) (ht : 0 ≤ t ∧ t < S) :
    (0 ≤ t * R ∧ t * R ≤ 2304) ∧ (0 ≤ (t * R + a) * S ∧ (t * R + a) * S ≤ 240000) ∧ 0 ≤ (t * R + a) * S + b ∧ (t * R + a) * S + b < R * S * S := by
  obtain ⟨m1, m2⟩ := mul_bd (a := t) (b := R) (m := 96) (n := 24) (by omega) (by omega) (by omega) (by omega)
  obtain ⟨m3, m4⟩ := mul_bd (a := t * R + a) (b := S) (m := 2500) (n := 96) (by omega) (by omega) (by omega) (by omega)
  have h1 : t * R ≤ (S - 1) * R := Int.mul_le_mul_of_nonneg_right (by omega) (by omega)
  have h2 : (S - 1) * R = R * S - R := by rw [Int.sub_mul, Int.one_mul, Int.mul_comm S R]
  have h3 : (t * R + a) * S ≤ (R * S - 1) * S := Int.mul_le_mul_of_nonneg_right (by omega) (by omega)
  have h4 : (R * S - 1) * S = R * S * S - S := by rw [Int.sub_mul, Int.one_mul]
  exact ⟨⟨m1, by omega⟩, ⟨m3, by omega⟩, by omega, by omega⟩
set_option maxRecDepth 100000 in
set_option maxHeartbeats 8000000 in
theorem number_c (p : Pr) (a b t : Int) (g : Nat) (w : World) (h : IsChart w g p) (h0 : ckE p = 0) (hs : hasB p ⟨a, b, t⟩ = true) : Calls Tryz.prog 108 #[.pointer (some ⟨g, 0, none⟩), .agg #[.int .i64 a, .int .i64 b, .int .i64 t]] w fun e w' => e = .returned (.int .i64 (numI p ⟨a, b, t⟩)) ∧ Below w.heap.size w w' := by
  obtain ⟨z0, z1, z2⟩ := h.rings
  obtain ⟨hR, hS, -⟩ := ckE_bd h0
  obtain ⟨c1, c2, c3⟩ := hasB_parts.1 hs
  dsimp only at c1 c2 c3
  obtain ⟨m1, m2, m3, m4⟩ := num_bd hR hS c1 c2 c3
  have hbig := (stN_bd hR hS).2.2.2
  have w1 : IntKind.i64.wrap (t * p.bed.rings) = t * p.bed.rings := wrap_id (by omega) (by omega)
  have w2 : IntKind.i64.wrap (t * p.bed.rings + a) = t * p.bed.rings + a := wrap_id (by omega) (by omega)
  have w3 : IntKind.i64.wrap ((t * p.bed.rings + a) * p.bed.sectors) = (t * p.bed.rings + a) * p.bed.sectors := wrap_id (by omega) (by omega)
  have w4 : IntKind.i64.wrap ((t * p.bed.rings + a) * p.bed.sectors + b) = (t * p.bed.rings + a) * p.bed.sectors + b := wrap_id (by omega) (by omega)
  have HN0 : numI p ⟨a, b, t⟩ = (t * p.bed.rings + a) * p.bed.sectors + b := rfl
  clear h h0 hs hR hS c1 c2 c3 m1 m2 m3 m4 hbig
  obtain ⟨R, hR⟩ : ∃ R, p.bed.rings = R := ⟨_, rfl⟩
  obtain ⟨S, hS⟩ : ∃ S, p.bed.sectors = S := ⟨_, rfl⟩
  rw [hR] at z0 w1 w2 w3 w4 HN0
  rw [hS] at z1 w3 w4 HN0
  obtain ⟨x1, e1⟩ : ∃ x, t * R = x := ⟨_, rfl⟩
  rw [e1] at w1 w2 w3 w4 HN0
  obtain ⟨x2, e2⟩ : ∃ x, x1 + a = x := ⟨_, rfl⟩
  rw [e2] at w2 w3 w4 HN0
  obtain ⟨x3, e3⟩ : ∃ x, x2 * S = x := ⟨_, rfl⟩
  rw [e3] at w3 w4 HN0
  obtain ⟨x4, e4⟩ : ∃ x, x3 + b = x := ⟨_, rfl⟩
  rw [e4] at w4 HN0
  have v1 : IntKind.i64.wrap (t * R) = x1 := by rw [e1, w1]
  have v2 : IntKind.i64.wrap (x1 + a) = x2 := by rw [e2, w2]
  have v3 : IntKind.i64.wrap (x2 * S) = x3 := by rw [e3, w3]
  have v4 : IntKind.i64.wrap (x3 + b) = x4 := by rw [e4, w4]
  have HN := Lib.hid HN0
  have C0 := Lib.hid z0
  have C1 := Lib.hid z1
  have L := Lib.hid z2
  clear z0 z1 z2 hR hS w1 w2 w3 w4 e1 e2 e3 e4 HN0
  go_enter Tryz.func108, Tryz.ntmps108
  go_wp2_with fail
  obtain ⟨W9, hW10⟩ : ∃ Wzz, (w.alloc (.cells #[.int .i64 a, .int .i64 b, .int .i64 t] 46)) = Wzz := ⟨_, rfl⟩
  have B11 := Lib.hid (show Below w.heap.size w W9 by rw [← hW10]; exact ((Below.refl w.heap.size w).alloc (Nat.le_refl _) _))
  have X12 := Lib.hid (show Box W9 (w.heap.size) 46 #[.int .i64 a, .int .i64 b, .int .i64 t] by rw [← hW10]; exact Box.made w 46 #[.int .i64 a, .int .i64 b, .int .i64 t])
  have SZ13 := Lib.hid (show W9.heap.size = w.heap.size + 1 by rw [← hW10]; simp)
  rw [hW10]
  clear hW10
  have q14 : W9.cell? ⟨w.heap.size, 0, none⟩ = some (.int .i64 a) := X12.out.cell 0
  have q15 : W9.cell? ⟨w.heap.size, 1, none⟩ = some (.int .i64 b) := X12.out.cell 1
  have q16 : W9.cell? ⟨w.heap.size, 2, none⟩ = some (.int .i64 t) := X12.out.cell 2
  have k0 := keepd C0.out B11.out L.out
  have k1 := keepd C1.out B11.out L.out
  go_wp2_with fail
  go_quiet (fail)
  go_wp2_with fail
  go_ret
  exact ⟨ret_int HN.out.symm, B11.out.trans (below_drewN _ _)⟩

set_option maxRecDepth 100000 in
set_option maxHeartbeats 8000000 in
theorem round_ch (p : Pr) (n : Int) (g : Nat) (w : World) (h : IsChart w g p) (h0 : ckE p = 0) (h1 : -p.bed.sectors ≤ n ∧ n ≤ 200) : Calls Tryz.prog 126 #[.pointer (some ⟨g, 0, none⟩), .int .i64 n] w fun e w' => e = .returned (.int .i64 (arnd n p.bed.sectors)) ∧ Below w.heap.size w w' := by
  obtain ⟨z0, z1, z2⟩ := h.rings
  obtain ⟨hR, hS, -⟩ := ckE_bd h0
  have HN0 : arnd n p.bed.sectors = (n + p.bed.sectors) % p.bed.sectors := by unfold arnd; rw [Int.add_emod_right]
  clear h h0 hR
  obtain ⟨S, hS2⟩ : ∃ S : Nat, p.bed.sectors = (S : Int) := ⟨p.bed.sectors.toNat, by omega⟩
  rw [hS2] at z1 HN0 hS h1
  obtain ⟨m, hm⟩ : ∃ m : Nat, n + (S : Int) = (m : Int) := ⟨(n + (S : Int)).toNat, by omega⟩
  have v1 : IntKind.i64.wrap (n + (S : Int)) = (m : Int) := by rw [hm]; exact wrap_id (by omega) (by omega)
  rw [hm] at HN0
  have hq := Nat.mod_lt m (show 0 < S by omega)
  obtain ⟨q, hqe⟩ : ∃ q, m % S = q := ⟨_, rfl⟩
  rw [hqe] at hq
  have eq : (m : Int) % (S : Int) = (q : Int) := by rw [← hqe]; simp
  have v2 : IntKind.i64.wrap (q : Int) = (q : Int) := wrap_id (by omega) (by omega)
  have z3 : decide ((S : Int) = 0) = false := decide_eq_false (by omega)
  have z4 : decide (S = 0) = false := decide_eq_false (by omega)
  have s0 : (0 : Int) < (S : Int) := by omega
  have s1 : 0 < S := by omega
  have HN := Lib.hid (show (m : Int) % (S : Int) = arnd n p.bed.sectors ∧ (q : Int) = arnd n p.bed.sectors by rw [hS2, HN0, eq]; exact ⟨rfl, rfl⟩)
  clear HN0 hm hqe hq h1 hS hS2 z0 z2
  go_enter Tryz.func126, Tryz.ntmps126
  go_wp2_with fail
  go_quiet (fail)
  go_wp2_with fail
  go_ret
  exact ⟨by first | exact ret_int HN.out.1 | exact ret_int HN.out.2, below_drewN _ _⟩


theorem state_bd {R S n : Nat} (hR : 1 ≤ R) (hS : 2 ≤ S) (h : n < R * S * S) : n / S % R < R ∧ n % S < S ∧ n / S / R < S := by
  refine ⟨Nat.mod_lt _ (by omega), Nat.mod_lt _ (by omega), ?_⟩
  rw [Nat.div_div_eq_div_mul]
  apply Nat.div_lt_of_lt_mul
  rw [Nat.mul_comm S R]
  exact h
/-- the ends of functions that hand back a state out of a box of their own -/
theorem endS {fn : Func} {t : Nat} {w wr : World} {g : Nat} {a b c : Int} {v : Value} {tmps : Array Value} (hfn : fn.results = #[.cell t 46]) (ht : tmps[t]? = some (.pointer (some ⟨g, 0, none⟩)))
    (hb : Box wr g 46 #[.int .i64 a, .int .i64 b, .int .i64 c]) (hbel : Below w.heap.size w wr) (hv : v = .agg #[.int .i64 a, .int .i64 b, .int .i64 c]) :
    bodyPost Tryz.prog fn (fun e w' => e = .returned v ∧ Below w.heap.size w w') Exit.ret { tmps, defers := [] } wr := by
  subst hv
  have q0 : wr.cell? ⟨g, 0, none⟩ = some (.int .i64 a) := hb.cell 0
  have q1 : wr.cell? ⟨g, 1, none⟩ = some (.int .i64 b) := hb.cell 1
  have q2 : wr.cell? ⟨g, 2, none⟩ = some (.int .i64 c) := hb.cell 2
  exact bodyPost_ret (v := .agg #[.int .i64 a, .int .i64 b, .int .i64 c]) (by simp [results, hfn, go_sem, ht, q0, q1, q2]) rfl ⟨rfl, hbel⟩
theorem endS2 {fn : Func} {t u : Nat} {w wr : World} {g : Nat} {a b c : Int} {x v : Value} {tmps : Array Value} (hfn : fn.results = #[.cell t 46, .tmp u]) (ht : tmps[t]? = some (.pointer (some ⟨g, 0, none⟩))) (hu : tmps[u]? = some x)
    (hb : Box wr g 46 #[.int .i64 a, .int .i64 b, .int .i64 c]) (hbel : Below w.heap.size w wr) (hv : v = .tuple #[.agg #[.int .i64 a, .int .i64 b, .int .i64 c], x]) :
    bodyPost Tryz.prog fn (fun e w' => e = .returned v ∧ Below w.heap.size w w') Exit.ret { tmps, defers := [] } wr := by
  subst hv
  have q0 : wr.cell? ⟨g, 0, none⟩ = some (.int .i64 a) := hb.cell 0
  have q1 : wr.cell? ⟨g, 1, none⟩ = some (.int .i64 b) := hb.cell 1
  have q2 : wr.cell? ⟨g, 2, none⟩ = some (.int .i64 c) := hb.cell 2
  exact bodyPost_ret (v := .tuple #[.agg #[.int .i64 a, .int .i64 b, .int .i64 c], x]) (by simp [results, hfn, go_sem, ht, hu, q0, q1, q2]) rfl ⟨rfl, hbel⟩
theorem endS3 {fn : Func} {t u q : Nat} {w wr : World} {g : Nat} {a b c : Int} {x y v : Value} {tmps : Array Value} (hfn : fn.results = #[.cell t 46, .tmp u, .tmp q]) (ht : tmps[t]? = some (.pointer (some ⟨g, 0, none⟩))) (hu : tmps[u]? = some x) (hq : tmps[q]? = some y)
    (hb : Box wr g 46 #[.int .i64 a, .int .i64 b, .int .i64 c]) (hbel : Below w.heap.size w wr) (hv : v = .tuple #[.agg #[.int .i64 a, .int .i64 b, .int .i64 c], x, y]) :
    bodyPost Tryz.prog fn (fun e w' => e = .returned v ∧ Below w.heap.size w w') Exit.ret { tmps, defers := [] } wr := by
  subst hv
  have q0 : wr.cell? ⟨g, 0, none⟩ = some (.int .i64 a) := hb.cell 0
  have q1 : wr.cell? ⟨g, 1, none⟩ = some (.int .i64 b) := hb.cell 1
  have q2 : wr.cell? ⟨g, 2, none⟩ = some (.int .i64 c) := hb.cell 2
  exact bodyPost_ret (v := .tuple #[.agg #[.int .i64 a, .int .i64 b, .int .i64 c], x, y]) (by simp [results, hfn, go_sem, ht, hu, hq, q0, q1, q2]) rfl ⟨rfl, hbel⟩
set_option maxRecDepth 100000 in
set_option maxHeartbeats 8000000 in
theorem stateOf_c (p : Pr) (i : Int) (g : Nat) (w : World) (h : IsChart w g p) (h0 : ckE p = 0) (hi : 0 ≤ i ∧ i < stN p) : Calls Tryz.prog 98 #[.pointer (some ⟨g, 0, none⟩), .int .i64 i] w fun e w' => e = .returned (stV (stateI p i)) ∧ Below w.heap.size w w' := by
  obtain ⟨z0, z1, z2⟩ := h.rings
  obtain ⟨hR, hS, -⟩ := ckE_bd h0
  have hbig := (stN_bd hR hS).2.2.2
  obtain ⟨R, hR2⟩ : ∃ R : Nat, p.bed.rings = (R : Int) := ⟨p.bed.rings.toNat, by omega⟩
  obtain ⟨S, hS2⟩ : ∃ S : Nat, p.bed.sectors = (S : Int) := ⟨p.bed.sectors.toNat, by omega⟩
  obtain ⟨n, rfl⟩ : ∃ n : Nat, i = (n : Int) := ⟨i.toNat, by omega⟩
  unfold stN at hi
  have HI0 : stateI p (n : Int) = ⟨(n : Int) / p.bed.sectors % p.bed.rings, (n : Int) % p.bed.sectors, (n : Int) / p.bed.sectors / p.bed.rings⟩ := rfl
  rw [hR2, hS2] at hi hbig HI0
  rw [hR2] at hR z0
  rw [hS2] at hS z1
  have hn : n < R * S * S := by have := hi.2; exact_mod_cast this
  have hn2 : n ≤ 221184 := by have := hi.2; omega
  obtain ⟨l, hl⟩ : ∃ l, n / S = l := ⟨_, rfl⟩
  obtain ⟨x, hx⟩ : ∃ x, l % R = x := ⟨_, rfl⟩
  obtain ⟨y, hy⟩ : ∃ y, n % S = y := ⟨_, rfl⟩
  obtain ⟨z, hz⟩ : ∃ z, l / R = z := ⟨_, rfl⟩
  have b1 : l ≤ n := by rw [← hl]; exact Nat.div_le_self _ _
  have b2 : x ≤ l := by rw [← hx]; exact Nat.mod_le _ _
  have b3 : y ≤ n := by rw [← hy]; exact Nat.mod_le _ _
  have b4 : z ≤ l := by rw [← hz]; exact Nat.div_le_self _ _
  have e1 : (n : Int) / (S : Int) = (l : Int) := by rw [← hl]; simp
  have e2 : (l : Int) % (R : Int) = (x : Int) := by rw [← hx]; simp
  have e3 : (n : Int) % (S : Int) = (y : Int) := by rw [← hy]; simp
  have e4 : (l : Int) / (R : Int) = (z : Int) := by rw [← hz]; simp
  rw [e1, e2, e3, e4] at HI0
  have v1 : IntKind.i64.wrap (l : Int) = (l : Int) := wrap_id (by omega) (by omega)
  have v2 : IntKind.i64.wrap (x : Int) = (x : Int) := wrap_id (by omega) (by omega)
  have v3 : IntKind.i64.wrap (y : Int) = (y : Int) := wrap_id (by omega) (by omega)
  have v4 : IntKind.i64.wrap (z : Int) = (z : Int) := wrap_id (by omega) (by omega)
  have y1 : decide ((S : Int) = 0) = false := decide_eq_false (by omega)
  have y2 : decide (S = 0) = false := decide_eq_false (by omega)
  have y3 : decide ((R : Int) = 0) = false := decide_eq_false (by omega)
  have y4 : decide (R = 0) = false := decide_eq_false (by omega)
  have s0 : (0 : Int) < (S : Int) := by omega
  have s1 : (0 : Int) < (R : Int) := by omega
  have y5 : ¬ R = 0 := by omega
  have y6 : ¬ S = 0 := by omega
  have t2 : (l : Int).tmod (R : Int) = (x : Int) := by rw [Int.tmod_eq_emod_of_nonneg (by omega)]; exact e2
  have t3 : (n : Int).tmod (S : Int) = (y : Int) := by rw [Int.tmod_eq_emod_of_nonneg (by omega)]; exact e3
  have t4 : (l : Int).tdiv (R : Int) = (z : Int) := by rw [Int.tdiv_eq_ediv_of_nonneg (by omega)]; exact e4
  have t1 : (n : Int).tdiv (S : Int) = (l : Int) := by rw [Int.tdiv_eq_ediv_of_nonneg (by omega)]; exact e1
  have HI := Lib.hid (show stateI p (n : Int) = ⟨(x : Int), (y : Int), (z : Int)⟩ from HI0)
  have C0 := Lib.hid z0
  have C1 := Lib.hid z1
  have L := Lib.hid z2
  have A0 : ∀ o, (w.alloc o).cell? ⟨g, 0, none⟩ = some (.int .i64 (R : Int)) := fun o => keepd z0 ((Below.refl _ _).alloc (Nat.le_refl _) _) z2
  have A1 : ∀ o, (w.alloc o).cell? ⟨g, 1, none⟩ = some (.int .i64 (S : Int)) := fun o => keepd z1 ((Below.refl _ _).alloc (Nat.le_refl _) _) z2
  clear h h0 z0 z1 z2 hR hS hR2 hS2 hi hbig HI0 hn hn2 hl hx hy hz b1 b2 b3 b4
  go_enter Tryz.func98, Tryz.ntmps98
  go_wp2_with fail
  obtain ⟨W17, hW18⟩ : ∃ Wzz, (w.alloc (.cells #[.int .i64 0, .int .i64 0, .int .i64 0] 46)) = Wzz := ⟨_, rfl⟩
  have B19 := Lib.hid (show Below w.heap.size w W17 by rw [← hW18]; exact ((Below.refl w.heap.size w).alloc (Nat.le_refl _) _))
  have X20 := Lib.hid (show Box W17 (w.heap.size) 46 #[.int .i64 0, .int .i64 0, .int .i64 0] by rw [← hW18]; exact Box.made w 46 #[.int .i64 0, .int .i64 0, .int .i64 0])
  have SZ21 := Lib.hid (show W17.heap.size = w.heap.size + 1 by rw [← hW18]; simp)
  rw [hW18]
  clear hW18
  have q22 : W17.cell? ⟨w.heap.size, 0, none⟩ = some (.int .i64 0) := X20.out.cell 0
  have q23 : W17.cell? ⟨w.heap.size, 1, none⟩ = some (.int .i64 0) := X20.out.cell 1
  have q24 : W17.cell? ⟨w.heap.size, 2, none⟩ = some (.int .i64 0) := X20.out.cell 2
  have k0 := keepd C0.out B19.out L.out
  have k1 := keepd C1.out B19.out L.out
  go_wp2_with fail
  have hdr29 : Below (W17).heap.size (W17) (W17).drew := (Below.refl _ _).drew
  have lt27 := (Nat.lt_of_lt_of_le L.out B19.out.size)
  have lt28 := (Nat.lt_of_lt_of_le L.out B19.out.size)
  have hcall30 : ∀ X Y : World, (fun Wz => Wz.cell? ⟨g, 0, none⟩ = some (.int .i64 (R : Int)) ∧ Wz.cell? ⟨g, 1, none⟩ = some (.int .i64 (S : Int)) ∧ (W17).heap.size ≤ Wz.heap.size) X → Below X.heap.size X Y → (fun Wz => Wz.cell? ⟨g, 0, none⟩ = some (.int .i64 (R : Int)) ∧ Wz.cell? ⟨g, 1, none⟩ = some (.int .i64 (S : Int)) ∧ (W17).heap.size ≤ Wz.heap.size) Y := by
    rintro X Y ⟨z25, z26, xs⟩ hb
    have hb2 := Below.mono (B' := (W17).heap.size) hb xs
    exact ⟨keepd z25 hb2 lt27, keepd z26 hb2 lt28, Nat.le_trans xs hb.size⟩
  have ne33 : g ≠ w.heap.size := Nat.ne_of_lt L.out
  have hput32 : ∀ (X : World) (o : Nat) (v : Value), (fun Wz => Wz.cell? ⟨g, 0, none⟩ = some (.int .i64 (R : Int)) ∧ Wz.cell? ⟨g, 1, none⟩ = some (.int .i64 (S : Int)) ∧ (W17).heap.size ≤ Wz.heap.size) X → (fun Wz => Wz.cell? ⟨g, 0, none⟩ = some (.int .i64 (R : Int)) ∧ Wz.cell? ⟨g, 1, none⟩ = some (.int .i64 (S : Int)) ∧ (W17).heap.size ≤ Wz.heap.size) (X.setCell ⟨w.heap.size, o, none⟩ v) := by
    rintro X o v ⟨z25, z26, xs⟩
    exact ⟨(World.cell?_setCell_other X _ _ v (fun e => ne33 (congrArg Addr.block e).symm)).trans z25, (World.cell?_setCell_other X _ _ v (fun e => ne33 (congrArg Addr.block e).symm)).trans z26, by rw [World.size_setCell]; exact xs⟩
  have hini31 : (fun Wz => Wz.cell? ⟨g, 0, none⟩ = some (.int .i64 (R : Int)) ∧ Wz.cell? ⟨g, 1, none⟩ = some (.int .i64 (S : Int)) ∧ (W17).heap.size ≤ Wz.heap.size) (W17).drew := ⟨keepd (k0) hdr29 lt27, keepd (k1) hdr29 lt28, Nat.le_refl _⟩
  have Hcall30 := Lib.hid hcall30
  have Hini31 := Lib.hid hini31
  have Hput32 := Lib.hid hput32
  clear hcall30 ne33 hput32 hini31 lt27 lt28
  clear q22 q23 q24
  refine wp_region_noPanic ?_
  refine wp_region_held_drew (S := (fun Wz => Wz.cell? ⟨g, 0, none⟩ = some (.int .i64 (R : Int)) ∧ Wz.cell? ⟨g, 1, none⟩ = some (.int .i64 (S : Int)) ∧ (W17).heap.size ≤ Wz.heap.size)) (by kernel_rfl) Hini31.out (fun hHeld => ?_)
  obtain ⟨W35, hW36⟩ : ∃ Wzz, (W17).drew = Wzz := ⟨_, rfl⟩
  rw [hW36] at hHeld hdr29 ⊢
  clear hW36
  have X37 := Lib.hid (X20.out.later hdr29)
  have B38 := Lib.hid (B19.out.trans (hdr29.mono B19.out.size))
  clear hdr29
  refine wpAnyH_take (i := 0) (oi := { dst := some 12, op := Op.move (Operand.tmp 5), type := 3, pos := "chart.go:99", after := #[], guard := none }) (v := ?vh39) rfl ?hsh39 ?hfh39 ?hrh39 ?hQh39 ?hyh39 (by assumption) ?resth39
  case hsh39 => kernel_rfl
  case hfh39 => kernel_rfl
  case hrh39 => kernel_rfl
  case hQh39 => exact fun _ _ _ h => h
  case hyh39 => (refine Or.inl ⟨by rfl, ?_⟩; intro w hSw; (try dsimp only at hSw); go_simp; try with_reducible rfl)
  try simp only [Act.put, List.setIfInBounds_toArray, List.set_cons_zero, List.set_cons_succ]
  refine wpAnyH_take (i := 1) (oi := { dst := some 13, op := Op.move (Operand.tmp 0), type := 118, pos := "chart.go:99", after := #[], guard := none }) (v := ?vh40) rfl ?hsh40 ?hfh40 ?hrh40 ?hQh40 ?hyh40 (by assumption) ?resth40
  case hsh40 => kernel_rfl
  case hfh40 => kernel_rfl
  case hrh40 => kernel_rfl
  case hQh40 => exact fun _ _ _ h => h
  case hyh40 => (refine Or.inl ⟨by rfl, ?_⟩; intro w hSw; (try dsimp only at hSw); go_simp; try with_reducible rfl)
  try simp only [Act.put, List.setIfInBounds_toArray, List.set_cons_zero, List.set_cons_succ]
  refine wpAnyH_take (i := 2) (oi := { dst := some 14, op := Op.nilCheck (Operand.tmp 13), type := 0, pos := "chart.go:99", after := #[{ on := 1, ground := Ground.data }], guard := none }) (v := ?vh41) rfl ?hsh41 ?hfh41 ?hrh41 ?hQh41 ?hyh41 (by assumption) ?resth41
  case hsh41 => kernel_rfl
  case hfh41 => kernel_rfl
  case hrh41 => kernel_rfl
  case hQh41 => exact fun _ _ _ h => h
  case hyh41 => (refine Or.inl ⟨by rfl, ?_⟩; intro w hSw; (try dsimp only at hSw); go_simp; try with_reducible rfl)
  try simp only [Act.put, List.setIfInBounds_toArray, List.set_cons_zero, List.set_cons_succ]
  refine wpAnyH_take (i := 3) (oi := { dst := some 15, op := Op.fieldAddr 149 (Operand.tmp 14) 0, type := 0, pos := "chart.go:99", after := #[{ on := 2, ground := Ground.data }], guard := none }) (v := ?vh42) rfl ?hsh42 ?hfh42 ?hrh42 ?hQh42 ?hyh42 (by assumption) ?resth42
  case hsh42 => kernel_rfl
  case hfh42 => kernel_rfl
  case hrh42 => kernel_rfl
  case hQh42 => exact fun _ _ _ h => h
  case hyh42 => (refine Or.inl ⟨by rfl, ?_⟩; intro w hSw; (try dsimp only at hSw); go_simp; try with_reducible rfl)
  try simp only [Act.put, List.setIfInBounds_toArray, List.set_cons_zero, List.set_cons_succ]
  refine wpAnyH_take (i := 4) (oi := { dst := some 16, op := Op.load 3 (Operand.tmp 15), type := 3, pos := "chart.go:99", after := #[{ on := 3, ground := Ground.data }], guard := none }) (v := ?vh43) rfl ?hsh43 ?hfh43 ?hrh43 ?hQh43 ?hyh43 (by assumption) ?resth43
  case hsh43 => kernel_rfl
  case hfh43 => kernel_rfl
  case hrh43 => kernel_rfl
  case hQh43 => exact fun _ _ _ h => h
  case hyh43 => (refine Or.inl ⟨by rfl, ?_⟩; intro w hSw; (try dsimp only at hSw); go_simp; try with_reducible rfl)
  try simp only [Act.put, List.setIfInBounds_toArray, List.set_cons_zero, List.set_cons_succ]
  refine wpAnyH_take (i := 5) (oi := { dst := some 17, op := Op.binOp BinOp.rem 3 (Operand.tmp 12) (Operand.tmp 16) 3, type := 3, pos := "chart.go:99", after := #[{ on := 0, ground := Ground.data }, { on := 4, ground := Ground.data }], guard := none }) (v := ?vh44) rfl ?hsh44 ?hfh44 ?hrh44 ?hQh44 ?hyh44 (by assumption) ?resth44
  case hsh44 => kernel_rfl
  case hfh44 => kernel_rfl
  case hrh44 => kernel_rfl
  case hQh44 => exact fun _ _ _ h => h
  case hyh44 => (refine Or.inl ⟨by rfl, ?_⟩; intro w hSw; (try dsimp only at hSw); go_simp; try with_reducible rfl)
  try simp only [Act.put, List.setIfInBounds_toArray, List.set_cons_zero, List.set_cons_succ]
  refine wpAnyH_take (i := 6) (oi := { dst := some 18, op := Op.move (Operand.tmp 1), type := 3, pos := "chart.go:99", after := #[], guard := none }) (v := ?vh45) rfl ?hsh45 ?hfh45 ?hrh45 ?hQh45 ?hyh45 (by assumption) ?resth45
  case hsh45 => kernel_rfl
  case hfh45 => kernel_rfl
  case hrh45 => kernel_rfl
  case hQh45 => exact fun _ _ _ h => h
  case hyh45 => (refine Or.inl ⟨by rfl, ?_⟩; intro w hSw; (try dsimp only at hSw); go_simp; try with_reducible rfl)
  try simp only [Act.put, List.setIfInBounds_toArray, List.set_cons_zero, List.set_cons_succ]
  refine wpAnyH_take (i := 7) (oi := { dst := some 19, op := Op.move (Operand.tmp 0), type := 118, pos := "chart.go:99", after := #[], guard := none }) (v := ?vh46) rfl ?hsh46 ?hfh46 ?hrh46 ?hQh46 ?hyh46 (by assumption) ?resth46
  case hsh46 => kernel_rfl
  case hfh46 => kernel_rfl
  case hrh46 => kernel_rfl
  case hQh46 => exact fun _ _ _ h => h
  case hyh46 => (refine Or.inl ⟨by rfl, ?_⟩; intro w hSw; (try dsimp only at hSw); go_simp; try with_reducible rfl)
  try simp only [Act.put, List.setIfInBounds_toArray, List.set_cons_zero, List.set_cons_succ]
  refine wpAnyH_take (i := 8) (oi := { dst := some 20, op := Op.nilCheck (Operand.tmp 19), type := 0, pos := "chart.go:99", after := #[{ on := 7, ground := Ground.data }], guard := none }) (v := ?vh47) rfl ?hsh47 ?hfh47 ?hrh47 ?hQh47 ?hyh47 (by assumption) ?resth47
  case hsh47 => kernel_rfl
  case hfh47 => kernel_rfl
  case hrh47 => kernel_rfl
  case hQh47 => exact fun _ _ _ h => h
  case hyh47 => (refine Or.inl ⟨by rfl, ?_⟩; intro w hSw; (try dsimp only at hSw); go_simp; try with_reducible rfl)
  try simp only [Act.put, List.setIfInBounds_toArray, List.set_cons_zero, List.set_cons_succ]
  refine wpAnyH_take (i := 9) (oi := { dst := some 21, op := Op.fieldAddr 149 (Operand.tmp 20) 1, type := 0, pos := "chart.go:99", after := #[{ on := 8, ground := Ground.data }], guard := none }) (v := ?vh48) rfl ?hsh48 ?hfh48 ?hrh48 ?hQh48 ?hyh48 (by assumption) ?resth48
  case hsh48 => kernel_rfl
  case hfh48 => kernel_rfl
  case hrh48 => kernel_rfl
  case hQh48 => exact fun _ _ _ h => h
  case hyh48 => (refine Or.inl ⟨by rfl, ?_⟩; intro w hSw; (try dsimp only at hSw); go_simp; try with_reducible rfl)
  try simp only [Act.put, List.setIfInBounds_toArray, List.set_cons_zero, List.set_cons_succ]
  refine wpAnyH_take (i := 10) (oi := { dst := some 22, op := Op.load 3 (Operand.tmp 21), type := 3, pos := "chart.go:99", after := #[{ on := 9, ground := Ground.data }], guard := none }) (v := ?vh49) rfl ?hsh49 ?hfh49 ?hrh49 ?hQh49 ?hyh49 (by assumption) ?resth49
  case hsh49 => kernel_rfl
  case hfh49 => kernel_rfl
  case hrh49 => kernel_rfl
  case hQh49 => exact fun _ _ _ h => h
  case hyh49 => (refine Or.inl ⟨by rfl, ?_⟩; intro w hSw; (try dsimp only at hSw); go_simp; try with_reducible rfl)
  try simp only [Act.put, List.setIfInBounds_toArray, List.set_cons_zero, List.set_cons_succ]
  refine wpAnyH_take (i := 11) (oi := { dst := some 23, op := Op.binOp BinOp.rem 3 (Operand.tmp 18) (Operand.tmp 22) 3, type := 3, pos := "chart.go:99", after := #[{ on := 6, ground := Ground.data }, { on := 10, ground := Ground.data }], guard := none }) (v := ?vh50) rfl ?hsh50 ?hfh50 ?hrh50 ?hQh50 ?hyh50 (by assumption) ?resth50
  case hsh50 => kernel_rfl
  case hfh50 => kernel_rfl
  case hrh50 => kernel_rfl
  case hQh50 => exact fun _ _ _ h => h
  case hyh50 => (refine Or.inl ⟨by rfl, ?_⟩; intro w hSw; (try dsimp only at hSw); go_simp; try with_reducible rfl)
  try simp only [Act.put, List.setIfInBounds_toArray, List.set_cons_zero, List.set_cons_succ]
  refine wpAnyH_take (i := 12) (oi := { dst := some 24, op := Op.move (Operand.tmp 5), type := 3, pos := "chart.go:99", after := #[], guard := none }) (v := ?vh51) rfl ?hsh51 ?hfh51 ?hrh51 ?hQh51 ?hyh51 (by assumption) ?resth51
  case hsh51 => kernel_rfl
  case hfh51 => kernel_rfl
  case hrh51 => kernel_rfl
  case hQh51 => exact fun _ _ _ h => h
  case hyh51 => (refine Or.inl ⟨by rfl, ?_⟩; intro w hSw; (try dsimp only at hSw); go_simp; try with_reducible rfl)
  try simp only [Act.put, List.setIfInBounds_toArray, List.set_cons_zero, List.set_cons_succ]
  refine wpAnyH_take (i := 13) (oi := { dst := some 25, op := Op.move (Operand.tmp 0), type := 118, pos := "chart.go:99", after := #[], guard := none }) (v := ?vh52) rfl ?hsh52 ?hfh52 ?hrh52 ?hQh52 ?hyh52 (by assumption) ?resth52
  case hsh52 => kernel_rfl
  case hfh52 => kernel_rfl
  case hrh52 => kernel_rfl
  case hQh52 => exact fun _ _ _ h => h
  case hyh52 => (refine Or.inl ⟨by rfl, ?_⟩; intro w hSw; (try dsimp only at hSw); go_simp; try with_reducible rfl)
  try simp only [Act.put, List.setIfInBounds_toArray, List.set_cons_zero, List.set_cons_succ]
  refine wpAnyH_take (i := 14) (oi := { dst := some 26, op := Op.nilCheck (Operand.tmp 25), type := 0, pos := "chart.go:99", after := #[{ on := 13, ground := Ground.data }], guard := none }) (v := ?vh53) rfl ?hsh53 ?hfh53 ?hrh53 ?hQh53 ?hyh53 (by assumption) ?resth53
  case hsh53 => kernel_rfl
  case hfh53 => kernel_rfl
  case hrh53 => kernel_rfl
  case hQh53 => exact fun _ _ _ h => h
  case hyh53 => (refine Or.inl ⟨by rfl, ?_⟩; intro w hSw; (try dsimp only at hSw); go_simp; try with_reducible rfl)
  try simp only [Act.put, List.setIfInBounds_toArray, List.set_cons_zero, List.set_cons_succ]
  refine wpAnyH_take (i := 15) (oi := { dst := some 27, op := Op.fieldAddr 149 (Operand.tmp 26) 0, type := 0, pos := "chart.go:99", after := #[{ on := 14, ground := Ground.data }], guard := none }) (v := ?vh54) rfl ?hsh54 ?hfh54 ?hrh54 ?hQh54 ?hyh54 (by assumption) ?resth54
  case hsh54 => kernel_rfl
  case hfh54 => kernel_rfl
  case hrh54 => kernel_rfl
  case hQh54 => exact fun _ _ _ h => h
  case hyh54 => (refine Or.inl ⟨by rfl, ?_⟩; intro w hSw; (try dsimp only at hSw); go_simp; try with_reducible rfl)
  try simp only [Act.put, List.setIfInBounds_toArray, List.set_cons_zero, List.set_cons_succ]
  refine wpAnyH_take (i := 16) (oi := { dst := some 28, op := Op.load 3 (Operand.tmp 27), type := 3, pos := "chart.go:99", after := #[{ on := 15, ground := Ground.data }], guard := none }) (v := ?vh55) rfl ?hsh55 ?hfh55 ?hrh55 ?hQh55 ?hyh55 (by assumption) ?resth55
  case hsh55 => kernel_rfl
  case hfh55 => kernel_rfl
  case hrh55 => kernel_rfl
  case hQh55 => exact fun _ _ _ h => h
  case hyh55 => (refine Or.inl ⟨by rfl, ?_⟩; intro w hSw; (try dsimp only at hSw); go_simp; try with_reducible rfl)
  try simp only [Act.put, List.setIfInBounds_toArray, List.set_cons_zero, List.set_cons_succ]
  refine wpAnyH_take (i := 17) (oi := { dst := some 29, op := Op.binOp BinOp.quo 3 (Operand.tmp 24) (Operand.tmp 28) 3, type := 3, pos := "chart.go:99", after := #[{ on := 12, ground := Ground.data }, { on := 16, ground := Ground.data }], guard := none }) (v := ?vh56) rfl ?hsh56 ?hfh56 ?hrh56 ?hQh56 ?hyh56 (by assumption) ?resth56
  case hsh56 => kernel_rfl
  case hfh56 => kernel_rfl
  case hrh56 => kernel_rfl
  case hQh56 => exact fun _ _ _ h => h
  case hyh56 => (refine Or.inl ⟨by rfl, ?_⟩; intro w hSw; (try dsimp only at hSw); go_simp; try with_reducible rfl)
  try simp only [Act.put, List.setIfInBounds_toArray, List.set_cons_zero, List.set_cons_succ]
  refine wpAnyH_take (i := 18) (oi := { dst := some 30, op := Op.build 46 #[(0, Operand.tmp 17), (1, Operand.tmp 23), (2, Operand.tmp 29)], type := 46, pos := "chart.go:99", after := #[{ on := 5, ground := Ground.data }, { on := 11, ground := Ground.data }, { on := 17, ground := Ground.data }], guard := none }) (v := ?vh57) rfl ?hsh57 ?hfh57 ?hrh57 ?hQh57 ?hyh57 (by assumption) ?resth57
  case hsh57 => kernel_rfl
  case hfh57 => kernel_rfl
  case hrh57 => kernel_rfl
  case hQh57 => exact fun _ _ _ h => h
  case hyh57 => (refine Or.inl ⟨by rfl, ?_⟩; intro w hSw; (try dsimp only at hSw); go_simp; try with_reducible rfl)
  try simp only [Act.put, List.setIfInBounds_toArray, List.set_cons_zero, List.set_cons_succ]
  refine wpAnyH_ready (rs := [19]) (by kernel_rfl) (by simp) ?_
  refine AllReadyH.cons (o := _) (by rfl) (fun K hK => ?_) AllReadyH.nil
  have q58 : W35.cell? ⟨w.heap.size, 0, none⟩ = some (.int .i64 0) := X37.out.cell 0
  have q59 : W35.cell? ⟨w.heap.size, 1, none⟩ = some (.int .i64 0) := X37.out.cell 1
  have q60 : W35.cell? ⟨w.heap.size, 2, none⟩ = some (.int .i64 0) := X37.out.cell 2
  have q61 : ∀ o, W35.frozen? ⟨w.heap.size, o, none⟩ = false := fun o => X37.out.free o
  go_simp
  clear q58 q59 q60 q61
  have X62 := Lib.hid (show Box (((W35.setCell ⟨w.heap.size, 0, none⟩ (.int .i64 (x : Int))).setCell ⟨w.heap.size, 1, none⟩ (.int .i64 (y : Int))).setCell ⟨w.heap.size, 2, none⟩ (.int .i64 (z : Int))) (w.heap.size) 46 #[.int .i64 (x : Int), .int .i64 (y : Int), .int .i64 (z : Int)] from ((((((X37.out).put 0 (.int .i64 (x : Int)))).put 1 (.int .i64 (y : Int)))).put 2 (.int .i64 (z : Int))))
  have B63 := Lib.hid ((((((B38.out).setCell (p := ⟨w.heap.size, 0, none⟩) (Nat.le_refl _) (.int .i64 (x : Int)))).setCell (p := ⟨w.heap.size, 1, none⟩) (Nat.le_refl _) (.int .i64 (y : Int)))).setCell (p := ⟨w.heap.size, 2, none⟩) (Nat.le_refl _) (.int .i64 (z : Int)))
  refine hK.out _ _ (Hput32.out _ 2 (.int .i64 (z : Int)) (Hput32.out _ 1 (.int .i64 (y : Int)) (Hput32.out _ 0 (.int .i64 (x : Int)) hHeld))) (fun hHeld64 => ?_)
  clear hK K hHeld
  have hHeld := hHeld64
  clear hHeld64
  try simp only [Act.put, List.setIfInBounds_toArray, List.set_cons_zero, List.set_cons_succ]
  refine wpAnyH_done (by kernel_rfl) ?_ _
  refine NoPanic.normal ?_
  clear hHeld Hcall30 Hini31 Hput32
  obtain ⟨W65, hW66⟩ : ∃ Wzz, (((W35.setCell ⟨w.heap.size, 0, none⟩ (.int .i64 (x : Int))).setCell ⟨w.heap.size, 1, none⟩ (.int .i64 (y : Int))).setCell ⟨w.heap.size, 2, none⟩ (.int .i64 (z : Int))) = Wzz := ⟨_, rfl⟩
  have x67 := X62.out
  rw [hW66] at x67
  have X67 := Lib.hid x67
  clear x67 X62
  have b68 := B63.out
  rw [hW66] at b68
  have B68 := Lib.hid b68
  clear b68 B63
  rw [hW66]
  clear hW66
  have q69 : W65.cell? ⟨w.heap.size, 0, none⟩ = some (.int .i64 (x : Int)) := X67.out.cell 0
  have q70 : W65.cell? ⟨w.heap.size, 1, none⟩ = some (.int .i64 (y : Int)) := X67.out.cell 1
  have q71 : W65.cell? ⟨w.heap.size, 2, none⟩ = some (.int .i64 (z : Int)) := X67.out.cell 2
  go_wp2_with fail
  (try simp only [Exit.inBlock, Exit.then])
  refine endS (t := 4) (v := stV (stateI p (n : Int))) ?_ ?_ X67.out B68.out (by rw [HI.out]; rfl) <;> rfl

end Go.Proofs.YtikfiallhmhicaaGreat

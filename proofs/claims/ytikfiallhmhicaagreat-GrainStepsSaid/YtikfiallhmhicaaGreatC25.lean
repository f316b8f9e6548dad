/- Layer 2: a pair laid together: states, their numbers, cells. -/
import Derived.Test.YtikfiallhmhicaaGreatC24
set_option linter.all false
namespace Go.Proofs.YtikfiallhmhicaaGreat
open Go.RowKit


theorem hasB_parts {p : Pr} {s : St3} : hasB p s = true ↔ (0 ≤ s.ring ∧ s.ring < p.bed.rings) ∧ (0 ≤ s.sector ∧ s.sector < p.bed.sectors) ∧ 0 ≤ s.turn ∧ s.turn < p.bed.sectors := by
  unfold hasB; rw [Bool.and_eq_true, Bool.and_eq_true, inB_iff, inB_iff, inB_iff]; omega
theorem hasB_not {p : Pr} {s : St3} (h : ¬ ((0 ≤ s.ring ∧ s.ring < p.bed.rings) ∧ (0 ≤ s.sector ∧ s.sector < p.bed.sectors) ∧ 0 ≤ s.turn ∧ s.turn < p.bed.sectors)) : hasB p s = false := by
  cases hb : hasB p s
  · rfl
  · exact absurd (hasB_parts.1 hb) h
set_option maxRecDepth 100000 in
set_option maxHeartbeats 8000000 in
theorem has_c (p : Pr) (a b t : Int) (g : Nat) (w : World) (h : IsChart w g p) : Calls Tryz.prog 114 #[.pointer (some ⟨g, 0, none⟩), .agg #[.int .i64 a, .int .i64 b, .int .i64 t]] w fun e w' => e = .returned (.bool (hasB p ⟨a, b, t⟩)) ∧ Below w.heap.size w w' := by
  obtain ⟨z0, z1, z2⟩ := h.rings
  have hB0 := Lib.hid (fun h => hasB_not (p := p) (s := ⟨a, b, t⟩) h)
  have hB1 := Lib.hid ((hasB_parts (p := p) (s := ⟨a, b, t⟩)).2)
  dsimp only at hB0 hB1
  clear h
  obtain ⟨R, hR⟩ : ∃ R, p.bed.rings = R := ⟨_, rfl⟩
  obtain ⟨S, hS⟩ : ∃ S, p.bed.sectors = S := ⟨_, rfl⟩
  rw [hR] at z0 hB0 hB1
  rw [hS] at z1 hB0 hB1
  have C0 := Lib.hid z0
  have C1 := Lib.hid z1
  have L := Lib.hid z2
  clear z0 z1 z2 hR hS
  go_enter Tryz.func114, Tryz.ntmps114
  go_wp2_with fail
  obtain ⟨W1, hW2⟩ : ∃ Wzz, (w.alloc (.cells #[.int .i64 a, .int .i64 b, .int .i64 t] 46)) = Wzz := ⟨_, rfl⟩
  have B3 := Lib.hid (show Below w.heap.size w W1 by rw [← hW2]; exact ((Below.refl w.heap.size w).alloc (Nat.le_refl _) _))
  have X4 := Lib.hid (show Box W1 (w.heap.size) 46 #[.int .i64 a, .int .i64 b, .int .i64 t] by rw [← hW2]; exact Box.made w 46 #[.int .i64 a, .int .i64 b, .int .i64 t])
  have SZ5 := Lib.hid (show W1.heap.size = w.heap.size + 1 by rw [← hW2]; simp)
  rw [hW2]
  clear hW2
  have q6 : W1.cell? ⟨w.heap.size, 0, none⟩ = some (.int .i64 a) := X4.out.cell 0
  have q7 : W1.cell? ⟨w.heap.size, 1, none⟩ = some (.int .i64 b) := X4.out.cell 1
  have q8 : W1.cell? ⟨w.heap.size, 2, none⟩ = some (.int .i64 t) := X4.out.cell 2
  have k0 := keepd C0.out B3.out L.out
  have k1 := keepd C1.out B3.out L.out
  by_cases c0 : 0 ≤ a; rotate_left
  · have HR := Lib.hid (hB0.out (by omega))
    have d0 : decide (0 ≤ a) = false := decide_eq_false c0
    clear c0
    go_wp2_with fail
    go_quiet (fail)
    go_wp2_with fail
    go_ret
    exact ⟨ret_bool HR.out.symm, B3.out.trans (below_drewN _ _)⟩
  · have d0 : decide (0 ≤ a) = true := decide_eq_true c0
    by_cases c1 : a < R; rotate_left
    · have HR := Lib.hid (hB0.out (by omega))
      have d1 : decide (a < R) = false := decide_eq_false c1
      clear c1
      go_wp2_with fail
      go_quiet (fail)
      go_wp2_with fail
      go_ret
      exact ⟨ret_bool HR.out.symm, B3.out.trans (below_drewN _ _)⟩
    · have d1 : decide (a < R) = true := decide_eq_true c1
      by_cases c2 : 0 ≤ b; rotate_left
      · have HR := Lib.hid (hB0.out (by omega))
        have d2 : decide (0 ≤ b) = false := decide_eq_false c2
        clear c2
        go_wp2_with fail
        go_quiet (fail)
        go_wp2_with fail
        go_ret
        exact ⟨ret_bool HR.out.symm, B3.out.trans (below_drewN _ _)⟩
      · have d2 : decide (0 ≤ b) = true := decide_eq_true c2
        by_cases c3 : b < S; rotate_left
        · have HR := Lib.hid (hB0.out (by omega))
          have d3 : decide (b < S) = false := decide_eq_false c3
          clear c3
          go_wp2_with fail
          go_quiet (fail)
          go_wp2_with fail
          go_ret
          exact ⟨ret_bool HR.out.symm, B3.out.trans (below_drewN _ _)⟩
        · have d3 : decide (b < S) = true := decide_eq_true c3
          by_cases c4 : 0 ≤ t; rotate_left
          · have HR := Lib.hid (hB0.out (by omega))
            have d4 : decide (0 ≤ t) = false := decide_eq_false c4
            clear c4
            go_wp2_with fail
            go_quiet (fail)
            go_wp2_with fail
            go_ret
            exact ⟨ret_bool HR.out.symm, B3.out.trans (below_drewN _ _)⟩
          · have d4 : decide (0 ≤ t) = true := decide_eq_true c4
            by_cases c5 : t < S; rotate_left
            · have HR := Lib.hid (hB0.out (by omega))
              have d5 : decide (t < S) = false := decide_eq_false c5
              clear c5
              go_wp2_with fail
              go_quiet (fail)
              go_wp2_with fail
              go_ret
              exact ⟨ret_bool HR.out.symm, B3.out.trans (below_drewN _ _)⟩
            · have d5 : decide (t < S) = true := decide_eq_true c5
              have HR := Lib.hid (hB1.out ⟨⟨c0, c1⟩, ⟨c2, c3⟩, c4, c5⟩)
              clear c0 c1 c2 c3 c4 c5
              go_wp2_with fail
              go_quiet (fail)
              go_wp2_with fail
              go_ret
              exact ⟨ret_bool HR.out.symm, B3.out.trans (below_drewN _ _)⟩


theorem num_bd {R S a b t : Int} (hR : 1 ≤ R ∧ R ≤ 24) (hS : 2 ≤ S ∧ S ≤ 96) (ha : 0 ≤ a ∧ a < R) (hb : 0 ≤ b ∧ b < S) (ht : 0 ≤ t ∧ t < S) :
    (0 ≤ t * R ∧ t * R ≤ 2304) ∧ (0 ≤ (t * R + a) * S ∧ (t * R + a) * S ≤ 240000) ∧ 0 ≤ (t * R + a) * S + b ∧ (t * R + a) * S + b < R * S * S := by
  obtain ⟨m1, m2⟩ := mul_bd (a := t) (b := R) (m := 96) (n := 24) (by omega) (by omega) (by omega) (by omega)
  obtain ⟨m3, m4⟩ := mul_bd (a := t * R + a) (b := S) (m := 2500) (n := 96) (by omega) (by omega) (by omega) (by omega)
  have h1 : t * R ≤ (S - 1) * R := Int.mul_le_mul_of_nonneg_right (by omega) (by omega)
  have h2 : (S - 1) * R = R * S - R := by rw [Int.sub_mul, Int.one_mul, Int.mul_comm S R]
  have h3 : (t * R + a) * S ≤ (R * S - 1) * S := Int.mul_le_mul_of_nonneg_right (by omega) (by omega)
  have h4 : (R * S - 1) * S = R * S * S - S := by rw [Int.sub_mul, Int.one_mul]
  exact ⟨⟨m1, by omega⟩, ⟨m3, by omega⟩, by omega, by omega⟩
set_option maxRecDepth 100000 in
set_option maxHeartbeats 8000000 in
theorem number_c (p : Pr) (a b t : Int) (g : Nat) (w : World) (h : IsChart w g p) (h0 : ckE p = 0) (hs : hasB p ⟨a, b, t⟩ = true) : Calls Tryz.prog 108 #[.pointer (some ⟨g, 0, none⟩), .agg #[.int .i64 a, .int .i64 b, .int .i64 t]] w fun e w' => e = .returned (.int .i64 (numI p ⟨a, b, t⟩)) ∧ Below w.heap.size w w' := by
  obtain ⟨z0, z1, z2⟩ := h.rings
  obtain ⟨hR, hS, -⟩ := ckE_bd h0
  obtain ⟨c1, c2, c3⟩ := hasB_parts.1 hs
  dsimp only at c1 c2 c3
  obtain ⟨m1, m2, m3, m4⟩ := num_bd hR hS c1 c2 c3
  have hbig := (stN_bd hR hS).2.2.2
  have w1 : IntKind.i64.wrap (t * p.bed.rings) = t * p.bed.rings := wrap_id (by omega) (by omega)
  have w2 : IntKind.i64.wrap (t * p.bed.rings + a) = t * p.bed.rings + a := wrap_id (by omega) (by omega)
  have w3 : IntKind.i64.wrap ((t * p.bed.rings + a) * p.bed.sectors) = (t * p.bed.rings + a) * p.bed.sectors := wrap_id (by omega) (by omega)
  have w4 : IntKind.i64.wrap ((t * p.bed.rings + a) * p.bed.sectors + b) = (t * p.bed.rings + a) * p.bed.sectors + b := wrap_id (by omega) (by omega)
  have HN0 : numI p ⟨a, b, t⟩ = (t * p.bed.rings + a) * p.bed.sectors + b := rfl
  clear h h0 hs hR hS c1 c2 c3 m1 m2 m3 m4 hbig
  obtain ⟨R, hR⟩ : ∃ R, p.bed.rings = R := ⟨_, rfl⟩
  obtain ⟨S, hS⟩ : ∃ S, p.bed.sectors = S := ⟨_, rfl⟩
  rw [hR] at z0 w1 w2 w3 w4 HN0
  rw [hS] at z1 w3 w4 HN0
  obtain ⟨x1, e1⟩ : ∃ x, t * R = x := ⟨_, rfl⟩
  rw [e1] at w1 w2 w3 w4 HN0
  obtain ⟨x2, e2⟩ : ∃ x, x1 + a = x := ⟨_, rfl⟩
  rw [e2] at w2 w3 w4 HN0
  obtain ⟨x3, e3⟩ : ∃ x, x2 * S = x := ⟨_, rfl⟩
  rw [e3] at w3 w4 HN0
  obtain ⟨x4, e4⟩ : ∃ x, x3 + b = x := ⟨_, rfl⟩
  rw [e4] at w4 HN0
  have v1 : IntKind.i64.wrap (t * R) = x1 := by rw [e1, w1]
  have v2 : IntKind.i64.wrap (x1 + a) = x2 := by rw [e2, w2]
  have v3 : IntKind.i64.wrap (x2 * S) = x3 := by rw [e3, w3]
  have v4 : IntKind.i64.wrap (x3 + b) = x4 := by rw [e4, w4]
  have HN := Lib.hid HN0
  have C0 := Lib.hid z0
  have C1 := Lib.hid z1
  have L := Lib.hid z2
  clear z0 z1 z2 hR hS w1 w2 w3 w4 e1 e2 e3 e4 HN0
  go_enter Tryz.func108, Tryz.ntmps108
  go_wp2_with fail
  obtain ⟨W9, hW10⟩ : ∃ Wzz, (w.alloc (.cells #[.int .i64 a, .int .i64 b, .int .i64 t] 46)) = Wzz := ⟨_, rfl⟩
  have B11 := Lib.hid (show Below w.heap.size w W9 by rw [← hW10]; exact ((Below.refl w.heap.size w).alloc (Nat.le_refl _) _))
  have X12 := Lib.hid (show Box W9 (w.heap.size) 46 #[.int .i64 a, .int .i64 b, .int .i64 t] by rw [← hW10]; exact Box.made w 46 #[.int .i64 a, .int .i64 b, .int .i64 t])
  have SZ13 := Lib.hid (show W9.heap.size = w.heap.size + 1 by rw [← hW10]; simp)
  rw [hW10]
  clear hW10
  have q14 : W9.cell? ⟨w.heap.size, 0, none⟩ = some (.int .i64 a) := X12.out.cell 0
  have q15 : W9.cell? ⟨w.heap.size, 1, none⟩ = some (.int .i64 b) := X12.out.cell 1
  have q16 : W9.cell? ⟨w.heap.size, 2, none⟩ = some (.int .i64 t) := X12.out.cell 2
  have k0 := keepd C0.out B11.out L.out
  have k1 := keepd C1.out B11.out L.out
  go_wp2_with fail
  go_quiet (fail)
  go_wp2_with fail
  go_ret
  exact ⟨ret_int HN.out.symm, B11.out.trans (below_drewN _ _)⟩

set_option maxRecDepth 100000 in
set_option maxHeartbeats 8000000 in
theorem round_ch (p : Pr) (n : Int) (g : Nat) (w : World) (h : IsChart w g p) (h0 : ckE p = 0) (h1 : -p.bed.sectors ≤ n ∧ n ≤ 200) : Calls Tryz.prog 126 #[.pointer (some ⟨g, 0, none⟩), .int .i64 n] w fun e w' => e = .returned (.int .i64 (arnd n p.bed.sectors)) ∧ Below w.heap.size w w' := by
  obtain ⟨z0, z1, z2⟩ := h.rings
  obtain ⟨hR, hS, -⟩ := ckE_bd h0
  have HN0 : arnd n p.bed.sectors = (n + p.bed.sectors) % p.bed.sectors := by unfold arnd; rw [Int.add_emod_right]
  clear h h0 hR
  obtain ⟨S, hS2⟩ : ∃ S : Nat, p.bed.sectors = (S : Int) := ⟨p.bed.sectors.toNat, by omega⟩
  rw [hS2] at z1 HN0 hS h1
  obtain ⟨m, hm⟩ : ∃ m : Nat, n + (S : Int) = (m : Int) := ⟨(n + (S : Int)).toNat, by omega⟩
  have v1 : IntKind.i64.wrap (n + (S : Int)) = (m : Int) := by rw [hm]; exact wrap_id (by omega) (by omega)
  rw [hm] at HN0
  have hq := Nat.mod_lt m (show 0 < S by omega)
  obtain ⟨q, hqe⟩ : ∃ q, m % S = q := ⟨_, rfl⟩
  rw [hqe] at hq
  have eq : (m : Int) % (S : Int) = (q : Int) := by rw [← hqe]; simp
  have v2 : IntKind.i64.wrap (q : Int) = (q : Int) := wrap_id (by omega) (by omega)
  have z3 : decide ((S : Int) = 0) = false := decide_eq_false (by omega)
  have z4 : decide (S = 0) = false := decide_eq_false (by omega)
  have s0 : (0 : Int) < (S : Int) := by omega
  have s1 : 0 < S := by omega
  have HN := Lib.hid (show (m : Int) % (S : Int) = arnd n p.bed.sectors ∧ (q : Int) = arnd n p.bed.sectors by rw [hS2, HN0, eq]; exact ⟨rfl, rfl⟩)
  clear HN0 hm hqe hq h1 hS hS2 z0 z2
  go_enter Tryz.func126, Tryz.ntmps126
  go_wp2_with fail
  go_quiet (fail)
  go_wp2_with fail
  go_ret
  exact ⟨by first | exact ret_int HN.out.1 | exact ret_int HN.out.2, below_drewN _ _⟩


/-- the ends of functions that hand back a state out of a box of their own -/
theorem endS {fn : Func} {t : Nat} {w wr : World} {g : Nat} {a b c : Int} {v : Value} {tmps : Array Value} (hfn : fn.results = #[.cell t 46]) (ht : tmps[t]? = some (.pointer (some ⟨g, 0, none⟩)))
    (hb : Box wr g 46 #[.int .i64 a, .int .i64 b, .int .i64 c]) (hbel : Below w.heap.size w wr) (hv : v = .agg #[.int .i64 a, .int .i64 b, .int .i64 c]) :
    bodyPost Tryz.prog fn (fun e w' => e = .returned v ∧ Below w.heap.size w w') Exit.ret { tmps, defers := [] } wr := by
  subst hv
  have q0 : wr.cell? ⟨g, 0, none⟩ = some (.int .i64 a) := hb.cell 0
  have q1 : wr.cell? ⟨g, 1, none⟩ = some (.int .i64 b) := hb.cell 1
  have q2 : wr.cell? ⟨g, 2, none⟩ = some (.int .i64 c) := hb.cell 2
  exact bodyPost_ret (v := .agg #[.int .i64 a, .int .i64 b, .int .i64 c]) (by simp [results, hfn, go_sem, ht, q0, q1, q2]) rfl ⟨rfl, hbel⟩
theorem endS2 {fn : Func} {t u : Nat} {w wr : World} {g : Nat} {a b c : Int} {x v : Value} {tmps : Array Value} (hfn : fn.results = #[.cell t 46, .tmp u]) (ht : tmps[t]? = some (.pointer (some ⟨g, 0, none⟩))) (hu : tmps[u]? = some x)
    (hb : Box wr g 46 #[.int .i64 a, .int .i64 b, .int .i64 c]) (hbel : Below w.heap.size w wr) (hv : v = .tuple #[.agg #[.int .i64 a, .int .i64 b, .int .i64 c], x]) :
    bodyPost Tryz.prog fn (fun e w' => e = .returned v ∧ Below w.heap.size w w') Exit.ret { tmps, defers := [] } wr := by
  subst hv
  have q0 : wr.cell? ⟨g, 0, none⟩ = some (.int .i64 a) := hb.cell 0
  have q1 : wr.cell? ⟨g, 1, none⟩ = some (.int .i64 b) := hb.cell 1
  have q2 : wr.cell? ⟨g, 2, none⟩ = some (.int .i64 c) := hb.cell 2
  exact bodyPost_ret (v := .tuple #[.agg #[.int .i64 a, .int .i64 b, .int .i64 c], x]) (by simp [results, hfn, go_sem, ht, hu, q0, q1, q2]) rfl ⟨rfl, hbel⟩
theorem endS3 {fn : Func} {t u q : Nat} {w wr : World} {g : Nat} {a b c : Int} {x y v : Value} {tmps : Array Value} (hfn : fn.results = #[.cell t 46, .tmp u, .tmp q]) (ht : tmps[t]? = some (.pointer (some ⟨g, 0, none⟩))) (hu : tmps[u]? = some x) (hq : tmps[q]? = some y)
    (hb : Box wr g 46 #[.int .i64 a, .int .i64 b, .int .i64 c]) (hbel : Below w.heap.size w wr) (hv : v = .tuple #[.agg #[.int .i64 a, .int .i64 b, .int .i64 c], x, y]) :
    bodyPost Tryz.prog fn (fun e w' => e = .returned v ∧ Below w.heap.size w w') Exit.ret { tmps, defers := [] } wr := by
  subst hv
  have q0 : wr.cell? ⟨g, 0, none⟩ = some (.int .i64 a) := hb.cell 0
  have q1 : wr.cell? ⟨g, 1, none⟩ = some (.int .i64 b) := hb.cell 1
  have q2 : wr.cell? ⟨g, 2, none⟩ = some (.int .i64 c) := hb.cell 2
  exact bodyPost_ret (v := .tuple #[.agg #[.int .i64 a, .int .i64 b, .int .i64 c], x, y]) (by simp [results, hfn, go_sem, ht, hu, hq, q0, q1, q2]) rfl ⟨rfl, hbel⟩
end Go.Proofs.YtikfiallhmhicaaGreat

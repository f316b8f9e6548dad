/- Layer 2: the order of moves, and which lists of moves are as they must be. -/
import Derived.Test.YtikfiallhmhicaaGreatC21
set_option linter.all false
namespace Go.Proofs.YtikfiallhmhicaaGreat
open Go.RowKit


def sgI (a b : Int) : Int := if a < b then -1 else if b < a then 1 else 0
def cutI (b : Bool) : Int := if b then 1 else 0
def orL : List Int → Int
  | [] => 0
  | x :: l => if x ≠ 0 then x else orL l
def cmpM (a b : Mv) : Int := orL [sgI a.out b.out, sgI a.side b.side, sgI (cutI a.cut) (cutI b.cut)]
theorem sgI_zero {a b : Int} : sgI a b = 0 ↔ a = b := by unfold sgI; (repeat' split) <;> omega
theorem sgI_neg {a b : Int} : sgI a b < 0 ↔ a < b := by unfold sgI; (repeat' split) <;> omega
theorem cmpM_neg (a b : Mv) : cmpM a b < 0 ↔ bfB a b = true := by
  have h1 := @sgI_zero a.out b.out
  have h2 := @sgI_zero a.side b.side
  have h3 := @sgI_neg a.out b.out
  have h4 := @sgI_neg a.side b.side
  unfold cmpM bfB
  simp only [orL]
  by_cases e1 : a.out = b.out
  · have : ¬ a.out < b.out := by omega
    by_cases e2 : a.side = b.side
    · have : ¬ a.side < b.side := by omega
      rw [if_neg (by simpa using h1.2 e1), if_neg (by simpa using h2.2 e2)]
      cases hc : a.cut <;> cases hd : b.cut <;> simp [sgI, cutI, *]
    · rw [if_neg (by simpa using h1.2 e1), if_pos (fun h => e2 (h2.1 h))]
      simp [e1, e2, h4]
  · rw [if_pos (fun h => e1 (h1.1 h))]
    simp [e1, h3]
theorem cmpM_dec (a b : Mv) : decide (0 ≤ cmpM a b) = !bfB a b := by
  have h := cmpM_neg a b
  cases hb : bfB a b
  · rw [hb] at h
    have : ¬ cmpM a b < 0 := fun x => by have := h.1 x; cases this
    simp; omega
  · have := h.2 hb
    simp; omega

set_option maxHeartbeats 1000000 in
theorem nan_c (x : Int) (w : World) : Calls Tryz.prog 124 #[.int .i64 x] w fun e w' => e = .returned (.bool false) ∧ w = w' := by
  have e1 : (x != x) = false := by simp
  have e2 : decide (x = x) = true := by simp
  go_enter Tryz.func124, Tryz.ntmps124
  go_wp2
  go_ret
  exact ⟨by first | rfl | simp, rfl⟩
set_option maxHeartbeats 2000000 in
theorem cmp_c (x y : Int) (w : World) : Calls Tryz.prog 119 #[.int .i64 x, .int .i64 y] w fun e w' => e = .returned (.int .i64 (sgI x y)) ∧ w = w' := by
  rcases Int.lt_trichotomy x y with h | h | h
  · have H := Lib.hid (show sgI x y = -1 by unfold sgI; rw [if_pos h])
    have e1 : decide (x < y) = true := by simpa using h
    clear h
    go_enter Tryz.func119, Tryz.ntmps119
    go_wp2_with fail
    refine (nan_c _ w).mono ?_; rintro e w1 ⟨rfl, rfl⟩
    go_wp2_with fail
    refine (nan_c _ w).mono ?_; rintro e w1 ⟨rfl, rfl⟩
    go_wp2_with fail
    go_ret
    exact ⟨ret_int H.out.symm, rfl⟩
  · subst h
    have H := Lib.hid (show sgI x x = 0 by unfold sgI; simp)
    have e1 : decide (x < x) = false := by simp
    go_enter Tryz.func119, Tryz.ntmps119
    go_wp2_with fail
    refine (nan_c _ w).mono ?_; rintro e w1 ⟨rfl, rfl⟩
    go_wp2_with fail
    refine (nan_c _ w).mono ?_; rintro e w1 ⟨rfl, rfl⟩
    go_wp2_with fail
    go_ret
    exact ⟨ret_int H.out.symm, rfl⟩
  · have H := Lib.hid (show sgI x y = 1 by unfold sgI; rw [if_neg (by omega), if_pos h])
    have e1 : decide (x < y) = false := by simp; omega
    have e3 : decide (y < x) = true := by simpa using h
    clear h
    go_enter Tryz.func119, Tryz.ntmps119
    go_wp2_with fail
    refine (nan_c _ w).mono ?_; rintro e w1 ⟨rfl, rfl⟩
    go_wp2_with fail
    refine (nan_c _ w).mono ?_; rintro e w1 ⟨rfl, rfl⟩
    go_wp2_with fail
    go_ret
    exact ⟨ret_int H.out.symm, rfl⟩

theorem orL_drop {xs : List Int} {k : Nat} (h : k < xs.length) (hz : nth xs k = 0) : orL (xs.drop k) = orL (xs.drop (k + 1)) := by
  rw [List.drop_eq_getElem_cons h, orL]
  have : xs[k] = 0 := by unfold nth at hz; simpa [h] using hz
  rw [this, if_neg (by simp)]
theorem orL_here {xs : List Int} {k : Nat} (h : k < xs.length) (hz : nth xs k ≠ 0) : orL (xs.drop k) = nth xs k := by
  rw [List.drop_eq_getElem_cons h, orL]
  have : xs[k] = nth xs k := by unfold nth; simp [h]
  rw [this, if_pos hz]
set_option maxRecDepth 100000 in
set_option maxHeartbeats 4000000 in
theorem Or_c (xs : List Int) (v : Value) (w : World) (h : Ints w w.heap.size v xs) : Calls Tryz.prog 118 #[v] w fun e w' => e = .returned (.int .i64 (orL xs)) ∧ w = w' := by
  obtain ⟨hlen, A, c, rfl, hcap, hcell⟩ := h
  have HC := Lib.hid hcell
  obtain ⟨n, hn⟩ : ∃ n, xs.length = n := ⟨_, rfl⟩
  have HN := Lib.hid hn
  rw [hn] at HC hlen ⊢
  clear hn hcap hcell
  go_enter Tryz.func118, Tryz.ntmps118
  go_wp2_with fail
  go_loop [8] (fun i => ∃ k : Nat, k ≤ n ∧ i = .int .i64 (k : Int) ∧ orL (xs.drop k) = orL xs) (fun i => n - (intOf i).toNat)
  case atStart => exact ⟨0, Nat.zero_le _, rfl, rfl⟩
  case round =>
    obtain ⟨k, hk, rfl, hv⟩ := hrel
    have HV := Lib.hid hv
    clear hv
    by_cases hlt : k < n
    · obtain ⟨b, off, rfl, hbB, hcc⟩ := HC.out (by omega)
      have hx := hcc k hlt
      have hdk : decide ((k : Int) < (n : Int)) = true := by simpa using hlt
      have i0 : (0 : Int) ≤ (k : Int) := Int.natCast_nonneg _
      have i1 : (k : Int) < (n : Int) := by omega
      have HH := Lib.hid (fun hz => orL_here (xs := xs) (k := k) (by rw [HN.out]; exact hlt) hz)
      have HD := Lib.hid (fun hz => orL_drop (xs := xs) (k := k) (by rw [HN.out]; exact hlt) hz)
      clear hcc hbB
      obtain ⟨z, hz⟩ : ∃ z, nth xs k = z := ⟨_, rfl⟩
      have HZ := Lib.hid hz
      rw [hz] at hx
      clear hz
      by_cases hz0 : z = 0
      · have HZ0 := Lib.hid hz0
        subst hz0
        go_wp2_with fail
        go_round
        case rel => exact ⟨k + 1, by omega, by go_num, by rw [← HD.out HZ.out, HV.out]⟩
        case measure => simp [intOf]; omega
      · have e1 : (z != 0) = true := by simpa using hz0
        have e2 : decide (z = 0) = false := by simpa using hz0
        have HZ0 := Lib.hid hz0
        clear hz0
        go_wp2_with fail
        go_ret
        exact ⟨ret_int (by rw [← HV.out, HH.out (by rw [HZ.out]; exact HZ0.out), HZ.out]), rfl⟩
    · obtain rfl : k = n := by omega
      have hdk : decide ((k : Int) < (k : Int)) = false := by simp
      clear hlt
      go_wp2_with fail
      go_ret
      exact ⟨ret_int (by rw [← HV.out, ← HN.out, List.drop_length, orL]), rfl⟩

set_option maxHeartbeats 1000000 in
theorem cutOf_c (m : Mv) (w : World) : Calls Tryz.prog 120 #[mvV m] w fun e w' => e = .returned (.int .i64 (cutI m.cut)) ∧ Below w.heap.size w w' := by
  obtain ⟨a, b, c⟩ := m
  unfold mvV
  cases c
  all_goals
    go_enter Tryz.func120, Tryz.ntmps120
    go_wp2_with fail
    go_ret
    exact ⟨rfl, (Below.refl _ _).alloc (Nat.le_refl _) _⟩
set_option maxRecDepth 100000 in
set_option maxHeartbeats 8000000 in
theorem compareMoves_c (a1 a2 : Int) (a3 : Bool) (b1 b2 : Int) (b3 : Bool) (w : World) : Calls Tryz.prog 113 #[mvV ⟨a1, a2, a3⟩, mvV ⟨b1, b2, b3⟩] w fun e w' => e = .returned (.int .i64 (cmpM ⟨a1, a2, a3⟩ ⟨b1, b2, b3⟩)) ∧ Below w.heap.size w w' := by
  unfold mvV
  go_enter Tryz.func113, Tryz.ntmps113
  go_wp2_with fail
  obtain ⟨W1, hW2⟩ : ∃ Wzz, ((w.alloc (.cells #[.int .i64 a1, .int .i64 a2, .bool a3] 50)).alloc (.cells #[.int .i64 b1, .int .i64 b2, .bool b3] 50)) = Wzz := ⟨_, rfl⟩
  have B3 := Lib.hid (show Below w.heap.size w W1 by rw [← hW2]; exact (((Below.refl w.heap.size w).alloc (Nat.le_refl _) _).alloc (by first | (simp; done) | (simp; omega)) _))
  have X4 := Lib.hid (show Box W1 (w.heap.size) 50 #[.int .i64 a1, .int .i64 a2, .bool a3] by rw [← hW2]; exact Box.alloc (Box.made w 50 #[.int .i64 a1, .int .i64 a2, .bool a3]) (.cells #[.int .i64 b1, .int .i64 b2, .bool b3] 50))
  have X5 := Lib.hid (show Box W1 (w.heap.size + 1) 50 #[.int .i64 b1, .int .i64 b2, .bool b3] by
    have hz := Box.made (w.alloc (.cells #[.int .i64 a1, .int .i64 a2, .bool a3] 50)) 50 #[.int .i64 b1, .int .i64 b2, .bool b3]
    rw [World.size_alloc] at hz
    rw [← hW2]; exact hz)
  have SZ6 := Lib.hid (show W1.heap.size = w.heap.size + 1 + 1 by rw [← hW2]; simp)
  rw [hW2]
  clear hW2
  have q7 : W1.cell? ⟨w.heap.size, 0, none⟩ = some (.int .i64 a1) := X4.out.cell 0
  have q8 : W1.cell? ⟨w.heap.size, 1, none⟩ = some (.int .i64 a2) := X4.out.cell 1
  have q9 : W1.cell? ⟨w.heap.size, 2, none⟩ = some (.bool a3) := X4.out.cell 2
  have q10 : W1.cell? ⟨w.heap.size + 1, 0, none⟩ = some (.int .i64 b1) := X5.out.cell 0
  have q11 : W1.cell? ⟨w.heap.size + 1, 1, none⟩ = some (.int .i64 b2) := X5.out.cell 1
  have q12 : W1.cell? ⟨w.heap.size + 1, 2, none⟩ = some (.bool b3) := X5.out.cell 2
  go_wp2_with fail
  have hdr25 : Below (W1).heap.size (W1) (W1).drew := (Below.refl _ _).drew
  have lt19 := X4.out.lt
  have lt20 := X4.out.lt
  have lt21 := X4.out.lt
  have lt22 := X5.out.lt
  have lt23 := X5.out.lt
  have lt24 := X5.out.lt
  have hcall26 : ∀ X Y : World, (fun Wz => Wz.cell? ⟨w.heap.size, 0, none⟩ = some (.int .i64 a1) ∧ Wz.cell? ⟨w.heap.size, 1, none⟩ = some (.int .i64 a2) ∧ Wz.cell? ⟨w.heap.size, 2, none⟩ = some (.bool a3) ∧ Wz.cell? ⟨w.heap.size + 1, 0, none⟩ = some (.int .i64 b1) ∧ Wz.cell? ⟨w.heap.size + 1, 1, none⟩ = some (.int .i64 b2) ∧ Wz.cell? ⟨w.heap.size + 1, 2, none⟩ = some (.bool b3) ∧ (W1).heap.size ≤ Wz.heap.size) X → Below X.heap.size X Y → (fun Wz => Wz.cell? ⟨w.heap.size, 0, none⟩ = some (.int .i64 a1) ∧ Wz.cell? ⟨w.heap.size, 1, none⟩ = some (.int .i64 a2) ∧ Wz.cell? ⟨w.heap.size, 2, none⟩ = some (.bool a3) ∧ Wz.cell? ⟨w.heap.size + 1, 0, none⟩ = some (.int .i64 b1) ∧ Wz.cell? ⟨w.heap.size + 1, 1, none⟩ = some (.int .i64 b2) ∧ Wz.cell? ⟨w.heap.size + 1, 2, none⟩ = some (.bool b3) ∧ (W1).heap.size ≤ Wz.heap.size) Y := by
    rintro X Y ⟨z13, z14, z15, z16, z17, z18, xs⟩ hb
    have hb2 := Below.mono (B' := (W1).heap.size) hb xs
    exact ⟨keepd z13 hb2 lt19, keepd z14 hb2 lt20, keepd z15 hb2 lt21, keepd z16 hb2 lt22, keepd z17 hb2 lt23, keepd z18 hb2 lt24, Nat.le_trans xs hb.size⟩
  have hini27 : (fun Wz => Wz.cell? ⟨w.heap.size, 0, none⟩ = some (.int .i64 a1) ∧ Wz.cell? ⟨w.heap.size, 1, none⟩ = some (.int .i64 a2) ∧ Wz.cell? ⟨w.heap.size, 2, none⟩ = some (.bool a3) ∧ Wz.cell? ⟨w.heap.size + 1, 0, none⟩ = some (.int .i64 b1) ∧ Wz.cell? ⟨w.heap.size + 1, 1, none⟩ = some (.int .i64 b2) ∧ Wz.cell? ⟨w.heap.size + 1, 2, none⟩ = some (.bool b3) ∧ (W1).heap.size ≤ Wz.heap.size) (W1).drew := ⟨keepd (X4.out.cell 0) hdr25 lt19, keepd (X4.out.cell 1) hdr25 lt20, keepd (X4.out.cell 2) hdr25 lt21, keepd (X5.out.cell 0) hdr25 lt22, keepd (X5.out.cell 1) hdr25 lt23, keepd (X5.out.cell 2) hdr25 lt24, Nat.le_refl _⟩
  have Hcall26 := Lib.hid hcall26
  have Hini27 := Lib.hid hini27
  clear hcall26 hini27 lt19 lt20 lt21 lt22 lt23 lt24
  clear q7 q8 q9 q10 q11 q12
  refine wp_region_noPanic ?_
  refine wp_region_held_drew (S := (fun Wz => Wz.cell? ⟨w.heap.size, 0, none⟩ = some (.int .i64 a1) ∧ Wz.cell? ⟨w.heap.size, 1, none⟩ = some (.int .i64 a2) ∧ Wz.cell? ⟨w.heap.size, 2, none⟩ = some (.bool a3) ∧ Wz.cell? ⟨w.heap.size + 1, 0, none⟩ = some (.int .i64 b1) ∧ Wz.cell? ⟨w.heap.size + 1, 1, none⟩ = some (.int .i64 b2) ∧ Wz.cell? ⟨w.heap.size + 1, 2, none⟩ = some (.bool b3) ∧ (W1).heap.size ≤ Wz.heap.size)) (by kernel_rfl) Hini27.out (fun hHeld => ?_)
  obtain ⟨W29, hW30⟩ : ∃ Wzz, (W1).drew = Wzz := ⟨_, rfl⟩
  rw [hW30] at hHeld hdr25 ⊢
  clear hW30
  have X31 := Lib.hid (X4.out.later hdr25)
  have X32 := Lib.hid (X5.out.later hdr25)
  have B33 := Lib.hid (B3.out.trans (hdr25.mono B3.out.size))
  clear hdr25
  refine wpAnyH_take (i := 0) (oi := { dst := some 5, op := Op.fieldAddr 50 (Operand.tmp 2) 0, type := 0, pos := "chart.go:78", after := #[], guard := none }) (v := ?vh34) rfl ?hsh34 ?hfh34 ?hrh34 ?hQh34 ?hyh34 (by assumption) ?resth34
  case hsh34 => kernel_rfl
  case hfh34 => kernel_rfl
  case hrh34 => kernel_rfl
  case hQh34 => exact fun _ _ _ h => h
  case hyh34 => (refine Or.inl ⟨by rfl, ?_⟩; intro w hSw; (try dsimp only at hSw); go_simp; try with_reducible rfl)
  try simp only [Act.put, List.setIfInBounds_toArray, List.set_cons_zero, List.set_cons_succ]
  refine wpAnyH_take (i := 1) (oi := { dst := some 6, op := Op.load 3 (Operand.tmp 5), type := 3, pos := "chart.go:78", after := #[{ on := 0, ground := Ground.data }], guard := none }) (v := ?vh35) rfl ?hsh35 ?hfh35 ?hrh35 ?hQh35 ?hyh35 (by assumption) ?resth35
  case hsh35 => kernel_rfl
  case hfh35 => kernel_rfl
  case hrh35 => kernel_rfl
  case hQh35 => exact fun _ _ _ h => h
  case hyh35 => (refine Or.inl ⟨by rfl, ?_⟩; intro w hSw; (try dsimp only at hSw); go_simp; try with_reducible rfl)
  try simp only [Act.put, List.setIfInBounds_toArray, List.set_cons_zero, List.set_cons_succ]
  refine wpAnyH_take (i := 2) (oi := { dst := some 7, op := Op.fieldAddr 50 (Operand.tmp 3) 0, type := 0, pos := "chart.go:78", after := #[], guard := none }) (v := ?vh36) rfl ?hsh36 ?hfh36 ?hrh36 ?hQh36 ?hyh36 (by assumption) ?resth36
  case hsh36 => kernel_rfl
  case hfh36 => kernel_rfl
  case hrh36 => kernel_rfl
  case hQh36 => exact fun _ _ _ h => h
  case hyh36 => (refine Or.inl ⟨by rfl, ?_⟩; intro w hSw; (try dsimp only at hSw); go_simp; try with_reducible rfl)
  try simp only [Act.put, List.setIfInBounds_toArray, List.set_cons_zero, List.set_cons_succ]
  refine wpAnyH_take (i := 3) (oi := { dst := some 8, op := Op.load 3 (Operand.tmp 7), type := 3, pos := "chart.go:78", after := #[{ on := 2, ground := Ground.data }], guard := none }) (v := ?vh37) rfl ?hsh37 ?hfh37 ?hrh37 ?hQh37 ?hyh37 (by assumption) ?resth37
  case hsh37 => kernel_rfl
  case hfh37 => kernel_rfl
  case hrh37 => kernel_rfl
  case hQh37 => exact fun _ _ _ h => h
  case hyh37 => (refine Or.inl ⟨by rfl, ?_⟩; intro w hSw; (try dsimp only at hSw); go_simp; try with_reducible rfl)
  try simp only [Act.put, List.setIfInBounds_toArray, List.set_cons_zero, List.set_cons_succ]
  refine wpAnyH_take (i := 5) (oi := { dst := some 10, op := Op.fieldAddr 50 (Operand.tmp 2) 1, type := 0, pos := "chart.go:78", after := #[], guard := none }) (v := ?vh38) rfl ?hsh38 ?hfh38 ?hrh38 ?hQh38 ?hyh38 (by assumption) ?resth38
  case hsh38 => kernel_rfl
  case hfh38 => kernel_rfl
  case hrh38 => kernel_rfl
  case hQh38 => exact fun _ _ _ h => h
  case hyh38 => (refine Or.inl ⟨by rfl, ?_⟩; intro w hSw; (try dsimp only at hSw); go_simp; try with_reducible rfl)
  try simp only [Act.put, List.setIfInBounds_toArray, List.set_cons_zero, List.set_cons_succ]
  refine wpAnyH_take (i := 6) (oi := { dst := some 11, op := Op.load 3 (Operand.tmp 10), type := 3, pos := "chart.go:78", after := #[{ on := 5, ground := Ground.data }], guard := none }) (v := ?vh39) rfl ?hsh39 ?hfh39 ?hrh39 ?hQh39 ?hyh39 (by assumption) ?resth39
  case hsh39 => kernel_rfl
  case hfh39 => kernel_rfl
  case hrh39 => kernel_rfl
  case hQh39 => exact fun _ _ _ h => h
  case hyh39 => (refine Or.inl ⟨by rfl, ?_⟩; intro w hSw; (try dsimp only at hSw); go_simp; try with_reducible rfl)
  try simp only [Act.put, List.setIfInBounds_toArray, List.set_cons_zero, List.set_cons_succ]
  refine wpAnyH_take (i := 7) (oi := { dst := some 12, op := Op.fieldAddr 50 (Operand.tmp 3) 1, type := 0, pos := "chart.go:78", after := #[], guard := none }) (v := ?vh40) rfl ?hsh40 ?hfh40 ?hrh40 ?hQh40 ?hyh40 (by assumption) ?resth40
  case hsh40 => kernel_rfl
  case hfh40 => kernel_rfl
  case hrh40 => kernel_rfl
  case hQh40 => exact fun _ _ _ h => h
  case hyh40 => (refine Or.inl ⟨by rfl, ?_⟩; intro w hSw; (try dsimp only at hSw); go_simp; try with_reducible rfl)
  try simp only [Act.put, List.setIfInBounds_toArray, List.set_cons_zero, List.set_cons_succ]
  refine wpAnyH_take (i := 8) (oi := { dst := some 13, op := Op.load 3 (Operand.tmp 12), type := 3, pos := "chart.go:78", after := #[{ on := 7, ground := Ground.data }], guard := none }) (v := ?vh41) rfl ?hsh41 ?hfh41 ?hrh41 ?hQh41 ?hyh41 (by assumption) ?resth41
  case hsh41 => kernel_rfl
  case hfh41 => kernel_rfl
  case hrh41 => kernel_rfl
  case hQh41 => exact fun _ _ _ h => h
  case hyh41 => (refine Or.inl ⟨by rfl, ?_⟩; intro w hSw; (try dsimp only at hSw); go_simp; try with_reducible rfl)
  try simp only [Act.put, List.setIfInBounds_toArray, List.set_cons_zero, List.set_cons_succ]
  refine wpAnyH_take (i := 10) (oi := { dst := some 15, op := Op.load 50 (Operand.tmp 2), type := 50, pos := "chart.go:78", after := #[], guard := none }) (v := ?vh42) rfl ?hsh42 ?hfh42 ?hrh42 ?hQh42 ?hyh42 (by assumption) ?resth42
  case hsh42 => kernel_rfl
  case hfh42 => kernel_rfl
  case hrh42 => kernel_rfl
  case hQh42 => exact fun _ _ _ h => h
  case hyh42 => (refine Or.inl ⟨by rfl, ?_⟩; intro w hSw; (try dsimp only at hSw); go_simp; try with_reducible rfl)
  try simp only [Act.put, List.setIfInBounds_toArray, List.set_cons_zero, List.set_cons_succ]
  refine wpAnyH_take (i := 12) (oi := { dst := some 17, op := Op.load 50 (Operand.tmp 3), type := 50, pos := "chart.go:78", after := #[], guard := none }) (v := ?vh43) rfl ?hsh43 ?hfh43 ?hrh43 ?hQh43 ?hyh43 (by assumption) ?resth43
  case hsh43 => kernel_rfl
  case hfh43 => kernel_rfl
  case hrh43 => kernel_rfl
  case hQh43 => exact fun _ _ _ h => h
  case hyh43 => (refine Or.inl ⟨by rfl, ?_⟩; intro w hSw; (try dsimp only at hSw); go_simp; try with_reducible rfl)
  try simp only [Act.put, List.setIfInBounds_toArray, List.set_cons_zero, List.set_cons_succ]
  refine wpAnyH_ready (rs := [4]) (by kernel_rfl) (by simp) ?_
  refine AllReadyH.cons (o := _) (by rfl) (fun K hK => ?_) AllReadyH.nil
  go_simp
  go_at_call 119
  refine (cmp_c a1 b1 _).mono ?_; rintro e w' ⟨rfl, rfl⟩
  go_wp2_with fail
  refine hK.out _ _ hHeld (fun hHeld44 => ?_)
  clear hK K hHeld
  have hHeld := hHeld44
  clear hHeld44
  try simp only [Act.put, List.setIfInBounds_toArray, List.set_cons_zero, List.set_cons_succ]
  refine wpAnyH_ready (rs := [9]) (by kernel_rfl) (by simp) ?_
  refine AllReadyH.cons (o := _) (by rfl) (fun K hK => ?_) AllReadyH.nil
  go_simp
  go_at_call 119
  refine (cmp_c a2 b2 _).mono ?_; rintro e w' ⟨rfl, rfl⟩
  go_wp2_with fail
  refine hK.out _ _ hHeld (fun hHeld45 => ?_)
  clear hK K hHeld
  have hHeld := hHeld45
  clear hHeld45
  try simp only [Act.put, List.setIfInBounds_toArray, List.set_cons_zero, List.set_cons_succ]
  refine wpAnyH_ready (rs := [11]) (by kernel_rfl) (by simp) ?_
  refine AllReadyH.cons (o := _) (by rfl) (fun K hK => ?_) AllReadyH.nil
  go_simp
  go_at_call 120
  refine (cutOf_c ⟨a1, a2, a3⟩ _).mono ?_; rintro e v46 ⟨rfl, hb47⟩
  have X48 := Lib.hid (X31.out.later hb47)
  have X49 := Lib.hid (X32.out.later hb47)
  have B50 := Lib.hid (B33.out.trans (hb47.mono B33.out.size))
  clear X31 X32 B33
  go_wp2_with fail
  refine hK.out _ _ (Hcall26.out _ _ hHeld (by assumption)) (fun hHeld51 => ?_)
  clear hK K hHeld
  clear hb47
  have hHeld := hHeld51
  clear hHeld51
  try simp only [Act.put, List.setIfInBounds_toArray, List.set_cons_zero, List.set_cons_succ]
  refine wpAnyH_ready (rs := [13]) (by kernel_rfl) (by simp) ?_
  refine AllReadyH.cons (o := _) (by rfl) (fun K hK => ?_) AllReadyH.nil
  go_simp
  go_at_call 120
  refine (cutOf_c ⟨b1, b2, b3⟩ _).mono ?_; rintro e v52 ⟨rfl, hb53⟩
  have X54 := Lib.hid (X48.out.later hb53)
  have X55 := Lib.hid (X49.out.later hb53)
  have B56 := Lib.hid (B50.out.trans (hb53.mono B50.out.size))
  clear X48 X49 B50
  go_wp2_with fail
  refine hK.out _ _ (Hcall26.out _ _ hHeld (by assumption)) (fun hHeld57 => ?_)
  clear hK K hHeld
  clear hb53
  have hHeld := hHeld57
  clear hHeld57
  try simp only [Act.put, List.setIfInBounds_toArray, List.set_cons_zero, List.set_cons_succ]
  refine wpAnyH_ready (rs := [14]) (by kernel_rfl) (by simp) ?_
  refine AllReadyH.cons (o := _) (by rfl) (fun K hK => ?_) AllReadyH.nil
  go_simp
  go_at_call 119
  refine (cmp_c (cutI a3) (cutI b3) _).mono ?_; rintro e w' ⟨rfl, rfl⟩
  obtain ⟨x, HX⟩ : ∃ x, sgI a1 b1 = x := ⟨_, rfl⟩
  obtain ⟨y, HY⟩ : ∃ x, sgI a2 b2 = x := ⟨_, rfl⟩
  obtain ⟨z, HZ⟩ : ∃ x, sgI (cutI a3) (cutI b3) = x := ⟨_, rfl⟩
  have HR := Lib.hid (show cmpM ⟨a1, a2, a3⟩ ⟨b1, b2, b3⟩ = orL [x, y, z] by unfold cmpM; rw [← HX, ← HY, ← HZ])
  rw [HX, HY, HZ]
  clear HX HY HZ
  go_wp2_with fail
  refine hK.out _ _ hHeld (fun hHeld58 => ?_)
  clear hK K hHeld
  have hHeld := hHeld58
  clear hHeld58
  try simp only [Act.put, List.setIfInBounds_toArray, List.set_cons_zero, List.set_cons_succ]
  refine wpAnyH_ready (rs := [15]) (by kernel_rfl) (by simp) ?_
  refine AllReadyH.cons (o := _) (by rfl) (fun K hK => ?_) AllReadyH.nil
  go_simp
  trace_state
  obtain ⟨Wn, hWn⟩ : ∃ Wn, v52.alloc (.cells #[.int .i64 x, .int .i64 y, .int .i64 z] 3) = Wn := ⟨_, rfl⟩
  have hbx : Box Wn v52.heap.size 3 #[.int .i64 x, .int .i64 y, .int .i64 z] := by rw [← hWn]; exact Box.made _ _ _
  have hbn : Below v52.heap.size v52 Wn := by rw [← hWn]; exact (Below.refl _ _).alloc (Nat.le_refl _) _
  have HIN := Lib.hid (show Ints Wn Wn.heap.size (.slice (some ⟨v52.heap.size, 0, none⟩) 3 3) [x, y, z] from
    ⟨by simp, _, _, rfl, Nat.le_refl _, fun _ => ⟨_, 0, rfl, hbx.lt, fun k hk => by
      rw [Nat.zero_add, hbx.cell]
      match k, hk with
      | 0, _ => rfl
      | 1, _ => rfl
      | 2, _ => rfl⟩⟩)
  rw [hWn]
  clear hbx hWn
  have X59 := Lib.hid (X54.out.later hbn)
  have X60 := Lib.hid (X55.out.later hbn)
  have B61 := Lib.hid (B56.out.trans (hbn.mono B56.out.size))
  clear X54 X55 B56
  refine hK.out _ _ (Hcall26.out _ _ hHeld hbn) (fun hHeld62 => ?_)
  clear hK K hHeld
  have hHeld := hHeld62
  clear hHeld62
  try simp only [Act.put, List.setIfInBounds_toArray, List.set_cons_zero, List.set_cons_succ]
  refine wpAnyH_ready (rs := [16]) (by kernel_rfl) (by simp) ?_
  refine AllReadyH.cons (o := _) (by rfl) (fun K hK => ?_) AllReadyH.nil
  go_simp
  go_at_call 118
  refine (Or_c [x, y, z] _ _ HIN.out).mono ?_; rintro e w' ⟨rfl, rfl⟩
  go_wp2_with fail
  refine hK.out _ _ hHeld (fun hHeld63 => ?_)
  clear hK K hHeld
  have hHeld := hHeld63
  clear hHeld63
  try simp only [Act.put, List.setIfInBounds_toArray, List.set_cons_zero, List.set_cons_succ]
  refine wpAnyH_take (i := 17) (oi := { dst := some 4, op := Op.assign (Operand.tmp 21), type := 3, pos := "chart.go:78", after := #[{ on := 16, ground := Ground.data }, { on := 16, ground := Ground.chain }, { on := 0, ground := Ground.phase }, { on := 1, ground := Ground.phase }, { on := 2, ground := Ground.phase }, { on := 3, ground := Ground.phase }, { on := 4, ground := Ground.phase }, { on := 5, ground := Ground.phase }, { on := 6, ground := Ground.phase }, { on := 7, ground := Ground.phase }, { on := 8, ground := Ground.phase }, { on := 9, ground := Ground.phase }, { on := 10, ground := Ground.phase }, { on := 11, ground := Ground.phase }, { on := 12, ground := Ground.phase }, { on := 13, ground := Ground.phase }, { on := 14, ground := Ground.phase }, { on := 15, ground := Ground.phase }, { on := 16, ground := Ground.phase }], guard := none }) (v := ?vh64) rfl ?hsh64 ?hfh64 ?hrh64 ?hQh64 ?hyh64 (by assumption) ?resth64
  case hsh64 => kernel_rfl
  case hfh64 => kernel_rfl
  case hrh64 => kernel_rfl
  case hQh64 => exact fun _ _ _ h => h
  case hyh64 => (refine Or.inl ⟨by rfl, ?_⟩; intro w hSw; (try dsimp only at hSw); go_simp; try with_reducible rfl)
  try simp only [Act.put, List.setIfInBounds_toArray, List.set_cons_zero, List.set_cons_succ]
  refine wpAnyH_done (by kernel_rfl) ?_ _
  refine NoPanic.normal ?_
  clear hHeld Hcall26 Hini27
  have q65 : Wn.cell? ⟨w.heap.size, 0, none⟩ = some (.int .i64 a1) := X59.out.cell 0
  have q66 : Wn.cell? ⟨w.heap.size, 1, none⟩ = some (.int .i64 a2) := X59.out.cell 1
  have q67 : Wn.cell? ⟨w.heap.size, 2, none⟩ = some (.bool a3) := X59.out.cell 2
  have q68 : Wn.cell? ⟨w.heap.size + 1, 0, none⟩ = some (.int .i64 b1) := X60.out.cell 0
  have q69 : Wn.cell? ⟨w.heap.size + 1, 1, none⟩ = some (.int .i64 b2) := X60.out.cell 1
  have q70 : Wn.cell? ⟨w.heap.size + 1, 2, none⟩ = some (.bool b3) := X60.out.cell 2
  go_wp2_with fail
  go_ret
  exact ⟨ret_int HR.out.symm, B61.out⟩

end Go.Proofs.YtikfiallhmhicaaGreat

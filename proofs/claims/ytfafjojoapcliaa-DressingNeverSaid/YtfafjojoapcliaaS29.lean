/- DressingNever: the law. -/
import Derived.Test.YtfafjojoapcliaaS28
import Derived.Test.YtfafjojoapcliaaW0q
set_option linter.all false
namespace Go.Proofs.Ytfafjojoapcliaa
open Go.RowKit

theorem nv_cases (t : Tk) : nvE t = 0 ∨ (nvE t ≠ 0) := by omega
set_option maxRecDepth 100000 in
set_option maxHeartbeats 8000000 in
theorem DressingNever_c (t : Tk) (l h : List Int) (v u : Value) (w : World) (ht : IsTask w w.heap.size v t) (hx : IsPrices w w.heap.size u l h) : Calls Try.prog 5 #[v, u] w fun e w' => e = .returned (.bool true) ∧ Below w.heap.size w w' := by
  have HT := Lib.hid ht
  have HX := Lib.hid hx
  obtain ⟨s, rfl, A, c, rfl, hcap, hcell⟩ := ht
  obtain ⟨x1, x2, rfl, hx1, hx2⟩ := hx
  obtain ⟨-, A1, c1, rfl, -, -⟩ := hx1
  obtain ⟨-, A2, c2, rfl, -, -⟩ := hx2
  obtain ⟨nl, hnl⟩ : ∃ z, t.need.length = z := ⟨_, rfl⟩
  obtain ⟨l1, hl1⟩ : ∃ z, l.length = z := ⟨_, rfl⟩
  obtain ⟨l2, hl2⟩ : ∃ z, h.length = z := ⟨_, rfl⟩
  rw [hnl] at HT ⊢
  rw [hl1, hl2] at HX ⊢
  clear hcap hcell hnl hl1 hl2
  go_enter Try.func5, Try.ntmps5
  go_wp2_with fail
  obtain ⟨W1, hW2⟩ : ∃ Wzz, ((w.alloc (.cells #[.int .i64 t.wide, .slice A nl c] 24)).alloc (.cells #[.slice A1 l1 c1, .slice A2 l2 c2] 35)) = Wzz := ⟨_, rfl⟩
  have B3 := Lib.hid (show Below w.heap.size w W1 by rw [← hW2]; exact (((Below.refl w.heap.size w).alloc (Nat.le_refl _) _).alloc (by first | (simp; done) | (simp; omega)) _))
  have X4 := Lib.hid (show Box W1 (w.heap.size) 24 #[.int .i64 t.wide, .slice A nl c] by rw [← hW2]; exact Box.alloc (Box.made w 24 #[.int .i64 t.wide, .slice A nl c]) (.cells #[.slice A1 l1 c1, .slice A2 l2 c2] 35))
  have X5 := Lib.hid (show Box W1 (w.heap.size + 1) 35 #[.slice A1 l1 c1, .slice A2 l2 c2] by
    have hz := Box.made (w.alloc (.cells #[.int .i64 t.wide, .slice A nl c] 24)) 35 #[.slice A1 l1 c1, .slice A2 l2 c2]
    rw [World.size_alloc] at hz
    rw [← hW2]; exact hz)
  have SZ6 := Lib.hid (show W1.heap.size = w.heap.size + 1 + 1 by rw [← hW2]; simp)
  rw [hW2]
  clear hW2
  have q7 : W1.cell? ⟨w.heap.size, 0, none⟩ = some (.int .i64 t.wide) := X4.out.cell 0
  have q8 : W1.cell? ⟨w.heap.size, 1, none⟩ = some (.slice A nl c) := X4.out.cell 1
  have q9 : W1.cell? ⟨w.heap.size + 1, 0, none⟩ = some (.slice A1 l1 c1) := X5.out.cell 0
  have q10 : W1.cell? ⟨w.heap.size + 1, 1, none⟩ = some (.slice A2 l2 c2) := X5.out.cell 1
  go_wp2_with fail
  refine (awake_c W1).mono ?_; rintro e v11 ⟨rfl, hb12⟩
  have X13 := Lib.hid (X4.out.later hb12)
  have X14 := Lib.hid (X5.out.later hb12)
  have B15 := Lib.hid (B3.out.trans (hb12.mono B3.out.size))
  clear hb12
  clear q7 q8 q9 q10
  have q16 : v11.cell? ⟨w.heap.size, 0, none⟩ = some (.int .i64 t.wide) := X13.out.cell 0
  have q17 : v11.cell? ⟨w.heap.size, 1, none⟩ = some (.slice A nl c) := X13.out.cell 1
  have q18 : v11.cell? ⟨w.heap.size + 1, 0, none⟩ = some (.slice A1 l1 c1) := X14.out.cell 0
  have q19 : v11.cell? ⟨w.heap.size + 1, 1, none⟩ = some (.slice A2 l2 c2) := X14.out.cell 1
  go_wp2_with fail
  refine (short_c t _ v11 (HT.out.mono B15.out B15.out.size)).mono ?_; rintro e v20 ⟨rfl, hb21⟩
  have X22 := Lib.hid (X13.out.later hb21)
  have X23 := Lib.hid (X14.out.later hb21)
  have B24 := Lib.hid (B15.out.trans (hb21.mono B15.out.size))
  clear hb21
  clear q16 q17 q18 q19
  have q25 : v20.cell? ⟨w.heap.size, 0, none⟩ = some (.int .i64 t.wide) := X22.out.cell 0
  have q26 : v20.cell? ⟨w.heap.size, 1, none⟩ = some (.slice A nl c) := X22.out.cell 1
  have q27 : v20.cell? ⟨w.heap.size + 1, 0, none⟩ = some (.slice A1 l1 c1) := X23.out.cell 0
  have q28 : v20.cell? ⟨w.heap.size + 1, 1, none⟩ = some (.slice A2 l2 c2) := X23.out.cell 1
  cases hsh : shortB t
  · clear hsh
    go_wp2_with fail
    go_ret
    exact ⟨rfl, B24.out⟩
  clear hsh
  by_cases q1 : 1000 < l1
  · have f1 : decide ((1000 : Int) < (l1 : Int)) = true := decide_eq_true (by omega)
    have f1' : decide (1000 < l1) = true := decide_eq_true q1
    clear q1
    go_wp2_with fail
    go_ret
    exact ⟨rfl, B24.out⟩
  have q1f : decide ((1000 : Int) < (l1 : Int)) = false := decide_eq_false (by omega)
  have q1g : decide (1000 < l1) = false := decide_eq_false q1
  clear q1
  by_cases q2 : 1000 < l2
  · have f1 : decide ((1000 : Int) < (l2 : Int)) = true := decide_eq_true (by omega)
    have f1' : decide (1000 < l2) = true := decide_eq_true q2
    clear q2
    go_wp2_with fail
    go_ret
    exact ⟨rfl, B24.out⟩
  have q2f : decide ((1000 : Int) < (l2 : Int)) = false := decide_eq_false (by omega)
  have q2g : decide (1000 < l2) = false := decide_eq_false q2
  clear q2
  go_wp2_with fail
  refine (Never_c t _ v20 (HT.out.mono B24.out B24.out.size)).mono ?_; rintro e v29 ⟨yv, yl, yh, rfl, hy, hz0, hz1, hb30⟩
  have X31 := Lib.hid (X22.out.later hb30)
  have X32 := Lib.hid (X23.out.later hb30)
  have B33 := Lib.hid (B24.out.trans (hb30.mono B24.out.size))
  clear hb30
  obtain ⟨s1, s2, rfl, hi1, hi2⟩ := hy
  have HI1 := Lib.hid hi1
  have HI2 := Lib.hid hi2
  obtain ⟨-, B1, e1, rfl, -, -⟩ := hi1
  obtain ⟨-, B2, e2, rfl, -, -⟩ := hi2
  obtain ⟨n1, hn1⟩ : ∃ z, yl.length = z := ⟨_, rfl⟩
  obtain ⟨n2, hn2⟩ : ∃ z, yh.length = z := ⟨_, rfl⟩
  have HN1 := Lib.hid hn1
  have HN2 := Lib.hid hn2
  rw [hn1] at HI1 ⊢
  rw [hn2] at HI2 ⊢
  have HZ0 := Lib.hid hz0
  have HZ1 := Lib.hid hz1
  obtain ⟨nv, hnv⟩ : ∃ z, nvE t = z := ⟨_, rfl⟩
  have HNV := Lib.hid hnv
  rw [hnv]
  clear hnv
  rw [HNV.out] at HZ0 HZ1
  clear hn1 hn2 hz0 hz1
  clear q25 q26 q27 q28
  have q34 : v29.cell? ⟨w.heap.size, 0, none⟩ = some (.int .i64 t.wide) := X31.out.cell 0
  have q35 : v29.cell? ⟨w.heap.size, 1, none⟩ = some (.slice A nl c) := X31.out.cell 1
  have q36 : v29.cell? ⟨w.heap.size + 1, 0, none⟩ = some (.slice A1 l1 c1) := X32.out.cell 0
  have q37 : v29.cell? ⟨w.heap.size + 1, 1, none⟩ = some (.slice A2 l2 c2) := X32.out.cell 1
  clear q34 q35 q36 q37
  have X38 := Lib.hid (X31.out.alloc (.cells #[.slice B1 n1 e1, .slice B2 n2 e2] 35))
  have X39 := Lib.hid (X32.out.alloc (.cells #[.slice B1 n1 e1, .slice B2 n2 e2] 35))
  have B40 := Lib.hid (B33.out.alloc B33.out.size (.cells #[.slice B1 n1 e1, .slice B2 n2 e2] 35))
  have X41 := Lib.hid (Box.made v29 35 #[.slice B1 n1 e1, .slice B2 n2 e2])
  have q42 : (v29.alloc (.cells #[.slice B1 n1 e1, .slice B2 n2 e2] 35)).cell? ⟨w.heap.size, 0, none⟩ = some (.int .i64 t.wide) := X38.out.cell 0
  have q43 : (v29.alloc (.cells #[.slice B1 n1 e1, .slice B2 n2 e2] 35)).cell? ⟨w.heap.size, 1, none⟩ = some (.slice A nl c) := X38.out.cell 1
  have q44 : (v29.alloc (.cells #[.slice B1 n1 e1, .slice B2 n2 e2] 35)).cell? ⟨w.heap.size + 1, 0, none⟩ = some (.slice A1 l1 c1) := X39.out.cell 0
  have q45 : (v29.alloc (.cells #[.slice B1 n1 e1, .slice B2 n2 e2] 35)).cell? ⟨w.heap.size + 1, 1, none⟩ = some (.slice A2 l2 c2) := X39.out.cell 1
  have q46 : (v29.alloc (.cells #[.slice B1 n1 e1, .slice B2 n2 e2] 35)).cell? ⟨v29.heap.size, 0, none⟩ = some (.slice B1 n1 e1) := X41.out.cell 0
  have q47 : (v29.alloc (.cells #[.slice B1 n1 e1, .slice B2 n2 e2] 35)).cell? ⟨v29.heap.size, 1, none⟩ = some (.slice B2 n2 e2) := X41.out.cell 1
  have fz48 : ∀ o, (v29.alloc (.cells #[.slice B1 n1 e1, .slice B2 n2 e2] 35)).frozen? ⟨v29.heap.size, o, none⟩ = false := fun o => X41.out.free o
  have HY := Lib.hid (show IsPrices ((v29.alloc (.cells #[.slice B1 n1 e1, .slice B2 n2 e2] 35))) ((v29.alloc (.cells #[.slice B1 n1 e1, .slice B2 n2 e2] 35))).heap.size (.agg #[.slice B1 n1 e1, .slice B2 n2 e2]) yl yh from ⟨_, _, rfl, HI1.out.box _, HI2.out.box _⟩)
  go_wp2_with fail
  refine (rNever_c t _ (v29.alloc (.cells #[.slice B1 n1 e1, .slice B2 n2 e2] 35)) (HT.out.mono B40.out B40.out.size)).mono ?_; rintro e v49 ⟨A8, n8, c8, A9, n9, c9, rfl, hb50⟩
  have X51 := Lib.hid (X38.out.later hb50)
  have X52 := Lib.hid (X39.out.later hb50)
  have X53 := Lib.hid (X41.out.later hb50)
  have C54 := Lib.hid (HY.out.later hb50)
  have B55 := Lib.hid (B40.out.trans (hb50.mono B40.out.size))
  clear hb50
  rw [HNV.out]
  clear q42 q43 q44 q45 q46 q47 fz48
  have q56 : v49.cell? ⟨w.heap.size, 0, none⟩ = some (.int .i64 t.wide) := X51.out.cell 0
  have q57 : v49.cell? ⟨w.heap.size, 1, none⟩ = some (.slice A nl c) := X51.out.cell 1
  have q58 : v49.cell? ⟨w.heap.size + 1, 0, none⟩ = some (.slice A1 l1 c1) := X52.out.cell 0
  have q59 : v49.cell? ⟨w.heap.size + 1, 1, none⟩ = some (.slice A2 l2 c2) := X52.out.cell 1
  have q60 : v49.cell? ⟨v29.heap.size, 0, none⟩ = some (.slice B1 n1 e1) := X53.out.cell 0
  have q61 : v49.cell? ⟨v29.heap.size, 1, none⟩ = some (.slice B2 n2 e2) := X53.out.cell 1
  have fz62 : ∀ o, v49.frozen? ⟨v29.heap.size, o, none⟩ = false := fun o => X53.out.free o
  have LT63 := Lib.hid X53.out.lt
  clear q56 q57 q58 q59 q60 q61 fz62
  have X64 := Lib.hid (X51.out.alloc (.cells #[.slice A8 n8 c8, .slice A9 n9 c9] 35))
  have X65 := Lib.hid (X52.out.alloc (.cells #[.slice A8 n8 c8, .slice A9 n9 c9] 35))
  have X66 := Lib.hid (X53.out.alloc (.cells #[.slice A8 n8 c8, .slice A9 n9 c9] 35))
  have C67 := Lib.hid (C54.out.later ((Below.refl v49.heap.size v49).alloc (Nat.le_refl _) (.cells #[.slice A8 n8 c8, .slice A9 n9 c9] 35)))
  have B68 := Lib.hid (B55.out.alloc B55.out.size (.cells #[.slice A8 n8 c8, .slice A9 n9 c9] 35))
  have X69 := Lib.hid (Box.made v49 35 #[.slice A8 n8 c8, .slice A9 n9 c9])
  have q70 : (v49.alloc (.cells #[.slice A8 n8 c8, .slice A9 n9 c9] 35)).cell? ⟨w.heap.size, 0, none⟩ = some (.int .i64 t.wide) := X64.out.cell 0
  have q71 : (v49.alloc (.cells #[.slice A8 n8 c8, .slice A9 n9 c9] 35)).cell? ⟨w.heap.size, 1, none⟩ = some (.slice A nl c) := X64.out.cell 1
  have q72 : (v49.alloc (.cells #[.slice A8 n8 c8, .slice A9 n9 c9] 35)).cell? ⟨w.heap.size + 1, 0, none⟩ = some (.slice A1 l1 c1) := X65.out.cell 0
  have q73 : (v49.alloc (.cells #[.slice A8 n8 c8, .slice A9 n9 c9] 35)).cell? ⟨w.heap.size + 1, 1, none⟩ = some (.slice A2 l2 c2) := X65.out.cell 1
  have q74 : (v49.alloc (.cells #[.slice A8 n8 c8, .slice A9 n9 c9] 35)).cell? ⟨v29.heap.size, 0, none⟩ = some (.slice B1 n1 e1) := X66.out.cell 0
  have q75 : (v49.alloc (.cells #[.slice A8 n8 c8, .slice A9 n9 c9] 35)).cell? ⟨v29.heap.size, 1, none⟩ = some (.slice B2 n2 e2) := X66.out.cell 1
  have fz76 : ∀ o, (v49.alloc (.cells #[.slice A8 n8 c8, .slice A9 n9 c9] 35)).frozen? ⟨v29.heap.size, o, none⟩ = false := fun o => X66.out.free o
  have q77 : (v49.alloc (.cells #[.slice A8 n8 c8, .slice A9 n9 c9] 35)).cell? ⟨v49.heap.size, 0, none⟩ = some (.slice A8 n8 c8) := X69.out.cell 0
  have q78 : (v49.alloc (.cells #[.slice A8 n8 c8, .slice A9 n9 c9] 35)).cell? ⟨v49.heap.size, 1, none⟩ = some (.slice A9 n9 c9) := X69.out.cell 1
  have fz79 : ∀ o, (v49.alloc (.cells #[.slice A8 n8 c8, .slice A9 n9 c9] 35)).frozen? ⟨v49.heap.size, o, none⟩ = false := fun o => X69.out.free o
  go_wp2_with fail
  have hdr96 : Below ((v49.alloc (.cells #[.slice A8 n8 c8, .slice A9 n9 c9] 35))).heap.size ((v49.alloc (.cells #[.slice A8 n8 c8, .slice A9 n9 c9] 35))) ((v49.alloc (.cells #[.slice A8 n8 c8, .slice A9 n9 c9] 35))).drew := (Below.refl _ _).drew
  have lt88 := X64.out.lt
  have lt89 := X64.out.lt
  have lt90 := X65.out.lt
  have lt91 := X65.out.lt
  have lt92 := X66.out.lt
  have lt93 := X66.out.lt
  have lt94 := X69.out.lt
  have lt95 := X69.out.lt
  have hcall97 : ∀ X Y : World, (fun Wz => Wz.cell? ⟨w.heap.size, 0, none⟩ = some (.int .i64 t.wide) ∧ Wz.cell? ⟨w.heap.size, 1, none⟩ = some (.slice A nl c) ∧ Wz.cell? ⟨w.heap.size + 1, 0, none⟩ = some (.slice A1 l1 c1) ∧ Wz.cell? ⟨w.heap.size + 1, 1, none⟩ = some (.slice A2 l2 c2) ∧ Wz.cell? ⟨v29.heap.size, 0, none⟩ = some (.slice B1 n1 e1) ∧ Wz.cell? ⟨v29.heap.size, 1, none⟩ = some (.slice B2 n2 e2) ∧ Wz.cell? ⟨v49.heap.size, 0, none⟩ = some (.slice A8 n8 c8) ∧ Wz.cell? ⟨v49.heap.size, 1, none⟩ = some (.slice A9 n9 c9) ∧ ((v49.alloc (.cells #[.slice A8 n8 c8, .slice A9 n9 c9] 35))).heap.size ≤ Wz.heap.size) X → Below X.heap.size X Y → (fun Wz => Wz.cell? ⟨w.heap.size, 0, none⟩ = some (.int .i64 t.wide) ∧ Wz.cell? ⟨w.heap.size, 1, none⟩ = some (.slice A nl c) ∧ Wz.cell? ⟨w.heap.size + 1, 0, none⟩ = some (.slice A1 l1 c1) ∧ Wz.cell? ⟨w.heap.size + 1, 1, none⟩ = some (.slice A2 l2 c2) ∧ Wz.cell? ⟨v29.heap.size, 0, none⟩ = some (.slice B1 n1 e1) ∧ Wz.cell? ⟨v29.heap.size, 1, none⟩ = some (.slice B2 n2 e2) ∧ Wz.cell? ⟨v49.heap.size, 0, none⟩ = some (.slice A8 n8 c8) ∧ Wz.cell? ⟨v49.heap.size, 1, none⟩ = some (.slice A9 n9 c9) ∧ ((v49.alloc (.cells #[.slice A8 n8 c8, .slice A9 n9 c9] 35))).heap.size ≤ Wz.heap.size) Y := by
    rintro X Y ⟨z80, z81, z82, z83, z84, z85, z86, z87, xs⟩ hb
    have hb2 := Below.mono (B' := ((v49.alloc (.cells #[.slice A8 n8 c8, .slice A9 n9 c9] 35))).heap.size) hb xs
    exact ⟨keepd z80 hb2 lt88, keepd z81 hb2 lt89, keepd z82 hb2 lt90, keepd z83 hb2 lt91, keepd z84 hb2 lt92, keepd z85 hb2 lt93, keepd z86 hb2 lt94, keepd z87 hb2 lt95, Nat.le_trans xs hb.size⟩
  have hini98 : (fun Wz => Wz.cell? ⟨w.heap.size, 0, none⟩ = some (.int .i64 t.wide) ∧ Wz.cell? ⟨w.heap.size, 1, none⟩ = some (.slice A nl c) ∧ Wz.cell? ⟨w.heap.size + 1, 0, none⟩ = some (.slice A1 l1 c1) ∧ Wz.cell? ⟨w.heap.size + 1, 1, none⟩ = some (.slice A2 l2 c2) ∧ Wz.cell? ⟨v29.heap.size, 0, none⟩ = some (.slice B1 n1 e1) ∧ Wz.cell? ⟨v29.heap.size, 1, none⟩ = some (.slice B2 n2 e2) ∧ Wz.cell? ⟨v49.heap.size, 0, none⟩ = some (.slice A8 n8 c8) ∧ Wz.cell? ⟨v49.heap.size, 1, none⟩ = some (.slice A9 n9 c9) ∧ ((v49.alloc (.cells #[.slice A8 n8 c8, .slice A9 n9 c9] 35))).heap.size ≤ Wz.heap.size) ((v49.alloc (.cells #[.slice A8 n8 c8, .slice A9 n9 c9] 35))).drew := ⟨keepd (X64.out.cell 0) hdr96 lt88, keepd (X64.out.cell 1) hdr96 lt89, keepd (X65.out.cell 0) hdr96 lt90, keepd (X65.out.cell 1) hdr96 lt91, keepd (X66.out.cell 0) hdr96 lt92, keepd (X66.out.cell 1) hdr96 lt93, keepd (X69.out.cell 0) hdr96 lt94, keepd (X69.out.cell 1) hdr96 lt95, Nat.le_refl _⟩
  have Hcall97 := Lib.hid hcall97
  have Hini98 := Lib.hid hini98
  clear hcall97 hini98 lt88 lt89 lt90 lt91 lt92 lt93 lt94 lt95
  clear q70 q71 q72 q73 q74 q75 fz76 q77 q78 fz79
  refine wp_region_noPanic ?_
  refine wp_region_held_drew (S := (fun Wz => Wz.cell? ⟨w.heap.size, 0, none⟩ = some (.int .i64 t.wide) ∧ Wz.cell? ⟨w.heap.size, 1, none⟩ = some (.slice A nl c) ∧ Wz.cell? ⟨w.heap.size + 1, 0, none⟩ = some (.slice A1 l1 c1) ∧ Wz.cell? ⟨w.heap.size + 1, 1, none⟩ = some (.slice A2 l2 c2) ∧ Wz.cell? ⟨v29.heap.size, 0, none⟩ = some (.slice B1 n1 e1) ∧ Wz.cell? ⟨v29.heap.size, 1, none⟩ = some (.slice B2 n2 e2) ∧ Wz.cell? ⟨v49.heap.size, 0, none⟩ = some (.slice A8 n8 c8) ∧ Wz.cell? ⟨v49.heap.size, 1, none⟩ = some (.slice A9 n9 c9) ∧ ((v49.alloc (.cells #[.slice A8 n8 c8, .slice A9 n9 c9] 35))).heap.size ≤ Wz.heap.size)) (by kernel_rfl) Hini98.out (fun hHeld => ?_)
  obtain ⟨W101, hW102⟩ : ∃ Wzz, ((v49.alloc (.cells #[.slice A8 n8 c8, .slice A9 n9 c9] 35))).drew = Wzz := ⟨_, rfl⟩
  rw [hW102] at hHeld hdr96 ⊢
  clear hW102
  have X103 := Lib.hid (X64.out.later hdr96)
  have X104 := Lib.hid (X65.out.later hdr96)
  have X105 := Lib.hid (X66.out.later hdr96)
  have X106 := Lib.hid (X69.out.later hdr96)
  have C107 := Lib.hid (C67.out.later hdr96)
  have B108 := Lib.hid (B68.out.trans (hdr96.mono B68.out.size))
  clear hdr96
  refine wpAnyH_take (i := 0) (oi := { dst := some 37, op := Op.load 24 (Operand.tmp 2), type := 24, pos := "law.go:113", after := #[], guard := none }) (v := ?vh109) rfl ?hsh109 ?hfh109 ?hrh109 ?hQh109 ?hyh109 (by assumption) ?resth109
  case hsh109 => kernel_rfl
  case hfh109 => kernel_rfl
  case hrh109 => kernel_rfl
  case hQh109 => exact fun _ _ _ h => h
  case hyh109 => (refine Or.inl ⟨by rfl, ?_⟩; intro w hSw; (try dsimp only at hSw); go_simp; try with_reducible rfl)
  try simp only [Act.put, List.setIfInBounds_toArray, List.set_cons_zero, List.set_cons_succ]
  refine wpAnyH_take (i := 1) (oi := { dst := some 38, op := Op.load 35 (Operand.tmp 3), type := 35, pos := "law.go:113", after := #[], guard := none }) (v := ?vh110) rfl ?hsh110 ?hfh110 ?hrh110 ?hQh110 ?hyh110 (by assumption) ?resth110
  case hsh110 => kernel_rfl
  case hfh110 => kernel_rfl
  case hrh110 => kernel_rfl
  case hQh110 => exact fun _ _ _ h => h
  case hyh110 => (refine Or.inl ⟨by rfl, ?_⟩; intro w hSw; (try dsimp only at hSw); go_simp; try with_reducible rfl)
  try simp only [Act.put, List.setIfInBounds_toArray, List.set_cons_zero, List.set_cons_succ]
  refine wpAnyH_take (i := 3) (oi := { dst := some 40, op := Op.load 24 (Operand.tmp 2), type := 24, pos := "law.go:113", after := #[], guard := none }) (v := ?vh111) rfl ?hsh111 ?hfh111 ?hrh111 ?hQh111 ?hyh111 (by assumption) ?resth111
  case hsh111 => kernel_rfl
  case hfh111 => kernel_rfl
  case hrh111 => kernel_rfl
  case hQh111 => exact fun _ _ _ h => h
  case hyh111 => (refine Or.inl ⟨by rfl, ?_⟩; intro w hSw; (try dsimp only at hSw); go_simp; try with_reducible rfl)
  try simp only [Act.put, List.setIfInBounds_toArray, List.set_cons_zero, List.set_cons_succ]
  refine wpAnyH_take (i := 4) (oi := { dst := some 41, op := Op.load 35 (Operand.tmp 3), type := 35, pos := "law.go:113", after := #[], guard := none }) (v := ?vh112) rfl ?hsh112 ?hfh112 ?hrh112 ?hQh112 ?hyh112 (by assumption) ?resth112
  case hsh112 => kernel_rfl
  case hfh112 => kernel_rfl
  case hrh112 => kernel_rfl
  case hQh112 => exact fun _ _ _ h => h
  case hyh112 => (refine Or.inl ⟨by rfl, ?_⟩; intro w hSw; (try dsimp only at hSw); go_simp; try with_reducible rfl)
  try simp only [Act.put, List.setIfInBounds_toArray, List.set_cons_zero, List.set_cons_succ]
  refine wpAnyH_ready (rs := [2]) (by kernel_rfl) (by simp) ?_
  refine AllReadyH.cons (o := _) (by rfl) (fun K hK => ?_) AllReadyH.nil
  go_simp
  go_at_call 20
  refine (CheckNever_c t l h _ _ W101 (HT.out.mono B108.out B108.out.size) (HX.out.mono B108.out B108.out.size)).mono ?_; rintro e v113 ⟨rfl, hb114⟩
  have X115 := Lib.hid (X103.out.later hb114)
  have X116 := Lib.hid (X104.out.later hb114)
  have X117 := Lib.hid (X105.out.later hb114)
  have X118 := Lib.hid (X106.out.later hb114)
  have C119 := Lib.hid (C107.out.later hb114)
  have B120 := Lib.hid (B108.out.trans (hb114.mono B108.out.size))
  clear X103 X104 X105 X106 C107 B108
  obtain ⟨cn, hcn⟩ : ∃ z, cnE t l h = z := ⟨_, rfl⟩
  have HCN := Lib.hid hcn
  rw [hcn]
  clear hcn
  go_wp2_with fail
  refine hK.out _ _ (Hcall97.out _ _ hHeld (by assumption)) (fun hHeld121 => ?_)
  clear hK K hHeld
  clear hb114
  have hHeld := hHeld121
  clear hHeld121
  try simp only [Act.put, List.setIfInBounds_toArray, List.set_cons_zero, List.set_cons_succ]
  refine wpAnyH_ready (rs := [5]) (by kernel_rfl) (by simp) ?_
  refine AllReadyH.cons (o := _) (by rfl) (fun K hK => ?_) AllReadyH.nil
  go_simp
  go_at_call 21
  refine (rCheckNever_c t l h _ _ v113 (HT.out.mono B120.out B120.out.size) (HX.out.mono B120.out B120.out.size)).mono ?_; rintro e v122 ⟨rfl, hb123⟩
  have X124 := Lib.hid (X115.out.later hb123)
  have X125 := Lib.hid (X116.out.later hb123)
  have X126 := Lib.hid (X117.out.later hb123)
  have X127 := Lib.hid (X118.out.later hb123)
  have C128 := Lib.hid (C119.out.later hb123)
  have B129 := Lib.hid (B120.out.trans (hb123.mono B120.out.size))
  clear X115 X116 X117 X118 C119 B120
  rw [HCN.out]
  go_wp2_with fail
  refine hK.out _ _ (Hcall97.out _ _ hHeld (by assumption)) (fun hHeld130 => ?_)
  clear hK K hHeld
  clear hb123
  have hHeld := hHeld130
  clear hHeld130
  try simp only [Act.put, List.setIfInBounds_toArray, List.set_cons_zero, List.set_cons_succ]
  refine wpAnyH_take (i := 6) (oi := { dst := some 43, op := Op.binOp BinOp.neq 27 (Operand.tmp 39) (Operand.tmp 42) 27, type := 4, pos := "law.go:113", after := #[{ on := 2, ground := Ground.data }, { on := 5, ground := Ground.data }], guard := none }) (v := ?vh131) rfl ?hsh131 ?hfh131 ?hrh131 ?hQh131 ?hyh131 (by assumption) ?resth131
  case hsh131 => kernel_rfl
  case hfh131 => kernel_rfl
  case hrh131 => kernel_rfl
  case hQh131 => exact fun _ _ _ h => h
  case hyh131 => (refine Or.inl ⟨by rfl, ?_⟩; intro w hSw; (try dsimp only at hSw); go_simp; try with_reducible rfl)
  try simp only [Act.put, List.setIfInBounds_toArray, List.set_cons_zero, List.set_cons_succ]
  refine wpAnyH_take (i := 7) (oi := { dst := some 44, op := Op.move (Operand.tmp 43), type := 4, pos := "law.go:113", after := #[{ on := 6, ground := Ground.data }, { on := 5, ground := Ground.chain }], guard := none }) (v := ?vh132) rfl ?hsh132 ?hfh132 ?hrh132 ?hQh132 ?hyh132 (by assumption) ?resth132
  case hsh132 => kernel_rfl
  case hfh132 => kernel_rfl
  case hrh132 => kernel_rfl
  case hQh132 => exact fun _ _ _ h => h
  case hyh132 => (refine Or.inl ⟨by rfl, ?_⟩; intro w hSw; (try dsimp only at hSw); go_simp; try with_reducible rfl)
  try simp only [Act.put, List.setIfInBounds_toArray, List.set_cons_zero, List.set_cons_succ]
  refine wpAnyH_take (i := 8) (oi := { dst := some 45, op := Op.move (Operand.tmp 7), type := 27, pos := "law.go:113", after := #[{ on := 7, ground := Ground.guard }], guard := some (7, false) }) (v := ?vh133) rfl ?hsh133 ?hfh133 ?hrh133 ?hQh133 ?hyh133 (by assumption) ?resth133
  case hsh133 => kernel_rfl
  case hfh133 => kernel_rfl
  case hrh133 => kernel_rfl
  case hQh133 => exact fun _ _ _ h => h
  case hyh133 => (refine Or.inl ⟨by rfl, ?_⟩; intro w hSw; (try dsimp only at hSw); go_simp; try with_reducible rfl)
  try simp only [Act.put, List.setIfInBounds_toArray, List.set_cons_zero, List.set_cons_succ]
  refine wpAnyH_take (i := 9) (oi := { dst := some 46, op := Op.move (Operand.tmp 9), type := 27, pos := "law.go:113", after := #[{ on := 7, ground := Ground.guard }], guard := some (7, false) }) (v := ?vh134) rfl ?hsh134 ?hfh134 ?hrh134 ?hQh134 ?hyh134 (by assumption) ?resth134
  case hsh134 => kernel_rfl
  case hfh134 => kernel_rfl
  case hrh134 => kernel_rfl
  case hQh134 => exact fun _ _ _ h => h
  case hyh134 => (refine Or.inl ⟨by rfl, ?_⟩; intro w hSw; (try dsimp only at hSw); go_simp; try with_reducible rfl)
  try simp only [Act.put, List.setIfInBounds_toArray, List.set_cons_zero, List.set_cons_succ]
  refine wpAnyH_take (i := 10) (oi := { dst := some 47, op := Op.binOp BinOp.neq 27 (Operand.tmp 45) (Operand.tmp 46) 27, type := 4, pos := "law.go:113", after := #[{ on := 8, ground := Ground.data }, { on := 9, ground := Ground.data }, { on := 7, ground := Ground.guard }], guard := some (7, false) }) (v := ?vh135) rfl ?hsh135 ?hfh135 ?hrh135 ?hQh135 ?hyh135 (by assumption) ?resth135
  case hsh135 => kernel_rfl
  case hfh135 => kernel_rfl
  case hrh135 => kernel_rfl
  case hQh135 => exact fun _ _ _ h => h
  case hyh135 => (refine Or.inl ⟨by rfl, ?_⟩; intro w hSw; (try dsimp only at hSw); go_simp; try with_reducible rfl)
  try simp only [Act.put, List.setIfInBounds_toArray, List.set_cons_zero, List.set_cons_succ]
  refine wpAnyH_take (i := 11) (oi := { dst := some 48, op := Op.pick (Operand.tmp 44) (Operand.const (Value.bool true)) (Operand.tmp 47), type := 4, pos := "law.go:113", after := #[{ on := 7, ground := Ground.data }, { on := 10, ground := Ground.data }], guard := none }) (v := ?vh136) rfl ?hsh136 ?hfh136 ?hrh136 ?hQh136 ?hyh136 (by assumption) ?resth136
  case hsh136 => kernel_rfl
  case hfh136 => kernel_rfl
  case hrh136 => kernel_rfl
  case hQh136 => exact fun _ _ _ h => h
  case hyh136 => (refine Or.inl ⟨by rfl, ?_⟩; intro w hSw; (try dsimp only at hSw); go_simp; try with_reducible rfl)
  try simp only [Act.put, List.setIfInBounds_toArray, List.set_cons_zero, List.set_cons_succ]
  refine wpAnyH_done (by kernel_rfl) ?_ _
  refine NoPanic.normal ?_
  clear hHeld Hcall97 Hini98
  have q137 : v122.cell? ⟨w.heap.size, 0, none⟩ = some (.int .i64 t.wide) := X124.out.cell 0
  have q138 : v122.cell? ⟨w.heap.size, 1, none⟩ = some (.slice A nl c) := X124.out.cell 1
  have q139 : v122.cell? ⟨w.heap.size + 1, 0, none⟩ = some (.slice A1 l1 c1) := X125.out.cell 0
  have q140 : v122.cell? ⟨w.heap.size + 1, 1, none⟩ = some (.slice A2 l2 c2) := X125.out.cell 1
  have q141 : v122.cell? ⟨v29.heap.size, 0, none⟩ = some (.slice B1 n1 e1) := X126.out.cell 0
  have q142 : v122.cell? ⟨v29.heap.size, 1, none⟩ = some (.slice B2 n2 e2) := X126.out.cell 1
  have fz143 : ∀ o, v122.frozen? ⟨v29.heap.size, o, none⟩ = false := fun o => X126.out.free o
  have q144 : v122.cell? ⟨v49.heap.size, 0, none⟩ = some (.slice A8 n8 c8) := X127.out.cell 0
  have q145 : v122.cell? ⟨v49.heap.size, 1, none⟩ = some (.slice A9 n9 c9) := X127.out.cell 1
  have fz146 : ∀ o, v122.frozen? ⟨v49.heap.size, o, none⟩ = false := fun o => X127.out.free o
  by_cases z0 : nv = 0
  case neg =>
    have f1 : (nv != 0) = true := by simp [z0]
    obtain ⟨e1z, e2z⟩ := HZ1.out z0
    have g1 := HN1.out
    have g2 := HN2.out
    rw [e1z] at g1
    rw [e2z] at g2
    obtain rfl : n1 = 0 := g1.symm
    obtain rfl : n2 = 0 := g2.symm
    clear z0 e1z e2z g1 g2
    go_wp2_with fail
    go_ret
    exact ⟨rfl, B129.out⟩
  subst z0
  have HZ := Lib.hid (HZ0.out rfl)
  go_wp2_with fail
  refine (rCheckNever_c t yl yh _ _ v122 (HT.out.mono B129.out B129.out.size) C128.out).mono ?_; rintro e v147 ⟨rfl, hb148⟩
  have X149 := Lib.hid (X124.out.later hb148)
  have X150 := Lib.hid (X125.out.later hb148)
  have X151 := Lib.hid (X126.out.later hb148)
  have X152 := Lib.hid (X127.out.later hb148)
  have C153 := Lib.hid (C128.out.later hb148)
  have B154 := Lib.hid (B129.out.trans (hb148.mono B129.out.size))
  clear hb148
  rw [HZ.out]
  clear q137 q138 q139 q140 q141 q142 fz143 q144 q145 fz146
  have q155 : v147.cell? ⟨w.heap.size, 0, none⟩ = some (.int .i64 t.wide) := X149.out.cell 0
  have q156 : v147.cell? ⟨w.heap.size, 1, none⟩ = some (.slice A nl c) := X149.out.cell 1
  have q157 : v147.cell? ⟨w.heap.size + 1, 0, none⟩ = some (.slice A1 l1 c1) := X150.out.cell 0
  have q158 : v147.cell? ⟨w.heap.size + 1, 1, none⟩ = some (.slice A2 l2 c2) := X150.out.cell 1
  have q159 : v147.cell? ⟨v29.heap.size, 0, none⟩ = some (.slice B1 n1 e1) := X151.out.cell 0
  have q160 : v147.cell? ⟨v29.heap.size, 1, none⟩ = some (.slice B2 n2 e2) := X151.out.cell 1
  have fz161 : ∀ o, v147.frozen? ⟨v29.heap.size, o, none⟩ = false := fun o => X151.out.free o
  have q162 : v147.cell? ⟨v49.heap.size, 0, none⟩ = some (.slice A8 n8 c8) := X152.out.cell 0
  have q163 : v147.cell? ⟨v49.heap.size, 1, none⟩ = some (.slice A9 n9 c9) := X152.out.cell 1
  have fz164 : ∀ o, v147.frozen? ⟨v49.heap.size, o, none⟩ = false := fun o => X152.out.free o
  go_wp2_with fail
  go_ret
  exact ⟨rfl, B154.out⟩

end Go.Proofs.Ytfafjojoapcliaa

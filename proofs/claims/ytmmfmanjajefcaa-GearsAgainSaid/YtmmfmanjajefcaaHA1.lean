/- Layer 7: the law on standing again. -/
import Derived.Test.YtmmfmanjajefcaaHA0
set_option linter.all false
namespace Go.Proofs.Ytmmfmanjajefcaa
open Go.RowKit

set_option maxRecDepth 100000 in
set_option maxHeartbeats 8000000 in
theorem GearsAgain_c (ms : List Mh) (t : Int) (v : Value) (w : World) (h : IsTr w w.heap.size v ms) : Calls Try.prog 12 #[v, .int .i64 t] w fun e w' => e = .returned (.bool true) ∧ Below w.heap.size w w' := by
  have HT := Lib.hid h
  obtain ⟨sv, rfl, A, c, rfl, -, -⟩ := h
  obtain ⟨l, hn⟩ : ∃ n, ms.length = n := ⟨_, rfl⟩
  have HN := Lib.hid hn
  rw [hn] at HT ⊢
  clear hn
  go_enter Try.func12, Try.ntmps12
  go_wp2_with fail
  obtain ⟨W1, hW2⟩ : ∃ Wzz, (w.alloc (.cells #[.slice A l c] 35)) = Wzz := ⟨_, rfl⟩
  have B3 := Lib.hid (show Below w.heap.size w W1 by rw [← hW2]; exact ((Below.refl w.heap.size w).alloc (Nat.le_refl _) _))
  have X4 := Lib.hid (show Box W1 (w.heap.size) 35 #[.slice A l c] by rw [← hW2]; exact Box.made w 35 #[.slice A l c])
  have C5 := Lib.hid (HT.out.later B3.out)
  have SZ6 := Lib.hid (show W1.heap.size = w.heap.size + 1 by rw [← hW2]; simp)
  rw [hW2]
  clear hW2
  have q7 : W1.cell? ⟨w.heap.size, 0, none⟩ = some (.slice A l c) := X4.out.cell 0
  go_wp2_with fail
  refine (awake_c _).mono ?_; rintro e v8 ⟨rfl, hb9⟩
  have X10 := Lib.hid (X4.out.later hb9)
  have C11 := Lib.hid (C5.out.later hb9)
  have B12 := Lib.hid (B3.out.trans (hb9.mono B3.out.size))
  clear hb9
  clear q7
  have q13 : v8.cell? ⟨w.heap.size, 0, none⟩ = some (.slice A l c) := X10.out.cell 0
  go_wp2_with fail
  refine (short_c ms _ _ C11.out).mono ?_; rintro e v14 ⟨rfl, hb15⟩
  have X16 := Lib.hid (X10.out.later hb15)
  have C17 := Lib.hid (C11.out.later hb15)
  have B18 := Lib.hid (B12.out.trans (hb15.mono B12.out.size))
  clear hb15
  rw [HN.out]
  clear q13
  have q19 : v14.cell? ⟨w.heap.size, 0, none⟩ = some (.slice A l c) := X16.out.cell 0
  rcases Nat.lt_or_ge 100 l with hl | hl
  · have e1 : decide (l ≤ 100) = false := by simp; omega
    clear hl
    go_wp2_with fail
    go_ret
    exact ⟨rfl, B18.out⟩
  · have e1 : decide (l ≤ 100) = true := by simp; omega
    have HL := Lib.hid (show ms.length ≤ 100 by rw [HN.out]; exact hl)
    clear hl
    obtain ⟨se, hse9⟩ : ∃ X9, stE ms t = X9 := ⟨_, rfl⟩
    have HSE := Lib.hid hse9
    clear hse9
    obtain ⟨xs, hxs9⟩ : ∃ X9, nats (stV ms t) = X9 := ⟨_, rfl⟩
    have HXS := Lib.hid hxs9
    clear hxs9
    go_wp2_with fail
    refine (Stands_c ms t _ _ C17.out).mono ?_; rintro e v20 ⟨lv, rfl, hI, hb21⟩
    have X22 := Lib.hid (X16.out.later hb21)
    have C23 := Lib.hid (C17.out.later hb21)
    have B24 := Lib.hid (B18.out.trans (hb21.mono B18.out.size))
    clear hb21
    rw [HSE.out]
    rw [HXS.out] at hI
    have HI := Lib.hid hI
    clear hI
    clear q19
    have q25 : v20.cell? ⟨w.heap.size, 0, none⟩ = some (.slice A l c) := X22.out.cell 0
    by_cases hse : se = 0; rotate_left
    · have e1 : (se == 0) = false := by simpa using hse
      have e2 : decide (se = 0) = false := by simpa using hse
      obtain ⟨-, A2, c2, rfl, -, -⟩ := HI.out
      have HX0 := Lib.hid (show xs.length = 0 by rw [← HXS.out, st_bad (by rw [HSE.out]; exact hse)]; rfl)
      rw [HX0.out]
      clear hse
      go_wp2_with fail
      go_ret
      exact ⟨ret_bool (by simp), B24.out⟩
    · subst hse
      have HST := Lib.hid (st_zero HSE.out)
      obtain ⟨hfl, X, Y, h0, x0, x1, y0, y1, hm0, hm1, hx0, hx1⟩ := st_first HSE.out
      rw [HXS.out] at hx0 hx1
      have hlen : xs.length = 2 * l := by rw [← HXS.out, nats_len, hfl, HN.out]
      have hl0 : 0 < l := by rw [← HN.out]; exact h0
      obtain ⟨ht0, ht1⟩ := inB_iff.1 HST.out.2.1
      have HL16 := Lib.hid (show l ≤ 16 by rw [← HN.out]; exact (tr_facts HST.out.1).2.1)
      obtain ⟨-, A2, c2, rfl, hc2, hcell⟩ := HI.out
      obtain ⟨b2, off2, rfl, hb2, hcl⟩ := hcell (by omega)
      clear hcell
      have r0 := hcl 0 (by omega)
      have r1 := hcl 1 (by omega)
      rw [Nat.add_zero, hx0] at r0
      rw [hx1] at r1
      clear hcl
      obtain ⟨s9, hs9, A9, c9, hq9, hcap9, hcell9⟩ := C23.out
      obtain rfl : Value.slice A l c = s9 := by simpa using hs9
      rw [HN.out] at hq9 hcap9
      obtain ⟨rfl, rfl⟩ : A = A9 ∧ c = c9 := by simpa using hq9
      obtain ⟨b3, off3, rfl, hb3, hcl9⟩ := hcell9 h0
      clear hcell9
      have p0 := (hcl9 0 h0).1
      have p1 := (hcl9 0 h0).2.1
      rw [hm0, Nat.zero_mul, Nat.add_zero] at p0
      rw [hm1, Nat.zero_mul, Nat.add_zero] at p1
      clear hcl9 hs9 hq9
      rw [hlen] at HI ⊢
      have u1 : ((xs.length : Int)) = 2 * (l : Int) := by omega
      have X0 : (0 : Int) < (X : Int) := by omega
      have Y0 : (0 : Int) < (Y : Int) := by omega
      have z1 : decide ((X : Int) = 0) = false := by simp; omega
      have z2 : decide (X = 0) = false := by simp; omega
      have z3 : decide ((Y : Int) = 0) = false := by simp; omega
      have z4 : decide (Y = 0) = false := by simp; omega
      have wl : IntKind.i64.wrap (2 * (l : Int)) = 2 * (l : Int) := wrap_id (by omega) (by have := HL16.out; omega)
      have i0 : (0 : Int) < (l : Int) := by omega
      have n1 : ∀ z : Int, (z != z) = false := fun z => by simp
      have v1 : (((2 * l : Nat) : Int) != 2 * (l : Int)) = false := by simp
      
      go_wp2_with fail
      go_quiet (fail)
      obtain ⟨W26, hW27⟩ : ∃ Wzz, (v20).drewN nq = Wzz := ⟨_, rfl⟩
      have hb28 : Below (v20).heap.size (v20) W26 := by rw [← hW27]; exact below_drewN _ _
      have X29 := Lib.hid (X22.out.later hb28)
      have C30 := Lib.hid (C23.out.later hb28)
      have C31 := Lib.hid (HI.out.later hb28)
      have B32 := Lib.hid (B24.out.trans (hb28.mono B24.out.size))
      rw [hW27]
      clear hb28 hW27
      clear q25
      have q33 : W26.cell? ⟨w.heap.size, 0, none⟩ = some (.slice (some ⟨b3, off3, none⟩) l c) := X29.out.cell 0
      have HT01 := Lib.hid (And.intro ht0 ht1)
      clear r0 r1 p0 p1 u1 X0 Y0 z1 z2 z3 z4 wl i0 n1 v1 hx0 hx1 hm0 hm1 hb2 hb3 hcap9 hc2 hlen hl0 ht0 ht1 x0 x1 y0 y1 hfl
      obtain ⟨pe, hpe9⟩ : ∃ X9, prE ms = X9 := ⟨_, rfl⟩
      have HPE := Lib.hid hpe9
      clear hpe9
      obtain ⟨pv, hpv9⟩ : ∃ X9, prV ms = X9 := ⟨_, rfl⟩
      have HPV := Lib.hid hpv9
      clear hpv9
      go_wp2_with fail
      refine (Period_c ms _ _ C30.out).mono ?_; rintro e v34 ⟨rfl, hb35⟩
      have X36 := Lib.hid (X29.out.later hb35)
      have C37 := Lib.hid (C30.out.later hb35)
      have C38 := Lib.hid (C31.out.later hb35)
      have B39 := Lib.hid (B32.out.trans (hb35.mono B32.out.size))
      clear hb35
      rw [HPE.out, HPV.out]
      clear q33
      have q40 : v34.cell? ⟨w.heap.size, 0, none⟩ = some (.slice (some ⟨b3, off3, none⟩) l c) := X36.out.cell 0
      rcases pr_two HST.out.1 HST.out.2.2.1 with h2 | ⟨h2, h3, h4, -⟩
      · obtain rfl : pe = 2 := HPE.out.symm.trans h2
        clear h2
        go_wp2_with fail
        go_ret
        exact ⟨ret_bool (by simp), B39.out⟩
      · obtain rfl : pe = 0 := HPE.out.symm.trans h2
        rw [HPV.out] at h3 h4
        have HPB := Lib.hid (And.intro h3 h4)
        have wt : IntKind.i64.wrap (1000000 - t) = 1000000 - t := wrap_id (by have := HT01.out; omega) (by have := HT01.out; omega)
        clear h2 h3 h4
        by_cases hg : 1000000 - t < (pv : Int)
        · have e3 : decide (1000000 - t < (pv : Int)) = true := by simpa using hg
          clear hg
          go_wp2_with fail
          go_ret
          exact ⟨ret_bool (by simp), B39.out⟩
        · have e3 : decide (1000000 - t < (pv : Int)) = false := by simpa using hg
          have HAG := Lib.hid (st_again HSE.out HPE.out (by rw [HPV.out]; omega))
          rw [HPV.out] at HAG
          have wt2 : IntKind.i64.wrap (t + (pv : Int)) = t + (pv : Int) := wrap_id (by have := HT01.out; omega) (by have := HT01.out; omega)
          have f1 : decide ((1 : Int) ≤ (pv : Int)) = true := by have := HPB.out; simp; omega
          have f2 : decide (1 ≤ pv) = true := by have := HPB.out; simp; omega
          clear hg
          go_wp2_with fail
          refine (Stands_c ms (t + (pv : Int)) _ _ C37.out).mono ?_; rintro e v41 ⟨lv2, rfl, hI2, hb42⟩
          have X43 := Lib.hid (X36.out.later hb42)
          have C44 := Lib.hid (C37.out.later hb42)
          have C45 := Lib.hid (C38.out.later hb42)
          have B46 := Lib.hid (B39.out.trans (hb42.mono B39.out.size))
          clear hb42
          rw [HAG.out.1]
          rw [HAG.out.2, HXS.out] at hI2
          have HI2 := Lib.hid hI2
          clear hI2
          clear q40
          have q47 : v41.cell? ⟨w.heap.size, 0, none⟩ = some (.slice (some ⟨b3, off3, none⟩) l c) := X43.out.cell 0
          go_wp2_with fail
          refine (SameInts_b xs xs true (by simp) _ _ _ C45.out HI2.out).mono ?_; rintro e v48 ⟨rfl, hb49⟩
          have X50 := Lib.hid (X43.out.later hb49)
          have C51 := Lib.hid (C44.out.later hb49)
          have C52 := Lib.hid (C45.out.later hb49)
          have C53 := Lib.hid (HI2.out.later hb49)
          have B54 := Lib.hid (B46.out.trans (hb49.mono B46.out.size))
          clear hb49
          clear q47
          have q55 : v48.cell? ⟨w.heap.size, 0, none⟩ = some (.slice (some ⟨b3, off3, none⟩) l c) := X50.out.cell 0
          go_wp2_with fail
          go_ret
          exact ⟨ret_bool (by simp), B54.out⟩

end Go.Proofs.Ytmmfmanjajefcaa

/- Layer 7: the law on where wheels stand. -/
import Derived.Test.YtmmfmanjajefcaaGC
set_option linter.all false
namespace Go.Proofs.Ytmmfmanjajefcaa
open Go.RowKit

set_option maxRecDepth 100000 in
set_option maxHeartbeats 8000000 in
theorem GearsStands_c (ms : List Mh) (t : Int) (v : Value) (w : World) (h : IsTr w w.heap.size v ms) : Calls Try.prog 5 #[v, .int .i64 t] w fun e w' => e = .returned (.bool true) ∧ Below w.heap.size w w' := by
  have HT := Lib.hid h
  obtain ⟨sv, rfl, A, c, rfl, -, -⟩ := h
  obtain ⟨l, hn⟩ : ∃ n, ms.length = n := ⟨_, rfl⟩
  have HN := Lib.hid hn
  rw [hn] at HT ⊢
  clear hn
  go_enter Try.func5, Try.ntmps5
  go_wp2_with fail
  obtain ⟨W1, hW2⟩ : ∃ Wzz, (w.alloc (.cells #[.slice A l c] 35)) = Wzz := ⟨_, rfl⟩
  have B3 := Lib.hid (show Below w.heap.size w W1 by rw [← hW2]; exact ((Below.refl w.heap.size w).alloc (Nat.le_refl _) _))
  have X4 := Lib.hid (show Box W1 (w.heap.size) 35 #[.slice A l c] by rw [← hW2]; exact Box.made w 35 #[.slice A l c])
  have C5 := Lib.hid (HT.out.later B3.out)
  have SZ6 := Lib.hid (show W1.heap.size = w.heap.size + 1 by rw [← hW2]; simp)
  rw [hW2]
  clear hW2
  have q7 : W1.cell? ⟨w.heap.size, 0, none⟩ = some (.slice A l c) := X4.out.cell 0
  go_wp2_with fail
  refine (awake_c _).mono ?_; rintro e v8 ⟨rfl, hb9⟩
  have X10 := Lib.hid (X4.out.later hb9)
  have C11 := Lib.hid (C5.out.later hb9)
  have B12 := Lib.hid (B3.out.trans (hb9.mono B3.out.size))
  clear hb9
  clear q7
  have q13 : v8.cell? ⟨w.heap.size, 0, none⟩ = some (.slice A l c) := X10.out.cell 0
  go_wp2_with fail
  refine (short_c ms _ _ C11.out).mono ?_; rintro e v14 ⟨rfl, hb15⟩
  have X16 := Lib.hid (X10.out.later hb15)
  have C17 := Lib.hid (C11.out.later hb15)
  have B18 := Lib.hid (B12.out.trans (hb15.mono B12.out.size))
  clear hb15
  rw [HN.out]
  clear q13
  have q19 : v14.cell? ⟨w.heap.size, 0, none⟩ = some (.slice A l c) := X16.out.cell 0
  rcases Nat.lt_or_ge 100 l with hl | hl
  · have e1 : decide (l ≤ 100) = false := by simp; omega
    clear hl
    go_wp2_with fail
    go_ret
    exact ⟨rfl, B18.out⟩
  · have e1 : decide (l ≤ 100) = true := by simp; omega
    have HL := Lib.hid (show ms.length ≤ 100 by rw [HN.out]; exact hl)
    clear hl
    obtain ⟨xs, hxs9⟩ : ∃ X9, nats (stV ms t) = X9 := ⟨_, rfl⟩
    have HXS := Lib.hid hxs9
    clear hxs9
    obtain ⟨se, hse9⟩ : ∃ X9, stE ms t = X9 := ⟨_, rfl⟩
    have HSE := Lib.hid hse9
    clear hse9
    obtain ⟨pe, hpe9⟩ : ∃ X9, prE ms = X9 := ⟨_, rfl⟩
    have HPE := Lib.hid hpe9
    clear hpe9
    obtain ⟨pv, hpv9⟩ : ∃ X9, ((prV ms : Nat) : Int) = X9 := ⟨_, rfl⟩
    have HPV := Lib.hid hpv9
    clear hpv9
    go_wp2_with fail
    refine (Stands_c ms t _ _ C17.out).mono ?_; rintro e v20 ⟨lv, rfl, hI, hb21⟩
    have X22 := Lib.hid (X16.out.later hb21)
    have C23 := Lib.hid (C17.out.later hb21)
    have B24 := Lib.hid (B18.out.trans (hb21.mono B18.out.size))
    clear hb21
    rw [HSE.out]
    rw [HXS.out] at hI
    have HI := Lib.hid hI
    clear hI
    clear q19
    have q25 : v20.cell? ⟨w.heap.size, 0, none⟩ = some (.slice A l c) := X22.out.cell 0
    go_wp2_with fail
    refine (rStands_c ms t _ _ C23.out HL.out).mono ?_; rintro e v26 ⟨lv2, rfl, hI2, hb27⟩
    have X28 := Lib.hid (X22.out.later hb27)
    have C29 := Lib.hid (C23.out.later hb27)
    have C30 := Lib.hid (HI.out.later hb27)
    have B31 := Lib.hid (B24.out.trans (hb27.mono B24.out.size))
    clear hb27
    rw [HSE.out]
    rw [HXS.out] at hI2
    have HI2 := Lib.hid hI2
    clear hI2
    clear q25
    have q32 : v26.cell? ⟨w.heap.size, 0, none⟩ = some (.slice A l c) := X28.out.cell 0
    go_wp2_with fail
    refine (Period_c ms _ _ C29.out).mono ?_; rintro e v33 ⟨rfl, hb34⟩
    have X35 := Lib.hid (X28.out.later hb34)
    have C36 := Lib.hid (C29.out.later hb34)
    have C37 := Lib.hid (C30.out.later hb34)
    have C38 := Lib.hid (HI2.out.later hb34)
    have B39 := Lib.hid (B31.out.trans (hb34.mono B31.out.size))
    clear hb34
    rw [HPE.out, HPV.out]
    clear q32
    have q40 : v33.cell? ⟨w.heap.size, 0, none⟩ = some (.slice A l c) := X35.out.cell 0
    go_wp2_with fail
    refine (rPeriod_c ms _ _ C36.out HL.out).mono ?_; rintro e v41 ⟨rfl, hb42⟩
    have X43 := Lib.hid (X35.out.later hb42)
    have C44 := Lib.hid (C36.out.later hb42)
    have C45 := Lib.hid (C37.out.later hb42)
    have C46 := Lib.hid (C38.out.later hb42)
    have B47 := Lib.hid (B39.out.trans (hb42.mono B39.out.size))
    clear hb42
    rw [HPE.out, HPV.out]
    clear q40
    have q48 : v41.cell? ⟨w.heap.size, 0, none⟩ = some (.slice A l c) := X43.out.cell 0
    go_wp2_with fail
    refine (SameInts_b xs xs true (by simp) _ _ _ C45.out C46.out).mono ?_; rintro e v49 ⟨rfl, hb50⟩
    have X51 := Lib.hid (X43.out.later hb50)
    have C52 := Lib.hid (C44.out.later hb50)
    have C53 := Lib.hid (C45.out.later hb50)
    have C54 := Lib.hid (C46.out.later hb50)
    have B55 := Lib.hid (B47.out.trans (hb50.mono B47.out.size))
    clear hb50
    clear q48
    have q56 : v49.cell? ⟨w.heap.size, 0, none⟩ = some (.slice A l c) := X51.out.cell 0
    go_wp2_with fail
    go_ret
    exact ⟨ret_bool (by simp), B55.out⟩

end Go.Proofs.Ytmmfmanjajefcaa

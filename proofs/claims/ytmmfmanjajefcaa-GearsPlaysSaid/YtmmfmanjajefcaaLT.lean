/- Layer 7: where the wheels stand, as the specification has it. -/
import Derived.Test.YtmmfmanjajefcaaLS
set_option linter.all false
namespace Go.Proofs.Ytmmfmanjajefcaa
open Go.RowKit

def asE (ms : List Mh) (t : Int) : Int := if trB ms then (if inB t 0 1000000 then 0 else 1) else 70
set_option maxRecDepth 100000 in
set_option maxHeartbeats 4000000 in
theorem asked_c (ms : List Mh) (t : Int) (v : Value) (w : World) (h : IsTr w w.heap.size v ms) (hl : ms.length ≤ 100) : Calls Try.prog 74 #[v, .int .i64 t] w fun e w' => e = .returned (.int .i64 (asE ms t)) ∧ Below w.heap.size w w' := by
  have HT := Lib.hid h
  obtain ⟨s, rfl, A, c, rfl, hcap, hcell⟩ := h
  have HC := Lib.hid hcell
  obtain ⟨l, hn⟩ : ∃ n, ms.length = n := ⟨_, rfl⟩
  have HN := Lib.hid hn
  have HL := Lib.hid hl
  rw [hn] at HT ⊢
  clear hn hcell hcap hl
  go_enter Try.func74, Try.ntmps74
  go_wp2_with fail
  obtain ⟨W1, hW2⟩ : ∃ Wzz, (w.alloc (.cells #[.slice A l c] 35)) = Wzz := ⟨_, rfl⟩
  have B3 := Lib.hid (show Below w.heap.size w W1 by rw [← hW2]; exact ((Below.refl w.heap.size w).alloc (Nat.le_refl _) _))
  have X4 := Lib.hid (show Box W1 (w.heap.size) 35 #[.slice A l c] by rw [← hW2]; exact Box.made w 35 #[.slice A l c])
  have C5 := Lib.hid (HT.out.later B3.out)
  have SZ6 := Lib.hid (show W1.heap.size = w.heap.size + 1 by rw [← hW2]; simp)
  rw [hW2]
  clear hW2
  have q7 : W1.cell? ⟨w.heap.size, 0, none⟩ = some (.slice A l c) := X4.out.cell 0
  go_wp2_with fail
  refine (rValidTrain_c ms _ _ C5.out HL.out).mono ?_; rintro e v8 ⟨rfl, hb9⟩
  have X10 := Lib.hid (X4.out.later hb9)
  have C11 := Lib.hid (C5.out.later hb9)
  have B12 := Lib.hid (B3.out.trans (hb9.mono B3.out.size))
  clear hb9
  clear q7
  have q13 : v8.cell? ⟨w.heap.size, 0, none⟩ = some (.slice A l c) := X10.out.cell 0
  cases hv : trB ms
  · have HE := Lib.hid (show asE ms t = 70 by unfold asE; rw [hv]; rfl)
    clear hv
    go_wp2_with fail
    go_ret
    exact ⟨ret_int HE.out.symm, B12.out⟩
  · have HV := Lib.hid hv
    clear hv
    go_wp2_with fail
    refine (within_c t 0 1000000 _).mono ?_; rintro e v14 ⟨rfl, rfl⟩
    cases ht : inB t 0 1000000
    · have HE := Lib.hid (show asE ms t = 1 by unfold asE; rw [HV.out, ht]; rfl)
      clear ht
      go_wp2_with fail
      go_ret
      exact ⟨ret_int HE.out.symm, B12.out⟩
    · have HE := Lib.hid (show asE ms t = 0 by unfold asE; rw [HV.out, ht]; rfl)
      clear ht
      go_wp2_with fail
      go_ret
      exact ⟨ret_int HE.out.symm, B12.out⟩

theorem as_zero {ms : List Mh} {t : Int} (h : asE ms t = 0) : trB ms = true ∧ inB t 0 1000000 = true := by
  unfold asE at h
  cases hv : trB ms
  · rw [hv] at h; exact absurd (show (70 : Int) = 0 from h) (by decide)
  · cases ht : inB t 0 1000000
    · rw [hv, ht] at h; exact absurd (show (1 : Int) = 0 from h) (by decide)
    · exact ⟨rfl, rfl⟩
theorem as_st {ms : List Mh} {t : Int} (h : asE ms t ≠ 0) : stE ms t = asE ms t := by
  unfold asE at h ⊢
  unfold stE
  cases hv : trB ms
  · rfl
  · cases ht : inB t 0 1000000
    · rfl
    · rw [hv, ht] at h; exact absurd rfl h

set_option maxRecDepth 100000 in
set_option maxHeartbeats 4000000 in
theorem rStands_c (ms : List Mh) (t : Int) (v : Value) (w : World) (h : IsTr w w.heap.size v ms) (hl : ms.length ≤ 100) : Calls Try.prog 39 #[v, .int .i64 t] w (StPost w ms t) := by
  have HT := Lib.hid h
  obtain ⟨s, rfl, A, c, rfl, hcap, hcell⟩ := h
  have HC := Lib.hid hcell
  obtain ⟨l, hn⟩ : ∃ n, ms.length = n := ⟨_, rfl⟩
  have HN := Lib.hid hn
  have HL := Lib.hid hl
  rw [hn] at HT ⊢
  clear hn hcell hcap hl
  go_enter Try.func39, Try.ntmps39
  go_wp2_with fail
  obtain ⟨W15, hW16⟩ : ∃ Wzz, (w.alloc (.cells #[.slice A l c] 35)) = Wzz := ⟨_, rfl⟩
  have B17 := Lib.hid (show Below w.heap.size w W15 by rw [← hW16]; exact ((Below.refl w.heap.size w).alloc (Nat.le_refl _) _))
  have X18 := Lib.hid (show Box W15 (w.heap.size) 35 #[.slice A l c] by rw [← hW16]; exact Box.made w 35 #[.slice A l c])
  have C19 := Lib.hid (HT.out.later B17.out)
  have SZ20 := Lib.hid (show W15.heap.size = w.heap.size + 1 by rw [← hW16]; simp)
  rw [hW16]
  clear hW16
  have q21 : W15.cell? ⟨w.heap.size, 0, none⟩ = some (.slice A l c) := X18.out.cell 0
  go_wp2_with fail
  refine (asked_c ms t _ _ C19.out HL.out).mono ?_; rintro e v55 ⟨rfl, hb56⟩
  have X57 := Lib.hid (X18.out.later hb56)
  have C58 := Lib.hid (C19.out.later hb56)
  have B59 := Lib.hid (B17.out.trans (hb56.mono B17.out.size))
  clear hb56
  clear q21
  have q60 : v55.cell? ⟨w.heap.size, 0, none⟩ = some (.slice A l c) := X57.out.cell 0
  by_cases has : asE ms t ≠ 0
  · have e1 : (asE ms t != 0) = true := by simpa using has
    have HE := Lib.hid (as_st has)
    have HZ := Lib.hid (st_bad (ms := ms) (t := t) (by rw [HE.out]; exact has))
    clear has
    go_wp2_with fail
    go_ret2
    exact ⟨_, by rw [HE.out]; rfl, by rw [HZ.out]; exact ints_nil _ _, B59.out⟩
  · have has : asE ms t = 0 := Classical.not_not.1 has
    have e1 : (asE ms t != 0) = false := by rw [has]; rfl
    have HAS := Lib.hid (as_zero has)
    have HV := Lib.hid HAS.out.1
    have HFC := Lib.hid (tr_facts HV.out)
    have HL16 := Lib.hid (show l ≤ 16 by rw [← HN.out]; exact HFC.out.2.1)
    obtain ⟨T, rfl⟩ : ∃ T : Nat, t = (T : Int) := ⟨t.toNat, by have := inB_iff.1 HAS.out.2; omega⟩
    have HTT := Lib.hid (show T ≤ 1000000 by have := inB_iff.1 HAS.out.2; omega)
    clear has
    go_wp2_with fail
    go_loopw [7, 8] (fun lv kv wr => ∃ k : Nat, k ≤ l ∧ kv = .int .i64 (k : Int) ∧ (shOk ms k ∧ (0 < k → (trnR ms k).e = 0)) ∧ wr.ownsRow (w.heap.size + 1) 3 1 lv (2 * k) (ints (nats (stL ms T k))) ∧ IsTr wr wr.heap.size (.agg #[.slice A l c]) ms ∧ Box wr w.heap.size 35 #[.slice A l c] ∧ Below w.heap.size w wr) (fun _ kv _ => l - (intOf kv).toNat)
    case atStart => exact ⟨0, Nat.zero_le _, rfl, ⟨fun s h => by omega, fun h => by omega⟩, World.ownsRow_nil _ _ _ _, C58.out, X57.out, B59.out⟩
    case round =>
      obtain ⟨k, hk, rfl, hok, hown, htr, hbt, hbel⟩ := hrel
      have HOK := Lib.hid hok
      have HO := Lib.hid hown
      have Ht := Lib.hid htr
      have Xt := Lib.hid hbt
      have Bl := Lib.hid hbel
      clear hok hown htr hbt hbel
      have q22 : wr.cell? ⟨w.heap.size, 0, none⟩ = some (.slice A l c) := Xt.out.cell 0
      by_cases hlt : k < l
      · have hkf : k < ms.length := by rw [HN.out]; exact hlt
        have d1 : decide ((k : Int) < (l : Int)) = true := by simpa using hlt
        have d2 : decide (k < l) = true := by simpa using hlt
        have HLT := Lib.hid hlt
        have L16 : l ≤ 16 := HL16.out
        obtain ⟨r1, hr1⟩ : ∃ r, trnR ms k = r := ⟨_, rfl⟩
        obtain ⟨r2, hr2⟩ : ∃ r, trnR ms (k + 1) = r := ⟨_, rfl⟩
        have HC1 := Lib.hid (show ∀ W V, IsTr W W.heap.size V ms → Calls Try.prog 75 #[V, .int .i64 (k : Int)] W fun e w' => e = .returned (rrV r1) ∧ Below W.heap.size W w' from fun W V hW => by
          rw [← hr1]; exact rturns_c ms k V W hW HV.out (by omega))
        have HC2 := Lib.hid (show ∀ W V, IsTr W W.heap.size V ms → Calls Try.prog 75 #[V, .int .i64 ((k + 1 : Nat) : Int)] W fun e w' => e = .returned (rrV r2) ∧ Below W.heap.size W w' from fun W V hW => by
          rw [← hr2]; exact rturns_c ms (k + 1) V W hW HV.out (by omega))
        have HR1 := Lib.hid hr1
        have HR2 := Lib.hid hr2
        have wk : IntKind.i64.wrap ((k : Int) + 1) = ((k + 1 : Nat) : Int) := by rw [show (k : Int) + 1 = ((k + 1 : Nat) : Int) by simp]; exact wrap_id (by omega) (by omega)
        clear hr1 hr2 hkf hlt
        go_wp2_with fail
        refine (HC1.out _ _ Ht.out).mono ?_; rintro e v23 ⟨rfl, hb24⟩
        have HBZ := Lib.hid hb24
        have X25 := Lib.hid (Xt.out.later hb24)
        have C26 := Lib.hid (Ht.out.later hb24)
        have B27 := Lib.hid (Bl.out.trans (hb24.mono Bl.out.size))
        clear hb24
        have HO := Lib.hid (own_later HO.out HBZ.out)
        have HOLT := Lib.hid (show ∀ g, u7.ownBlock = some g → g < v23.heap.size from fun g hg => (HO.out.lt g hg).2)
        clear q22
        have q28 : v23.cell? ⟨w.heap.size, 0, none⟩ = some (.slice A l c) := X25.out.cell 0
        have X29 := Lib.hid (X25.out.alloc (.cells #[.int .i64 r1.n, .int .i64 r1.d] 23))
        have C30 := Lib.hid (C26.out.later ((Below.refl v23.heap.size v23).alloc (Nat.le_refl _) (.cells #[.int .i64 r1.n, .int .i64 r1.d] 23)))
        have B31 := Lib.hid (B27.out.alloc B27.out.size (.cells #[.int .i64 r1.n, .int .i64 r1.d] 23))
        have X32 := Lib.hid (Box.made v23 23 #[.int .i64 r1.n, .int .i64 r1.d])
        have q33 : (v23.alloc (.cells #[.int .i64 r1.n, .int .i64 r1.d] 23)).cell? ⟨w.heap.size, 0, none⟩ = some (.slice A l c) := X29.out.cell 0
        have q34 : (v23.alloc (.cells #[.int .i64 r1.n, .int .i64 r1.d] 23)).cell? ⟨v23.heap.size, 0, none⟩ = some (.int .i64 r1.n) := X32.out.cell 0
        have q35 : (v23.alloc (.cells #[.int .i64 r1.n, .int .i64 r1.d] 23)).cell? ⟨v23.heap.size, 1, none⟩ = some (.int .i64 r1.d) := X32.out.cell 1
        have HO := Lib.hid (HO.out.alloc (.cells #[.int .i64 r1.n, .int .i64 r1.d] 23))
        go_wp2_with fail
        refine (HC2.out _ _ C30.out).mono ?_; rintro e v36 ⟨rfl, hb37⟩
        have HBZ := Lib.hid hb37
        have X38 := Lib.hid (X29.out.later hb37)
        have X39 := Lib.hid (X32.out.later hb37)
        have C40 := Lib.hid (C30.out.later hb37)
        have B41 := Lib.hid (B31.out.trans (hb37.mono B31.out.size))
        clear hb37
        have HO := Lib.hid (own_later HO.out HBZ.out)
        have HOLT2 := Lib.hid X39.out.lt
        clear q33 q34 q35 q28
        have q42 : v36.cell? ⟨w.heap.size, 0, none⟩ = some (.slice A l c) := X38.out.cell 0
        have q43 : v36.cell? ⟨v23.heap.size, 0, none⟩ = some (.int .i64 r1.n) := X39.out.cell 0
        have q44 : v36.cell? ⟨v23.heap.size, 1, none⟩ = some (.int .i64 r1.d) := X39.out.cell 1
        have X45 := Lib.hid (X38.out.alloc (.cells #[.int .i64 r2.n, .int .i64 r2.d] 23))
        have X46 := Lib.hid (X39.out.alloc (.cells #[.int .i64 r2.n, .int .i64 r2.d] 23))
        have C47 := Lib.hid (C40.out.later ((Below.refl v36.heap.size v36).alloc (Nat.le_refl _) (.cells #[.int .i64 r2.n, .int .i64 r2.d] 23)))
        have B48 := Lib.hid (B41.out.alloc B41.out.size (.cells #[.int .i64 r2.n, .int .i64 r2.d] 23))
        have X49 := Lib.hid (Box.made v36 23 #[.int .i64 r2.n, .int .i64 r2.d])
        have q50 : (v36.alloc (.cells #[.int .i64 r2.n, .int .i64 r2.d] 23)).cell? ⟨w.heap.size, 0, none⟩ = some (.slice A l c) := X45.out.cell 0
        have q51 : (v36.alloc (.cells #[.int .i64 r2.n, .int .i64 r2.d] 23)).cell? ⟨v23.heap.size, 0, none⟩ = some (.int .i64 r1.n) := X46.out.cell 0
        have q52 : (v36.alloc (.cells #[.int .i64 r2.n, .int .i64 r2.d] 23)).cell? ⟨v23.heap.size, 1, none⟩ = some (.int .i64 r1.d) := X46.out.cell 1
        have q53 : (v36.alloc (.cells #[.int .i64 r2.n, .int .i64 r2.d] 23)).cell? ⟨v36.heap.size, 0, none⟩ = some (.int .i64 r2.n) := X49.out.cell 0
        have q54 : (v36.alloc (.cells #[.int .i64 r2.n, .int .i64 r2.d] 23)).cell? ⟨v36.heap.size, 1, none⟩ = some (.int .i64 r2.d) := X49.out.cell 1
        have HO := Lib.hid (HO.out.alloc (.cells #[.int .i64 r2.n, .int .i64 r2.d] 23))
        by_cases hz1 : r1.e ≠ 0
        · have e1 : (r1.e != 0) = true := by simpa using hz1
          have hno : ¬ shOk ms (l + 1) := fun h => hz1 (by rw [← HR1.out]; exact h k (by have := HLT.out; omega))
          clear hz1
          have HNO := Lib.hid hno
          have HE := Lib.hid (show stE ms (T : Int) = 2 by unfold stE; rw [HAS.out.1, HAS.out.2, HN.out, show shB ms (l + 1) = false by cases hs : shB ms (l + 1); rfl; exact absurd (shB_iff.1 hs) HNO.out]; rfl)
          have HZ := Lib.hid (st_bad (ms := ms) (t := (T : Int)) (by rw [HE.out]; decide))
          clear hno
          go_wp2_with fail
          go_ret2
          exact ⟨_, by rw [HE.out]; rfl, by rw [HZ.out]; exact ints_nil _ _, B48.out⟩
        · have hz1 : r1.e = 0 := Classical.not_not.1 hz1
          have e1 : (r1.e != 0) = false := by rw [hz1]; rfl
          by_cases hz2 : r2.e ≠ 0
          · have e2 : (r2.e != 0) = true := by simpa using hz2
            have hno : ¬ shOk ms (l + 1) := fun h => hz2 (by rw [← HR2.out]; exact h (k + 1) (by have := HLT.out; omega))
            clear hz1 hz2
            have HNO := Lib.hid hno
            have HE := Lib.hid (show stE ms (T : Int) = 2 by unfold stE; rw [HAS.out.1, HAS.out.2, HN.out, show shB ms (l + 1) = false by cases hs : shB ms (l + 1); rfl; exact absurd (shB_iff.1 hs) HNO.out]; rfl)
            have HZ := Lib.hid (st_bad (ms := ms) (t := (T : Int)) (by rw [HE.out]; decide))
            clear hno
            go_wp2_with fail
            go_ret2
            exact ⟨_, by rw [HE.out]; rfl, by rw [HZ.out]; exact ints_nil _ _, B48.out⟩
          · have hz2 : r2.e = 0 := Classical.not_not.1 hz2
            have e2 : (r2.e != 0) = false := by rw [hz2]; rfl
            have hok2 : shOk ms (k + 1) ∧ (trnR ms (k + 1)).e = 0 := ⟨fun s hs => by
              by_cases hsk : s = k
              · rw [hsk, HR1.out]; exact hz1
              · exact HOK.out.1 s (by omega), by rw [HR2.out]; exact hz2⟩
            have HOK2 := Lib.hid hok2
            have t1 := trn_two HV.out k
            have t2 := trn_two HV.out (k + 1)
            obtain ⟨n1, d1', hrr1, v1, hs1⟩ : ∃ n d : Nat, r1 = ⟨(n : Int), (d : Int), 0⟩ ∧ RtV n d ∧ shN ms k = (n, d) := by
              rcases t1 with ⟨h, -⟩ | ⟨-, h2, h3, -⟩
              · exact absurd (by rw [HR1.out]; exact hz1) h
              · exact ⟨_, _, by rw [← HR1.out]; exact h2, h3, rfl⟩
            obtain ⟨n2, d2', hrr2, v2, hs2⟩ : ∃ n d : Nat, r2 = ⟨(n : Int), (d : Int), 0⟩ ∧ RtV n d ∧ shN ms (k + 1) = (n, d) := by
              rcases t2 with ⟨h, -⟩ | ⟨-, h2, h3, -⟩
              · exact absurd (by rw [HR2.out]; exact hz2) h
              · exact ⟨_, _, by rw [← HR2.out]; exact h2, h3, rfl⟩
            subst hrr1
            subst hrr2
            have HV12 := Lib.hid (And.intro v1 v2)
            have hkf : k < ms.length := by rw [HN.out]; exact HLT.out
            have hcell := HC.out
            obtain ⟨gb, goff, hA, hbB, hcc⟩ := hcell (by omega)
            obtain ⟨y0, y1, y2⟩ := hcc k hkf
            have HM := Lib.hid (List.all_eq_true.1 HFC.out.2.2.1 _ (List.getElem_mem hkf))
            have HMF := Lib.hid (mfN_at hkf)
            obtain ⟨m, hm⟩ : ∃ m, ms[k] = m := ⟨_, rfl⟩
            rw [hm] at y0 y1 y2 HM HMF
            obtain ⟨x, y, z⟩ := m
            obtain ⟨X, Y, Z, rfl, rfl, rfl, x0, x1, yy0, yy1, z1⟩ := mesh_nat3 HM.out
            have HXY := Lib.hid (show (0 < X ∧ X ≤ 4096) ∧ (0 < Y ∧ Y ≤ 4096) from ⟨⟨x0, x1⟩, ⟨yy0, yy1⟩⟩)
            have HY0 := Lib.hid y0
            have HY1 := Lib.hid y1
            have HGB := Lib.hid hbB
            subst hA
            clear hcell hcc y0 y1 y2 hm x0 x1 yy0 yy1 z1 hbB hkf
            have HA := Lib.hid (show T * n1 * X / d1' % X = stA ms T k by unfold stA; rw [HMF.out, hs1]; rfl)
            have HB' := Lib.hid (show T * n2 * Y / d2' % Y = stB ms T k by unfold stB; rw [HMF.out, hs2]; rfl)
            have HSN := Lib.hid (show stL ms T (k + 1) = stL ms T k ++ [stA ms T k, stB ms T k] from rfl)
            obtain ⟨va, hva⟩ : ∃ x, stA ms T k = x := ⟨_, rfl⟩
            obtain ⟨vb, hvb⟩ : ∃ x, stB ms T k = x := ⟨_, rfl⟩
            rw [hva] at HA HSN
            rw [hvb] at HB' HSN
            clear hz1 hz2 hok2 t1 t2 v1 v2 hs1 hs2 hva hvb
            go_wp2_with fail
            obtain ⟨W5, hW5⟩ : ∃ Wzz, (v36.alloc (.cells #[.int .i64 (n2 : Int), .int .i64 (d2' : Int)] 23)) = Wzz := ⟨_, rfl⟩
            have X0 := X45.out
            have X1 := X46.out
            have X2 := X49.out
            have B5 := B48.out
            have O5 := HO.out
            have T5 := C47.out
            have LA := Lib.hid X46.out.lt
            rw [hW5] at X0 X1 X2 B5 O5 T5 ⊢
            have HX0 := Lib.hid X0
            have HX1 := Lib.hid X1
            have HX2 := Lib.hid X2
            have HB5 := Lib.hid B5
            have HO5 := Lib.hid O5
            have HT5 := Lib.hid T5
            have HLTO := Lib.hid O5.lt
            have HNE1 := Lib.hid (show ∀ g, u7.ownBlock = some g → g ≠ v23.heap.size from fun g hg => by have := HOLT.out g hg; omega)
            have HNE2 := Lib.hid (show ∀ g, u7.ownBlock = some g → g ≠ v36.heap.size from fun g hg => by have := HOLT.out g hg; have := HOLT2.out; omega)
            have HNE3 := Lib.hid (show ∀ g, u7.ownBlock = some g → g ≠ w.heap.size ∧ g ≠ gb from fun g hg => by have := (HLTO.out g hg).1; have := HGB.out; omega)
            have HGB5 := Lib.hid (show gb < W5.heap.size by have := HGB.out; have := B5.size; omega)
            have HQ0 := Lib.hid (keepd HY0.out B5 HGB.out)
            have HQ1 := Lib.hid (keepd HY1.out B5 HGB.out)
            have HZ5 := Lib.hid (show w.heap.size + 1 ≤ W5.heap.size from X0.lt)
            clear X0 X1 X2 B5 O5 T5 hW5
            refine rstands12_c X n1 d1' n2 d2' T k l c v23.heap.size w.heap.size gb v36.heap.size goff (w.heap.size + 1) (2 * k) va u7 (ints (nats (stL ms T k))) W5 _ _ _ _ _ _ _ _ _ _ _ _ _ _ _ _ _ _ _ _ _ _ _ _ _ _ _ _ _ _ _ _ _ _ _ _ _ _ _ _ _ _ _ _ _ _ _ _ _ _ _ _ _ _ _ _ _ _ _ _ _ _ _ _ _ _ ⟨HX1.out.cell 0, HX1.out.cell 1, HX1.out.lt, HX0.out.cell 0, HX0.out.lt, HQ0.out, HGB5.out⟩ ⟨HX2.out.cell 0, HX2.out.cell 1, HX2.out.lt, HNE2.out⟩ HO5.out HZ5.out ⟨HNE1.out, fun g hg => (HNE3.out g hg).1, fun g hg => (HNE3.out g hg).2⟩ (by omega) HLT.out (by omega) HXY.out.1 HV12.out.1 HTT.out HA.out ?_
            intro lv2 _ _ _ _ _ _ _ _ _ _ _ _ W6 hown6 hblk6 hb6 hS6
            have HO6 := Lib.hid hown6
            have HB6 := Lib.hid (show Below (w.heap.size + 1) W5 W6 from hb6 _ (Nat.le_refl _))
            have HX06 := Lib.hid (HX0.out.below HB6.out (Nat.lt_succ_self _))
            have HSZ6 := Lib.hid (show W5.heap.size ≤ W6.heap.size from hS6.2.2.2.2.2.2.2)
            have HC6 := Lib.hid (show W6.cell? ⟨v36.heap.size, 0, none⟩ = some (.int .i64 (n2 : Int)) ∧ W6.cell? ⟨v36.heap.size, 1, none⟩ = some (.int .i64 (d2' : Int)) ∧ v36.heap.size < W6.heap.size from ⟨hS6.2.2.2.2.1, hS6.2.2.2.2.2.1, Nat.lt_of_lt_of_le HX2.out.lt HSZ6.out⟩)
            have HN62 := Lib.hid (show ∀ g, lv2.ownBlock = some g → g ≠ v36.heap.size from fun g hg => by
              rcases hblk6 with e | e
              · exact HNE2.out g (e ▸ hg)
              · have := e g hg; have := HX2.out.lt; omega)
            have HN63 := Lib.hid (show ∀ g, lv2.ownBlock = some g → g ≠ w.heap.size ∧ g ≠ gb from fun g hg => by have := (HO6.out.lt g hg).1; have := HGB.out; omega)
            have HQ61 := Lib.hid (keepd HQ1.out HB6.out (by have := HGB.out; omega))
            have HTR6 := Lib.hid (HT.out.mono (HB5.out.trans (HB6.out.mono (Nat.le_succ _))) (Nat.le_trans HB5.out.size HSZ6.out))
            have HBel6 := Lib.hid (HB5.out.trans (HB6.out.mono (Nat.le_succ _)))
            clear hown6 hblk6 hb6 hS6
            go_wp2_with fail
            refine rstands13_c Y n2 d2' n2 d2' T k l c v36.heap.size w.heap.size gb v36.heap.size goff (w.heap.size + 1) (2 * k + 1) vb lv2 (ints (nats (stL ms T k)) ++ [.int .i64 (va : Int)]) W6 _ _ _ _ _ _ _ _ _ _ _ _ _ _ _ _ _ _ _ _ _ _ _ _ _ _ _ _ _ _ _ _ _ _ _ _ _ _ _ _ _ _ _ _ _ _ _ _ _ _ _ _ _ _ _ _ _ _ _ _ _ _ _ _ _ _ ⟨HC6.out.1, HC6.out.2.1, HC6.out.2.2, HX06.out.cell 0, HX06.out.lt, HQ61.out, Nat.lt_of_lt_of_le HGB5.out HSZ6.out⟩ ⟨HC6.out.1, HC6.out.2.1, HC6.out.2.2, HN62.out⟩ HO6.out (Nat.le_trans HZ5.out HSZ6.out) ⟨HN62.out, fun g hg => (HN63.out g hg).1, fun g hg => (HN63.out g hg).2⟩ (by omega) HLT.out (by omega) HXY.out.2 HV12.out.2 HTT.out HB'.out ?_
            intro lv3 _ _ _ _ _ _ _ _ _ _ _ _ W7 hown7 hblk7 hb7 hS7
            have HF7 := Lib.hid (show W7.ownsRow (w.heap.size + 1) 3 1 lv3 (2 * (k + 1)) (ints (nats (stL ms T (k + 1)))) by
              rw [HSN.out, show nats (stL ms T k ++ [va, vb]) = nats (stL ms T k) ++ [(va : Int)] ++ [(vb : Int)] by simp [nats], ints_snoc, ints_snoc]
              exact hown7)
            have HB7 := Lib.hid (show Below (w.heap.size + 1) W6 W7 from hb7 _ (Nat.le_refl _))
            have HX7 := Lib.hid (HX06.out.below HB7.out (Nat.lt_succ_self _))
            have HBel7 := Lib.hid (HBel6.out.trans (HB7.out.mono (Nat.le_succ _)))
            have HTR7 := Lib.hid (HT.out.mono HBel7.out HBel7.out.size)
            clear hown7 hblk7 hb7 hS7
            go_wp2_with fail
            go_roundw
            case rel => exact ⟨k + 1, by have := HLT.out; omega, by go_num, ⟨HOK2.out.1, fun _ => HOK2.out.2⟩, HF7.out, HTR7.out, HX7.out, HBel7.out⟩
            case measure => have := HLT.out; simp [intOf]; omega
      · obtain rfl : k = l := by omega
        have d1 : decide ((k : Int) < (k : Int)) = false := by simp
        have d2 : decide (k < k) = false := by simp
        have hl0 : 0 < k := by have := HFC.out.1; rw [HN.out] at this; omega
        have hall : shOk ms (k + 1) := fun s hs => by
          by_cases hsk : s = k
          · rw [hsk]; exact HOK.out.2 hl0
          · exact HOK.out.1 s (by omega)
        have HE := Lib.hid (show stE ms (T : Int) = 0 by unfold stE; rw [HAS.out.1, HAS.out.2, HN.out, shB_iff.2 hall]; rfl)
        have HZ := Lib.hid (show stV ms (T : Int) = stL ms T k by unfold stV; rw [HE.out, if_pos rfl, HN.out]; rfl)
        have HI := Lib.hid (own_ints (show OwnI wr (w.heap.size + 1) u7 (stL ms T k) by unfold OwnI; rw [stL_len]; exact HO.out) (by rw [stL_len]; have := HL16.out; omega))
        clear hl0 hall
        go_wp2_with fail
        go_ret2
        exact ⟨_, by rw [HE.out]; rfl, by rw [HZ.out]; exact HI.out, Bl.out⟩
    

end Go.Proofs.Ytmmfmanjajefcaa

/- Layer 2: which lists of moves are as they must be. -/
import Derived.Test.YtikfiallhmhicaaGreatC22
set_option linter.all false
namespace Go.Proofs.YtikfiallhmhicaaGreat
open Go.RowKit


theorem mvB_parts {a b : Int} {c : Bool} : mvB ⟨a, b, c⟩ = true ↔ ((-1 ≤ a ∧ a ≤ 1) ∧ -1 ≤ b ∧ b ≤ 1) := by
  unfold mvB; rw [Bool.and_eq_true, inB_iff, inB_iff]
theorem Moves.at {w : World} {B : Nat} {v : Value} {l : List Mv} (h : Moves w B v l) {k : Nat} (hk : k < l.length) :
    ∃ b off c, v = .slice (some ⟨b, off, none⟩) l.length c ∧ b < B ∧ w.cell? ⟨b, off + k * 3, none⟩ = some (.int .i64 (nthM l k).out) ∧ w.cell? ⟨b, off + k * 3 + 1, none⟩ = some (.int .i64 (nthM l k).side) ∧ w.cell? ⟨b, off + k * 3 + 2, none⟩ = some (.bool (nthM l k).cut) := by
  obtain ⟨h1, A, c, rfl, h2, h3⟩ := h
  obtain ⟨b, off, rfl, hlt, hc⟩ := h3 (by omega)
  exact ⟨b, off, c, rfl, hlt, hc k hk⟩
set_option maxRecDepth 100000 in
set_option maxHeartbeats 8000000 in
theorem validList_c (l : List Mv) (v : Value) (w : World) (h : Moves w w.heap.size v l) : Calls Tryz.prog 106 #[v] w fun e w' => e = .returned (.bool (listB l)) ∧ Below w.heap.size w w' := by
  obtain ⟨n, hn⟩ : ∃ n, l.length = n := ⟨_, rfl⟩
  have HN := Lib.hid hn
  have HM := Lib.hid h
  obtain ⟨hlen, A, c, rfl, hcap, -⟩ := h
  rw [hn] at HM hlen ⊢
  have HB := Lib.hid (show listB l = (inB (n : Int) 1 3 && okTo l n) by unfold listB; rw [hn])
  clear hcap hn
  by_cases hs : 1 ≤ n ∧ n ≤ 3
  · have e1 : decide ((n : Int) < 1) = false := by simp; omega
    have e1' : decide (n < 1) = false := by simp; omega
    have e2 : decide ((3 : Int) < (n : Int)) = false := by simp; omega
    have e2' : decide (3 < n) = false := by simp; omega
    have HI := Lib.hid (show inB (n : Int) 1 3 = true from inB_iff.2 ⟨by omega, by omega⟩)
    have hn1 : n ≤ 3 := hs.2
    clear hs
    go_enter Tryz.func106, Tryz.ntmps106
    go_wp2_with fail
    go_loopw [15] (fun i wr => ∃ k : Nat, k ≤ n ∧ i = .int .i64 (k : Int) ∧ okTo l k = true ∧ Below w.heap.size w wr) (fun i _ => n - (intOf i).toNat)
    case atStart => exact ⟨0, Nat.zero_le _, rfl, rfl, Below.refl _ _⟩
    case round =>
      obtain ⟨k, hk, rfl, hall, hbr⟩ := hrel
      have HALL := Lib.hid hall
      have HBR := Lib.hid hbr
      clear hall
      have HMR := Lib.hid (HM.out.mono hbr hbr.size)
      clear hbr
      by_cases hlt : k < n
      · have hdk : decide ((k : Int) < (n : Int)) = true := by simpa using hlt
        have i0 : (0 : Int) ≤ (k : Int) := Int.natCast_nonneg _
        have i1 : (k : Int) < (n : Int) := by omega
        have HA := Lib.hid (HM.out.at (k := k) (by rw [HN.out]; exact hlt))
        obtain ⟨b, off, c', hv, hbB, x1, x2, x3⟩ := HA.out
        rw [HN.out] at hv
        cases hv
        have y1 := keepd x1 HBR.out hbB
        have y2 := keepd x2 HBR.out hbB
        have y3 := keepd x3 HBR.out hbB
        clear x1 x2 x3 hbB HA
        obtain ⟨⟨p, q, r⟩, hm⟩ : ∃ m, nthM l k = m := ⟨_, rfl⟩
        have HK := Lib.hid hm
        rw [hm] at y1 y2 y3
        dsimp only at y1 y2 y3
        clear hm
        have HLT := Lib.hid hlt
        cases hmv : mvB ⟨p, q, r⟩
        · have HOK := Lib.hid (show okAt l k = false by unfold okAt; rw [HK.out, hmv]; rfl)
          have HF := Lib.hid (show listB l = false by rw [HB.out, okTo_false (k := k) (n := n) HOK.out HLT.out, Bool.and_false])
          have HB2 := Lib.hid (HBR.out.alloc HBR.out.size (.cells #[.int .i64 p, .int .i64 q, .bool r] 50))
          by_cases c1 : -1 ≤ p
          · by_cases c2 : p ≤ 1
            · by_cases c3 : -1 ≤ q
              · have c4 : ¬ q ≤ 1 := fun h => by rw [mvB_parts.2 ⟨⟨c1, c2⟩, c3, h⟩] at hmv; cases hmv
                have d1 : decide (p < -1) = false := by simp; omega
                have d2 : decide (1 < p) = false := by simp; omega
                have d3 : decide (q < -1) = false := by simp; omega
                have d4 : decide (1 < q) = true := by simp; omega
                clear hmv c1 c2 c3 c4
                go_wp2_with fail
                go_ret
                exact ⟨ret_bool HF.out.symm, HB2.out⟩
              · have d1 : decide (p < -1) = false := by simp; omega
                have d2 : decide (1 < p) = false := by simp; omega
                have d3 : decide (q < -1) = true := by simp; omega
                clear hmv c1 c2 c3
                go_wp2_with fail
                go_ret
                exact ⟨ret_bool HF.out.symm, HB2.out⟩
            · have d1 : decide (p < -1) = false := by simp; omega
              have d2 : decide (1 < p) = true := by simp; omega
              clear hmv c1 c2
              go_wp2_with fail
              go_ret
              exact ⟨ret_bool HF.out.symm, HB2.out⟩
          · have d1 : decide (p < -1) = true := by simp; omega
            clear hmv c1
            go_wp2_with fail
            go_ret
            exact ⟨ret_bool HF.out.symm, HB2.out⟩
        · obtain ⟨⟨c1, c2⟩, c3, c4⟩ := mvB_parts.1 hmv
          have HMV := Lib.hid hmv
          have d1 : decide (p < -1) = false := by simp; omega
          have d2 : decide (1 < p) = false := by simp; omega
          have d3 : decide (q < -1) = false := by simp; omega
          have d4 : decide (1 < q) = false := by simp; omega
          clear hmv c1 c2 c3 c4 hlt
          go_wp2_with fail
          obtain ⟨W1, hW2⟩ : ∃ Wzz, wr.alloc (.cells #[.int .i64 p, .int .i64 q, .bool r] 50) = Wzz := ⟨_, rfl⟩
          have t3 := HMR.out.later ((Below.refl wr.heap.size wr).alloc (Nat.le_refl _) (.cells #[.int .i64 p, .int .i64 q, .bool r] 50))
          rw [hW2] at t3
          have C4 := Lib.hid t3
          clear t3
          have t5 := HBR.out.alloc HBR.out.size (.cells #[.int .i64 p, .int .i64 q, .bool r] 50)
          rw [hW2] at t5
          have B6 := Lib.hid t5
          clear t5
          have X7 := Lib.hid (show Box W1 wr.heap.size 50 #[.int .i64 p, .int .i64 q, .bool r] by rw [← hW2]; exact Box.made wr _ _)
          rw [hW2]
          clear hW2
          have q8 : W1.cell? ⟨wr.heap.size, 0, none⟩ = some (.int .i64 p) := X7.out.cell 0
          have q9 : W1.cell? ⟨wr.heap.size, 1, none⟩ = some (.int .i64 q) := X7.out.cell 1
          have q10 : W1.cell? ⟨wr.heap.size, 2, none⟩ = some (.bool r) := X7.out.cell 2
          clear d1 d2 d3 d4 y1 y2 y3
          rcases Nat.eq_zero_or_pos k with rfl | hk0
          · have e3 : decide ((0 : Int) < ((0 : Nat) : Int)) = false := by simp
            have e4 : decide (0 < 0) = false := by simp
            have hdr17 : Below (W1).heap.size (W1) (W1).drew := (Below.refl _ _).drew
            have lt14 := X7.out.lt
            have lt15 := X7.out.lt
            have lt16 := X7.out.lt
            have hcall18 : ∀ X Y : World, (fun Wz => Wz.cell? ⟨wr.heap.size, 0, none⟩ = some (.int .i64 p) ∧ Wz.cell? ⟨wr.heap.size, 1, none⟩ = some (.int .i64 q) ∧ Wz.cell? ⟨wr.heap.size, 2, none⟩ = some (.bool r) ∧ (W1).heap.size ≤ Wz.heap.size) X → Below X.heap.size X Y → (fun Wz => Wz.cell? ⟨wr.heap.size, 0, none⟩ = some (.int .i64 p) ∧ Wz.cell? ⟨wr.heap.size, 1, none⟩ = some (.int .i64 q) ∧ Wz.cell? ⟨wr.heap.size, 2, none⟩ = some (.bool r) ∧ (W1).heap.size ≤ Wz.heap.size) Y := by
              rintro X Y ⟨z11, z12, z13, xs⟩ hb
              have hb2 := Below.mono (B' := (W1).heap.size) hb xs
              exact ⟨keepd z11 hb2 lt14, keepd z12 hb2 lt15, keepd z13 hb2 lt16, Nat.le_trans xs hb.size⟩
            have hini19 : (fun Wz => Wz.cell? ⟨wr.heap.size, 0, none⟩ = some (.int .i64 p) ∧ Wz.cell? ⟨wr.heap.size, 1, none⟩ = some (.int .i64 q) ∧ Wz.cell? ⟨wr.heap.size, 2, none⟩ = some (.bool r) ∧ (W1).heap.size ≤ Wz.heap.size) (W1).drew := ⟨keepd (X7.out.cell 0) hdr17 lt14, keepd (X7.out.cell 1) hdr17 lt15, keepd (X7.out.cell 2) hdr17 lt16, Nat.le_refl _⟩
            have Hcall18 := Lib.hid hcall18
            have Hini19 := Lib.hid hini19
            clear hcall18 hini19 lt14 lt15 lt16
            clear q8 q9 q10
            refine wp_region_noPanic ?_
            refine wp_region_held_drew (S := (fun Wz => Wz.cell? ⟨wr.heap.size, 0, none⟩ = some (.int .i64 p) ∧ Wz.cell? ⟨wr.heap.size, 1, none⟩ = some (.int .i64 q) ∧ Wz.cell? ⟨wr.heap.size, 2, none⟩ = some (.bool r) ∧ (W1).heap.size ≤ Wz.heap.size)) (by kernel_rfl) Hini19.out (fun hHeld => ?_)
            obtain ⟨W21, hW22⟩ : ∃ Wzz, (W1).drew = Wzz := ⟨_, rfl⟩
            rw [hW22] at hHeld hdr17 ⊢
            clear hW22
            have X23 := Lib.hid (X7.out.later hdr17)
            have C24 := Lib.hid (C4.out.later hdr17)
            have B25 := Lib.hid (B6.out.trans (hdr17.mono B6.out.size))
            clear hdr17
            refine wpAnyH_take (i := 0) (oi := { dst := some 38, op := Op.move (Operand.tmp 3), type := 3, pos := "chart.go:70", after := #[], guard := none }) (v := ?vh26) rfl ?hsh26 ?hfh26 ?hrh26 ?hQh26 ?hyh26 (by assumption) ?resth26
            case hsh26 => kernel_rfl
            case hfh26 => kernel_rfl
            case hrh26 => kernel_rfl
            case hQh26 => exact fun _ _ _ h => h
            case hyh26 => (refine Or.inl ⟨by rfl, ?_⟩; intro w hSw; (try dsimp only at hSw); go_simp; try with_reducible rfl)
            try simp only [Act.put, List.setIfInBounds_toArray, List.set_cons_zero, List.set_cons_succ]
            refine wpAnyH_take (i := 1) (oi := { dst := some 39, op := Op.binOp BinOp.gtr 3 (Operand.tmp 38) (Operand.const (Value.int IntKind.i64 0)) 3, type := 4, pos := "chart.go:70", after := #[{ on := 0, ground := Ground.data }], guard := none }) (v := ?vh27) rfl ?hsh27 ?hfh27 ?hrh27 ?hQh27 ?hyh27 (by assumption) ?resth27
            case hsh27 => kernel_rfl
            case hfh27 => kernel_rfl
            case hrh27 => kernel_rfl
            case hQh27 => exact fun _ _ _ h => h
            case hyh27 => (refine Or.inl ⟨by rfl, ?_⟩; intro w hSw; (try dsimp only at hSw); go_simp; try with_reducible rfl)
            try simp only [Act.put, List.setIfInBounds_toArray, List.set_cons_zero, List.set_cons_succ]
            refine wpAnyH_take (i := 2) (oi := { dst := some 40, op := Op.move (Operand.tmp 39), type := 4, pos := "chart.go:70", after := #[{ on := 1, ground := Ground.data }], guard := none }) (v := ?vh28) rfl ?hsh28 ?hfh28 ?hrh28 ?hQh28 ?hyh28 (by assumption) ?resth28
            case hsh28 => kernel_rfl
            case hfh28 => kernel_rfl
            case hrh28 => kernel_rfl
            case hQh28 => exact fun _ _ _ h => h
            case hyh28 => (refine Or.inl ⟨by rfl, ?_⟩; intro w hSw; (try dsimp only at hSw); go_simp; try with_reducible rfl)
            try simp only [Act.put, List.setIfInBounds_toArray, List.set_cons_zero, List.set_cons_succ]
            refine wpAnyH_take (i := 3) (oi := { dst := some 41, op := Op.move (Operand.tmp 0), type := 51, pos := "chart.go:70", after := #[{ on := 2, ground := Ground.guard }], guard := some (2, true) }) (v := undef) rfl ?hsh29 ?hfh29 ?hrh29 ?hQh29 ?hyh29 (by assumption) ?resth29
            case hsh29 => kernel_rfl
            case hfh29 => kernel_rfl
            case hrh29 => kernel_rfl
            case hQh29 => exact fun _ _ _ h => h
            case hyh29 => exact Or.inr ⟨by rfl, rfl⟩
            try simp only [Act.put, List.setIfInBounds_toArray, List.set_cons_zero, List.set_cons_succ]
            refine wpAnyH_take (i := 4) (oi := { dst := some 42, op := Op.move (Operand.tmp 3), type := 3, pos := "chart.go:70", after := #[{ on := 2, ground := Ground.guard }], guard := some (2, true) }) (v := undef) rfl ?hsh30 ?hfh30 ?hrh30 ?hQh30 ?hyh30 (by assumption) ?resth30
            case hsh30 => kernel_rfl
            case hfh30 => kernel_rfl
            case hrh30 => kernel_rfl
            case hQh30 => exact fun _ _ _ h => h
            case hyh30 => exact Or.inr ⟨by rfl, rfl⟩
            try simp only [Act.put, List.setIfInBounds_toArray, List.set_cons_zero, List.set_cons_succ]
            refine wpAnyH_take (i := 5) (oi := { dst := some 43, op := Op.binOp BinOp.sub 3 (Operand.tmp 42) (Operand.const (Value.int IntKind.i64 1)) 3, type := 3, pos := "chart.go:70", after := #[{ on := 4, ground := Ground.data }, { on := 2, ground := Ground.guard }], guard := some (2, true) }) (v := undef) rfl ?hsh31 ?hfh31 ?hrh31 ?hQh31 ?hyh31 (by assumption) ?resth31
            case hsh31 => kernel_rfl
            case hfh31 => kernel_rfl
            case hrh31 => kernel_rfl
            case hQh31 => exact fun _ _ _ h => h
            case hyh31 => exact Or.inr ⟨by rfl, rfl⟩
            try simp only [Act.put, List.setIfInBounds_toArray, List.set_cons_zero, List.set_cons_succ]
            refine wpAnyH_take (i := 6) (oi := { dst := some 44, op := Op.indexAddr 51 (Operand.tmp 41) (Operand.tmp 43), type := 0, pos := "chart.go:70", after := #[{ on := 3, ground := Ground.data }, { on := 5, ground := Ground.data }, { on := 2, ground := Ground.guard }], guard := some (2, true) }) (v := undef) rfl ?hsh32 ?hfh32 ?hrh32 ?hQh32 ?hyh32 (by assumption) ?resth32
            case hsh32 => kernel_rfl
            case hfh32 => kernel_rfl
            case hrh32 => kernel_rfl
            case hQh32 => exact fun _ _ _ h => h
            case hyh32 => exact Or.inr ⟨by rfl, rfl⟩
            try simp only [Act.put, List.setIfInBounds_toArray, List.set_cons_zero, List.set_cons_succ]
            refine wpAnyH_take (i := 7) (oi := { dst := some 45, op := Op.load 50 (Operand.tmp 44), type := 50, pos := "chart.go:70", after := #[{ on := 6, ground := Ground.data }, { on := 2, ground := Ground.guard }], guard := some (2, true) }) (v := undef) rfl ?hsh33 ?hfh33 ?hrh33 ?hQh33 ?hyh33 (by assumption) ?resth33
            case hsh33 => kernel_rfl
            case hfh33 => kernel_rfl
            case hrh33 => kernel_rfl
            case hQh33 => exact fun _ _ _ h => h
            case hyh33 => exact Or.inr ⟨by rfl, rfl⟩
            try simp only [Act.put, List.setIfInBounds_toArray, List.set_cons_zero, List.set_cons_succ]
            refine wpAnyH_take (i := 8) (oi := { dst := some 46, op := Op.load 50 (Operand.tmp 4), type := 50, pos := "chart.go:70", after := #[{ on := 2, ground := Ground.guard }], guard := some (2, true) }) (v := undef) rfl ?hsh34 ?hfh34 ?hrh34 ?hQh34 ?hyh34 (by assumption) ?resth34
            case hsh34 => kernel_rfl
            case hfh34 => kernel_rfl
            case hrh34 => kernel_rfl
            case hQh34 => exact fun _ _ _ h => h
            case hyh34 => exact Or.inr ⟨by rfl, rfl⟩
            try simp only [Act.put, List.setIfInBounds_toArray, List.set_cons_zero, List.set_cons_succ]
            refine wpAnyH_take (i := 9) (oi := { dst := some 47, op := Op.call { callee := Callee.value (Operand.func 113), args := #[Operand.tmp 45, Operand.tmp 46], argTypes := #[50, 50] }, type := 3, pos := "chart.go:70", after := #[{ on := 7, ground := Ground.data }, { on := 8, ground := Ground.data }, { on := 2, ground := Ground.chain }, { on := 2, ground := Ground.guard }], guard := some (2, true) }) (v := undef) rfl ?hsh35 ?hfh35 ?hrh35 ?hQh35 ?hyh35 (by assumption) ?resth35
            case hsh35 => kernel_rfl
            case hfh35 => kernel_rfl
            case hrh35 => kernel_rfl
            case hQh35 => exact fun _ _ _ h => h
            case hyh35 => exact Or.inr ⟨by rfl, rfl⟩
            try simp only [Act.put, List.setIfInBounds_toArray, List.set_cons_zero, List.set_cons_succ]
            refine wpAnyH_take (i := 10) (oi := { dst := some 48, op := Op.binOp BinOp.geq 3 (Operand.tmp 47) (Operand.const (Value.int IntKind.i64 0)) 3, type := 4, pos := "chart.go:70", after := #[{ on := 9, ground := Ground.data }, { on := 2, ground := Ground.guard }], guard := some (2, true) }) (v := undef) rfl ?hsh36 ?hfh36 ?hrh36 ?hQh36 ?hyh36 (by assumption) ?resth36
            case hsh36 => kernel_rfl
            case hfh36 => kernel_rfl
            case hrh36 => kernel_rfl
            case hQh36 => exact fun _ _ _ h => h
            case hyh36 => exact Or.inr ⟨by rfl, rfl⟩
            try simp only [Act.put, List.setIfInBounds_toArray, List.set_cons_zero, List.set_cons_succ]
            refine wpAnyH_take (i := 11) (oi := { dst := some 49, op := Op.pick (Operand.tmp 40) (Operand.tmp 48) (Operand.const (Value.bool false)), type := 4, pos := "chart.go:70", after := #[{ on := 2, ground := Ground.data }, { on := 10, ground := Ground.data }], guard := none }) (v := ?vh37) rfl ?hsh37 ?hfh37 ?hrh37 ?hQh37 ?hyh37 (by assumption) ?resth37
            case hsh37 => kernel_rfl
            case hfh37 => kernel_rfl
            case hrh37 => kernel_rfl
            case hQh37 => exact fun _ _ _ h => h
            case hyh37 => (refine Or.inl ⟨by rfl, ?_⟩; intro w hSw; (try dsimp only at hSw); go_simp; try with_reducible rfl)
            try simp only [Act.put, List.setIfInBounds_toArray, List.set_cons_zero, List.set_cons_succ]
            refine wpAnyH_done (by kernel_rfl) ?_ _
            refine NoPanic.normal ?_
            clear hHeld Hcall18 Hini19
            have q38 : W21.cell? ⟨wr.heap.size, 0, none⟩ = some (.int .i64 p) := X23.out.cell 0
            have q39 : W21.cell? ⟨wr.heap.size, 1, none⟩ = some (.int .i64 q) := X23.out.cell 1
            have q40 : W21.cell? ⟨wr.heap.size, 2, none⟩ = some (.bool r) := X23.out.cell 2
            have HOK := Lib.hid (show okAt l 0 = true by unfold okAt; rw [HK.out, HMV.out]; simp)
            go_wp2_with fail
            go_roundw
            case rel => exact ⟨0 + 1, by have := HLT.out; omega, by go_num, by rw [okTo, HALL.out, HOK.out]; rfl, B25.out⟩
            case measure => have := HLT.out; simp [intOf]; omega
          · obtain ⟨j, rfl⟩ : ∃ j, k = j + 1 := ⟨k - 1, by omega⟩
            obtain ⟨kk, hkk⟩ : ∃ kk : Nat, j + 1 = kk := ⟨_, rfl⟩
            have HKJ := Lib.hid hkk
            obtain ⟨b', off', c'', hv, hbB, x1, x2, x3⟩ := C4.out.at (k := j) (by rw [HN.out]; have := HLT.out; omega)
            rw [HN.out] at hv
            cases hv
            obtain ⟨⟨a0, a1, a2⟩, hm0⟩ : ∃ m, nthM l j = m := ⟨_, rfl⟩
            have HJ := Lib.hid hm0
            rw [hm0] at x1 x2 x3
            dsimp only at x1 x2 x3
            obtain ⟨z, hz⟩ : ∃ z, cmpM ⟨a0, a1, a2⟩ ⟨p, q, r⟩ = z := ⟨_, rfl⟩
            have HZ := Lib.hid hz
            have hdz : decide (0 ≤ z) = !bfB ⟨a0, a1, a2⟩ ⟨p, q, r⟩ := by rw [← hz]; exact cmpM_dec _ _
            clear hm0 hz
            rw [hkk] at HK HALL HLT hk0 hk i0 i1 hdk ⊢
            have HKI := Lib.hid (show (j : Int) + 1 = (kk : Int) by omega)
            have wk : IntKind.i64.wrap ((kk : Int) - 1) = (j : Int) := by rw [← HKI.out, show (j : Int) + 1 - 1 = (j : Int) by omega]; exact wrap_id (by omega) (by have := HLT.out; have := hn1; omega)
            have e3 : decide ((0 : Int) < (kk : Int)) = true := by simp; omega
            have e4 : decide (0 < kk) = true := by simp; omega
            have j0 : (0 : Int) ≤ (j : Int) := Int.natCast_nonneg _
            have j1 : (j : Int) < (n : Int) := by have := HLT.out; omega
            clear hkk hk0
            have hdr53 : Below (W1).heap.size (W1) (W1).drew := (Below.refl _ _).drew
            have lt47 := X7.out.lt
            have lt48 := X7.out.lt
            have lt49 := X7.out.lt
            have lt50 := hbB
            have lt51 := hbB
            have lt52 := hbB
            have hcall54 : ∀ X Y : World, (fun Wz => Wz.cell? ⟨wr.heap.size, 0, none⟩ = some (.int .i64 p) ∧ Wz.cell? ⟨wr.heap.size, 1, none⟩ = some (.int .i64 q) ∧ Wz.cell? ⟨wr.heap.size, 2, none⟩ = some (.bool r) ∧ Wz.cell? ⟨b, off + j * 3, none⟩ = some (.int .i64 a0) ∧ Wz.cell? ⟨b, off + j * 3 + 1, none⟩ = some (.int .i64 a1) ∧ Wz.cell? ⟨b, off + j * 3 + 2, none⟩ = some (.bool a2) ∧ (W1).heap.size ≤ Wz.heap.size) X → Below X.heap.size X Y → (fun Wz => Wz.cell? ⟨wr.heap.size, 0, none⟩ = some (.int .i64 p) ∧ Wz.cell? ⟨wr.heap.size, 1, none⟩ = some (.int .i64 q) ∧ Wz.cell? ⟨wr.heap.size, 2, none⟩ = some (.bool r) ∧ Wz.cell? ⟨b, off + j * 3, none⟩ = some (.int .i64 a0) ∧ Wz.cell? ⟨b, off + j * 3 + 1, none⟩ = some (.int .i64 a1) ∧ Wz.cell? ⟨b, off + j * 3 + 2, none⟩ = some (.bool a2) ∧ (W1).heap.size ≤ Wz.heap.size) Y := by
              rintro X Y ⟨z41, z42, z43, z44, z45, z46, xs⟩ hb
              have hb2 := Below.mono (B' := (W1).heap.size) hb xs
              exact ⟨keepd z41 hb2 lt47, keepd z42 hb2 lt48, keepd z43 hb2 lt49, keepd z44 hb2 lt50, keepd z45 hb2 lt51, keepd z46 hb2 lt52, Nat.le_trans xs hb.size⟩
            have hini55 : (fun Wz => Wz.cell? ⟨wr.heap.size, 0, none⟩ = some (.int .i64 p) ∧ Wz.cell? ⟨wr.heap.size, 1, none⟩ = some (.int .i64 q) ∧ Wz.cell? ⟨wr.heap.size, 2, none⟩ = some (.bool r) ∧ Wz.cell? ⟨b, off + j * 3, none⟩ = some (.int .i64 a0) ∧ Wz.cell? ⟨b, off + j * 3 + 1, none⟩ = some (.int .i64 a1) ∧ Wz.cell? ⟨b, off + j * 3 + 2, none⟩ = some (.bool a2) ∧ (W1).heap.size ≤ Wz.heap.size) (W1).drew := ⟨keepd (X7.out.cell 0) hdr53 lt47, keepd (X7.out.cell 1) hdr53 lt48, keepd (X7.out.cell 2) hdr53 lt49, keepd (x1) hdr53 lt50, keepd (x2) hdr53 lt51, keepd (x3) hdr53 lt52, Nat.le_refl _⟩
            have Hcall54 := Lib.hid hcall54
            have Hini55 := Lib.hid hini55
            clear hcall54 hini55 lt47 lt48 lt49 lt50 lt51 lt52
            clear q8 q9 q10
            refine wp_region_noPanic ?_
            refine wp_region_held_drew (S := (fun Wz => Wz.cell? ⟨wr.heap.size, 0, none⟩ = some (.int .i64 p) ∧ Wz.cell? ⟨wr.heap.size, 1, none⟩ = some (.int .i64 q) ∧ Wz.cell? ⟨wr.heap.size, 2, none⟩ = some (.bool r) ∧ Wz.cell? ⟨b, off + j * 3, none⟩ = some (.int .i64 a0) ∧ Wz.cell? ⟨b, off + j * 3 + 1, none⟩ = some (.int .i64 a1) ∧ Wz.cell? ⟨b, off + j * 3 + 2, none⟩ = some (.bool a2) ∧ (W1).heap.size ≤ Wz.heap.size)) (by kernel_rfl) Hini55.out (fun hHeld => ?_)
            obtain ⟨W57, hW58⟩ : ∃ Wzz, (W1).drew = Wzz := ⟨_, rfl⟩
            rw [hW58] at hHeld hdr53 ⊢
            clear hW58
            have X59 := Lib.hid (X7.out.later hdr53)
            have C60 := Lib.hid (C4.out.later hdr53)
            have B61 := Lib.hid (B6.out.trans (hdr53.mono B6.out.size))
            clear hdr53
            refine wpAnyH_take (i := 0) (oi := { dst := some 38, op := Op.move (Operand.tmp 3), type := 3, pos := "chart.go:70", after := #[], guard := none }) (v := ?vh62) rfl ?hsh62 ?hfh62 ?hrh62 ?hQh62 ?hyh62 (by assumption) ?resth62
            case hsh62 => kernel_rfl
            case hfh62 => kernel_rfl
            case hrh62 => kernel_rfl
            case hQh62 => exact fun _ _ _ h => h
            case hyh62 => (refine Or.inl ⟨by rfl, ?_⟩; intro w hSw; (try dsimp only at hSw); go_simp; try with_reducible rfl)
            try simp only [Act.put, List.setIfInBounds_toArray, List.set_cons_zero, List.set_cons_succ]
            refine wpAnyH_take (i := 1) (oi := { dst := some 39, op := Op.binOp BinOp.gtr 3 (Operand.tmp 38) (Operand.const (Value.int IntKind.i64 0)) 3, type := 4, pos := "chart.go:70", after := #[{ on := 0, ground := Ground.data }], guard := none }) (v := ?vh63) rfl ?hsh63 ?hfh63 ?hrh63 ?hQh63 ?hyh63 (by assumption) ?resth63
            case hsh63 => kernel_rfl
            case hfh63 => kernel_rfl
            case hrh63 => kernel_rfl
            case hQh63 => exact fun _ _ _ h => h
            case hyh63 => (refine Or.inl ⟨by rfl, ?_⟩; intro w hSw; (try dsimp only at hSw); go_simp; try with_reducible rfl)
            try simp only [Act.put, List.setIfInBounds_toArray, List.set_cons_zero, List.set_cons_succ]
            refine wpAnyH_take (i := 2) (oi := { dst := some 40, op := Op.move (Operand.tmp 39), type := 4, pos := "chart.go:70", after := #[{ on := 1, ground := Ground.data }], guard := none }) (v := ?vh64) rfl ?hsh64 ?hfh64 ?hrh64 ?hQh64 ?hyh64 (by assumption) ?resth64
            case hsh64 => kernel_rfl
            case hfh64 => kernel_rfl
            case hrh64 => kernel_rfl
            case hQh64 => exact fun _ _ _ h => h
            case hyh64 => (refine Or.inl ⟨by rfl, ?_⟩; intro w hSw; (try dsimp only at hSw); go_simp; try with_reducible rfl)
            try simp only [Act.put, List.setIfInBounds_toArray, List.set_cons_zero, List.set_cons_succ]
            refine wpAnyH_take (i := 3) (oi := { dst := some 41, op := Op.move (Operand.tmp 0), type := 51, pos := "chart.go:70", after := #[{ on := 2, ground := Ground.guard }], guard := some (2, true) }) (v := ?vh65) rfl ?hsh65 ?hfh65 ?hrh65 ?hQh65 ?hyh65 (by assumption) ?resth65
            case hsh65 => kernel_rfl
            case hfh65 => kernel_rfl
            case hrh65 => kernel_rfl
            case hQh65 => exact fun _ _ _ h => h
            case hyh65 => (refine Or.inl ⟨by rfl, ?_⟩; intro w hSw; (try dsimp only at hSw); go_simp; try with_reducible rfl)
            try simp only [Act.put, List.setIfInBounds_toArray, List.set_cons_zero, List.set_cons_succ]
            refine wpAnyH_take (i := 4) (oi := { dst := some 42, op := Op.move (Operand.tmp 3), type := 3, pos := "chart.go:70", after := #[{ on := 2, ground := Ground.guard }], guard := some (2, true) }) (v := ?vh66) rfl ?hsh66 ?hfh66 ?hrh66 ?hQh66 ?hyh66 (by assumption) ?resth66
            case hsh66 => kernel_rfl
            case hfh66 => kernel_rfl
            case hrh66 => kernel_rfl
            case hQh66 => exact fun _ _ _ h => h
            case hyh66 => (refine Or.inl ⟨by rfl, ?_⟩; intro w hSw; (try dsimp only at hSw); go_simp; try with_reducible rfl)
            try simp only [Act.put, List.setIfInBounds_toArray, List.set_cons_zero, List.set_cons_succ]
            refine wpAnyH_take (i := 5) (oi := { dst := some 43, op := Op.binOp BinOp.sub 3 (Operand.tmp 42) (Operand.const (Value.int IntKind.i64 1)) 3, type := 3, pos := "chart.go:70", after := #[{ on := 4, ground := Ground.data }, { on := 2, ground := Ground.guard }], guard := some (2, true) }) (v := ?vh67) rfl ?hsh67 ?hfh67 ?hrh67 ?hQh67 ?hyh67 (by assumption) ?resth67
            case hsh67 => kernel_rfl
            case hfh67 => kernel_rfl
            case hrh67 => kernel_rfl
            case hQh67 => exact fun _ _ _ h => h
            case hyh67 => (refine Or.inl ⟨by rfl, ?_⟩; intro w hSw; (try dsimp only at hSw); go_simp; try with_reducible rfl)
            try simp only [Act.put, List.setIfInBounds_toArray, List.set_cons_zero, List.set_cons_succ]
            refine wpAnyH_take (i := 6) (oi := { dst := some 44, op := Op.indexAddr 51 (Operand.tmp 41) (Operand.tmp 43), type := 0, pos := "chart.go:70", after := #[{ on := 3, ground := Ground.data }, { on := 5, ground := Ground.data }, { on := 2, ground := Ground.guard }], guard := some (2, true) }) (v := ?vh68) rfl ?hsh68 ?hfh68 ?hrh68 ?hQh68 ?hyh68 (by assumption) ?resth68
            case hsh68 => kernel_rfl
            case hfh68 => kernel_rfl
            case hrh68 => kernel_rfl
            case hQh68 => exact fun _ _ _ h => h
            case hyh68 => (refine Or.inl ⟨by rfl, ?_⟩; intro w hSw; (try dsimp only at hSw); go_simp; try with_reducible rfl)
            try simp only [Act.put, List.setIfInBounds_toArray, List.set_cons_zero, List.set_cons_succ]
            refine wpAnyH_take (i := 7) (oi := { dst := some 45, op := Op.load 50 (Operand.tmp 44), type := 50, pos := "chart.go:70", after := #[{ on := 6, ground := Ground.data }, { on := 2, ground := Ground.guard }], guard := some (2, true) }) (v := ?vh69) rfl ?hsh69 ?hfh69 ?hrh69 ?hQh69 ?hyh69 (by assumption) ?resth69
            case hsh69 => kernel_rfl
            case hfh69 => kernel_rfl
            case hrh69 => kernel_rfl
            case hQh69 => exact fun _ _ _ h => h
            case hyh69 => (refine Or.inl ⟨by rfl, ?_⟩; intro w hSw; (try dsimp only at hSw); go_simp; try with_reducible rfl)
            try simp only [Act.put, List.setIfInBounds_toArray, List.set_cons_zero, List.set_cons_succ]
            refine wpAnyH_take (i := 8) (oi := { dst := some 46, op := Op.load 50 (Operand.tmp 4), type := 50, pos := "chart.go:70", after := #[{ on := 2, ground := Ground.guard }], guard := some (2, true) }) (v := ?vh70) rfl ?hsh70 ?hfh70 ?hrh70 ?hQh70 ?hyh70 (by assumption) ?resth70
            case hsh70 => kernel_rfl
            case hfh70 => kernel_rfl
            case hrh70 => kernel_rfl
            case hQh70 => exact fun _ _ _ h => h
            case hyh70 => (refine Or.inl ⟨by rfl, ?_⟩; intro w hSw; (try dsimp only at hSw); go_simp; try with_reducible rfl)
            try simp only [Act.put, List.setIfInBounds_toArray, List.set_cons_zero, List.set_cons_succ]
            refine wpAnyH_ready (rs := [9]) (by kernel_rfl) (by simp) ?_
            refine AllReadyH.cons (o := _) (by rfl) (fun K hK => ?_) AllReadyH.nil
            go_simp
            go_at_call 113
            refine (compareMoves_c a0 a1 a2 p q r _).mono ?_; rintro e v71 ⟨rfl, hb72⟩
            have X73 := Lib.hid (X59.out.later hb72)
            have C74 := Lib.hid (C60.out.later hb72)
            have B75 := Lib.hid (B61.out.trans (hb72.mono B61.out.size))
            clear X59 C60 B61
            rw [HZ.out]
            go_wp2_with fail
            refine hK.out _ _ (Hcall54.out _ _ hHeld (by assumption)) (fun hHeld76 => ?_)
            clear hK K hHeld
            clear hb72
            have hHeld := hHeld76
            clear hHeld76
            try simp only [Act.put, List.setIfInBounds_toArray, List.set_cons_zero, List.set_cons_succ]
            refine wpAnyH_take (i := 10) (oi := { dst := some 48, op := Op.binOp BinOp.geq 3 (Operand.tmp 47) (Operand.const (Value.int IntKind.i64 0)) 3, type := 4, pos := "chart.go:70", after := #[{ on := 9, ground := Ground.data }, { on := 2, ground := Ground.guard }], guard := some (2, true) }) (v := ?vh77) rfl ?hsh77 ?hfh77 ?hrh77 ?hQh77 ?hyh77 (by assumption) ?resth77
            case hsh77 => kernel_rfl
            case hfh77 => kernel_rfl
            case hrh77 => kernel_rfl
            case hQh77 => exact fun _ _ _ h => h
            case hyh77 => (refine Or.inl ⟨by rfl, ?_⟩; intro w hSw; (try dsimp only at hSw); go_simp; try with_reducible rfl)
            try simp only [Act.put, List.setIfInBounds_toArray, List.set_cons_zero, List.set_cons_succ]
            refine wpAnyH_take (i := 11) (oi := { dst := some 49, op := Op.pick (Operand.tmp 40) (Operand.tmp 48) (Operand.const (Value.bool false)), type := 4, pos := "chart.go:70", after := #[{ on := 2, ground := Ground.data }, { on := 10, ground := Ground.data }], guard := none }) (v := ?vh78) rfl ?hsh78 ?hfh78 ?hrh78 ?hQh78 ?hyh78 (by assumption) ?resth78
            case hsh78 => kernel_rfl
            case hfh78 => kernel_rfl
            case hrh78 => kernel_rfl
            case hQh78 => exact fun _ _ _ h => h
            case hyh78 => (refine Or.inl ⟨by rfl, ?_⟩; intro w hSw; (try dsimp only at hSw); go_simp; try with_reducible rfl)
            try simp only [Act.put, List.setIfInBounds_toArray, List.set_cons_zero, List.set_cons_succ]
            refine wpAnyH_done (by kernel_rfl) ?_ _
            refine NoPanic.normal ?_
            clear hHeld Hcall54 Hini55
            have q79 : v71.cell? ⟨wr.heap.size, 0, none⟩ = some (.int .i64 p) := X73.out.cell 0
            have q80 : v71.cell? ⟨wr.heap.size, 1, none⟩ = some (.int .i64 q) := X73.out.cell 1
            have q81 : v71.cell? ⟨wr.heap.size, 2, none⟩ = some (.bool r) := X73.out.cell 2
            clear x1 x2 x3 wk
            cases hbf : bfB ⟨a0, a1, a2⟩ ⟨p, q, r⟩
            · have HOK := Lib.hid (show okAt l kk = false by unfold okAt; rw [HK.out, ← HKJ.out, Nat.add_sub_cancel, HJ.out, hbf, HMV.out]; simp)
              have HF := Lib.hid (show listB l = false by rw [HB.out, okTo_false (k := kk) (n := n) HOK.out HLT.out, Bool.and_false])
              rw [hbf] at hdz
              have hdz' : decide (0 ≤ z) = true := hdz
              clear hdz hbf
              go_wp2_with fail
              go_ret
              exact ⟨ret_bool HF.out.symm, B75.out⟩
            · have HOK := Lib.hid (show okAt l kk = true by unfold okAt; rw [HK.out, ← HKJ.out, Nat.add_sub_cancel, HJ.out, hbf, HMV.out]; simp)
              rw [hbf] at hdz
              have hdz' : decide (0 ≤ z) = false := hdz
              clear hdz hbf
              go_wp2_with fail
              go_roundw
              case rel => exact ⟨kk + 1, by have := HLT.out; omega, by go_num, by rw [okTo, HALL.out, HOK.out]; rfl, B75.out⟩
              case measure => have := HLT.out; have := HKJ.out; simp [intOf]; omega
      · obtain rfl : k = n := by omega
        have hdk : decide ((k : Int) < (k : Int)) = false := by simp
        clear hlt
        go_wp2_with fail
        go_ret
        exact ⟨ret_bool (by rw [HB.out, HI.out, HALL.out]; rfl), HBR.out⟩
  · have HF := Lib.hid (show listB l = false by rw [HB.out]; rw [Bool.and_eq_false_iff]; exact .inl (inB_not.2 (by omega)))
    rcases Nat.lt_or_ge n 1 with h1 | h1
    · obtain rfl : n = 0 := by omega
      have e1 : decide ((0 : Int) < 1) = true := by simp
      clear hs h1
      go_enter Tryz.func106, Tryz.ntmps106
      go_wp2_with fail
      go_ret
      exact ⟨ret_bool HF.out.symm, Below.refl _ _⟩
    · have e1 : decide ((n : Int) < 1) = false := by simp; omega
      have e1' : decide (n < 1) = false := by simp; omega
      have e2 : decide ((3 : Int) < (n : Int)) = true := by simp; omega
      have e2' : decide (3 < n) = true := by simp; omega
      clear hs h1
      go_enter Tryz.func106, Tryz.ntmps106
      go_wp2_with fail
      go_ret
      exact ⟨ret_bool HF.out.symm, Below.refl _ _⟩


theorem nthL_all {d : List (List Mv)} {k : Nat} (h : k < d.length) : (d.take (k + 1)).all listB = ((d.take k).all listB && listB (nthL d k)) := by
  unfold nthL
  rw [List.take_succ_eq_append_getElem h, List.all_append]
  simp [h]
theorem nthL_false {d : List (List Mv)} {k : Nat} (h : k < d.length) (hf : listB (nthL d k) = false) : d.all listB = false := by
  unfold nthL at hf
  rw [List.all_eq_false]
  exact ⟨d[k], List.getElem_mem h, by simpa [h] using hf⟩
theorem Drive.at {w : World} {B : Nat} {v : Value} {l : List (List Mv)} (h : Drive w B v l) {k : Nat} (hk : k < l.length) :
    ∃ b off c s, v = .slice (some ⟨b, off, none⟩) l.length c ∧ b < B ∧ w.cell? ⟨b, off + k, none⟩ = some s ∧ Moves w B s (nthL l k) := by
  obtain ⟨h1, A, c, rfl, h2, h3⟩ := h
  obtain ⟨b, off, rfl, hlt, hc⟩ := h3 (by omega)
  obtain ⟨s, hs, hm⟩ := hc k hk
  exact ⟨b, off, c, s, rfl, hlt, hs, hm⟩
set_option maxRecDepth 100000 in
set_option maxHeartbeats 8000000 in
theorem validDrive_c (d : List (List Mv)) (v : Value) (w : World) (h : Drive w w.heap.size v d) : Calls Tryz.prog 89 #[v] w fun e w' => e = .returned (.bool (drvB d)) ∧ Below w.heap.size w w' := by
  obtain ⟨n, hn⟩ : ∃ n, d.length = n := ⟨_, rfl⟩
  have HN := Lib.hid hn
  have HM := Lib.hid h
  obtain ⟨hlen, A, c, rfl, hcap, -⟩ := h
  rw [hn] at HM ⊢
  have HB := Lib.hid (show drvB d = (decide (n = 9) && d.all listB) by unfold drvB; rw [hn])
  clear hcap hn hlen
  by_cases hs : n = 9
  · have HS := Lib.hid hs
    have e1 : ((n : Int) != 9) = false := by simp; omega
    have e2 : decide ((n : Int) = 9) = true := by simp; omega
    have hn9 : n ≤ 9 := by omega
    clear hs
    go_enter Tryz.func89, Tryz.ntmps89
    go_wp2_with fail
    go_loopw [10] (fun i wr => ∃ k : Nat, k ≤ n ∧ i = .int .i64 (k : Int) ∧ (d.take k).all listB = true ∧ Below w.heap.size w wr) (fun i _ => n - (intOf i).toNat)
    case atStart => exact ⟨0, Nat.zero_le _, rfl, rfl, Below.refl _ _⟩
    case round =>
      obtain ⟨k, hk, rfl, hall, hbr⟩ := hrel
      have HALL := Lib.hid hall
      have HBR := Lib.hid hbr
      clear hall
      have HMR := Lib.hid (HM.out.mono hbr hbr.size)
      clear hbr
      by_cases hlt : k < n
      · have hdk : decide ((k : Int) < (n : Int)) = true := by simpa using hlt
        have i0 : (0 : Int) ≤ (k : Int) := Int.natCast_nonneg _
        have i1 : (k : Int) < (n : Int) := by omega
        obtain ⟨b, off, c', s, hv, hbB, x1, hms⟩ := HMR.out.at (k := k) (by rw [HN.out]; exact hlt)
        rw [HN.out] at hv
        cases hv
        have HMS := Lib.hid hms
        have HLT := Lib.hid hlt
        clear hms hbB
        go_wp2_with fail
        refine (validList_c _ _ wr HMS.out).mono ?_; rintro e w2 ⟨rfl, hb2⟩
        have HB2 := Lib.hid (HBR.out.trans (hb2.mono HBR.out.size))
        clear hb2 x1
        cases hb : listB (nthL d k)
        · have HF := Lib.hid (show drvB d = false by rw [HB.out, nthL_false (by rw [HN.out]; exact HLT.out) hb, Bool.and_false])
          clear hb
          go_wp2_with fail
          go_ret
          exact ⟨ret_bool HF.out.symm, HB2.out⟩
        · have HK := Lib.hid (show (d.take (k + 1)).all listB = true by rw [nthL_all (by rw [HN.out]; exact HLT.out), HALL.out, hb]; rfl)
          clear hb
          go_wp2_with fail
          go_roundw
          case rel => exact ⟨k + 1, by have := HLT.out; omega, by go_num, HK.out, HB2.out⟩
          case measure => have := HLT.out; simp [intOf]; omega
      · obtain rfl : k = n := by omega
        have hdk : decide ((k : Int) < (k : Int)) = false := by simp
        clear hlt
        go_wp2_with fail
        go_ret
        exact ⟨ret_bool (by rw [HB.out, HS.out, ← HALL.out, ← HN.out, List.take_length]; simp), HBR.out⟩
  · have HF := Lib.hid (show drvB d = false by rw [HB.out]; simp [hs])
    have e1 : ((n : Int) != 9) = true := by simp; omega
    have e2 : decide ((n : Int) = 9) = false := by simp; omega
    clear hs
    go_enter Tryz.func89, Tryz.ntmps89
    go_wp2_with fail
    go_ret
    exact ⟨ret_bool HF.out.symm, Below.refl _ _⟩

set_option maxRecDepth 100000 in
set_option maxHeartbeats 8000000 in
theorem fits_c (f g : Fc) (v u : Value) (w : World) (hf : IsFace w w.heap.size v f) (hg : IsFace w w.heap.size u g) : Calls Tryz.prog 88 #[v, u] w fun e w' => e = .returned (.bool (fitB ⟨f, g, []⟩)) ∧ Below w.heap.size w w' := by
  have HF0 := Lib.hid (show FaceAt w v f from hf)
  have HG0 := Lib.hid (show FaceAt w u g from hg)
  obtain ⟨s, rfl, -⟩ := hf
  obtain ⟨r, rfl, -⟩ := hg
  go_enter Tryz.func88, Tryz.ntmps88
  go_wp2_with fail
  obtain ⟨W82, hW83⟩ : ∃ Wzz, ((w.alloc (.cells #[.int .i64 f.eye, .int .i64 f.rings, .int .i64 f.sectors, s] 28)).alloc (.cells #[.int .i64 g.eye, .int .i64 g.rings, .int .i64 g.sectors, r] 28)) = Wzz := ⟨_, rfl⟩
  have B84 := Lib.hid (show Below w.heap.size w W82 by rw [← hW83]; exact (((Below.refl w.heap.size w).alloc (Nat.le_refl _) _).alloc (by first | (simp; done) | (simp; omega)) _))
  have X85 := Lib.hid (show Box W82 (w.heap.size) 28 #[.int .i64 f.eye, .int .i64 f.rings, .int .i64 f.sectors, s] by rw [← hW83]; exact Box.alloc (Box.made w 28 #[.int .i64 f.eye, .int .i64 f.rings, .int .i64 f.sectors, s]) (.cells #[.int .i64 g.eye, .int .i64 g.rings, .int .i64 g.sectors, r] 28))
  have X86 := Lib.hid (show Box W82 (w.heap.size + 1) 28 #[.int .i64 g.eye, .int .i64 g.rings, .int .i64 g.sectors, r] by
    have hz := Box.made (w.alloc (.cells #[.int .i64 f.eye, .int .i64 f.rings, .int .i64 f.sectors, s] 28)) 28 #[.int .i64 g.eye, .int .i64 g.rings, .int .i64 g.sectors, r]
    rw [World.size_alloc] at hz
    rw [← hW83]; exact hz)
  have C87 := Lib.hid (HF0.out.later B84.out)
  have C88 := Lib.hid (HG0.out.later B84.out)
  have SZ89 := Lib.hid (show W82.heap.size = w.heap.size + 1 + 1 by rw [← hW83]; simp)
  rw [hW83]
  clear hW83
  have q90 : W82.cell? ⟨w.heap.size, 0, none⟩ = some (.int .i64 f.eye) := X85.out.cell 0
  have q91 : W82.cell? ⟨w.heap.size, 1, none⟩ = some (.int .i64 f.rings) := X85.out.cell 1
  have q92 : W82.cell? ⟨w.heap.size, 2, none⟩ = some (.int .i64 f.sectors) := X85.out.cell 2
  have q93 : W82.cell? ⟨w.heap.size, 3, none⟩ = some (s) := X85.out.cell 3
  have q94 : W82.cell? ⟨w.heap.size + 1, 0, none⟩ = some (.int .i64 g.eye) := X86.out.cell 0
  have q95 : W82.cell? ⟨w.heap.size + 1, 1, none⟩ = some (.int .i64 g.rings) := X86.out.cell 1
  have q96 : W82.cell? ⟨w.heap.size + 1, 2, none⟩ = some (.int .i64 g.sectors) := X86.out.cell 2
  have q97 : W82.cell? ⟨w.heap.size + 1, 3, none⟩ = some (r) := X86.out.cell 3
  go_wp2_with fail
  refine (Valid_c f _ _ C87.out).mono ?_; rintro e v98 ⟨rfl, hb99⟩
  have X100 := Lib.hid (X85.out.later hb99)
  have X101 := Lib.hid (X86.out.later hb99)
  have C102 := Lib.hid (C87.out.later hb99)
  have C103 := Lib.hid (C88.out.later hb99)
  have B104 := Lib.hid (B84.out.trans (hb99.mono B84.out.size))
  clear hb99
  clear q90 q91 q92 q93 q94 q95 q96 q97
  have q105 : v98.cell? ⟨w.heap.size, 0, none⟩ = some (.int .i64 f.eye) := X100.out.cell 0
  have q106 : v98.cell? ⟨w.heap.size, 1, none⟩ = some (.int .i64 f.rings) := X100.out.cell 1
  have q107 : v98.cell? ⟨w.heap.size, 2, none⟩ = some (.int .i64 f.sectors) := X100.out.cell 2
  have q108 : v98.cell? ⟨w.heap.size, 3, none⟩ = some (s) := X100.out.cell 3
  have q109 : v98.cell? ⟨w.heap.size + 1, 0, none⟩ = some (.int .i64 g.eye) := X101.out.cell 0
  have q110 : v98.cell? ⟨w.heap.size + 1, 1, none⟩ = some (.int .i64 g.rings) := X101.out.cell 1
  have q111 : v98.cell? ⟨w.heap.size + 1, 2, none⟩ = some (.int .i64 g.sectors) := X101.out.cell 2
  have q112 : v98.cell? ⟨w.heap.size + 1, 3, none⟩ = some (r) := X101.out.cell 3
  cases h1 : validB f
  · have HR := Lib.hid (show fitB ⟨f, g, []⟩ = false by unfold fitB; dsimp only; rw [h1]; rfl)
    clear h1
    go_wp2_with fail
    go_ret
    exact ⟨ret_bool HR.out.symm, B104.out⟩
  · have H1 := Lib.hid h1
    clear h1
    go_wp2_with fail
    refine (Valid_c g _ _ C103.out).mono ?_; rintro e v113 ⟨rfl, hb114⟩
    have X115 := Lib.hid (X100.out.later hb114)
    have X116 := Lib.hid (X101.out.later hb114)
    have C117 := Lib.hid (C102.out.later hb114)
    have C118 := Lib.hid (C103.out.later hb114)
    have B119 := Lib.hid (B104.out.trans (hb114.mono B104.out.size))
    clear hb114
    clear q105 q106 q107 q108 q109 q110 q111 q112
    have q120 : v113.cell? ⟨w.heap.size, 0, none⟩ = some (.int .i64 f.eye) := X115.out.cell 0
    have q121 : v113.cell? ⟨w.heap.size, 1, none⟩ = some (.int .i64 f.rings) := X115.out.cell 1
    have q122 : v113.cell? ⟨w.heap.size, 2, none⟩ = some (.int .i64 f.sectors) := X115.out.cell 2
    have q123 : v113.cell? ⟨w.heap.size, 3, none⟩ = some (s) := X115.out.cell 3
    have q124 : v113.cell? ⟨w.heap.size + 1, 0, none⟩ = some (.int .i64 g.eye) := X116.out.cell 0
    have q125 : v113.cell? ⟨w.heap.size + 1, 1, none⟩ = some (.int .i64 g.rings) := X116.out.cell 1
    have q126 : v113.cell? ⟨w.heap.size + 1, 2, none⟩ = some (.int .i64 g.sectors) := X116.out.cell 2
    have q127 : v113.cell? ⟨w.heap.size + 1, 3, none⟩ = some (r) := X116.out.cell 3
    cases h2 : validB g
    · have HR := Lib.hid (show fitB ⟨f, g, []⟩ = false by unfold fitB; dsimp only; rw [h2, Bool.and_false]; rfl)
      clear h2
      go_wp2_with fail
      go_ret
      exact ⟨ret_bool HR.out.symm, B119.out⟩
    · have HR := Lib.hid (show fitB ⟨f, g, []⟩ = (decide (f.eye = g.eye) && decide (f.rings = g.rings) && decide (f.sectors = g.sectors)) by unfold fitB; dsimp only; rw [H1.out, h2]; rfl)
      clear h2
      obtain ⟨a1, a2, a3, a4⟩ := f
      obtain ⟨b1, b2, b3, b4⟩ := g
      dsimp only at HR q120 q121 q122 q123 q124 q125 q126 q127 ⊢
      have E1 : (a1 == b1) = decide (a1 = b1) := rfl
      have E2 : (a2 == b2) = decide (a2 = b2) := rfl
      have E3 : (a3 == b3) = decide (a3 = b3) := rfl
      cases e1 : decide (a1 = b1)
      · rw [e1] at HR E1
        go_wp2_with fail
        go_ret
        exact ⟨ret_bool HR.out.symm, B119.out⟩
      cases e2 : decide (a2 = b2)
      · rw [e1, e2] at HR
        rw [e1] at E1
        rw [e2] at E2
        go_wp2_with fail
        go_ret
        exact ⟨ret_bool HR.out.symm, B119.out⟩
      cases e3 : decide (a3 = b3)
      · rw [e1, e2, e3] at HR
        rw [e1] at E1
        rw [e2] at E2
        rw [e3] at E3
        go_wp2_with fail
        go_ret
        exact ⟨ret_bool HR.out.symm, B119.out⟩
      · rw [e1, e2, e3] at HR
        rw [e1] at E1
        rw [e2] at E2
        rw [e3] at E3
        go_wp2_with fail
        go_ret
        exact ⟨ret_bool HR.out.symm, B119.out⟩

end Go.Proofs.YtikfiallhmhicaaGreat

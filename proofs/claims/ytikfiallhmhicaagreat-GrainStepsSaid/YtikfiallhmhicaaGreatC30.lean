/- Layer 2: the specification: which lists of moves are as they must be. -/
import Derived.Test.YtikfiallhmhicaaGreatC23
set_option linter.all false
namespace Go.Proofs.YtikfiallhmhicaaGreat
open Go.RowKit


set_option maxHeartbeats 1000000 in
theorem kwithin_c (n a b : Int) (w : World) :
    Calls Tryz.prog 91 #[.int .i64 n, .int .i64 a, .int .i64 b] w fun e w' => e = .returned (.bool (inB n a b)) ∧ w = w' := by
  by_cases h1 : a ≤ n
  · have H := Lib.hid (show inB n a b = decide (n ≤ b) by simp [inB, h1])
    have e1 : decide (a ≤ n) = true := by simpa using h1
    go_enter Tryz.func91, Tryz.ntmps91
    go_wp2
    go_ret
    exact ⟨ret_bool H.out.symm, rfl⟩
  · have H := Lib.hid (show inB n a b = false by simp [inB, h1])
    have e1 : decide (a ≤ n) = false := by simpa using h1
    go_enter Tryz.func91, Tryz.ntmps91
    go_wp2
    go_ret
    exact ⟨ret_bool H.out.symm, rfl⟩
theorem kwithin_b (n a b : Int) (r : Bool) (h : inB n a b = r) (w : World) : Calls Tryz.prog 91 #[.int .i64 n, .int .i64 a, .int .i64 b] w fun e w' => e = .returned (.bool r) ∧ w = w' :=
  (kwithin_c n a b w).mono fun _ _ ⟨h1, h2⟩ => ⟨h1.trans (ret_bool h), h2⟩
set_option maxRecDepth 100000 in
set_option maxHeartbeats 8000000 in
theorem kbefore_c (a1 a2 : Int) (a3 : Bool) (b1 b2 : Int) (b3 : Bool) (w : World) : Calls Tryz.prog 92 #[.agg #[.int .i64 a1, .int .i64 a2, .bool a3], .agg #[.int .i64 b1, .int .i64 b2, .bool b3]] w fun e w' => e = .returned (.bool (bfB ⟨a1, a2, a3⟩ ⟨b1, b2, b3⟩)) ∧ Below w.heap.size w w' := by
  go_enter Tryz.func92, Tryz.ntmps92
  go_wp2_with fail
  all_goals go_ret
  all_goals refine ⟨ret_bool ?_, ((Below.refl _ _).alloc (Nat.le_refl _) _).alloc (by simp) _⟩
  all_goals unfold bfB
  all_goals simp_all

set_option maxRecDepth 100000 in
set_option maxHeartbeats 8000000 in
theorem kdrive_c (l : List Mv) (v : Value) (w : World) (h : Moves w w.heap.size v l) : Calls Tryz.prog 69 #[v] w fun e w' => e = .returned (.bool (listB l)) ∧ Below w.heap.size w w' := by
  obtain ⟨n, hn⟩ : ∃ n, l.length = n := ⟨_, rfl⟩
  have HN := Lib.hid hn
  have HM := Lib.hid h
  obtain ⟨hlen, A, c, rfl, hcap, -⟩ := h
  rw [hn] at HM hlen ⊢
  have HB := Lib.hid (show listB l = (inB (n : Int) 1 3 && okTo l n) by unfold listB; rw [hn])
  clear hcap hn
  by_cases hs : 1 ≤ n ∧ n ≤ 3
  · have e1 : decide ((n : Int) < 1) = false := by simp; omega
    have e1' : decide (n < 1) = false := by simp; omega
    have e2 : decide ((3 : Int) < (n : Int)) = false := by simp; omega
    have e2' : decide (3 < n) = false := by simp; omega
    have HI := Lib.hid (show inB (n : Int) 1 3 = true from inB_iff.2 ⟨by omega, by omega⟩)
    have hn1 : n ≤ 3 := hs.2
    clear hs
    go_enter Tryz.func69, Tryz.ntmps69
    go_wp2_with fail
    go_loopw [3] (fun i wr => ∃ k : Nat, k ≤ n ∧ i = .int .i64 (k : Int) ∧ okTo l k = true ∧ Below w.heap.size w wr) (fun i _ => n - (intOf i).toNat)
    case atStart => exact ⟨0, Nat.zero_le _, rfl, rfl, Below.refl _ _⟩
    case round =>
      obtain ⟨k, hk, rfl, hall, hbr⟩ := hrel
      have HALL := Lib.hid hall
      have HBR := Lib.hid hbr
      clear hall
      have HMR := Lib.hid (HM.out.mono hbr hbr.size)
      clear hbr
      by_cases hlt : k < n
      · have hdk : decide ((k : Int) < (n : Int)) = true := by simpa using hlt
        have i0 : (0 : Int) ≤ (k : Int) := Int.natCast_nonneg _
        have i1 : (k : Int) < (n : Int) := by omega
        have HA := Lib.hid (HM.out.at (k := k) (by rw [HN.out]; exact hlt))
        obtain ⟨b, off, c', hv, hbB, x1, x2, x3⟩ := HA.out
        rw [HN.out] at hv
        cases hv
        have y1 := keepd x1 HBR.out hbB
        have y2 := keepd x2 HBR.out hbB
        have y3 := keepd x3 HBR.out hbB
        have hbw : b < wr.heap.size := Nat.lt_of_lt_of_le hbB HBR.out.size
        clear x1 x2 x3 hbB HA
        obtain ⟨⟨p, q, r⟩, hm⟩ : ∃ m, nthM l k = m := ⟨_, rfl⟩
        have HK := Lib.hid hm
        rw [hm] at y1 y2 y3
        dsimp only at y1 y2 y3
        clear hm
        have HLT := Lib.hid hlt
        clear hlt
        cases c1 : inB p (-1) 1
        · have HC1 := Lib.hid c1
          have HOK := Lib.hid (show okAt l k = false by unfold okAt mvB; rw [HK.out]; dsimp only; rw [c1]; rfl)
          clear c1
          go_wp2_with fail
          have hdr7 : Below (wr).heap.size (wr) (wr).drew := (Below.refl _ _).drew
          have lt4 := hbw
          have lt5 := hbw
          have lt6 := hbw
          have hcall8 : ∀ X Y : World, (fun Wz => Wz.cell? ⟨b, off + k * 3, none⟩ = some (.int .i64 p) ∧ Wz.cell? ⟨b, off + k * 3 + 1, none⟩ = some (.int .i64 q) ∧ Wz.cell? ⟨b, off + k * 3 + 2, none⟩ = some (.bool r) ∧ (wr).heap.size ≤ Wz.heap.size) X → Below X.heap.size X Y → (fun Wz => Wz.cell? ⟨b, off + k * 3, none⟩ = some (.int .i64 p) ∧ Wz.cell? ⟨b, off + k * 3 + 1, none⟩ = some (.int .i64 q) ∧ Wz.cell? ⟨b, off + k * 3 + 2, none⟩ = some (.bool r) ∧ (wr).heap.size ≤ Wz.heap.size) Y := by
            rintro X Y ⟨z1, z2, z3, xs⟩ hb
            have hb2 := Below.mono (B' := (wr).heap.size) hb xs
            exact ⟨keepd z1 hb2 lt4, keepd z2 hb2 lt5, keepd z3 hb2 lt6, Nat.le_trans xs hb.size⟩
          have hini9 : (fun Wz => Wz.cell? ⟨b, off + k * 3, none⟩ = some (.int .i64 p) ∧ Wz.cell? ⟨b, off + k * 3 + 1, none⟩ = some (.int .i64 q) ∧ Wz.cell? ⟨b, off + k * 3 + 2, none⟩ = some (.bool r) ∧ (wr).heap.size ≤ Wz.heap.size) (wr).drew := ⟨keepd (y1) hdr7 lt4, keepd (y2) hdr7 lt5, keepd (y3) hdr7 lt6, Nat.le_refl _⟩
          have Hcall8 := Lib.hid hcall8
          have Hini9 := Lib.hid hini9
          clear hcall8 hini9 lt4 lt5 lt6
          refine wp_region_noPanic ?_
          refine wp_region_held_drew (S := (fun Wz => Wz.cell? ⟨b, off + k * 3, none⟩ = some (.int .i64 p) ∧ Wz.cell? ⟨b, off + k * 3 + 1, none⟩ = some (.int .i64 q) ∧ Wz.cell? ⟨b, off + k * 3 + 2, none⟩ = some (.bool r) ∧ (wr).heap.size ≤ Wz.heap.size)) (by kernel_rfl) Hini9.out (fun hHeld => ?_)
          obtain ⟨W11, hW12⟩ : ∃ Wzz, (wr).drew = Wzz := ⟨_, rfl⟩
          rw [hW12] at hHeld hdr7 ⊢
          clear hW12
          have B13 := Lib.hid (HBR.out.trans (hdr7.mono HBR.out.size))
          clear hdr7
          refine wpAnyH_take (i := 0) (oi := { dst := some 18, op := Op.move (Operand.tmp 0), type := 51, pos := "ref.go:31", after := #[], guard := none }) (v := ?vh14) rfl ?hsh14 ?hfh14 ?hrh14 ?hQh14 ?hyh14 (by assumption) ?resth14
          case hsh14 => kernel_rfl
          case hfh14 => kernel_rfl
          case hrh14 => kernel_rfl
          case hQh14 => exact fun _ _ _ h => h
          case hyh14 => (refine Or.inl ⟨by rfl, ?_⟩; intro w hSw; (try dsimp only at hSw); go_simp; try with_reducible rfl)
          try simp only [Act.put, List.setIfInBounds_toArray, List.set_cons_zero, List.set_cons_succ]
          refine wpAnyH_take (i := 1) (oi := { dst := some 19, op := Op.move (Operand.tmp 3), type := 3, pos := "ref.go:31", after := #[], guard := none }) (v := ?vh15) rfl ?hsh15 ?hfh15 ?hrh15 ?hQh15 ?hyh15 (by assumption) ?resth15
          case hsh15 => kernel_rfl
          case hfh15 => kernel_rfl
          case hrh15 => kernel_rfl
          case hQh15 => exact fun _ _ _ h => h
          case hyh15 => (refine Or.inl ⟨by rfl, ?_⟩; intro w hSw; (try dsimp only at hSw); go_simp; try with_reducible rfl)
          try simp only [Act.put, List.setIfInBounds_toArray, List.set_cons_zero, List.set_cons_succ]
          refine wpAnyH_take (i := 2) (oi := { dst := some 20, op := Op.indexAddr 51 (Operand.tmp 18) (Operand.tmp 19), type := 0, pos := "ref.go:31", after := #[{ on := 0, ground := Ground.data }, { on := 1, ground := Ground.data }], guard := none }) (v := ?vh16) rfl ?hsh16 ?hfh16 ?hrh16 ?hQh16 ?hyh16 (by assumption) ?resth16
          case hsh16 => kernel_rfl
          case hfh16 => kernel_rfl
          case hrh16 => kernel_rfl
          case hQh16 => exact fun _ _ _ h => h
          case hyh16 => (refine Or.inl ⟨by rfl, ?_⟩; intro w hSw; (try dsimp only at hSw); go_simp; try with_reducible rfl)
          try simp only [Act.put, List.setIfInBounds_toArray, List.set_cons_zero, List.set_cons_succ]
          refine wpAnyH_take (i := 3) (oi := { dst := some 21, op := Op.fieldAddr 50 (Operand.tmp 20) 0, type := 0, pos := "ref.go:31", after := #[{ on := 2, ground := Ground.data }], guard := none }) (v := ?vh17) rfl ?hsh17 ?hfh17 ?hrh17 ?hQh17 ?hyh17 (by assumption) ?resth17
          case hsh17 => kernel_rfl
          case hfh17 => kernel_rfl
          case hrh17 => kernel_rfl
          case hQh17 => exact fun _ _ _ h => h
          case hyh17 => (refine Or.inl ⟨by rfl, ?_⟩; intro w hSw; (try dsimp only at hSw); go_simp; try with_reducible rfl)
          try simp only [Act.put, List.setIfInBounds_toArray, List.set_cons_zero, List.set_cons_succ]
          refine wpAnyH_take (i := 4) (oi := { dst := some 22, op := Op.load 3 (Operand.tmp 21), type := 3, pos := "ref.go:31", after := #[{ on := 3, ground := Ground.data }], guard := none }) (v := ?vh18) rfl ?hsh18 ?hfh18 ?hrh18 ?hQh18 ?hyh18 (by assumption) ?resth18
          case hsh18 => kernel_rfl
          case hfh18 => kernel_rfl
          case hrh18 => kernel_rfl
          case hQh18 => exact fun _ _ _ h => h
          case hyh18 => (refine Or.inl ⟨by rfl, ?_⟩; intro w hSw; (try dsimp only at hSw); go_simp; try with_reducible rfl)
          try simp only [Act.put, List.setIfInBounds_toArray, List.set_cons_zero, List.set_cons_succ]
          refine wpAnyH_ready (rs := [5]) (by kernel_rfl) (by simp) ?_
          refine AllReadyH.cons (o := _) (by rfl) (fun K hK => ?_) AllReadyH.nil
          go_simp
          go_at_call 91
          refine (kwithin_b p (-1) 1 false HC1.out _).mono ?_; rintro e w' ⟨rfl, rfl⟩
          go_wp2_with fail
          refine hK.out _ _ hHeld (fun hHeld19 => ?_)
          clear hK K hHeld
          have hHeld := hHeld19
          clear hHeld19
          try simp only [Act.put, List.setIfInBounds_toArray, List.set_cons_zero, List.set_cons_succ]
          refine wpAnyH_take (i := 6) (oi := { dst := some 24, op := Op.unOp UnOp.not 4 (Operand.tmp 23), type := 4, pos := "ref.go:31", after := #[{ on := 5, ground := Ground.data }], guard := none }) (v := ?vh20) rfl ?hsh20 ?hfh20 ?hrh20 ?hQh20 ?hyh20 (by assumption) ?resth20
          case hsh20 => kernel_rfl
          case hfh20 => kernel_rfl
          case hrh20 => kernel_rfl
          case hQh20 => exact fun _ _ _ h => h
          case hyh20 => (refine Or.inl ⟨by rfl, ?_⟩; intro w hSw; (try dsimp only at hSw); go_simp; try with_reducible rfl)
          try simp only [Act.put, List.setIfInBounds_toArray, List.set_cons_zero, List.set_cons_succ]
          refine wpAnyH_take (i := 7) (oi := { dst := some 25, op := Op.move (Operand.tmp 24), type := 4, pos := "ref.go:31", after := #[{ on := 6, ground := Ground.data }, { on := 5, ground := Ground.chain }], guard := none }) (v := ?vh21) rfl ?hsh21 ?hfh21 ?hrh21 ?hQh21 ?hyh21 (by assumption) ?resth21
          case hsh21 => kernel_rfl
          case hfh21 => kernel_rfl
          case hrh21 => kernel_rfl
          case hQh21 => exact fun _ _ _ h => h
          case hyh21 => (refine Or.inl ⟨by rfl, ?_⟩; intro w hSw; (try dsimp only at hSw); go_simp; try with_reducible rfl)
          try simp only [Act.put, List.setIfInBounds_toArray, List.set_cons_zero, List.set_cons_succ]
          refine wpAnyH_take (i := 8) (oi := { dst := some 26, op := Op.move (Operand.tmp 0), type := 51, pos := "ref.go:31", after := #[{ on := 7, ground := Ground.guard }], guard := some (7, false) }) (v := undef) rfl ?hsh22 ?hfh22 ?hrh22 ?hQh22 ?hyh22 (by assumption) ?resth22
          case hsh22 => kernel_rfl
          case hfh22 => kernel_rfl
          case hrh22 => kernel_rfl
          case hQh22 => exact fun _ _ _ h => h
          case hyh22 => exact Or.inr ⟨by rfl, rfl⟩
          try simp only [Act.put, List.setIfInBounds_toArray, List.set_cons_zero, List.set_cons_succ]
          refine wpAnyH_take (i := 9) (oi := { dst := some 27, op := Op.move (Operand.tmp 3), type := 3, pos := "ref.go:31", after := #[{ on := 7, ground := Ground.guard }], guard := some (7, false) }) (v := undef) rfl ?hsh23 ?hfh23 ?hrh23 ?hQh23 ?hyh23 (by assumption) ?resth23
          case hsh23 => kernel_rfl
          case hfh23 => kernel_rfl
          case hrh23 => kernel_rfl
          case hQh23 => exact fun _ _ _ h => h
          case hyh23 => exact Or.inr ⟨by rfl, rfl⟩
          try simp only [Act.put, List.setIfInBounds_toArray, List.set_cons_zero, List.set_cons_succ]
          refine wpAnyH_take (i := 10) (oi := { dst := some 28, op := Op.indexAddr 51 (Operand.tmp 26) (Operand.tmp 27), type := 0, pos := "ref.go:31", after := #[{ on := 8, ground := Ground.data }, { on := 9, ground := Ground.data }, { on := 7, ground := Ground.guard }], guard := some (7, false) }) (v := undef) rfl ?hsh24 ?hfh24 ?hrh24 ?hQh24 ?hyh24 (by assumption) ?resth24
          case hsh24 => kernel_rfl
          case hfh24 => kernel_rfl
          case hrh24 => kernel_rfl
          case hQh24 => exact fun _ _ _ h => h
          case hyh24 => exact Or.inr ⟨by rfl, rfl⟩
          try simp only [Act.put, List.setIfInBounds_toArray, List.set_cons_zero, List.set_cons_succ]
          refine wpAnyH_take (i := 11) (oi := { dst := some 29, op := Op.fieldAddr 50 (Operand.tmp 28) 1, type := 0, pos := "ref.go:31", after := #[{ on := 10, ground := Ground.data }, { on := 7, ground := Ground.guard }], guard := some (7, false) }) (v := undef) rfl ?hsh25 ?hfh25 ?hrh25 ?hQh25 ?hyh25 (by assumption) ?resth25
          case hsh25 => kernel_rfl
          case hfh25 => kernel_rfl
          case hrh25 => kernel_rfl
          case hQh25 => exact fun _ _ _ h => h
          case hyh25 => exact Or.inr ⟨by rfl, rfl⟩
          try simp only [Act.put, List.setIfInBounds_toArray, List.set_cons_zero, List.set_cons_succ]
          refine wpAnyH_take (i := 12) (oi := { dst := some 30, op := Op.load 3 (Operand.tmp 29), type := 3, pos := "ref.go:31", after := #[{ on := 11, ground := Ground.data }, { on := 7, ground := Ground.guard }], guard := some (7, false) }) (v := undef) rfl ?hsh26 ?hfh26 ?hrh26 ?hQh26 ?hyh26 (by assumption) ?resth26
          case hsh26 => kernel_rfl
          case hfh26 => kernel_rfl
          case hrh26 => kernel_rfl
          case hQh26 => exact fun _ _ _ h => h
          case hyh26 => exact Or.inr ⟨by rfl, rfl⟩
          try simp only [Act.put, List.setIfInBounds_toArray, List.set_cons_zero, List.set_cons_succ]
          refine wpAnyH_take (i := 13) (oi := { dst := some 31, op := Op.call { callee := Callee.value (Operand.func 91), args := #[Operand.tmp 30, Operand.const (Value.int IntKind.i64 (-1)), Operand.const (Value.int IntKind.i64 1)], argTypes := #[3, 3, 3] }, type := 4, pos := "ref.go:31", after := #[{ on := 12, ground := Ground.data }, { on := 7, ground := Ground.chain }, { on := 7, ground := Ground.guard }], guard := some (7, false) }) (v := undef) rfl ?hsh27 ?hfh27 ?hrh27 ?hQh27 ?hyh27 (by assumption) ?resth27
          case hsh27 => kernel_rfl
          case hfh27 => kernel_rfl
          case hrh27 => kernel_rfl
          case hQh27 => exact fun _ _ _ h => h
          case hyh27 => exact Or.inr ⟨by rfl, rfl⟩
          try simp only [Act.put, List.setIfInBounds_toArray, List.set_cons_zero, List.set_cons_succ]
          refine wpAnyH_take (i := 14) (oi := { dst := some 32, op := Op.unOp UnOp.not 4 (Operand.tmp 31), type := 4, pos := "ref.go:31", after := #[{ on := 13, ground := Ground.data }, { on := 7, ground := Ground.guard }], guard := some (7, false) }) (v := undef) rfl ?hsh28 ?hfh28 ?hrh28 ?hQh28 ?hyh28 (by assumption) ?resth28
          case hsh28 => kernel_rfl
          case hfh28 => kernel_rfl
          case hrh28 => kernel_rfl
          case hQh28 => exact fun _ _ _ h => h
          case hyh28 => exact Or.inr ⟨by rfl, rfl⟩
          try simp only [Act.put, List.setIfInBounds_toArray, List.set_cons_zero, List.set_cons_succ]
          refine wpAnyH_take (i := 15) (oi := { dst := some 33, op := Op.pick (Operand.tmp 25) (Operand.const (Value.bool true)) (Operand.tmp 32), type := 4, pos := "ref.go:31", after := #[{ on := 7, ground := Ground.data }, { on := 14, ground := Ground.data }], guard := none }) (v := ?vh29) rfl ?hsh29 ?hfh29 ?hrh29 ?hQh29 ?hyh29 (by assumption) ?resth29
          case hsh29 => kernel_rfl
          case hfh29 => kernel_rfl
          case hrh29 => kernel_rfl
          case hQh29 => exact fun _ _ _ h => h
          case hyh29 => (refine Or.inl ⟨by rfl, ?_⟩; intro w hSw; (try dsimp only at hSw); go_simp; try with_reducible rfl)
          try simp only [Act.put, List.setIfInBounds_toArray, List.set_cons_zero, List.set_cons_succ]
          refine wpAnyH_take (i := 16) (oi := { dst := some 34, op := Op.move (Operand.tmp 33), type := 4, pos := "ref.go:31", after := #[{ on := 15, ground := Ground.data }, { on := 13, ground := Ground.chain }], guard := none }) (v := ?vh30) rfl ?hsh30 ?hfh30 ?hrh30 ?hQh30 ?hyh30 (by assumption) ?resth30
          case hsh30 => kernel_rfl
          case hfh30 => kernel_rfl
          case hrh30 => kernel_rfl
          case hQh30 => exact fun _ _ _ h => h
          case hyh30 => (refine Or.inl ⟨by rfl, ?_⟩; intro w hSw; (try dsimp only at hSw); go_simp; try with_reducible rfl)
          try simp only [Act.put, List.setIfInBounds_toArray, List.set_cons_zero, List.set_cons_succ]
          refine wpAnyH_take (i := 17) (oi := { dst := some 35, op := Op.move (Operand.tmp 3), type := 3, pos := "ref.go:31", after := #[{ on := 16, ground := Ground.guard }], guard := some (16, false) }) (v := undef) rfl ?hsh31 ?hfh31 ?hrh31 ?hQh31 ?hyh31 (by assumption) ?resth31
          case hsh31 => kernel_rfl
          case hfh31 => kernel_rfl
          case hrh31 => kernel_rfl
          case hQh31 => exact fun _ _ _ h => h
          case hyh31 => exact Or.inr ⟨by rfl, rfl⟩
          try simp only [Act.put, List.setIfInBounds_toArray, List.set_cons_zero, List.set_cons_succ]
          refine wpAnyH_take (i := 18) (oi := { dst := some 36, op := Op.binOp BinOp.gtr 3 (Operand.tmp 35) (Operand.const (Value.int IntKind.i64 0)) 3, type := 4, pos := "ref.go:31", after := #[{ on := 17, ground := Ground.data }, { on := 16, ground := Ground.guard }], guard := some (16, false) }) (v := undef) rfl ?hsh32 ?hfh32 ?hrh32 ?hQh32 ?hyh32 (by assumption) ?resth32
          case hsh32 => kernel_rfl
          case hfh32 => kernel_rfl
          case hrh32 => kernel_rfl
          case hQh32 => exact fun _ _ _ h => h
          case hyh32 => exact Or.inr ⟨by rfl, rfl⟩
          try simp only [Act.put, List.setIfInBounds_toArray, List.set_cons_zero, List.set_cons_succ]
          refine wpAnyH_take (i := 19) (oi := { dst := some 37, op := Op.move (Operand.tmp 36), type := 4, pos := "ref.go:31", after := #[{ on := 18, ground := Ground.data }, { on := 16, ground := Ground.chain }, { on := 16, ground := Ground.guard }], guard := some (16, false) }) (v := undef) rfl ?hsh33 ?hfh33 ?hrh33 ?hQh33 ?hyh33 (by assumption) ?resth33
          case hsh33 => kernel_rfl
          case hfh33 => kernel_rfl
          case hrh33 => kernel_rfl
          case hQh33 => exact fun _ _ _ h => h
          case hyh33 => exact Or.inr ⟨by rfl, rfl⟩
          try simp only [Act.put, List.setIfInBounds_toArray, List.set_cons_zero, List.set_cons_succ]
          refine wpAnyH_take (i := 20) (oi := { dst := some 38, op := Op.move (Operand.tmp 0), type := 51, pos := "ref.go:31", after := #[{ on := 19, ground := Ground.guard }], guard := some (19, true) }) (v := undef) rfl ?hsh34 ?hfh34 ?hrh34 ?hQh34 ?hyh34 (by assumption) ?resth34
          case hsh34 => kernel_rfl
          case hfh34 => kernel_rfl
          case hrh34 => kernel_rfl
          case hQh34 => exact fun _ _ _ h => h
          case hyh34 => exact Or.inr ⟨by rfl, rfl⟩
          try simp only [Act.put, List.setIfInBounds_toArray, List.set_cons_zero, List.set_cons_succ]
          refine wpAnyH_take (i := 21) (oi := { dst := some 39, op := Op.move (Operand.tmp 3), type := 3, pos := "ref.go:31", after := #[{ on := 19, ground := Ground.guard }], guard := some (19, true) }) (v := undef) rfl ?hsh35 ?hfh35 ?hrh35 ?hQh35 ?hyh35 (by assumption) ?resth35
          case hsh35 => kernel_rfl
          case hfh35 => kernel_rfl
          case hrh35 => kernel_rfl
          case hQh35 => exact fun _ _ _ h => h
          case hyh35 => exact Or.inr ⟨by rfl, rfl⟩
          try simp only [Act.put, List.setIfInBounds_toArray, List.set_cons_zero, List.set_cons_succ]
          refine wpAnyH_take (i := 22) (oi := { dst := some 40, op := Op.binOp BinOp.sub 3 (Operand.tmp 39) (Operand.const (Value.int IntKind.i64 1)) 3, type := 3, pos := "ref.go:31", after := #[{ on := 21, ground := Ground.data }, { on := 19, ground := Ground.guard }], guard := some (19, true) }) (v := undef) rfl ?hsh36 ?hfh36 ?hrh36 ?hQh36 ?hyh36 (by assumption) ?resth36
          case hsh36 => kernel_rfl
          case hfh36 => kernel_rfl
          case hrh36 => kernel_rfl
          case hQh36 => exact fun _ _ _ h => h
          case hyh36 => exact Or.inr ⟨by rfl, rfl⟩
          try simp only [Act.put, List.setIfInBounds_toArray, List.set_cons_zero, List.set_cons_succ]
          refine wpAnyH_take (i := 23) (oi := { dst := some 41, op := Op.indexAddr 51 (Operand.tmp 38) (Operand.tmp 40), type := 0, pos := "ref.go:31", after := #[{ on := 20, ground := Ground.data }, { on := 22, ground := Ground.data }, { on := 19, ground := Ground.guard }], guard := some (19, true) }) (v := undef) rfl ?hsh37 ?hfh37 ?hrh37 ?hQh37 ?hyh37 (by assumption) ?resth37
          case hsh37 => kernel_rfl
          case hfh37 => kernel_rfl
          case hrh37 => kernel_rfl
          case hQh37 => exact fun _ _ _ h => h
          case hyh37 => exact Or.inr ⟨by rfl, rfl⟩
          try simp only [Act.put, List.setIfInBounds_toArray, List.set_cons_zero, List.set_cons_succ]
          refine wpAnyH_take (i := 24) (oi := { dst := some 42, op := Op.load 50 (Operand.tmp 41), type := 50, pos := "ref.go:31", after := #[{ on := 23, ground := Ground.data }, { on := 19, ground := Ground.guard }], guard := some (19, true) }) (v := undef) rfl ?hsh38 ?hfh38 ?hrh38 ?hQh38 ?hyh38 (by assumption) ?resth38
          case hsh38 => kernel_rfl
          case hfh38 => kernel_rfl
          case hrh38 => kernel_rfl
          case hQh38 => exact fun _ _ _ h => h
          case hyh38 => exact Or.inr ⟨by rfl, rfl⟩
          try simp only [Act.put, List.setIfInBounds_toArray, List.set_cons_zero, List.set_cons_succ]
          refine wpAnyH_take (i := 25) (oi := { dst := some 43, op := Op.move (Operand.tmp 0), type := 51, pos := "ref.go:31", after := #[{ on := 19, ground := Ground.guard }], guard := some (19, true) }) (v := undef) rfl ?hsh39 ?hfh39 ?hrh39 ?hQh39 ?hyh39 (by assumption) ?resth39
          case hsh39 => kernel_rfl
          case hfh39 => kernel_rfl
          case hrh39 => kernel_rfl
          case hQh39 => exact fun _ _ _ h => h
          case hyh39 => exact Or.inr ⟨by rfl, rfl⟩
          try simp only [Act.put, List.setIfInBounds_toArray, List.set_cons_zero, List.set_cons_succ]
          refine wpAnyH_take (i := 26) (oi := { dst := some 44, op := Op.move (Operand.tmp 3), type := 3, pos := "ref.go:31", after := #[{ on := 19, ground := Ground.guard }], guard := some (19, true) }) (v := undef) rfl ?hsh40 ?hfh40 ?hrh40 ?hQh40 ?hyh40 (by assumption) ?resth40
          case hsh40 => kernel_rfl
          case hfh40 => kernel_rfl
          case hrh40 => kernel_rfl
          case hQh40 => exact fun _ _ _ h => h
          case hyh40 => exact Or.inr ⟨by rfl, rfl⟩
          try simp only [Act.put, List.setIfInBounds_toArray, List.set_cons_zero, List.set_cons_succ]
          refine wpAnyH_take (i := 27) (oi := { dst := some 45, op := Op.indexAddr 51 (Operand.tmp 43) (Operand.tmp 44), type := 0, pos := "ref.go:31", after := #[{ on := 25, ground := Ground.data }, { on := 26, ground := Ground.data }, { on := 19, ground := Ground.guard }], guard := some (19, true) }) (v := undef) rfl ?hsh41 ?hfh41 ?hrh41 ?hQh41 ?hyh41 (by assumption) ?resth41
          case hsh41 => kernel_rfl
          case hfh41 => kernel_rfl
          case hrh41 => kernel_rfl
          case hQh41 => exact fun _ _ _ h => h
          case hyh41 => exact Or.inr ⟨by rfl, rfl⟩
          try simp only [Act.put, List.setIfInBounds_toArray, List.set_cons_zero, List.set_cons_succ]
          refine wpAnyH_take (i := 28) (oi := { dst := some 46, op := Op.load 50 (Operand.tmp 45), type := 50, pos := "ref.go:31", after := #[{ on := 27, ground := Ground.data }, { on := 19, ground := Ground.guard }], guard := some (19, true) }) (v := undef) rfl ?hsh42 ?hfh42 ?hrh42 ?hQh42 ?hyh42 (by assumption) ?resth42
          case hsh42 => kernel_rfl
          case hfh42 => kernel_rfl
          case hrh42 => kernel_rfl
          case hQh42 => exact fun _ _ _ h => h
          case hyh42 => exact Or.inr ⟨by rfl, rfl⟩
          try simp only [Act.put, List.setIfInBounds_toArray, List.set_cons_zero, List.set_cons_succ]
          refine wpAnyH_take (i := 29) (oi := { dst := some 47, op := Op.call { callee := Callee.value (Operand.func 92), args := #[Operand.tmp 42, Operand.tmp 46], argTypes := #[50, 50] }, type := 4, pos := "ref.go:31", after := #[{ on := 24, ground := Ground.data }, { on := 28, ground := Ground.data }, { on := 19, ground := Ground.chain }, { on := 19, ground := Ground.guard }], guard := some (19, true) }) (v := undef) rfl ?hsh43 ?hfh43 ?hrh43 ?hQh43 ?hyh43 (by assumption) ?resth43
          case hsh43 => kernel_rfl
          case hfh43 => kernel_rfl
          case hrh43 => kernel_rfl
          case hQh43 => exact fun _ _ _ h => h
          case hyh43 => exact Or.inr ⟨by rfl, rfl⟩
          try simp only [Act.put, List.setIfInBounds_toArray, List.set_cons_zero, List.set_cons_succ]
          refine wpAnyH_take (i := 30) (oi := { dst := some 48, op := Op.unOp UnOp.not 4 (Operand.tmp 47), type := 4, pos := "ref.go:31", after := #[{ on := 29, ground := Ground.data }, { on := 19, ground := Ground.guard }], guard := some (19, true) }) (v := undef) rfl ?hsh44 ?hfh44 ?hrh44 ?hQh44 ?hyh44 (by assumption) ?resth44
          case hsh44 => kernel_rfl
          case hfh44 => kernel_rfl
          case hrh44 => kernel_rfl
          case hQh44 => exact fun _ _ _ h => h
          case hyh44 => exact Or.inr ⟨by rfl, rfl⟩
          try simp only [Act.put, List.setIfInBounds_toArray, List.set_cons_zero, List.set_cons_succ]
          refine wpAnyH_take (i := 31) (oi := { dst := some 49, op := Op.pick (Operand.tmp 37) (Operand.tmp 48) (Operand.const (Value.bool false)), type := 4, pos := "ref.go:31", after := #[{ on := 19, ground := Ground.data }, { on := 30, ground := Ground.data }, { on := 16, ground := Ground.guard }], guard := some (16, false) }) (v := undef) rfl ?hsh45 ?hfh45 ?hrh45 ?hQh45 ?hyh45 (by assumption) ?resth45
          case hsh45 => kernel_rfl
          case hfh45 => kernel_rfl
          case hrh45 => kernel_rfl
          case hQh45 => exact fun _ _ _ h => h
          case hyh45 => exact Or.inr ⟨by rfl, rfl⟩
          try simp only [Act.put, List.setIfInBounds_toArray, List.set_cons_zero, List.set_cons_succ]
          refine wpAnyH_take (i := 32) (oi := { dst := some 50, op := Op.pick (Operand.tmp 34) (Operand.const (Value.bool true)) (Operand.tmp 49), type := 4, pos := "ref.go:31", after := #[{ on := 16, ground := Ground.data }, { on := 31, ground := Ground.data }], guard := none }) (v := ?vh46) rfl ?hsh46 ?hfh46 ?hrh46 ?hQh46 ?hyh46 (by assumption) ?resth46
          case hsh46 => kernel_rfl
          case hfh46 => kernel_rfl
          case hrh46 => kernel_rfl
          case hQh46 => exact fun _ _ _ h => h
          case hyh46 => (refine Or.inl ⟨by rfl, ?_⟩; intro w hSw; (try dsimp only at hSw); go_simp; try with_reducible rfl)
          try simp only [Act.put, List.setIfInBounds_toArray, List.set_cons_zero, List.set_cons_succ]
          refine wpAnyH_done (by kernel_rfl) ?_ _
          refine NoPanic.normal ?_
          clear hHeld Hcall8 Hini9
          have HF := Lib.hid (show listB l = false by rw [HB.out, okTo_false (k := k) (n := n) HOK.out HLT.out, Bool.and_false])
          go_wp2_with fail
          go_ret
          exact ⟨ret_bool HF.out.symm, B13.out⟩
        · have HC1 := Lib.hid c1
          clear c1
          cases c2 : inB q (-1) 1
          · have HC2 := Lib.hid c2
            have HOK := Lib.hid (show okAt l k = false by unfold okAt mvB; rw [HK.out]; dsimp only; rw [c2, Bool.and_false]; rfl)
            clear c2
            go_wp2_with fail
            have hdr53 : Below (wr).heap.size (wr) (wr).drew := (Below.refl _ _).drew
            have lt50 := hbw
            have lt51 := hbw
            have lt52 := hbw
            have hcall54 : ∀ X Y : World, (fun Wz => Wz.cell? ⟨b, off + k * 3, none⟩ = some (.int .i64 p) ∧ Wz.cell? ⟨b, off + k * 3 + 1, none⟩ = some (.int .i64 q) ∧ Wz.cell? ⟨b, off + k * 3 + 2, none⟩ = some (.bool r) ∧ (wr).heap.size ≤ Wz.heap.size) X → Below X.heap.size X Y → (fun Wz => Wz.cell? ⟨b, off + k * 3, none⟩ = some (.int .i64 p) ∧ Wz.cell? ⟨b, off + k * 3 + 1, none⟩ = some (.int .i64 q) ∧ Wz.cell? ⟨b, off + k * 3 + 2, none⟩ = some (.bool r) ∧ (wr).heap.size ≤ Wz.heap.size) Y := by
              rintro X Y ⟨z47, z48, z49, xs⟩ hb
              have hb2 := Below.mono (B' := (wr).heap.size) hb xs
              exact ⟨keepd z47 hb2 lt50, keepd z48 hb2 lt51, keepd z49 hb2 lt52, Nat.le_trans xs hb.size⟩
            have hini55 : (fun Wz => Wz.cell? ⟨b, off + k * 3, none⟩ = some (.int .i64 p) ∧ Wz.cell? ⟨b, off + k * 3 + 1, none⟩ = some (.int .i64 q) ∧ Wz.cell? ⟨b, off + k * 3 + 2, none⟩ = some (.bool r) ∧ (wr).heap.size ≤ Wz.heap.size) (wr).drew := ⟨keepd (y1) hdr53 lt50, keepd (y2) hdr53 lt51, keepd (y3) hdr53 lt52, Nat.le_refl _⟩
            have Hcall54 := Lib.hid hcall54
            have Hini55 := Lib.hid hini55
            clear hcall54 hini55 lt50 lt51 lt52
            refine wp_region_noPanic ?_
            refine wp_region_held_drew (S := (fun Wz => Wz.cell? ⟨b, off + k * 3, none⟩ = some (.int .i64 p) ∧ Wz.cell? ⟨b, off + k * 3 + 1, none⟩ = some (.int .i64 q) ∧ Wz.cell? ⟨b, off + k * 3 + 2, none⟩ = some (.bool r) ∧ (wr).heap.size ≤ Wz.heap.size)) (by kernel_rfl) Hini55.out (fun hHeld => ?_)
            obtain ⟨W57, hW58⟩ : ∃ Wzz, (wr).drew = Wzz := ⟨_, rfl⟩
            rw [hW58] at hHeld hdr53 ⊢
            clear hW58
            have B59 := Lib.hid (HBR.out.trans (hdr53.mono HBR.out.size))
            clear hdr53
            refine wpAnyH_take (i := 0) (oi := { dst := some 18, op := Op.move (Operand.tmp 0), type := 51, pos := "ref.go:31", after := #[], guard := none }) (v := ?vh60) rfl ?hsh60 ?hfh60 ?hrh60 ?hQh60 ?hyh60 (by assumption) ?resth60
            case hsh60 => kernel_rfl
            case hfh60 => kernel_rfl
            case hrh60 => kernel_rfl
            case hQh60 => exact fun _ _ _ h => h
            case hyh60 => (refine Or.inl ⟨by rfl, ?_⟩; intro w hSw; (try dsimp only at hSw); go_simp; try with_reducible rfl)
            try simp only [Act.put, List.setIfInBounds_toArray, List.set_cons_zero, List.set_cons_succ]
            refine wpAnyH_take (i := 1) (oi := { dst := some 19, op := Op.move (Operand.tmp 3), type := 3, pos := "ref.go:31", after := #[], guard := none }) (v := ?vh61) rfl ?hsh61 ?hfh61 ?hrh61 ?hQh61 ?hyh61 (by assumption) ?resth61
            case hsh61 => kernel_rfl
            case hfh61 => kernel_rfl
            case hrh61 => kernel_rfl
            case hQh61 => exact fun _ _ _ h => h
            case hyh61 => (refine Or.inl ⟨by rfl, ?_⟩; intro w hSw; (try dsimp only at hSw); go_simp; try with_reducible rfl)
            try simp only [Act.put, List.setIfInBounds_toArray, List.set_cons_zero, List.set_cons_succ]
            refine wpAnyH_take (i := 2) (oi := { dst := some 20, op := Op.indexAddr 51 (Operand.tmp 18) (Operand.tmp 19), type := 0, pos := "ref.go:31", after := #[{ on := 0, ground := Ground.data }, { on := 1, ground := Ground.data }], guard := none }) (v := ?vh62) rfl ?hsh62 ?hfh62 ?hrh62 ?hQh62 ?hyh62 (by assumption) ?resth62
            case hsh62 => kernel_rfl
            case hfh62 => kernel_rfl
            case hrh62 => kernel_rfl
            case hQh62 => exact fun _ _ _ h => h
            case hyh62 => (refine Or.inl ⟨by rfl, ?_⟩; intro w hSw; (try dsimp only at hSw); go_simp; try with_reducible rfl)
            try simp only [Act.put, List.setIfInBounds_toArray, List.set_cons_zero, List.set_cons_succ]
            refine wpAnyH_take (i := 3) (oi := { dst := some 21, op := Op.fieldAddr 50 (Operand.tmp 20) 0, type := 0, pos := "ref.go:31", after := #[{ on := 2, ground := Ground.data }], guard := none }) (v := ?vh63) rfl ?hsh63 ?hfh63 ?hrh63 ?hQh63 ?hyh63 (by assumption) ?resth63
            case hsh63 => kernel_rfl
            case hfh63 => kernel_rfl
            case hrh63 => kernel_rfl
            case hQh63 => exact fun _ _ _ h => h
            case hyh63 => (refine Or.inl ⟨by rfl, ?_⟩; intro w hSw; (try dsimp only at hSw); go_simp; try with_reducible rfl)
            try simp only [Act.put, List.setIfInBounds_toArray, List.set_cons_zero, List.set_cons_succ]
            refine wpAnyH_take (i := 4) (oi := { dst := some 22, op := Op.load 3 (Operand.tmp 21), type := 3, pos := "ref.go:31", after := #[{ on := 3, ground := Ground.data }], guard := none }) (v := ?vh64) rfl ?hsh64 ?hfh64 ?hrh64 ?hQh64 ?hyh64 (by assumption) ?resth64
            case hsh64 => kernel_rfl
            case hfh64 => kernel_rfl
            case hrh64 => kernel_rfl
            case hQh64 => exact fun _ _ _ h => h
            case hyh64 => (refine Or.inl ⟨by rfl, ?_⟩; intro w hSw; (try dsimp only at hSw); go_simp; try with_reducible rfl)
            try simp only [Act.put, List.setIfInBounds_toArray, List.set_cons_zero, List.set_cons_succ]
            refine wpAnyH_ready (rs := [5]) (by kernel_rfl) (by simp) ?_
            refine AllReadyH.cons (o := _) (by rfl) (fun K hK => ?_) AllReadyH.nil
            go_simp
            go_at_call 91
            refine (kwithin_b p (-1) 1 true HC1.out _).mono ?_; rintro e w' ⟨rfl, rfl⟩
            go_wp2_with fail
            refine hK.out _ _ hHeld (fun hHeld65 => ?_)
            clear hK K hHeld
            have hHeld := hHeld65
            clear hHeld65
            try simp only [Act.put, List.setIfInBounds_toArray, List.set_cons_zero, List.set_cons_succ]
            refine wpAnyH_take (i := 6) (oi := { dst := some 24, op := Op.unOp UnOp.not 4 (Operand.tmp 23), type := 4, pos := "ref.go:31", after := #[{ on := 5, ground := Ground.data }], guard := none }) (v := ?vh66) rfl ?hsh66 ?hfh66 ?hrh66 ?hQh66 ?hyh66 (by assumption) ?resth66
            case hsh66 => kernel_rfl
            case hfh66 => kernel_rfl
            case hrh66 => kernel_rfl
            case hQh66 => exact fun _ _ _ h => h
            case hyh66 => (refine Or.inl ⟨by rfl, ?_⟩; intro w hSw; (try dsimp only at hSw); go_simp; try with_reducible rfl)
            try simp only [Act.put, List.setIfInBounds_toArray, List.set_cons_zero, List.set_cons_succ]
            refine wpAnyH_take (i := 7) (oi := { dst := some 25, op := Op.move (Operand.tmp 24), type := 4, pos := "ref.go:31", after := #[{ on := 6, ground := Ground.data }, { on := 5, ground := Ground.chain }], guard := none }) (v := ?vh67) rfl ?hsh67 ?hfh67 ?hrh67 ?hQh67 ?hyh67 (by assumption) ?resth67
            case hsh67 => kernel_rfl
            case hfh67 => kernel_rfl
            case hrh67 => kernel_rfl
            case hQh67 => exact fun _ _ _ h => h
            case hyh67 => (refine Or.inl ⟨by rfl, ?_⟩; intro w hSw; (try dsimp only at hSw); go_simp; try with_reducible rfl)
            try simp only [Act.put, List.setIfInBounds_toArray, List.set_cons_zero, List.set_cons_succ]
            refine wpAnyH_take (i := 8) (oi := { dst := some 26, op := Op.move (Operand.tmp 0), type := 51, pos := "ref.go:31", after := #[{ on := 7, ground := Ground.guard }], guard := some (7, false) }) (v := ?vh68) rfl ?hsh68 ?hfh68 ?hrh68 ?hQh68 ?hyh68 (by assumption) ?resth68
            case hsh68 => kernel_rfl
            case hfh68 => kernel_rfl
            case hrh68 => kernel_rfl
            case hQh68 => exact fun _ _ _ h => h
            case hyh68 => (refine Or.inl ⟨by rfl, ?_⟩; intro w hSw; (try dsimp only at hSw); go_simp; try with_reducible rfl)
            try simp only [Act.put, List.setIfInBounds_toArray, List.set_cons_zero, List.set_cons_succ]
            refine wpAnyH_take (i := 9) (oi := { dst := some 27, op := Op.move (Operand.tmp 3), type := 3, pos := "ref.go:31", after := #[{ on := 7, ground := Ground.guard }], guard := some (7, false) }) (v := ?vh69) rfl ?hsh69 ?hfh69 ?hrh69 ?hQh69 ?hyh69 (by assumption) ?resth69
            case hsh69 => kernel_rfl
            case hfh69 => kernel_rfl
            case hrh69 => kernel_rfl
            case hQh69 => exact fun _ _ _ h => h
            case hyh69 => (refine Or.inl ⟨by rfl, ?_⟩; intro w hSw; (try dsimp only at hSw); go_simp; try with_reducible rfl)
            try simp only [Act.put, List.setIfInBounds_toArray, List.set_cons_zero, List.set_cons_succ]
            refine wpAnyH_take (i := 10) (oi := { dst := some 28, op := Op.indexAddr 51 (Operand.tmp 26) (Operand.tmp 27), type := 0, pos := "ref.go:31", after := #[{ on := 8, ground := Ground.data }, { on := 9, ground := Ground.data }, { on := 7, ground := Ground.guard }], guard := some (7, false) }) (v := ?vh70) rfl ?hsh70 ?hfh70 ?hrh70 ?hQh70 ?hyh70 (by assumption) ?resth70
            case hsh70 => kernel_rfl
            case hfh70 => kernel_rfl
            case hrh70 => kernel_rfl
            case hQh70 => exact fun _ _ _ h => h
            case hyh70 => (refine Or.inl ⟨by rfl, ?_⟩; intro w hSw; (try dsimp only at hSw); go_simp; try with_reducible rfl)
            try simp only [Act.put, List.setIfInBounds_toArray, List.set_cons_zero, List.set_cons_succ]
            refine wpAnyH_take (i := 11) (oi := { dst := some 29, op := Op.fieldAddr 50 (Operand.tmp 28) 1, type := 0, pos := "ref.go:31", after := #[{ on := 10, ground := Ground.data }, { on := 7, ground := Ground.guard }], guard := some (7, false) }) (v := ?vh71) rfl ?hsh71 ?hfh71 ?hrh71 ?hQh71 ?hyh71 (by assumption) ?resth71
            case hsh71 => kernel_rfl
            case hfh71 => kernel_rfl
            case hrh71 => kernel_rfl
            case hQh71 => exact fun _ _ _ h => h
            case hyh71 => (refine Or.inl ⟨by rfl, ?_⟩; intro w hSw; (try dsimp only at hSw); go_simp; try with_reducible rfl)
            try simp only [Act.put, List.setIfInBounds_toArray, List.set_cons_zero, List.set_cons_succ]
            refine wpAnyH_take (i := 12) (oi := { dst := some 30, op := Op.load 3 (Operand.tmp 29), type := 3, pos := "ref.go:31", after := #[{ on := 11, ground := Ground.data }, { on := 7, ground := Ground.guard }], guard := some (7, false) }) (v := ?vh72) rfl ?hsh72 ?hfh72 ?hrh72 ?hQh72 ?hyh72 (by assumption) ?resth72
            case hsh72 => kernel_rfl
            case hfh72 => kernel_rfl
            case hrh72 => kernel_rfl
            case hQh72 => exact fun _ _ _ h => h
            case hyh72 => (refine Or.inl ⟨by rfl, ?_⟩; intro w hSw; (try dsimp only at hSw); go_simp; try with_reducible rfl)
            try simp only [Act.put, List.setIfInBounds_toArray, List.set_cons_zero, List.set_cons_succ]
            refine wpAnyH_ready (rs := [13]) (by kernel_rfl) (by simp) ?_
            refine AllReadyH.cons (o := _) (by rfl) (fun K hK => ?_) AllReadyH.nil
            go_simp
            go_at_call 91
            refine (kwithin_b q (-1) 1 false HC2.out _).mono ?_; rintro e w' ⟨rfl, rfl⟩
            go_wp2_with fail
            refine hK.out _ _ hHeld (fun hHeld73 => ?_)
            clear hK K hHeld
            have hHeld := hHeld73
            clear hHeld73
            try simp only [Act.put, List.setIfInBounds_toArray, List.set_cons_zero, List.set_cons_succ]
            refine wpAnyH_take (i := 14) (oi := { dst := some 32, op := Op.unOp UnOp.not 4 (Operand.tmp 31), type := 4, pos := "ref.go:31", after := #[{ on := 13, ground := Ground.data }, { on := 7, ground := Ground.guard }], guard := some (7, false) }) (v := ?vh74) rfl ?hsh74 ?hfh74 ?hrh74 ?hQh74 ?hyh74 (by assumption) ?resth74
            case hsh74 => kernel_rfl
            case hfh74 => kernel_rfl
            case hrh74 => kernel_rfl
            case hQh74 => exact fun _ _ _ h => h
            case hyh74 => (refine Or.inl ⟨by rfl, ?_⟩; intro w hSw; (try dsimp only at hSw); go_simp; try with_reducible rfl)
            try simp only [Act.put, List.setIfInBounds_toArray, List.set_cons_zero, List.set_cons_succ]
            refine wpAnyH_take (i := 15) (oi := { dst := some 33, op := Op.pick (Operand.tmp 25) (Operand.const (Value.bool true)) (Operand.tmp 32), type := 4, pos := "ref.go:31", after := #[{ on := 7, ground := Ground.data }, { on := 14, ground := Ground.data }], guard := none }) (v := ?vh75) rfl ?hsh75 ?hfh75 ?hrh75 ?hQh75 ?hyh75 (by assumption) ?resth75
            case hsh75 => kernel_rfl
            case hfh75 => kernel_rfl
            case hrh75 => kernel_rfl
            case hQh75 => exact fun _ _ _ h => h
            case hyh75 => (refine Or.inl ⟨by rfl, ?_⟩; intro w hSw; (try dsimp only at hSw); go_simp; try with_reducible rfl)
            try simp only [Act.put, List.setIfInBounds_toArray, List.set_cons_zero, List.set_cons_succ]
            refine wpAnyH_take (i := 16) (oi := { dst := some 34, op := Op.move (Operand.tmp 33), type := 4, pos := "ref.go:31", after := #[{ on := 15, ground := Ground.data }, { on := 13, ground := Ground.chain }], guard := none }) (v := ?vh76) rfl ?hsh76 ?hfh76 ?hrh76 ?hQh76 ?hyh76 (by assumption) ?resth76
            case hsh76 => kernel_rfl
            case hfh76 => kernel_rfl
            case hrh76 => kernel_rfl
            case hQh76 => exact fun _ _ _ h => h
            case hyh76 => (refine Or.inl ⟨by rfl, ?_⟩; intro w hSw; (try dsimp only at hSw); go_simp; try with_reducible rfl)
            try simp only [Act.put, List.setIfInBounds_toArray, List.set_cons_zero, List.set_cons_succ]
            refine wpAnyH_take (i := 17) (oi := { dst := some 35, op := Op.move (Operand.tmp 3), type := 3, pos := "ref.go:31", after := #[{ on := 16, ground := Ground.guard }], guard := some (16, false) }) (v := undef) rfl ?hsh77 ?hfh77 ?hrh77 ?hQh77 ?hyh77 (by assumption) ?resth77
            case hsh77 => kernel_rfl
            case hfh77 => kernel_rfl
            case hrh77 => kernel_rfl
            case hQh77 => exact fun _ _ _ h => h
            case hyh77 => exact Or.inr ⟨by rfl, rfl⟩
            try simp only [Act.put, List.setIfInBounds_toArray, List.set_cons_zero, List.set_cons_succ]
            refine wpAnyH_take (i := 18) (oi := { dst := some 36, op := Op.binOp BinOp.gtr 3 (Operand.tmp 35) (Operand.const (Value.int IntKind.i64 0)) 3, type := 4, pos := "ref.go:31", after := #[{ on := 17, ground := Ground.data }, { on := 16, ground := Ground.guard }], guard := some (16, false) }) (v := undef) rfl ?hsh78 ?hfh78 ?hrh78 ?hQh78 ?hyh78 (by assumption) ?resth78
            case hsh78 => kernel_rfl
            case hfh78 => kernel_rfl
            case hrh78 => kernel_rfl
            case hQh78 => exact fun _ _ _ h => h
            case hyh78 => exact Or.inr ⟨by rfl, rfl⟩
            try simp only [Act.put, List.setIfInBounds_toArray, List.set_cons_zero, List.set_cons_succ]
            refine wpAnyH_take (i := 19) (oi := { dst := some 37, op := Op.move (Operand.tmp 36), type := 4, pos := "ref.go:31", after := #[{ on := 18, ground := Ground.data }, { on := 16, ground := Ground.chain }, { on := 16, ground := Ground.guard }], guard := some (16, false) }) (v := undef) rfl ?hsh79 ?hfh79 ?hrh79 ?hQh79 ?hyh79 (by assumption) ?resth79
            case hsh79 => kernel_rfl
            case hfh79 => kernel_rfl
            case hrh79 => kernel_rfl
            case hQh79 => exact fun _ _ _ h => h
            case hyh79 => exact Or.inr ⟨by rfl, rfl⟩
            try simp only [Act.put, List.setIfInBounds_toArray, List.set_cons_zero, List.set_cons_succ]
            refine wpAnyH_take (i := 20) (oi := { dst := some 38, op := Op.move (Operand.tmp 0), type := 51, pos := "ref.go:31", after := #[{ on := 19, ground := Ground.guard }], guard := some (19, true) }) (v := undef) rfl ?hsh80 ?hfh80 ?hrh80 ?hQh80 ?hyh80 (by assumption) ?resth80
            case hsh80 => kernel_rfl
            case hfh80 => kernel_rfl
            case hrh80 => kernel_rfl
            case hQh80 => exact fun _ _ _ h => h
            case hyh80 => exact Or.inr ⟨by rfl, rfl⟩
            try simp only [Act.put, List.setIfInBounds_toArray, List.set_cons_zero, List.set_cons_succ]
            refine wpAnyH_take (i := 21) (oi := { dst := some 39, op := Op.move (Operand.tmp 3), type := 3, pos := "ref.go:31", after := #[{ on := 19, ground := Ground.guard }], guard := some (19, true) }) (v := undef) rfl ?hsh81 ?hfh81 ?hrh81 ?hQh81 ?hyh81 (by assumption) ?resth81
            case hsh81 => kernel_rfl
            case hfh81 => kernel_rfl
            case hrh81 => kernel_rfl
            case hQh81 => exact fun _ _ _ h => h
            case hyh81 => exact Or.inr ⟨by rfl, rfl⟩
            try simp only [Act.put, List.setIfInBounds_toArray, List.set_cons_zero, List.set_cons_succ]
            refine wpAnyH_take (i := 22) (oi := { dst := some 40, op := Op.binOp BinOp.sub 3 (Operand.tmp 39) (Operand.const (Value.int IntKind.i64 1)) 3, type := 3, pos := "ref.go:31", after := #[{ on := 21, ground := Ground.data }, { on := 19, ground := Ground.guard }], guard := some (19, true) }) (v := undef) rfl ?hsh82 ?hfh82 ?hrh82 ?hQh82 ?hyh82 (by assumption) ?resth82
            case hsh82 => kernel_rfl
            case hfh82 => kernel_rfl
            case hrh82 => kernel_rfl
            case hQh82 => exact fun _ _ _ h => h
            case hyh82 => exact Or.inr ⟨by rfl, rfl⟩
            try simp only [Act.put, List.setIfInBounds_toArray, List.set_cons_zero, List.set_cons_succ]
            refine wpAnyH_take (i := 23) (oi := { dst := some 41, op := Op.indexAddr 51 (Operand.tmp 38) (Operand.tmp 40), type := 0, pos := "ref.go:31", after := #[{ on := 20, ground := Ground.data }, { on := 22, ground := Ground.data }, { on := 19, ground := Ground.guard }], guard := some (19, true) }) (v := undef) rfl ?hsh83 ?hfh83 ?hrh83 ?hQh83 ?hyh83 (by assumption) ?resth83
            case hsh83 => kernel_rfl
            case hfh83 => kernel_rfl
            case hrh83 => kernel_rfl
            case hQh83 => exact fun _ _ _ h => h
            case hyh83 => exact Or.inr ⟨by rfl, rfl⟩
            try simp only [Act.put, List.setIfInBounds_toArray, List.set_cons_zero, List.set_cons_succ]
            refine wpAnyH_take (i := 24) (oi := { dst := some 42, op := Op.load 50 (Operand.tmp 41), type := 50, pos := "ref.go:31", after := #[{ on := 23, ground := Ground.data }, { on := 19, ground := Ground.guard }], guard := some (19, true) }) (v := undef) rfl ?hsh84 ?hfh84 ?hrh84 ?hQh84 ?hyh84 (by assumption) ?resth84
            case hsh84 => kernel_rfl
            case hfh84 => kernel_rfl
            case hrh84 => kernel_rfl
            case hQh84 => exact fun _ _ _ h => h
            case hyh84 => exact Or.inr ⟨by rfl, rfl⟩
            try simp only [Act.put, List.setIfInBounds_toArray, List.set_cons_zero, List.set_cons_succ]
            refine wpAnyH_take (i := 25) (oi := { dst := some 43, op := Op.move (Operand.tmp 0), type := 51, pos := "ref.go:31", after := #[{ on := 19, ground := Ground.guard }], guard := some (19, true) }) (v := undef) rfl ?hsh85 ?hfh85 ?hrh85 ?hQh85 ?hyh85 (by assumption) ?resth85
            case hsh85 => kernel_rfl
            case hfh85 => kernel_rfl
            case hrh85 => kernel_rfl
            case hQh85 => exact fun _ _ _ h => h
            case hyh85 => exact Or.inr ⟨by rfl, rfl⟩
            try simp only [Act.put, List.setIfInBounds_toArray, List.set_cons_zero, List.set_cons_succ]
            refine wpAnyH_take (i := 26) (oi := { dst := some 44, op := Op.move (Operand.tmp 3), type := 3, pos := "ref.go:31", after := #[{ on := 19, ground := Ground.guard }], guard := some (19, true) }) (v := undef) rfl ?hsh86 ?hfh86 ?hrh86 ?hQh86 ?hyh86 (by assumption) ?resth86
            case hsh86 => kernel_rfl
            case hfh86 => kernel_rfl
            case hrh86 => kernel_rfl
            case hQh86 => exact fun _ _ _ h => h
            case hyh86 => exact Or.inr ⟨by rfl, rfl⟩
            try simp only [Act.put, List.setIfInBounds_toArray, List.set_cons_zero, List.set_cons_succ]
            refine wpAnyH_take (i := 27) (oi := { dst := some 45, op := Op.indexAddr 51 (Operand.tmp 43) (Operand.tmp 44), type := 0, pos := "ref.go:31", after := #[{ on := 25, ground := Ground.data }, { on := 26, ground := Ground.data }, { on := 19, ground := Ground.guard }], guard := some (19, true) }) (v := undef) rfl ?hsh87 ?hfh87 ?hrh87 ?hQh87 ?hyh87 (by assumption) ?resth87
            case hsh87 => kernel_rfl
            case hfh87 => kernel_rfl
            case hrh87 => kernel_rfl
            case hQh87 => exact fun _ _ _ h => h
            case hyh87 => exact Or.inr ⟨by rfl, rfl⟩
            try simp only [Act.put, List.setIfInBounds_toArray, List.set_cons_zero, List.set_cons_succ]
            refine wpAnyH_take (i := 28) (oi := { dst := some 46, op := Op.load 50 (Operand.tmp 45), type := 50, pos := "ref.go:31", after := #[{ on := 27, ground := Ground.data }, { on := 19, ground := Ground.guard }], guard := some (19, true) }) (v := undef) rfl ?hsh88 ?hfh88 ?hrh88 ?hQh88 ?hyh88 (by assumption) ?resth88
            case hsh88 => kernel_rfl
            case hfh88 => kernel_rfl
            case hrh88 => kernel_rfl
            case hQh88 => exact fun _ _ _ h => h
            case hyh88 => exact Or.inr ⟨by rfl, rfl⟩
            try simp only [Act.put, List.setIfInBounds_toArray, List.set_cons_zero, List.set_cons_succ]
            refine wpAnyH_take (i := 29) (oi := { dst := some 47, op := Op.call { callee := Callee.value (Operand.func 92), args := #[Operand.tmp 42, Operand.tmp 46], argTypes := #[50, 50] }, type := 4, pos := "ref.go:31", after := #[{ on := 24, ground := Ground.data }, { on := 28, ground := Ground.data }, { on := 19, ground := Ground.chain }, { on := 19, ground := Ground.guard }], guard := some (19, true) }) (v := undef) rfl ?hsh89 ?hfh89 ?hrh89 ?hQh89 ?hyh89 (by assumption) ?resth89
            case hsh89 => kernel_rfl
            case hfh89 => kernel_rfl
            case hrh89 => kernel_rfl
            case hQh89 => exact fun _ _ _ h => h
            case hyh89 => exact Or.inr ⟨by rfl, rfl⟩
            try simp only [Act.put, List.setIfInBounds_toArray, List.set_cons_zero, List.set_cons_succ]
            refine wpAnyH_take (i := 30) (oi := { dst := some 48, op := Op.unOp UnOp.not 4 (Operand.tmp 47), type := 4, pos := "ref.go:31", after := #[{ on := 29, ground := Ground.data }, { on := 19, ground := Ground.guard }], guard := some (19, true) }) (v := undef) rfl ?hsh90 ?hfh90 ?hrh90 ?hQh90 ?hyh90 (by assumption) ?resth90
            case hsh90 => kernel_rfl
            case hfh90 => kernel_rfl
            case hrh90 => kernel_rfl
            case hQh90 => exact fun _ _ _ h => h
            case hyh90 => exact Or.inr ⟨by rfl, rfl⟩
            try simp only [Act.put, List.setIfInBounds_toArray, List.set_cons_zero, List.set_cons_succ]
            refine wpAnyH_take (i := 31) (oi := { dst := some 49, op := Op.pick (Operand.tmp 37) (Operand.tmp 48) (Operand.const (Value.bool false)), type := 4, pos := "ref.go:31", after := #[{ on := 19, ground := Ground.data }, { on := 30, ground := Ground.data }, { on := 16, ground := Ground.guard }], guard := some (16, false) }) (v := undef) rfl ?hsh91 ?hfh91 ?hrh91 ?hQh91 ?hyh91 (by assumption) ?resth91
            case hsh91 => kernel_rfl
            case hfh91 => kernel_rfl
            case hrh91 => kernel_rfl
            case hQh91 => exact fun _ _ _ h => h
            case hyh91 => exact Or.inr ⟨by rfl, rfl⟩
            try simp only [Act.put, List.setIfInBounds_toArray, List.set_cons_zero, List.set_cons_succ]
            refine wpAnyH_take (i := 32) (oi := { dst := some 50, op := Op.pick (Operand.tmp 34) (Operand.const (Value.bool true)) (Operand.tmp 49), type := 4, pos := "ref.go:31", after := #[{ on := 16, ground := Ground.data }, { on := 31, ground := Ground.data }], guard := none }) (v := ?vh92) rfl ?hsh92 ?hfh92 ?hrh92 ?hQh92 ?hyh92 (by assumption) ?resth92
            case hsh92 => kernel_rfl
            case hfh92 => kernel_rfl
            case hrh92 => kernel_rfl
            case hQh92 => exact fun _ _ _ h => h
            case hyh92 => (refine Or.inl ⟨by rfl, ?_⟩; intro w hSw; (try dsimp only at hSw); go_simp; try with_reducible rfl)
            try simp only [Act.put, List.setIfInBounds_toArray, List.set_cons_zero, List.set_cons_succ]
            refine wpAnyH_done (by kernel_rfl) ?_ _
            refine NoPanic.normal ?_
            clear hHeld Hcall54 Hini55
            have HF := Lib.hid (show listB l = false by rw [HB.out, okTo_false (k := k) (n := n) HOK.out HLT.out, Bool.and_false])
            go_wp2_with fail
            go_ret
            exact ⟨ret_bool HF.out.symm, B59.out⟩
          · have HC2 := Lib.hid c2
            have HMV := Lib.hid (show mvB ⟨p, q, r⟩ = true by unfold mvB; rw [HC1.out, c2]; rfl)
            clear c2
            rcases Nat.eq_zero_or_pos k with rfl | hk0
            · have e3 : decide ((0 : Int) < ((0 : Nat) : Int)) = false := by simp
              have e4 : decide (0 < 0) = false := by simp
              have y1z : wr.cell? ⟨b, off, none⟩ = some (.int .i64 p) := by simpa using y1
              have y2z : wr.cell? ⟨b, off + 1, none⟩ = some (.int .i64 q) := by simpa using y2
              have y3z : wr.cell? ⟨b, off + 2, none⟩ = some (.bool r) := by simpa using y3
              clear y1 y2 y3
              go_wp2_with fail
              have hdr99 : Below (wr).heap.size (wr) (wr).drew := (Below.refl _ _).drew
              have lt96 := hbw
              have lt97 := hbw
              have lt98 := hbw
              have hcall100 : ∀ X Y : World, (fun Wz => Wz.cell? ⟨b, off, none⟩ = some (.int .i64 p) ∧ Wz.cell? ⟨b, off + 1, none⟩ = some (.int .i64 q) ∧ Wz.cell? ⟨b, off + 2, none⟩ = some (.bool r) ∧ (wr).heap.size ≤ Wz.heap.size) X → Below X.heap.size X Y → (fun Wz => Wz.cell? ⟨b, off, none⟩ = some (.int .i64 p) ∧ Wz.cell? ⟨b, off + 1, none⟩ = some (.int .i64 q) ∧ Wz.cell? ⟨b, off + 2, none⟩ = some (.bool r) ∧ (wr).heap.size ≤ Wz.heap.size) Y := by
                rintro X Y ⟨z93, z94, z95, xs⟩ hb
                have hb2 := Below.mono (B' := (wr).heap.size) hb xs
                exact ⟨keepd z93 hb2 lt96, keepd z94 hb2 lt97, keepd z95 hb2 lt98, Nat.le_trans xs hb.size⟩
              have hini101 : (fun Wz => Wz.cell? ⟨b, off, none⟩ = some (.int .i64 p) ∧ Wz.cell? ⟨b, off + 1, none⟩ = some (.int .i64 q) ∧ Wz.cell? ⟨b, off + 2, none⟩ = some (.bool r) ∧ (wr).heap.size ≤ Wz.heap.size) (wr).drew := ⟨keepd (y1z) hdr99 lt96, keepd (y2z) hdr99 lt97, keepd (y3z) hdr99 lt98, Nat.le_refl _⟩
              have Hcall100 := Lib.hid hcall100
              have Hini101 := Lib.hid hini101
              clear hcall100 hini101 lt96 lt97 lt98
              refine wp_region_noPanic ?_
              refine wp_region_held_drew (S := (fun Wz => Wz.cell? ⟨b, off, none⟩ = some (.int .i64 p) ∧ Wz.cell? ⟨b, off + 1, none⟩ = some (.int .i64 q) ∧ Wz.cell? ⟨b, off + 2, none⟩ = some (.bool r) ∧ (wr).heap.size ≤ Wz.heap.size)) (by kernel_rfl) Hini101.out (fun hHeld => ?_)
              obtain ⟨W103, hW104⟩ : ∃ Wzz, (wr).drew = Wzz := ⟨_, rfl⟩
              rw [hW104] at hHeld hdr99 ⊢
              clear hW104
              have B105 := Lib.hid (HBR.out.trans (hdr99.mono HBR.out.size))
              clear hdr99
              refine wpAnyH_take (i := 0) (oi := { dst := some 18, op := Op.move (Operand.tmp 0), type := 51, pos := "ref.go:31", after := #[], guard := none }) (v := ?vh106) rfl ?hsh106 ?hfh106 ?hrh106 ?hQh106 ?hyh106 (by assumption) ?resth106
              case hsh106 => kernel_rfl
              case hfh106 => kernel_rfl
              case hrh106 => kernel_rfl
              case hQh106 => exact fun _ _ _ h => h
              case hyh106 => (refine Or.inl ⟨by rfl, ?_⟩; intro w hSw; (try dsimp only at hSw); go_simp; try with_reducible rfl)
              try simp only [Act.put, List.setIfInBounds_toArray, List.set_cons_zero, List.set_cons_succ]
              refine wpAnyH_take (i := 1) (oi := { dst := some 19, op := Op.move (Operand.tmp 3), type := 3, pos := "ref.go:31", after := #[], guard := none }) (v := ?vh107) rfl ?hsh107 ?hfh107 ?hrh107 ?hQh107 ?hyh107 (by assumption) ?resth107
              case hsh107 => kernel_rfl
              case hfh107 => kernel_rfl
              case hrh107 => kernel_rfl
              case hQh107 => exact fun _ _ _ h => h
              case hyh107 => (refine Or.inl ⟨by rfl, ?_⟩; intro w hSw; (try dsimp only at hSw); go_simp; try with_reducible rfl)
              try simp only [Act.put, List.setIfInBounds_toArray, List.set_cons_zero, List.set_cons_succ]
              refine wpAnyH_take (i := 2) (oi := { dst := some 20, op := Op.indexAddr 51 (Operand.tmp 18) (Operand.tmp 19), type := 0, pos := "ref.go:31", after := #[{ on := 0, ground := Ground.data }, { on := 1, ground := Ground.data }], guard := none }) (v := ?vh108) rfl ?hsh108 ?hfh108 ?hrh108 ?hQh108 ?hyh108 (by assumption) ?resth108
              case hsh108 => kernel_rfl
              case hfh108 => kernel_rfl
              case hrh108 => kernel_rfl
              case hQh108 => exact fun _ _ _ h => h
              case hyh108 => (refine Or.inl ⟨by rfl, ?_⟩; intro w hSw; (try dsimp only at hSw); go_simp; try with_reducible rfl)
              try simp only [Act.put, List.setIfInBounds_toArray, List.set_cons_zero, List.set_cons_succ]
              refine wpAnyH_take (i := 3) (oi := { dst := some 21, op := Op.fieldAddr 50 (Operand.tmp 20) 0, type := 0, pos := "ref.go:31", after := #[{ on := 2, ground := Ground.data }], guard := none }) (v := ?vh109) rfl ?hsh109 ?hfh109 ?hrh109 ?hQh109 ?hyh109 (by assumption) ?resth109
              case hsh109 => kernel_rfl
              case hfh109 => kernel_rfl
              case hrh109 => kernel_rfl
              case hQh109 => exact fun _ _ _ h => h
              case hyh109 => (refine Or.inl ⟨by rfl, ?_⟩; intro w hSw; (try dsimp only at hSw); go_simp; try with_reducible rfl)
              try simp only [Act.put, List.setIfInBounds_toArray, List.set_cons_zero, List.set_cons_succ]
              refine wpAnyH_take (i := 4) (oi := { dst := some 22, op := Op.load 3 (Operand.tmp 21), type := 3, pos := "ref.go:31", after := #[{ on := 3, ground := Ground.data }], guard := none }) (v := ?vh110) rfl ?hsh110 ?hfh110 ?hrh110 ?hQh110 ?hyh110 (by assumption) ?resth110
              case hsh110 => kernel_rfl
              case hfh110 => kernel_rfl
              case hrh110 => kernel_rfl
              case hQh110 => exact fun _ _ _ h => h
              case hyh110 => (refine Or.inl ⟨by rfl, ?_⟩; intro w hSw; (try dsimp only at hSw); go_simp; try with_reducible rfl)
              try simp only [Act.put, List.setIfInBounds_toArray, List.set_cons_zero, List.set_cons_succ]
              refine wpAnyH_ready (rs := [5]) (by kernel_rfl) (by simp) ?_
              refine AllReadyH.cons (o := _) (by rfl) (fun K hK => ?_) AllReadyH.nil
              go_simp
              go_at_call 91
              refine (kwithin_b p (-1) 1 true HC1.out _).mono ?_; rintro e w' ⟨rfl, rfl⟩
              go_wp2_with fail
              refine hK.out _ _ hHeld (fun hHeld111 => ?_)
              clear hK K hHeld
              have hHeld := hHeld111
              clear hHeld111
              try simp only [Act.put, List.setIfInBounds_toArray, List.set_cons_zero, List.set_cons_succ]
              refine wpAnyH_take (i := 6) (oi := { dst := some 24, op := Op.unOp UnOp.not 4 (Operand.tmp 23), type := 4, pos := "ref.go:31", after := #[{ on := 5, ground := Ground.data }], guard := none }) (v := ?vh112) rfl ?hsh112 ?hfh112 ?hrh112 ?hQh112 ?hyh112 (by assumption) ?resth112
              case hsh112 => kernel_rfl
              case hfh112 => kernel_rfl
              case hrh112 => kernel_rfl
              case hQh112 => exact fun _ _ _ h => h
              case hyh112 => (refine Or.inl ⟨by rfl, ?_⟩; intro w hSw; (try dsimp only at hSw); go_simp; try with_reducible rfl)
              try simp only [Act.put, List.setIfInBounds_toArray, List.set_cons_zero, List.set_cons_succ]
              refine wpAnyH_take (i := 7) (oi := { dst := some 25, op := Op.move (Operand.tmp 24), type := 4, pos := "ref.go:31", after := #[{ on := 6, ground := Ground.data }, { on := 5, ground := Ground.chain }], guard := none }) (v := ?vh113) rfl ?hsh113 ?hfh113 ?hrh113 ?hQh113 ?hyh113 (by assumption) ?resth113
              case hsh113 => kernel_rfl
              case hfh113 => kernel_rfl
              case hrh113 => kernel_rfl
              case hQh113 => exact fun _ _ _ h => h
              case hyh113 => (refine Or.inl ⟨by rfl, ?_⟩; intro w hSw; (try dsimp only at hSw); go_simp; try with_reducible rfl)
              try simp only [Act.put, List.setIfInBounds_toArray, List.set_cons_zero, List.set_cons_succ]
              refine wpAnyH_take (i := 8) (oi := { dst := some 26, op := Op.move (Operand.tmp 0), type := 51, pos := "ref.go:31", after := #[{ on := 7, ground := Ground.guard }], guard := some (7, false) }) (v := ?vh114) rfl ?hsh114 ?hfh114 ?hrh114 ?hQh114 ?hyh114 (by assumption) ?resth114
              case hsh114 => kernel_rfl
              case hfh114 => kernel_rfl
              case hrh114 => kernel_rfl
              case hQh114 => exact fun _ _ _ h => h
              case hyh114 => (refine Or.inl ⟨by rfl, ?_⟩; intro w hSw; (try dsimp only at hSw); go_simp; try with_reducible rfl)
              try simp only [Act.put, List.setIfInBounds_toArray, List.set_cons_zero, List.set_cons_succ]
              refine wpAnyH_take (i := 9) (oi := { dst := some 27, op := Op.move (Operand.tmp 3), type := 3, pos := "ref.go:31", after := #[{ on := 7, ground := Ground.guard }], guard := some (7, false) }) (v := ?vh115) rfl ?hsh115 ?hfh115 ?hrh115 ?hQh115 ?hyh115 (by assumption) ?resth115
              case hsh115 => kernel_rfl
              case hfh115 => kernel_rfl
              case hrh115 => kernel_rfl
              case hQh115 => exact fun _ _ _ h => h
              case hyh115 => (refine Or.inl ⟨by rfl, ?_⟩; intro w hSw; (try dsimp only at hSw); go_simp; try with_reducible rfl)
              try simp only [Act.put, List.setIfInBounds_toArray, List.set_cons_zero, List.set_cons_succ]
              refine wpAnyH_take (i := 10) (oi := { dst := some 28, op := Op.indexAddr 51 (Operand.tmp 26) (Operand.tmp 27), type := 0, pos := "ref.go:31", after := #[{ on := 8, ground := Ground.data }, { on := 9, ground := Ground.data }, { on := 7, ground := Ground.guard }], guard := some (7, false) }) (v := ?vh116) rfl ?hsh116 ?hfh116 ?hrh116 ?hQh116 ?hyh116 (by assumption) ?resth116
              case hsh116 => kernel_rfl
              case hfh116 => kernel_rfl
              case hrh116 => kernel_rfl
              case hQh116 => exact fun _ _ _ h => h
              case hyh116 => (refine Or.inl ⟨by rfl, ?_⟩; intro w hSw; (try dsimp only at hSw); go_simp; try with_reducible rfl)
              try simp only [Act.put, List.setIfInBounds_toArray, List.set_cons_zero, List.set_cons_succ]
              refine wpAnyH_take (i := 11) (oi := { dst := some 29, op := Op.fieldAddr 50 (Operand.tmp 28) 1, type := 0, pos := "ref.go:31", after := #[{ on := 10, ground := Ground.data }, { on := 7, ground := Ground.guard }], guard := some (7, false) }) (v := ?vh117) rfl ?hsh117 ?hfh117 ?hrh117 ?hQh117 ?hyh117 (by assumption) ?resth117
              case hsh117 => kernel_rfl
              case hfh117 => kernel_rfl
              case hrh117 => kernel_rfl
              case hQh117 => exact fun _ _ _ h => h
              case hyh117 => (refine Or.inl ⟨by rfl, ?_⟩; intro w hSw; (try dsimp only at hSw); go_simp; try with_reducible rfl)
              try simp only [Act.put, List.setIfInBounds_toArray, List.set_cons_zero, List.set_cons_succ]
              refine wpAnyH_take (i := 12) (oi := { dst := some 30, op := Op.load 3 (Operand.tmp 29), type := 3, pos := "ref.go:31", after := #[{ on := 11, ground := Ground.data }, { on := 7, ground := Ground.guard }], guard := some (7, false) }) (v := ?vh118) rfl ?hsh118 ?hfh118 ?hrh118 ?hQh118 ?hyh118 (by assumption) ?resth118
              case hsh118 => kernel_rfl
              case hfh118 => kernel_rfl
              case hrh118 => kernel_rfl
              case hQh118 => exact fun _ _ _ h => h
              case hyh118 => (refine Or.inl ⟨by rfl, ?_⟩; intro w hSw; (try dsimp only at hSw); go_simp; try with_reducible rfl)
              try simp only [Act.put, List.setIfInBounds_toArray, List.set_cons_zero, List.set_cons_succ]
              refine wpAnyH_ready (rs := [13]) (by kernel_rfl) (by simp) ?_
              refine AllReadyH.cons (o := _) (by rfl) (fun K hK => ?_) AllReadyH.nil
              go_simp
              go_at_call 91
              refine (kwithin_b q (-1) 1 true HC2.out _).mono ?_; rintro e w' ⟨rfl, rfl⟩
              go_wp2_with fail
              refine hK.out _ _ hHeld (fun hHeld119 => ?_)
              clear hK K hHeld
              have hHeld := hHeld119
              clear hHeld119
              try simp only [Act.put, List.setIfInBounds_toArray, List.set_cons_zero, List.set_cons_succ]
              refine wpAnyH_take (i := 14) (oi := { dst := some 32, op := Op.unOp UnOp.not 4 (Operand.tmp 31), type := 4, pos := "ref.go:31", after := #[{ on := 13, ground := Ground.data }, { on := 7, ground := Ground.guard }], guard := some (7, false) }) (v := ?vh120) rfl ?hsh120 ?hfh120 ?hrh120 ?hQh120 ?hyh120 (by assumption) ?resth120
              case hsh120 => kernel_rfl
              case hfh120 => kernel_rfl
              case hrh120 => kernel_rfl
              case hQh120 => exact fun _ _ _ h => h
              case hyh120 => (refine Or.inl ⟨by rfl, ?_⟩; intro w hSw; (try dsimp only at hSw); go_simp; try with_reducible rfl)
              try simp only [Act.put, List.setIfInBounds_toArray, List.set_cons_zero, List.set_cons_succ]
              refine wpAnyH_take (i := 15) (oi := { dst := some 33, op := Op.pick (Operand.tmp 25) (Operand.const (Value.bool true)) (Operand.tmp 32), type := 4, pos := "ref.go:31", after := #[{ on := 7, ground := Ground.data }, { on := 14, ground := Ground.data }], guard := none }) (v := ?vh121) rfl ?hsh121 ?hfh121 ?hrh121 ?hQh121 ?hyh121 (by assumption) ?resth121
              case hsh121 => kernel_rfl
              case hfh121 => kernel_rfl
              case hrh121 => kernel_rfl
              case hQh121 => exact fun _ _ _ h => h
              case hyh121 => (refine Or.inl ⟨by rfl, ?_⟩; intro w hSw; (try dsimp only at hSw); go_simp; try with_reducible rfl)
              try simp only [Act.put, List.setIfInBounds_toArray, List.set_cons_zero, List.set_cons_succ]
              refine wpAnyH_take (i := 16) (oi := { dst := some 34, op := Op.move (Operand.tmp 33), type := 4, pos := "ref.go:31", after := #[{ on := 15, ground := Ground.data }, { on := 13, ground := Ground.chain }], guard := none }) (v := ?vh122) rfl ?hsh122 ?hfh122 ?hrh122 ?hQh122 ?hyh122 (by assumption) ?resth122
              case hsh122 => kernel_rfl
              case hfh122 => kernel_rfl
              case hrh122 => kernel_rfl
              case hQh122 => exact fun _ _ _ h => h
              case hyh122 => (refine Or.inl ⟨by rfl, ?_⟩; intro w hSw; (try dsimp only at hSw); go_simp; try with_reducible rfl)
              try simp only [Act.put, List.setIfInBounds_toArray, List.set_cons_zero, List.set_cons_succ]
              refine wpAnyH_take (i := 17) (oi := { dst := some 35, op := Op.move (Operand.tmp 3), type := 3, pos := "ref.go:31", after := #[{ on := 16, ground := Ground.guard }], guard := some (16, false) }) (v := ?vh123) rfl ?hsh123 ?hfh123 ?hrh123 ?hQh123 ?hyh123 (by assumption) ?resth123
              case hsh123 => kernel_rfl
              case hfh123 => kernel_rfl
              case hrh123 => kernel_rfl
              case hQh123 => exact fun _ _ _ h => h
              case hyh123 => (refine Or.inl ⟨by rfl, ?_⟩; intro w hSw; (try dsimp only at hSw); go_simp; try with_reducible rfl)
              try simp only [Act.put, List.setIfInBounds_toArray, List.set_cons_zero, List.set_cons_succ]
              refine wpAnyH_take (i := 18) (oi := { dst := some 36, op := Op.binOp BinOp.gtr 3 (Operand.tmp 35) (Operand.const (Value.int IntKind.i64 0)) 3, type := 4, pos := "ref.go:31", after := #[{ on := 17, ground := Ground.data }, { on := 16, ground := Ground.guard }], guard := some (16, false) }) (v := ?vh124) rfl ?hsh124 ?hfh124 ?hrh124 ?hQh124 ?hyh124 (by assumption) ?resth124
              case hsh124 => kernel_rfl
              case hfh124 => kernel_rfl
              case hrh124 => kernel_rfl
              case hQh124 => exact fun _ _ _ h => h
              case hyh124 => (refine Or.inl ⟨by rfl, ?_⟩; intro w hSw; (try dsimp only at hSw); go_simp; try with_reducible rfl)
              try simp only [Act.put, List.setIfInBounds_toArray, List.set_cons_zero, List.set_cons_succ]
              refine wpAnyH_take (i := 19) (oi := { dst := some 37, op := Op.move (Operand.tmp 36), type := 4, pos := "ref.go:31", after := #[{ on := 18, ground := Ground.data }, { on := 16, ground := Ground.chain }, { on := 16, ground := Ground.guard }], guard := some (16, false) }) (v := ?vh125) rfl ?hsh125 ?hfh125 ?hrh125 ?hQh125 ?hyh125 (by assumption) ?resth125
              case hsh125 => kernel_rfl
              case hfh125 => kernel_rfl
              case hrh125 => kernel_rfl
              case hQh125 => exact fun _ _ _ h => h
              case hyh125 => (refine Or.inl ⟨by rfl, ?_⟩; intro w hSw; (try dsimp only at hSw); go_simp; try with_reducible rfl)
              try simp only [Act.put, List.setIfInBounds_toArray, List.set_cons_zero, List.set_cons_succ]
              refine wpAnyH_take (i := 20) (oi := { dst := some 38, op := Op.move (Operand.tmp 0), type := 51, pos := "ref.go:31", after := #[{ on := 19, ground := Ground.guard }], guard := some (19, true) }) (v := undef) rfl ?hsh126 ?hfh126 ?hrh126 ?hQh126 ?hyh126 (by assumption) ?resth126
              case hsh126 => kernel_rfl
              case hfh126 => kernel_rfl
              case hrh126 => kernel_rfl
              case hQh126 => exact fun _ _ _ h => h
              case hyh126 => exact Or.inr ⟨by rfl, rfl⟩
              try simp only [Act.put, List.setIfInBounds_toArray, List.set_cons_zero, List.set_cons_succ]
              refine wpAnyH_take (i := 21) (oi := { dst := some 39, op := Op.move (Operand.tmp 3), type := 3, pos := "ref.go:31", after := #[{ on := 19, ground := Ground.guard }], guard := some (19, true) }) (v := undef) rfl ?hsh127 ?hfh127 ?hrh127 ?hQh127 ?hyh127 (by assumption) ?resth127
              case hsh127 => kernel_rfl
              case hfh127 => kernel_rfl
              case hrh127 => kernel_rfl
              case hQh127 => exact fun _ _ _ h => h
              case hyh127 => exact Or.inr ⟨by rfl, rfl⟩
              try simp only [Act.put, List.setIfInBounds_toArray, List.set_cons_zero, List.set_cons_succ]
              refine wpAnyH_take (i := 22) (oi := { dst := some 40, op := Op.binOp BinOp.sub 3 (Operand.tmp 39) (Operand.const (Value.int IntKind.i64 1)) 3, type := 3, pos := "ref.go:31", after := #[{ on := 21, ground := Ground.data }, { on := 19, ground := Ground.guard }], guard := some (19, true) }) (v := undef) rfl ?hsh128 ?hfh128 ?hrh128 ?hQh128 ?hyh128 (by assumption) ?resth128
              case hsh128 => kernel_rfl
              case hfh128 => kernel_rfl
              case hrh128 => kernel_rfl
              case hQh128 => exact fun _ _ _ h => h
              case hyh128 => exact Or.inr ⟨by rfl, rfl⟩
              try simp only [Act.put, List.setIfInBounds_toArray, List.set_cons_zero, List.set_cons_succ]
              refine wpAnyH_take (i := 23) (oi := { dst := some 41, op := Op.indexAddr 51 (Operand.tmp 38) (Operand.tmp 40), type := 0, pos := "ref.go:31", after := #[{ on := 20, ground := Ground.data }, { on := 22, ground := Ground.data }, { on := 19, ground := Ground.guard }], guard := some (19, true) }) (v := undef) rfl ?hsh129 ?hfh129 ?hrh129 ?hQh129 ?hyh129 (by assumption) ?resth129
              case hsh129 => kernel_rfl
              case hfh129 => kernel_rfl
              case hrh129 => kernel_rfl
              case hQh129 => exact fun _ _ _ h => h
              case hyh129 => exact Or.inr ⟨by rfl, rfl⟩
              try simp only [Act.put, List.setIfInBounds_toArray, List.set_cons_zero, List.set_cons_succ]
              refine wpAnyH_take (i := 24) (oi := { dst := some 42, op := Op.load 50 (Operand.tmp 41), type := 50, pos := "ref.go:31", after := #[{ on := 23, ground := Ground.data }, { on := 19, ground := Ground.guard }], guard := some (19, true) }) (v := undef) rfl ?hsh130 ?hfh130 ?hrh130 ?hQh130 ?hyh130 (by assumption) ?resth130
              case hsh130 => kernel_rfl
              case hfh130 => kernel_rfl
              case hrh130 => kernel_rfl
              case hQh130 => exact fun _ _ _ h => h
              case hyh130 => exact Or.inr ⟨by rfl, rfl⟩
              try simp only [Act.put, List.setIfInBounds_toArray, List.set_cons_zero, List.set_cons_succ]
              refine wpAnyH_take (i := 25) (oi := { dst := some 43, op := Op.move (Operand.tmp 0), type := 51, pos := "ref.go:31", after := #[{ on := 19, ground := Ground.guard }], guard := some (19, true) }) (v := undef) rfl ?hsh131 ?hfh131 ?hrh131 ?hQh131 ?hyh131 (by assumption) ?resth131
              case hsh131 => kernel_rfl
              case hfh131 => kernel_rfl
              case hrh131 => kernel_rfl
              case hQh131 => exact fun _ _ _ h => h
              case hyh131 => exact Or.inr ⟨by rfl, rfl⟩
              try simp only [Act.put, List.setIfInBounds_toArray, List.set_cons_zero, List.set_cons_succ]
              refine wpAnyH_take (i := 26) (oi := { dst := some 44, op := Op.move (Operand.tmp 3), type := 3, pos := "ref.go:31", after := #[{ on := 19, ground := Ground.guard }], guard := some (19, true) }) (v := undef) rfl ?hsh132 ?hfh132 ?hrh132 ?hQh132 ?hyh132 (by assumption) ?resth132
              case hsh132 => kernel_rfl
              case hfh132 => kernel_rfl
              case hrh132 => kernel_rfl
              case hQh132 => exact fun _ _ _ h => h
              case hyh132 => exact Or.inr ⟨by rfl, rfl⟩
              try simp only [Act.put, List.setIfInBounds_toArray, List.set_cons_zero, List.set_cons_succ]
              refine wpAnyH_take (i := 27) (oi := { dst := some 45, op := Op.indexAddr 51 (Operand.tmp 43) (Operand.tmp 44), type := 0, pos := "ref.go:31", after := #[{ on := 25, ground := Ground.data }, { on := 26, ground := Ground.data }, { on := 19, ground := Ground.guard }], guard := some (19, true) }) (v := undef) rfl ?hsh133 ?hfh133 ?hrh133 ?hQh133 ?hyh133 (by assumption) ?resth133
              case hsh133 => kernel_rfl
              case hfh133 => kernel_rfl
              case hrh133 => kernel_rfl
              case hQh133 => exact fun _ _ _ h => h
              case hyh133 => exact Or.inr ⟨by rfl, rfl⟩
              try simp only [Act.put, List.setIfInBounds_toArray, List.set_cons_zero, List.set_cons_succ]
              refine wpAnyH_take (i := 28) (oi := { dst := some 46, op := Op.load 50 (Operand.tmp 45), type := 50, pos := "ref.go:31", after := #[{ on := 27, ground := Ground.data }, { on := 19, ground := Ground.guard }], guard := some (19, true) }) (v := undef) rfl ?hsh134 ?hfh134 ?hrh134 ?hQh134 ?hyh134 (by assumption) ?resth134
              case hsh134 => kernel_rfl
              case hfh134 => kernel_rfl
              case hrh134 => kernel_rfl
              case hQh134 => exact fun _ _ _ h => h
              case hyh134 => exact Or.inr ⟨by rfl, rfl⟩
              try simp only [Act.put, List.setIfInBounds_toArray, List.set_cons_zero, List.set_cons_succ]
              refine wpAnyH_take (i := 29) (oi := { dst := some 47, op := Op.call { callee := Callee.value (Operand.func 92), args := #[Operand.tmp 42, Operand.tmp 46], argTypes := #[50, 50] }, type := 4, pos := "ref.go:31", after := #[{ on := 24, ground := Ground.data }, { on := 28, ground := Ground.data }, { on := 19, ground := Ground.chain }, { on := 19, ground := Ground.guard }], guard := some (19, true) }) (v := undef) rfl ?hsh135 ?hfh135 ?hrh135 ?hQh135 ?hyh135 (by assumption) ?resth135
              case hsh135 => kernel_rfl
              case hfh135 => kernel_rfl
              case hrh135 => kernel_rfl
              case hQh135 => exact fun _ _ _ h => h
              case hyh135 => exact Or.inr ⟨by rfl, rfl⟩
              try simp only [Act.put, List.setIfInBounds_toArray, List.set_cons_zero, List.set_cons_succ]
              refine wpAnyH_take (i := 30) (oi := { dst := some 48, op := Op.unOp UnOp.not 4 (Operand.tmp 47), type := 4, pos := "ref.go:31", after := #[{ on := 29, ground := Ground.data }, { on := 19, ground := Ground.guard }], guard := some (19, true) }) (v := undef) rfl ?hsh136 ?hfh136 ?hrh136 ?hQh136 ?hyh136 (by assumption) ?resth136
              case hsh136 => kernel_rfl
              case hfh136 => kernel_rfl
              case hrh136 => kernel_rfl
              case hQh136 => exact fun _ _ _ h => h
              case hyh136 => exact Or.inr ⟨by rfl, rfl⟩
              try simp only [Act.put, List.setIfInBounds_toArray, List.set_cons_zero, List.set_cons_succ]
              refine wpAnyH_take (i := 31) (oi := { dst := some 49, op := Op.pick (Operand.tmp 37) (Operand.tmp 48) (Operand.const (Value.bool false)), type := 4, pos := "ref.go:31", after := #[{ on := 19, ground := Ground.data }, { on := 30, ground := Ground.data }, { on := 16, ground := Ground.guard }], guard := some (16, false) }) (v := ?vh137) rfl ?hsh137 ?hfh137 ?hrh137 ?hQh137 ?hyh137 (by assumption) ?resth137
              case hsh137 => kernel_rfl
              case hfh137 => kernel_rfl
              case hrh137 => kernel_rfl
              case hQh137 => exact fun _ _ _ h => h
              case hyh137 => (refine Or.inl ⟨by rfl, ?_⟩; intro w hSw; (try dsimp only at hSw); go_simp; try with_reducible rfl)
              try simp only [Act.put, List.setIfInBounds_toArray, List.set_cons_zero, List.set_cons_succ]
              refine wpAnyH_take (i := 32) (oi := { dst := some 50, op := Op.pick (Operand.tmp 34) (Operand.const (Value.bool true)) (Operand.tmp 49), type := 4, pos := "ref.go:31", after := #[{ on := 16, ground := Ground.data }, { on := 31, ground := Ground.data }], guard := none }) (v := ?vh138) rfl ?hsh138 ?hfh138 ?hrh138 ?hQh138 ?hyh138 (by assumption) ?resth138
              case hsh138 => kernel_rfl
              case hfh138 => kernel_rfl
              case hrh138 => kernel_rfl
              case hQh138 => exact fun _ _ _ h => h
              case hyh138 => (refine Or.inl ⟨by rfl, ?_⟩; intro w hSw; (try dsimp only at hSw); go_simp; try with_reducible rfl)
              try simp only [Act.put, List.setIfInBounds_toArray, List.set_cons_zero, List.set_cons_succ]
              refine wpAnyH_done (by kernel_rfl) ?_ _
              refine NoPanic.normal ?_
              clear hHeld Hcall100 Hini101
              have HOK := Lib.hid (show okAt l 0 = true by unfold okAt; rw [HK.out, HMV.out]; simp)
              go_wp2_with fail
              go_roundw
              case rel => exact ⟨0 + 1, by have := HLT.out; omega, by go_num, by rw [okTo, HALL.out, HOK.out]; rfl, B105.out⟩
              case measure => have := HLT.out; simp [intOf]; omega
            · obtain ⟨j, rfl⟩ : ∃ j, k = j + 1 := ⟨k - 1, by omega⟩
              obtain ⟨kk, hkk⟩ : ∃ kk : Nat, j + 1 = kk := ⟨_, rfl⟩
              have HKJ := Lib.hid hkk
              obtain ⟨b', off', c'', hv, hbB, x1, x2, x3⟩ := HMR.out.at (k := j) (by rw [HN.out]; have := HLT.out; omega)
              rw [HN.out] at hv
              cases hv
              obtain ⟨⟨a0, a1, a2⟩, hm0⟩ : ∃ m, nthM l j = m := ⟨_, rfl⟩
              have HJ := Lib.hid hm0
              rw [hm0] at x1 x2 x3
              dsimp only at x1 x2 x3
              clear hm0 hbB
              rw [hkk] at HK HALL HLT hk0 hk i0 i1 hdk y1 y2 y3 ⊢
              have HKI := Lib.hid (show (j : Int) + 1 = (kk : Int) by omega)
              have wk : IntKind.i64.wrap ((kk : Int) - 1) = (j : Int) := by rw [← HKI.out, show (j : Int) + 1 - 1 = (j : Int) by omega]; exact wrap_id (by omega) (by have := HLT.out; have := hn1; omega)
              have e3 : decide ((0 : Int) < (kk : Int)) = true := by simp; omega
              have e4 : decide (0 < kk) = true := by simp; omega
              have j0 : (0 : Int) ≤ (j : Int) := Int.natCast_nonneg _
              have j1 : (j : Int) < (n : Int) := by have := HLT.out; omega
              obtain ⟨z, hz⟩ : ∃ z, bfB ⟨a0, a1, a2⟩ ⟨p, q, r⟩ = z := ⟨_, rfl⟩
              have HZ := Lib.hid hz
              clear hkk hk0 hz
              go_wp2_with fail
              have hdr151 : Below (wr).heap.size (wr) (wr).drew := (Below.refl _ _).drew
              have lt145 := hbw
              have lt146 := hbw
              have lt147 := hbw
              have lt148 := hbw
              have lt149 := hbw
              have lt150 := hbw
              have hcall152 : ∀ X Y : World, (fun Wz => Wz.cell? ⟨b, off + kk * 3, none⟩ = some (.int .i64 p) ∧ Wz.cell? ⟨b, off + kk * 3 + 1, none⟩ = some (.int .i64 q) ∧ Wz.cell? ⟨b, off + kk * 3 + 2, none⟩ = some (.bool r) ∧ Wz.cell? ⟨b, off + j * 3, none⟩ = some (.int .i64 a0) ∧ Wz.cell? ⟨b, off + j * 3 + 1, none⟩ = some (.int .i64 a1) ∧ Wz.cell? ⟨b, off + j * 3 + 2, none⟩ = some (.bool a2) ∧ (wr).heap.size ≤ Wz.heap.size) X → Below X.heap.size X Y → (fun Wz => Wz.cell? ⟨b, off + kk * 3, none⟩ = some (.int .i64 p) ∧ Wz.cell? ⟨b, off + kk * 3 + 1, none⟩ = some (.int .i64 q) ∧ Wz.cell? ⟨b, off + kk * 3 + 2, none⟩ = some (.bool r) ∧ Wz.cell? ⟨b, off + j * 3, none⟩ = some (.int .i64 a0) ∧ Wz.cell? ⟨b, off + j * 3 + 1, none⟩ = some (.int .i64 a1) ∧ Wz.cell? ⟨b, off + j * 3 + 2, none⟩ = some (.bool a2) ∧ (wr).heap.size ≤ Wz.heap.size) Y := by
                rintro X Y ⟨z139, z140, z141, z142, z143, z144, xs⟩ hb
                have hb2 := Below.mono (B' := (wr).heap.size) hb xs
                exact ⟨keepd z139 hb2 lt145, keepd z140 hb2 lt146, keepd z141 hb2 lt147, keepd z142 hb2 lt148, keepd z143 hb2 lt149, keepd z144 hb2 lt150, Nat.le_trans xs hb.size⟩
              have hini153 : (fun Wz => Wz.cell? ⟨b, off + kk * 3, none⟩ = some (.int .i64 p) ∧ Wz.cell? ⟨b, off + kk * 3 + 1, none⟩ = some (.int .i64 q) ∧ Wz.cell? ⟨b, off + kk * 3 + 2, none⟩ = some (.bool r) ∧ Wz.cell? ⟨b, off + j * 3, none⟩ = some (.int .i64 a0) ∧ Wz.cell? ⟨b, off + j * 3 + 1, none⟩ = some (.int .i64 a1) ∧ Wz.cell? ⟨b, off + j * 3 + 2, none⟩ = some (.bool a2) ∧ (wr).heap.size ≤ Wz.heap.size) (wr).drew := ⟨keepd (y1) hdr151 lt145, keepd (y2) hdr151 lt146, keepd (y3) hdr151 lt147, keepd (x1) hdr151 lt148, keepd (x2) hdr151 lt149, keepd (x3) hdr151 lt150, Nat.le_refl _⟩
              have Hcall152 := Lib.hid hcall152
              have Hini153 := Lib.hid hini153
              clear hcall152 hini153 lt145 lt146 lt147 lt148 lt149 lt150
              refine wp_region_noPanic ?_
              refine wp_region_held_drew (S := (fun Wz => Wz.cell? ⟨b, off + kk * 3, none⟩ = some (.int .i64 p) ∧ Wz.cell? ⟨b, off + kk * 3 + 1, none⟩ = some (.int .i64 q) ∧ Wz.cell? ⟨b, off + kk * 3 + 2, none⟩ = some (.bool r) ∧ Wz.cell? ⟨b, off + j * 3, none⟩ = some (.int .i64 a0) ∧ Wz.cell? ⟨b, off + j * 3 + 1, none⟩ = some (.int .i64 a1) ∧ Wz.cell? ⟨b, off + j * 3 + 2, none⟩ = some (.bool a2) ∧ (wr).heap.size ≤ Wz.heap.size)) (by kernel_rfl) Hini153.out (fun hHeld => ?_)
              obtain ⟨W155, hW156⟩ : ∃ Wzz, (wr).drew = Wzz := ⟨_, rfl⟩
              rw [hW156] at hHeld hdr151 ⊢
              clear hW156
              have B157 := Lib.hid (HBR.out.trans (hdr151.mono HBR.out.size))
              clear hdr151
              refine wpAnyH_take (i := 0) (oi := { dst := some 18, op := Op.move (Operand.tmp 0), type := 51, pos := "ref.go:31", after := #[], guard := none }) (v := ?vh158) rfl ?hsh158 ?hfh158 ?hrh158 ?hQh158 ?hyh158 (by assumption) ?resth158
              case hsh158 => kernel_rfl
              case hfh158 => kernel_rfl
              case hrh158 => kernel_rfl
              case hQh158 => exact fun _ _ _ h => h
              case hyh158 => (refine Or.inl ⟨by rfl, ?_⟩; intro w hSw; (try dsimp only at hSw); go_simp; try with_reducible rfl)
              try simp only [Act.put, List.setIfInBounds_toArray, List.set_cons_zero, List.set_cons_succ]
              refine wpAnyH_take (i := 1) (oi := { dst := some 19, op := Op.move (Operand.tmp 3), type := 3, pos := "ref.go:31", after := #[], guard := none }) (v := ?vh159) rfl ?hsh159 ?hfh159 ?hrh159 ?hQh159 ?hyh159 (by assumption) ?resth159
              case hsh159 => kernel_rfl
              case hfh159 => kernel_rfl
              case hrh159 => kernel_rfl
              case hQh159 => exact fun _ _ _ h => h
              case hyh159 => (refine Or.inl ⟨by rfl, ?_⟩; intro w hSw; (try dsimp only at hSw); go_simp; try with_reducible rfl)
              try simp only [Act.put, List.setIfInBounds_toArray, List.set_cons_zero, List.set_cons_succ]
              refine wpAnyH_take (i := 2) (oi := { dst := some 20, op := Op.indexAddr 51 (Operand.tmp 18) (Operand.tmp 19), type := 0, pos := "ref.go:31", after := #[{ on := 0, ground := Ground.data }, { on := 1, ground := Ground.data }], guard := none }) (v := ?vh160) rfl ?hsh160 ?hfh160 ?hrh160 ?hQh160 ?hyh160 (by assumption) ?resth160
              case hsh160 => kernel_rfl
              case hfh160 => kernel_rfl
              case hrh160 => kernel_rfl
              case hQh160 => exact fun _ _ _ h => h
              case hyh160 => (refine Or.inl ⟨by rfl, ?_⟩; intro w hSw; (try dsimp only at hSw); go_simp; try with_reducible rfl)
              try simp only [Act.put, List.setIfInBounds_toArray, List.set_cons_zero, List.set_cons_succ]
              refine wpAnyH_take (i := 3) (oi := { dst := some 21, op := Op.fieldAddr 50 (Operand.tmp 20) 0, type := 0, pos := "ref.go:31", after := #[{ on := 2, ground := Ground.data }], guard := none }) (v := ?vh161) rfl ?hsh161 ?hfh161 ?hrh161 ?hQh161 ?hyh161 (by assumption) ?resth161
              case hsh161 => kernel_rfl
              case hfh161 => kernel_rfl
              case hrh161 => kernel_rfl
              case hQh161 => exact fun _ _ _ h => h
              case hyh161 => (refine Or.inl ⟨by rfl, ?_⟩; intro w hSw; (try dsimp only at hSw); go_simp; try with_reducible rfl)
              try simp only [Act.put, List.setIfInBounds_toArray, List.set_cons_zero, List.set_cons_succ]
              refine wpAnyH_take (i := 4) (oi := { dst := some 22, op := Op.load 3 (Operand.tmp 21), type := 3, pos := "ref.go:31", after := #[{ on := 3, ground := Ground.data }], guard := none }) (v := ?vh162) rfl ?hsh162 ?hfh162 ?hrh162 ?hQh162 ?hyh162 (by assumption) ?resth162
              case hsh162 => kernel_rfl
              case hfh162 => kernel_rfl
              case hrh162 => kernel_rfl
              case hQh162 => exact fun _ _ _ h => h
              case hyh162 => (refine Or.inl ⟨by rfl, ?_⟩; intro w hSw; (try dsimp only at hSw); go_simp; try with_reducible rfl)
              try simp only [Act.put, List.setIfInBounds_toArray, List.set_cons_zero, List.set_cons_succ]
              refine wpAnyH_ready (rs := [5]) (by kernel_rfl) (by simp) ?_
              refine AllReadyH.cons (o := _) (by rfl) (fun K hK => ?_) AllReadyH.nil
              go_simp
              go_at_call 91
              refine (kwithin_b p (-1) 1 true HC1.out _).mono ?_; rintro e w' ⟨rfl, rfl⟩
              go_wp2_with fail
              refine hK.out _ _ hHeld (fun hHeld163 => ?_)
              clear hK K hHeld
              have hHeld := hHeld163
              clear hHeld163
              try simp only [Act.put, List.setIfInBounds_toArray, List.set_cons_zero, List.set_cons_succ]
              refine wpAnyH_take (i := 6) (oi := { dst := some 24, op := Op.unOp UnOp.not 4 (Operand.tmp 23), type := 4, pos := "ref.go:31", after := #[{ on := 5, ground := Ground.data }], guard := none }) (v := ?vh164) rfl ?hsh164 ?hfh164 ?hrh164 ?hQh164 ?hyh164 (by assumption) ?resth164
              case hsh164 => kernel_rfl
              case hfh164 => kernel_rfl
              case hrh164 => kernel_rfl
              case hQh164 => exact fun _ _ _ h => h
              case hyh164 => (refine Or.inl ⟨by rfl, ?_⟩; intro w hSw; (try dsimp only at hSw); go_simp; try with_reducible rfl)
              try simp only [Act.put, List.setIfInBounds_toArray, List.set_cons_zero, List.set_cons_succ]
              refine wpAnyH_take (i := 7) (oi := { dst := some 25, op := Op.move (Operand.tmp 24), type := 4, pos := "ref.go:31", after := #[{ on := 6, ground := Ground.data }, { on := 5, ground := Ground.chain }], guard := none }) (v := ?vh165) rfl ?hsh165 ?hfh165 ?hrh165 ?hQh165 ?hyh165 (by assumption) ?resth165
              case hsh165 => kernel_rfl
              case hfh165 => kernel_rfl
              case hrh165 => kernel_rfl
              case hQh165 => exact fun _ _ _ h => h
              case hyh165 => (refine Or.inl ⟨by rfl, ?_⟩; intro w hSw; (try dsimp only at hSw); go_simp; try with_reducible rfl)
              try simp only [Act.put, List.setIfInBounds_toArray, List.set_cons_zero, List.set_cons_succ]
              refine wpAnyH_take (i := 8) (oi := { dst := some 26, op := Op.move (Operand.tmp 0), type := 51, pos := "ref.go:31", after := #[{ on := 7, ground := Ground.guard }], guard := some (7, false) }) (v := ?vh166) rfl ?hsh166 ?hfh166 ?hrh166 ?hQh166 ?hyh166 (by assumption) ?resth166
              case hsh166 => kernel_rfl
              case hfh166 => kernel_rfl
              case hrh166 => kernel_rfl
              case hQh166 => exact fun _ _ _ h => h
              case hyh166 => (refine Or.inl ⟨by rfl, ?_⟩; intro w hSw; (try dsimp only at hSw); go_simp; try with_reducible rfl)
              try simp only [Act.put, List.setIfInBounds_toArray, List.set_cons_zero, List.set_cons_succ]
              refine wpAnyH_take (i := 9) (oi := { dst := some 27, op := Op.move (Operand.tmp 3), type := 3, pos := "ref.go:31", after := #[{ on := 7, ground := Ground.guard }], guard := some (7, false) }) (v := ?vh167) rfl ?hsh167 ?hfh167 ?hrh167 ?hQh167 ?hyh167 (by assumption) ?resth167
              case hsh167 => kernel_rfl
              case hfh167 => kernel_rfl
              case hrh167 => kernel_rfl
              case hQh167 => exact fun _ _ _ h => h
              case hyh167 => (refine Or.inl ⟨by rfl, ?_⟩; intro w hSw; (try dsimp only at hSw); go_simp; try with_reducible rfl)
              try simp only [Act.put, List.setIfInBounds_toArray, List.set_cons_zero, List.set_cons_succ]
              refine wpAnyH_take (i := 10) (oi := { dst := some 28, op := Op.indexAddr 51 (Operand.tmp 26) (Operand.tmp 27), type := 0, pos := "ref.go:31", after := #[{ on := 8, ground := Ground.data }, { on := 9, ground := Ground.data }, { on := 7, ground := Ground.guard }], guard := some (7, false) }) (v := ?vh168) rfl ?hsh168 ?hfh168 ?hrh168 ?hQh168 ?hyh168 (by assumption) ?resth168
              case hsh168 => kernel_rfl
              case hfh168 => kernel_rfl
              case hrh168 => kernel_rfl
              case hQh168 => exact fun _ _ _ h => h
              case hyh168 => (refine Or.inl ⟨by rfl, ?_⟩; intro w hSw; (try dsimp only at hSw); go_simp; try with_reducible rfl)
              try simp only [Act.put, List.setIfInBounds_toArray, List.set_cons_zero, List.set_cons_succ]
              refine wpAnyH_take (i := 11) (oi := { dst := some 29, op := Op.fieldAddr 50 (Operand.tmp 28) 1, type := 0, pos := "ref.go:31", after := #[{ on := 10, ground := Ground.data }, { on := 7, ground := Ground.guard }], guard := some (7, false) }) (v := ?vh169) rfl ?hsh169 ?hfh169 ?hrh169 ?hQh169 ?hyh169 (by assumption) ?resth169
              case hsh169 => kernel_rfl
              case hfh169 => kernel_rfl
              case hrh169 => kernel_rfl
              case hQh169 => exact fun _ _ _ h => h
              case hyh169 => (refine Or.inl ⟨by rfl, ?_⟩; intro w hSw; (try dsimp only at hSw); go_simp; try with_reducible rfl)
              try simp only [Act.put, List.setIfInBounds_toArray, List.set_cons_zero, List.set_cons_succ]
              refine wpAnyH_take (i := 12) (oi := { dst := some 30, op := Op.load 3 (Operand.tmp 29), type := 3, pos := "ref.go:31", after := #[{ on := 11, ground := Ground.data }, { on := 7, ground := Ground.guard }], guard := some (7, false) }) (v := ?vh170) rfl ?hsh170 ?hfh170 ?hrh170 ?hQh170 ?hyh170 (by assumption) ?resth170
              case hsh170 => kernel_rfl
              case hfh170 => kernel_rfl
              case hrh170 => kernel_rfl
              case hQh170 => exact fun _ _ _ h => h
              case hyh170 => (refine Or.inl ⟨by rfl, ?_⟩; intro w hSw; (try dsimp only at hSw); go_simp; try with_reducible rfl)
              try simp only [Act.put, List.setIfInBounds_toArray, List.set_cons_zero, List.set_cons_succ]
              refine wpAnyH_ready (rs := [13]) (by kernel_rfl) (by simp) ?_
              refine AllReadyH.cons (o := _) (by rfl) (fun K hK => ?_) AllReadyH.nil
              go_simp
              go_at_call 91
              refine (kwithin_b q (-1) 1 true HC2.out _).mono ?_; rintro e w' ⟨rfl, rfl⟩
              go_wp2_with fail
              refine hK.out _ _ hHeld (fun hHeld171 => ?_)
              clear hK K hHeld
              have hHeld := hHeld171
              clear hHeld171
              try simp only [Act.put, List.setIfInBounds_toArray, List.set_cons_zero, List.set_cons_succ]
              refine wpAnyH_take (i := 14) (oi := { dst := some 32, op := Op.unOp UnOp.not 4 (Operand.tmp 31), type := 4, pos := "ref.go:31", after := #[{ on := 13, ground := Ground.data }, { on := 7, ground := Ground.guard }], guard := some (7, false) }) (v := ?vh172) rfl ?hsh172 ?hfh172 ?hrh172 ?hQh172 ?hyh172 (by assumption) ?resth172
              case hsh172 => kernel_rfl
              case hfh172 => kernel_rfl
              case hrh172 => kernel_rfl
              case hQh172 => exact fun _ _ _ h => h
              case hyh172 => (refine Or.inl ⟨by rfl, ?_⟩; intro w hSw; (try dsimp only at hSw); go_simp; try with_reducible rfl)
              try simp only [Act.put, List.setIfInBounds_toArray, List.set_cons_zero, List.set_cons_succ]
              refine wpAnyH_take (i := 15) (oi := { dst := some 33, op := Op.pick (Operand.tmp 25) (Operand.const (Value.bool true)) (Operand.tmp 32), type := 4, pos := "ref.go:31", after := #[{ on := 7, ground := Ground.data }, { on := 14, ground := Ground.data }], guard := none }) (v := ?vh173) rfl ?hsh173 ?hfh173 ?hrh173 ?hQh173 ?hyh173 (by assumption) ?resth173
              case hsh173 => kernel_rfl
              case hfh173 => kernel_rfl
              case hrh173 => kernel_rfl
              case hQh173 => exact fun _ _ _ h => h
              case hyh173 => (refine Or.inl ⟨by rfl, ?_⟩; intro w hSw; (try dsimp only at hSw); go_simp; try with_reducible rfl)
              try simp only [Act.put, List.setIfInBounds_toArray, List.set_cons_zero, List.set_cons_succ]
              refine wpAnyH_take (i := 16) (oi := { dst := some 34, op := Op.move (Operand.tmp 33), type := 4, pos := "ref.go:31", after := #[{ on := 15, ground := Ground.data }, { on := 13, ground := Ground.chain }], guard := none }) (v := ?vh174) rfl ?hsh174 ?hfh174 ?hrh174 ?hQh174 ?hyh174 (by assumption) ?resth174
              case hsh174 => kernel_rfl
              case hfh174 => kernel_rfl
              case hrh174 => kernel_rfl
              case hQh174 => exact fun _ _ _ h => h
              case hyh174 => (refine Or.inl ⟨by rfl, ?_⟩; intro w hSw; (try dsimp only at hSw); go_simp; try with_reducible rfl)
              try simp only [Act.put, List.setIfInBounds_toArray, List.set_cons_zero, List.set_cons_succ]
              refine wpAnyH_take (i := 17) (oi := { dst := some 35, op := Op.move (Operand.tmp 3), type := 3, pos := "ref.go:31", after := #[{ on := 16, ground := Ground.guard }], guard := some (16, false) }) (v := ?vh175) rfl ?hsh175 ?hfh175 ?hrh175 ?hQh175 ?hyh175 (by assumption) ?resth175
              case hsh175 => kernel_rfl
              case hfh175 => kernel_rfl
              case hrh175 => kernel_rfl
              case hQh175 => exact fun _ _ _ h => h
              case hyh175 => (refine Or.inl ⟨by rfl, ?_⟩; intro w hSw; (try dsimp only at hSw); go_simp; try with_reducible rfl)
              try simp only [Act.put, List.setIfInBounds_toArray, List.set_cons_zero, List.set_cons_succ]
              refine wpAnyH_take (i := 18) (oi := { dst := some 36, op := Op.binOp BinOp.gtr 3 (Operand.tmp 35) (Operand.const (Value.int IntKind.i64 0)) 3, type := 4, pos := "ref.go:31", after := #[{ on := 17, ground := Ground.data }, { on := 16, ground := Ground.guard }], guard := some (16, false) }) (v := ?vh176) rfl ?hsh176 ?hfh176 ?hrh176 ?hQh176 ?hyh176 (by assumption) ?resth176
              case hsh176 => kernel_rfl
              case hfh176 => kernel_rfl
              case hrh176 => kernel_rfl
              case hQh176 => exact fun _ _ _ h => h
              case hyh176 => (refine Or.inl ⟨by rfl, ?_⟩; intro w hSw; (try dsimp only at hSw); go_simp; try with_reducible rfl)
              try simp only [Act.put, List.setIfInBounds_toArray, List.set_cons_zero, List.set_cons_succ]
              refine wpAnyH_take (i := 19) (oi := { dst := some 37, op := Op.move (Operand.tmp 36), type := 4, pos := "ref.go:31", after := #[{ on := 18, ground := Ground.data }, { on := 16, ground := Ground.chain }, { on := 16, ground := Ground.guard }], guard := some (16, false) }) (v := ?vh177) rfl ?hsh177 ?hfh177 ?hrh177 ?hQh177 ?hyh177 (by assumption) ?resth177
              case hsh177 => kernel_rfl
              case hfh177 => kernel_rfl
              case hrh177 => kernel_rfl
              case hQh177 => exact fun _ _ _ h => h
              case hyh177 => (refine Or.inl ⟨by rfl, ?_⟩; intro w hSw; (try dsimp only at hSw); go_simp; try with_reducible rfl)
              try simp only [Act.put, List.setIfInBounds_toArray, List.set_cons_zero, List.set_cons_succ]
              refine wpAnyH_take (i := 20) (oi := { dst := some 38, op := Op.move (Operand.tmp 0), type := 51, pos := "ref.go:31", after := #[{ on := 19, ground := Ground.guard }], guard := some (19, true) }) (v := ?vh178) rfl ?hsh178 ?hfh178 ?hrh178 ?hQh178 ?hyh178 (by assumption) ?resth178
              case hsh178 => kernel_rfl
              case hfh178 => kernel_rfl
              case hrh178 => kernel_rfl
              case hQh178 => exact fun _ _ _ h => h
              case hyh178 => (refine Or.inl ⟨by rfl, ?_⟩; intro w hSw; (try dsimp only at hSw); go_simp; try with_reducible rfl)
              try simp only [Act.put, List.setIfInBounds_toArray, List.set_cons_zero, List.set_cons_succ]
              refine wpAnyH_take (i := 21) (oi := { dst := some 39, op := Op.move (Operand.tmp 3), type := 3, pos := "ref.go:31", after := #[{ on := 19, ground := Ground.guard }], guard := some (19, true) }) (v := ?vh179) rfl ?hsh179 ?hfh179 ?hrh179 ?hQh179 ?hyh179 (by assumption) ?resth179
              case hsh179 => kernel_rfl
              case hfh179 => kernel_rfl
              case hrh179 => kernel_rfl
              case hQh179 => exact fun _ _ _ h => h
              case hyh179 => (refine Or.inl ⟨by rfl, ?_⟩; intro w hSw; (try dsimp only at hSw); go_simp; try with_reducible rfl)
              try simp only [Act.put, List.setIfInBounds_toArray, List.set_cons_zero, List.set_cons_succ]
              refine wpAnyH_take (i := 22) (oi := { dst := some 40, op := Op.binOp BinOp.sub 3 (Operand.tmp 39) (Operand.const (Value.int IntKind.i64 1)) 3, type := 3, pos := "ref.go:31", after := #[{ on := 21, ground := Ground.data }, { on := 19, ground := Ground.guard }], guard := some (19, true) }) (v := ?vh180) rfl ?hsh180 ?hfh180 ?hrh180 ?hQh180 ?hyh180 (by assumption) ?resth180
              case hsh180 => kernel_rfl
              case hfh180 => kernel_rfl
              case hrh180 => kernel_rfl
              case hQh180 => exact fun _ _ _ h => h
              case hyh180 => (refine Or.inl ⟨by rfl, ?_⟩; intro w hSw; (try dsimp only at hSw); go_simp; try with_reducible rfl)
              try simp only [Act.put, List.setIfInBounds_toArray, List.set_cons_zero, List.set_cons_succ]
              refine wpAnyH_take (i := 23) (oi := { dst := some 41, op := Op.indexAddr 51 (Operand.tmp 38) (Operand.tmp 40), type := 0, pos := "ref.go:31", after := #[{ on := 20, ground := Ground.data }, { on := 22, ground := Ground.data }, { on := 19, ground := Ground.guard }], guard := some (19, true) }) (v := ?vh181) rfl ?hsh181 ?hfh181 ?hrh181 ?hQh181 ?hyh181 (by assumption) ?resth181
              case hsh181 => kernel_rfl
              case hfh181 => kernel_rfl
              case hrh181 => kernel_rfl
              case hQh181 => exact fun _ _ _ h => h
              case hyh181 => (refine Or.inl ⟨by rfl, ?_⟩; intro w hSw; (try dsimp only at hSw); go_simp; try with_reducible rfl)
              try simp only [Act.put, List.setIfInBounds_toArray, List.set_cons_zero, List.set_cons_succ]
              refine wpAnyH_take (i := 24) (oi := { dst := some 42, op := Op.load 50 (Operand.tmp 41), type := 50, pos := "ref.go:31", after := #[{ on := 23, ground := Ground.data }, { on := 19, ground := Ground.guard }], guard := some (19, true) }) (v := ?vh182) rfl ?hsh182 ?hfh182 ?hrh182 ?hQh182 ?hyh182 (by assumption) ?resth182
              case hsh182 => kernel_rfl
              case hfh182 => kernel_rfl
              case hrh182 => kernel_rfl
              case hQh182 => exact fun _ _ _ h => h
              case hyh182 => (refine Or.inl ⟨by rfl, ?_⟩; intro w hSw; (try dsimp only at hSw); go_simp; try with_reducible rfl)
              try simp only [Act.put, List.setIfInBounds_toArray, List.set_cons_zero, List.set_cons_succ]
              refine wpAnyH_take (i := 25) (oi := { dst := some 43, op := Op.move (Operand.tmp 0), type := 51, pos := "ref.go:31", after := #[{ on := 19, ground := Ground.guard }], guard := some (19, true) }) (v := ?vh183) rfl ?hsh183 ?hfh183 ?hrh183 ?hQh183 ?hyh183 (by assumption) ?resth183
              case hsh183 => kernel_rfl
              case hfh183 => kernel_rfl
              case hrh183 => kernel_rfl
              case hQh183 => exact fun _ _ _ h => h
              case hyh183 => (refine Or.inl ⟨by rfl, ?_⟩; intro w hSw; (try dsimp only at hSw); go_simp; try with_reducible rfl)
              try simp only [Act.put, List.setIfInBounds_toArray, List.set_cons_zero, List.set_cons_succ]
              refine wpAnyH_take (i := 26) (oi := { dst := some 44, op := Op.move (Operand.tmp 3), type := 3, pos := "ref.go:31", after := #[{ on := 19, ground := Ground.guard }], guard := some (19, true) }) (v := ?vh184) rfl ?hsh184 ?hfh184 ?hrh184 ?hQh184 ?hyh184 (by assumption) ?resth184
              case hsh184 => kernel_rfl
              case hfh184 => kernel_rfl
              case hrh184 => kernel_rfl
              case hQh184 => exact fun _ _ _ h => h
              case hyh184 => (refine Or.inl ⟨by rfl, ?_⟩; intro w hSw; (try dsimp only at hSw); go_simp; try with_reducible rfl)
              try simp only [Act.put, List.setIfInBounds_toArray, List.set_cons_zero, List.set_cons_succ]
              refine wpAnyH_take (i := 27) (oi := { dst := some 45, op := Op.indexAddr 51 (Operand.tmp 43) (Operand.tmp 44), type := 0, pos := "ref.go:31", after := #[{ on := 25, ground := Ground.data }, { on := 26, ground := Ground.data }, { on := 19, ground := Ground.guard }], guard := some (19, true) }) (v := ?vh185) rfl ?hsh185 ?hfh185 ?hrh185 ?hQh185 ?hyh185 (by assumption) ?resth185
              case hsh185 => kernel_rfl
              case hfh185 => kernel_rfl
              case hrh185 => kernel_rfl
              case hQh185 => exact fun _ _ _ h => h
              case hyh185 => (refine Or.inl ⟨by rfl, ?_⟩; intro w hSw; (try dsimp only at hSw); go_simp; try with_reducible rfl)
              try simp only [Act.put, List.setIfInBounds_toArray, List.set_cons_zero, List.set_cons_succ]
              refine wpAnyH_take (i := 28) (oi := { dst := some 46, op := Op.load 50 (Operand.tmp 45), type := 50, pos := "ref.go:31", after := #[{ on := 27, ground := Ground.data }, { on := 19, ground := Ground.guard }], guard := some (19, true) }) (v := ?vh186) rfl ?hsh186 ?hfh186 ?hrh186 ?hQh186 ?hyh186 (by assumption) ?resth186
              case hsh186 => kernel_rfl
              case hfh186 => kernel_rfl
              case hrh186 => kernel_rfl
              case hQh186 => exact fun _ _ _ h => h
              case hyh186 => (refine Or.inl ⟨by rfl, ?_⟩; intro w hSw; (try dsimp only at hSw); go_simp; try with_reducible rfl)
              try simp only [Act.put, List.setIfInBounds_toArray, List.set_cons_zero, List.set_cons_succ]
              refine wpAnyH_ready (rs := [29]) (by kernel_rfl) (by simp) ?_
              refine AllReadyH.cons (o := _) (by rfl) (fun K hK => ?_) AllReadyH.nil
              go_simp
              go_at_call 92
              refine (kbefore_c a0 a1 a2 p q r _).mono ?_; rintro e v187 ⟨rfl, hb188⟩
              have B189 := Lib.hid (B157.out.trans (hb188.mono B157.out.size))
              clear B157
              rw [HZ.out]
              go_wp2_with fail
              refine hK.out _ _ (Hcall152.out _ _ hHeld (by assumption)) (fun hHeld190 => ?_)
              clear hK K hHeld
              clear hb188
              have hHeld := hHeld190
              clear hHeld190
              try simp only [Act.put, List.setIfInBounds_toArray, List.set_cons_zero, List.set_cons_succ]
              refine wpAnyH_take (i := 30) (oi := { dst := some 48, op := Op.unOp UnOp.not 4 (Operand.tmp 47), type := 4, pos := "ref.go:31", after := #[{ on := 29, ground := Ground.data }, { on := 19, ground := Ground.guard }], guard := some (19, true) }) (v := ?vh191) rfl ?hsh191 ?hfh191 ?hrh191 ?hQh191 ?hyh191 (by assumption) ?resth191
              case hsh191 => kernel_rfl
              case hfh191 => kernel_rfl
              case hrh191 => kernel_rfl
              case hQh191 => exact fun _ _ _ h => h
              case hyh191 => (refine Or.inl ⟨by rfl, ?_⟩; intro w hSw; (try dsimp only at hSw); go_simp; try with_reducible rfl)
              try simp only [Act.put, List.setIfInBounds_toArray, List.set_cons_zero, List.set_cons_succ]
              refine wpAnyH_take (i := 31) (oi := { dst := some 49, op := Op.pick (Operand.tmp 37) (Operand.tmp 48) (Operand.const (Value.bool false)), type := 4, pos := "ref.go:31", after := #[{ on := 19, ground := Ground.data }, { on := 30, ground := Ground.data }, { on := 16, ground := Ground.guard }], guard := some (16, false) }) (v := ?vh192) rfl ?hsh192 ?hfh192 ?hrh192 ?hQh192 ?hyh192 (by assumption) ?resth192
              case hsh192 => kernel_rfl
              case hfh192 => kernel_rfl
              case hrh192 => kernel_rfl
              case hQh192 => exact fun _ _ _ h => h
              case hyh192 => (refine Or.inl ⟨by rfl, ?_⟩; intro w hSw; (try dsimp only at hSw); go_simp; try with_reducible rfl)
              try simp only [Act.put, List.setIfInBounds_toArray, List.set_cons_zero, List.set_cons_succ]
              refine wpAnyH_take (i := 32) (oi := { dst := some 50, op := Op.pick (Operand.tmp 34) (Operand.const (Value.bool true)) (Operand.tmp 49), type := 4, pos := "ref.go:31", after := #[{ on := 16, ground := Ground.data }, { on := 31, ground := Ground.data }], guard := none }) (v := ?vh193) rfl ?hsh193 ?hfh193 ?hrh193 ?hQh193 ?hyh193 (by assumption) ?resth193
              case hsh193 => kernel_rfl
              case hfh193 => kernel_rfl
              case hrh193 => kernel_rfl
              case hQh193 => exact fun _ _ _ h => h
              case hyh193 => (refine Or.inl ⟨by rfl, ?_⟩; intro w hSw; (try dsimp only at hSw); go_simp; try with_reducible rfl)
              try simp only [Act.put, List.setIfInBounds_toArray, List.set_cons_zero, List.set_cons_succ]
              refine wpAnyH_done (by kernel_rfl) ?_ _
              refine NoPanic.normal ?_
              clear hHeld Hcall152 Hini153
              clear x1 x2 x3 y1 y2 y3 wk
              cases z
              · have HOK := Lib.hid (show okAt l kk = false by unfold okAt; rw [HK.out, ← HKJ.out, Nat.add_sub_cancel, HJ.out, HZ.out, HMV.out]; simp)
                have HF := Lib.hid (show listB l = false by rw [HB.out, okTo_false (k := kk) (n := n) HOK.out HLT.out, Bool.and_false])
                go_wp2_with fail
                go_ret
                exact ⟨ret_bool HF.out.symm, B189.out⟩
              · have HOK := Lib.hid (show okAt l kk = true by unfold okAt; rw [HK.out, ← HKJ.out, Nat.add_sub_cancel, HJ.out, HZ.out, HMV.out]; simp)
                go_wp2_with fail
                go_roundw
                case rel => exact ⟨kk + 1, by have := HLT.out; omega, by go_num, by rw [okTo, HALL.out, HOK.out]; rfl, B189.out⟩
                case measure => have := HLT.out; have := HKJ.out; simp [intOf]; omega
      · obtain rfl : k = n := by omega
        have hdk : decide ((k : Int) < (k : Int)) = false := by simp
        clear hlt
        go_wp2_with fail
        go_ret
        exact ⟨ret_bool (by rw [HB.out, HI.out, HALL.out]; rfl), HBR.out⟩
  · have HF := Lib.hid (show listB l = false by rw [HB.out]; rw [Bool.and_eq_false_iff]; exact .inl (inB_not.2 (by omega)))
    rcases Nat.lt_or_ge n 1 with h1 | h1
    · obtain rfl : n = 0 := by omega
      have e1 : decide ((0 : Int) < 1) = true := by simp
      clear hs h1
      go_enter Tryz.func69, Tryz.ntmps69
      go_wp2_with fail
      go_ret
      exact ⟨ret_bool HF.out.symm, Below.refl _ _⟩
    · have e1 : decide ((n : Int) < 1) = false := by simp; omega
      have e1' : decide (n < 1) = false := by simp; omega
      have e2 : decide ((3 : Int) < (n : Int)) = true := by simp; omega
      have e2' : decide (3 < n) = true := by simp; omega
      clear hs h1
      go_enter Tryz.func69, Tryz.ntmps69
      go_wp2_with fail
      go_ret
      exact ⟨ret_bool HF.out.symm, Below.refl _ _⟩

end Go.Proofs.YtikfiallhmhicaaGreat

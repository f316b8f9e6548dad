/- Layer 9: whether two journals begin with a tally. -/
import Derived.Test.YtbpbdgiglllncaaU3
set_option linter.all false
namespace Go.Proofs.Ytbpbdgiglllncaa
open Go.RowKit


theorem Bys.tail {w : World} {B : Nat} {A : Option Addr} {n c : Nat} {xs : List Int} (h : Bys w B (.slice A n c) xs) (l : Nat) (hl : l ≤ xs.length) :
    Bys w B (sliced A l n c 1) (xs.drop l) := by
  have hn : n = xs.length := by obtain ⟨A', c', e, -⟩ := h.shape; injection e
  have := h.part l xs.length hl (Nat.le_refl _)
  rw [List.take_of_length_le (by simp)] at this
  rw [hn]; exact this
theorem Bys.len {w : World} {B : Nat} {A : Option Addr} {n c : Nat} {xs : List Int} (h : Bys w B (.slice A n c) xs) : n = xs.length ∧ xs.length ≤ c := by
  obtain ⟨A', c', e, h2⟩ := h.shape; injection e with e1 e2 e3; subst e3; exact ⟨e2, h2⟩
theorem elemB : Try.prog.underlying 31 = some (.slice (Try.prog.elem 31)) := by rw [show Try.prog.elem 31 = 5 from by simp [Program.elem, Try.underlying31]]; exact Try.underlying31
theorem sizeB (W : World) : (sizeOf (Try.prog.elem 31)).run Try.prog W = .ok 1 W := by
  obtain ⟨i, hi, hi2⟩ := Option.map_eq_some_iff.1 Try.infoU8
  simp only [Prod.mk.injEq] at hi2
  rw [show Try.prog.elem 31 = 5 from by simp [Program.elem, Try.underlying31]]
  simp [sizeOf, typeInfo, hi, hi2.2.1]
/-- a part of a slice of bytes, as the machine cuts it -/
theorem Bys.cut {w : World} {B : Nat} {A : Option Addr} {n c : Nat} {xs : List Int} (h : Bys w B (.slice A n c) xs) (L M : Int) (l m : Nat) (hL : L = l) (hM : M = m) (hl : l ≤ m) (hm : m ≤ xs.length) :
    ∃ V, (∀ W, (Instr.sliceAt 31 (.slice A n c) (some (.int .i64 L)) (some (.int .i64 M)) none).run Try.prog W = .ok V W) ∧ Bys w B V ((xs.drop l).take (m - l)) := by
  refine ⟨_, fun W => ?_, h.part l m hl hm⟩
  have e := h.len
  subst hL hM
  rw [run_sliceAt_slice W _ _ _ _ _ elemB,
    run_slice_lh W _ _ _ _ elemB _ _ _ _ (by omega) (by omega) (by omega)]
  rw [sizeB]
  rfl
theorem Bys.cut1 {w : World} {B : Nat} {A : Option Addr} {n c : Nat} {xs : List Int} (h : Bys w B (.slice A n c) xs) (L : Int) (l : Nat) (hL : L = l) (hl : l ≤ xs.length) :
    ∃ V, (∀ W, (Instr.sliceAt 31 (.slice A n c) (some (.int .i64 L)) none none).run Try.prog W = .ok V W) ∧ Bys w B V (xs.drop l) := by
  refine ⟨_, fun W => ?_, h.tail l hl⟩
  have e := h.len
  subst hL
  rw [run_sliceAt_slice W _ _ _ _ _ elemB,
    run_slice_l W _ _ _ _ elemB _ _ (by omega) (by omega)]
  rw [sizeB]
  rfl
theorem beg_f1 {s f : List Int} (h : s.length < 2) : beg s f = false := by cases hb : beg s f; rfl; have := beg_iff.1 hb; omega
theorem beg_f2 {s f : List Int} (h : f.length < 4) : beg s f = false := by cases hb : beg s f; rfl; have := beg_iff.1 hb; omega
theorem beg_f3 {s f : List Int} (h : 8192 < pr s) : beg s f = false := by cases hb : beg s f; rfl; have := beg_iff.1 hb; omega
theorem beg_f4 {s f : List Int} (h : pr s ≠ pr f) : beg s f = false := by cases hb : beg s f; rfl; exact absurd (beg_iff.1 hb).2.2.2.1.symm h
theorem beg_f5 {s f : List Int} (h : (s.length : Int) - 2 < pr s) : beg s f = false := by cases hb : beg s f; rfl; have := beg_iff.1 hb; omega
theorem beg_f6 {s f : List Int} (h1 : 2 ≤ s.length) (h2 : 4 ≤ f.length) (h3 : pr s ≤ 8192) (h4 : pr s = pr f) (h5 : pr s ≤ (s.length : Int) - 2) : beg s f = (chk (hdL s) == pr (f.drop 2)) := by
  have e : beg s f = decide (pr (f.drop 2) = chk (hdL s)) := by
    unfold beg
    simp [h1, h2, h3, h4.symm, (by omega : 2 + pr s ≤ (s.length : Int))]
  rw [e]
  by_cases hh : pr (f.drop 2) = chk (hdL s)
  · simp [hh]
  · have : ¬ chk (hdL s) = pr (f.drop 2) := fun e => hh e.symm
    simp [hh, this]
set_option maxRecDepth 100000 in
set_option maxHeartbeats 8000000 in
theorem begin_c (s f : List Int) (v u : Value) (w : World) (hs : Bys w w.heap.size v s) (hf : Bys w w.heap.size u f) : Calls Try.prog 76 #[v, u] w fun e w' => e = .returned (.bool (beg s f)) ∧ Below w.heap.size w w' := by
  have HS := Lib.hid hs
  have HF := Lib.hid hf
  obtain ⟨A, c, rfl, hc⟩ := hs.shape
  obtain ⟨A', c', rfl, hc'⟩ := hf.shape
  have HPS := Lib.hid (pr_bd hs.by)
  have HPF := Lib.hid (pr_bd hf.by)
  obtain ⟨n, hn⟩ : ∃ n, s.length = n := ⟨_, rfl⟩
  obtain ⟨m, hm⟩ : ∃ m, f.length = m := ⟨_, rfl⟩
  have HN := Lib.hid hn
  have HM := Lib.hid hm
  rw [hn] at HS hc ⊢
  rw [hm] at HF hc' ⊢
  clear hn hm hs hf
  by_cases c1 : n < 2
  · have e1 : decide ((n : Int) < 2) = true := by simp; omega
    have HE := Lib.hid (show beg s f = false from beg_f1 (by rw [HN.out]; exact c1))
    clear c1 hc hc'
    go_enter Try.func76, Try.ntmps76
    go_wp2_with fail
    go_ret
    exact ⟨ret_bool HE.out.symm, Below.refl _ _⟩
  have e1 : decide ((n : Int) < 2) = false := by simp; omega
  have C1 := Lib.hid (show 2 ≤ n by omega)
  clear c1
  by_cases c2 : m < 4
  · have e2 : decide ((m : Int) < 4) = true := by simp; omega
    have HE := Lib.hid (show beg s f = false from beg_f2 (by rw [HM.out]; exact c2))
    clear c2 hc hc'
    go_enter Try.func76, Try.ntmps76
    go_wp2_with fail
    go_ret
    exact ⟨ret_bool HE.out.symm, Below.refl _ _⟩
  have e2 : decide ((m : Int) < 4) = false := by simp; omega
  have C2 := Lib.hid (show 4 ≤ m by omega)
  clear c2
  have HP := Lib.hid (show pr s ≤ 65535 from HPS.out.2)
  obtain ⟨p, hp⟩ := Int.eq_ofNat_of_zero_le HPS.out.1
  have HPE := Lib.hid hp
  have p9 : p ≤ 65535 := by have := HP.out; omega
  obtain ⟨q, hq⟩ := Int.eq_ofNat_of_zero_le HPF.out.1
  have HQE := Lib.hid hq
  have q9 : q ≤ 65535 := by have := HPF.out.2; omega
  clear hp hq
  have HC := Lib.hid hc
  have HC' := Lib.hid hc'
  clear hc hc'
  have k1 := Lib.hid (pairOf_c s _ w HS.out (by have := C1.out; have := HN.out; omega))
  rw [HPE.out] at k1
  have k2 := Lib.hid (fun (W : World) (hb : Below w.heap.size w W) => pairOf_c f _ W (HF.out.later hb) (by have := C2.out; have := HM.out; omega))
  rw [HQE.out] at k2
  by_cases c3 : 8192 < p
  · have e3 : decide ((8192 : Int) < (p : Int)) = true := by simp; omega
    have HE := Lib.hid (show beg s f = false from beg_f3 (by rw [HPE.out]; omega))
    clear c3
    go_enter Try.func76, Try.ntmps76
    go_wp2_with fail
    refine k1.out.mono ?_; rintro e w1 ⟨rfl, hb1⟩
    go_wp2_with fail
    go_ret
    exact ⟨ret_bool HE.out.symm, hb1⟩
  have e3 : decide ((8192 : Int) < (p : Int)) = false := by simp; omega
  have C3 := Lib.hid (show p ≤ 8192 by omega)
  clear c3
  by_cases c4 : p = q
  case neg =>
    have e4 : ((p : Int) != (q : Int)) = true := by simp; omega
    have e5 : (p != q) = true := by simp; omega
    have HE := Lib.hid (show beg s f = false from beg_f4 (by rw [HPE.out, HQE.out]; omega))
    clear c4
    go_enter Try.func76, Try.ntmps76
    go_wp2_with fail
    refine k1.out.mono ?_; rintro e w1 ⟨rfl, hb1⟩
    have HB1 := Lib.hid hb1
    clear hb1
    go_wp2_with fail
    refine (k2.out _ HB1.out).mono ?_; rintro e w2 ⟨rfl, hb2⟩
    have HB2 := Lib.hid (HB1.out.trans (hb2.mono HB1.out.size))
    clear hb2
    go_wp2_with fail
    go_ret
    exact ⟨ret_bool HE.out.symm, HB2.out⟩
  subst c4
  have e4 : ((p : Int) != (p : Int)) = false := by simp
  have e5 : (p != p) = false := by simp
  have z1 : IntKind.wrap .i64 ((n : Int) - 2) = (n : Int) - 2 := wrapI (by have := C1.out; omega) (by have := HS.out.1; have := HN.out; omega)
  by_cases c5 : (n : Int) - 2 < (p : Int)
  · have e6 : decide ((n : Int) - 2 < (p : Int)) = true := by simpa using c5
    have HE := Lib.hid (show beg s f = false from beg_f5 (by rw [HPE.out, HN.out]; exact c5))
    clear c5
    go_enter Try.func76, Try.ntmps76
    go_wp2_with fail
    refine k1.out.mono ?_; rintro e w1 ⟨rfl, hb1⟩
    have HB1 := Lib.hid hb1
    clear hb1
    go_wp2_with fail
    refine (k2.out _ HB1.out).mono ?_; rintro e w2 ⟨rfl, hb2⟩
    have HB2 := Lib.hid (HB1.out.trans (hb2.mono HB1.out.size))
    clear hb2
    go_wp2_with fail
    go_ret
    exact ⟨ret_bool HE.out.symm, HB2.out⟩
  have e6 : decide ((n : Int) - 2 < (p : Int)) = false := by simp; omega
  have C5 := Lib.hid (show 2 + p ≤ n by omega)
  clear c5
  have HE := Lib.hid (show beg s f = (chk (hdL s) == pr (f.drop 2)) from beg_f6 (by rw [HN.out]; exact C1.out) (by rw [HM.out]; exact C2.out) (by rw [HPE.out]; have := C3.out; omega) (by rw [HPE.out, HQE.out]) (by rw [HPE.out, HN.out]; have := C5.out; omega))
  have HH := Lib.hid (show hdL s = (s.drop 2).take (2 + p - 2) by unfold hdL; rw [HPE.out]; congr 1; omega)
  have HT := Lib.hid (show (hdL s).length ≤ 8192 by rw [HH.out]; simp; have := C3.out; omega)
  obtain ⟨V1, s1, hV1⟩ := HS.out.cut 2 (2 + (p : Int)) 2 (2 + p) rfl (by omega) (by omega) (by have := C5.out; have := HN.out; omega)
  obtain ⟨V2, s2, hV2⟩ := HF.out.cut1 2 2 rfl (by have := C2.out; have := HM.out; omega)
  rw [← HH.out] at hV1
  have k3 := Lib.hid (fun (W : World) (hb : Below w.heap.size w W) => checkOf_c (hdL s) V1 W (hV1.later hb) HT.out)
  have k4 := Lib.hid (fun (W : World) (hb : Below w.heap.size w W) => pairOf_c (f.drop 2) V2 W (hV2.later hb) (by simp; have := C2.out; have := HM.out; omega))
  have z2 : IntKind.wrap .i64 (2 + (p : Int)) = 2 + (p : Int) := wrapI (by omega) (by omega)
  obtain ⟨X, hX⟩ : ∃ X, chk (hdL s) = X := ⟨_, rfl⟩
  obtain ⟨Y, hY⟩ : ∃ X, pr (f.drop 2) = X := ⟨_, rfl⟩
  rw [hX] at k3
  rw [hY] at k4
  rw [hX, hY] at HE
  clear hX hY
  go_enter Try.func76, Try.ntmps76
  go_wp2_with fail
  refine k1.out.mono ?_; rintro e w1 ⟨rfl, hb1⟩
  have HB1 := Lib.hid hb1
  clear hb1
  go_wp2_with fail
  refine (k2.out _ HB1.out).mono ?_; rintro e w2 ⟨rfl, hb2⟩
  have HB2 := Lib.hid (HB1.out.trans (hb2.mono HB1.out.size))
  clear hb2 HB1 k1 k2
  go_wp2_with fail
  have hdr1 : Below (w2).heap.size (w2) (w2).drew := (Below.refl _ _).drew
  have hcall2 : ∀ X Y : World, (fun Wz => True ∧ (w2).heap.size ≤ Wz.heap.size) X → Below X.heap.size X Y → (fun Wz => True ∧ (w2).heap.size ≤ Wz.heap.size) Y := by
    rintro X Y ⟨tr0, xs⟩ hb
    have hb2 := Below.mono (B' := (w2).heap.size) hb xs
    exact ⟨trivial, Nat.le_trans xs hb.size⟩
  have hini3 : (fun Wz => True ∧ (w2).heap.size ≤ Wz.heap.size) (w2).drew := ⟨trivial, Nat.le_refl _⟩
  have Hcall2 := Lib.hid hcall2
  have Hini3 := Lib.hid hini3
  clear hcall2 hini3
  refine wp_region_noPanic ?_
  refine wp_region_held_drew (S := (fun Wz => True ∧ (w2).heap.size ≤ Wz.heap.size)) (by kernel_rfl) Hini3.out (fun hHeld => ?_)
  obtain ⟨W5, hW6⟩ : ∃ Wzz, (w2).drew = Wzz := ⟨_, rfl⟩
  rw [hW6] at hHeld hdr1 ⊢
  clear hW6
  have B7 := Lib.hid (HB2.out.trans (hdr1.mono HB2.out.size))
  clear hdr1
  refine wpAnyH_take (i := 0) (oi := { dst := some 31, op := Op.move (Operand.tmp 0), type := 31, pos := "tallies.go:60", after := #[], guard := none }) (v := ?vh8) rfl ?hsh8 ?hfh8 ?hrh8 ?hQh8 ?hyh8 (by assumption) ?resth8
  case hsh8 => kernel_rfl
  case hfh8 => kernel_rfl
  case hrh8 => kernel_rfl
  case hQh8 => exact fun _ _ _ h => h
  case hyh8 => (refine Or.inl ⟨by rfl, ?_⟩; intro w hSw; (try dsimp only at hSw); go_simp; try with_reducible rfl)
  try simp only [Act.put, List.setIfInBounds_toArray, List.set_cons_zero, List.set_cons_succ]
  refine wpAnyH_take (i := 1) (oi := { dst := some 32, op := Op.move (Operand.tmp 5), type := 3, pos := "tallies.go:60", after := #[], guard := none }) (v := ?vh9) rfl ?hsh9 ?hfh9 ?hrh9 ?hQh9 ?hyh9 (by assumption) ?resth9
  case hsh9 => kernel_rfl
  case hfh9 => kernel_rfl
  case hrh9 => kernel_rfl
  case hQh9 => exact fun _ _ _ h => h
  case hyh9 => (refine Or.inl ⟨by rfl, ?_⟩; intro w hSw; (try dsimp only at hSw); go_simp; try with_reducible rfl)
  try simp only [Act.put, List.setIfInBounds_toArray, List.set_cons_zero, List.set_cons_succ]
  refine wpAnyH_take (i := 2) (oi := { dst := some 33, op := Op.binOp BinOp.add 3 (Operand.const (Value.int IntKind.i64 2)) (Operand.tmp 32) 3, type := 3, pos := "tallies.go:60", after := #[{ on := 1, ground := Ground.data }], guard := none }) (v := ?vh10) rfl ?hsh10 ?hfh10 ?hrh10 ?hQh10 ?hyh10 (by assumption) ?resth10
  case hsh10 => kernel_rfl
  case hfh10 => kernel_rfl
  case hrh10 => kernel_rfl
  case hQh10 => exact fun _ _ _ h => h
  case hyh10 => (refine Or.inl ⟨by rfl, ?_⟩; intro w hSw; (try dsimp only at hSw); go_simp; try with_reducible rfl)
  try simp only [Act.put, List.setIfInBounds_toArray, List.set_cons_zero, List.set_cons_succ]
  refine wpAnyH_take (i := 3) (oi := { dst := some 34, op := Op.slice 31 (Operand.tmp 31) (some (Operand.const (Value.int IntKind.i64 2))) (some (Operand.tmp 33)) none, type := 31, pos := "tallies.go:60", after := #[{ on := 0, ground := Ground.data }, { on := 2, ground := Ground.data }], guard := none }) (v := ?vh11) rfl ?hsh11 ?hfh11 ?hrh11 ?hQh11 ?hyh11 (by assumption) ?resth11
  case hsh11 => kernel_rfl
  case hfh11 => kernel_rfl
  case hrh11 => kernel_rfl
  case hQh11 => exact fun _ _ _ h => h
  case hyh11 => (refine Or.inl ⟨by rfl, ?_⟩; intro w hSw; (try dsimp only at hSw); go_simp; try with_reducible rfl)
  try simp only [Act.put, List.setIfInBounds_toArray, List.set_cons_zero, List.set_cons_succ]
  refine wpAnyH_take (i := 5) (oi := { dst := some 36, op := Op.move (Operand.tmp 1), type := 31, pos := "tallies.go:60", after := #[], guard := none }) (v := ?vh12) rfl ?hsh12 ?hfh12 ?hrh12 ?hQh12 ?hyh12 (by assumption) ?resth12
  case hsh12 => kernel_rfl
  case hfh12 => kernel_rfl
  case hrh12 => kernel_rfl
  case hQh12 => exact fun _ _ _ h => h
  case hyh12 => (refine Or.inl ⟨by rfl, ?_⟩; intro w hSw; (try dsimp only at hSw); go_simp; try with_reducible rfl)
  try simp only [Act.put, List.setIfInBounds_toArray, List.set_cons_zero, List.set_cons_succ]
  refine wpAnyH_take (i := 6) (oi := { dst := some 37, op := Op.slice 31 (Operand.tmp 36) (some (Operand.const (Value.int IntKind.i64 2))) none none, type := 31, pos := "tallies.go:60", after := #[{ on := 5, ground := Ground.data }], guard := none }) (v := ?vh13) rfl ?hsh13 ?hfh13 ?hrh13 ?hQh13 ?hyh13 (by assumption) ?resth13
  case hsh13 => kernel_rfl
  case hfh13 => kernel_rfl
  case hrh13 => kernel_rfl
  case hQh13 => exact fun _ _ _ h => h
  case hyh13 => (refine Or.inl ⟨by rfl, ?_⟩; intro w hSw; (try dsimp only at hSw); go_simp; try with_reducible rfl)
  try simp only [Act.put, List.setIfInBounds_toArray, List.set_cons_zero, List.set_cons_succ]
  refine wpAnyH_ready (rs := [4]) (by kernel_rfl) (by simp) ?_
  refine AllReadyH.cons (o := _) (by rfl) (fun K hK => ?_) AllReadyH.nil
  go_simp
  go_at_call 42
  refine (k3.out _ B7.out).mono ?_; rintro e v14 ⟨rfl, hb15⟩
  have B16 := Lib.hid (B7.out.trans (hb15.mono B7.out.size))
  clear B7
  go_wp2_with fail
  refine hK.out _ _ (Hcall2.out _ _ hHeld (by assumption)) (fun hHeld17 => ?_)
  clear hK K hHeld
  clear hb15
  have hHeld := hHeld17
  clear hHeld17
  try simp only [Act.put, List.setIfInBounds_toArray, List.set_cons_zero, List.set_cons_succ]
  refine wpAnyH_ready (rs := [7]) (by kernel_rfl) (by simp) ?_
  refine AllReadyH.cons (o := _) (by rfl) (fun K hK => ?_) AllReadyH.nil
  go_simp
  go_at_call 77
  refine (k4.out _ B16.out).mono ?_; rintro e v18 ⟨rfl, hb19⟩
  have B20 := Lib.hid (B16.out.trans (hb19.mono B16.out.size))
  clear B16
  go_wp2_with fail
  refine hK.out _ _ (Hcall2.out _ _ hHeld (by assumption)) (fun hHeld21 => ?_)
  clear hK K hHeld
  clear hb19
  have hHeld := hHeld21
  clear hHeld21
  try simp only [Act.put, List.setIfInBounds_toArray, List.set_cons_zero, List.set_cons_succ]
  refine wpAnyH_take (i := 8) (oi := { dst := some 39, op := Op.binOp BinOp.eql 3 (Operand.tmp 35) (Operand.tmp 38) 3, type := 4, pos := "tallies.go:60", after := #[{ on := 4, ground := Ground.data }, { on := 7, ground := Ground.data }], guard := none }) (v := ?vh22) rfl ?hsh22 ?hfh22 ?hrh22 ?hQh22 ?hyh22 (by assumption) ?resth22
  case hsh22 => kernel_rfl
  case hfh22 => kernel_rfl
  case hrh22 => kernel_rfl
  case hQh22 => exact fun _ _ _ h => h
  case hyh22 => (refine Or.inl ⟨by rfl, ?_⟩; intro w hSw; (try dsimp only at hSw); go_simp; try with_reducible rfl)
  try simp only [Act.put, List.setIfInBounds_toArray, List.set_cons_zero, List.set_cons_succ]
  refine wpAnyH_take (i := 9) (oi := { dst := some 4, op := Op.assign (Operand.tmp 39), type := 4, pos := "tallies.go:60", after := #[{ on := 8, ground := Ground.data }, { on := 7, ground := Ground.chain }, { on := 0, ground := Ground.phase }, { on := 1, ground := Ground.phase }, { on := 2, ground := Ground.phase }, { on := 3, ground := Ground.phase }, { on := 4, ground := Ground.phase }, { on := 5, ground := Ground.phase }, { on := 6, ground := Ground.phase }, { on := 7, ground := Ground.phase }, { on := 8, ground := Ground.phase }], guard := none }) (v := ?vh23) rfl ?hsh23 ?hfh23 ?hrh23 ?hQh23 ?hyh23 (by assumption) ?resth23
  case hsh23 => kernel_rfl
  case hfh23 => kernel_rfl
  case hrh23 => kernel_rfl
  case hQh23 => exact fun _ _ _ h => h
  case hyh23 => (refine Or.inl ⟨by rfl, ?_⟩; intro w hSw; (try dsimp only at hSw); go_simp; try with_reducible rfl)
  try simp only [Act.put, List.setIfInBounds_toArray, List.set_cons_zero, List.set_cons_succ]
  refine wpAnyH_done (by kernel_rfl) ?_ _
  refine NoPanic.normal ?_
  clear hHeld Hcall2 Hini3
  go_wp2_with fail
  go_ret
  exact ⟨ret_bool HE.out.symm, B20.out⟩

end Go.Proofs.Ytbpbdgiglllncaa

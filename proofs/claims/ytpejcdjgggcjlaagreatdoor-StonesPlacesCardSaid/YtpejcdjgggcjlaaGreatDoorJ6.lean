/- StonesPlaces: the walk. -/
import Derived.Test.YtpejcdjgggcjlaaGreatDoorJ5
import Derived.Test.YtpejcdjgggcjlaaGreatDoorJ3
namespace Go.Proofs.YtpejcdjgggcjlaaGreatDoor
open Go.RowKit

theorem few_c (f : Fc) (v : Value) (w : World) (h : IsFace w w.heap.size v f) :
    Calls Tryz.prog 41 #[v] w fun e w' => e = .returned (.bool (decide (f.kinds.length ≤ 200))) ∧ Below w.heap.size w w' := by
  obtain ⟨s, rfl, hlen, A, cp, rfl, hcap, hcell⟩ := h
  clear hcell
  go_enter Tryz.func41, Tryz.ntmps41
  go_wp2_with fail
  go_ret
  refine ⟨ret_bool ?_, (Below.refl _ _).alloc (Nat.le_refl _) _⟩
  rw [Bool.eq_iff_iff, decide_eq_true_iff, decide_eq_true_iff]
  omega

theorem neCell (a b c d : Int) (w : World) : (binOp .neq 26 (.agg #[.int .i64 a, .int .i64 b]) (.agg #[.int .i64 c, .int .i64 d])).run Tryz.prog w = .ok (.bool (!(a == c && b == d))) w := by
  have ht : Tryz.prog.underlying 26 = some (.struct (Tryz.prog.fieldsOf 26)) := by kernel_rfl
  have hp : Tryz.prog.stoodInHeld 26 = false := by kernel_rfl
  have hf : (Tryz.prog.fieldsOf 26).toList = [{ name := "Ring", type := 3, offset := 0, embedded := false, tag := "", pkgPath := "", byteOffset := 0 }, { name := "Sector", type := 3, offset := 1, embedded := false, tag := "", pkgPath := "", byteOffset := 8 }] := by kernel_rfl
  rw [run_neq_struct, run_equalIn_struct w 9999 _ _ _ ht hp, hf]
  have e1 := fun (x y : Int) => run_equalIn_int (P := Tryz.prog) (w := w) 9998 3 .i64 .i64 x y Tryz.underlying3
  cases h1 : (a == c) <;> cases h2 : (b == d) <;>
    simp [Op.eqFields, Sem.run_bind, part0, part1, e1, h1, h2]

/-- all that the law has laid by -/
structure PlSt (w wr : World) (f : Fc) (s : Value) (r c i k n : Int) (cb : Nat) (y : Int × Int) : Prop where
  b : LkSt w wr f s r c i k n
  bc : Box wr cb 26 #[.int .i64 y.1, .int .i64 y.2]
theorem PlSt.later {w wr W : World} {f : Fc} {s : Value} {r c i k n : Int} {cb : Nat} {y : Int × Int} (h : PlSt w wr f s r c i k n cb y) (hb : Below wr.heap.size wr W) : PlSt w W f s r c i k n cb y :=
  ⟨h.b.later hb, h.bc.later hb⟩

/-- the law's memory once a cell has been set -/
structure OutSt (w wr : World) (f : Fc) (s : Value) (r c i k n : Int) (ob : Nat) (G : Fc) (so : Value) : Prop where
  b : LkSt w wr f s r c i k n
  bo : Box wr ob 24 #[.int .i64 G.eye, .int .i64 G.rings, .int .i64 G.sectors, so]
  io : Ints wr wr.heap.size so G.kinds
theorem OutSt.later {w wr W : World} {f G : Fc} {s so : Value} {r c i k n : Int} {ob : Nat} (h : OutSt w wr f s r c i k n ob G so) (hb : Below wr.heap.size wr W) : OutSt w W f s r c i k n ob G so :=
  ⟨h.b.later hb, h.bo.later hb, h.io.mono hb hb.size⟩
/-- how many cells the first kinds have -/
def cntTo (G : Fc) (N : Nat) : Nat → Nat
  | 0 => 0
  | k + 1 => cntTo G N k + (kindCells G (k : Int) N).length
theorem cntTo_bd (G : Fc) (N k : Nat) : cntTo G N k ≤ k * N := by
  induction k with
  | zero => simp [cntTo]
  | succ k ih => have := kindCells_len G (k : Int) N; rw [cntTo, Nat.succ_mul]; omega

theorem cnt3 (G : Fc) (N : Nat) : cntTo G N 3 = (kindCells G 0 N).length + (kindCells G 1 N).length + (kindCells G 2 N).length := by
  show 0 + _ + _ + _ = _
  rw [Nat.zero_add]
  rfl

theorem idx_cel {f : Fc} {r c : Int} (h : ckCell f r c = 0) : ckIdx f (idxOf f r c) = 0 ∧ celOf f (idxOf f r c) = (r, c) := by
  obtain ⟨hv, i1, i2, i3, i4⟩ := ckCell_ok h
  dsimp only at i1 i2 i3 i4
  have hb := idx_bd hv i1 i2 i3 i4
  have e : idxOf f r c = r * f.sectors + c := by simp [idxOf, h]
  have h1 : ckIdx f (idxOf f r c) = 0 := by rw [e]; simp only [ckIdx, hv, if_true]; rw [if_pos hb]
  refine ⟨h1, ?_⟩
  unfold celOf
  rw [if_pos h1, e, (idx_div i3 i4).1, (idx_div i3 i4).2]
theorem cel_idx {f : Fc} {i : Int} (h : ckIdx f i = 0) : ckCell f (celOf f i).1 (celOf f i).2 = 0 ∧ idxOf f (celOf f i).1 (celOf f i).2 = i := by
  unfold ckIdx at h
  split at h
  · rename_i hv
    split at h
    · rename_i hi
      obtain ⟨⟨⟨a1, a2⟩, ⟨a3, a4⟩, a5, a6⟩, hl, -⟩ := validB_iff.1 hv
      have e : celOf f i = (i / f.sectors, i % f.sectors) := by unfold celOf ckIdx; rw [if_pos (by rw [if_pos hv, if_pos hi])]
      have hin : InF f (i / f.sectors, i % f.sectors) := ⟨Int.ediv_nonneg hi.1 (by omega), Int.ediv_lt_of_lt_mul (by omega) (by omega), Int.emod_nonneg _ (by omega), Int.emod_lt_of_pos _ (by omega)⟩
      rw [e]
      have h2 : ckCell f (i / f.sectors) (i % f.sectors) = 0 := by unfold ckCell; rw [if_pos hv, if_pos hin]
      exact ⟨h2, by unfold idxOf; rw [if_pos h2]; exact idx_back i f.sectors⟩
    · omega
  · omega

set_option maxRecDepth 100000 in
set_option maxHeartbeats 8000000 in
theorem StonesPlaces_c (f : Fc) (v : Value) (r c i k n : Int) (w : World) (hf : IsFace w w.heap.size v f) (hml : ML w) :
    Calls Tryz.prog 6 #[v, .agg #[.int .i64 r, .int .i64 c, .int .i64 i, .int .i64 k, .int .i64 n]] w fun e w' => e = .returned (.bool true) ∧ Below w.heap.size w w' := by
  have hF := hf
  obtain ⟨s, rfl, hlen, A, cp, rfl, hcap, hcell⟩ := hf
  clear hcell
  have h0 : LkSt w ((w.alloc (.cells #[.int .i64 f.eye, .int .i64 f.rings, .int .i64 f.sectors, .slice A f.kinds.length cp] 24)).alloc (.cells #[.int .i64 r, .int .i64 c, .int .i64 i, .int .i64 k, .int .i64 n] 28)) f (.slice A f.kinds.length cp) r c i k n := by
    have b1 := Box.made (w.alloc (.cells #[.int .i64 f.eye, .int .i64 f.rings, .int .i64 f.sectors, .slice A f.kinds.length cp] 24)) 28 #[.int .i64 r, .int .i64 c, .int .i64 i, .int .i64 k, .int .i64 n]
    rw [World.size_alloc] at b1
    exact ⟨faceBox w f _ _, b1, ((Below.refl _ _).alloc (Nat.le_refl _) _).alloc (by simp) _⟩
  have hml2 := hml.later h0.bel
  have eqc := eqCell
  have nec := neCell
  clear hml
  go_enter Tryz.func6, Tryz.ntmps6
  go_wp2_with fail
  refine (awake_c _ hml2).mono ?_; rintro e w1 ⟨rfl, hb1⟩
  have h1 := h0.later hb1
  clear h0 hb1 hml2
  have k0 : w1.cell? ⟨w.heap.size, 0, none⟩ = some (.int .i64 f.eye) := h1.b0.cell 0
  have k1 : w1.cell? ⟨w.heap.size, 1, none⟩ = some (.int .i64 f.rings) := h1.b0.cell 1
  have k2 : w1.cell? ⟨w.heap.size, 2, none⟩ = some (.int .i64 f.sectors) := h1.b0.cell 2
  have k3 : w1.cell? ⟨w.heap.size, 3, none⟩ = some (.slice A f.kinds.length cp) := h1.b0.cell 3
  go_wp2_with fail
  refine (few_c f _ w1 (hF.mono h1.bel h1.bel.size)).mono ?_; rintro e w2 ⟨rfl, hb2⟩
  have h2 := h1.later hb2
  clear k0 k1 k2 k3 hb2 h1
  cases hsh : decide (f.kinds.length ≤ 200)
  · go_wp2_with fail
    go_ret
    exact ⟨rfl, h2.bel⟩
  clear hsh
  have k0 : w2.cell? ⟨w.heap.size, 0, none⟩ = some (.int .i64 f.eye) := h2.b0.cell 0
  have k1 : w2.cell? ⟨w.heap.size, 1, none⟩ = some (.int .i64 f.rings) := h2.b0.cell 1
  have k2 : w2.cell? ⟨w.heap.size, 2, none⟩ = some (.int .i64 f.sectors) := h2.b0.cell 2
  have k3 : w2.cell? ⟨w.heap.size, 3, none⟩ = some (.slice A f.kinds.length cp) := h2.b0.cell 3
  have k4 : w2.cell? ⟨w.heap.size + 1, 0, none⟩ = some (.int .i64 r) := h2.b1.cell 0
  have k5 : w2.cell? ⟨w.heap.size + 1, 1, none⟩ = some (.int .i64 c) := h2.b1.cell 1
  go_wp2_with fail
  refine (Index_c f _ r c w2 (hF.mono h2.bel h2.bel.size)).mono ?_; rintro e w3 ⟨rfl, hb3⟩
  have h3 := h2.later hb3
  clear k0 k1 k2 k3 k4 k5 hb3 h2
  have k0 : w3.cell? ⟨w.heap.size, 0, none⟩ = some (.int .i64 f.eye) := h3.b0.cell 0
  have k1 : w3.cell? ⟨w.heap.size, 1, none⟩ = some (.int .i64 f.rings) := h3.b0.cell 1
  have k2 : w3.cell? ⟨w.heap.size, 2, none⟩ = some (.int .i64 f.sectors) := h3.b0.cell 2
  have k3 : w3.cell? ⟨w.heap.size, 3, none⟩ = some (.slice A f.kinds.length cp) := h3.b0.cell 3
  have k4 : w3.cell? ⟨w.heap.size + 1, 2, none⟩ = some (.int .i64 i) := h3.b1.cell 2
  go_wp2_with fail
  refine (CellOf_c f _ i w3 (hF.mono h3.bel h3.bel.size)).mono ?_; rintro e w4 ⟨rfl, hb4⟩
  have h4 := h3.later hb4
  clear k0 k1 k2 k3 k4 hb4 h3
  have h5 : PlSt w (w4.alloc (.cells #[.int .i64 (celOf f i).1, .int .i64 (celOf f i).2] 26)) f (.slice A f.kinds.length cp) r c i k n w4.heap.size (celOf f i) :=
    ⟨h4.later ((Below.refl _ _).alloc (Nat.le_refl _) _), Box.made _ _ _⟩
  have k0 : ∀ o : Obj, (w4.alloc o).cell? ⟨w.heap.size, 0, none⟩ = some (.int .i64 f.eye) := fun o => (h4.b0.alloc o).cell 0
  have k1 : ∀ o : Obj, (w4.alloc o).cell? ⟨w.heap.size, 1, none⟩ = some (.int .i64 f.rings) := fun o => (h4.b0.alloc o).cell 1
  have k2 : ∀ o : Obj, (w4.alloc o).cell? ⟨w.heap.size, 2, none⟩ = some (.int .i64 f.sectors) := fun o => (h4.b0.alloc o).cell 2
  have k3 : ∀ o : Obj, (w4.alloc o).cell? ⟨w.heap.size, 3, none⟩ = some (.slice A f.kinds.length cp) := fun o => (h4.b0.alloc o).cell 3
  have k4 : ∀ o : Obj, (w4.alloc o).cell? ⟨w.heap.size + 1, 0, none⟩ = some (.int .i64 r) := fun o => (h4.b1.alloc o).cell 0
  have k5 : ∀ o : Obj, (w4.alloc o).cell? ⟨w.heap.size + 1, 1, none⟩ = some (.int .i64 c) := fun o => (h4.b1.alloc o).cell 1
  have k6 : ∀ o : Obj, (w4.alloc o).cell? ⟨w.heap.size + 1, 2, none⟩ = some (.int .i64 i) := fun o => (h4.b1.alloc o).cell 2
  have k7 : ∀ o : Obj, (w4.alloc o).cell? ⟨w.heap.size + 1, 3, none⟩ = some (.int .i64 k) := fun o => (h4.b1.alloc o).cell 3
  generalize hy : celOf f i = y at *
  obtain ⟨y1, y2⟩ := y
  dsimp only at h5 ⊢
  have hF5 := hF.mono h5.b.bel h5.b.bel.size
  by_cases hk : ckCell f r c = 0
  · obtain ⟨q1, q2⟩ := idx_cel hk
    have hd : (ckCell f r c == 0) = true := by simpa using hk
    clear h4
    go_wp2_with fail
    refine (CellOf_c f _ (idxOf f r c) _ hF5).mono ?_; rintro e w6 ⟨rfl, hb6⟩
    rw [q1, q2]
    have h6 := h5.later hb6
    clear k0 k1 k2 k3 k4 k5 k6 k7 hF5
    have bk := Box.made w6 26 #[.int .i64 r, .int .i64 c]
    have h7 := h6.later ((Below.refl _ _).alloc (Nat.le_refl _) (.cells #[.int .i64 r, .int .i64 c] 26))
    clear h5 h6 hb6
    obtain ⟨w7, hw7⟩ : ∃ W, W = w6.alloc (.cells #[.int .i64 r, .int .i64 c] 26) := ⟨_, rfl⟩
    have hF7 := hF.mono h7.b.bel h7.b.bel.size
    have k0 : (w6.alloc (.cells #[.int .i64 r, .int .i64 c] 26)).cell? ⟨w.heap.size, 0, none⟩ = some (.int .i64 f.eye) := h7.b.b0.cell 0
    have k1 : (w6.alloc (.cells #[.int .i64 r, .int .i64 c] 26)).cell? ⟨w.heap.size, 1, none⟩ = some (.int .i64 f.rings) := h7.b.b0.cell 1
    have k2 : (w6.alloc (.cells #[.int .i64 r, .int .i64 c] 26)).cell? ⟨w.heap.size, 2, none⟩ = some (.int .i64 f.sectors) := h7.b.b0.cell 2
    have k3 : (w6.alloc (.cells #[.int .i64 r, .int .i64 c] 26)).cell? ⟨w.heap.size, 3, none⟩ = some (.slice A f.kinds.length cp) := h7.b.b0.cell 3
    have k4 : (w6.alloc (.cells #[.int .i64 r, .int .i64 c] 26)).cell? ⟨w.heap.size + 1, 0, none⟩ = some (.int .i64 r) := h7.b.b1.cell 0
    have k5 : (w6.alloc (.cells #[.int .i64 r, .int .i64 c] 26)).cell? ⟨w.heap.size + 1, 1, none⟩ = some (.int .i64 c) := h7.b.b1.cell 1
    have k6 : (w6.alloc (.cells #[.int .i64 r, .int .i64 c] 26)).cell? ⟨w.heap.size + 1, 2, none⟩ = some (.int .i64 i) := h7.b.b1.cell 2
    have k7 : (w6.alloc (.cells #[.int .i64 r, .int .i64 c] 26)).cell? ⟨w.heap.size + 1, 3, none⟩ = some (.int .i64 k) := h7.b.b1.cell 3
    have k8 : (w6.alloc (.cells #[.int .i64 r, .int .i64 c] 26)).cell? ⟨w4.heap.size, 0, none⟩ = some (.int .i64 y1) := h7.bc.cell 0
    have k9 : (w6.alloc (.cells #[.int .i64 r, .int .i64 c] 26)).cell? ⟨w4.heap.size, 1, none⟩ = some (.int .i64 y2) := h7.bc.cell 1
    by_cases hg : ckIdx f i = 0
    · have hd2 : (ckIdx f i == 0) = true := by simpa using hg
      obtain ⟨x1, x2⟩ := cel_idx hg
      rw [hy] at x1 x2
      dsimp only at x1 x2
      go_wp2_with fail
      refine (Index_c f _ y1 y2 _ hF7).mono ?_; rintro e w8 ⟨rfl, hb8⟩
      rw [x1, x2]
      have h8 := (h7.later hb8).b
      clear k0 k1 k2 k3 k4 k5 k6 k7 k8 k9 hF7 h7 hb8 bk
      have k0 : w8.cell? ⟨w.heap.size, 0, none⟩ = some (.int .i64 f.eye) := h8.b0.cell 0
      have k1 : w8.cell? ⟨w.heap.size, 1, none⟩ = some (.int .i64 f.rings) := h8.b0.cell 1
      have k2 : w8.cell? ⟨w.heap.size, 2, none⟩ = some (.int .i64 f.sectors) := h8.b0.cell 2
      have k3 : w8.cell? ⟨w.heap.size, 3, none⟩ = some (.slice A f.kinds.length cp) := h8.b0.cell 3
      have k4 : w8.cell? ⟨w.heap.size + 1, 0, none⟩ = some (.int .i64 r) := h8.b1.cell 0
      have k5 : w8.cell? ⟨w.heap.size + 1, 1, none⟩ = some (.int .i64 c) := h8.b1.cell 1
      have k6 : w8.cell? ⟨w.heap.size + 1, 2, none⟩ = some (.int .i64 i) := h8.b1.cell 2
      have k7 : w8.cell? ⟨w.heap.size + 1, 3, none⟩ = some (.int .i64 k) := h8.b1.cell 3
      go_wp2_with fail
      clear k0 k1 k2 k3 k4 k5 k6 k7 x1 x2 hd2 hd q1 q2 hw7 w7
      refine (Set_c f _ r c k w8 (hF.mono h8.bel h8.bel.size)).mono ?_
      rintro e w9 ⟨oA, on, oc, rfl, hIo, -, hb9⟩
      have h9 := h8.later hb9
      clear h8 hb9
      cases hkd : inB k 0 2
      · have e1 : ckSet f r c k = 1 := by simp [ckSet, hk, hkd]
        rw [e1]
        go_wp2_with fail
        go_ret
        exact ⟨rfl, h9.bel.alloc h9.bel.size _⟩
      have e1 : ckSet f r c k = 0 := by simp [ckSet, hk, hkd]
      have e2 : setOf f r c k = setF f r c k := by simp [setOf, e1]
      obtain ⟨hv, hin⟩ := ckCell_ok hk
      have hvg := setF_valid (r := r) (c := c) hv hkd
      have hsum := kindCells_sum hvg
      have hlg := setF_len f r c k
      have hl6 : f.kinds.length ≤ 2304 := (len_val hv).2.2
      have hpl := fun (kd : Int) (x : Int × Int) (hx : x ∈ kindCells (setF f r c k) kd f.kinds.length) => place_of hv hin hx
      have hge : (setF f r c k).eye = f.eye ∧ (setF f r c k).rings = f.rings ∧ (setF f r c k).sectors = f.sectors := ⟨rfl, rfl, rfl⟩
      rw [e2] at hIo
      rw [e1, e2]
      clear hin e1 e2 hkd hk hg hy
      generalize setF f r c k = G at *
      rw [hlg] at hsum
      obtain ⟨N, hN⟩ : ∃ N, N = f.kinds.length := ⟨_, rfl⟩
      have h3 : cntTo G N 3 = N := by rw [cnt3, hN]; exact hsum
      have H3 := Lib.hid h3
      have HN := Lib.hid hN
      have hN2 : N ≤ 2304 := by omega
      have Hpl := Lib.hid hpl
      have Hv := Lib.hid hv
      have Hvg := Lib.hid hvg
      have Hlg := Lib.hid hlg
      have Hge := Lib.hid hge
      have hbw9 : Below w9.heap.size w9 (w9.alloc (.cells #[.int .i64 G.eye, .int .i64 G.rings, .int .i64 G.sectors, .slice oA on oc] 24)) := (Below.refl _ _).alloc (Nat.le_refl _) _
      have hst : OutSt w (w9.alloc (.cells #[.int .i64 G.eye, .int .i64 G.rings, .int .i64 G.sectors, .slice oA on oc] 24)) f (.slice A f.kinds.length cp) r c i k n w9.heap.size G (.slice oA on oc) :=
        ⟨h9.later hbw9, Box.made _ _ _, hIo.mono hbw9 hbw9.size⟩
      clear h3 hpl hv hvg hlg hge hsum hbw9 h9 hIo hN
      go_wp2_with fail
      generalize w9.alloc (.cells #[.int .i64 G.eye, .int .i64 G.rings, .int .i64 G.sectors, .slice oA on oc] 24) = w10 at *
      generalize w9.heap.size = ob at *
      go_loopw [16, 17] (fun nv kv wr => ∃ kd : Nat, kd ≤ 3 ∧ kv = .int .i64 (kd : Int) ∧ nv = .int .i64 ((cntTo G N kd : Nat) : Int) ∧ OutSt w wr f (.slice A f.kinds.length cp) r c i k n ob G (.slice oA on oc)) (fun _ kv _ => 3 - (intOf kv).toNat)
      case atStart => exact ⟨0, by omega, rfl, rfl, hst⟩
      case round =>
        clear hst
        obtain ⟨kd, hkd, rfl, rfl, hst⟩ := hrel
        have hcb := cntTo_bd G N kd
        have hcb2 : cntTo G N kd ≤ 10000 := by
          have : kd * N ≤ 3 * 2304 := Nat.mul_le_mul hkd (by omega)
          omega
        by_cases hlt : kd < 3
        · have hck : ckKind G (kd : Int) = 0 := by unfold ckKind; rw [if_pos Hvg.out, if_pos (inB_iff.2 (by omega))]
          have hkc : kcOf G (kd : Int) = kindCells G (kd : Int) N := by unfold kcOf; rw [if_pos hck, Hlg.out, ← HN.out]
          have Hs := Lib.hid (show cntTo G N (kd + 1) = cntTo G N kd + (kindCells G (kd : Int) N).length from rfl)
          have hll := kindCells_len G (kd : Int) N
          have Hlt := Lib.hid (show kd + 1 ≤ 3 ∧ 3 - (kd + 1) < 3 - kd by omega)
          have hpk := fun m (hm : m < (kindCells G (kd : Int) N).length) => Hpl.out (kd : Int) _ (by rw [← HN.out]; exact cth_mem hm)
          have Hpk := Lib.hid hpk
          have k0 : wr.cell? ⟨ob, 0, none⟩ = some (.int .i64 G.eye) := hst.bo.cell 0
          have k1 : wr.cell? ⟨ob, 1, none⟩ = some (.int .i64 G.rings) := hst.bo.cell 1
          have k2 : wr.cell? ⟨ob, 2, none⟩ = some (.int .i64 G.sectors) := hst.bo.cell 2
          have k3 : wr.cell? ⟨ob, 3, none⟩ = some (.slice oA on oc) := hst.bo.cell 3
          have hd : decide ((kd : Int) < 3) = true := by rw [decide_eq_true_iff]; omega
          clear hpk
          go_wp2_with fail
          refine (Cells_c G _ (kd : Int) wr (IsFace.mk hst.io)).mono ?_; rintro e w11 ⟨lv, rfl, hC, hb11⟩
          rw [hck]
          rw [hkc] at hC
          have h11 := hst.later hb11
          clear hck hkc k0 k1 k2 k3 hb11 hst
          generalize kindCells G (kd : Int) N = L at *
          obtain ⟨LA, lc, rfl, hlc, hlcell⟩ := hC
          generalize cntTo G N kd = T at *
          go_wp2_with fail
          go_loopw [20] (fun mv wx => ∃ m : Nat, m ≤ L.length ∧ mv = .int .i64 (m : Int) ∧ Below w11.heap.size w11 wx) (fun mv _ => L.length - (intOf mv).toNat)
          case atStart => exact ⟨0, Nat.zero_le _, rfl, Below.refl _ _⟩
          case round =>
            obtain ⟨m, hm, rfl, hbr⟩ := hrel
            by_cases hmt : m < L.length
            · obtain ⟨b, off, rfl, hbB, hcc⟩ := hlcell (by omega)
              obtain ⟨hx0, hy0⟩ := hcc m hmt
              have hx := keepd hx0 hbr hbB
              have hy := keepd hy0 hbr hbB
              obtain ⟨p1, p2, p3, p4⟩ := Hpk.out m hmt
              have hr := h11.later hbr
              have Hmt := Lib.hid (show m + 1 ≤ L.length ∧ L.length - (m + 1) < L.length - m by omega)
              have hdm : decide ((m : Int) < (L.length : Int)) = true := by rw [decide_eq_true_iff]; omega
              have i0 : (0 : Int) ≤ (m : Int) := Int.natCast_nonneg _
              have i1 : (m : Int) < (L.length : Int) := by omega
              clear hcc hlcell h11 hx0 hy0 Hpk
              generalize cth L m = x at *
              obtain ⟨x1, x2⟩ := x
              dsimp only at *
              have z1 : ckCell G x1 x2 = 0 := by
                unfold ckCell
                rw [if_pos Hvg.out, if_pos]
                unfold InF at p1 ⊢
                rw [Hge.out.2.1, Hge.out.2.2]
                exact p1
              have z2 : ckCell f x1 x2 = 0 := by unfold ckCell; rw [if_pos Hv.out, if_pos p1]
              have z3 : atOf G x1 x2 = (kd : Int) := by unfold atOf; rw [if_pos z1, p2]
              have z4 : atOf f x1 x2 = kat f x1 x2 := by unfold atOf; rw [if_pos z2]
              have hdr : Below wr.heap.size wr wr.drew := (Below.refl _ _).drew
              have hGd : IsFace wr.drew wr.drew.heap.size _ G := (IsFace.mk hr.io).mono hdr hdr.size
              have hbW : b < wr.heap.size := Nat.lt_of_lt_of_le hbB hbr.size
              have hob := hr.bo.lt
              have k0 : wr.cell? ⟨ob, 0, none⟩ = some (.int .i64 G.eye) := hr.bo.cell 0
              have k1 : wr.cell? ⟨ob, 1, none⟩ = some (.int .i64 G.rings) := hr.bo.cell 1
              have k2 : wr.cell? ⟨ob, 2, none⟩ = some (.int .i64 G.sectors) := hr.bo.cell 2
              have k3 : wr.cell? ⟨ob, 3, none⟩ = some (.slice oA on oc) := hr.bo.cell 3
              go_wp2_with fail
              go_region_held3 (fun W => W.cell? ⟨ob, 0, none⟩ = some (.int .i64 G.eye) ∧ W.cell? ⟨ob, 1, none⟩ = some (.int .i64 G.rings) ∧ W.cell? ⟨ob, 2, none⟩ = some (.int .i64 G.sectors) ∧ W.cell? ⟨ob, 3, none⟩ = some (.slice oA on oc) ∧ W.cell? ⟨b, off + m * 2, none⟩ = some (.int .i64 x1) ∧ W.cell? ⟨b, off + m * 2 + 1, none⟩ = some (.int .i64 x2) ∧ Below wr.heap.size wr W ∧ wr.heap.size ≤ W.heap.size) (first | assumption | (refine ⟨?_, ?_, ?_, ?_, ?_, ?_, (Below.refl _ _).drew, by first | (simp; done) | (simp; omega) | omega⟩ <;> go_keep) | (obtain ⟨x0, x1, x2, x3, x4, x5, xb, xs⟩ := ‹_ ∧ _›; first | exact ⟨keepd x0 (Below.alloc (Below.refl (wr.heap.size) _) xs _) (by omega), keepd x1 (Below.alloc (Below.refl (wr.heap.size) _) xs _) (by omega), keepd x2 (Below.alloc (Below.refl (wr.heap.size) _) xs _) (by omega), keepd x3 (Below.alloc (Below.refl (wr.heap.size) _) xs _) (by omega), keepd x4 (Below.alloc (Below.refl (wr.heap.size) _) xs _) (by omega), keepd x5 (Below.alloc (Below.refl (wr.heap.size) _) xs _) (by omega), Below.trans xb (Below.mono (Below.alloc (Below.refl (wr.heap.size) _) xs _) (by omega)), Nat.le_trans xs (Below.size (Below.alloc (Below.refl (wr.heap.size) _) xs _))⟩ | exact ⟨keepd x0 (Below.mono (B' := wr.heap.size) (by assumption) xs) (by omega), keepd x1 (Below.mono (B' := wr.heap.size) (by assumption) xs) (by omega), keepd x2 (Below.mono (B' := wr.heap.size) (by assumption) xs) (by omega), keepd x3 (Below.mono (B' := wr.heap.size) (by assumption) xs) (by omega), keepd x4 (Below.mono (B' := wr.heap.size) (by assumption) xs) (by omega), keepd x5 (Below.mono (B' := wr.heap.size) (by assumption) xs) (by omega), Below.trans xb (Below.mono (Below.mono (B' := wr.heap.size) (by assumption) xs) (by omega)), Nat.le_trans xs (Below.size (Below.mono (B' := wr.heap.size) (by assumption) xs))⟩ | exact ⟨keepd x0 (hgst) (by omega), keepd x1 (hgst) (by omega), keepd x2 (hgst) (by omega), keepd x3 (hgst) (by omega), keepd x4 (hgst) (by omega), keepd x5 (hgst) (by omega), Below.trans xb (Below.mono (hgst) (by omega)), Nat.le_trans xs (Below.size (hgst))⟩ | exact ⟨keepd x0 (Below.setCell (Below.refl (wr.heap.size) _) (by first | (simp; done) | (simp; omega)) _) (by omega), keepd x1 (Below.setCell (Below.refl (wr.heap.size) _) (by first | (simp; done) | (simp; omega)) _) (by omega), keepd x2 (Below.setCell (Below.refl (wr.heap.size) _) (by first | (simp; done) | (simp; omega)) _) (by omega), keepd x3 (Below.setCell (Below.refl (wr.heap.size) _) (by first | (simp; done) | (simp; omega)) _) (by omega), keepd x4 (Below.setCell (Below.refl (wr.heap.size) _) (by first | (simp; done) | (simp; omega)) _) (by omega), keepd x5 (Below.setCell (Below.refl (wr.heap.size) _) (by first | (simp; done) | (simp; omega)) _) (by omega), Below.trans xb (Below.mono (Below.setCell (Below.refl (wr.heap.size) _) (by first | (simp; done) | (simp; omega)) _) (by omega)), Nat.le_trans xs (Below.size (Below.setCell (Below.refl (wr.heap.size) _) (by first | (simp; done) | (simp; omega)) _))⟩ | exact ⟨keepd x0 (Below.setCell (Below.setCell (Below.setCell (Below.setCell (Below.refl (wr.heap.size) _) (by first | (simp; done) | (simp; omega)) _) (by first | (simp; done) | (simp; omega)) _) (by first | (simp; done) | (simp; omega)) _) (by first | (simp; done) | (simp; omega)) _) (by omega), keepd x1 (Below.setCell (Below.setCell (Below.setCell (Below.setCell (Below.refl (wr.heap.size) _) (by first | (simp; done) | (simp; omega)) _) (by first | (simp; done) | (simp; omega)) _) (by first | (simp; done) | (simp; omega)) _) (by first | (simp; done) | (simp; omega)) _) (by omega), keepd x2 (Below.setCell (Below.setCell (Below.setCell (Below.setCell (Below.refl (wr.heap.size) _) (by first | (simp; done) | (simp; omega)) _) (by first | (simp; done) | (simp; omega)) _) (by first | (simp; done) | (simp; omega)) _) (by first | (simp; done) | (simp; omega)) _) (by omega), keepd x3 (Below.setCell (Below.setCell (Below.setCell (Below.setCell (Below.refl (wr.heap.size) _) (by first | (simp; done) | (simp; omega)) _) (by first | (simp; done) | (simp; omega)) _) (by first | (simp; done) | (simp; omega)) _) (by first | (simp; done) | (simp; omega)) _) (by omega), keepd x4 (Below.setCell (Below.setCell (Below.setCell (Below.setCell (Below.refl (wr.heap.size) _) (by first | (simp; done) | (simp; omega)) _) (by first | (simp; done) | (simp; omega)) _) (by first | (simp; done) | (simp; omega)) _) (by first | (simp; done) | (simp; omega)) _) (by omega), keepd x5 (Below.setCell (Below.setCell (Below.setCell (Below.setCell (Below.refl (wr.heap.size) _) (by first | (simp; done) | (simp; omega)) _) (by first | (simp; done) | (simp; omega)) _) (by first | (simp; done) | (simp; omega)) _) (by first | (simp; done) | (simp; omega)) _) (by omega), Below.trans xb (Below.mono (Below.setCell (Below.setCell (Below.setCell (Below.setCell (Below.refl (wr.heap.size) _) (by first | (simp; done) | (simp; omega)) _) (by first | (simp; done) | (simp; omega)) _) (by first | (simp; done) | (simp; omega)) _) (by first | (simp; done) | (simp; omega)) _) (by omega)), Nat.le_trans xs (Below.size (Below.setCell (Below.setCell (Below.setCell (Below.setCell (Below.refl (wr.heap.size) _) (by first | (simp; done) | (simp; omega)) _) (by first | (simp; done) | (simp; omega)) _) (by first | (simp; done) | (simp; omega)) _) (by first | (simp; done) | (simp; omega)) _))⟩)) (first | (go_at_call 9; refine (At_c G _ x1 x2 _ hGd).mono ?_; rw [z1, z3]; rintro e w12 ⟨rfl, hb12⟩))
              obtain ⟨-, -, -, -, -, -, xb, -⟩ := ‹_ ∧ _›
              have h12 := hr.later xb
              have hx2 := keepd hx xb hbW
              have hy2 := keepd hy xb hbW
              have hbn := chain hbr xb
              have hbW2 : b < w12.heap.size := Nat.lt_of_lt_of_le hbW xb.size
              have hFd : IsFace w12.drew w12.drew.heap.size _ f := hF.mono h12.b.bel.drew (by have := h12.b.bel.size; show _ ≤ w12.heap.size; omega)
              have hs12 := h12.b.b1.lt
              clear k0 k1 k2 k3 hx hy hb12 xb hGd hdr hr hbr z1 z3 hob p2
              have k0 : w12.cell? ⟨w.heap.size, 0, none⟩ = some (.int .i64 f.eye) := h12.b.b0.cell 0
              have k1 : w12.cell? ⟨w.heap.size, 1, none⟩ = some (.int .i64 f.rings) := h12.b.b0.cell 1
              have k2 : w12.cell? ⟨w.heap.size, 2, none⟩ = some (.int .i64 f.sectors) := h12.b.b0.cell 2
              have k3 : w12.cell? ⟨w.heap.size, 3, none⟩ = some (.slice A f.kinds.length cp) := h12.b.b0.cell 3
              go_wp2_with fail
              go_region_held3 (fun W => W.cell? ⟨(w.heap.size), 0, none⟩ = some (.int .i64 f.eye) ∧ W.cell? ⟨(w.heap.size), 1, none⟩ = some (.int .i64 f.rings) ∧ W.cell? ⟨(w.heap.size), 2, none⟩ = some (.int .i64 f.sectors) ∧ W.cell? ⟨(w.heap.size), 3, none⟩ = some (.slice A f.kinds.length cp) ∧ W.cell? ⟨b, off + m * 2, none⟩ = some (.int .i64 x1) ∧ W.cell? ⟨b, off + m * 2 + 1, none⟩ = some (.int .i64 x2) ∧ Below w12.heap.size w12 W ∧ w12.heap.size ≤ W.heap.size) (first | assumption | (refine ⟨?_, ?_, ?_, ?_, ?_, ?_, (Below.refl _ _).drew, by first | (simp; done) | (simp; omega) | omega⟩ <;> go_keep) | (obtain ⟨x0, x1, x2, x3, x4, x5, xb, xs⟩ := ‹_ ∧ _›; first | exact ⟨keepd x0 (Below.alloc (Below.refl (w12.heap.size) _) xs _) (by omega), keepd x1 (Below.alloc (Below.refl (w12.heap.size) _) xs _) (by omega), keepd x2 (Below.alloc (Below.refl (w12.heap.size) _) xs _) (by omega), keepd x3 (Below.alloc (Below.refl (w12.heap.size) _) xs _) (by omega), keepd x4 (Below.alloc (Below.refl (w12.heap.size) _) xs _) (by omega), keepd x5 (Below.alloc (Below.refl (w12.heap.size) _) xs _) (by omega), Below.trans xb (Below.mono (Below.alloc (Below.refl (w12.heap.size) _) xs _) (by omega)), Nat.le_trans xs (Below.size (Below.alloc (Below.refl (w12.heap.size) _) xs _))⟩ | exact ⟨keepd x0 (Below.mono (B' := w12.heap.size) (by assumption) xs) (by omega), keepd x1 (Below.mono (B' := w12.heap.size) (by assumption) xs) (by omega), keepd x2 (Below.mono (B' := w12.heap.size) (by assumption) xs) (by omega), keepd x3 (Below.mono (B' := w12.heap.size) (by assumption) xs) (by omega), keepd x4 (Below.mono (B' := w12.heap.size) (by assumption) xs) (by omega), keepd x5 (Below.mono (B' := w12.heap.size) (by assumption) xs) (by omega), Below.trans xb (Below.mono (Below.mono (B' := w12.heap.size) (by assumption) xs) (by omega)), Nat.le_trans xs (Below.size (Below.mono (B' := w12.heap.size) (by assumption) xs))⟩ | exact ⟨keepd x0 (hgst) (by omega), keepd x1 (hgst) (by omega), keepd x2 (hgst) (by omega), keepd x3 (hgst) (by omega), keepd x4 (hgst) (by omega), keepd x5 (hgst) (by omega), Below.trans xb (Below.mono (hgst) (by omega)), Nat.le_trans xs (Below.size (hgst))⟩ | exact ⟨keepd x0 (Below.setCell (Below.refl (w12.heap.size) _) (by first | (simp; done) | (simp; omega)) _) (by omega), keepd x1 (Below.setCell (Below.refl (w12.heap.size) _) (by first | (simp; done) | (simp; omega)) _) (by omega), keepd x2 (Below.setCell (Below.refl (w12.heap.size) _) (by first | (simp; done) | (simp; omega)) _) (by omega), keepd x3 (Below.setCell (Below.refl (w12.heap.size) _) (by first | (simp; done) | (simp; omega)) _) (by omega), keepd x4 (Below.setCell (Below.refl (w12.heap.size) _) (by first | (simp; done) | (simp; omega)) _) (by omega), keepd x5 (Below.setCell (Below.refl (w12.heap.size) _) (by first | (simp; done) | (simp; omega)) _) (by omega), Below.trans xb (Below.mono (Below.setCell (Below.refl (w12.heap.size) _) (by first | (simp; done) | (simp; omega)) _) (by omega)), Nat.le_trans xs (Below.size (Below.setCell (Below.refl (w12.heap.size) _) (by first | (simp; done) | (simp; omega)) _))⟩ | exact ⟨keepd x0 (Below.setCell (Below.setCell (Below.setCell (Below.setCell (Below.refl (w12.heap.size) _) (by first | (simp; done) | (simp; omega)) _) (by first | (simp; done) | (simp; omega)) _) (by first | (simp; done) | (simp; omega)) _) (by first | (simp; done) | (simp; omega)) _) (by omega), keepd x1 (Below.setCell (Below.setCell (Below.setCell (Below.setCell (Below.refl (w12.heap.size) _) (by first | (simp; done) | (simp; omega)) _) (by first | (simp; done) | (simp; omega)) _) (by first | (simp; done) | (simp; omega)) _) (by first | (simp; done) | (simp; omega)) _) (by omega), keepd x2 (Below.setCell (Below.setCell (Below.setCell (Below.setCell (Below.refl (w12.heap.size) _) (by first | (simp; done) | (simp; omega)) _) (by first | (simp; done) | (simp; omega)) _) (by first | (simp; done) | (simp; omega)) _) (by first | (simp; done) | (simp; omega)) _) (by omega), keepd x3 (Below.setCell (Below.setCell (Below.setCell (Below.setCell (Below.refl (w12.heap.size) _) (by first | (simp; done) | (simp; omega)) _) (by first | (simp; done) | (simp; omega)) _) (by first | (simp; done) | (simp; omega)) _) (by first | (simp; done) | (simp; omega)) _) (by omega), keepd x4 (Below.setCell (Below.setCell (Below.setCell (Below.setCell (Below.refl (w12.heap.size) _) (by first | (simp; done) | (simp; omega)) _) (by first | (simp; done) | (simp; omega)) _) (by first | (simp; done) | (simp; omega)) _) (by first | (simp; done) | (simp; omega)) _) (by omega), keepd x5 (Below.setCell (Below.setCell (Below.setCell (Below.setCell (Below.refl (w12.heap.size) _) (by first | (simp; done) | (simp; omega)) _) (by first | (simp; done) | (simp; omega)) _) (by first | (simp; done) | (simp; omega)) _) (by first | (simp; done) | (simp; omega)) _) (by omega), Below.trans xb (Below.mono (Below.setCell (Below.setCell (Below.setCell (Below.setCell (Below.refl (w12.heap.size) _) (by first | (simp; done) | (simp; omega)) _) (by first | (simp; done) | (simp; omega)) _) (by first | (simp; done) | (simp; omega)) _) (by first | (simp; done) | (simp; omega)) _) (by omega)), Nat.le_trans xs (Below.size (Below.setCell (Below.setCell (Below.setCell (Below.setCell (Below.refl (w12.heap.size) _) (by first | (simp; done) | (simp; omega)) _) (by first | (simp; done) | (simp; omega)) _) (by first | (simp; done) | (simp; omega)) _) (by first | (simp; done) | (simp; omega)) _))⟩)) (first | (go_at_call 9; refine (At_c f _ x1 x2 _ hFd).mono ?_; rw [z2, z4]; rintro e w13 ⟨rfl, hb13⟩))
              obtain ⟨-, -, -, -, -, -, xb, -⟩ := ‹_ ∧ _›
              have h13 := h12.later xb
              have hx3 := keepd hx2 xb hbW2
              have hy3 := keepd hy2 xb hbW2
              have hbn3 := chain hbn xb
              clear k0 k1 k2 k3 hx2 hy2 hb13 xb hFd h12 hbn z2 z4
              have k4 : w13.cell? ⟨w.heap.size + 1, 0, none⟩ = some (.int .i64 r) := h13.b.b1.cell 0
              have k5 : w13.cell? ⟨w.heap.size + 1, 1, none⟩ = some (.int .i64 c) := h13.b.b1.cell 1
              have k7 : w13.cell? ⟨w.heap.size + 1, 3, none⟩ = some (.int .i64 k) := h13.b.b1.cell 3
              have e5 : ((kd : Int) != (kd : Int)) = false := by simp
              cases hz : (x1 == r && x2 == c)
              · have e6 : kat f x1 x2 = (kd : Int) := p4 (fun e => by rw [Prod.mk.injEq] at e; rw [e.1, e.2] at hz; simp at hz)
                rw [e6]
                clear p3 p4 p1 e6
                go_wp2_with fail
                go_quiet (fail)
                rename_i nq
                have hbq : Below w11.heap.size w11 (w13.drewN nq) := ⟨hbn3.os, hbn3.tape, hbn3.output, hbn3.size, hbn3.block⟩
                clear hbn3 h13
                go_wp2_with fail
                go_roundw
                case rel => exact ⟨m + 1, Hmt.out.1, by go_num, hbq⟩
                case measure => have := Hmt.out; simp [intOf]; omega
              · have e6 : ((kd : Int) != k) = false := by
                  simp only [Bool.and_eq_true, beq_iff_eq] at hz
                  rw [p3 (Prod.ext hz.1 hz.2)]
                  simp
                clear p3 p4 p1
                go_wp2_with fail
                go_quiet (fail)
                rename_i nq
                have hbq : Below w11.heap.size w11 (w13.drewN nq) := ⟨hbn3.os, hbn3.tape, hbn3.output, hbn3.size, hbn3.block⟩
                clear hbn3 h13
                go_wp2_with fail
                go_roundw
                case rel => exact ⟨m + 1, Hmt.out.1, by go_num, hbq⟩
                case measure => have := Hmt.out; simp [intOf]; omega
            · obtain rfl : m = L.length := by omega
              have hdm : decide ((L.length : Int) < (L.length : Int)) = false := by simp
              have h12 := h11.later hbr
              clear hlcell
              go_wp2_with fail
              go_roundw
              case rel => exact ⟨kd + 1, Hlt.out.1, by go_num, by rw [Hs.out]; go_num, h12⟩
              case measure => have := Hlt.out; simp [intOf]; omega
        · obtain rfl : kd = 3 := by omega
          have k3 : wr.cell? ⟨w.heap.size, 3, none⟩ = some (.slice A f.kinds.length cp) := hst.b.b0.cell 3
          have e3 : (((cntTo G N 3 : Nat) : Int) == (f.kinds.length : Int)) = true := by rw [H3.out, HN.out]; simp
          have hbw := hst.b.bel
          go_wp2_with fail
          go_ret
          exact ⟨rfl, hbw⟩
    · have hd2 : (ckIdx f i == 0) = false := by simpa using hg
      go_wp2_with fail
      have h8 := h7.b
      clear k0 k1 k2 k3 k4 k5 k6 k7 k8 k9 hF7 h7 bk hd2 hd q1 q2 hw7 w7
      generalize w6.alloc (.cells #[.int .i64 r, .int .i64 c] 26) = w8 at *
      refine (Set_c f _ r c k w8 (hF.mono h8.bel h8.bel.size)).mono ?_
      rintro e w9 ⟨oA, on, oc, rfl, hIo, -, hb9⟩
      have h9 := h8.later hb9
      clear h8 hb9
      cases hkd : inB k 0 2
      · have e1 : ckSet f r c k = 1 := by simp [ckSet, hk, hkd]
        rw [e1]
        go_wp2_with fail
        go_ret
        exact ⟨rfl, h9.bel.alloc h9.bel.size _⟩
      have e1 : ckSet f r c k = 0 := by simp [ckSet, hk, hkd]
      have e2 : setOf f r c k = setF f r c k := by simp [setOf, e1]
      obtain ⟨hv, hin⟩ := ckCell_ok hk
      have hvg := setF_valid (r := r) (c := c) hv hkd
      have hsum := kindCells_sum hvg
      have hlg := setF_len f r c k
      have hl6 : f.kinds.length ≤ 2304 := (len_val hv).2.2
      have hpl := fun (kd : Int) (x : Int × Int) (hx : x ∈ kindCells (setF f r c k) kd f.kinds.length) => place_of hv hin hx
      have hge : (setF f r c k).eye = f.eye ∧ (setF f r c k).rings = f.rings ∧ (setF f r c k).sectors = f.sectors := ⟨rfl, rfl, rfl⟩
      rw [e2] at hIo
      rw [e1, e2]
      clear hin e1 e2 hkd hk hg hy
      generalize setF f r c k = G at *
      rw [hlg] at hsum
      obtain ⟨N, hN⟩ : ∃ N, N = f.kinds.length := ⟨_, rfl⟩
      have h3 : cntTo G N 3 = N := by rw [cnt3, hN]; exact hsum
      have H3 := Lib.hid h3
      have HN := Lib.hid hN
      have hN2 : N ≤ 2304 := by omega
      have Hpl := Lib.hid hpl
      have Hv := Lib.hid hv
      have Hvg := Lib.hid hvg
      have Hlg := Lib.hid hlg
      have Hge := Lib.hid hge
      have hbw9 : Below w9.heap.size w9 (w9.alloc (.cells #[.int .i64 G.eye, .int .i64 G.rings, .int .i64 G.sectors, .slice oA on oc] 24)) := (Below.refl _ _).alloc (Nat.le_refl _) _
      have hst : OutSt w (w9.alloc (.cells #[.int .i64 G.eye, .int .i64 G.rings, .int .i64 G.sectors, .slice oA on oc] 24)) f (.slice A f.kinds.length cp) r c i k n w9.heap.size G (.slice oA on oc) :=
        ⟨h9.later hbw9, Box.made _ _ _, hIo.mono hbw9 hbw9.size⟩
      clear h3 hpl hv hvg hlg hge hsum hbw9 h9 hIo hN
      go_wp2_with fail
      generalize w9.alloc (.cells #[.int .i64 G.eye, .int .i64 G.rings, .int .i64 G.sectors, .slice oA on oc] 24) = w10 at *
      generalize w9.heap.size = ob at *
      go_loopw [16, 17] (fun nv kv wr => ∃ kd : Nat, kd ≤ 3 ∧ kv = .int .i64 (kd : Int) ∧ nv = .int .i64 ((cntTo G N kd : Nat) : Int) ∧ OutSt w wr f (.slice A f.kinds.length cp) r c i k n ob G (.slice oA on oc)) (fun _ kv _ => 3 - (intOf kv).toNat)
      case atStart => exact ⟨0, by omega, rfl, rfl, hst⟩
      case round =>
        clear hst
        obtain ⟨kd, hkd, rfl, rfl, hst⟩ := hrel
        have hcb := cntTo_bd G N kd
        have hcb2 : cntTo G N kd ≤ 10000 := by
          have : kd * N ≤ 3 * 2304 := Nat.mul_le_mul hkd (by omega)
          omega
        by_cases hlt : kd < 3
        · have hck : ckKind G (kd : Int) = 0 := by unfold ckKind; rw [if_pos Hvg.out, if_pos (inB_iff.2 (by omega))]
          have hkc : kcOf G (kd : Int) = kindCells G (kd : Int) N := by unfold kcOf; rw [if_pos hck, Hlg.out, ← HN.out]
          have Hs := Lib.hid (show cntTo G N (kd + 1) = cntTo G N kd + (kindCells G (kd : Int) N).length from rfl)
          have hll := kindCells_len G (kd : Int) N
          have Hlt := Lib.hid (show kd + 1 ≤ 3 ∧ 3 - (kd + 1) < 3 - kd by omega)
          have hpk := fun m (hm : m < (kindCells G (kd : Int) N).length) => Hpl.out (kd : Int) _ (by rw [← HN.out]; exact cth_mem hm)
          have Hpk := Lib.hid hpk
          have k0 : wr.cell? ⟨ob, 0, none⟩ = some (.int .i64 G.eye) := hst.bo.cell 0
          have k1 : wr.cell? ⟨ob, 1, none⟩ = some (.int .i64 G.rings) := hst.bo.cell 1
          have k2 : wr.cell? ⟨ob, 2, none⟩ = some (.int .i64 G.sectors) := hst.bo.cell 2
          have k3 : wr.cell? ⟨ob, 3, none⟩ = some (.slice oA on oc) := hst.bo.cell 3
          have hd : decide ((kd : Int) < 3) = true := by rw [decide_eq_true_iff]; omega
          clear hpk
          go_wp2_with fail
          refine (Cells_c G _ (kd : Int) wr (IsFace.mk hst.io)).mono ?_; rintro e w11 ⟨lv, rfl, hC, hb11⟩
          rw [hck]
          rw [hkc] at hC
          have h11 := hst.later hb11
          clear hck hkc k0 k1 k2 k3 hb11 hst
          generalize kindCells G (kd : Int) N = L at *
          obtain ⟨LA, lc, rfl, hlc, hlcell⟩ := hC
          generalize cntTo G N kd = T at *
          go_wp2_with fail
          go_loopw [20] (fun mv wx => ∃ m : Nat, m ≤ L.length ∧ mv = .int .i64 (m : Int) ∧ Below w11.heap.size w11 wx) (fun mv _ => L.length - (intOf mv).toNat)
          case atStart => exact ⟨0, Nat.zero_le _, rfl, Below.refl _ _⟩
          case round =>
            obtain ⟨m, hm, rfl, hbr⟩ := hrel
            by_cases hmt : m < L.length
            · obtain ⟨b, off, rfl, hbB, hcc⟩ := hlcell (by omega)
              obtain ⟨hx0, hy0⟩ := hcc m hmt
              have hx := keepd hx0 hbr hbB
              have hy := keepd hy0 hbr hbB
              obtain ⟨p1, p2, p3, p4⟩ := Hpk.out m hmt
              have hr := h11.later hbr
              have Hmt := Lib.hid (show m + 1 ≤ L.length ∧ L.length - (m + 1) < L.length - m by omega)
              have hdm : decide ((m : Int) < (L.length : Int)) = true := by rw [decide_eq_true_iff]; omega
              have i0 : (0 : Int) ≤ (m : Int) := Int.natCast_nonneg _
              have i1 : (m : Int) < (L.length : Int) := by omega
              clear hcc hlcell h11 hx0 hy0 Hpk
              generalize cth L m = x at *
              obtain ⟨x1, x2⟩ := x
              dsimp only at *
              have z1 : ckCell G x1 x2 = 0 := by
                unfold ckCell
                rw [if_pos Hvg.out, if_pos]
                unfold InF at p1 ⊢
                rw [Hge.out.2.1, Hge.out.2.2]
                exact p1
              have z2 : ckCell f x1 x2 = 0 := by unfold ckCell; rw [if_pos Hv.out, if_pos p1]
              have z3 : atOf G x1 x2 = (kd : Int) := by unfold atOf; rw [if_pos z1, p2]
              have z4 : atOf f x1 x2 = kat f x1 x2 := by unfold atOf; rw [if_pos z2]
              have hdr : Below wr.heap.size wr wr.drew := (Below.refl _ _).drew
              have hGd : IsFace wr.drew wr.drew.heap.size _ G := (IsFace.mk hr.io).mono hdr hdr.size
              have hbW : b < wr.heap.size := Nat.lt_of_lt_of_le hbB hbr.size
              have hob := hr.bo.lt
              have k0 : wr.cell? ⟨ob, 0, none⟩ = some (.int .i64 G.eye) := hr.bo.cell 0
              have k1 : wr.cell? ⟨ob, 1, none⟩ = some (.int .i64 G.rings) := hr.bo.cell 1
              have k2 : wr.cell? ⟨ob, 2, none⟩ = some (.int .i64 G.sectors) := hr.bo.cell 2
              have k3 : wr.cell? ⟨ob, 3, none⟩ = some (.slice oA on oc) := hr.bo.cell 3
              go_wp2_with fail
              go_region_held3 (fun W => W.cell? ⟨ob, 0, none⟩ = some (.int .i64 G.eye) ∧ W.cell? ⟨ob, 1, none⟩ = some (.int .i64 G.rings) ∧ W.cell? ⟨ob, 2, none⟩ = some (.int .i64 G.sectors) ∧ W.cell? ⟨ob, 3, none⟩ = some (.slice oA on oc) ∧ W.cell? ⟨b, off + m * 2, none⟩ = some (.int .i64 x1) ∧ W.cell? ⟨b, off + m * 2 + 1, none⟩ = some (.int .i64 x2) ∧ Below wr.heap.size wr W ∧ wr.heap.size ≤ W.heap.size) (first | assumption | (refine ⟨?_, ?_, ?_, ?_, ?_, ?_, (Below.refl _ _).drew, by first | (simp; done) | (simp; omega) | omega⟩ <;> go_keep) | (obtain ⟨x0, x1, x2, x3, x4, x5, xb, xs⟩ := ‹_ ∧ _›; first | exact ⟨keepd x0 (Below.alloc (Below.refl (wr.heap.size) _) xs _) (by omega), keepd x1 (Below.alloc (Below.refl (wr.heap.size) _) xs _) (by omega), keepd x2 (Below.alloc (Below.refl (wr.heap.size) _) xs _) (by omega), keepd x3 (Below.alloc (Below.refl (wr.heap.size) _) xs _) (by omega), keepd x4 (Below.alloc (Below.refl (wr.heap.size) _) xs _) (by omega), keepd x5 (Below.alloc (Below.refl (wr.heap.size) _) xs _) (by omega), Below.trans xb (Below.mono (Below.alloc (Below.refl (wr.heap.size) _) xs _) (by omega)), Nat.le_trans xs (Below.size (Below.alloc (Below.refl (wr.heap.size) _) xs _))⟩ | exact ⟨keepd x0 (Below.mono (B' := wr.heap.size) (by assumption) xs) (by omega), keepd x1 (Below.mono (B' := wr.heap.size) (by assumption) xs) (by omega), keepd x2 (Below.mono (B' := wr.heap.size) (by assumption) xs) (by omega), keepd x3 (Below.mono (B' := wr.heap.size) (by assumption) xs) (by omega), keepd x4 (Below.mono (B' := wr.heap.size) (by assumption) xs) (by omega), keepd x5 (Below.mono (B' := wr.heap.size) (by assumption) xs) (by omega), Below.trans xb (Below.mono (Below.mono (B' := wr.heap.size) (by assumption) xs) (by omega)), Nat.le_trans xs (Below.size (Below.mono (B' := wr.heap.size) (by assumption) xs))⟩ | exact ⟨keepd x0 (hgst) (by omega), keepd x1 (hgst) (by omega), keepd x2 (hgst) (by omega), keepd x3 (hgst) (by omega), keepd x4 (hgst) (by omega), keepd x5 (hgst) (by omega), Below.trans xb (Below.mono (hgst) (by omega)), Nat.le_trans xs (Below.size (hgst))⟩ | exact ⟨keepd x0 (Below.setCell (Below.refl (wr.heap.size) _) (by first | (simp; done) | (simp; omega)) _) (by omega), keepd x1 (Below.setCell (Below.refl (wr.heap.size) _) (by first | (simp; done) | (simp; omega)) _) (by omega), keepd x2 (Below.setCell (Below.refl (wr.heap.size) _) (by first | (simp; done) | (simp; omega)) _) (by omega), keepd x3 (Below.setCell (Below.refl (wr.heap.size) _) (by first | (simp; done) | (simp; omega)) _) (by omega), keepd x4 (Below.setCell (Below.refl (wr.heap.size) _) (by first | (simp; done) | (simp; omega)) _) (by omega), keepd x5 (Below.setCell (Below.refl (wr.heap.size) _) (by first | (simp; done) | (simp; omega)) _) (by omega), Below.trans xb (Below.mono (Below.setCell (Below.refl (wr.heap.size) _) (by first | (simp; done) | (simp; omega)) _) (by omega)), Nat.le_trans xs (Below.size (Below.setCell (Below.refl (wr.heap.size) _) (by first | (simp; done) | (simp; omega)) _))⟩ | exact ⟨keepd x0 (Below.setCell (Below.setCell (Below.setCell (Below.setCell (Below.refl (wr.heap.size) _) (by first | (simp; done) | (simp; omega)) _) (by first | (simp; done) | (simp; omega)) _) (by first | (simp; done) | (simp; omega)) _) (by first | (simp; done) | (simp; omega)) _) (by omega), keepd x1 (Below.setCell (Below.setCell (Below.setCell (Below.setCell (Below.refl (wr.heap.size) _) (by first | (simp; done) | (simp; omega)) _) (by first | (simp; done) | (simp; omega)) _) (by first | (simp; done) | (simp; omega)) _) (by first | (simp; done) | (simp; omega)) _) (by omega), keepd x2 (Below.setCell (Below.setCell (Below.setCell (Below.setCell (Below.refl (wr.heap.size) _) (by first | (simp; done) | (simp; omega)) _) (by first | (simp; done) | (simp; omega)) _) (by first | (simp; done) | (simp; omega)) _) (by first | (simp; done) | (simp; omega)) _) (by omega), keepd x3 (Below.setCell (Below.setCell (Below.setCell (Below.setCell (Below.refl (wr.heap.size) _) (by first | (simp; done) | (simp; omega)) _) (by first | (simp; done) | (simp; omega)) _) (by first | (simp; done) | (simp; omega)) _) (by first | (simp; done) | (simp; omega)) _) (by omega), keepd x4 (Below.setCell (Below.setCell (Below.setCell (Below.setCell (Below.refl (wr.heap.size) _) (by first | (simp; done) | (simp; omega)) _) (by first | (simp; done) | (simp; omega)) _) (by first | (simp; done) | (simp; omega)) _) (by first | (simp; done) | (simp; omega)) _) (by omega), keepd x5 (Below.setCell (Below.setCell (Below.setCell (Below.setCell (Below.refl (wr.heap.size) _) (by first | (simp; done) | (simp; omega)) _) (by first | (simp; done) | (simp; omega)) _) (by first | (simp; done) | (simp; omega)) _) (by first | (simp; done) | (simp; omega)) _) (by omega), Below.trans xb (Below.mono (Below.setCell (Below.setCell (Below.setCell (Below.setCell (Below.refl (wr.heap.size) _) (by first | (simp; done) | (simp; omega)) _) (by first | (simp; done) | (simp; omega)) _) (by first | (simp; done) | (simp; omega)) _) (by first | (simp; done) | (simp; omega)) _) (by omega)), Nat.le_trans xs (Below.size (Below.setCell (Below.setCell (Below.setCell (Below.setCell (Below.refl (wr.heap.size) _) (by first | (simp; done) | (simp; omega)) _) (by first | (simp; done) | (simp; omega)) _) (by first | (simp; done) | (simp; omega)) _) (by first | (simp; done) | (simp; omega)) _))⟩)) (first | (go_at_call 9; refine (At_c G _ x1 x2 _ hGd).mono ?_; rw [z1, z3]; rintro e w12 ⟨rfl, hb12⟩))
              obtain ⟨-, -, -, -, -, -, xb, -⟩ := ‹_ ∧ _›
              have h12 := hr.later xb
              have hx2 := keepd hx xb hbW
              have hy2 := keepd hy xb hbW
              have hbn := chain hbr xb
              have hbW2 : b < w12.heap.size := Nat.lt_of_lt_of_le hbW xb.size
              have hFd : IsFace w12.drew w12.drew.heap.size _ f := hF.mono h12.b.bel.drew (by have := h12.b.bel.size; show _ ≤ w12.heap.size; omega)
              have hs12 := h12.b.b1.lt
              clear k0 k1 k2 k3 hx hy hb12 xb hGd hdr hr hbr z1 z3 hob p2
              have k0 : w12.cell? ⟨w.heap.size, 0, none⟩ = some (.int .i64 f.eye) := h12.b.b0.cell 0
              have k1 : w12.cell? ⟨w.heap.size, 1, none⟩ = some (.int .i64 f.rings) := h12.b.b0.cell 1
              have k2 : w12.cell? ⟨w.heap.size, 2, none⟩ = some (.int .i64 f.sectors) := h12.b.b0.cell 2
              have k3 : w12.cell? ⟨w.heap.size, 3, none⟩ = some (.slice A f.kinds.length cp) := h12.b.b0.cell 3
              go_wp2_with fail
              go_region_held3 (fun W => W.cell? ⟨(w.heap.size), 0, none⟩ = some (.int .i64 f.eye) ∧ W.cell? ⟨(w.heap.size), 1, none⟩ = some (.int .i64 f.rings) ∧ W.cell? ⟨(w.heap.size), 2, none⟩ = some (.int .i64 f.sectors) ∧ W.cell? ⟨(w.heap.size), 3, none⟩ = some (.slice A f.kinds.length cp) ∧ W.cell? ⟨b, off + m * 2, none⟩ = some (.int .i64 x1) ∧ W.cell? ⟨b, off + m * 2 + 1, none⟩ = some (.int .i64 x2) ∧ Below w12.heap.size w12 W ∧ w12.heap.size ≤ W.heap.size) (first | assumption | (refine ⟨?_, ?_, ?_, ?_, ?_, ?_, (Below.refl _ _).drew, by first | (simp; done) | (simp; omega) | omega⟩ <;> go_keep) | (obtain ⟨x0, x1, x2, x3, x4, x5, xb, xs⟩ := ‹_ ∧ _›; first | exact ⟨keepd x0 (Below.alloc (Below.refl (w12.heap.size) _) xs _) (by omega), keepd x1 (Below.alloc (Below.refl (w12.heap.size) _) xs _) (by omega), keepd x2 (Below.alloc (Below.refl (w12.heap.size) _) xs _) (by omega), keepd x3 (Below.alloc (Below.refl (w12.heap.size) _) xs _) (by omega), keepd x4 (Below.alloc (Below.refl (w12.heap.size) _) xs _) (by omega), keepd x5 (Below.alloc (Below.refl (w12.heap.size) _) xs _) (by omega), Below.trans xb (Below.mono (Below.alloc (Below.refl (w12.heap.size) _) xs _) (by omega)), Nat.le_trans xs (Below.size (Below.alloc (Below.refl (w12.heap.size) _) xs _))⟩ | exact ⟨keepd x0 (Below.mono (B' := w12.heap.size) (by assumption) xs) (by omega), keepd x1 (Below.mono (B' := w12.heap.size) (by assumption) xs) (by omega), keepd x2 (Below.mono (B' := w12.heap.size) (by assumption) xs) (by omega), keepd x3 (Below.mono (B' := w12.heap.size) (by assumption) xs) (by omega), keepd x4 (Below.mono (B' := w12.heap.size) (by assumption) xs) (by omega), keepd x5 (Below.mono (B' := w12.heap.size) (by assumption) xs) (by omega), Below.trans xb (Below.mono (Below.mono (B' := w12.heap.size) (by assumption) xs) (by omega)), Nat.le_trans xs (Below.size (Below.mono (B' := w12.heap.size) (by assumption) xs))⟩ | exact ⟨keepd x0 (hgst) (by omega), keepd x1 (hgst) (by omega), keepd x2 (hgst) (by omega), keepd x3 (hgst) (by omega), keepd x4 (hgst) (by omega), keepd x5 (hgst) (by omega), Below.trans xb (Below.mono (hgst) (by omega)), Nat.le_trans xs (Below.size (hgst))⟩ | exact ⟨keepd x0 (Below.setCell (Below.refl (w12.heap.size) _) (by first | (simp; done) | (simp; omega)) _) (by omega), keepd x1 (Below.setCell (Below.refl (w12.heap.size) _) (by first | (simp; done) | (simp; omega)) _) (by omega), keepd x2 (Below.setCell (Below.refl (w12.heap.size) _) (by first | (simp; done) | (simp; omega)) _) (by omega), keepd x3 (Below.setCell (Below.refl (w12.heap.size) _) (by first | (simp; done) | (simp; omega)) _) (by omega), keepd x4 (Below.setCell (Below.refl (w12.heap.size) _) (by first | (simp; done) | (simp; omega)) _) (by omega), keepd x5 (Below.setCell (Below.refl (w12.heap.size) _) (by first | (simp; done) | (simp; omega)) _) (by omega), Below.trans xb (Below.mono (Below.setCell (Below.refl (w12.heap.size) _) (by first | (simp; done) | (simp; omega)) _) (by omega)), Nat.le_trans xs (Below.size (Below.setCell (Below.refl (w12.heap.size) _) (by first | (simp; done) | (simp; omega)) _))⟩ | exact ⟨keepd x0 (Below.setCell (Below.setCell (Below.setCell (Below.setCell (Below.refl (w12.heap.size) _) (by first | (simp; done) | (simp; omega)) _) (by first | (simp; done) | (simp; omega)) _) (by first | (simp; done) | (simp; omega)) _) (by first | (simp; done) | (simp; omega)) _) (by omega), keepd x1 (Below.setCell (Below.setCell (Below.setCell (Below.setCell (Below.refl (w12.heap.size) _) (by first | (simp; done) | (simp; omega)) _) (by first | (simp; done) | (simp; omega)) _) (by first | (simp; done) | (simp; omega)) _) (by first | (simp; done) | (simp; omega)) _) (by omega), keepd x2 (Below.setCell (Below.setCell (Below.setCell (Below.setCell (Below.refl (w12.heap.size) _) (by first | (simp; done) | (simp; omega)) _) (by first | (simp; done) | (simp; omega)) _) (by first | (simp; done) | (simp; omega)) _) (by first | (simp; done) | (simp; omega)) _) (by omega), keepd x3 (Below.setCell (Below.setCell (Below.setCell (Below.setCell (Below.refl (w12.heap.size) _) (by first | (simp; done) | (simp; omega)) _) (by first | (simp; done) | (simp; omega)) _) (by first | (simp; done) | (simp; omega)) _) (by first | (simp; done) | (simp; omega)) _) (by omega), keepd x4 (Below.setCell (Below.setCell (Below.setCell (Below.setCell (Below.refl (w12.heap.size) _) (by first | (simp; done) | (simp; omega)) _) (by first | (simp; done) | (simp; omega)) _) (by first | (simp; done) | (simp; omega)) _) (by first | (simp; done) | (simp; omega)) _) (by omega), keepd x5 (Below.setCell (Below.setCell (Below.setCell (Below.setCell (Below.refl (w12.heap.size) _) (by first | (simp; done) | (simp; omega)) _) (by first | (simp; done) | (simp; omega)) _) (by first | (simp; done) | (simp; omega)) _) (by first | (simp; done) | (simp; omega)) _) (by omega), Below.trans xb (Below.mono (Below.setCell (Below.setCell (Below.setCell (Below.setCell (Below.refl (w12.heap.size) _) (by first | (simp; done) | (simp; omega)) _) (by first | (simp; done) | (simp; omega)) _) (by first | (simp; done) | (simp; omega)) _) (by first | (simp; done) | (simp; omega)) _) (by omega)), Nat.le_trans xs (Below.size (Below.setCell (Below.setCell (Below.setCell (Below.setCell (Below.refl (w12.heap.size) _) (by first | (simp; done) | (simp; omega)) _) (by first | (simp; done) | (simp; omega)) _) (by first | (simp; done) | (simp; omega)) _) (by first | (simp; done) | (simp; omega)) _))⟩)) (first | (go_at_call 9; refine (At_c f _ x1 x2 _ hFd).mono ?_; rw [z2, z4]; rintro e w13 ⟨rfl, hb13⟩))
              obtain ⟨-, -, -, -, -, -, xb, -⟩ := ‹_ ∧ _›
              have h13 := h12.later xb
              have hx3 := keepd hx2 xb hbW2
              have hy3 := keepd hy2 xb hbW2
              have hbn3 := chain hbn xb
              clear k0 k1 k2 k3 hx2 hy2 hb13 xb hFd h12 hbn z2 z4
              have k4 : w13.cell? ⟨w.heap.size + 1, 0, none⟩ = some (.int .i64 r) := h13.b.b1.cell 0
              have k5 : w13.cell? ⟨w.heap.size + 1, 1, none⟩ = some (.int .i64 c) := h13.b.b1.cell 1
              have k7 : w13.cell? ⟨w.heap.size + 1, 3, none⟩ = some (.int .i64 k) := h13.b.b1.cell 3
              have e5 : ((kd : Int) != (kd : Int)) = false := by simp
              cases hz : (x1 == r && x2 == c)
              · have e6 : kat f x1 x2 = (kd : Int) := p4 (fun e => by rw [Prod.mk.injEq] at e; rw [e.1, e.2] at hz; simp at hz)
                rw [e6]
                clear p3 p4 p1 e6
                go_wp2_with fail
                go_quiet (fail)
                rename_i nq
                have hbq : Below w11.heap.size w11 (w13.drewN nq) := ⟨hbn3.os, hbn3.tape, hbn3.output, hbn3.size, hbn3.block⟩
                clear hbn3 h13
                go_wp2_with fail
                go_roundw
                case rel => exact ⟨m + 1, Hmt.out.1, by go_num, hbq⟩
                case measure => have := Hmt.out; simp [intOf]; omega
              · have e6 : ((kd : Int) != k) = false := by
                  simp only [Bool.and_eq_true, beq_iff_eq] at hz
                  rw [p3 (Prod.ext hz.1 hz.2)]
                  simp
                clear p3 p4 p1
                go_wp2_with fail
                go_quiet (fail)
                rename_i nq
                have hbq : Below w11.heap.size w11 (w13.drewN nq) := ⟨hbn3.os, hbn3.tape, hbn3.output, hbn3.size, hbn3.block⟩
                clear hbn3 h13
                go_wp2_with fail
                go_roundw
                case rel => exact ⟨m + 1, Hmt.out.1, by go_num, hbq⟩
                case measure => have := Hmt.out; simp [intOf]; omega
            · obtain rfl : m = L.length := by omega
              have hdm : decide ((L.length : Int) < (L.length : Int)) = false := by simp
              have h12 := h11.later hbr
              clear hlcell
              go_wp2_with fail
              go_roundw
              case rel => exact ⟨kd + 1, Hlt.out.1, by go_num, by rw [Hs.out]; go_num, h12⟩
              case measure => have := Hlt.out; simp [intOf]; omega
        · obtain rfl : kd = 3 := by omega
          have k3 : wr.cell? ⟨w.heap.size, 3, none⟩ = some (.slice A f.kinds.length cp) := hst.b.b0.cell 3
          have e3 : (((cntTo G N 3 : Nat) : Int) == (f.kinds.length : Int)) = true := by rw [H3.out, HN.out]; simp
          have hbw := hst.b.bel
          go_wp2_with fail
          go_ret
          exact ⟨rfl, hbw⟩
  · have hd : (ckCell f r c == 0) = false := by simpa using hk
    have hne : (ckCell f r c != 0) = true := by simpa using hk
    have e1 : ckSet f r c k = ckCell f r c := by simp [ckSet, hk]
    clear h4
    by_cases hg : ckIdx f i = 0
    · have hd2 : (ckIdx f i == 0) = true := by simpa using hg
      obtain ⟨x1, x2⟩ := cel_idx hg
      rw [hy] at x1 x2
      dsimp only at x1 x2
      have k8 : (w4.alloc (.cells #[.int .i64 y1, .int .i64 y2] 26)).cell? ⟨w4.heap.size, 0, none⟩ = some (.int .i64 y1) := h5.bc.cell 0
      have k9 : (w4.alloc (.cells #[.int .i64 y1, .int .i64 y2] 26)).cell? ⟨w4.heap.size, 1, none⟩ = some (.int .i64 y2) := h5.bc.cell 1
      go_wp2_with fail
      refine (Index_c f _ y1 y2 _ hF5).mono ?_; rintro e w8 ⟨rfl, hb8⟩
      rw [x1, x2]
      have h8 := (h5.later hb8).b
      clear k0 k1 k2 k3 k4 k5 k6 k7 k8 k9 hF5 h5 hb8
      have k0 : w8.cell? ⟨w.heap.size, 0, none⟩ = some (.int .i64 f.eye) := h8.b0.cell 0
      have k1 : w8.cell? ⟨w.heap.size, 1, none⟩ = some (.int .i64 f.rings) := h8.b0.cell 1
      have k2 : w8.cell? ⟨w.heap.size, 2, none⟩ = some (.int .i64 f.sectors) := h8.b0.cell 2
      have k3 : w8.cell? ⟨w.heap.size, 3, none⟩ = some (.slice A f.kinds.length cp) := h8.b0.cell 3
      have k4 : w8.cell? ⟨w.heap.size + 1, 0, none⟩ = some (.int .i64 r) := h8.b1.cell 0
      have k5 : w8.cell? ⟨w.heap.size + 1, 1, none⟩ = some (.int .i64 c) := h8.b1.cell 1
      have k6 : w8.cell? ⟨w.heap.size + 1, 2, none⟩ = some (.int .i64 i) := h8.b1.cell 2
      have k7 : w8.cell? ⟨w.heap.size + 1, 3, none⟩ = some (.int .i64 k) := h8.b1.cell 3
      go_wp2_with fail
      refine (Set_c f _ r c k w8 (hF.mono h8.bel h8.bel.size)).mono ?_
      rintro e w9 ⟨oA, on, oc, rfl, hIo, -, hb9⟩
      have h9 := h8.later hb9
      rw [e1]
      go_wp2_with fail
      go_ret
      exact ⟨rfl, h9.bel.alloc h9.bel.size _⟩
    · have hd2 : (ckIdx f i == 0) = false := by simpa using hg
      go_wp2_with fail
      refine (Set_c f _ r c k _ hF5).mono ?_
      rintro e w9 ⟨oA, on, oc, rfl, hIo, -, hb9⟩
      have h9 := (h5.later hb9).b
      clear h5 hb9 hF5 k0 k1 k2 k3 k4 k5 k6 k7
      rw [e1]
      go_wp2_with fail
      go_ret
      exact ⟨rfl, h9.bel.alloc h9.bel.size _⟩

end Go.Proofs.YtpejcdjgggcjlaaGreatDoor

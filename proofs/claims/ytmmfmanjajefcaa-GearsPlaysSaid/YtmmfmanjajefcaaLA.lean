/- Layer 7: the turns of a shaft: a region by itself. -/
import Derived.Test.YtmmfmanjajefcaaL9
set_option linter.all false
namespace Go.Proofs.Ytmmfmanjajefcaa
open Go.RowKit

theorem news_box {W : World} {g : Nat} {t : TypeId} {cs : List Value} (h : Box W g t cs.toArray) : ∀ (j : Nat) (u : Value), cs[j]? = some u → W.cell? ((⟨g, 0, none⟩ : Addr).add j) = some u := fun j u hu => by
  have e2 : (⟨g, 0, none⟩ : Addr).add j = ⟨g, j, none⟩ := by rcases j with _ | j <;> simp [Addr.add]
  rw [e2, h.cell, List.getElem?_toArray]; exact hu
theorem FrB.own {w : World} {g base : Nat} {fs : List (Nat × Nat)} (h : FrB w g fs) (hb : base ≤ g) (hl : fs.length ≤ 1000) : w.ownsRow base 75 2 (.slice (some ⟨g, 0, none⟩) fs.length fs.length) fs.length (flat fs) :=
  ⟨flat_len fs, .inr ⟨g, fs.length, (flat fs).toArray, rfl, hb, h, Nat.le_refl _, by unfold maxLen; omega, by simp [flat_len], by simp [List.take_of_length_le, flat_len]⟩⟩
theorem own_frs {w : World} {base n : Nat} {v : Value} {fs : List (Nat × Nat)} (h : w.ownsRow base 75 2 v n (flat fs)) (hn : fs.length = n) : Frs w w.heap.size v fs := by
  subst hn
  have ho := h
  rcases ho.2 with ⟨h1, h2⟩ | ⟨ge, cap, cur, h3, h4, h5, h6, h7, h8, h9⟩
  · exact ⟨none, 0, by rw [h1, h2], by omega, fun h => by omega⟩
  · have hb : Box w ge 75 cur := h5
    refine ⟨_, _, h3, h6, fun _ => ⟨ge, 0, rfl, hb.lt, fun k hk => ?_⟩⟩
    subst h3
    have p := flat_at fs k hk
    rw [Nat.zero_add]
    exact ⟨(ho.cellAt _ (by omega)).trans p.1, (ho.cellAt _ (by omega)).trans p.2⟩
theorem Mss.take {w : World} {B : Nat} {A : Option Addr} {n c : Nat} {ms : List Mh} (h : Mss w B (.slice A n c) ms) {s c' : Nat} (hn : ms.length = n) (hs : s ≤ n) (hc : s ≤ c') : Mss w B (.slice A s c') (ms.take s) := by
  obtain ⟨A', c1, he, h2, h3⟩ := h
  injection he with e1 e2 e3
  subst e1
  have hl : (ms.take s).length = s := by rw [List.length_take]; omega
  refine ⟨A, c', by rw [hl], by rw [hl]; exact hc, fun hp => ?_⟩
  rw [hl] at hp
  obtain ⟨b, off, rfl, hlt, hc⟩ := h3 (by omega)
  refine ⟨b, off, rfl, hlt, fun k hk => ?_⟩
  rw [List.getElem_take]
  exact hc k (by rw [hl] at hk; omega)
theorem frN_snoc (fs : List (Nat × Nat)) (a b : Nat) : frN (fs ++ [(a, b)]) = frN fs * a ∧ frD (fs ++ [(a, b)]) = frD fs * b := by
  unfold frN frD; simp [prodL_append, prodL]
theorem frOk_ms {ms : List Mh} (h : ms.all mB = true) (hl : ms.length ≤ 100) : FrOk (ms.map mF) := by
  refine ⟨by rw [List.length_map]; omega, fun f hf => ?_⟩
  obtain ⟨m, hm, rfl⟩ := List.mem_map.1 hf
  have hb := List.all_eq_true.1 h m hm
  unfold mB meshB at hb
  rw [Bool.and_eq_true, Bool.and_eq_true] at hb
  have i1 := inB_iff.1 hb.1.1
  have i2 := inB_iff.1 hb.1.2
  unfold mF
  simp only
  omega
theorem frOk_snoc {fs : List (Nat × Nat)} (h : FrOk fs) (hl : fs.length ≤ 100) {a b : Nat} (ha : a ≤ 9223372036854775807) (hb : 0 < b) (hb2 : b ≤ 9223372036854775807) : FrOk (fs ++ [(a, b)]) :=
  ⟨by simp; omega, fun f hf => by
    rcases List.mem_append.1 hf with hf | hf
    · exact h.2 f hf
    · simp at hf; subst hf; exact ⟨ha, hb, hb2⟩⟩
theorem all_sub {ms : List Mh} (h : ms.all mB = true) (s : Nat) : (ms.take s).all mB = true := by
  rw [List.all_eq_true] at h ⊢
  exact fun m hm => h m (List.mem_of_mem_take hm)

set_option maxRecDepth 100000 in
set_option maxHeartbeats 8000000 in
theorem turns2_c (ms : List Mh) (fs : List (Nat × Nat)) (r : Rr) (A : Option Addr) (n c s bt br bf D : Nat) (w1 : World) (Q : Exit → Act → World → Prop) (x0 x3 x5 x7 x8 x9 x10 x11 x12 x13 x14 x15 x16 x17 x18 x19 x20 x21 x22 x23 : Value)
    (hM : Mss w1 w1.heap.size (.slice A n c) ms)
    (hn : ms.length = n)
    (hn2 : n ≤ 16)
    (hs : s ≤ n)
    (hc : n ≤ c)
    (hv : ms.all mB = true)
    (hD : 1 ≤ D ∧ D ≤ 4096)
    (hfs : (ms.take s).map mF = fs)
    (hr : rOf (frN fs) (frD fs * D) = r)
    (bT : Box w1 bt 35 #[.slice A n c])
    (bR : Box w1 br 23 #[.int .i64 0, .int .i64 0])
    (bF : Box w1 bf 75 #[.int .i64 1, .int .i64 (D : Int)])
    (hQ : ∀ (y13 y14 y15 y16 y17 y18 y19 y20 y21 y22 y23 : Value) (W : World), Box W br 23 #[.int .i64 r.n, .int .i64 r.d] → (∀ B, B ≤ br → B ≤ w1.heap.size → Below B w1 W) → Q .normal { tmps := #[x0, .int .i64 (s : Int), .pointer (some ⟨bt, 0, none⟩), x3, .pointer (some ⟨br, 0, none⟩), .int .i64 r.e, .pointer (some ⟨bf, 0, none⟩), x7, x8, x9, x10, x11, x12, y13, y14, y15, y16, y17, y18, y19, y20, y21, y22, y23], defers := [] } W) :
    (Code.region 2 #[{ dst := some 13, op := Op.fieldAddr 35 (Operand.tmp 2) 0, type := 0, pos := "shafts.go:65", after := #[], guard := none }, { dst := some 14, op := Op.load 33 (Operand.tmp 13), type := 33, pos := "shafts.go:65", after := #[{ on := 0, ground := Ground.data }], guard := none }, { dst := some 15, op := Op.move (Operand.tmp 1), type := 3, pos := "shafts.go:65", after := #[], guard := none }, { dst := some 16, op := Op.slice 33 (Operand.tmp 14) none (some (Operand.tmp 15)) none, type := 33, pos := "shafts.go:65", after := #[{ on := 1, ground := Ground.data }, { on := 2, ground := Ground.data }], guard := none }, { dst := some 17, op := Op.call { callee := Callee.value (Operand.func 66), args := #[Operand.tmp 16], argTypes := #[33] }, type := 79, pos := "shafts.go:65", after := #[{ on := 3, ground := Ground.data }], guard := none }, { dst := some 18, op := Op.load 75 (Operand.tmp 6), type := 75, pos := "shafts.go:65", after := #[], guard := none }, { dst := some 19, op := Op.buildSlice 79 1 #[(0, Operand.tmp 18)], type := 79, pos := "shafts.go:65", after := #[{ on := 5, ground := Ground.data }], guard := none }, { dst := some 20, op := Op.call { callee := Callee.builtin Builtin.append, args := #[Operand.tmp 17, Operand.tmp 19], argTypes := #[79, 79] }, type := 79, pos := "shafts.go:65", after := #[{ on := 4, ground := Ground.data }, { on := 6, ground := Ground.data }, { on := 4, ground := Ground.chain }], guard := none }, { dst := some 21, op := Op.call { callee := Callee.value (Operand.func 59), args := #[Operand.tmp 20], argTypes := #[79] }, type := 25, pos := "shafts.go:65", after := #[{ on := 7, ground := Ground.data }, { on := 7, ground := Ground.chain }], guard := none }, { dst := some 22, op := Op.extract (Operand.tmp 21) 0, type := 23, pos := "shafts.go:65", after := #[{ on := 8, ground := Ground.data }], guard := none }, { dst := some 23, op := Op.extract (Operand.tmp 21) 1, type := 24, pos := "shafts.go:65", after := #[{ on := 8, ground := Ground.data }], guard := none }, { dst := none, op := Op.store 23 (Operand.tmp 4) (Operand.tmp 22), type := 0, pos := "shafts.go:65", after := #[{ on := 9, ground := Ground.data }, { on := 8, ground := Ground.chain }, { on := 0, ground := Ground.phase }, { on := 1, ground := Ground.phase }, { on := 2, ground := Ground.phase }, { on := 3, ground := Ground.phase }, { on := 4, ground := Ground.phase }, { on := 5, ground := Ground.phase }, { on := 6, ground := Ground.phase }, { on := 7, ground := Ground.phase }, { on := 8, ground := Ground.phase }, { on := 9, ground := Ground.phase }, { on := 10, ground := Ground.phase }], guard := none }, { dst := some 5, op := Op.assign (Operand.tmp 23), type := 24, pos := "shafts.go:65", after := #[{ on := 10, ground := Ground.data }, { on := 11, ground := Ground.chain }, { on := 0, ground := Ground.phase }, { on := 1, ground := Ground.phase }, { on := 2, ground := Ground.phase }, { on := 3, ground := Ground.phase }, { on := 4, ground := Ground.phase }, { on := 5, ground := Ground.phase }, { on := 6, ground := Ground.phase }, { on := 7, ground := Ground.phase }, { on := 8, ground := Ground.phase }, { on := 9, ground := Ground.phase }, { on := 10, ground := Ground.phase }, { on := 11, ground := Ground.phase }], guard := none }] true).wp Try.prog Q { tmps := #[x0, .int .i64 (s : Int), .pointer (some ⟨bt, 0, none⟩), x3, .pointer (some ⟨br, 0, none⟩), x5, .pointer (some ⟨bf, 0, none⟩), x7, x8, x9, x10, x11, x12, x13, x14, x15, x16, x17, x18, x19, x20, x21, x22, x23], defers := [] } w1 := by
  have HQ := Lib.hid hQ
  obtain ⟨i0, hi0, hz0, hz1, hz2⟩ : ∃ i, Try.prog.info? 75 = some i ∧ i.zero = some (.agg #[.int .i64 0, .int .i64 0]) ∧ i.size = 2 ∧ i.bytes = 16 := ⟨_, rfl, rfl, rfl, rfl⟩
  have HMS := Lib.hid (hM.take (s := s) (c' := c) hn hs (by omega))
  have HL : (ms.take s).length = s := by rw [List.length_take, hn]; omega
  have HFL := Lib.hid (show fs.length = s by rw [← hfs, List.length_map, HL])
  have HWC := Lib.hid (show ∀ W, Mss W W.heap.size (.slice A s c) (ms.take s) → Calls Try.prog 66 #[.slice A s c] W (WhPost W fs) from fun W hW => by
    rw [← hfs]; exact wheels_c (ms.take s) _ W hW (by rw [HL]; omega) (all_sub hv s))
  have HPC := Lib.hid (show ∀ W v, Frs W W.heap.size v (fs ++ [(1, D)]) → Calls Try.prog 59 #[v] W (fun e w' => e = .returned (rrV r) ∧ Below W.heap.size W w') from fun W v hW => by
    have h := product_c _ v W hW (frOk_snoc (a := 1) (b := D) (by rw [← hfs]; exact frOk_ms (all_sub hv s) (by rw [HL]; omega)) (by rw [HFL.out]; omega) (by omega) (by omega) (by omega))
    rw [(frN_snoc fs 1 D).1, (frN_snoc fs 1 D).2, Nat.mul_one, hr] at h
    exact h)
  have H1 := Lib.hid (show ∀ u ∈ [Value.int .i64 1, .int .i64 (D : Int)], u.oneCell' = true by intro u hu; simp at hu; rcases hu with rfl | rfl <;> rfl)
  have b0 : w1.cell? ⟨bt, 0, none⟩ = some (.slice A n c) := bT.cell 0
  have f0 : w1.cell? ⟨bf, 0, none⟩ = some (.int .i64 1) := bF.cell 0
  have f1 : w1.cell? ⟨bf, 1, none⟩ = some (.int .i64 (D : Int)) := bF.cell 1
  have b0' : ∀ o : Obj, (w1.alloc o).cell? ⟨bt, 0, none⟩ = some (.slice A n c) := fun o => (bT.alloc o).cell 0
  have HBR := Lib.hid bR
  have HBF := Lib.hid bF
  have HLT := Lib.hid (show br < w1.heap.size from bR.lt)
  have HWA := Lib.hid (show Mss (w1.alloc (.cells #[.int .i64 1, .int .i64 (D : Int)] 75)).drew (w1.alloc (.cells #[.int .i64 1, .int .i64 (D : Int)] 75)).drew.heap.size (.slice A s c) (ms.take s) from HMS.out.later ((Below.refl _ _).alloc (Nat.le_refl _) _).drew)
  have HWB := Lib.hid (show Mss w1.drew w1.drew.heap.size (.slice A s c) (ms.take s) from HMS.out.later (Below.refl _ _).drew)
  have HNA := Lib.hid (Box.made w1 75 #[.int .i64 1, .int .i64 (D : Int)])
  have c0' : (0 : Int) ≤ (s : Int) := by omega
  have c1' : (s : Int) ≤ (c : Int) := by omega
  have c2' : s ≤ c := by omega
  clear hQ hM hn hc hv hD bT bR bF hfs hr HL
  have HFL1 := Lib.hid (show (fs ++ [(1, D)]).length = s + 1 by rw [List.length_append, HFL.out]; rfl)
  have HS1 := Lib.hid (show (w1.alloc (.cells #[.int .i64 1, .int .i64 (D : Int)] 75)).drew.heap.size = w1.heap.size + 1 from World.size_alloc _ _)
  refine wp_region_noPanic ?_
  go_region_law (first
    | (go_simp; go_at_call 66; refine (HWC.out w1.drew HWB.out).mono ?_; rintro e w2 ⟨gg, rfl, hg2, hgs, hb2⟩; have G2 := Lib.hid hg2; have GS := Lib.hid (show w1.heap.size ≤ gg from hgs); have B2 := Lib.hid (show Below w1.heap.size w1 w2 from (Below.refl _ _).drew.trans hb2); have f0 := (HBF.out.later B2.out).cell 0; have f1 := (HBF.out.later B2.out).cell 1; have OWN := Lib.hid (show w2.ownsRow w1.heap.size 75 2 (.slice (some ⟨gg, 0, none⟩) s s) s (flat fs) by have := G2.out.own GS.out (by rw [HFL.out]; omega); rwa [HFL.out] at this); clear hg2 hgs hb2; dsimp only at f0 f1 ⊢; rw [HFL.out])
    | (go_simp; go_at_call 66; refine (HWC.out (w1.alloc (.cells #[.int .i64 1, .int .i64 (D : Int)] 75)).drew HWA.out).mono ?_; rintro e w2 ⟨gg, rfl, hg2, hgs, hb2⟩; have G2 := Lib.hid hg2; have GS := Lib.hid (show w1.heap.size ≤ gg by have := HS1.out; omega); have B2 := Lib.hid (show Below w1.heap.size w1 w2 from ((Below.refl _ _).alloc (Nat.le_refl _) _).drew.trans (hb2.mono (by have := HS1.out; omega))); have NA := Lib.hid (show Box w2 w1.heap.size 75 #[.int .i64 1, .int .i64 (D : Int)] from (show Box (w1.alloc (.cells #[.int .i64 1, .int .i64 (D : Int)] 75)).drew w1.heap.size 75 #[.int .i64 1, .int .i64 (D : Int)] from HNA.out).later hb2); have OWN := Lib.hid (show w2.ownsRow w1.heap.size 75 2 (.slice (some ⟨gg, 0, none⟩) s s) s (flat fs) by have := G2.out.own GS.out (by rw [HFL.out]; omega); rwa [HFL.out] at this); clear hg2 hgs hb2; dsimp only; rw [HFL.out])
    | (refine step_append_lies _ rfl (.tmp 17) (.tmp 19) 79 rfl w1.heap.size 75 i0 (.agg #[.int .i64 0, .int .i64 0]) 2 16 Try.underlying79 hi0 hz0 hz1 hz2 rfl (by decide) (.slice (some ⟨gg, 0, none⟩) s s) _ _ rfl (OWN.out) ⟨w1.heap.size, 0, none⟩ 1 1 [.int .i64 1, .int .i64 (D : Int)] rfl rfl (news_box NA.out) H1.out (by decide) (by unfold maxLen; omega) (by omega) (B2.out.size) _ rfl ?_; intro g7 cap w7 hown7 hgrow7 _ _; have O7 := Lib.hid (show w7.ownsRow w1.heap.size 75 2 (.slice (some ⟨g7, 0, none⟩) (s + 1) cap) (s + 1) (flat (fs ++ [(1, D)])) by rw [flat_snoc]; exact hown7); have X7 := Lib.hid (show Box w7 br 23 #[.int .i64 0, .int .i64 0] from (show Box w2 br 23 #[.int .i64 0, .int .i64 0] from HBR.out.later B2.out).grown hgrow7 (fun e => by injection e with e; have := GS.out; have := HLT.out; dsimp only at e; omega)); have B7 := Lib.hid (show ∀ B, B ≤ w1.heap.size → Below B w1 w7 from fun B hB => (show Below B w1 w2 from B2.out.mono hB).grown hgrow7 (by have := B2.out.size; first | omega | (simp; omega)) (fun q e => by injection e with e; have := GS.out; dsimp only at e; omega)); clear hown7 hgrow7; dsimp only)
    | (refine step_append_lies _ rfl (.tmp 17) (.tmp 19) 79 rfl w1.heap.size 75 i0 (.agg #[.int .i64 0, .int .i64 0]) 2 16 Try.underlying79 hi0 hz0 hz1 hz2 rfl (by decide) (.slice (some ⟨gg, 0, none⟩) s s) _ _ rfl (OWN.out.alloc _) ⟨w2.heap.size, 0, none⟩ 1 1 [.int .i64 1, .int .i64 (D : Int)] rfl rfl (news_box (Box.made w2 _ _)) H1.out (by decide) (by unfold maxLen; omega) (by omega) (by have := B2.out.size; simp; omega) _ rfl ?_; intro g7 cap w7 hown7 hgrow7 _ _; have O7 := Lib.hid (show w7.ownsRow w1.heap.size 75 2 (.slice (some ⟨g7, 0, none⟩) (s + 1) cap) (s + 1) (flat (fs ++ [(1, D)])) by rw [flat_snoc]; exact hown7); have X7 := Lib.hid (show Box w7 br 23 #[.int .i64 0, .int .i64 0] from (show Box (w2.alloc (.cells #[.int .i64 1, .int .i64 (D : Int)] 75)) br 23 #[.int .i64 0, .int .i64 0] from (HBR.out.later B2.out).alloc _).grown hgrow7 (fun e => by injection e with e; have := GS.out; have := HLT.out; dsimp only at e; omega)); have B7 := Lib.hid (show ∀ B, B ≤ w1.heap.size → Below B w1 w7 from fun B hB => (show Below B w1 (w2.alloc (.cells #[.int .i64 1, .int .i64 (D : Int)] 75)) from (B2.out.mono hB).alloc (by have := B2.out.size; omega) _).grown hgrow7 (by have := B2.out.size; first | omega | (simp; omega)) (fun q e => by injection e with e; have := GS.out; dsimp only at e; omega)); clear hown7 hgrow7; dsimp only)
    | (go_simp; go_at_call 59; refine (HPC.out w7 (.slice (some ⟨g7, 0, none⟩) (s + 1) cap) (own_frs O7.out HFL1.out)).mono ?_; rintro e w8 ⟨rfl, hb8⟩; have X8 := Lib.hid (X7.out.later hb8); have B8 := Lib.hid (show ∀ B, B ≤ w1.heap.size → Below B w1 w8 from fun B hB => (B7.out B hB).trans (hb8.mono (by have := (B7.out B hB).size; omega))); have z0 : w8.cell? ⟨br, 0, none⟩ = some (.int .i64 0) := X8.out.cell 0; have z1 : w8.cell? ⟨br, 1, none⟩ = some (.int .i64 0) := X8.out.cell 1; have fz : ∀ o, w8.frozen? ⟨br, o, none⟩ = false := fun o => X8.out.free o; clear hb8; dsimp only)
    )
  all_goals
    refine NoPanic.normal ?_
    exact HQ.out _ _ _ _ _ _ _ _ _ _ _ _ ((X8.out.put 0 _).put 1 _) (fun B h1 h2 => ((B8.out B h2).setCell (p := ⟨br, 0, none⟩) h1 _).setCell (p := ⟨br, 1, none⟩) h1 _)

end Go.Proofs.Ytmmfmanjajefcaa

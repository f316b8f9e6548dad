/- Layer 9: a crash of the program's stick: invert, keep, Crash. -/
import Derived.Test.YtbpbdgiglllncaaUO
set_option linter.all false
namespace Go.Proofs.Ytbpbdgiglllncaa
open Go.RowKit

theorem wrap64_id {n : Int} (h0 : 0 ≤ n) (h1 : n ≤ 4611686018427387904) : wrap64 n = n := by unfold wrap64; omega
theorem pow_mod {j : Nat} (hj : j < 8) : (2 : Int) ^ j % 256 = 2 ^ j := by
  have h := pow_bd hj
  generalize (2 : Int) ^ j = y at *
  omega
/-- reads ahead of what writes, the world under a name -/
theorem still_tail {P : Program} {id : Nat} {Q : Exit → Act → World → Prop} {a : Act} {w : World} {l : List Oper} (n : Nat) (W : World) (hW : w.drew = W) (hm : P.follows .mixedOrders = true) (hB : Region.lexTailB .any l.toArray n = true)
    (h : wpStill P l.toArray W (fun a' => wpList P l.toArray Q (l.drop n) a' W) (l.take n) a) : (Code.region id l.toArray true).wp P Q a w := by
  subst hW
  exact wp_region_still_tail n hm hB h
/-- the first bytes of a slice -/
theorem sliced_hd (A : Option Addr) (m c : Nat) : sliced A 0 m c 1 = .slice A m c := by
  cases A with
  | none => unfold sliced; split <;> rfl
  | some a => unfold sliced; simp [Addr.add]
theorem run_hd (A : Option Addr) (n c : Nat) (M : Int) (m : Nat) (hM : M = m) (hm : m ≤ c) (W : World) : (Instr.sliceAt 31 (.slice A n c) none (some (.int .i64 M)) none).run Try.prog W = .ok (.slice A m c) W := by
  subst hM
  rw [run_sliceAt_slice W _ _ _ _ _ elemB, run_slice_h W _ _ _ _ elemB _ _ (by omega) (by omega), sizeB]
  rw [← sliced_hd A m c]
  rfl
theorem Bys.hd {w : World} {B : Nat} {A : Option Addr} {n c : Nat} {xs : List Int} (h : Bys w B (.slice A n c) xs) {m : Nat} (hm : m ≤ xs.length) : Bys w B (.slice A m c) (xs.take m) := by
  have := h.part 0 m (Nat.zero_le _) hm
  rw [sliced_hd] at this
  simpa using this
theorem own_hd {w : World} {base n c : Nat} {A : Option Addr} {S : List Int} (h : w.ownsRow base 5 1 (.slice A n c) n (bys S)) {m : Nat} (hm : m ≤ n) : w.ownsRow base 5 1 (.slice A m c) m (bys (S.take m)) := by
  obtain ⟨h1, h2⟩ := h
  have hl : n = S.length := by rw [bys_len] at h1; omega
  refine ⟨by rw [bys_len]; simp; omega, ?_⟩
  rcases h2 with ⟨h3, h4⟩ | ⟨g, cap, cur, h3, h4, h5, h6, h7, h8, h9⟩
  · injection h3 with e1 e2 e3
    exact .inl ⟨by rw [e1, e3, show m = 0 by omega], by omega⟩
  · injection h3 with e1 e2 e3
    refine .inr ⟨g, cap, cur, by rw [e1, e3], h4, h5, by omega, h7, h8, ?_⟩
    have e : bys (S.take m) = (bys S).take m := by unfold bys; rw [List.map_take]
    rw [e, ← h9, List.take_take]
    congr 1; omega

/-- a bit of the first journal is inverted -/
theorem StkP.inv1 {W : World} {b base g n c : Nat} {v2 : Value} {S F : List Int} {d1 d2 : Nat} (h : StkP W b base (.slice (some ⟨g, 0, none⟩) n c) v2 S F d1 d2) (hn : n = S.length) (q : Nat) (x : Int) (hx : 0 ≤ x ∧ x ≤ 255) :
    StkP (W.setCell ⟨g, q, none⟩ (.int .u8 x)) b base (.slice (some ⟨g, 0, none⟩) n c) v2 (S.set q x) F d1 d2 ∧ Chg W (W.setCell ⟨g, q, none⟩ (.int .u8 x)) b base (.slice (some ⟨g, 0, none⟩) n c) v2 := by
  subst hn
  have hne := own_box_ne h.o1 h.box g rfl
  have hlt := h.o1.lt g rfl
  have hst := h.o1.stored q (.int .u8 x)
  have e : bys (S.set q x) = (bys S).set q (.int .u8 x) := by unfold bys; rw [List.map_set]
  refine ⟨{ box := h.box.far (p := ⟨g, q, none⟩) (fun e => hne e.symm) _, o1 := by rw [List.length_set, e]; exact hst.1, o2 := own_other (u := .slice (some ⟨g, 0, none⟩) _ c) h.o2 hst.2 h.dis.symm, dis := h.dis, l1 := by rw [List.length_set]; exact h.l1, l2 := h.l2, s1 := by rw [List.length_set]; exact h.s1, s2 := h.s2, y1 := ?_, y2 := h.y2, hb := h.hb }, ⟨(Below.refl base W).setCell (p := ⟨g, q, none⟩) hlt.1 _, by rw [World.size_setCell]; exact Nat.le_refl _, fun k hk q1 q2 _ => Below.heap_setCell _ _ _ _ (fun e => q2 (by rw [e]; rfl))⟩⟩
  intro k
  rw [nth_set]
  split
  · exact hx
  · exact h.y1 k
theorem StkP.inv2 {W : World} {b base g n c : Nat} {v1 : Value} {S F : List Int} {d1 d2 : Nat} (h : StkP W b base v1 (.slice (some ⟨g, 0, none⟩) n c) S F d1 d2) (hn : n = F.length) (q : Nat) (x : Int) (hx : 0 ≤ x ∧ x ≤ 255) :
    StkP (W.setCell ⟨g, q, none⟩ (.int .u8 x)) b base v1 (.slice (some ⟨g, 0, none⟩) n c) S (F.set q x) d1 d2 ∧ Chg W (W.setCell ⟨g, q, none⟩ (.int .u8 x)) b base v1 (.slice (some ⟨g, 0, none⟩) n c) := by
  subst hn
  have hne := own_box_ne h.o2 h.box g rfl
  have hlt := h.o2.lt g rfl
  have hst := h.o2.stored q (.int .u8 x)
  have e : bys (F.set q x) = (bys F).set q (.int .u8 x) := by unfold bys; rw [List.map_set]
  refine ⟨{ box := h.box.far (p := ⟨g, q, none⟩) (fun e => hne e.symm) _, o1 := own_other (u := .slice (some ⟨g, 0, none⟩) _ c) h.o1 hst.2 h.dis, o2 := by rw [List.length_set, e]; exact hst.1, dis := h.dis, l1 := h.l1, l2 := by rw [List.length_set]; exact h.l2, s1 := h.s1, s2 := by rw [List.length_set]; exact h.s2, y1 := h.y1, y2 := ?_, hb := h.hb }, ⟨(Below.refl base W).setCell (p := ⟨g, q, none⟩) hlt.1 _, by rw [World.size_setCell]; exact Nat.le_refl _, fun k hk q1 _ q3 => Below.heap_setCell _ _ _ _ (fun e => q3 (by rw [e]; rfl))⟩⟩
  intro k
  rw [nth_set]
  split
  · exact hx
  · exact h.y2 k
theorem Chg.stores {W : World} {b base i j : Nat} {v1 v2 x y : Value} (hb : base ≤ b) : Chg W ((W.setCell ⟨b, i, none⟩ x).setCell ⟨b, j, none⟩ y) b base v1 v2 := by
  refine ⟨((Below.refl base W).setCell (p := ⟨b, i, none⟩) hb _).setCell (p := ⟨b, j, none⟩) hb _, by rw [World.size_setCell, World.size_setCell]; exact Nat.le_refl _, fun k hk q1 _ _ => ?_⟩
  rw [Below.heap_setCell _ _ _ _ (by exact q1), Below.heap_setCell _ _ _ _ (by exact q1)]
theorem StkP.far {W : World} {b base i d1 d2 n : Nat} {v1 v2 u v : Value} {S F : List Int} {ys : List Value} (h : StkP W b base v1 v2 S F d1 d2) (ho : W.ownsRow base 5 1 v n ys) {W' : World} (hW : W' = W ∨ ∃ i u, W' = W.setCell ⟨b, i, none⟩ u) : W'.ownsRow base 5 1 v n ys := by
  rcases hW with rfl | ⟨i, u, rfl⟩
  · exact ho
  · have hg : W.grownBy (W.setCell ⟨b, i, none⟩ u) (some b) := ⟨rfl, rfl, rfl, by rw [World.size_setCell]; exact Nat.le_refl _, fun k hk hne => Below.heap_setCell _ _ _ _ (fun e => hne (by rw [e]))⟩
    exact ho.kept hg (by
      cases hv : v.ownBlock with
      | none => exact .inl rfl
      | some g => exact .inr fun e => by cases e; exact own_box_ne ho h.box b hv rfl)
theorem own_two {W : World} {b base i j n : Nat} {v x y : Value} {ys : List Value} {cs : Array Value} (hbox : Box W b 94 cs) (ho : W.ownsRow base 5 1 v n ys) : ((W.setCell ⟨b, i, none⟩ x).setCell ⟨b, j, none⟩ y).ownsRow base 5 1 v n ys := by
  have hne := own_box_ne ho hbox
  have hg : W.grownBy ((W.setCell ⟨b, i, none⟩ x).setCell ⟨b, j, none⟩ y) (some b) := ⟨rfl, rfl, rfl, by rw [World.size_setCell, World.size_setCell]; exact Nat.le_refl _, fun k hk hne => by
    have q : k ≠ b := fun e => hne (by rw [e])
    rw [Below.heap_setCell _ _ _ _ (by exact q), Below.heap_setCell _ _ _ _ (by exact q)]⟩
  exact ho.kept hg (by
      cases hv : v.ownBlock with
      | none => exact .inl rfl
      | some g => exact .inr fun e => by cases e; exact hne b hv rfl)
/-- the first journal keeps its first bytes, all of them durable -/
theorem StkP.keep1 {W : World} {b base n c m : Nat} {A : Option Addr} {v2 : Value} {S F : List Int} {d1 d2 : Nat} (h : StkP W b base (.slice A n c) v2 S F d1 d2) (hn : n = S.length) (hm : m ≤ S.length) :
    StkP ((W.setCell ⟨b, 0, none⟩ (.slice A m c)).setCell ⟨b, 1, none⟩ (.int .i64 (m : Int))) b base (.slice A m c) v2 (S.take m) F m d2 := by
  have ho := h.o1
  rw [← hn] at ho
  have h1 := own_hd ho (m := m) (by omega)
  have e : (S.take m).length = m := by simp; omega
  exact { box := (h.box.put 0 (.slice A m c)).put 1 (.int .i64 (m : Int)), o1 := by rw [e]; exact own_two h.box h1, o2 := own_two h.box h.o2, dis := fun g e1 e2 => h.dis g (by cases A <;> exact e1) e2, l1 := by rw [e]; exact Nat.le_refl _, l2 := h.l2, s1 := by rw [e]; have := h.s1; omega, s2 := h.s2, y1 := h.y1.take m, y2 := h.y2, hb := h.hb }
theorem StkP.keep2 {W : World} {b base n c m : Nat} {A : Option Addr} {v1 : Value} {S F : List Int} {d1 d2 : Nat} (h : StkP W b base v1 (.slice A n c) S F d1 d2) (hn : n = F.length) (hm : m ≤ F.length) :
    StkP ((W.setCell ⟨b, 2, none⟩ (.slice A m c)).setCell ⟨b, 3, none⟩ (.int .i64 (m : Int))) b base v1 (.slice A m c) S (F.take m) d1 m := by
  have ho := h.o2
  rw [← hn] at ho
  have h1 := own_hd ho (m := m) (by omega)
  have e : (F.take m).length = m := by simp; omega
  exact { box := (h.box.put 2 (.slice A m c)).put 3 (.int .i64 (m : Int)), o1 := own_two h.box h.o1, o2 := by rw [e]; exact own_two h.box h1, dis := fun g e1 e2 => h.dis g e1 (by cases A <;> exact e2), l1 := h.l1, l2 := by rw [e]; exact Nat.le_refl _, s1 := h.s1, s2 := by rw [e]; have := h.s2; omega, y1 := h.y1, y2 := h.y2.take m, hb := h.hb }
set_option maxRecDepth 100000 in
set_option maxHeartbeats 8000000 in
theorem invert_c (b o g n c d T : Nat) (x : Int) (w : World) (h0 : w.cell? ⟨b, o, none⟩ = some (.slice (some ⟨g, 0, none⟩) n c)) (h1 : w.cell? ⟨b, o + 1, none⟩ = some (.int .i64 (d : Int))) (hx : w.cell? ⟨g, d + T / 8, none⟩ = some (.int .u8 x)) (hf : ∀ i, w.frozen? ⟨g, i, none⟩ = false) (hlt : d + T / 8 < n) (hn : n ≤ 33554432) (hT : T ≤ 4294967296) :
    Calls Try.prog 52 #[.pointer (some ⟨b, o, none⟩), .int .i64 (T : Int)] w fun e w' => (∃ r, e = .returned r) ∧ w' = w.drew.setCell ⟨g, d + T / 8, none⟩ (.int .u8 (bits .xor .u8 x (2 ^ (T % 8)))) := by
  obtain ⟨q, hq⟩ : ∃ z, T / 8 = z := ⟨_, rfl⟩
  obtain ⟨j, hj⟩ : ∃ z, T % 8 = z := ⟨_, rfl⟩
  have HJ8 : j < 8 := by omega
  have t0 : (T : Int) / 8 = (q : Int) := by omega
  have t1 : Int.tdiv (T : Int) 8 = (q : Int) := by rw [Int.tdiv_eq_ediv_of_nonneg (by omega), t0]
  have t3 : (T : Int) % 8 = (j : Int) := by omega
  have t2 : Int.tmod (T : Int) 8 = (j : Int) := by rw [Int.tmod_eq_emod_of_nonneg (by omega), t3]
  rw [hq] at hx hlt ⊢
  rw [hj]
  have i2 : (0 : Int) ≤ (d : Int) + (q : Int) := Int.add_nonneg (Int.natCast_nonneg _) (Int.natCast_nonneg _)
  have i3 : ((d : Int) + (q : Int)).toNat = d + q := by rw [← Int.natCast_add]; rfl
  have i1 : (d : Int) + (q : Int) < (n : Int) := by rw [← Int.natCast_add]; exact Int.ofNat_lt.2 hlt
  have t4 : IntKind.wrap .i64 (q : Int) = (q : Int) := wrapI (by omega) (by omega)
  have t5 : IntKind.wrap .i64 ((d : Int) + (q : Int)) = (d : Int) + (q : Int) := wrapI (by omega) (by omega)
  have t6 : wrap64 (q : Int) = (q : Int) := wrap64_id (by omega) (by omega)
  have s5 : (2 : Int) ^ j % 256 = 2 ^ j := pow_mod HJ8
  obtain ⟨W1, hW1⟩ : ∃ z, w.drew = z := ⟨_, rfl⟩
  have q0 : W1.cell? ⟨b, o, none⟩ = some (.slice (some ⟨g, 0, none⟩) n c) := by rw [← hW1]; exact h0
  have q1 : W1.cell? ⟨b, o + 1, none⟩ = some (.int .i64 (d : Int)) := by rw [← hW1]; exact h1
  have q2 : W1.cell? ⟨g, d + q, none⟩ = some (.int .u8 x) := by rw [← hW1]; exact hx
  have q3 : ∀ i, W1.frozen? ⟨g, i, none⟩ = false := by rw [← hW1]; exact hf
  rw [hW1]
  clear h0 h1 hx hf hq hj hlt hT t0 t3
  go_enter Try.func52, Try.ntmps52
  iterate 40 (first | (with_reducible show Code.wp _ (Code.region 0 _ _) _ _ _) | go_values | go_skip | go_guarded | go_step | go_upon | go_back | (simp only [Int.not_lt, Int.not_le] at *; go_simp) | go_simp)
  refine still_tail 18 W1 hW1 (by kernel_rfl) (by kernel_rfl) ?_
  clear hW1
  simp only [List.take_succ_cons, List.take_zero, List.drop_succ_cons, List.drop_zero]
  repeat still_step
  refine wpStill_nil ?_
  go_wp2_with fail
  go_end0
  exact ⟨⟨_, rfl⟩, rfl⟩

set_option maxRecDepth 100000 in
set_option maxHeartbeats 8000000 in
theorem keep_c (b o n c d m : Nat) (A : Option Addr) (ty : TypeId) (cs : Array Value) (w : World) (hb : Box w b ty cs) (h0 : cs[o]? = some (.slice A n c)) (h1 : cs[o + 1]? = some (.int .i64 (d : Int))) (hlt : d + m ≤ n) (hn : n ≤ 33554432) (hc : n ≤ c) :
    Calls Try.prog 53 #[.pointer (some ⟨b, o, none⟩), .int .i64 (m : Int)] w fun e w' => (∃ r, e = .returned r) ∧ w' = (w.drew.setCell ⟨b, o, none⟩ (.slice A (d + m) c)).setCell ⟨b, o + 1, none⟩ (.int .i64 ((d + m : Nat) : Int)) := by
  have hsl := run_hd A n c ((d : Int) + (m : Int)) (d + m) (by omega) (Nat.le_trans hlt hc)
  have w1 : IntKind.wrap .i64 ((d : Int) + (m : Int)) = (d : Int) + (m : Int) := wrapI (by omega) (by omega)
  obtain ⟨W1, hW1⟩ : ∃ z, w.drew = z := ⟨_, rfl⟩
  have HB1 := Lib.hid (show Box W1 b ty cs by rw [← hW1]; exact hb.later (below_drew _))
  have HCS0 := Lib.hid h0
  have HCS1 := Lib.hid h1
  have q0 : W1.cell? ⟨b, o, none⟩ = some (.slice A n c) := (HB1.out.cell o).trans h0
  have q1 : W1.cell? ⟨b, o + 1, none⟩ = some (.int .i64 (d : Int)) := (HB1.out.cell (o + 1)).trans h1
  have q2 : ∀ i, W1.frozen? ⟨b, i, none⟩ = false := fun i => HB1.out.free i
  obtain ⟨u, hu⟩ : ∃ z, d + m = z := ⟨_, rfl⟩
  have w2 : (d : Int) + (m : Int) = (u : Int) := by omega
  have HU := Lib.hid hu
  rw [hu] at hsl ⊢
  rw [w2] at hsl w1
  have HB2 := Lib.hid (HB1.out.put o (.slice A u c))
  have ks := Lib.hid (sync_c b o A u c (.int .i64 (d : Int)) (W1.setCell ⟨b, o, none⟩ (.slice A u c)) ((HB2.out.cell o).trans (by rw [Array.getElem?_setIfInBounds]; simp; exact (Array.getElem?_eq_some_iff.1 HCS0.out).1)) ((HB2.out.cell (o + 1)).trans (by rw [Array.getElem?_setIfInBounds]; simp; exact HCS1.out)) (fun i => HB2.out.free i))
  rw [hW1]
  clear hb h0 h1 hlt hn hc hu
  go_enter Try.func53, Try.ntmps53
  iterate 40 (first | (with_reducible show Code.wp _ (Code.region 0 _ _) _ _ _) | go_values | go_skip | go_guarded | go_step | go_upon | go_back | (simp only [Int.not_lt, Int.not_le] at *; go_simp) | go_simp)
  refine still_tail 12 W1 hW1 (by kernel_rfl) (by kernel_rfl) ?_
  clear hW1
  simp only [List.take_succ_cons, List.take_zero, List.drop_succ_cons, List.drop_zero]
  repeat still_step
  refine wpStill_nil ?_
  go_wp2_with fail
  refine ks.out.mono ?_; rintro e w1 ⟨⟨r, rfl⟩, rfl⟩
  go_wp2_with fail
  go_end0
  exact ⟨⟨_, rfl⟩, rfl⟩

end Go.Proofs.Ytbpbdgiglllncaa

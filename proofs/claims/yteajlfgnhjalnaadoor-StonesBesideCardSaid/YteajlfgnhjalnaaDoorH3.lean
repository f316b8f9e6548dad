/- The walks of checkCell and Neighbours. -/
import Derived.Test.YteajlfgnhjalnaaDoorH1
namespace Go.Proofs.YteajlfgnhjalnaaDoor
open Go.RowKit Go.Shelf Go.Maps Go.Lib
attribute [local go_sem] Oper.semAt_some

/-- what checkCell tells -/
def ckCell (f : Fc) (r c : Int) : Int := if validB f = true then (if InF f (r, c) then 0 else 3) else 10
theorem ckCell_ok {f : Fc} {r c : Int} (h : ckCell f r c = 0) : validB f = true ∧ InF f (r, c) := by
  unfold ckCell at h
  split at h
  · split at h
    · exact ⟨by assumption, by assumption⟩
    · omega
  · omega

set_option maxRecDepth 100000 in
set_option maxHeartbeats 1000000 in
theorem checkCell_c (f : Fc) (v : Value) (r c : Int) (w : World) (h : IsFace w w.heap.size v f) :
    Calls Tryd.prog 54 #[v, .agg #[.int .i64 r, .int .i64 c]] w fun e w' => e = .returned (.int .i64 (ckCell f r c)) ∧ Below w.heap.size w w' := by
  have hF := h
  obtain ⟨s, rfl, hlen, A, cp, rfl, hcap, hcell⟩ := h
  clear hcell
  have hb0 : Below w.heap.size w ((w.alloc (.cells #[.int .i64 f.eye, .int .i64 f.rings, .int .i64 f.sectors, .slice A f.kinds.length cp] 28)).alloc (.cells #[.int .i64 r, .int .i64 c] 41)) := ((Below.refl _ _).alloc (Nat.le_refl _) _).alloc (by simp) _
  have b0 := (Box.made w 28 #[.int .i64 f.eye, .int .i64 f.rings, .int .i64 f.sectors, .slice A f.kinds.length cp]).alloc (.cells #[.int .i64 r, .int .i64 c] 41)
  have b1 := Box.made (w.alloc (.cells #[.int .i64 f.eye, .int .i64 f.rings, .int .i64 f.sectors, .slice A f.kinds.length cp] 28)) 41 #[.int .i64 r, .int .i64 c]
  rw [World.size_alloc] at b1
  cases hv : validB f
  · have He := Lib.hid (show ckCell f r c = 10 by simp [ckCell, hv])
    go_enter Tryd.func54, Tryd.ntmps54
    go_wp2_with fail
    refine (Valid_c f _ _ ((hF.box _).box _)).mono ?_; rintro e w1 ⟨rfl, hb⟩
    rw [hv]
    go_wp2_with fail
    go_ret
    exact ⟨ret_int He.out.symm, chain hb0 hb⟩
  by_cases t1 : r < 0
  · have d1 : decide (r < 0) = true := by simpa using t1
    have He := Lib.hid (show ckCell f r c = 3 by simp only [ckCell, hv, if_true]; rw [if_neg]; rintro ⟨x1, -, -, -⟩; dsimp only at x1; omega)
    go_enter Tryd.func54, Tryd.ntmps54
    go_wp2_with fail
    refine (Valid_c f _ _ ((hF.box _).box _)).mono ?_; rintro e w1 ⟨rfl, hb⟩
    rw [hv]
    have hbw := chain hb0 hb
    have g1 : w1.cell? ⟨w.heap.size, 1, none⟩ = some (.int .i64 f.rings) := (b0.later hb).cell 1
    have g2 : w1.cell? ⟨w.heap.size, 2, none⟩ = some (.int .i64 f.sectors) := (b0.later hb).cell 2
    have g3 : w1.cell? ⟨w.heap.size + 1, 0, none⟩ = some (.int .i64 r) := (b1.later hb).cell 0
    have g4 : w1.cell? ⟨w.heap.size + 1, 1, none⟩ = some (.int .i64 c) := (b1.later hb).cell 1
    clear b0 b1 hb0 hb
    go_wp2_with fail
    go_ret
    exact ⟨ret_int He.out.symm, hbw⟩
  have d1 : decide (r < 0) = false := by simpa using t1
  by_cases t2 : f.rings ≤ r
  · have d2 : decide (f.rings ≤ r) = true := by simpa using t2
    have He := Lib.hid (show ckCell f r c = 3 by simp only [ckCell, hv, if_true]; rw [if_neg]; rintro ⟨-, x1, -, -⟩; dsimp only at x1; omega)
    go_enter Tryd.func54, Tryd.ntmps54
    go_wp2_with fail
    refine (Valid_c f _ _ ((hF.box _).box _)).mono ?_; rintro e w1 ⟨rfl, hb⟩
    rw [hv]
    have hbw := chain hb0 hb
    have g1 : w1.cell? ⟨w.heap.size, 1, none⟩ = some (.int .i64 f.rings) := (b0.later hb).cell 1
    have g2 : w1.cell? ⟨w.heap.size, 2, none⟩ = some (.int .i64 f.sectors) := (b0.later hb).cell 2
    have g3 : w1.cell? ⟨w.heap.size + 1, 0, none⟩ = some (.int .i64 r) := (b1.later hb).cell 0
    have g4 : w1.cell? ⟨w.heap.size + 1, 1, none⟩ = some (.int .i64 c) := (b1.later hb).cell 1
    clear b0 b1 hb0 hb
    go_wp2_with fail
    go_ret
    exact ⟨ret_int He.out.symm, hbw⟩
  have d2 : decide (f.rings ≤ r) = false := by simpa using t2
  by_cases t3 : c < 0
  · have d3 : decide (c < 0) = true := by simpa using t3
    have He := Lib.hid (show ckCell f r c = 3 by simp only [ckCell, hv, if_true]; rw [if_neg]; rintro ⟨-, -, x1, -⟩; dsimp only at x1; omega)
    go_enter Tryd.func54, Tryd.ntmps54
    go_wp2_with fail
    refine (Valid_c f _ _ ((hF.box _).box _)).mono ?_; rintro e w1 ⟨rfl, hb⟩
    rw [hv]
    have hbw := chain hb0 hb
    have g1 : w1.cell? ⟨w.heap.size, 1, none⟩ = some (.int .i64 f.rings) := (b0.later hb).cell 1
    have g2 : w1.cell? ⟨w.heap.size, 2, none⟩ = some (.int .i64 f.sectors) := (b0.later hb).cell 2
    have g3 : w1.cell? ⟨w.heap.size + 1, 0, none⟩ = some (.int .i64 r) := (b1.later hb).cell 0
    have g4 : w1.cell? ⟨w.heap.size + 1, 1, none⟩ = some (.int .i64 c) := (b1.later hb).cell 1
    clear b0 b1 hb0 hb
    go_wp2_with fail
    go_ret
    exact ⟨ret_int He.out.symm, hbw⟩
  have d3 : decide (c < 0) = false := by simpa using t3
  by_cases t4 : f.sectors ≤ c
  · have d4 : decide (f.sectors ≤ c) = true := by simpa using t4
    have He := Lib.hid (show ckCell f r c = 3 by simp only [ckCell, hv, if_true]; rw [if_neg]; rintro ⟨-, -, -, x1⟩; dsimp only at x1; omega)
    go_enter Tryd.func54, Tryd.ntmps54
    go_wp2_with fail
    refine (Valid_c f _ _ ((hF.box _).box _)).mono ?_; rintro e w1 ⟨rfl, hb⟩
    rw [hv]
    have hbw := chain hb0 hb
    have g1 : w1.cell? ⟨w.heap.size, 1, none⟩ = some (.int .i64 f.rings) := (b0.later hb).cell 1
    have g2 : w1.cell? ⟨w.heap.size, 2, none⟩ = some (.int .i64 f.sectors) := (b0.later hb).cell 2
    have g3 : w1.cell? ⟨w.heap.size + 1, 0, none⟩ = some (.int .i64 r) := (b1.later hb).cell 0
    have g4 : w1.cell? ⟨w.heap.size + 1, 1, none⟩ = some (.int .i64 c) := (b1.later hb).cell 1
    clear b0 b1 hb0 hb
    go_wp2_with fail
    go_ret
    exact ⟨ret_int He.out.symm, hbw⟩
  have d4 : decide (f.sectors ≤ c) = false := by simpa using t4
  have He := Lib.hid (show ckCell f r c = 0 by simp only [ckCell, hv, if_true]; rw [if_pos]; exact ⟨by dsimp only; omega, by dsimp only; omega, by dsimp only; omega, by dsimp only; omega⟩)
  go_enter Tryd.func54, Tryd.ntmps54
  go_wp2_with fail
  refine (Valid_c f _ _ ((hF.box _).box _)).mono ?_; rintro e w1 ⟨rfl, hb⟩
  rw [hv]
  have hbw := chain hb0 hb
  have g1 : w1.cell? ⟨w.heap.size, 1, none⟩ = some (.int .i64 f.rings) := (b0.later hb).cell 1
  have g2 : w1.cell? ⟨w.heap.size, 2, none⟩ = some (.int .i64 f.sectors) := (b0.later hb).cell 2
  have g3 : w1.cell? ⟨w.heap.size + 1, 0, none⟩ = some (.int .i64 r) := (b1.later hb).cell 0
  have g4 : w1.cell? ⟨w.heap.size + 1, 1, none⟩ = some (.int .i64 c) := (b1.later hb).cell 1
  clear b0 b1 hb0 hb
  go_wp2_with fail
  go_ret
  exact ⟨ret_int He.out.symm, hbw⟩

theorem push_cells (l : List (Int × Int)) (a b : Int) : cellRow (l ++ [(a, b)]) = cellRow l ++ [.int .i64 a, .int .i64 b] := cellRow_snoc l (a, b)
/-- what stands between two rounds of Neighbours -/
def NbI (w : World) (q n3 : Nat) (f : Fc) (pre : List (Int × Int)) (W : World) : Prop :=
  ∃ ov, Box W q 42 #[ov] ∧ W.ownsRow n3 41 2 ov (pre.map (clamp f)).length (cellRow (pre.map (clamp f))) ∧ Below w.heap.size w W ∧ n3 ≤ W.heap.size
theorem NbI.size {w W : World} {q n3 : Nat} {f : Fc} {pre : List (Int × Int)} (h : NbI w q n3 f pre W) : n3 ≤ W.heap.size := by obtain ⟨_, _, _, _, h⟩ := h; exact h
theorem NbI.own (w : World) (q n3 : Nat) (f : Fc) (h : w.heap.size ≤ n3) : OwnFrom n3 (NbI w q n3 f) := by
  rintro pre X Y row ⟨ov, b0, ho, hb, hn⟩ hgr hr
  refine ⟨ov, b0.gr hgr hr, ho.kept hgr ?_, hb.trans ((Below.refl _ X).grown hgr (by have := hb.size; omega) (fun k e => by have := (hr k e).1; omega)), Nat.le_trans hn hgr.size⟩
  by_cases e : ov.ownBlock = row
  · left
    cases hx : ov.ownBlock with
    | none => rfl
    | some g =>
      obtain ⟨cs, fz, hh⟩ := ownsRow_kind ho g hx
      obtain ⟨_, ob, h3, h4⟩ := hr g (by rw [← e, hx])
      rw [hh] at h3; cases h3; cases h4
  · exact .inr e

set_option maxRecDepth 100000 in
set_option maxHeartbeats 4000000 in
theorem Neighbours_c (f : Fc) (v : Value) (r cc : Int) (w : World) (h : IsFace w w.heap.size v f) :
    Calls Tryd.prog 22 #[v, .agg #[.int .i64 r, .int .i64 cc]] w fun e w' => ∃ lv, e = .returned (.tuple #[lv, .int .i64 (ckCell f r cc)]) ∧ Cels w' w'.heap.size lv (if ckCell f r cc = 0 then nearL f r cc else []) ∧ Below w.heap.size w w' := by
  have hF := h
  obtain ⟨s, rfl, hlen, A, cp, rfl, hcap, hcell⟩ := h
  clear hcell
  have hb0 : Below w.heap.size w ((w.alloc (.cells #[.int .i64 f.eye, .int .i64 f.rings, .int .i64 f.sectors, .slice A f.kinds.length cp] 28)).alloc (.cells #[.int .i64 r, .int .i64 cc] 41)) := ((Below.refl _ _).alloc (Nat.le_refl _) _).alloc (by simp) _
  have b0 := (Box.made w 28 #[.int .i64 f.eye, .int .i64 f.rings, .int .i64 f.sectors, .slice A f.kinds.length cp]).alloc (.cells #[.int .i64 r, .int .i64 cc] 41)
  have b1 := Box.made (w.alloc (.cells #[.int .i64 f.eye, .int .i64 f.rings, .int .i64 f.sectors, .slice A f.kinds.length cp] 28)) 41 #[.int .i64 r, .int .i64 cc]
  rw [World.size_alloc] at b1
  have hF2 := (hF.box (.cells #[.int .i64 f.eye, .int .i64 f.rings, .int .i64 f.sectors, .slice A f.kinds.length cp] 28)).box (.cells #[.int .i64 r, .int .i64 cc] 41)
  by_cases hk : ckCell f r cc = 0
  · obtain ⟨hv, hin⟩ := ckCell_ok hk
    have hclamp := near_clamp hin
    obtain ⟨⟨⟨z1, z2⟩, ⟨z3, z4⟩, z5, z6⟩, -, -⟩ := validB_iff.1 hv
    obtain ⟨q1, q2, q3, q4⟩ := hin
    dsimp only at q1 q2 q3 q4
    rw [hk, if_pos rfl]
    refine (callsIn_wide (n := 8)).1 ?_
    refine callsIn_of_wp_marks Tryd.func22 rfl trivial ?_ rfl
    simp only [Tryd.ntmps22, List.size_toArray, List.length_cons, List.length_nil, Nat.reduceAdd, Nat.reduceSub, Array.replicate_succ, Array.replicate_zero, List.push_toArray, List.append_toArray, List.nil_append, List.cons_append]
    gi_wp2_with fail
    refine ⟨trivial, (callsIn_wide.2 (checkCell_c f _ r cc _ hF2)).mono ?_⟩
    rintro e w1 ⟨rfl, hb1⟩
    rw [hk]
    have hbw := chain hb0 hb1
    have c0 := b0.later hb1
    have c1 := b1.later hb1
    have hs1 := hbw.size
    have hs0 := hb1.size
    simp only [World.size_alloc] at hs0
    clear b0 b1 hb0 hb1 hF2
    have g0 : ∀ o : Obj, (w1.alloc o).cell? ⟨w.heap.size, 0, none⟩ = some (.int .i64 f.eye) := fun o => (c0.alloc o).cell 0
    have g1 : ∀ o : Obj, (w1.alloc o).cell? ⟨w.heap.size, 1, none⟩ = some (.int .i64 f.rings) := fun o => (c0.alloc o).cell 1
    have g2 : ∀ o : Obj, (w1.alloc o).cell? ⟨w.heap.size, 2, none⟩ = some (.int .i64 f.sectors) := fun o => (c0.alloc o).cell 2
    have g3 : ∀ o : Obj, (w1.alloc o).cell? ⟨w.heap.size, 3, none⟩ = some (.slice A f.kinds.length cp) := fun o => (c0.alloc o).cell 3
    have g4 : ∀ o : Obj, (w1.alloc o).cell? ⟨w.heap.size + 1, 0, none⟩ = some (.int .i64 r) := fun o => (c1.alloc o).cell 0
    have g5 : ∀ o : Obj, (w1.alloc o).cell? ⟨w.heap.size + 1, 1, none⟩ = some (.int .i64 cc) := fun o => (c1.alloc o).cell 1
    gi_wp2_with fail
    refine ⟨trivial, (callsIn_wide.2 (neighbours_c f A f.kinds.length cp r cc _ q1 (by omega) q3 (by omega) (by omega) z6)).mono ?_⟩
    rintro e w3 ⟨nv, rfl, ⟨bn, bf, s, rfl, hn1, hn2, n1, n2⟩, hb3⟩
    gi_wp2_with fail
    have hs3 := hb3.size
    simp only [World.size_alloc] at hs3 hn1 hn2
    have e0 : Box w3 w1.heap.size _ _ := (Box.made w1 42 #[.slice none 0 0]).later hb3
    have hB3 : Below w.heap.size w w3 := hbw.trans ((boxed hb3).mono (by omega))
    have hN1 := n1.lt
    have hN2 := n2.lt
    clear g0 g1 g2 g3 g4 g5 c0 c1 hb3
    refine wpIn_rangeFunc_ownH (α := Int × Int) rfl (by omega) (gf := 73) (lb := #[.pointer (some ⟨bn, 0, none⟩), .pointer (some ⟨bf, 0, none⟩)]) rfl trivial (enters_of Tryd.func73 (by kernel_rfl) rfl)
      (near_stops 7 (by omega) f s r cc q1 q2 q3 q4 bn bf w3 n1 n2) KeepN.trans (fun W l o o' _ h hc _ => KeepN.put W l o o' h hc) (Below.refl _ _) (fun _ => rfl)
      (NbI w w1.heap.size w3.heap.size f)
      (fun _ _ _ => False)
      (NbI.own w w1.heap.size w3.heap.size f (by omega))
      (fun _ _ _ _ _ hs _ _ => hs)
      ⟨_, e0, World.ownsRow_nil .., hB3, Nat.le_refl _⟩
      (fun x a' W => ∃ Bx, w3.heap.size ≤ Bx ∧ Box W Bx 41 #[.int .i64 (clamp f x).1, .int .i64 (clamp f x).2] ∧ a' = { tmps := #[Value.agg #[.int .i64 f.eye, .int .i64 f.rings, .int .i64 f.sectors, .slice A f.kinds.length cp], Value.agg #[.int .i64 r, .int .i64 cc], Value.pointer (some ⟨w.heap.size, 0, none⟩), Value.pointer (some ⟨w.heap.size + 1, 0, none⟩), Value.slice none 0 0, Value.int .i64 0, Value.int .i64 0, Value.pointer (some ⟨w1.heap.size, 0, none⟩), Value.pointer (some ⟨Bx, 0, none⟩), Value.agg #[.int .i64 f.eye, .int .i64 f.rings, .int .i64 f.sectors, .slice A f.kinds.length cp], Value.agg #[.int .i64 r, .int .i64 cc], Value.int .i64 0, Value.int .i64 0, Value.bool false, undef, Value.agg #[.int .i64 f.eye, .int .i64 f.rings, .int .i64 f.sectors, .slice A f.kinds.length cp], Value.agg #[.int .i64 r, .int .i64 cc], Value.func (.func 73) #[] #[Value.pointer (some ⟨bn, 0, none⟩), Value.pointer (some ⟨bf, 0, none⟩)], Value.agg #[.int .i64 (clamp f x).1, .int .i64 (clamp f x).2], undef, undef, undef, undef, undef], defers := [] })
      (fun x a' _ X Y row hs hg hr => by obtain ⟨Bx, h1, h2, h3⟩ := hs; exact ⟨Bx, h1, h2.gr hg hr, h3⟩)
      ?assign ?body ?done ?stop
    case assign =>
      rintro l pre x W K hI hK
      unfold cellV
      gi_wp2_with fail
      exact hK _ _ ((KeepsOthers.alloc _ _).from _) ⟨fun t cs h => h.alloc _, fun t cs h => h.alloc _⟩ ((NbI.own w w1.heap.size w3.heap.size f (by omega)).alloc _ hI) ⟨W.heap.size, hI.size, Box.made _ _ _, rfl⟩
    case done =>
      rintro D xs W hD rfl hI hK
      obtain ⟨ov, b0, ho, hb, hn⟩ := hI
      obtain ⟨oA', ocp', rfl⟩ := own_shape ho
      have g30 : W.cell? ⟨w1.heap.size, 0, none⟩ = some _ := b0.cell 0
      gi_wp2_with fail
      refine ⟨by simp, .inl ⟨_, _, rfl, run_takeDeferred hK, ?_⟩⟩
      refine ⟨_, results_tmp2 rfl _ _ _, ⟨_, rfl, ?_, hb.trans (belowK_b (w := w) (by omega) W D _ _ (by omega) hK rfl rfl)⟩⟩
      rw [hclamp] at ho
      exact cels_own (ownsRow_putObj ho _ hK rfl) (Nat.le_refl _)
    case stop =>
      rintro D c pre W _ _ h _
      exact h.elim
    case body =>
      rintro l pre x a' W hl ⟨rec, hrec⟩ hI ⟨Bx, hBx, bX, rfl⟩ hlt
      obtain ⟨ov, b0, ho, hb, hn⟩ := hI
      have hlenp : (pre.map (clamp f)).length ≤ 4 := by rw [List.length_map]; omega
      have Hs : (pre ++ [x]).map (clamp f) = pre.map (clamp f) ++ [clamp f x] := by simp
      generalize clamp f x = y at *
      generalize pre.map (clamp f) = o1 at *
      obtain ⟨a, b⟩ := y
      dsimp only at *
      have gx0 : W.cell? ⟨Bx, 0, none⟩ = some (.int .i64 a) := bX.cell 0
      have gx1 : W.cell? ⟨Bx, 1, none⟩ = some (.int .i64 b) := bX.cell 1
      have g30 : W.cell? ⟨w1.heap.size, 0, none⟩ = some ov := b0.cell 0
      obtain ⟨i0, hi, hz0, hz1, hz2⟩ : ∃ i, Tryd.prog.info? 41 = some i ∧ i.zero = some (.agg #[.int .i64 0, .int .i64 0]) ∧ i.size = 2 ∧ i.bytes = 16 := ⟨_, rfl, rfl, rfl, rfl⟩
      have hnews : ∀ (j : Nat) (u : Value), [Value.int .i64 a, .int .i64 b][j]? = some u → (W.alloc (.cells #[.int .i64 a, .int .i64 b] 41)).cell? ((⟨W.heap.size, 0, none⟩ : Addr).add j) = some u := fun j u h => by
        have e := Box.made W 41 #[.int .i64 a, .int .i64 b]
        rcases j with _ | _ | j
        · exact (e.cell 0).trans h
        · exact (e.cell 1).trans h
        · simp at h
      have h1c : ∀ u ∈ [Value.int .i64 a, .int .i64 b], u.oneCell' = true := by intro u hu; simp at hu; rcases hu with rfl | rfl <;> rfl
      have hk1 : o1.length + 1 ≤ maxLen := by unfold maxLen; omega
      have hk2 : (o1.length + 1) * 16 ≤ 140737488355328 := by omega
      have hk3 : w3.heap.size ≤ (W.alloc (.cells #[.int .i64 a, .int .i64 b] 41)).heap.size := by simp; omega
      have ho6 := ho.alloc (.cells #[.int .i64 a, .int .i64 b] 41)
      have hl2 : ∀ g, ov.ownBlock = some g → w3.heap.size ≤ g ∧ g < W.heap.size := ho.lt
      have hne : ∀ q, q < w3.heap.size → ov.ownBlock ≠ some q := fun q h e => by have := (hl2 q e).1; omega
      gi_wp2_with (first
        | (gi_at_builtin; refine wpListIn_append_own_at _ rfl _ _ 42 rfl w3.heap.size 41 i0 (.agg #[.int .i64 0, .int .i64 0]) 2 16 Tryd.underlying42 hi hz0 hz1 hz2 rfl (by decide) ov _ _ rfl ho6 ⟨W.heap.size, 0, none⟩ 1 1 [.int .i64 a, .int .i64 b] rfl rfl hnews h1c hk1 hk2 hk3 ?_; intro v' w7 hown7 hgrow7 _ hblk7; obtain ⟨oB, cB, rfl⟩ := own_shape hown7; have j37 : Box w7 w1.heap.size _ _ := Box.grown (b0.alloc _) hgrow7 (hne _ (by omega)); have g37 := j37.cell 0; have f37 := j37.free 0))
      have hs7 := hgrow7.size
      simp only [World.size_alloc] at hs7
      have hownE : ∀ g, (Value.slice oB (o1.length + 1) cB).ownBlock = some g → w3.heap.size ≤ g := fun g e => (hown7.lt g e).1
      refine ⟨((KeepsOthers.alloc _ _).from _).trans (((KeepsOthers.of_grownBy hgrow7 (fun j ob h1 h2 => by
          obtain ⟨cs, fz, hh⟩ := ownsRow_kind ho6 j h1
          rw [hh] at h2; cases h2; rfl)).from _).trans ((KeepsOthers.setCell _ _ _).from _)),
        ⟨fun t cs h => ((h.alloc _).grown hgrow7 (hne bn hN1)).far (by dsimp only; omega) _, fun t cs h => ((h.alloc _).grown hgrow7 (hne bf hN2)).far (by dsimp only; omega) _⟩, ?_⟩
      unfold NbI
      rw [Hs, push_cells, List.length_append]
      refine ⟨_, (by simpa using j37.put 0 (.slice oB (o1.length + 1) cB)), ?_, ?_, ?_⟩
      · exact hown7.kept (grownBy_setCell' _ _ _) (.inr (fun e => by have := hownE _ e; omega))
      · exact ((hb.alloc (by omega) _).grown hgrow7 (by simp; omega) (fun k e => by have := (hl2 k e).1; omega)).setCell (p := ⟨w1.heap.size, 0, none⟩) (by simp; omega) _
      · rw [World.size_setCell]; omega
  · go_enter Tryd.func22, Tryd.ntmps22
    go_wp2_with fail
    refine (checkCell_c f _ r cc _ hF2).mono ?_
    rintro e w1 ⟨rfl, hb1⟩
    have hbw := chain hb0 hb1
    have hd : ((ckCell f r cc) != 0) = true := by simpa using hk
    go_wp2_with fail
    go_ret2
    exact ⟨_, rfl, Cels.nil_ _ _, hbw⟩

end Go.Proofs.YteajlfgnhjalnaaDoor

/- spread: takes those neighbours of a cell into its region that are not in it yet. -/
import Derived.Test.YtpejcdjgggcjlaaGreatDoorC4
import Derived.Maps.OwnIn
import Derived.Lib.OwnKind
import Derived.Test.YtpejcdjgggcjlaaGreatDoorA4
import Derived.Test.YtpejcdjgggcjlaaGreatDoorB1
namespace Go.Proofs.YtpejcdjgggcjlaaGreatDoor
open Go.RowKit Go.Shelf Go.Maps Go.Lib
attribute [local go_sem] Oper.semAt_some

/-- one neighbour: taken in, or left -/
def sprStep (f : Fc) (fur : Bool) (c : Int × Int) (s : (Int × Int → Option Int) × List (Int × Int)) (x : Int × Int) : (Int × Int → Option Int) × List (Int × Int) :=
  if (s.1 x).isSome || ((kat f x.1 x.2 != 0) != fur) then s else (fun y => if y = x then some ((s.1 c).getD 0) else s.1 y, s.2 ++ [x])
/-- a first part of the neighbours -/
def sprTo (f : Fc) (c : Int × Int) (m : Int × Int → Option Int) (o : List (Int × Int)) (pre : List (Int × Int)) : (Int × Int → Option Int) × List (Int × Int) :=
  (pre.map (clamp f)).foldl (sprStep f (kat f c.1 c.2 != 0) c) (m, o)
theorem sprStep_len (f : Fc) (fur : Bool) (c : Int × Int) (s : (Int × Int → Option Int) × List (Int × Int)) (x : Int × Int) : (sprStep f fur c s x).2.length ≤ s.2.length + 1 := by
  unfold sprStep
  split <;> simp
theorem sprTo_len (f : Fc) (c : Int × Int) (m : Int × Int → Option Int) (o : List (Int × Int)) (pre : List (Int × Int)) : (sprTo f c m o pre).2.length ≤ o.length + pre.length := by
  unfold sprTo
  have h : ∀ (l : List (Int × Int)) (s : (Int × Int → Option Int) × List (Int × Int)), (l.foldl (sprStep f (kat f c.1 c.2 != 0) c) s).2.length ≤ s.2.length + l.length := by
    intro l
    induction l with
    | nil => intro s; simp
    | cons x l ih =>
      intro s
      have h1 := ih (sprStep f (kat f c.1 c.2 != 0) c s x)
      have h2 := sprStep_len f (kat f c.1 c.2 != 0) c s x
      simp only [List.foldl_cons, List.length_cons]
      omega
  have := h (pre.map (clamp f)) (m, o)
  simpa using this
theorem fit_small {n : Int} (h1 : 0 ≤ n) (h2 : n ≤ 10000) : Fit64 n := by
  unfold Fit64
  have h3 : IntKind.i64.min = -9223372036854775808 := by decide
  simp [Lit.wf, h3]
  omega
/-- cells in a row, cell by cell of memory -/
def cellRow : List (Int × Int) → List Value
  | [] => []
  | x :: xs => .int .i64 x.1 :: .int .i64 x.2 :: cellRow xs

theorem cellRow_snoc (l : List (Int × Int)) (x : Int × Int) : cellRow (l ++ [x]) = cellRow l ++ [.int .i64 x.1, .int .i64 x.2] := by
  induction l with
  | nil => rfl
  | cons y l ih => simp [cellRow, ih]
/-- what stands between two rounds -/
def SprI (w : World) (mb nm base fb n3 : Nat) (f : Fc) (s : Value) (c : Int × Int) (m : Int × Int → Option Int) (o pre : List (Int × Int)) (W : World) : Prop :=
  ∃ ov, Box W w.heap.size 24 #[.int .i64 f.eye, .int .i64 f.rings, .int .i64 f.sectors, s] ∧ Box W (w.heap.size + 1) 26 #[.int .i64 c.1, .int .i64 c.2] ∧
    Box W (w.heap.size + 1 + 1) 92 #[.map (some mb)] ∧ Box W (w.heap.size + 1 + 1 + 1) 39 #[ov] ∧ Box W fb 4 #[.bool (kat f c.1 c.2 != 0)] ∧
    NumMap W mb (nm + pre.length) (sprTo f c m o pre).1 ∧ W.ownsRow base 26 2 ov (sprTo f c m o pre).2.length (cellRow (sprTo f c m o pre).2) ∧
    (∀ g, ov.ownBlock = some g → g < w.heap.size ∨ n3 ≤ g) ∧ Below mb w W ∧ n3 ≤ W.heap.size
theorem NumMap.fit {w : World} {b n : Nat} {m : Int × Int → Option Int} (h : NumMap w b n m) {x : Int × Int} (hx : Fit64 x.1 ∧ Fit64 x.2) : Fit64 ((m x).getD 0) := by
  obtain ⟨D, h1, h2, h3⟩ := h
  obtain ⟨e1, e2⟩ := h3 x hx
  obtain ⟨c, hrun, hat, hw⟩ := h1.lookup_int Tryz.keyedCell Tryz.underlying92 Tryz.underlying3 (Tryz.zeroInt w) (keyOf_cell hx.1 hx.2)
  rw [e2] at hat
  simp only [DataW.lit.injEq, Lit.int.injEq, true_and] at hat
  rw [hat]
  exact hw
theorem NumMap.drew {w : World} {b n : Nat} {m : Int × Int → Option Int} (h : NumMap w b n m) : NumMap w.drew b n m := h.kept (row := none) ⟨rfl, rfl, rfl, Nat.le_refl _, fun _ _ _ => rfl⟩ (by simp)
theorem SprI.size {w : World} {mb nm base fb n3 : Nat} {f : Fc} {s : Value} {c : Int × Int} {m : Int × Int → Option Int} {o pre : List (Int × Int)} {W : World} (h : SprI w mb nm base fb n3 f s c m o pre W) : n3 ≤ W.heap.size := by obtain ⟨_, _, _, _, _, _, _, _, _, _, h⟩ := h; exact h
theorem Box.gr {w w' : World} {g B : Nat} {t : TypeId} {cs : Array Value} {row : Option Nat} (h : Box w g t cs) (hg : w.grownBy w' row) (hr : ∀ r, row = some r → B ≤ r ∧ ∃ o : Obj, w.heap[r]? = some o ∧ o.isCells = false) : Box w' g t cs :=
  h.grown hg (fun e => by obtain ⟨_, o, h1, h2⟩ := hr g e; unfold Box at h; rw [h] at h1; cases h1; cases h2)
theorem SprI.own (w : World) (mb nm base fb n3 : Nat) (f : Fc) (s : Value) (c : Int × Int) (m : Int × Int → Option Int) (o : List (Int × Int)) (h1 : mb < w.heap.size) (h2 : w.heap.size + 4 ≤ n3) :
    OwnFrom n3 (SprI w mb nm base fb n3 f s c m o) := by
  rintro pre X Y row ⟨ov, b0, b1, b2, b3, b4, hm, ho, hg, hb, hn⟩ hgr hr
  refine ⟨ov, b0.gr hgr hr, b1.gr hgr hr, b2.gr hgr hr, b3.gr hgr hr, b4.gr hgr hr, hm.kept hgr (fun e => by have := (hr mb e.symm).1; omega), ho.kept hgr ?_, hg,
    hb.trans ((Below.refl _ X).grown hgr (by omega) (fun k e => by have := (hr k e).1; omega)), Nat.le_trans hn hgr.size⟩
  by_cases e : ov.ownBlock = row
  · left
    cases hx : ov.ownBlock with
    | none => rfl
    | some g =>
      obtain ⟨cs, fz, hh⟩ := ownsRow_kind ho g hx
      obtain ⟨_, ob, h3, h4⟩ := hr g (by rw [← e, hx])
      rw [hh] at h3; cases h3; cases h4
  · exact .inr e

set_option maxRecDepth 100000 in
set_option maxHeartbeats 4000000 in
theorem spread_c (f : Fc) (A : Option Addr) (nk cp : Nat) (c : Int × Int) (mb nm base : Nat) (m : Int × Int → Option Int) (ov : Value) (o : List (Int × Int)) (w : World)
    (hF : IsFace w mb (.agg #[.int .i64 f.eye, .int .i64 f.rings, .int .i64 f.sectors, .slice A nk cp]) f) (hv : validB f = true) (hc : InF f c)
    (hm : NumMap w mb nm m) (ho : w.ownsRow base 26 2 ov o.length (cellRow o)) (hbm : mb < base) (hbs : base ≤ w.heap.size) (hnm : nm + 4 < maxLen) (hol : o.length ≤ 1000000) :
    Calls Tryz.prog 92 #[.agg #[.int .i64 f.eye, .int .i64 f.rings, .int .i64 f.sectors, .slice A nk cp], cellV c, .map (some mb), ov] w
      fun e w' => ∃ ov', e = .returned ov' ∧ Below mb w w' ∧ NumMap w' mb (nm + 4) (sprTo f c m o (nearTo f c.1 c.2 4)).1 ∧
        w'.ownsRow base 26 2 ov' (sprTo f c m o (nearTo f c.1 c.2 4)).2.length (cellRow (sprTo f c m o (nearTo f c.1 c.2 4)).2) := by
  obtain ⟨q1, q2, q3, q4⟩ := hc
  obtain ⟨r, cc⟩ := c
  dsimp only at q1 q2 q3 q4
  obtain ⟨oA, ocp, rfl⟩ := own_shape ho
  have hmlt := hm.lt
  obtain ⟨⟨⟨z1, z2⟩, ⟨z3, z4⟩, z5, z6⟩, -, -⟩ := validB_iff.1 hv
  refine (callsIn_wide (n := 8)).1 ?_
  refine callsIn_of_wp_marks Tryz.func92 rfl trivial ?_ rfl
  simp only [Tryz.ntmps92, List.size_toArray, List.length_cons, List.length_nil, Nat.reduceAdd, Nat.reduceSub, Array.replicate_succ, Array.replicate_zero, List.push_toArray, List.append_toArray, List.nil_append, List.cons_append]
  unfold cellV
  dsimp only
  gi_wp2_with fail
  have b0 : Box _ _ _ _ := (((Box.made w 24 #[.int .i64 f.eye, .int .i64 f.rings, .int .i64 f.sectors, .slice A nk cp]).alloc (.cells #[.int .i64 r, .int .i64 cc] 26)).alloc (.cells #[.map (some mb)] 92)).alloc (.cells #[.slice oA o.length ocp] 39)
  have b1 : Box _ _ _ _ := ((Box.made (w.alloc (.cells #[.int .i64 f.eye, .int .i64 f.rings, .int .i64 f.sectors, .slice A nk cp] 24)) 26 #[.int .i64 r, .int .i64 cc]).alloc (.cells #[.map (some mb)] 92)).alloc (.cells #[.slice oA o.length ocp] 39)
  have b2 : Box _ _ _ _ := (Box.made ((w.alloc (.cells #[.int .i64 f.eye, .int .i64 f.rings, .int .i64 f.sectors, .slice A nk cp] 24)).alloc (.cells #[.int .i64 r, .int .i64 cc] 26)) 92 #[.map (some mb)]).alloc (.cells #[.slice oA o.length ocp] 39)
  have b3 : Box _ _ _ _ := Box.made (((w.alloc (.cells #[.int .i64 f.eye, .int .i64 f.rings, .int .i64 f.sectors, .slice A nk cp] 24)).alloc (.cells #[.int .i64 r, .int .i64 cc] 26)).alloc (.cells #[.map (some mb)] 92)) 39 #[.slice oA o.length ocp]
  simp only [World.size_alloc] at b1 b2 b3
  have hB0 : Below w.heap.size w ((((w.alloc (.cells #[.int .i64 f.eye, .int .i64 f.rings, .int .i64 f.sectors, .slice A nk cp] 24)).alloc (.cells #[.int .i64 r, .int .i64 cc] 26)).alloc (.cells #[.map (some mb)] 92)).alloc (.cells #[.slice oA o.length ocp] 39)) :=
    ((((Below.refl _ w).alloc (Nat.le_refl _) _).alloc (by simp) _).alloc (by simp; omega) _).alloc (by simp; omega) _
  have hsz : ((((w.alloc (.cells #[.int .i64 f.eye, .int .i64 f.rings, .int .i64 f.sectors, .slice A nk cp] 24)).alloc (.cells #[.int .i64 r, .int .i64 cc] 26)).alloc (.cells #[.map (some mb)] 92)).alloc (.cells #[.slice oA o.length ocp] 39)).heap.size = w.heap.size + 4 := by simp
  obtain ⟨W0, hW0⟩ : ∃ W0, ((((w.alloc (.cells #[.int .i64 f.eye, .int .i64 f.rings, .int .i64 f.sectors, .slice A nk cp] 24)).alloc (.cells #[.int .i64 r, .int .i64 cc] 26)).alloc (.cells #[.map (some mb)] 92)).alloc (.cells #[.slice oA o.length ocp] 39)) = W0 := ⟨_, rfl⟩
  rw [hW0] at b0 b1 b2 b3 hB0 hsz ⊢
  clear hW0
  refine ⟨trivial, (callsIn_wide.2 (kindAt_c f (.agg #[.int .i64 f.eye, .int .i64 f.rings, .int .i64 f.sectors, .slice A nk cp]) r cc W0 (hF.mono (hB0.mono (by omega)) (by omega)) hv q1 q2 q3 q4)).mono ?_⟩
  rintro e w1 ⟨rfl, hb1⟩
  gi_wp2_with fail
  refine ⟨trivial, (callsIn_wide.2 (isFurrow_c (kat f r cc) w1)).mono ?_⟩
  rintro e w1' ⟨rfl, rfl⟩
  have c1 := b0.later hb1
  have c2 := b1.later hb1
  have c3 := b2.later hb1
  have c4 := b3.later hb1
  have hs1 : w.heap.size + 4 ≤ w1.heap.size := by have := hb1.size; omega
  have hB1 : Below w.heap.size w w1 := hB0.trans (hb1.mono (by omega))
  clear b0 b1 b2 b3 hB0 hsz hb1
  have d00 : ∀ o : Obj, (w1.alloc o).cell? ⟨w.heap.size, 0, none⟩ = some (.int .i64 f.eye) := fun o => (c1.alloc o).cell 0
  have d01 : ∀ o : Obj, (w1.alloc o).cell? ⟨w.heap.size, 1, none⟩ = some (.int .i64 f.rings) := fun o => (c1.alloc o).cell 1
  have d02 : ∀ o : Obj, (w1.alloc o).cell? ⟨w.heap.size, 2, none⟩ = some (.int .i64 f.sectors) := fun o => (c1.alloc o).cell 2
  have d03 : ∀ o : Obj, (w1.alloc o).cell? ⟨w.heap.size, 3, none⟩ = some (.slice A nk cp) := fun o => (c1.alloc o).cell 3
  have d10 : ∀ o : Obj, (w1.alloc o).cell? ⟨w.heap.size + 1, 0, none⟩ = some (.int .i64 r) := fun o => (c2.alloc o).cell 0
  have d11 : ∀ o : Obj, (w1.alloc o).cell? ⟨w.heap.size + 1, 1, none⟩ = some (.int .i64 cc) := fun o => (c2.alloc o).cell 1
  gi_wp2_with fail
  refine ⟨trivial, (callsIn_wide.2 (neighbours_c f A nk cp r cc _ q1 (by omega) q3 (by omega) (by omega) z6)).mono ?_⟩
  rintro e w3 ⟨nv, rfl, ⟨bn, bf, s, rfl, hn1, hn2, n1, n2⟩, hb3⟩
  gi_wp2_with fail
  have hs3 := hb3.size
  simp only [World.size_alloc] at hs3 hn1 hn2
  obtain ⟨n3, hn3⟩ : ∃ n3, w3.heap.size = n3 := ⟨_, rfl⟩
  have e0 : Box w3 w.heap.size _ _ := (c1.alloc (.cells #[.bool (kat f r cc != 0)] 4)).later hb3
  have e1 : Box w3 (w.heap.size + 1) _ _ := (c2.alloc (.cells #[.bool (kat f r cc != 0)] 4)).later hb3
  have e2 : Box w3 (w.heap.size + 1 + 1) _ _ := (c3.alloc (.cells #[.bool (kat f r cc != 0)] 4)).later hb3
  have e3 : Box w3 (w.heap.size + 1 + 1 + 1) _ _ := (c4.alloc (.cells #[.bool (kat f r cc != 0)] 4)).later hb3
  have e4 : Box w3 w1.heap.size _ _ := (Box.made w1 4 #[.bool (kat f r cc != 0)]).later hb3
  have hB3 : Below w.heap.size w w3 := hB1.trans ((boxed hb3).mono (by omega))
  have ho3 := own_later ho hB3
  have hm3 := hm.later hB3
  have hN1 := n1.lt
  have hN2 := n2.lt
  have hl1 := ho.lt
  clear d00 d01 d02 d03 d10 d11 c1 c2 c3 c4 hb3 hm ho
  refine wpIn_rangeFunc_ownH (α := Int × Int) rfl (by omega) (gf := 105) (lb := #[.pointer (some ⟨bn, 0, none⟩), .pointer (some ⟨bf, 0, none⟩)]) rfl trivial (enters_of Tryz.func105 (by kernel_rfl) rfl)
    (near_stops 7 (by omega) f s r cc q1 q2 q3 q4 bn bf w3 n1 n2) KeepN.trans (fun W l o o' _ h hc _ => KeepN.put W l o o' h hc) (Below.refl _ _) (fun _ => rfl)
    (SprI w mb nm base w1.heap.size w3.heap.size f (.slice A nk cp) (r, cc) m o)
    (fun _ _ _ => False)
    (SprI.own w mb nm base w1.heap.size w3.heap.size f (.slice A nk cp) (r, cc) m o hmlt (by omega))
    (fun _ _ _ _ _ hs _ _ => hs)
    ⟨_, e0, e1, e2, e3, e4, hm3, ho3, fun g e => .inl (hl1 g e).2, hB3.mono (by omega), Nat.le_refl _⟩
    (fun x a' W => ∃ Bx, w3.heap.size ≤ Bx ∧ Box W Bx 26 #[.int .i64 (clamp f x).1, .int .i64 (clamp f x).2] ∧ a' = { tmps := #[Value.agg #[.int .i64 f.eye, .int .i64 f.rings, .int .i64 f.sectors, .slice A nk cp], Value.agg #[.int .i64 r, .int .i64 cc], Value.map (some mb), Value.slice oA o.length ocp, Value.pointer (some ⟨w.heap.size, 0, none⟩), Value.pointer (some ⟨w.heap.size + 1, 0, none⟩), Value.pointer (some ⟨w.heap.size + 1 + 1, 0, none⟩), Value.pointer (some ⟨w.heap.size + 1 + 1 + 1, 0, none⟩), Value.slice none 0 0, Value.pointer (some ⟨w1.heap.size, 0, none⟩), Value.pointer (some ⟨Bx, 0, none⟩), undef, undef, Value.agg #[.int .i64 f.eye, .int .i64 f.rings, .int .i64 f.sectors, .slice A nk cp], Value.agg #[.int .i64 r, .int .i64 cc], Value.int .i64 (kat f r cc), Value.bool (kat f r cc != 0), Value.agg #[.int .i64 f.eye, .int .i64 f.rings, .int .i64 f.sectors, .slice A nk cp], Value.agg #[.int .i64 r, .int .i64 cc], Value.func (.func 105) #[] #[Value.pointer (some ⟨bn, 0, none⟩), Value.pointer (some ⟨bf, 0, none⟩)], Value.agg #[.int .i64 (clamp f x).1, .int .i64 (clamp f x).2], undef, undef, undef, undef, undef, undef, undef, undef, undef, undef, undef, undef, undef, undef, undef, undef, undef, undef, undef, undef, undef, undef, undef, undef, undef], defers := [] })
    (fun x a' _ X Y row hs hg hr => by obtain ⟨Bx, h1, h2, h3⟩ := hs; exact ⟨Bx, h1, h2.gr hg hr, h3⟩)
    ?assign ?body ?done ?stop
  case assign =>
    rintro l pre x W K hI hK
    unfold cellV
    gi_wp2_with fail
    exact hK _ _ ((KeepsOthers.alloc _ _).from _) ⟨fun t cs h => h.alloc _, fun t cs h => h.alloc _⟩ ((SprI.own w mb nm base w1.heap.size w3.heap.size f (.slice A nk cp) (r, cc) m o hmlt (by omega)).alloc _ hI) ⟨W.heap.size, hI.size, Box.made _ _ _, rfl⟩
  case done =>
    rintro D xs W hD rfl hI hK
    obtain ⟨ov, b0, b1, b2, b3, b4, hm, ho, hg, hb, hn⟩ := hI
    obtain ⟨oA', ocp', rfl⟩ := own_shape ho
    have g30 : W.cell? ⟨w.heap.size + 1 + 1 + 1, 0, none⟩ = some _ := b3.cell 0
    gi_wp2_with fail
    refine ⟨by simp, .inl ⟨_, _, rfl, run_takeDeferred hK, ?_⟩⟩
    exact ⟨_, results_tmp rfl _ _ _, ⟨_, rfl, hb.trans (belowK_b (w := w) (by omega) W D _ _ (by omega) hK rfl rfl), (hm.mono (by have := (nearTo_len f r cc 4).1; omega)).kept (grownBy_putObj' W D _) (fun e => by cases e; omega),
      ownsRow_putObj ho _ hK rfl⟩⟩
  case stop =>
    rintro D c pre W _ _ h _
    exact h.elim
  case body =>
    rintro l pre x a' W hl ⟨rec, hrec⟩ hI ⟨Bx, hBx, bX, rfl⟩ hlt
    have Hs : sprTo f (r, cc) m o (pre ++ [x]) = sprStep f (kat f r cc != 0) (r, cc) (sprTo f (r, cc) m o pre) (clamp f x) := by simp [sprTo]
    obtain ⟨y1, y2, y3, y4⟩ := clamp_in (f := f) x (by omega) (by omega)
    have hlen := sprTo_len f (r, cc) m o pre
    obtain ⟨ov, b0, b1, b2, b3, b4, hm, ho, hg, hb, hn⟩ := hI
    generalize clamp f x = y at *
    generalize hst : sprTo f (r, cc) m o pre = st at *
    obtain ⟨a, b⟩ := y
    obtain ⟨m1, o1⟩ := st
    dsimp only at *
    have g20 : W.cell? ⟨w.heap.size + 1 + 1, 0, none⟩ = some _ := b2.cell 0
    have gx0 : W.cell? ⟨Bx, 0, none⟩ = some _ := bX.cell 0
    have gx1 : W.cell? ⟨Bx, 1, none⟩ = some _ := bX.cell 1
    have fit : Fit64 (a, b).1 ∧ Fit64 (a, b).2 := ⟨fit_small (by dsimp only; omega) (by dsimp only; omega), fit_small (by dsimp only; omega) (by dsimp only; omega)⟩
    have hmix : Tryz.prog.follows .mixedOrders = true := by kernel_rfl
    have hWs := hb.size
    have hWd : mb ≤ W.drew.heap.size := by show mb ≤ W.heap.size; omega
    have lk := hm.look fit
    unfold cellV at lk
    dsimp only at lk
    cases hk : m1 (a, b) with
    | some v =>
      rw [hk] at lk
      dsimp only [Option.isSome, Option.getD] at lk
      have hend : SprI w mb nm base w1.heap.size w3.heap.size f (.slice A nk cp) (r, cc) m o (pre ++ [x]) W.drew := by
        have e : sprTo f (r, cc) m o (pre ++ [x]) = (m1, o1) := by rw [Hs]; simp [sprStep, hk]
        unfold SprI
        rw [e]
        exact ⟨_, b0, b1, b2, b3, b4, (hm.mono (by simp)).kept (row := none) ⟨rfl, rfl, rfl, Nat.le_refl _, fun _ _ _ => rfl⟩ (by simp), ho, hg, hb.drew, hn⟩
      have Hend := Lib.hid hend
      clear hend b0 b1 b2 b3 b4 hm ho hg hb bX
      gi_wp2_with fail
      gi_region_with_o (refine ⟨trivial, ?_⟩)
      all_goals
        gi_wp2_with fail
        exact ⟨(KeepsOthers.drew W).from _, ⟨fun t cs h => h, fun t cs h => h⟩, Hend.out⟩
    | none =>
      rw [hk] at lk
      dsimp only [Option.isSome, Option.getD] at lk
      have g40 : W.cell? ⟨w1.heap.size, 0, none⟩ = some (.bool (kat f r cc != 0)) := b4.cell 0
      have g00 : W.cell? ⟨w.heap.size, 0, none⟩ = some (.int .i64 f.eye) := b0.cell 0
      have g01 : W.cell? ⟨w.heap.size, 1, none⟩ = some (.int .i64 f.rings) := b0.cell 1
      have g02 : W.cell? ⟨w.heap.size, 2, none⟩ = some (.int .i64 f.sectors) := b0.cell 2
      have g03 : W.cell? ⟨w.heap.size, 3, none⟩ = some (.slice A nk cp) := b0.cell 3
      have hFW : IsFace W mb (.agg #[.int .i64 f.eye, .int .i64 f.rings, .int .i64 f.sectors, .slice A nk cp]) f := hF.mono hb (Nat.le_refl _)
      gi_wp2_with fail
      refine Code.wpIn_mono (Q := fun e a' w' => e = .normal ∧ a' = { tmps := #[Value.agg #[.int .i64 f.eye, .int .i64 f.rings, .int .i64 f.sectors, .slice A nk cp], Value.agg #[.int .i64 r, .int .i64 cc], Value.map (some mb), Value.slice oA o.length ocp, Value.pointer (some ⟨w.heap.size, 0, none⟩), Value.pointer (some ⟨w.heap.size + 1, 0, none⟩), Value.pointer (some ⟨w.heap.size + 1 + 1, 0, none⟩), Value.pointer (some ⟨w.heap.size + 1 + 1 + 1, 0, none⟩), Value.slice none 0 0, Value.pointer (some ⟨w1.heap.size, 0, none⟩), Value.pointer (some ⟨Bx, 0, none⟩), Value.int .i64 0, Value.bool false, Value.agg #[.int .i64 f.eye, .int .i64 f.rings, .int .i64 f.sectors, .slice A nk cp], Value.agg #[.int .i64 r, .int .i64 cc], Value.int .i64 (kat f r cc), Value.bool (kat f r cc != 0), Value.agg #[.int .i64 f.eye, .int .i64 f.rings, .int .i64 f.sectors, .slice A nk cp], Value.agg #[.int .i64 r, .int .i64 cc], Value.func (.func 105) #[] #[Value.pointer (some ⟨bn, 0, none⟩), Value.pointer (some ⟨bf, 0, none⟩)], Value.agg #[.int .i64 a, .int .i64 b], Value.tuple #[.int .i64 0, .bool false], Value.map (some mb), Value.agg #[.int .i64 a, .int .i64 b], Value.tuple #[.int .i64 0, .bool false], Value.int .i64 0, Value.bool false, Value.bool false, Value.bool false, Value.agg #[.int .i64 f.eye, .int .i64 f.rings, .int .i64 f.sectors, .slice A nk cp], Value.agg #[.int .i64 a, .int .i64 b], Value.int .i64 (kat f a b), Value.bool (kat f a b != 0), Value.bool (kat f r cc != 0), Value.bool ((kat f a b != 0) != (kat f r cc != 0)), Value.bool ((kat f a b != 0) != (kat f r cc != 0)), undef, undef, undef, undef, undef, undef, undef, undef, undef, undef], defers := [] } ∧ Below W.heap.size W w') ?_ ?_
      rotate_left
      · gi_region_with_o (first
          | (refine ⟨trivial, (CallsIn.inRound l (callsIn_wide.2 (kindAt_c f (.agg #[.int .i64 f.eye, .int .i64 f.rings, .int .i64 f.sectors, .slice A nk cp]) a b _ (hFW.mono (Below.refl _ _).drew hWd) hv y1 y2 y3 y4))).mono ?_⟩; rintro e w2 ⟨rfl, hb2⟩; have g40b := keepd (W := W.drew) g40 hb2 (by show _ < W.heap.size; omega); have hb2' : Below W.heap.size W w2 := ((Below.refl _ W).drew).trans hb2)
          | (refine ⟨trivial, (CallsIn.inRound l (callsIn_wide.2 (isFurrow_c (kat f a b) _))).mono ?_⟩; rintro e w2' ⟨rfl, rfl⟩))
        all_goals
          exact ⟨rfl, rfl, hb2'⟩
      rintro e a' w2 ⟨rfl, rfl, hb2⟩
      have k0 := b0.later hb2
      have k1 := b1.later hb2
      have k2 := b2.later hb2
      have k3 := b3.later hb2
      have k4 := b4.later hb2
      have kx := bX.later hb2
      have hm2 := hm.later hb2
      have ho2 := own_later ho hb2
      have hbw : Below mb w w2 := hb.trans (hb2.mono (by omega))
      have hl2 : ∀ g, ov.ownBlock = some g → base ≤ g ∧ g < W.heap.size := ho.lt
      have hs2 := hb2.size
      have hmk : KeepN bn bf W w2 := ⟨fun t cs h => h.later hb2, fun t cs h => h.later hb2⟩
      have hkf : KeepsFrom w3.heap.size W w2 := ⟨hb2.size, fun k o _ hk _ => (hb2.block k (Array.getElem?_eq_some_iff.1 hk).1).trans hk⟩
      clear b0 b1 b2 b3 b4 bX hm ho hb hFW g20 gx0 gx1 g40 g00 g01 g02 g03 lk hb2
      cases hne : ((kat f a b != 0) != (kat f r cc != 0)) with
      | true =>
        have hend : SprI w mb nm base w1.heap.size w3.heap.size f (.slice A nk cp) (r, cc) m o (pre ++ [x]) w2 := by
          have e : sprTo f (r, cc) m o (pre ++ [x]) = (m1, o1) := by rw [Hs]; simp only [sprStep, hk]; rw [hne]; rfl
          unfold SprI
          rw [e]
          exact ⟨_, k0, k1, k2, k3, k4, hm2.mono (by simp), ho2, hg, hbw, by omega⟩
        have Hend := Lib.hid hend
        clear hend k0 k1 k2 k3 k4 hm2 ho2 hg hbw kx
        gi_wp2_with fail
        exact ⟨hkf, hmk, Hend.out⟩
      | false =>
        have g10 : w2.cell? ⟨w.heap.size + 1, 0, none⟩ = some (.int .i64 r) := k1.cell 0
        have g11 : w2.cell? ⟨w.heap.size + 1, 1, none⟩ = some (.int .i64 cc) := k1.cell 1
        have g20 : w2.cell? ⟨w.heap.size + 1 + 1, 0, none⟩ = some (.map (some mb)) := k2.cell 0
        have gx0 : w2.cell? ⟨Bx, 0, none⟩ = some (.int .i64 a) := kx.cell 0
        have gx1 : w2.cell? ⟨Bx, 1, none⟩ = some (.int .i64 b) := kx.cell 1
        have fitc : Fit64 (r, cc).1 ∧ Fit64 (r, cc).2 := ⟨fit_small (by dsimp only; omega) (by dsimp only; omega), fit_small (by dsimp only; omega) (by dsimp only; omega)⟩
        have lc := hm2.drew.look1 fitc
        unfold cellV at lc
        dsimp only at lc
        obtain ⟨w5, up, hm5, hg5⟩ := hm2.drew.update (by omega) (x := (a, b)) fit (hm2.fit fitc)
        unfold cellV at up
        dsimp only at up
        gi_wp2_with fail
        refine Code.wpIn_mono (Q := fun e a' w' => e = .normal ∧ a' = { tmps := #[Value.agg #[.int .i64 f.eye, .int .i64 f.rings, .int .i64 f.sectors, .slice A nk cp], Value.agg #[.int .i64 r, .int .i64 cc], Value.map (some mb), Value.slice oA o.length ocp, Value.pointer (some ⟨w.heap.size, 0, none⟩), Value.pointer (some ⟨w.heap.size + 1, 0, none⟩), Value.pointer (some ⟨w.heap.size + 1 + 1, 0, none⟩), Value.pointer (some ⟨w.heap.size + 1 + 1 + 1, 0, none⟩), Value.slice none 0 0, Value.pointer (some ⟨w1.heap.size, 0, none⟩), Value.pointer (some ⟨Bx, 0, none⟩), Value.int .i64 0, Value.bool false, Value.agg #[.int .i64 f.eye, .int .i64 f.rings, .int .i64 f.sectors, .slice A nk cp], Value.agg #[.int .i64 r, .int .i64 cc], Value.int .i64 (kat f r cc), Value.bool (kat f r cc != 0), Value.agg #[.int .i64 f.eye, .int .i64 f.rings, .int .i64 f.sectors, .slice A nk cp], Value.agg #[.int .i64 r, .int .i64 cc], Value.func (.func 105) #[] #[Value.pointer (some ⟨bn, 0, none⟩), Value.pointer (some ⟨bf, 0, none⟩)], Value.agg #[.int .i64 a, .int .i64 b], Value.tuple #[.int .i64 0, .bool false], Value.map (some mb), Value.agg #[.int .i64 a, .int .i64 b], Value.tuple #[.int .i64 0, .bool false], Value.int .i64 0, Value.bool false, Value.bool false, Value.bool false, Value.agg #[.int .i64 f.eye, .int .i64 f.rings, .int .i64 f.sectors, .slice A nk cp], Value.agg #[.int .i64 a, .int .i64 b], Value.int .i64 (kat f a b), Value.bool (kat f a b != 0), Value.bool (kat f r cc != 0), Value.bool false, Value.bool false, Value.map (some mb), Value.agg #[.int .i64 a, .int .i64 b], Value.map (some mb), Value.agg #[.int .i64 r, .int .i64 cc], Value.int .i64 ((m1 (r, cc)).getD 0), undef, undef, undef, undef, undef], defers := [] } ∧ w' = w5) ?_ ?_
        rotate_left
        · gi_region_with_o fail
          all_goals exact ⟨rfl, rfl, rfl⟩
        rintro e a' w5' ⟨rfl, rfl, h5⟩
        rw [h5]
        clear h5 w5'
        have j0 : Box w5 w.heap.size _ _ := Box.grown (w := w2.drew) k0 hg5 (by simp; omega)
        have j1 : Box w5 (w.heap.size + 1) _ _ := Box.grown (w := w2.drew) k1 hg5 (by simp; omega)
        have j2 : Box w5 (w.heap.size + 1 + 1) _ _ := Box.grown (w := w2.drew) k2 hg5 (by simp; omega)
        have j3 : Box w5 (w.heap.size + 1 + 1 + 1) _ _ := Box.grown (w := w2.drew) k3 hg5 (by simp; omega)
        have j4 : Box w5 w1.heap.size _ _ := Box.grown (w := w2.drew) k4 hg5 (by simp; omega)
        have jx : Box w5 Bx _ _ := Box.grown (w := w2.drew) kx hg5 (by simp; omega)
        have ho5 : w5.ownsRow base 26 2 ov o1.length (cellRow o1) := World.ownsRow.kept (w := w2.drew) ho2 hg5 (.inr (fun e => by have := (hl2 mb e).1; omega))
        have hs5 : w2.heap.size ≤ w5.heap.size := hg5.size
        have hb5 : Below mb w w5 := hbw.drew.grown hg5 (by show mb ≤ w2.heap.size; omega) (fun k e => by cases e; omega)
        have hmk5 : KeepN bn bf W w5 := hmk.trans ⟨fun t cs h => Box.grown (w := w2.drew) h hg5 (by simp; omega), fun t cs h => Box.grown (w := w2.drew) h hg5 (by simp; omega)⟩
        have hkf5 : KeepsFrom w3.heap.size W w5 := hkf.trans (((KeepsOthers.drew w2).from _).trans (KeepsFrom.of_grownBy hg5 (fun j e => by cases e; omega)))
        clear k0 k1 k2 k3 k4 kx ho2 hbw hmk hkf lc up hm2 g10 g11 g20 gx0 gx1
        have g30 : w5.cell? ⟨w.heap.size + 1 + 1 + 1, 0, none⟩ = some ov := j3.cell 0
        have gx0 : w5.cell? ⟨Bx, 0, none⟩ = some (.int .i64 a) := jx.cell 0
        have gx1 : w5.cell? ⟨Bx, 1, none⟩ = some (.int .i64 b) := jx.cell 1
        obtain ⟨i0, hi, hz0, hz1, hz2⟩ : ∃ i, Tryz.prog.info? 26 = some i ∧ i.zero = some (.agg #[.int .i64 0, .int .i64 0]) ∧ i.size = 2 ∧ i.bytes = 16 := ⟨_, rfl, rfl, rfl, rfl⟩
        have hnews : ∀ (j : Nat) (u : Value), [Value.int .i64 a, .int .i64 b][j]? = some u → (w5.alloc (.cells #[.int .i64 a, .int .i64 b] 26)).cell? ((⟨w5.heap.size, 0, none⟩ : Addr).add j) = some u := fun j u h => by
          have e := Box.made w5 26 #[.int .i64 a, .int .i64 b]
          rcases j with _ | _ | j
          · exact (e.cell 0).trans h
          · exact (e.cell 1).trans h
          · simp at h
        have h1c : ∀ u ∈ [Value.int .i64 a, .int .i64 b], u.oneCell' = true := by intro u hu; simp at hu; rcases hu with rfl | rfl <;> rfl
        have hk1 : o1.length + 1 ≤ maxLen := by unfold maxLen; omega
        have hk2 : (o1.length + 1) * 16 ≤ 140737488355328 := by omega
        have hk3 : base ≤ (w5.alloc (.cells #[.int .i64 a, .int .i64 b] 26)).heap.size := by simp; omega
        have ho6 := ho5.alloc (.cells #[.int .i64 a, .int .i64 b] 26)
        gi_wp2_with (first
          | (gi_at_builtin; refine wpListIn_append_own_at _ rfl _ _ 39 rfl base 26 i0 (.agg #[.int .i64 0, .int .i64 0]) 2 16 Tryz.underlying39 hi hz0 hz1 hz2 rfl (by decide) ov _ _ rfl ho6 ⟨w5.heap.size, 0, none⟩ 1 1 [.int .i64 a, .int .i64 b] rfl rfl hnews h1c hk1 hk2 hk3 ?_; intro v' w7 hown7 hgrow7 _ hblk7; obtain ⟨oB, cB, rfl⟩ := own_shape hown7; have j37 : Box w7 (w.heap.size + 1 + 1 + 1) _ _ := Box.grown (j3.alloc _) hgrow7 (fun e => by have := hg _ e; omega); have g37 := j37.cell 0; have f37 := j37.free 0))
        have hne7 : ∀ q, w.heap.size ≤ q → q < w3.heap.size → ov.ownBlock ≠ some q := fun q h1 h2 e => by have := hg _ e; omega
        have hlm : ∀ k, ov.ownBlock = some k → mb < k := fun k e => by have := (hl2 k e).1; omega
        have hs7 := hgrow7.size
        simp only [World.size_alloc] at hs7
        have hownE : ∀ g, (Value.slice oB (o1.length + 1) cB).ownBlock = some g → g < w.heap.size ∨ w3.heap.size ≤ g := fun g e => by
          rcases hblk7 with h | h
          · exact hg g (by rw [← h, e])
          · rw [h] at e
            simp at e
            omega
        refine ⟨hkf5.trans (((KeepsOthers.alloc _ _).from _).trans (((KeepsOthers.of_grownBy hgrow7 (fun j ob h1 h2 => by
            obtain ⟨cs, fz, hh⟩ := ownsRow_kind ho6 j h1
            rw [hh] at h2; cases h2; rfl)).from _).trans ((KeepsOthers.setCell _ _ _).from _))),
          hmk5.trans ⟨fun t cs h => ((h.alloc _).grown hgrow7 (hne7 bn (by omega) hN1)).far (by dsimp only; omega) _, fun t cs h => ((h.alloc _).grown hgrow7 (hne7 bf (by omega) hN2)).far (by dsimp only; omega) _⟩, ?_⟩
        have e : sprTo f (r, cc) m o (pre ++ [x]) = (fun y => if y = (a, b) then some ((m1 (r, cc)).getD 0) else m1 y, o1 ++ [(a, b)]) := by
          rw [Hs]
          simp only [sprStep, hk]
          rw [hne]
          rfl
        unfold SprI
        rw [e]
        have hrow : cellRow (o1 ++ [(a, b)]) = cellRow o1 ++ [.int .i64 a, .int .i64 b] := cellRow_snoc _ _
        dsimp only
        rw [hrow, List.length_append, List.length_append]
        refine ⟨_, ((j0.alloc _).grown hgrow7 (hne7 _ (by omega) (by omega))).far (by simp; omega) _, ((j1.alloc _).grown hgrow7 (hne7 _ (by omega) (by omega))).far (by simp) _, ((j2.alloc _).grown hgrow7 (hne7 _ (by omega) (by omega))).far (by simp) _, (by simpa using j37.put 0 (.slice oB (o1.length + 1) cB)),
          ((j4.alloc _).grown hgrow7 (hne7 _ (by omega) (by omega))).far (by simp; omega) _, ?_, ?_, hownE, ?_, ?_⟩
        · exact ((((hm5.kept (gb_alloc _ _) (by simp)).kept hgrow7 (fun e => by have := hlm mb e.symm; omega)).kept (grownBy_setCell' _ _ _) (by simp; omega)).mono (by simp; omega))
        · exact hown7.kept (grownBy_setCell' _ _ _) (.inr (fun e => by have := hownE _ e; omega))
        · exact ((hb5.alloc (by omega) _).grown hgrow7 (by simp; omega) (fun k e => by have := hlm k e; omega)).setCell (p := ⟨w.heap.size + 1 + 1 + 1, 0, none⟩) (by simp; omega) _
        · rw [World.size_setCell]; omega

end Go.Proofs.YtpejcdjgggcjlaaGreatDoor

/- The iterator over the neighbours of a cell: its contract, for whatever body. -/
import Derived.RangeFuncNested
import Derived.RangeFuncBound
import Derived.RangeFuncCalls
import Derived.RangeFuncLeaves
import Derived.Shelf.Abstract
import Derived.Shelf.RegionOpen
import Derived.Test.YtpejcdjgggcjlaaGreatDoorC3
import Derived.Test.YtpejcdjgggcjlaaGreatDoorC5
import Derived.Sort.QuietIn
import Derived.Laws.StructEq
import Derived.ChangeKeysEq
import Derived.OwnWalkIn
import Derived.TacticsInMore
import Derived.LoopNIn
import Derived.LoopIn
namespace Go.Proofs.YtpejcdjgggcjlaaGreatDoor
open Go.RowKit Go.Shelf
attribute [local go_sem] Oper.semAt_some

/-- the sector on one side, and that on the other one -/
def lowS (f : Fc) (c : Int) : Int := min (rnd (c - 1) f.sectors) (rnd (c + 1) f.sectors)
def highS (f : Fc) (c : Int) : Int := max (rnd (c - 1) f.sectors) (rnd (c + 1) f.sectors)
/-- what is yielded of the first places -/
def nearA (_f : Fc) (r c : Int) : List (Int × Int) := if 1 ≤ r then [(r - 1, c)] else []
def nearB (f : Fc) (r c : Int) : List (Int × Int) := nearA f r c ++ [(r, lowS f c)]
def nearC (f : Fc) (r c : Int) : List (Int × Int) := nearB f r c ++ if lowS f c = highS f c then [] else [(r, highS f c)]
def nearD (f : Fc) (r c : Int) : List (Int × Int) := nearC f r c ++ if r + 1 < f.rings then [(r + 1, c)] else []
def nearTo (f : Fc) (r c : Int) : Nat → List (Int × Int)
  | 0 => []
  | 1 => nearA f r c
  | 2 => nearB f r c
  | 3 => nearC f r c
  | _ => nearD f r c
/-- the neighbours of a cell -/
def nearL (f : Fc) (r c : Int) : List (Int × Int) := nearTo f r c 4
/-- a cell of a face -/
def InF (f : Fc) (x : Int × Int) : Prop := 0 ≤ x.1 ∧ x.1 < f.rings ∧ 0 ≤ x.2 ∧ x.2 < f.sectors
instance (f : Fc) (x : Int × Int) : Decidable (InF f x) := by unfold InF; infer_instance
/-- a cell, or the first one -/
def clamp (f : Fc) (x : Int × Int) : Int × Int := if InF f x then x else (0, 0)
theorem clamp_of {f : Fc} {x : Int × Int} (h : InF f x) : clamp f x = x := if_pos h
theorem clamp_in {f : Fc} (x : Int × Int) (h1 : 1 ≤ f.rings) (h2 : 1 ≤ f.sectors) : InF f (clamp f x) := by
  unfold clamp
  split
  · assumption
  · exact ⟨by simp, by simp; omega, by simp, by simp; omega⟩
/-- what a round must keep for the iterator: its two blocks -/
def KeepN (bn bf : Nat) (W W' : World) : Prop := (∀ t cs, Box W bn t cs → Box W' bn t cs) ∧ (∀ t cs, Box W bf t cs → Box W' bf t cs)

theorem Tryz.infoInt2 : (Tryz.prog.info? 3).map (fun i => (i.zero, i.size, i.bytes)) = some (some (.int .i64 0), 1, 8) := by kernel_rfl
theorem Tryz.cellsInt : Tryz.prog.cellsOf 3 = 1 := by kernel_rfl
theorem part0 (x y : Value) (w : World) : (part 3 #[x, y] 0).run Tryz.prog w = .ok x w := by kernel_rfl
theorem part1 (x y : Value) (w : World) : (part 3 #[x, y] 1).run Tryz.prog w = .ok y w := by kernel_rfl
theorem eqArr (a b c d : Int) (w : World) : (binOp .eql 116 (.agg #[.int .i64 a, .int .i64 b]) (.agg #[.int .i64 c, .int .i64 d])).run Tryz.prog w = .ok (.bool (a == c && b == d)) w := by
  obtain ⟨i0, hi, _, _, _⟩ := info_parts Tryz.infoInt2
  rw [run_eql_struct, run_equalIn_array (P := Tryz.prog) (w := w) 9999 (i := i0) _ _ Tryz.underlying116 hi, Tryz.cellsInt]
  have e1 := fun (x y : Int) => run_equalIn_int (P := Tryz.prog) (w := w) 9998 3 .i64 .i64 x y Tryz.underlying3
  cases h1 : (a == c) <;> cases h2 : (b == d) <;>
    simp [List.range_succ, Op.eqItems, Sem.run_bind, part0, part1, e1, h1, h2]
theorem idx0 (x0 x1 x2 x3 x4 x5 x6 x7 : Value) (w : World) : (Instr.index 117 (.agg #[x0, x1, x2, x3, x4, x5, x6, x7]) (.int .i64 0)).run Tryz.prog w = .ok (.agg #[x0, x1]) w := by kernel_rfl
theorem idx1 (x0 x1 x2 x3 x4 x5 x6 x7 : Value) (w : World) : (Instr.index 117 (.agg #[x0, x1, x2, x3, x4, x5, x6, x7]) (.int .i64 1)).run Tryz.prog w = .ok (.agg #[x2, x3]) w := by kernel_rfl
theorem idx2 (x0 x1 x2 x3 x4 x5 x6 x7 : Value) (w : World) : (Instr.index 117 (.agg #[x0, x1, x2, x3, x4, x5, x6, x7]) (.int .i64 2)).run Tryz.prog w = .ok (.agg #[x4, x5]) w := by kernel_rfl
theorem idx3 (x0 x1 x2 x3 x4 x5 x6 x7 : Value) (w : World) : (Instr.index 117 (.agg #[x0, x1, x2, x3, x4, x5, x6, x7]) (.int .i64 3)).run Tryz.prog w = .ok (.agg #[x6, x7]) w := by kernel_rfl

theorem nearTo_len (f : Fc) (r c : Int) (k : Nat) : (nearTo f r c k).length ≤ 4 ∧ (k ≤ 3 → (nearTo f r c k).length ≤ k) := by
  have e1 : (nearA f r c).length ≤ 1 := by unfold nearA; split <;> simp
  have e2 : (nearB f r c).length ≤ 2 := by unfold nearB; rw [List.length_append]; simp; omega
  have e3 : (nearC f r c).length ≤ 3 := by unfold nearC; rw [List.length_append]; split <;> simp <;> omega
  have e4 : (nearD f r c).length ≤ 4 := by unfold nearD; rw [List.length_append]; split <;> simp <;> omega
  match k with
  | 0 => exact ⟨by simp [nearTo], fun _ => by simp [nearTo]⟩
  | 1 => exact ⟨by show (nearA f r c).length ≤ 4; omega, fun _ => e1⟩
  | 2 => exact ⟨by show (nearB f r c).length ≤ 4; omega, fun _ => e2⟩
  | 3 => exact ⟨by show (nearC f r c).length ≤ 4; omega, fun _ => e3⟩
  | k + 4 => exact ⟨e4, fun h => by omega⟩
theorem nearTo_pre (f : Fc) (r c : Int) (k : Nat) : nearTo f r c k <+: nearTo f r c 4 := by
  have e4 : nearC f r c <+: nearD f r c := List.prefix_append _ _
  have e3 : nearB f r c <+: nearC f r c := List.prefix_append _ _
  have e2 : nearA f r c <+: nearB f r c := List.prefix_append _ _
  match k with
  | 0 => exact List.nil_prefix
  | 1 => exact (e2.trans e3).trans e4
  | 2 => exact e3.trans e4
  | 3 => exact e4
  | k + 4 => exact List.prefix_rfl
theorem Box.drewN {w : World} {g : Nat} {t : TypeId} {cs : Array Value} (h : Box w g t cs) (n : Nat) : Box (w.drewN n) g t cs := h
theorem gb_drewN (w : World) (n : Nat) : w.grownBy (w.drewN n) none := ⟨rfl, rfl, rfl, Nat.le_refl _, fun _ _ _ => rfl⟩
theorem gb_alloc (w : World) (o : Obj) : w.grownBy (w.alloc o) none :=
  have h := (Below.refl w.heap.size w).alloc (Nat.le_refl _) o
  ⟨h.os, h.tape, h.output, h.size, fun i hi _ => h.block i hi⟩

set_option maxRecDepth 100000 in
set_option maxHeartbeats 4000000 in
theorem near1_in (n : Nat) (hn : 2 ≤ n) (f : Fc) (s : Value) (r c : Int) (hr1 : 0 ≤ r) (hr2 : r < f.rings) (hc1 : 0 ≤ c) (hc2 : c < f.sectors) (l bn bf : Nat) (J Jx : List (Int × Int) → World → Prop) (W0 : Nat) (hJ : AbidesFrom W0 J)
    (hY : ∀ pre x W, J pre W → pre.length < 4 → YieldAt Fence.wide (n - 1) Tryz.prog l #[cellV (clamp f x)] W fun e W' =>
      (e = .returned (.bool true) ∧ J (pre ++ [x]) W' ∧ KeepN bn bf W W') ∨ (e = .returned (.bool false) ∧ Jx (pre ++ [x]) W'))
    (W : World)
    (h1 : Box W bn 117 #[.int .i64 (r - 1), .int .i64 c, .int .i64 r, .int .i64 (lowS f c), .int .i64 r, .int .i64 (highS f c), .int .i64 (r + 1), .int .i64 c])
    (h2 : Box W bf 24 #[.int .i64 f.eye, .int .i64 f.rings, .int .i64 f.sectors, s])
    (h0 : J [] W) :
    CallsIn Fence.wide n Tryz.prog 105 #[.func (.yield l) #[] #[], .pointer (some ⟨bn, 0, none⟩), .pointer (some ⟨bf, 0, none⟩)] W fun e W' => (∃ v, e = .returned v) ∧
      ((∃ ys, ys = nearTo f r c 4 ∧ J ys W') ∨ (∃ pre, pre <+: nearTo f r c 4 ∧ Jx pre W')) := by
  have g0 : W.cell? ⟨bn, 0, none⟩ = some (.int .i64 (r - 1)) := h1.cell 0
  have g1 : W.cell? ⟨bn, 1, none⟩ = some (.int .i64 (c)) := h1.cell 1
  have g2 : W.cell? ⟨bn, 2, none⟩ = some (.int .i64 (r)) := h1.cell 2
  have g3 : W.cell? ⟨bn, 3, none⟩ = some (.int .i64 (lowS f c)) := h1.cell 3
  have g4 : W.cell? ⟨bn, 4, none⟩ = some (.int .i64 (r)) := h1.cell 4
  have g5 : W.cell? ⟨bn, 5, none⟩ = some (.int .i64 (highS f c)) := h1.cell 5
  have g6 : W.cell? ⟨bn, 6, none⟩ = some (.int .i64 (r + 1)) := h1.cell 6
  have g7 : W.cell? ⟨bn, 7, none⟩ = some (.int .i64 (c)) := h1.cell 7
  obtain ⟨z1, z2⟩ := rnd_bd (a := c - 1) (s := f.sectors) (by omega)
  obtain ⟨z3, z4⟩ := rnd_bd (a := c + 1) (s := f.sectors) (by omega)
  have hlo : 0 ≤ lowS f c ∧ lowS f c < f.sectors := by unfold lowS; omega
  have hhi : 0 ≤ highS f c ∧ highS f c < f.sectors := by unfold highS; omega
  obtain ⟨lo1, lo2⟩ := hlo
  obtain ⟨hi1, hi2⟩ := hhi
  clear z1 z2 z3 z4
  refine callsIn_of_wp Tryz.func105 rfl trivial ?_ rfl
  simp only [Tryz.ntmps105, List.size_toArray, List.length_cons, List.length_nil, Nat.reduceAdd, Nat.reduceSub, Array.replicate_succ, Array.replicate_zero, List.push_toArray, List.append_toArray, List.nil_append, List.cons_append]
  gi_wp2_with fail
  clear g0 g1 g2 g3 g4 g5 g6 g7
  gi_loopw [7] (fun i wr => ∃ k : Nat, k ≤ 4 ∧ i = .int .i64 (k : Int) ∧ J (nearTo f r c k) wr ∧ Box wr bn 117 #[.int .i64 (r - 1), .int .i64 c, .int .i64 r, .int .i64 (lowS f c), .int .i64 r, .int .i64 (highS f c), .int .i64 (r + 1), .int .i64 c] ∧ Box wr bf 24 #[.int .i64 f.eye, .int .i64 f.rings, .int .i64 f.sectors, s]) (fun i _ => 4 - (intOf i).toNat)
  case atStart => exact ⟨0, by omega, rfl, h0, h1, h2⟩
  case round =>
    clear h0 h1 h2
    obtain ⟨k, hk, rfl, hj, h1, h2⟩ := hrel
    have hcase : k = 0 ∨ k = 1 ∨ k = 2 ∨ k = 3 ∨ k = 4 := by omega
    rcases hcase with rfl | rfl | rfl | rfl | rfl
    · by_cases hc : 1 ≤ r
      · have t1 : ¬ r - 1 < 0 := by omega
        have t2 : ¬ f.rings ≤ r - 1 := by omega
        have q1 : ∀ o : Obj, (wr.alloc o).cell? ⟨bf, 1, none⟩ = some (.int .i64 f.rings) := fun o => (h2.alloc o).cell 1
        have ix := idx0
        have eqa := eqArr
        rw [show ((0 : Nat) : Int) = 0 from rfl]
        have Hs := Lib.hid (show nearTo f r c 1 = nearTo f r c 0 ++ [(r - 1, c)] by simp [nearTo, nearA, hc])
        have hj' := hJ _ _ (wr.alloc (.cells #[.int .i64 (r - 1), .int .i64 (c)] 116)) none hj (gb_alloc _ _) (fun r e => by cases e)
        gi_wp2_with fail
        gi_quiet (fail)
        rename_i nq
        have hj2 := hJ _ _ _ none hj' (gb_drewN _ nq) (fun r e => by cases e)
        obtain ⟨fn, tmps, assign, body, hy, hR⟩ := hY _ (r - 1, c) _ hj2 (by have := nearTo_len f r c 0; omega)
        rw [clamp_of ⟨by dsimp only; omega, by dsimp only; omega, by dsimp only; omega, by dsimp only; omega⟩] at hy
        unfold cellV at hy
        dsimp only at hy
        gi_wp2_with fail
        refine ⟨fun _ => by omega, hR.mono ?_⟩
        rintro e W3 (⟨rfl, hJ3, hk3⟩ | ⟨rfl, hJx3⟩)
        · have b1 := hk3.1 _ _ (Box.drewN (h1.alloc (.cells #[.int .i64 (r - 1), .int .i64 (c)] 116)) nq)
          have b2 := hk3.2 _ _ (Box.drewN (h2.alloc (.cells #[.int .i64 (r - 1), .int .i64 (c)] 116)) nq)
          gi_wp2_with fail
          go_roundw
          case rel => exact ⟨1, by omega, rfl, by rw [Hs.out]; exact hJ3, b1, b2⟩
          case measure => simp [intOf]
        · gi_wp2_with fail
          refine bodyPost_ret (results_none rfl _ _ _) rfl ?_
          exact ⟨⟨_, rfl⟩, .inr ⟨_, nearTo_pre f r c 1, by rw [Hs.out]; exact hJx3⟩⟩
      · have t1 : r - 1 < 0 := by omega
        have q1 : ∀ o : Obj, (wr.alloc o).cell? ⟨bf, 1, none⟩ = some (.int .i64 f.rings) := fun o => (h2.alloc o).cell 1
        have ix := idx0
        have eqa := eqArr
        rw [show ((0 : Nat) : Int) = 0 from rfl]
        have Hs := Lib.hid (show nearTo f r c 1 = nearTo f r c 0 by simp [nearTo, nearA, hc])
        have hj' := hJ _ _ (wr.alloc (.cells #[.int .i64 (r - 1), .int .i64 (c)] 116)) none hj (gb_alloc _ _) (fun r e => by cases e)
        gi_wp2_with fail
        go_roundw
        case rel => exact ⟨1, by omega, rfl, by rw [Hs.out]; exact hj', h1.alloc _, h2.alloc _⟩
        case measure => simp [intOf]
    · have t1 : ¬ r < 0 := by omega
      have t2 : ¬ f.rings ≤ r := by omega
      have t3 : (r == r - 1) = false := by simp; omega
      have g0 : ∀ o : Obj, (wr.alloc o).cell? ⟨bn, 0, none⟩ = some (.int .i64 (r - 1)) := fun o => (h1.alloc o).cell 0
      have g1 : ∀ o : Obj, (wr.alloc o).cell? ⟨bn, 1, none⟩ = some (.int .i64 (c)) := fun o => (h1.alloc o).cell 1
      have q1 : ∀ o : Obj, (wr.alloc o).cell? ⟨bf, 1, none⟩ = some (.int .i64 f.rings) := fun o => (h2.alloc o).cell 1
      have ix := idx1
      have eqa := eqArr
      rw [show ((1 : Nat) : Int) = 1 from rfl]
      have Hs := Lib.hid (show nearTo f r c 2 = nearTo f r c 1 ++ [(r, lowS f c)] by rfl)
      have hj' := hJ _ _ (wr.alloc (.cells #[.int .i64 (r), .int .i64 (lowS f c)] 116)) none hj (gb_alloc _ _) (fun r e => by cases e)
      gi_wp2_with fail
      gi_quiet (fail)
      rename_i nq
      have hj2 := hJ _ _ _ none hj' (gb_drewN _ nq) (fun r e => by cases e)
      obtain ⟨fn, tmps, assign, body, hy, hR⟩ := hY _ (r, lowS f c) _ hj2 (by have := nearTo_len f r c 1; omega)
      rw [clamp_of ⟨by dsimp only; omega, by dsimp only; omega, by dsimp only; omega, by dsimp only; omega⟩] at hy
      unfold cellV at hy
      dsimp only at hy
      gi_wp2_with fail
      refine ⟨fun _ => by omega, hR.mono ?_⟩
      rintro e W3 (⟨rfl, hJ3, hk3⟩ | ⟨rfl, hJx3⟩)
      · have b1 := hk3.1 _ _ (Box.drewN (h1.alloc (.cells #[.int .i64 (r), .int .i64 (lowS f c)] 116)) nq)
        have b2 := hk3.2 _ _ (Box.drewN (h2.alloc (.cells #[.int .i64 (r), .int .i64 (lowS f c)] 116)) nq)
        gi_wp2_with fail
        go_roundw
        case rel => exact ⟨2, by omega, rfl, by rw [Hs.out]; exact hJ3, b1, b2⟩
        case measure => simp [intOf]
      · gi_wp2_with fail
        refine bodyPost_ret (results_none rfl _ _ _) rfl ?_
        exact ⟨⟨_, rfl⟩, .inr ⟨_, nearTo_pre f r c 2, by rw [Hs.out]; exact hJx3⟩⟩
    · have t1 : ¬ r < 0 := by omega
      have t2 : ¬ f.rings ≤ r := by omega
      have t4 : (r == r) = true := by simp
      by_cases hc : lowS f c = highS f c
      · have t3 : (highS f c == lowS f c) = true := by simp [hc]
        have g2 : ∀ o : Obj, (wr.alloc o).cell? ⟨bn, 2, none⟩ = some (.int .i64 (r)) := fun o => (h1.alloc o).cell 2
        have g3 : ∀ o : Obj, (wr.alloc o).cell? ⟨bn, 3, none⟩ = some (.int .i64 (lowS f c)) := fun o => (h1.alloc o).cell 3
        have q1 : ∀ o : Obj, (wr.alloc o).cell? ⟨bf, 1, none⟩ = some (.int .i64 f.rings) := fun o => (h2.alloc o).cell 1
        have ix := idx2
        have eqa := eqArr
        rw [show ((2 : Nat) : Int) = 2 from rfl]
        have Hs := Lib.hid (show nearTo f r c 3 = nearTo f r c 2 by simp [nearTo, nearC, hc])
        have hj' := hJ _ _ (wr.alloc (.cells #[.int .i64 (r), .int .i64 (highS f c)] 116)) none hj (gb_alloc _ _) (fun r e => by cases e)
        clear hc
        gi_wp2_with fail
        gi_quiet (fail)
        rename_i nq
        gi_wp2_with fail
        go_roundw
        case rel => exact ⟨3, by omega, rfl, by rw [Hs.out]; exact hJ _ _ _ none hj' (gb_drewN _ nq) (fun r e => by cases e), Box.drewN (h1.alloc _) nq, Box.drewN (h2.alloc _) nq⟩
        case measure => simp [intOf]
      · have t3 : (highS f c == lowS f c) = false := by simp; omega
        have g2 : ∀ o : Obj, (wr.alloc o).cell? ⟨bn, 2, none⟩ = some (.int .i64 (r)) := fun o => (h1.alloc o).cell 2
        have g3 : ∀ o : Obj, (wr.alloc o).cell? ⟨bn, 3, none⟩ = some (.int .i64 (lowS f c)) := fun o => (h1.alloc o).cell 3
        have q1 : ∀ o : Obj, (wr.alloc o).cell? ⟨bf, 1, none⟩ = some (.int .i64 f.rings) := fun o => (h2.alloc o).cell 1
        have ix := idx2
        have eqa := eqArr
        rw [show ((2 : Nat) : Int) = 2 from rfl]
        have Hs := Lib.hid (show nearTo f r c 3 = nearTo f r c 2 ++ [(r, highS f c)] by simp [nearTo, nearC, hc])
        have hj' := hJ _ _ (wr.alloc (.cells #[.int .i64 (r), .int .i64 (highS f c)] 116)) none hj (gb_alloc _ _) (fun r e => by cases e)
        gi_wp2_with fail
        gi_quiet (fail)
        rename_i nq
        have hj2 := hJ _ _ _ none hj' (gb_drewN _ nq) (fun r e => by cases e)
        obtain ⟨fn, tmps, assign, body, hy, hR⟩ := hY _ (r, highS f c) _ hj2 (by have := nearTo_len f r c 2; omega)
        rw [clamp_of ⟨by dsimp only; omega, by dsimp only; omega, by dsimp only; omega, by dsimp only; omega⟩] at hy
        unfold cellV at hy
        dsimp only at hy
        gi_wp2_with fail
        refine ⟨fun _ => by omega, hR.mono ?_⟩
        rintro e W3 (⟨rfl, hJ3, hk3⟩ | ⟨rfl, hJx3⟩)
        · have b1 := hk3.1 _ _ (Box.drewN (h1.alloc (.cells #[.int .i64 (r), .int .i64 (highS f c)] 116)) nq)
          have b2 := hk3.2 _ _ (Box.drewN (h2.alloc (.cells #[.int .i64 (r), .int .i64 (highS f c)] 116)) nq)
          gi_wp2_with fail
          go_roundw
          case rel => exact ⟨3, by omega, rfl, by rw [Hs.out]; exact hJ3, b1, b2⟩
          case measure => simp [intOf]
        · gi_wp2_with fail
          refine bodyPost_ret (results_none rfl _ _ _) rfl ?_
          exact ⟨⟨_, rfl⟩, .inr ⟨_, nearTo_pre f r c 3, by rw [Hs.out]; exact hJx3⟩⟩
    · have t1 : ¬ r + 1 < 0 := by omega
      by_cases hc : r + 1 < f.rings
      · have t2 : ¬ f.rings ≤ r + 1 := by omega
        have t3 : (r + 1 == r) = false := by simp; omega
        have g4 : ∀ o : Obj, (wr.alloc o).cell? ⟨bn, 4, none⟩ = some (.int .i64 (r)) := fun o => (h1.alloc o).cell 4
        have g5 : ∀ o : Obj, (wr.alloc o).cell? ⟨bn, 5, none⟩ = some (.int .i64 (highS f c)) := fun o => (h1.alloc o).cell 5
        have q1 : ∀ o : Obj, (wr.alloc o).cell? ⟨bf, 1, none⟩ = some (.int .i64 f.rings) := fun o => (h2.alloc o).cell 1
        have ix := idx3
        have eqa := eqArr
        rw [show ((3 : Nat) : Int) = 3 from rfl]
        have Hs := Lib.hid (show nearTo f r c 4 = nearTo f r c 3 ++ [(r + 1, c)] by simp [nearTo, nearD, hc])
        have hj' := hJ _ _ (wr.alloc (.cells #[.int .i64 (r + 1), .int .i64 (c)] 116)) none hj (gb_alloc _ _) (fun r e => by cases e)
        gi_wp2_with fail
        gi_quiet (fail)
        rename_i nq
        have hj2 := hJ _ _ _ none hj' (gb_drewN _ nq) (fun r e => by cases e)
        obtain ⟨fn, tmps, assign, body, hy, hR⟩ := hY _ (r + 1, c) _ hj2 (by have := nearTo_len f r c 3; omega)
        rw [clamp_of ⟨by dsimp only; omega, by dsimp only; omega, by dsimp only; omega, by dsimp only; omega⟩] at hy
        unfold cellV at hy
        dsimp only at hy
        gi_wp2_with fail
        refine ⟨fun _ => by omega, hR.mono ?_⟩
        rintro e W3 (⟨rfl, hJ3, hk3⟩ | ⟨rfl, hJx3⟩)
        · have b1 := hk3.1 _ _ (Box.drewN (h1.alloc (.cells #[.int .i64 (r + 1), .int .i64 (c)] 116)) nq)
          have b2 := hk3.2 _ _ (Box.drewN (h2.alloc (.cells #[.int .i64 (r + 1), .int .i64 (c)] 116)) nq)
          gi_wp2_with fail
          go_roundw
          case rel => exact ⟨4, by omega, rfl, by rw [Hs.out]; exact hJ3, b1, b2⟩
          case measure => simp [intOf]
        · gi_wp2_with fail
          refine bodyPost_ret (results_none rfl _ _ _) rfl ?_
          exact ⟨⟨_, rfl⟩, .inr ⟨_, nearTo_pre f r c 4, by rw [Hs.out]; exact hJx3⟩⟩
      · have t2 : f.rings ≤ r + 1 := by omega
        have g4 : ∀ o : Obj, (wr.alloc o).cell? ⟨bn, 4, none⟩ = some (.int .i64 (r)) := fun o => (h1.alloc o).cell 4
        have g5 : ∀ o : Obj, (wr.alloc o).cell? ⟨bn, 5, none⟩ = some (.int .i64 (highS f c)) := fun o => (h1.alloc o).cell 5
        have q1 : ∀ o : Obj, (wr.alloc o).cell? ⟨bf, 1, none⟩ = some (.int .i64 f.rings) := fun o => (h2.alloc o).cell 1
        have ix := idx3
        have eqa := eqArr
        rw [show ((3 : Nat) : Int) = 3 from rfl]
        have Hs := Lib.hid (show nearTo f r c 4 = nearTo f r c 3 by simp [nearTo, nearD, hc])
        have hj' := hJ _ _ (wr.alloc (.cells #[.int .i64 (r + 1), .int .i64 (c)] 116)) none hj (gb_alloc _ _) (fun r e => by cases e)
        gi_wp2_with fail
        go_roundw
        case rel => exact ⟨4, by omega, rfl, by rw [Hs.out]; exact hj', h1.alloc _, h2.alloc _⟩
        case measure => simp [intOf]
    · rw [show ((4 : Nat) : Int) = 4 from rfl]
      gi_wp2_with fail
      go_end0
      exact ⟨⟨_, rfl⟩, .inl ⟨_, rfl, hj⟩⟩

theorem KeepN.trans {bn bf : Nat} {A B C : World} (h : KeepN bn bf A B) (k : KeepN bn bf B C) : KeepN bn bf A C := ⟨fun t cs x => k.1 t cs (h.1 t cs x), fun t cs x => k.2 t cs (h.2 t cs x)⟩
theorem KeepN.put {bn bf : Nat} (W : World) (l : Nat) (o o' : Obj) (h : W.heap[l]? = some o) (hc : o.isCells = false) : KeepN bn bf W (W.putObj l o') := by
  have hk : ∀ g t cs, Box W g t cs → Box (W.putObj l o') g t cs := fun g t cs hb => by
    have hne : g ≠ l := by
      rintro rfl
      unfold Box at hb
      rw [h] at hb
      injection hb with hb
      subst hb
      simp [Obj.isCells] at hc
    exact ((grownBy_putObj' W l o').block g hb.lt (by simpa using hne)).trans hb
  exact ⟨hk bn, hk bf⟩

/-- THE CONTRACT of the iterator over the neighbours of a cell. -/
theorem near_stops (n : Nat) (hn : 2 ≤ n) (f : Fc) (s : Value) (r c : Int) (hr1 : 0 ≤ r) (hr2 : r < f.rings) (hc1 : 0 ≤ c) (hc2 : c < f.sectors) (bn bf : Nat) (w : World)
    (h1 : Box w bn 117 #[.int .i64 (r - 1), .int .i64 c, .int .i64 r, .int .i64 (lowS f c), .int .i64 r, .int .i64 (highS f c), .int .i64 (r + 1), .int .i64 c])
    (h2 : Box w bf 24 #[.int .i64 f.eye, .int .i64 f.rings, .int .i64 f.sectors, s]) :
    SeqStopsK Fence.wide n Tryz.prog 105 #[.pointer (some ⟨bn, 0, none⟩), .pointer (some ⟨bf, 0, none⟩)] (fun x => #[cellV (clamp f x)]) (KeepN bn bf) (fun xs => xs = nearTo f r c 4) (fun pre => pre <+: nearTo f r c 4) 4 w :=
  fun l J Jx W hW hJ _ hY h0 => near1_in n hn f s r c hr1 hr2 hc1 hc2 l bn bf J Jx W.heap.size hJ hY W (h1.later hW) (h2.later hW) h0

end Go.Proofs.YtpejcdjgggcjlaaGreatDoor

/- Prices that are to be paid: their rows are made. -/
import Derived.Test.YtfafjojoapcliaaS11
import Derived.Deep.RegionHeld3
namespace Go.Proofs.Ytfafjojoapcliaa
open Go.RowKit

/-- prices in memory that are being paid -/
structure Pb (W : World) (xb g1 g2 n : Nat) (l h : List Int) : Prop where
  box : Box W xb 35 #[.slice (some ⟨g1, 0, none⟩) n n, .slice (some ⟨g2, 0, none⟩) n n]
  r1 : Row W g1 l
  r2 : Row W g2 h
  l1 : l.length = n
  l2 : h.length = n
  d1 : xb ≠ g1
  d2 : xb ≠ g2
  d3 : g1 ≠ g2
theorem row_rep {W : World} {g n : Nat} (h : Box W g 3 (Array.replicate n (.int .i64 0))) : Row W g (List.replicate n 0) := by
  unfold Row
  rw [show (ints (List.replicate n 0)).toArray = Array.replicate n (Value.int .i64 0) by simp [ints]]
  exact h
theorem alloc3 (w1 : World) (cs1 cs2 cs3 : Array Value) (t1 t2 t3 : TypeId) :
    Box (((w1.alloc (.cells cs1 t1)).alloc (.cells cs2 t2)).alloc (.cells cs3 t3)).drew w1.heap.size t1 cs1 ∧ Box (((w1.alloc (.cells cs1 t1)).alloc (.cells cs2 t2)).alloc (.cells cs3 t3)).drew (w1.heap.size + 1) t2 cs2 ∧
    Box (((w1.alloc (.cells cs1 t1)).alloc (.cells cs2 t2)).alloc (.cells cs3 t3)).drew (w1.heap.size + 1 + 1) t3 cs3 ∧ Below w1.heap.size w1 (((w1.alloc (.cells cs1 t1)).alloc (.cells cs2 t2)).alloc (.cells cs3 t3)).drew := by
  have b1 := Box.made w1 t1 cs1
  have b2 := Box.made (w1.alloc (.cells cs1 t1)) t2 cs2
  have b3 := Box.made ((w1.alloc (.cells cs1 t1)).alloc (.cells cs2 t2)) t3 cs3
  rw [World.size_alloc] at b2
  rw [World.size_alloc, World.size_alloc] at b3
  exact ⟨(b1.alloc _).alloc _, b2.alloc _, b3, ((((Below.refl _ _).alloc (Nat.le_refl _) _).alloc (by simp) _).alloc (by simp; omega) _).drew⟩

set_option maxRecDepth 100000 in
set_option maxHeartbeats 8000000 in
theorem pay1_c (w1 : World) (n : Nat) (hn : n ≤ 1000) (Q : Exit → Act → World → Prop) (x1 x2 x3 x4 x5 x6 x7 x8 x9 x10 x11 x12 x13 x14 x15 x16 x17 x18 x19 x20 x21 x22 x23 x24 x25 x26 x27 x28 x29 x30 x31 x32 x33 x34 x35 x36 x37 x38 x39 x40 x41 x42 x43 x44 x45 x46 x47 x48 x49 : Value)
    (hQ : ∀ (xb g1 g2 : Nat) (y12 y13 y14 y15 y16 : Value) (W : World), Pb W xb g1 g2 n (List.replicate n 0) (List.replicate n 0) → w1.heap.size ≤ xb → w1.heap.size ≤ g1 → w1.heap.size ≤ g2 → Below w1.heap.size w1 W → Q .normal { tmps := #[.int .i64 (n : Int), x1, x2, x3, x4, x5, x6, x7, x8, .pointer (some ⟨xb, 0, none⟩), x10, x11, y12, y13, y14, y15, y16, x17, x18, x19, x20, x21, x22, x23, x24, x25, x26, x27, x28, x29, x30, x31, x32, x33, x34, x35, x36, x37, x38, x39, x40, x41, x42, x43, x44, x45, x46, x47, x48, x49], defers := [] } W) :
    (Code.region 1 #[{ dst := some 12, op := Op.move (Operand.tmp 0), type := 3, pos := "bounds.go:84", after := #[], guard := none }, { dst := some 13, op := Op.makeSlice 30 (Operand.tmp 12) (Operand.tmp 12), type := 30, pos := "bounds.go:84", after := #[{ on := 0, ground := Ground.data }, { on := 0, ground := Ground.data }], guard := none }, { dst := some 14, op := Op.move (Operand.tmp 0), type := 3, pos := "bounds.go:84", after := #[], guard := none }, { dst := some 15, op := Op.makeSlice 30 (Operand.tmp 14) (Operand.tmp 14), type := 30, pos := "bounds.go:84", after := #[{ on := 2, ground := Ground.data }, { on := 2, ground := Ground.data }], guard := none }, { dst := some 16, op := Op.build 35 #[(0, Operand.tmp 13), (1, Operand.tmp 15)], type := 35, pos := "bounds.go:84", after := #[{ on := 1, ground := Ground.data }, { on := 3, ground := Ground.data }], guard := none }, { dst := some 9, op := Op.alloc 35, type := 0, pos := "bounds.go:84", after := #[], guard := none }, { dst := none, op := Op.store 35 (Operand.tmp 9) (Operand.tmp 16), type := 0, pos := "bounds.go:84", after := #[{ on := 5, ground := Ground.data }, { on := 4, ground := Ground.data }, { on := 0, ground := Ground.phase }, { on := 1, ground := Ground.phase }, { on := 2, ground := Ground.phase }, { on := 3, ground := Ground.phase }, { on := 4, ground := Ground.phase }, { on := 5, ground := Ground.phase }], guard := none }] true).wp Try.prog Q { tmps := #[.int .i64 (n : Int), x1, x2, x3, x4, x5, x6, x7, x8, x9, x10, x11, x12, x13, x14, x15, x16, x17, x18, x19, x20, x21, x22, x23, x24, x25, x26, x27, x28, x29, x30, x31, x32, x33, x34, x35, x36, x37, x38, x39, x40, x41, x42, x43, x44, x45, x46, x47, x48, x49], defers := [] } w1 := by
  have HQ := Lib.hid hQ
  have hmk : ∀ X : World, (Instr.makeSlice 30 (.int .i64 (n : Int)) (.int .i64 (n : Int))).run Try.prog X = .ok (.slice (some ⟨X.heap.size, 0, none⟩) n n) (X.alloc (.cells (Array.replicate n (Value.int .i64 0)) 3)) := fun X => mkInts X n (by omega)
  clear hQ hn
  refine wp_region_noPanic ?_
  go_region
  all_goals
    refine NoPanic.normal ?_
    clear hmk
    first
      | (obtain ⟨h1, h2, h3, h4⟩ := alloc3 w1 _ _ _ _ _ _; exact HQ.out _ _ _ _ _ _ _ _ _ ⟨h1, row_rep h2, row_rep h3, by simp, by simp, by omega, by omega, by omega⟩ (by omega) (by omega) (by omega) h4)
      | (obtain ⟨h1, h2, h3, h4⟩ := alloc3 w1 _ _ _ _ _ _; exact HQ.out _ _ _ _ _ _ _ _ _ ⟨h1, row_rep h3, row_rep h2, by simp, by simp, by omega, by omega, by omega⟩ (by omega) (by omega) (by omega) h4)
      | (obtain ⟨h1, h2, h3, h4⟩ := alloc3 w1 _ _ _ _ _ _; exact HQ.out _ _ _ _ _ _ _ _ _ ⟨h2, row_rep h1, row_rep h3, by simp, by simp, by omega, by omega, by omega⟩ (by omega) (by omega) (by omega) h4)
      | (obtain ⟨h1, h2, h3, h4⟩ := alloc3 w1 _ _ _ _ _ _; exact HQ.out _ _ _ _ _ _ _ _ _ ⟨h2, row_rep h3, row_rep h1, by simp, by simp, by omega, by omega, by omega⟩ (by omega) (by omega) (by omega) h4)
      | (obtain ⟨h1, h2, h3, h4⟩ := alloc3 w1 _ _ _ _ _ _; exact HQ.out _ _ _ _ _ _ _ _ _ ⟨h3, row_rep h1, row_rep h2, by simp, by simp, by omega, by omega, by omega⟩ (by omega) (by omega) (by omega) h4)
      | (obtain ⟨h1, h2, h3, h4⟩ := alloc3 w1 _ _ _ _ _ _; exact HQ.out _ _ _ _ _ _ _ _ _ ⟨h3, row_rep h2, row_rep h1, by simp, by simp, by omega, by omega, by omega⟩ (by omega) (by omega) (by omega) h4)

end Go.Proofs.Ytfafjojoapcliaa

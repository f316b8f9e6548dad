/- The graph of a task: its rows are made. -/
import Derived.Test.YtfafjojoapcliaaR2
import Derived.Deep.RegionHeld3
namespace Go.Proofs.Ytfafjojoapcliaa
open Go.RowKit

theorem gb_rows (w1 : World) (m : Nat) (x y : Nat) (hxy : (x = w1.heap.size ∧ y = w1.heap.size + 1) ∨ (x = w1.heap.size + 1 ∧ y = w1.heap.size)) (W : World) (hW : W = (((w1.alloc (.cells (Array.replicate (m + 1) (Value.int .i64 0)) 3)).alloc (.cells (Array.replicate (m + 1) (Value.int .i64 0)) 3)).alloc (.cells #[.slice none 0 0, .slice (some ⟨x, 0, none⟩) (m + 1) (m + 1), .slice (some ⟨y, 0, none⟩) (m + 1) (m + 1)] 65)).drew) :
    Gb W (w1.heap.size + 2) x y (m + 1) (.slice none 0 0) [] (List.replicate (m + 1) 0) (List.replicate (m + 1) 0) ∧ w1.heap.size ≤ x ∧ w1.heap.size ≤ y ∧ Below w1.heap.size w1 W := by
  have r1 := Row.made w1 (m + 1)
  have r2 := Row.made (w1.alloc (.cells (Array.replicate (m + 1) (Value.int .i64 0)) 3)) (m + 1)
  have b3 := Box.made ((w1.alloc (.cells (Array.replicate (m + 1) (Value.int .i64 0)) 3)).alloc (.cells (Array.replicate (m + 1) (Value.int .i64 0)) 3)) 65 #[.slice none 0 0, .slice (some ⟨x, 0, none⟩) (m + 1) (m + 1), .slice (some ⟨y, 0, none⟩) (m + 1) (m + 1)]
  rw [World.size_alloc] at r2
  rw [World.size_alloc, World.size_alloc] at b3
  have hb : Below w1.heap.size w1 W := by rw [hW]; exact ((((Below.refl _ _).alloc (Nat.le_refl _) _).alloc (by simp) _).alloc (by simp; omega) _).drew
  have r1' : Row W w1.heap.size (List.replicate (m + 1) 0) := by
    rw [hW]; exact (Box.alloc (t := 3) (Box.alloc (t := 3) r1 _) _)
  have r2' : Row W (w1.heap.size + 1) (List.replicate (m + 1) 0) := by
    rw [hW]; exact (Box.alloc (t := 3) r2 _)
  have b3' : Box W (w1.heap.size + 2) 65 #[.slice none 0 0, .slice (some ⟨x, 0, none⟩) (m + 1) (m + 1), .slice (some ⟨y, 0, none⟩) (m + 1) (m + 1)] := by
    rw [hW]; exact b3
  refine ⟨⟨b3', World.ownsRow_nil _ _ _ _, ?_, ?_, by simp, by simp, by omega⟩, by omega, by omega, hb⟩
  · rcases hxy with ⟨rfl, rfl⟩ | ⟨rfl, rfl⟩
    · exact r1'
    · exact r2'
  · rcases hxy with ⟨rfl, rfl⟩ | ⟨rfl, rfl⟩
    · exact r2'
    · exact r1'

set_option maxRecDepth 100000 in
set_option maxHeartbeats 8000000 in
theorem graph2_c (w1 : World) (m : Nat) (hm : m ≤ 1000) (Q : Exit → Act → World → Prop) (x0 x1 x2 x4 x5 x6 x7 x8 x9 x10 x11 x12 x13 x14 x15 x16 x17 x18 x19 x20 x21 x22 x23 x24 x25 x26 x27 x28 x29 x30 x31 x32 x33 x34 x35 x36 x37 x38 x39 x40 x41 x42 x43 x44 x45 x46 x47 x48 x49 x50 x51 x52 x53 x54 x55 x56 x57 x58 x59 x60 x61 x62 x63 x64 : Value)
    (hQ : ∀ (gl gb : Nat) (y13 y14 y15 y16 y17 : Value) (W : World), Gb W (w1.heap.size + 2) gl gb (m + 1) (.slice none 0 0) [] (List.replicate (m + 1) 0) (List.replicate (m + 1) 0) → w1.heap.size ≤ gl → w1.heap.size ≤ gb → Below w1.heap.size w1 W → Q .normal { tmps := #[x0, x1, x2, .int .i64 ((m : Int) + 1), .pointer (some ⟨w1.heap.size + 2, 0, none⟩), x5, x6, x7, x8, x9, x10, x11, x12, y13, y14, y15, y16, y17, .pointer (some ⟨w1.heap.size + 2, 0, none⟩), x19, x20, x21, x22, x23, x24, x25, x26, x27, x28, x29, x30, x31, x32, x33, x34, x35, x36, x37, x38, x39, x40, x41, x42, x43, x44, x45, x46, x47, x48, x49, x50, x51, x52, x53, x54, x55, x56, x57, x58, x59, x60, x61, x62, x63, x64], defers := [] } W) :
    (Code.region 2 #[{ dst := some 13, op := Op.move (Operand.tmp 3), type := 3, pos := "bounds.go:41", after := #[], guard := none }, { dst := some 14, op := Op.makeSlice 30 (Operand.tmp 13) (Operand.tmp 13), type := 30, pos := "bounds.go:41", after := #[{ on := 0, ground := Ground.data }, { on := 0, ground := Ground.data }], guard := none }, { dst := some 15, op := Op.move (Operand.tmp 3), type := 3, pos := "bounds.go:41", after := #[], guard := none }, { dst := some 16, op := Op.makeSlice 30 (Operand.tmp 15) (Operand.tmp 15), type := 30, pos := "bounds.go:41", after := #[{ on := 2, ground := Ground.data }, { on := 2, ground := Ground.data }], guard := none }, { dst := some 17, op := Op.build 65 #[(1, Operand.tmp 14), (2, Operand.tmp 16)], type := 65, pos := "bounds.go:41", after := #[{ on := 1, ground := Ground.data }, { on := 3, ground := Ground.data }], guard := none }, { dst := some 18, op := Op.box 65 (Operand.tmp 17), type := 58, pos := "bounds.go:41", after := #[{ on := 4, ground := Ground.data }], guard := none }, { dst := some 4, op := Op.assign (Operand.tmp 18), type := 58, pos := "bounds.go:41", after := #[{ on := 5, ground := Ground.data }, { on := 0, ground := Ground.phase }, { on := 1, ground := Ground.phase }, { on := 2, ground := Ground.phase }, { on := 3, ground := Ground.phase }, { on := 4, ground := Ground.phase }, { on := 5, ground := Ground.phase }], guard := none }] true).wp Try.prog Q { tmps := #[x0, x1, x2, .int .i64 ((m : Int) + 1), x4, x5, x6, x7, x8, x9, x10, x11, x12, x13, x14, x15, x16, x17, x18, x19, x20, x21, x22, x23, x24, x25, x26, x27, x28, x29, x30, x31, x32, x33, x34, x35, x36, x37, x38, x39, x40, x41, x42, x43, x44, x45, x46, x47, x48, x49, x50, x51, x52, x53, x54, x55, x56, x57, x58, x59, x60, x61, x62, x63, x64], defers := [] } w1 := by
  have HQ := Lib.hid hQ
  have hmk : ∀ X : World, (Instr.makeSlice 30 (.int .i64 ((m : Int) + 1)) (.int .i64 ((m : Int) + 1))).run Try.prog X = .ok (.slice (some ⟨X.heap.size, 0, none⟩) (m + 1) (m + 1)) (X.alloc (.cells (Array.replicate (m + 1) (Value.int .i64 0)) 3)) := fun X => mkInts1 X m (by omega)
  clear hQ hm
  refine wp_region_noPanic ?_
  go_region
  · refine NoPanic.normal ?_
    obtain ⟨h1, h2, h3, h4⟩ := gb_rows w1 m (w1.heap.size) (w1.heap.size + 1) (by omega) _ rfl
    exact HQ.out _ _ _ _ _ _ _ _ h1 h2 h3 h4
  · refine NoPanic.normal ?_
    obtain ⟨h1, h2, h3, h4⟩ := gb_rows w1 m (w1.heap.size + 1) (w1.heap.size) (by omega) _ rfl
    exact HQ.out _ _ _ _ _ _ _ _ h1 h2 h3 h4

end Go.Proofs.Ytfafjojoapcliaa

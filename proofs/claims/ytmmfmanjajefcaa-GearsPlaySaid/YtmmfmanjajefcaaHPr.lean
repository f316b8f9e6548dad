/- Layer 7: a copy of a train: a region by itself. -/
import Derived.Test.YtmmfmanjajefcaaHJr
set_option linter.all false
namespace Go.Proofs.Ytmmfmanjajefcaa
open Go.RowKit

set_option maxRecDepth 100000 in
set_option maxHeartbeats 8000000 in
theorem play12_c (ms : List Mh) (l c bt b1 off1 : Nat) (w1 : World) (Q : Exit → Act → World → Prop) (x0 x1 x2 x3 x5 x6 x7 x8 x9 x10 x11 x12 x13 x14 x15 x16 x17 x18 x19 x20 x21 x22 x23 x24 x25 x26 x27 x28 x29 x30 x31 x32 x33 x34 x35 x36 x37 x38 x39 x40 x41 x42 x43 x44 x45 x46 x47 x48 x49 x50 x51 x52 x53 x54 x55 x56 x57 x58 x59 x60 x61 x62 x63 x64 x65 x66 x67 x68 x69 x70 x71 x72 x73 x74 x75 x76 x77 x78 x79 x80 x81 x82 x83 x84 x85 x86 x87 x88 x89 x90 x91 x92 x93 x94 x95 x96 x97 x98 x99 x100 x101 x102 x103 x104 x105 x106 x107 x108 x109 x110 x111 x112 x113 x114 x115 x116 x117 x118 x119 x120 x121 x122 x123 x124 x125 : Value)
    (hl : ms.length = l)
    (hlb : 1 ≤ l ∧ l ≤ 16)
    (h1 : ∀ (j : Nat) (u : Value), (flat3 ms)[j]? = some u → w1.cell? ((⟨b1, off1, none⟩ : Addr).add j) = some u)
    (hbb : b1 < w1.heap.size)
    (bT : Box w1 bt 35 #[.slice (some ⟨b1, off1, none⟩) l c])
    (hQ : ∀ (g7 c7 : Nat) (y82 y83 y84 y85 y86 : Value) (w7 W : World), w7.ownsRow w1.heap.size 37 3 (.slice (some ⟨g7, 0, none⟩) l c7) l (flat3 ms) → (w1.heap.size ≤ g7 ∧ g7 < w7.heap.size) → Below w1.heap.size w1 w7 → W = w7.alloc (.cells #[.slice (some ⟨g7, 0, none⟩) l c7] 35) → Q .normal { tmps := #[x0, x1, x2, x3, .pointer (some ⟨bt, 0, none⟩), x5, x6, x7, x8, x9, x10, x11, x12, x13, .pointer (some ⟨w7.heap.size, 0, none⟩), x15, x16, x17, x18, x19, x20, x21, x22, x23, x24, x25, x26, x27, x28, x29, x30, x31, x32, x33, x34, x35, x36, x37, x38, x39, x40, x41, x42, x43, x44, x45, x46, x47, x48, x49, x50, x51, x52, x53, x54, x55, x56, x57, x58, x59, x60, x61, x62, x63, x64, x65, x66, x67, x68, x69, x70, x71, x72, x73, x74, x75, x76, x77, x78, x79, x80, x81, y82, y83, y84, y85, y86, x87, x88, x89, x90, x91, x92, x93, x94, x95, x96, x97, x98, x99, x100, x101, x102, x103, x104, x105, x106, x107, x108, x109, x110, x111, x112, x113, x114, x115, x116, x117, x118, x119, x120, x121, x122, x123, x124, x125], defers := [] } W) :
    (Code.region 12 #[{ dst := some 82, op := Op.buildSlice 33 0 #[], type := 33, pos := "theorems.go:169", after := #[], guard := none }, { dst := some 83, op := Op.fieldAddr 35 (Operand.tmp 4) 0, type := 0, pos := "theorems.go:169", after := #[], guard := none }, { dst := some 84, op := Op.load 33 (Operand.tmp 83), type := 33, pos := "theorems.go:169", after := #[{ on := 1, ground := Ground.data }], guard := none }, { dst := some 85, op := Op.call { callee := Callee.builtin Builtin.append, args := #[Operand.tmp 82, Operand.tmp 84], argTypes := #[33, 33] }, type := 33, pos := "theorems.go:169", after := #[{ on := 0, ground := Ground.data }, { on := 2, ground := Ground.data }], guard := none }, { dst := some 86, op := Op.build 35 #[(0, Operand.tmp 85)], type := 35, pos := "theorems.go:169", after := #[{ on := 3, ground := Ground.data }], guard := none }, { dst := some 14, op := Op.alloc 35, type := 0, pos := "theorems.go:169", after := #[], guard := none }, { dst := none, op := Op.store 35 (Operand.tmp 14) (Operand.tmp 86), type := 0, pos := "theorems.go:169", after := #[{ on := 5, ground := Ground.data }, { on := 4, ground := Ground.data }, { on := 3, ground := Ground.chain }, { on := 0, ground := Ground.phase }, { on := 1, ground := Ground.phase }, { on := 2, ground := Ground.phase }, { on := 3, ground := Ground.phase }, { on := 4, ground := Ground.phase }, { on := 5, ground := Ground.phase }], guard := none }] false).wp Try.prog Q { tmps := #[x0, x1, x2, x3, .pointer (some ⟨bt, 0, none⟩), x5, x6, x7, x8, x9, x10, x11, x12, x13, x14, x15, x16, x17, x18, x19, x20, x21, x22, x23, x24, x25, x26, x27, x28, x29, x30, x31, x32, x33, x34, x35, x36, x37, x38, x39, x40, x41, x42, x43, x44, x45, x46, x47, x48, x49, x50, x51, x52, x53, x54, x55, x56, x57, x58, x59, x60, x61, x62, x63, x64, x65, x66, x67, x68, x69, x70, x71, x72, x73, x74, x75, x76, x77, x78, x79, x80, x81, x82, x83, x84, x85, x86, x87, x88, x89, x90, x91, x92, x93, x94, x95, x96, x97, x98, x99, x100, x101, x102, x103, x104, x105, x106, x107, x108, x109, x110, x111, x112, x113, x114, x115, x116, x117, x118, x119, x120, x121, x122, x123, x124, x125], defers := [] } w1 := by
  have HQ := Lib.hid hQ
  obtain ⟨i0, hi0, hz0, hz1, hz2⟩ : ∃ i, Try.prog.info? 37 = some i ∧ i.zero = some (.agg #[.int .i64 0, .int .i64 0, .int .i64 0]) ∧ i.size = 3 ∧ i.bytes = 24 := ⟨_, rfl, rfl, rfl, rfl⟩
  have HF1 := Lib.hid (show (flat3 ms).length = l * 3 by rw [flat3_len, hl])
  have HO1 := Lib.hid (World.ownsRow_made (base := w1.heap.size) (e := 37) (size := 3) w1 #[] 0 (Nat.le_refl _) (Nat.zero_le _) rfl)
  have HBA := Lib.hid ((Below.refl w1.heap.size w1).alloc (Nat.le_refl _) (.cells #[] 37))
  have HM1 := Lib.hid (news_kept h1 HBA.out hbb)
  have HSV := Lib.hid (show w1.heap.size ≤ (w1.alloc (.cells #[] 37)).heap.size by rw [World.size_alloc]; omega)
  have HMX := Lib.hid (show 0 + l ≤ maxLen ∧ (0 + l) * 24 ≤ 140737488355328 by unfold maxLen; omega)
  have HLB := Lib.hid hlb
  have b0 : (w1.alloc (.cells #[] 37)).cell? ⟨bt, 0, none⟩ = some (.slice (some ⟨b1, off1, none⟩) l c) := (bT.alloc _).cell 0
  clear hQ hl h1 hbb hlb bT
  refine wp_region_noPanic ?_
  go_wp2_with (first
    | (at_builtin; refine wpList_append_own_at _ rfl _ _ 33 rfl w1.heap.size 37 i0 (.agg #[.int .i64 0, .int .i64 0, .int .i64 0]) 3 24 Try.underlying33 hi0 hz0 hz1 hz2 rfl (by decide) (.slice (some ⟨w1.heap.size, 0, none⟩) 0 0) 0 [] rfl HO1.out ⟨b1, off1, none⟩ l c (flat3 ms) rfl HF1.out HM1.out (flat3_one ms) HMX.out.1 HMX.out.2 HSV.out ?_; intro v7 w7 hown7 hgrow7 _ _; rw [Nat.zero_add, List.nil_append] at hown7; obtain ⟨g7, c7, hv7, hg7, hl7⟩ := hown7.form HLB.out.1; subst hv7; have HO7 := Lib.hid hown7; have HG7 := Lib.hid (And.intro hg7 hl7); have HB7 := Lib.hid (HBA.out.grown hgrow7 HSV.out (fun q e => by have := (HO1.out.lt q e).1; omega)); clear hown7 hgrow7 hg7 hl7)
    | fail)
  refine NoPanic.normal ?_
  exact HQ.out g7 c7 _ _ _ _ _ w7 _ HO7.out HG7.out HB7.out rfl

end Go.Proofs.Ytmmfmanjajefcaa

/- Layer 7: the regions of product that draw. -/
import Derived.Test.YtmmfmanjajefcaaL2
set_option linter.all false
namespace Go.Proofs.Ytmmfmanjajefcaa
open Go.RowKit

/-- an answer that is a ratio or an error -/
abbrev rrV (r : Rr) : Value := .tuple #[.agg #[.int .i64 r.n, .int .i64 r.d], .int .i64 r.e]
/-- the end of a function that hands back a ratio out of a box of its own -/
theorem endRb {fn : Func} {t u : Nat} {w wr : World} {g : Nat} {a b er : Int} {r : Rr} {tmps : Array Value} (hfn : fn.results = #[.cell t 23, .tmp u]) (ht : tmps[t]? = some (.pointer (some ⟨g, 0, none⟩))) (hu : tmps[u]? = some (.int .i64 er)) (hr : r = ⟨a, b, er⟩)
    (hb : Box wr g 23 #[.int .i64 a, .int .i64 b]) (hbel : Below w.heap.size w wr) :
    bodyPost Try.prog fn (fun e w' => e = .returned (rrV r) ∧ Below w.heap.size w w') Exit.ret { tmps, defers := [] } wr := by
  subst hr
  have q0 : wr.cell? ⟨g, 0, none⟩ = some (.int .i64 a) := hb.cell 0
  have q1 : wr.cell? ⟨g, 1, none⟩ = some (.int .i64 b) := hb.cell 1
  exact bodyPost_ret (v := .tuple #[.agg #[.int .i64 a, .int .i64 b], .int .i64 er]) (by simp [results, hfn, go_sem, ht, hu, q0, q1]) rfl ⟨rfl, hbel⟩
/-- .. which it has written last -/
theorem endRr {fn : Func} {t u : Nat} {w wr : World} {g : Nat} {a b er : Int} {r : Rr} {tmps : Array Value} {z0 z1 : Value} (hfn : fn.results = #[.cell t 23, .tmp u]) (ht : tmps[t]? = some (.pointer (some ⟨g, 0, none⟩))) (hu : tmps[u]? = some (.int .i64 er)) (hr : r = ⟨a, b, er⟩)
    (hb : Box wr g 23 #[z0, z1]) (hg : w.heap.size ≤ g) (hbel : Below w.heap.size w wr) :
    bodyPost Try.prog fn (fun e w' => e = .returned (rrV r) ∧ Below w.heap.size w w') Exit.ret { tmps, defers := [] } ((wr.setCell ⟨g, 0, none⟩ (.int .i64 a)).setCell ⟨g, 1, none⟩ (.int .i64 b)) := by
  subst hr
  have hb2 := (hb.put 0 (.int .i64 a)).put 1 (.int .i64 b)
  have q0 : ((wr.setCell ⟨g, 0, none⟩ (.int .i64 a)).setCell ⟨g, 1, none⟩ (.int .i64 b)).cell? ⟨g, 0, none⟩ = some (.int .i64 a) := hb2.cell 0
  have q1 : ((wr.setCell ⟨g, 0, none⟩ (.int .i64 a)).setCell ⟨g, 1, none⟩ (.int .i64 b)).cell? ⟨g, 1, none⟩ = some (.int .i64 b) := hb2.cell 1
  exact bodyPost_ret (v := .tuple #[.agg #[.int .i64 a, .int .i64 b], .int .i64 er]) (by simp [results, hfn, go_sem, ht, hu, q0, q1]) rfl ⟨rfl, (hbel.setCell (p := ⟨g, 0, none⟩) hg _).setCell (p := ⟨g, 1, none⟩) hg _⟩
/-- a list of numbers in memory, a block by itself -/
def Row (w : World) (g : Nat) (l : List Int) : Prop := Box w g 3 (ints l).toArray
theorem Row.cell {w : World} {g : Nat} {l : List Int} (h : Row w g l) {k : Nat} (hk : k < l.length) : w.cell? ⟨g, k, none⟩ = some (.int .i64 (nth l k)) := by
  have hc := Box.cell (w := w) (t := 3) h k
  rw [hc]
  unfold ints nth
  rw [List.getElem?_toArray, List.getElem?_map, List.getD_eq_getElem?_getD, List.getElem?_eq_getElem hk]
  rfl
theorem Row.free {w : World} {g : Nat} {l : List Int} (h : Row w g l) (k : Nat) : w.frozen? ⟨g, k, none⟩ = false := Box.free (w := w) (t := 3) h k
theorem Row.lt {w : World} {g : Nat} {l : List Int} (h : Row w g l) : g < w.heap.size := Box.lt (w := w) (t := 3) h
theorem Row.put {w : World} {g : Nat} {l : List Int} (h : Row w g l) (k : Nat) (x : Int) : Row (w.setCell ⟨g, k, none⟩ (.int .i64 x)) g (l.set k x) := by
  have e := Box.put (w := w) (t := 3) h k (.int .i64 x)
  rw [List.setIfInBounds_toArray] at e
  unfold Row
  rw [show ints (l.set k x) = (ints l).set k (.int .i64 x) by unfold ints; rw [List.map_set]]
  exact e
theorem Row.far {w : World} {g : Nat} {l : List Int} (h : Row w g l) {p : Addr} (hp : g ≠ p.block) (u : Value) : Row (w.setCell p u) g l := Box.far (w := w) (t := 3) h hp u
theorem Row.made (w : World) (n : Nat) : Row (w.alloc (.cells (Array.replicate n (.int .i64 0)) 3)) w.heap.size (List.replicate n 0) := by
  have e := Box.made w 3 (Array.replicate n (.int .i64 0))
  unfold Row
  rw [show (ints (List.replicate n 0)).toArray = Array.replicate n (Value.int .i64 0) by simp [ints]]
  exact e
theorem Row.later {w w' : World} {g : Nat} {l : List Int} (h : Row w g l) (hb : Below w.heap.size w w') : Row w' g l := Box.later (w := w) (t := 3) h hb
theorem Row.below {w w' : World} {g B : Nat} {l : List Int} (h : Row w g l) (hb : Below B w w') (hg : g < B) : Row w' g l := Box.below (w := w) (t := 3) h hb hg
theorem Row.ints_ {w : World} {g c B : Nat} {l : List Int} (h : Row w g l) (hB : w.heap.size ≤ B) (hl : l.length * 8 ≤ 140737488351232) (hc : l.length ≤ c) : Ints w B (.slice (some ⟨g, 0, none⟩) l.length c) l :=
  ⟨hl, _, _, rfl, hc, fun _ => ⟨g, 0, rfl, Nat.lt_of_lt_of_le h.lt hB, fun k hk => by rw [Nat.zero_add]; exact h.cell hk⟩⟩
set_option maxRecDepth 100000 in
theorem mkInts (w : World) (n : Nat) (hn : n ≤ 10000) : (Instr.makeSlice 45 (.int .i64 (n : Int)) (.int .i64 (n : Int))).run Try.prog w = .ok (.slice (some ⟨w.heap.size, 0, none⟩) n n) (w.alloc (.cells (Array.replicate n (Value.int .i64 0)) 3)) := by
  obtain ⟨i0, hi, hz0, hz1, hz2⟩ : ∃ i, Try.prog.info? 3 = some i ∧ i.zero = some (.int .i64 0) ∧ i.size = 1 ∧ i.bytes = 8 := ⟨_, rfl, rfl, rfl, rfl⟩
  have hr := run_make (P := Try.prog) w 45 3 i0 (.int .i64 0) Try.underlying45 hi hz0 .i64 .i64 n n (by omega) (Int.le_refl _) (by rw [hz2]; omega) (by omega)
  simp only [Int.toNat_natCast] at hr
  rw [hr, hz1]
  have e : madeCells (Value.int .i64 0).cells (n * 1) = Array.replicate n (Value.int .i64 0) := by
    apply Array.toList_inj.1
    rw [Nat.mul_one]
    exact (toList_madeCells_one _ n).trans (by simp)
  rw [e]
theorem row_rep {W : World} {g n : Nat} (h : Box W g 3 (Array.replicate n (.int .i64 0))) : Row W g (nats (List.replicate n 0)) := by
  unfold Row nats
  rw [show (ints ((List.replicate n 0).map fun n : Nat => (n : Int))).toArray = Array.replicate n (Value.int .i64 0) by simp [ints]]
  exact h
theorem alloc2 (w1 : World) (cs1 cs2 : Array Value) (t1 t2 : TypeId) :
    Box ((w1.alloc (.cells cs1 t1)).alloc (.cells cs2 t2)).drew w1.heap.size t1 cs1 ∧ Box ((w1.alloc (.cells cs1 t1)).alloc (.cells cs2 t2)).drew (w1.heap.size + 1) t2 cs2 ∧ Below w1.heap.size w1 ((w1.alloc (.cells cs1 t1)).alloc (.cells cs2 t2)).drew := by
  have b1 := Box.made w1 t1 cs1
  have b2 := Box.made (w1.alloc (.cells cs1 t1)) t2 cs2
  rw [World.size_alloc] at b2
  exact ⟨b1.alloc _, b2, (((Below.refl _ _).alloc (Nat.le_refl _) _).alloc (by simp) _).drew⟩
theorem nats_set (l : List Nat) (k x : Nat) : (nats l).set k (x : Int) = nats (l.set k x) := by unfold nats; rw [List.map_set]

/-- two lists of numbers of one length, which are being worked on -/
structure PB (W : World) (g1 g2 n m : Nat) (ns ds : List Nat) : Prop where
  r1 : Row W g1 (nats ns)
  r2 : Row W g2 (nats ds)
  l1 : ns.length = n
  l2 : ds.length = m
  d : g1 ≠ g2
theorem PB.below {W W' : World} {g1 g2 n m B : Nat} {ns ds : List Nat} (h : PB W g1 g2 n m ns ds) (hb : Below B W W') (h1 : g1 < B) (h2 : g2 < B) : PB W' g1 g2 n m ns ds :=
  ⟨h.r1.below hb h1, h.r2.below hb h2, h.l1, h.l2, h.d⟩
theorem PB.later {W W' : World} {g1 g2 n m : Nat} {ns ds : List Nat} (h : PB W g1 g2 n m ns ds) (hb : Below W.heap.size W W') : PB W' g1 g2 n m ns ds := h.below hb h.r1.lt h.r2.lt
theorem PB.put1 {W : World} {g1 g2 n m : Nat} {ns ds : List Nat} (h : PB W g1 g2 n m ns ds) (k x : Nat) : PB (W.setCell ⟨g1, k, none⟩ (.int .i64 (x : Int))) g1 g2 n m (ns.set k x) ds :=
  ⟨by rw [← nats_set]; exact h.r1.put k x, h.r2.far (Ne.symm h.d) _, by simp [h.l1], h.l2, h.d⟩
theorem PB.put2 {W : World} {g1 g2 n m : Nat} {ns ds : List Nat} (h : PB W g1 g2 n m ns ds) (k x : Nat) : PB (W.setCell ⟨g2, k, none⟩ (.int .i64 (x : Int))) g1 g2 n m ns (ds.set k x) :=
  ⟨h.r1.far h.d _, by rw [← nats_set]; exact h.r2.put k x, h.l1, by simp [h.l2], h.d⟩
theorem PB.c1 {W : World} {g1 g2 n m : Nat} {ns ds : List Nat} (h : PB W g1 g2 n m ns ds) {k : Nat} (hk : k < ns.length) : W.cell? ⟨g1, k, none⟩ = some (.int .i64 ((ns[k] : Nat) : Int)) := by
  rw [h.r1.cell (by rw [nats_len]; exact hk), nth_nats hk]
theorem PB.c2 {W : World} {g1 g2 n m : Nat} {ns ds : List Nat} (h : PB W g1 g2 n m ns ds) {k : Nat} (hk : k < ds.length) : W.cell? ⟨g2, k, none⟩ = some (.int .i64 ((ds[k] : Nat) : Int)) := by
  rw [h.r2.cell (by rw [nats_len]; exact hk), nth_nats hk]

set_option maxRecDepth 100000 in
set_option maxHeartbeats 8000000 in
theorem prod1_c (n c : Nat) (A : Option Addr) (hn : n ≤ 1000) (w1 : World) (Q : Exit → Act → World → Prop) (x1 x2 x3 x4 x5 x6 x7 x8 x9 x10 x11 x12 x13 x14 x15 x16 x17 x18 x19 x20 x21 x22 x23 x24 x25 x26 x27 x28 x29 x30 x31 x32 x33 x34 x35 x36 x37 x38 x39 x40 x41 x42 x43 x44 x45 x46 x47 x48 x49 x50 x51 x52 x53 x54 x55 x56 x57 x58 x59 x60 x61 x62 x63 x64 x65 x66 x67 x68 x69 x70 x71 x72 x73 x74 x75 x76 x77 x78 x79 x80 x81 x82 x83 x84 x85 x86 x87 x88 x89 x90 x91 x92 x93 : Value)
    (hQ : ∀ (g1 g2 : Nat) (y15 y16 y17 y18 y19 y20 : Value) (W : World), PB W g1 g2 n n (List.replicate n 0) (List.replicate n 0) → w1.heap.size ≤ g1 → w1.heap.size ≤ g2 → Below w1.heap.size w1 W → Q .normal { tmps := #[.slice A n c, x1, x2, x3, .slice (some ⟨g1, 0, none⟩) n n, .slice (some ⟨g2, 0, none⟩) n n, x6, x7, x8, x9, x10, x11, x12, x13, x14, y15, y16, y17, y18, y19, y20, x21, x22, x23, x24, x25, x26, x27, x28, x29, x30, x31, x32, x33, x34, x35, x36, x37, x38, x39, x40, x41, x42, x43, x44, x45, x46, x47, x48, x49, x50, x51, x52, x53, x54, x55, x56, x57, x58, x59, x60, x61, x62, x63, x64, x65, x66, x67, x68, x69, x70, x71, x72, x73, x74, x75, x76, x77, x78, x79, x80, x81, x82, x83, x84, x85, x86, x87, x88, x89, x90, x91, x92, x93], defers := [] } W) :
    (Code.region 1 #[{ dst := some 15, op := Op.move (Operand.tmp 0), type := 79, pos := "fractions.go:14", after := #[], guard := none }, { dst := some 16, op := Op.call { callee := Callee.builtin Builtin.len, args := #[Operand.tmp 15], argTypes := #[79] }, type := 3, pos := "fractions.go:14", after := #[{ on := 0, ground := Ground.data }], guard := none }, { dst := some 17, op := Op.makeSlice 45 (Operand.tmp 16) (Operand.tmp 16), type := 45, pos := "fractions.go:14", after := #[{ on := 1, ground := Ground.data }, { on := 1, ground := Ground.data }], guard := none }, { dst := some 18, op := Op.move (Operand.tmp 0), type := 79, pos := "fractions.go:14", after := #[], guard := none }, { dst := some 19, op := Op.call { callee := Callee.builtin Builtin.len, args := #[Operand.tmp 18], argTypes := #[79] }, type := 3, pos := "fractions.go:14", after := #[{ on := 3, ground := Ground.data }], guard := none }, { dst := some 20, op := Op.makeSlice 45 (Operand.tmp 19) (Operand.tmp 19), type := 45, pos := "fractions.go:14", after := #[{ on := 4, ground := Ground.data }, { on := 4, ground := Ground.data }], guard := none }, { dst := some 4, op := Op.assign (Operand.tmp 17), type := 45, pos := "fractions.go:14", after := #[{ on := 2, ground := Ground.data }, { on := 0, ground := Ground.phase }, { on := 1, ground := Ground.phase }, { on := 2, ground := Ground.phase }, { on := 3, ground := Ground.textOnly Departure.lateStores }, { on := 4, ground := Ground.textOnly Departure.lateStoresUnsure }, { on := 5, ground := Ground.textOnly Departure.lateStoresUnsure }], guard := none }, { dst := some 5, op := Op.assign (Operand.tmp 20), type := 45, pos := "fractions.go:14", after := #[{ on := 5, ground := Ground.data }, { on := 6, ground := Ground.chain }, { on := 0, ground := Ground.phase }, { on := 1, ground := Ground.phase }, { on := 2, ground := Ground.phase }, { on := 3, ground := Ground.phase }, { on := 4, ground := Ground.phase }, { on := 5, ground := Ground.phase }, { on := 6, ground := Ground.phase }], guard := none }] true).wp Try.prog Q { tmps := #[.slice A n c, x1, x2, x3, x4, x5, x6, x7, x8, x9, x10, x11, x12, x13, x14, x15, x16, x17, x18, x19, x20, x21, x22, x23, x24, x25, x26, x27, x28, x29, x30, x31, x32, x33, x34, x35, x36, x37, x38, x39, x40, x41, x42, x43, x44, x45, x46, x47, x48, x49, x50, x51, x52, x53, x54, x55, x56, x57, x58, x59, x60, x61, x62, x63, x64, x65, x66, x67, x68, x69, x70, x71, x72, x73, x74, x75, x76, x77, x78, x79, x80, x81, x82, x83, x84, x85, x86, x87, x88, x89, x90, x91, x92, x93], defers := [] } w1 := by
  have HQ := Lib.hid hQ
  have hmk : ∀ X : World, (Instr.makeSlice 45 (.int .i64 (n : Int)) (.int .i64 (n : Int))).run Try.prog X = .ok (.slice (some ⟨X.heap.size, 0, none⟩) n n) (X.alloc (.cells (Array.replicate n (Value.int .i64 0)) 3)) := fun X => mkInts X n (by omega)
  clear hQ hn
  refine wp_region_noPanic ?_
  go_region
  all_goals
    refine NoPanic.normal ?_
    clear hmk
    obtain ⟨h1, h2, h4⟩ := alloc2 w1 (Array.replicate n (Value.int .i64 0)) (Array.replicate n (Value.int .i64 0)) 3 3
    first
      | exact HQ.out _ _ _ _ _ _ _ _ _ ⟨row_rep h1, row_rep h2, by simp, by simp, by omega⟩ (by omega) (by omega) h4
      | exact HQ.out _ _ _ _ _ _ _ _ _ ⟨row_rep h2, row_rep h1, by simp, by simp, by omega⟩ (by omega) (by omega) h4

set_option maxRecDepth 100000 in
set_option maxHeartbeats 8000000 in
theorem prod5_c (n k a b g1 g2 g3 : Nat) (ns ds : List Nat) (w1 : World) (Q : Exit → Act → World → Prop) (x0 x1 x2 x3 x8 x9 x10 x11 x12 x13 x14 x15 x16 x17 x18 x19 x20 x21 x22 x23 x24 x25 x26 x27 x28 x29 x30 x31 x32 x33 x34 x35 x36 x37 x38 x39 x40 x41 x42 x43 x44 x45 x46 x47 x48 x49 x50 x51 x52 x53 x54 x55 x56 x57 x58 x59 x60 x61 x62 x63 x64 x65 x66 x67 x68 x69 x70 x71 x72 x73 x74 x75 x76 x77 x78 x79 x80 x81 x82 x83 x84 x85 x86 x87 x88 x89 x90 x91 x92 x93 : Value)
    (hP : PB w1 g1 g2 n n ns ds)
    (hB : Box w1 g3 75 #[.int .i64 (a : Int), .int .i64 (b : Int)])
    (hk : k < n)
    (hn : n ≤ 1000)
    (d1 : g1 ≠ g3)
    (d2 : g2 ≠ g3)
    (hQ : ∀ (y28 y29 y30 y31 y32 y33 y34 y35 y36 y37 : Value) (W : World), PB W g1 g2 n n (ns.set k a) (ds.set k b) → Box W g3 75 #[.int .i64 (a : Int), .int .i64 (b : Int)] → (∀ B, B ≤ g1 → B ≤ g2 → Below B w1 W) → Q .normal { tmps := #[x0, x1, x2, x3, .slice (some ⟨g1, 0, none⟩) n n, .slice (some ⟨g2, 0, none⟩) n n, .int .i64 (k : Int), .pointer (some ⟨g3, 0, none⟩), x8, x9, x10, x11, x12, x13, x14, x15, x16, x17, x18, x19, x20, x21, x22, x23, x24, x25, x26, x27, y28, y29, y30, y31, y32, y33, y34, y35, y36, y37, x38, x39, x40, x41, x42, x43, x44, x45, x46, x47, x48, x49, x50, x51, x52, x53, x54, x55, x56, x57, x58, x59, x60, x61, x62, x63, x64, x65, x66, x67, x68, x69, x70, x71, x72, x73, x74, x75, x76, x77, x78, x79, x80, x81, x82, x83, x84, x85, x86, x87, x88, x89, x90, x91, x92, x93], defers := [] } W) :
    (Code.region 5 #[{ dst := some 28, op := Op.move (Operand.tmp 4), type := 45, pos := "fractions.go:16", after := #[], guard := none }, { dst := some 29, op := Op.move (Operand.tmp 6), type := 3, pos := "fractions.go:16", after := #[], guard := none }, { dst := some 30, op := Op.move (Operand.tmp 5), type := 45, pos := "fractions.go:16", after := #[{ on := 9, ground := Ground.gcOnly Departure.lateStores }], guard := none }, { dst := some 31, op := Op.move (Operand.tmp 6), type := 3, pos := "fractions.go:16", after := #[{ on := 9, ground := Ground.gcOnly Departure.lateStores }], guard := none }, { dst := some 32, op := Op.fieldAddr 75 (Operand.tmp 7) 0, type := 0, pos := "fractions.go:16", after := #[], guard := none }, { dst := some 33, op := Op.load 3 (Operand.tmp 32), type := 3, pos := "fractions.go:16", after := #[{ on := 4, ground := Ground.data }], guard := none }, { dst := some 34, op := Op.fieldAddr 75 (Operand.tmp 7) 1, type := 0, pos := "fractions.go:16", after := #[{ on := 9, ground := Ground.gcOnly Departure.lateStores }], guard := none }, { dst := some 35, op := Op.load 3 (Operand.tmp 34), type := 3, pos := "fractions.go:16", after := #[{ on := 6, ground := Ground.data }, { on := 9, ground := Ground.gcOnly Departure.lateStores }], guard := none }, { dst := some 36, op := Op.indexAddr 45 (Operand.tmp 28) (Operand.tmp 29), type := 0, pos := "fractions.go:16", after := #[{ on := 0, ground := Ground.data }, { on := 1, ground := Ground.data }, { on := 0, ground := Ground.phase }, { on := 1, ground := Ground.phase }, { on := 2, ground := Ground.textOnly Departure.lateStores }, { on := 3, ground := Ground.textOnly Departure.lateStores }, { on := 4, ground := Ground.phase }, { on := 5, ground := Ground.phase }, { on := 6, ground := Ground.textOnly Departure.lateStores }, { on := 7, ground := Ground.textOnly Departure.lateStores }], guard := none }, { dst := none, op := Op.store 3 (Operand.tmp 36) (Operand.tmp 33), type := 0, pos := "fractions.go:16", after := #[{ on := 8, ground := Ground.data }, { on := 5, ground := Ground.data }, { on := 0, ground := Ground.phase }, { on := 1, ground := Ground.phase }, { on := 2, ground := Ground.textOnly Departure.lateStores }, { on := 3, ground := Ground.textOnly Departure.lateStores }, { on := 4, ground := Ground.phase }, { on := 5, ground := Ground.phase }, { on := 6, ground := Ground.textOnly Departure.lateStores }, { on := 7, ground := Ground.textOnly Departure.lateStores }], guard := none }, { dst := some 37, op := Op.indexAddr 45 (Operand.tmp 30) (Operand.tmp 31), type := 0, pos := "fractions.go:16", after := #[{ on := 2, ground := Ground.data }, { on := 3, ground := Ground.data }, { on := 0, ground := Ground.phase }, { on := 1, ground := Ground.phase }, { on := 2, ground := Ground.phase }, { on := 3, ground := Ground.phase }, { on := 4, ground := Ground.phase }, { on := 5, ground := Ground.phase }, { on := 6, ground := Ground.phase }, { on := 7, ground := Ground.phase }, { on := 8, ground := Ground.phase }, { on := 9, ground := Ground.phase }], guard := none }, { dst := none, op := Op.store 3 (Operand.tmp 37) (Operand.tmp 35), type := 0, pos := "fractions.go:16", after := #[{ on := 10, ground := Ground.data }, { on := 7, ground := Ground.data }, { on := 9, ground := Ground.chain }, { on := 0, ground := Ground.phase }, { on := 1, ground := Ground.phase }, { on := 2, ground := Ground.phase }, { on := 3, ground := Ground.phase }, { on := 4, ground := Ground.phase }, { on := 5, ground := Ground.phase }, { on := 6, ground := Ground.phase }, { on := 7, ground := Ground.phase }, { on := 8, ground := Ground.phase }, { on := 9, ground := Ground.phase }], guard := none }] true).wp Try.prog Q { tmps := #[x0, x1, x2, x3, .slice (some ⟨g1, 0, none⟩) n n, .slice (some ⟨g2, 0, none⟩) n n, .int .i64 (k : Int), .pointer (some ⟨g3, 0, none⟩), x8, x9, x10, x11, x12, x13, x14, x15, x16, x17, x18, x19, x20, x21, x22, x23, x24, x25, x26, x27, x28, x29, x30, x31, x32, x33, x34, x35, x36, x37, x38, x39, x40, x41, x42, x43, x44, x45, x46, x47, x48, x49, x50, x51, x52, x53, x54, x55, x56, x57, x58, x59, x60, x61, x62, x63, x64, x65, x66, x67, x68, x69, x70, x71, x72, x73, x74, x75, x76, x77, x78, x79, x80, x81, x82, x83, x84, x85, x86, x87, x88, x89, x90, x91, x92, x93], defers := [] } w1 := by
  have HQ := Lib.hid hQ
  have HP := Lib.hid hP
  have HB := Lib.hid hB
  have HD := Lib.hid (And.intro d1 d2)
  have i0 : (0 : Int) ≤ (k : Int) := by omega
  have i1 : (k : Int) < (n : Int) := by omega
  have i2 : k ≤ 1000 := by omega
  have c0 : w1.cell? ⟨g3, 0, none⟩ = some (.int .i64 (a : Int)) := hB.cell 0
  have c1 : w1.cell? ⟨g3, 1, none⟩ = some (.int .i64 (b : Int)) := hB.cell 1
  obtain ⟨v0, c2⟩ : ∃ v, w1.cell? ⟨g1, k, none⟩ = some v := ⟨_, hP.c1 (by have := hP.l1; omega)⟩
  obtain ⟨v1, c3⟩ : ∃ v, w1.cell? ⟨g2, k, none⟩ = some v := ⟨_, hP.c2 (by have := hP.l2; omega)⟩
  have f2 : w1.frozen? ⟨g1, k, none⟩ = false := hP.r1.free k
  have f3 : w1.frozen? ⟨g2, k, none⟩ = false := hP.r2.free k
  have hd := hP.d
  have c4 : (w1.setCell ⟨g1, k, none⟩ (.int .i64 (a : Int))).cell? ⟨g2, k, none⟩ = some v1 := (World.cell?_setCell_other _ _ _ _ (fun e => hd (by injection e))).trans c3
  have c5 : (w1.setCell ⟨g2, k, none⟩ (.int .i64 (b : Int))).cell? ⟨g1, k, none⟩ = some v0 := (World.cell?_setCell_other _ _ _ _ (fun e => hd (by injection e with e; exact e.symm))).trans c2
  have c6 : (w1.setCell ⟨g1, k, none⟩ (.int .i64 (a : Int))).cell? ⟨g3, 1, none⟩ = some (.int .i64 (b : Int)) := (World.cell?_setCell_other _ _ _ _ (fun e => d1 (by injection e))).trans c1
  have c7 : (w1.setCell ⟨g2, k, none⟩ (.int .i64 (b : Int))).cell? ⟨g3, 0, none⟩ = some (.int .i64 (a : Int)) := (World.cell?_setCell_other _ _ _ _ (fun e => d2 (by injection e))).trans c0
  clear hd
  clear hQ hP hB hk hn d1 d2
  refine wp_region_noPanic ?_
  go_region
  all_goals
    refine NoPanic.normal ?_
    first
      | exact HQ.out _ _ _ _ _ _ _ _ _ _ _ (((show PB w1.drew g1 g2 n n ns ds from HP.out.later (Below.refl _ _).drew).put1 k a).put2 k b) (((show Box w1.drew g3 _ _ from HB.out).far (p := ⟨g1, k, none⟩) (Ne.symm HD.out.1) _).far (p := ⟨g2, k, none⟩) (Ne.symm HD.out.2) _) (fun B h1 h2 => (((Below.refl B w1).drew).setCell h1 _).setCell h2 _)
      | exact HQ.out _ _ _ _ _ _ _ _ _ _ _ (((show PB w1.drew g1 g2 n n ns ds from HP.out.later (Below.refl _ _).drew).put2 k b).put1 k a) (((show Box w1.drew g3 _ _ from HB.out).far (p := ⟨g2, k, none⟩) (Ne.symm HD.out.2) _).far (p := ⟨g1, k, none⟩) (Ne.symm HD.out.1) _) (fun B h1 h2 => (((Below.refl B w1).drew).setCell h2 _).setCell h1 _)

end Go.Proofs.Ytmmfmanjajefcaa

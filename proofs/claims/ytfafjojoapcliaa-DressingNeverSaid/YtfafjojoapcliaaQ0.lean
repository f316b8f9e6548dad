/- Tasks as laws see them, rows that a call makes itself; the examples at the head of the statements, reckoned. -/
import Derived.Test.YtfafjojoapcliaaQM1
import Derived.Test.YtfafjojoapcliaaZ4
import Derived.Laws.MakeOwn
import Derived.Laws.OwnMore
namespace Go.Proofs.Ytfafjojoapcliaa
open Go.RowKit

/-- the examples at the head of the statements hold, in whatever world -/
theorem awake_c (w : World) : Calls Try.prog 8 #[] w fun e w' => e = .returned (.bool true) ∧ Below w.heap.size w w' :=
  Eng.closed_run (by kernel_rfl) (by kernel_rfl) (cf := 10000) (f := 200) (args := []) rfl (by kernel_rfl) w

/-- a task: its width and its needs -/
structure Tk where
  wide : Int
  need : List (Int × Int)
def nthP (xs : List (Int × Int)) (k : Nat) : Int × Int := xs.getD k (0, 0)
/-- a slice of spans in memory, below block B -/
def Pairs (w : World) (B : Nat) (v : Value) (xs : List (Int × Int)) : Prop :=
  ∃ A c, v = .slice A xs.length c ∧ xs.length ≤ c ∧
    (0 < xs.length → ∃ b off, A = some ⟨b, off, none⟩ ∧ b < B ∧ ∀ k, k < xs.length → w.cell? ⟨b, off + k * 2, none⟩ = some (.int .i64 (nthP xs k).1) ∧ w.cell? ⟨b, off + k * 2 + 1, none⟩ = some (.int .i64 (nthP xs k).2))
def IsTask (w : World) (B : Nat) (v : Value) (t : Tk) : Prop := ∃ s, v = .agg #[.int .i64 t.wide, s] ∧ Pairs w B s t.need
theorem Pairs.mono {w w' : World} {B B' : Nat} {v : Value} {xs : List (Int × Int)} (h : Pairs w B v xs) (hb : Below B w w') (hB : B ≤ B') : Pairs w' B' v xs := by
  obtain ⟨A, c, rfl, h2, h3⟩ := h
  refine ⟨A, c, rfl, h2, fun hp => ?_⟩
  obtain ⟨b, off, rfl, hlt, hc⟩ := h3 hp
  exact ⟨b, off, rfl, by omega, fun k hk => ⟨keepd (hc k hk).1 hb hlt, keepd (hc k hk).2 hb hlt⟩⟩
theorem IsTask.mono {w w' : World} {B B' : Nat} {v : Value} {t : Tk} (h : IsTask w B v t) (hb : Below B w w') (hB : B ≤ B') : IsTask w' B' v t := by
  obtain ⟨s, rfl, hi⟩ := h
  exact ⟨s, rfl, hi.mono hb hB⟩
theorem IsTask.box {w : World} {v : Value} {t : Tk} (h : IsTask w w.heap.size v t) (o : Obj) : IsTask (w.alloc o) (w.alloc o).heap.size v t := h.mono ((Below.refl _ _).alloc (Nat.le_refl _) _) (by simp)
theorem IsTask.later {w w1 : World} {v : Value} {t : Tk} (h : IsTask w w.heap.size v t) (hb : Below w.heap.size w w1) : IsTask w1 w1.heap.size v t := h.mono hb hb.size
theorem Ints.later {w w1 : World} {v : Value} {l : List Int} (h : Ints w w.heap.size v l) (hb : Below w.heap.size w w1) : Ints w1 w1.heap.size v l := h.mono hb hb.size

/-- a row of numbers that a call has made itself -/
def Row (w : World) (g : Nat) (l : List Int) : Prop := Box w g 3 (ints l).toArray
theorem Row.cell {w : World} {g : Nat} {l : List Int} (h : Row w g l) {k : Nat} (hk : k < l.length) : w.cell? ⟨g, k, none⟩ = some (.int .i64 (nth l k)) := by
  have hc := Box.cell (w := w) (t := 3) h k
  rw [hc]
  unfold ints nth
  rw [List.getElem?_toArray, List.getElem?_map, List.getD_eq_getElem?_getD, List.getElem?_eq_getElem hk]
  rfl
theorem Row.free {w : World} {g : Nat} {l : List Int} (h : Row w g l) (k : Nat) : w.frozen? ⟨g, k, none⟩ = false := Box.free (w := w) (t := 3) h k
theorem Row.lt {w : World} {g : Nat} {l : List Int} (h : Row w g l) : g < w.heap.size := Box.lt (w := w) (t := 3) h
theorem Row.put {w : World} {g : Nat} {l : List Int} (h : Row w g l) (k : Nat) (x : Int) : Row (w.setCell ⟨g, k, none⟩ (.int .i64 x)) g (l.set k x) := by
  have e := Box.put (w := w) (t := 3) h k (.int .i64 x)
  rw [List.setIfInBounds_toArray] at e
  unfold Row
  rw [show ints (l.set k x) = (ints l).set k (.int .i64 x) by unfold ints; rw [List.map_set]]
  exact e
theorem Row.made (w : World) (n : Nat) : Row (w.alloc (.cells (Array.replicate n (.int .i64 0)) 3)) w.heap.size (List.replicate n 0) := by
  have e := Box.made w 3 (Array.replicate n (.int .i64 0))
  unfold Row
  rw [show (ints (List.replicate n 0)).toArray = Array.replicate n (Value.int .i64 0) by simp [ints]]
  exact e
theorem Row.later {w w' : World} {g : Nat} {l : List Int} (h : Row w g l) (hb : Below w.heap.size w w') : Row w' g l := Box.later (w := w) (t := 3) h hb
theorem Row.below {w w' : World} {g B : Nat} {l : List Int} (h : Row w g l) (hb : Below B w w') (hg : g < B) : Row w' g l := Box.below (w := w) (t := 3) h hb hg
theorem Row.ints_ {w : World} {g c B : Nat} {l : List Int} (h : Row w g l) (hB : w.heap.size ≤ B) (hl : l.length * 8 ≤ 140737488351232) (hc : l.length ≤ c) : Ints w B (.slice (some ⟨g, 0, none⟩) l.length c) l :=
  ⟨hl, _, _, rfl, hc, fun _ => ⟨g, 0, rfl, Nat.lt_of_lt_of_le h.lt hB, fun k hk => by rw [Nat.zero_add]; exact h.cell hk⟩⟩
set_option maxRecDepth 100000 in
theorem mkInts (w : World) (n : Nat) (hn : n ≤ 10000) : (Instr.makeSlice 30 (.int .i64 (n : Int)) (.int .i64 (n : Int))).run Try.prog w = .ok (.slice (some ⟨w.heap.size, 0, none⟩) n n) (w.alloc (.cells (Array.replicate n (Value.int .i64 0)) 3)) := by
  obtain ⟨i0, hi, hz0, hz1, hz2⟩ : ∃ i, Try.prog.info? 3 = some i ∧ i.zero = some (.int .i64 0) ∧ i.size = 1 ∧ i.bytes = 8 := ⟨_, rfl, rfl, rfl, rfl⟩
  have hr := run_make (P := Try.prog) w 30 3 i0 (.int .i64 0) Try.underlying30 hi hz0 .i64 .i64 n n (by omega) (Int.le_refl _) (by rw [hz2]; omega) (by omega)
  simp only [Int.toNat_natCast] at hr
  rw [hr, hz1]
  have e : madeCells (Value.int .i64 0).cells (n * 1) = Array.replicate n (Value.int .i64 0) := by
    apply Array.toList_inj.1
    rw [Nat.mul_one]
    exact (toList_madeCells_one _ n).trans (by simp)
  rw [e]
theorem mkInts1 (w : World) (n : Nat) (hn : n + 1 ≤ 10000) : (Instr.makeSlice 30 (.int .i64 ((n : Int) + 1)) (.int .i64 ((n : Int) + 1))).run Try.prog w = .ok (.slice (some ⟨w.heap.size, 0, none⟩) (n + 1) (n + 1)) (w.alloc (.cells (Array.replicate (n + 1) (Value.int .i64 0)) 3)) := by
  have := mkInts w (n + 1) hn
  rw [show ((n + 1 : Nat) : Int) = (n : Int) + 1 by omega] at this
  exact this

/-- a span as a value -/
abbrev spanV (lo hi : Int) : Value := .agg #[.int .i64 lo, .int .i64 hi]
/-- a span is one and lies between two numbers -/
def ordB (lo hi a b : Int) : Bool := decide (a ≤ lo) && decide (lo ≤ hi) && decide (hi ≤ b)
theorem ordB_iff {lo hi a b : Int} : ordB lo hi a b = true ↔ a ≤ lo ∧ lo ≤ hi ∧ hi ≤ b := by unfold ordB; simp [and_assoc]

def okP (p : Int × Int) : Bool := ordB p.1 p.2 0 100000
def szB (t : Tk) : Bool := decide ((t.need.length : Int) ≤ 400) && decide (1 ≤ t.wide) && decide (t.wide ≤ (t.need.length : Int))
/-- a task is valid -/
def taskB (t : Tk) : Bool := szB t && t.need.all okP
def tkE (t : Tk) : Int := if taskB t = true then 0 else 50
theorem szB_iff {t : Tk} : szB t = true ↔ (t.need.length : Int) ≤ 400 ∧ 1 ≤ t.wide ∧ t.wide ≤ (t.need.length : Int) := by unfold szB; simp [and_assoc]
theorem tkE_sz {t : Tk} (h : szB t = false) : tkE t = 50 := by unfold tkE taskB; rw [h]; rfl
theorem tkE_all {t : Tk} (h : szB t = true) : tkE t = if t.need.all okP = true then 0 else 50 := by unfold tkE taskB; rw [h, Bool.true_and]
theorem allP_snoc {l : List (Int × Int)} {q : Int × Int → Bool} {k : Nat} (h : k < l.length) : (l.take (k + 1)).all q = ((l.take k).all q && q (nthP l k)) := by
  rw [List.take_succ_eq_append_getElem h, List.all_append]
  simp [nthP, h]
theorem allP_false {l : List (Int × Int)} {q : Int × Int → Bool} {k : Nat} (h : k < l.length) (hf : q (nthP l k) = false) : l.all q = false := by
  rw [List.all_eq_false]
  exact ⟨l[k], List.getElem_mem h, by simpa [nthP, h] using hf⟩
theorem allP_at {l : List (Int × Int)} {q : Int × Int → Bool} (h : l.all q = true) {k : Nat} (hk : k < l.length) : q (nthP l k) = true := by
  cases hq : q (nthP l k)
  · rw [allP_false hk hq] at h; cases h
  · rfl

end Go.Proofs.Ytfafjojoapcliaa

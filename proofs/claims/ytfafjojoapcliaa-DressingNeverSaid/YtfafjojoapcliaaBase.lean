/- Words and small lemmas that the walks of this seat share: what a list of numbers in memory is, what a face is, and what stays behind a call. -/
import Derived.Test.YtfafjojoapcliaaRows
import Derived.WalkKit
import Derived.WalkSpells
import Derived.WalkLawsBesides
import Derived.BigQuiet
import Derived.Deep.QuietTactic
import Derived.Deep.RegionHeld3
import Derived.Lib.Hide
import Derived.StillTailTactics
import Derived.Laws.OwnMore
import Derived.Laws.Rows
import Derived.Deep.AppendLies
import Derived.Maps.AppendAt
import Derived.Deep.RegionLaw
namespace Go.Proofs.Ytfafjojoapcliaa
open Go.RowKit

/-- the number at a place of a list; 0 behind its end -/
def nth (xs : List Int) (k : Nat) : Int := xs.getD k 0

/-- a slice of ints in memory, below block B -/
def Ints (w : World) (B : Nat) (v : Value) (xs : List Int) : Prop :=
  xs.length * 8 ≤ 140737488351232 ∧ ∃ A c, v = .slice A xs.length c ∧ xs.length ≤ c ∧
    (0 < xs.length → ∃ b off, A = some ⟨b, off, none⟩ ∧ b < B ∧ ∀ k, k < xs.length → w.cell? ⟨b, off + k, none⟩ = some (.int .i64 (nth xs k)))

/-- a face: its three numbers and its kinds -/
structure Fc where
  eye : Int
  rings : Int
  sectors : Int
  kinds : List Int

/-- a face as a value -/
def IsFace (w : World) (B : Nat) (v : Value) (f : Fc) : Prop :=
  ∃ s, v = .agg #[.int .i64 f.eye, .int .i64 f.rings, .int .i64 f.sectors, s] ∧ Ints w B s f.kinds

theorem Ints.mono {w w' : World} {B B' : Nat} {v : Value} {xs : List Int} (h : Ints w B v xs) (hb : Below B w w') (hB : B ≤ B') : Ints w' B' v xs := by
  obtain ⟨h1, A, c, rfl, h2, h3⟩ := h
  refine ⟨h1, A, c, rfl, h2, fun hp => ?_⟩
  obtain ⟨b, off, rfl, hlt, hc⟩ := h3 hp
  exact ⟨b, off, rfl, by omega, fun k hk => (hb.cell (p := ⟨b, off + k, none⟩) hlt).trans (hc k hk)⟩
theorem Ints.below {w w' : World} {B : Nat} {v : Value} {xs : List Int} (h : Ints w B v xs) (hb : Below B w w') : Ints w' B v xs := h.mono hb (Nat.le_refl _)
theorem Ints.more {w : World} {B B' : Nat} {v : Value} {xs : List Int} (h : Ints w B v xs) (hB : B ≤ B') : Ints w B' v xs := h.mono (Below.refl _ _) hB
theorem IsFace.mono {w w' : World} {B B' : Nat} {v : Value} {f : Fc} (h : IsFace w B v f) (hb : Below B w w') (hB : B ≤ B') : IsFace w' B' v f := by
  obtain ⟨s, rfl, hi⟩ := h
  exact ⟨s, rfl, hi.mono hb hB⟩
theorem IsFace.below {w w' : World} {B : Nat} {v : Value} {f : Fc} (h : IsFace w B v f) (hb : Below B w w') : IsFace w' B v f := h.mono hb (Nat.le_refl _)
theorem IsFace.more {w : World} {B B' : Nat} {v : Value} {f : Fc} (h : IsFace w B v f) (hB : B ≤ B') : IsFace w B' v f := h.mono (Below.refl _ _) hB

theorem IsFace.box {w : World} {v : Value} {f : Fc} (h : IsFace w w.heap.size v f) (o : Obj) : IsFace (w.alloc o) (w.alloc o).heap.size v f := h.mono ((Below.refl _ _).alloc (Nat.le_refl _) _) (by simp)
theorem IsFace.later {w w1 : World} {v : Value} {f : Fc} {o : Obj} (h : IsFace w w.heap.size v f) (hb : Below (w.alloc o).heap.size (w.alloc o) w1) : IsFace w1 w1.heap.size v f := (h.box o).mono hb hb.size
theorem Ints.box {w : World} {v : Value} {f : List Int} (h : Ints w w.heap.size v f) (o : Obj) : Ints (w.alloc o) (w.alloc o).heap.size v f := h.mono ((Below.refl _ _).alloc (Nat.le_refl _) _) (by simp)

/-- behind a call all old cells and marks are as before -/
theorem bcell {W w1 : World} (hb : Below W.heap.size W w1) : (∀ b o, b < W.heap.size → w1.cell? ⟨b, o, none⟩ = W.cell? ⟨b, o, none⟩) ∧ (∀ b o, b < W.heap.size → w1.frozen? ⟨b, o, none⟩ = W.frozen? ⟨b, o, none⟩) :=
  ⟨fun b o h => hb.cell (p := ⟨b, o, none⟩) h, fun b o h => hb.frozen (p := ⟨b, o, none⟩) h⟩
theorem chain {W0 w1 w2 : World} (h1 : Below W0.heap.size W0 w1) (h2 : Below w1.heap.size w1 w2) : Below W0.heap.size W0 w2 := h1.trans (h2.mono h1.size)
theorem boxed {w w1 : World} {o : Obj} (h : Below (w.alloc o).heap.size (w.alloc o) w1) : Below w.heap.size w w1 := ((Below.refl _ _).alloc (Nat.le_refl _) _).trans (h.mono (by simp))
theorem ret_int {k : IntKind} {a b : Int} (h : a = b) : Ending.returned (.int k a) = .returned (.int k b) := by rw [h]
theorem ret_bool {a b : Bool} (h : a = b) : Ending.returned (.bool a) = .returned (.bool b) := by rw [h]

/-- from a to b -/
def inB (n a b : Int) : Bool := decide (a ≤ n) && decide (n ≤ b)
theorem inB_iff {n a b : Int} : inB n a b = true ↔ a ≤ n ∧ n ≤ b := by simp [inB]
theorem inB_not {n a b : Int} : inB n a b = false ↔ ¬ (a ≤ n ∧ n ≤ b) := by rw [← inB_iff]; simp
/-- the numbers of a face are within the limits -/
def sizesB (eye rings sectors : Int) : Bool := inB eye 1 16 && inB rings 1 24 && inB sectors 2 96
theorem sizesB_iff {a b c : Int} : sizesB a b c = true ↔ (1 ≤ a ∧ a ≤ 16) ∧ (1 ≤ b ∧ b ≤ 24) ∧ 2 ≤ c ∧ c ≤ 96 := by
  simp [sizesB, inB_iff, and_assoc]
/-- all kinds are kinds -/
def kindsB (l : List Int) : Bool := l.all fun k => inB k 0 2
/-- a face is valid -/
def validB (f : Fc) : Bool := sizesB f.eye f.rings f.sectors && decide ((f.kinds.length : Int) = f.rings * f.sectors) && kindsB f.kinds

theorem kindsB_snoc (l : List Int) (k : Nat) (h : k < l.length) : kindsB (l.take (k + 1)) = (kindsB (l.take k) && inB (nth l k) 0 2) := by
  unfold kindsB nth
  rw [List.take_succ_eq_append_getElem h, List.all_append]
  simp [h]
theorem kindsB_false (l : List Int) (k : Nat) (h : k < l.length) (hf : inB (nth l k) 0 2 = false) : kindsB l = false := by
  unfold kindsB nth at *
  rw [List.all_eq_false]
  exact ⟨l[k], List.getElem_mem h, by simpa [h] using hf⟩

/-- four cells of a block of the call's own, kept by a draw and behind a call -/
theorem keep4 {W0 W W2 : World} {b : Nat} {c0 c1 c2 c3 : Value} (hB : b < W0.heap.size)
    (h : W.cell? ⟨b, 0, none⟩ = some c0 ∧ W.cell? ⟨b, 1, none⟩ = some c1 ∧ W.cell? ⟨b, 2, none⟩ = some c2 ∧ W.cell? ⟨b, 3, none⟩ = some c3 ∧ Below W0.heap.size W0 W)
    (hb : Below W.heap.size W W2) :
    W2.cell? ⟨b, 0, none⟩ = some c0 ∧ W2.cell? ⟨b, 1, none⟩ = some c1 ∧ W2.cell? ⟨b, 2, none⟩ = some c2 ∧ W2.cell? ⟨b, 3, none⟩ = some c3 ∧ Below W0.heap.size W0 W2 := by
  obtain ⟨h0, h1, h2, h3, h4⟩ := h
  have hs := h4.size
  have e : ∀ o, W2.cell? ⟨b, o, none⟩ = W.cell? ⟨b, o, none⟩ := fun o => hb.cell (p := ⟨b, o, none⟩) (by simp; omega)
  exact ⟨(e 0).trans h0, (e 1).trans h1, (e 2).trans h2, (e 3).trans h3, chain h4 hb⟩
/-- what lies below a block number and was known at a world is kept behind a call -/
theorem keepc {W W2 : World} {b o B : Nat} {c : Value} (h : W.cell? ⟨b, o, none⟩ = some c) (hb : Below W.heap.size W W2) (hB : b < B) (hs : B ≤ W.heap.size) : W2.cell? ⟨b, o, none⟩ = some c :=
  (hb.cell (p := ⟨b, o, none⟩) (by simp; omega)).trans h
theorem keepd {W W2 : World} {b o B : Nat} {c : Value} (h : W.cell? ⟨b, o, none⟩ = some c) (hb : Below B W W2) (hB : b < B) : W2.cell? ⟨b, o, none⟩ = some c :=
  (hb.cell (p := ⟨b, o, none⟩) hB).trans h
/-- a block of memory that is known whole -/
def Box (w : World) (g : Nat) (t : TypeId) (cs : Array Value) : Prop := w.heap[g]? = some (.cells cs t (0, 0))
section
variable {w w' : World} {g B : Nat} {t : TypeId} {cs : Array Value}
theorem Box.cell (h : Box w g t cs) (i : Nat) : w.cell? ⟨g, i, none⟩ = cs[i]? := cell_of_row w g i cs t (0, 0) h
theorem Box.free (h : Box w g t cs) (i : Nat) : w.frozen? ⟨g, i, none⟩ = false := by unfold Box at h; simp [World.frozen?, h]
theorem Box.lt (h : Box w g t cs) : g < w.heap.size := by
  unfold Box at h
  rcases Nat.lt_or_ge g w.heap.size with hl | hl
  · exact hl
  · rw [Array.getElem?_eq_none hl] at h; cases h
theorem Box.below (h : Box w g t cs) (hb : Below B w w') (hg : g < B) : Box w' g t cs := (hb.block g hg).trans h
theorem Box.later (h : Box w g t cs) (hb : Below w.heap.size w w') : Box w' g t cs := h.below hb h.lt
theorem Box.made (w : World) (t : TypeId) (cs : Array Value) : Box (w.alloc (.cells cs t)) w.heap.size t cs := heap_alloc_new w _
theorem Box.alloc (h : Box w g t cs) (o : Obj) : Box (w.alloc o) g t cs := h.later ((Below.refl _ _).alloc (Nat.le_refl _) _)
theorem Box.grown (h : Box w g t cs) {row : Option Nat} (hb : w.grownBy w' row) (hg : row ≠ some g) : Box w' g t cs := (hb.block g h.lt (Ne.symm hg)).trans h
theorem Box.put (h : Box w g t cs) (i : Nat) (u : Value) : Box (w.setCell ⟨g, i, none⟩ u) g t (cs.setIfInBounds i u) := by
  unfold Box at h ⊢
  simp [World.setCell, Array.getElem?_modify, h]
theorem Box.far (h : Box w g t cs) {p : Addr} (hp : g ≠ p.block) (u : Value) : Box (w.setCell p u) g t cs := (Below.heap_setCell w p u g hp).trans h
end
/-- what the call itself owns is kept behind a callee that leaves all that there was -/
theorem own_later {w w' : World} {base : Nat} {e : TypeId} {size : Nat} {v : Value} {n : Nat} {xs : List Value} (h : w.ownsRow base e size v n xs) (hb : Below w.heap.size w w') : w'.ownsRow base e size v n xs := by
  obtain ⟨h1, h2⟩ := h
  refine ⟨h1, ?_⟩
  rcases h2 with h2 | ⟨g, cap, cur, h3, h4, h5, h6⟩
  · exact .inl h2
  · have hl : g < w.heap.size := Box.lt (w := w) (t := e) h5
    exact .inr ⟨g, cap, cur, h3, h4, (hb.block g hl).trans h5, h6⟩
theorem own_far {w : World} {base : Nat} {e : TypeId} {size : Nat} {v : Value} {n : Nat} {xs : List Value} (h : w.ownsRow base e size v n xs) {p : Addr} (hp : p.block < base) (u : Value) : (w.setCell p u).ownsRow base e size v n xs := ownsRow_setCell_below h hp u
theorem one_cell (x : Int) : ∀ u ∈ [Value.int .i64 x], u.oneCell' = true := by intro u hu; simp at hu; subst hu; rfl
theorem own_ne {w : World} {g : Nat} {e : TypeId} {size : Nat} {v : Value} {n : Nat} {xs : List Value} (h : w.ownsRow (g + 1) e size v n xs) : v.ownBlock ≠ some g := fun e => by have := (h.lt g e).1; omega
theorem own_shape {w : World} {base : Nat} {e : TypeId} {size : Nat} {v : Value} {n : Nat} {xs : List Value} (h : w.ownsRow base e size v n xs) : ∃ A c, v = .slice A n c := by
  rcases h.2 with ⟨rfl, rfl⟩ | ⟨g, cap, cur, rfl, _⟩
  · exact ⟨_, _, rfl⟩
  · exact ⟨_, _, rfl⟩
/-- a list of numbers as cells -/
def ints (l : List Int) : List Value := l.map (Value.int .i64)
theorem ints_len (l : List Int) : (ints l).length = l.length := by simp [ints]
theorem ints_snoc (l : List Int) (x : Int) : ints (l ++ [x]) = ints l ++ [.int .i64 x] := by simp [ints]
/-- what the call itself owns is a slice of ints -/
theorem ints_own {w : World} {base B : Nat} {e : TypeId} {v : Value} {l : List Int} (h : w.ownsRow base e 1 v l.length (ints l)) (hB : w.heap.size ≤ B) (hl : l.length * 8 ≤ 140737488351232) : Ints w B v l := by
  refine ⟨hl, ?_⟩
  obtain ⟨h1, h2⟩ := h
  rcases h2 with ⟨rfl, h2⟩ | ⟨g, cap, cur, rfl, h4, h5, h6, h7, h8, h9⟩
  · exact ⟨none, 0, by rw [h2], by omega, fun h => by omega⟩
  · refine ⟨_, _, rfl, h6, fun hp => ⟨g, 0, rfl, Nat.lt_of_lt_of_le (Box.lt (w := w) (t := e) h5) hB, fun k hk => ?_⟩⟩
    have hc := Box.cell (w := w) (t := e) h5 k
    rw [Nat.zero_add, hc]
    have e1 : (ints l)[k]? = some (.int .i64 (nth l k)) := by
      unfold ints nth
      rw [List.getElem?_map, List.getD_eq_getElem?_getD, List.getElem?_eq_getElem hk]
      rfl
    rw [← h9, List.getElem?_take_of_lt (by omega)] at e1
    simpa using e1
/-- a slice that lies beyond a block number -/
def NewS (lo : Nat) (s : Value) : Prop := ∀ ad n c, s = .slice (some ad) n c → lo ≤ ad.block
theorem NewS.none_ (lo n c : Nat) : NewS lo (.slice none n c) := fun _ _ _ h => by cases h
theorem NewS.mono {lo lo' : Nat} {s : Value} (h : NewS lo s) (hl : lo' ≤ lo) : NewS lo' s := fun ad n c e => Nat.le_trans hl (h ad n c e)
theorem NewS.own {w : World} {base : Nat} {e : TypeId} {size : Nat} {v : Value} {n : Nat} {xs : List Value} (h : w.ownsRow base e size v n xs) : NewS base v := fun ad m c e1 => (h.lt ad.block (by rw [e1]; rfl)).1
theorem Ints.far {w : World} {B lo : Nat} {s : Value} {xs : List Int} (h : Ints w B s xs) (hn : NewS lo s) {p : Addr} (hp : p.block < lo) (u : Value) : Ints (w.setCell p u) B s xs := by
  obtain ⟨h1, A, c, rfl, h2, h3⟩ := h
  refine ⟨h1, A, c, rfl, h2, fun h0 => ?_⟩
  obtain ⟨b, off, rfl, hb, hc⟩ := h3 h0
  have hl := hn _ _ _ rfl
  exact ⟨b, off, rfl, hb, fun k hk => (World.cell?_setCell_other w p ⟨b, off + k, none⟩ u (fun e => by subst e; simp at hl hp; omega)).trans (hc k hk)⟩
theorem wrap_id {n : Int} (h1 : -9223372036854775808 ≤ n) (h2 : n ≤ 9223372036854775807) : IntKind.i64.wrap n = n := by
  rw [IntKind.wrap_i64]; omega
theorem wrap_quo {a b : Int} (h0 : 0 ≤ a) (h1 : a ≤ 9223372036854775807) (hb : 1 ≤ b) : IntKind.i64.wrap (a / b) = a / b := by
  have h2 : 0 ≤ a / b := Int.ediv_nonneg h0 (by omega)
  have h3 : a / b ≤ a := Int.ediv_le_self _ h0
  exact wrap_id (by omega) (by omega)
theorem mul_bd {a b m n : Int} (ha : 0 ≤ a) (hb : 0 ≤ b) (h1 : a ≤ m) (h2 : b ≤ n) : 0 ≤ a * b ∧ a * b ≤ m * n :=
  ⟨Int.mul_nonneg ha hb, Int.mul_le_mul h1 h2 hb (by omega)⟩

end Go.Proofs.Ytfafjojoapcliaa

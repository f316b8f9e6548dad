/- An engine for closed calls, part 1: names, the heap, single operations -/
import Derived.Orders
import Derived.Below
import Derived.Laws.Tables
import Derived.Laws.CopyRow
import Derived.Laws.MakeOwn
import Derived.Great.BuildSlice
import Derived.Deep.AppendSrc
set_option linter.unusedVariables false
set_option linter.unusedSimpArgs false
namespace Go.Proofs.Ytfafjojoapcliaa.Eng
noncomputable section

section
/-! An engine for closed calls: values over names, an abstract heap. No program stands here. -/
/-! ### a table keyed by numbers -/
inductive Tr (α : Type) where
  | leaf
  | node (v : Option α) (l r : Tr α)

namespace Tr
variable {α : Type}

/-- by recursors alone: the kernel reckons it quickly -/
def get (t : Tr α) : Nat → Option α :=
  Tr.rec (motive := fun _ => Nat → Option α) (fun _ => none)
    (fun v _ _ gl gr n => Nat.rec (motive := fun _ => Option α) v (fun m _ => Bool.rec (motive := fun _ => Option α) (gr (m / 2)) (gl (m / 2)) (Nat.beq (m % 2) 0)) n) t

/-- with so many levels at most -/
def put (x : Option α) (f : Nat) : Tr α → Nat → Tr α :=
  Nat.rec (motive := fun _ => Tr α → Nat → Tr α) (fun t _ => t)
    (fun _ ih t n => Tr.rec (motive := fun _ => Tr α)
      (Nat.rec (motive := fun _ => Tr α) (.node x .leaf .leaf) (fun m _ => Bool.rec (motive := fun _ => Tr α) (.node none .leaf (ih .leaf (m / 2))) (.node none (ih .leaf (m / 2)) .leaf) (Nat.beq (m % 2) 0)) n)
      (fun v l r _ _ => Nat.rec (motive := fun _ => Tr α) (.node x l r) (fun m _ => Bool.rec (motive := fun _ => Tr α) (.node v l (ih r (m / 2))) (.node v (ih l (m / 2)) r) (Nat.beq (m % 2) 0)) n) t) f

def set (f : Nat) (t : Tr α) (n : Nat) (x : Option α) : Option (Tr α) :=
  match Nat.blt n (2 ^ f - 1) with
  | true => some (put x f t n)
  | false => none

theorem get_leaf (n : Nat) : (Tr.leaf : Tr α).get n = none := rfl
theorem get_node (v : Option α) (l r : Tr α) (n : Nat) : (Tr.node v l r).get n = match n with
    | 0 => v
    | m + 1 => match Nat.beq (m % 2) 0 with
      | true => l.get (m / 2)
      | false => r.get (m / 2) := by
  cases n with
  | zero => rfl
  | succ m =>
    show (Bool.rec (motive := fun _ => Option α) (r.get (m / 2)) (l.get (m / 2)) (Nat.beq (m % 2) 0)) = _
    simp only
    cases Nat.beq (m % 2) 0 <;> rfl

theorem put_leaf (x : Option α) (f n : Nat) : put x (f + 1) .leaf n = match n with
    | 0 => .node x .leaf .leaf
    | m + 1 => match Nat.beq (m % 2) 0 with
      | true => .node none (put x f .leaf (m / 2)) .leaf
      | false => .node none .leaf (put x f .leaf (m / 2)) := by
  cases n with
  | zero => rfl
  | succ m =>
    show (Bool.rec (motive := fun _ => Tr α) (.node none .leaf (put x f .leaf (m / 2))) (.node none (put x f .leaf (m / 2)) .leaf) (Nat.beq (m % 2) 0)) = _
    simp only
    cases Nat.beq (m % 2) 0 <;> rfl
theorem put_node (x : Option α) (f : Nat) (v : Option α) (l r : Tr α) (n : Nat) : put x (f + 1) (.node v l r) n = match n with
    | 0 => .node x l r
    | m + 1 => match Nat.beq (m % 2) 0 with
      | true => .node v (put x f l (m / 2)) r
      | false => .node v l (put x f r (m / 2)) := by
  cases n with
  | zero => rfl
  | succ m =>
    show (Bool.rec (motive := fun _ => Tr α) (.node v l (put x f r (m / 2))) (.node v (put x f l (m / 2)) r) (Nat.beq (m % 2) 0)) = _
    simp only
    cases Nat.beq (m % 2) 0 <;> rfl

theorem get_put (x : Option α) : ∀ (f : Nat) (t : Tr α) (n : Nat), n + 1 < 2 ^ f → ∀ k, (put x f t n).get k = if k = n then x else t.get k := by
  intro f
  induction f with
  | zero => intro t n h; simp at h
  | succ f ih =>
    intro t n h k
    have key : ∀ (v : Option α) (l r : Tr α), (match n with
        | 0 => Tr.node x l r
        | m + 1 => match Nat.beq (m % 2) 0 with
          | true => Tr.node v (put x f l (m / 2)) r
          | false => Tr.node v l (put x f r (m / 2))).get k = if k = n then x else (Tr.node v l r).get k := by
      intro v l r
      cases n with
      | zero =>
        simp only
        rw [get_node, get_node]
        cases k with
        | zero => simp
        | succ k => rw [if_neg (by omega)]
      | succ m =>
        have hm : m / 2 + 1 < 2 ^ f := by rw [Nat.pow_succ] at h; omega
        simp only
        cases hb : Nat.beq (m % 2) 0 with
        | true =>
          have e1 : m % 2 = 0 := Nat.eq_of_beq_eq_true hb
          simp only
          rw [get_node, get_node]
          cases k with
          | zero => simp
          | succ k =>
            simp only
            cases hk : Nat.beq (k % 2) 0 with
            | true =>
              have e2 : k % 2 = 0 := Nat.eq_of_beq_eq_true hk
              simp only
              rw [ih l (m / 2) hm]
              by_cases hkm : k = m
              · subst hkm; simp
              · rw [if_neg (by omega), if_neg (by omega)]
            | false =>
              have e2 : k % 2 ≠ 0 := fun e => by rw [e] at hk; simp at hk
              simp only
              rw [if_neg (by omega)]
        | false =>
          have e1 : m % 2 ≠ 0 := fun e => by rw [e] at hb; simp at hb
          simp only
          rw [get_node, get_node]
          cases k with
          | zero => simp
          | succ k =>
            simp only
            cases hk : Nat.beq (k % 2) 0 with
            | true =>
              have e2 : k % 2 = 0 := Nat.eq_of_beq_eq_true hk
              simp only
              rw [if_neg (by omega)]
            | false =>
              have e2 : k % 2 ≠ 0 := fun e => by rw [e] at hk; simp at hk
              simp only
              rw [ih r (m / 2) hm]
              by_cases hkm : k = m
              · subst hkm; simp
              · rw [if_neg (by omega), if_neg (by omega)]
    cases t with
    | leaf =>
      rw [put_leaf, get_leaf]
      have := key none .leaf .leaf
      rw [show (Tr.node none .leaf .leaf : Tr α).get k = none by rw [get_node]; cases k with | zero => rfl | succ k => simp only [get_leaf]; cases Nat.beq (k % 2) 0 <;> rfl] at this
      exact this
    | node v l r => rw [put_node]; exact key v l r

theorem get_set : ∀ (f : Nat) (t : Tr α) (n : Nat) (x : Option α) (t' : Tr α), set f t n x = some t' → ∀ k, t'.get k = if k = n then x else t.get k := by
  intro f t n x t' h k
  unfold set at h
  split at h
  · rename_i hb
    rw [Nat.blt_eq] at hb
    cases h
    exact get_put x f t n (by omega) k
  · cases h
end Tr

/-! ### values over names -/
/-- what the names stand for: a block each, and its room -/
structure Val where
  blk : Nat → Nat
  cap : Nat → Nat

/-- a room as it is written: an even number says it outright; an odd one, how much less than the whole room of the block -/
def room (s : Val) (x c : Nat) : Nat := if c % 2 = 0 then c / 2 else s.cap x - c / 2

def concA (s : Val) (a : Addr) : Addr := { a with block := s.blk a.block }

def concFn (s : Val) : Fn → Fn
  | .yield l => .yield (s.blk l)
  | f => f

def conc (s : Val) : Value → Value
  | .pointer (some a) => .pointer (some (concA s a))
  | .slice (some a) n c => .slice (some (concA s a)) n (room s a.block c)
  | .map (some r) => .map (some (s.blk r))
  | .func fn f c => .func (concFn s fn) (f.map (conc s)) (c.map (conc s))
  | .iface t v => .iface t (conc s v)
  | .agg cs => .agg (cs.map (conc s))
  | .tuple vs => .tuple (vs.map (conc s))
  | v => v

/-- every name in a value meets S -/
def In (S : Nat → Prop) : Value → Prop
  | .pointer (some a) => S a.block
  | .slice (some a) _ _ => S a.block
  | .map (some r) => S r
  | .func fn f c => (∀ l, fn = .yield l → S l) ∧ (∀ v ∈ f, In S v) ∧ (∀ v ∈ c, In S v)
  | .iface _ v => In S v
  | .agg cs => ∀ v ∈ cs, In S v
  | .tuple vs => ∀ v ∈ vs, In S v
  | _ => True

theorem In.mono {S S' : Nat → Prop} (h : ∀ x, S x → S' x) : ∀ v, In S v → In S' v := by
  intro v
  induction v using In.induct with
  | case4 fn f c ih1 ih2 =>
    intro hv; simp only [In] at *
    exact ⟨fun l hl => h _ (hv.1 l hl), fun v hm => ih1 v hm (hv.2.1 v hm), fun v hm => ih2 v hm (hv.2.2 v hm)⟩
  | case5 t v ih => intro hv; simp only [In] at *; exact ih hv
  | case6 cs ih => intro hv; simp only [In] at *; exact fun v hm => ih v hm (hv v hm)
  | case7 cs ih => intro hv; simp only [In] at *; exact fun v hm => ih v hm (hv v hm)
  | _ => intro hv; simp_all [In]

/-- two valuations that agree on the names of a value give one value -/
theorem conc_agree {s s' : Val} : ∀ v, In (fun x => s.blk x = s'.blk x ∧ s.cap x = s'.cap x) v → conc s v = conc s' v := by
  intro v
  induction v using In.induct with
  | case1 a => intro h; simp only [In] at h; simp [conc, concA, h.1]
  | case2 a n c => intro h; simp only [In] at h; simp [conc, concA, room, h.1, h.2]
  | case3 r => intro h; simp only [In] at h; simp [conc, h.1]
  | case4 fn f c ih1 ih2 =>
    intro hv; simp only [In] at hv
    have e : concFn s fn = concFn s' fn := by
      cases fn <;> simp only [concFn]
      rename_i l; rw [(hv.1 l rfl).1]
    simp only [conc, e, Array.map_congr_left fun v hm => ih1 v hm (hv.2.1 v hm), Array.map_congr_left fun v hm => ih2 v hm (hv.2.2 v hm)]
  | case5 t v ih => intro hv; simp only [In] at hv; simp only [conc, ih hv]
  | case6 cs ih => intro hv; simp only [In] at hv; simp only [conc, Array.map_congr_left fun v hm => ih v hm (hv v hm)]
  | case7 cs ih => intro hv; simp only [In] at hv; simp only [conc, Array.map_congr_left fun v hm => ih v hm (hv v hm)]
  | case8 => intro _; simp only [conc]
end

section
/-! The abstract heap, and what one step does to it. -/
/-- what is no row of cells: the record of a range over a function, the block of its deferred calls -/
inductive Lp where
  | loop (st : LoopState) (pe : Option Code) (ps : Array Tmp) (assign body : Code)
  | dfr (taken : Bool)
  | map (keys : List Value) (borns : List Nat) (clock : Nat)

/-- a map's entries -/
def entsOf : List Value → List Nat → List Value → List MapEntry
  | k :: ks, n :: ns, v :: vs => ⟨k, v, n⟩ :: entsOf ks ns vs
  | _, _, _ => []

structure Blk where
  ty : TypeId
  /-- cells an element -/
  size : Nat
  /-- all cells are known -/
  exact : Bool
  cells : List Value
  lp : Option Lp

structure Hp where
  next : Nat
  tr : Tr Blk

def Hp.get (h : Hp) (x : Nat) : Option Blk := h.tr.get x
/-- a row of cells -/
def Hp.getC (h : Hp) (x : Nat) : Option Blk := match h.get x with
  | some b => match b.lp with
    | none => some b
    | some _ => none
  | none => none
theorem getC_some {h : Hp} {x : Nat} {b : Blk} (e : h.getC x = some b) : h.get x = some b ∧ b.lp = none := by
  unfold Hp.getC at e
  split at e
  · rename_i b' hb
    split at e
    · rename_i hl; cases e; exact ⟨hb, hl⟩
    · cases e
  · cases e
theorem getC_get {h : Hp} {x : Nat} {b : Blk} (e : h.getC x = some b) : h.get x = some b := (getC_some e).1
theorem getC_lp {h : Hp} {x : Nat} {b : Blk} (e : h.getC x = some b) : b.lp = none := (getC_some e).2
def Hp.put (h : Hp) (x : Nat) (b : Option Blk) : Option Hp := match h.tr.set 64 x b with
  | some t => some ⟨h.next, t⟩
  | none => none
def Hp.new (h : Hp) (b : Blk) : Option Hp := match h.tr.set 64 h.next (some b) with
  | some t => some ⟨h.next + 1, t⟩
  | none => none

theorem Hp.put_spec {h h' : Hp} {x : Nat} {b : Option Blk} (e : h.put x b = some h') : h'.next = h.next ∧ ∀ k, h'.get k = if k = x then b else h.get k := by
  unfold Hp.put at e
  split at e
  · rename_i t ht
    cases e
    exact ⟨rfl, fun k => Tr.get_set _ _ _ _ _ ht k⟩
  · cases e
theorem Hp.new_spec {h h' : Hp} {b : Blk} (e : h.new b = some h') : h'.next = h.next + 1 ∧ ∀ k, h'.get k = if k = h.next then some b else h.get k := by
  unfold Hp.new at e
  split at e
  · rename_i t ht
    cases e
    exact ⟨rfl, fun k => Tr.get_set _ _ _ _ _ ht k⟩
  · cases e

/-- A block is in the world as it is told. -/
def GoodC (s : Val) (x : Nat) (b : Blk) (w : World) : Prop :=
  ∃ (c : Array Value) (rest : List Value), w.heap[s.blk x]? = some (.cells c b.ty (0, 0)) ∧ c.toList = b.cells.map (conc s) ++ rest ∧
    (b.exact = true → rest = []) ∧ (b.exact = false → c.size = s.cap x * b.size)

def GoodL (s : Val) (x : Nat) (b : Blk) (w : World) : Lp → Prop
  | .loop st pe ps asg body => ∃ fn D ts, b.cells = .map (some D) :: ts ∧
      w.heap[s.blk x]? = some (.loop { state := st, pending := pe, fn := fn, tmps := (ts.map (conc s)).toArray, params := ps, assign := asg, body := body, defers := s.blk D })
  | .dfr t => w.heap[s.blk x]? = some (.deferred (match t with
    | true => none
    | false => some []))
  | .map ks ns ck => w.heap[s.blk x]? = some (.map (entsOf ks ns (b.cells.map (conc s))).toArray ck)
def Good (s : Val) (x : Nat) (b : Blk) (w : World) : Prop := (b.lp = none ∧ GoodC s x b w) ∨ ∃ L, b.lp = some L ∧ GoodL s x b w L
theorem Good.c {s : Val} {x : Nat} {b : Blk} {w : World} (h : Good s x b w) (hl : b.lp = none) : GoodC s x b w := by
  rcases h with h | ⟨L, h, _⟩
  · exact h.2
  · rw [hl] at h; cases h
theorem Good.l {s : Val} {x : Nat} {b : Blk} {w : World} {L : Lp} (h : Good s x b w) (hl : b.lp = some L) : GoodL s x b w L := by
  rcases h with h | ⟨L', h, h'⟩
  · rw [hl] at h; cases h.1
  · rw [hl] at h; cases h; exact h'

def Sat (s : Val) (h : Hp) (w : World) : Prop := ∀ x b, h.get x = some b → Good s x b w
theorem Sat.c {s : Val} {h : Hp} {w : World} (hs : Sat s h w) {x : Nat} {b : Blk} (e : h.getC x = some b) : GoodC s x b w := (hs x b (getC_get e)).c (getC_lp e)
def Inj (s : Val) (h : Hp) : Prop := ∀ x y b b', h.get x = some b → h.get y = some b' → s.blk x = s.blk y → x = y
/-- all names of a heap meet S; they are below the next one -/
def HIn (S : Nat → Prop) (h : Hp) : Prop := ∀ x b, h.get x = some b → S x ∧ x < h.next ∧ ∀ v ∈ b.cells, In S v

theorem HIn.mono {S S' : Nat → Prop} {h : Hp} (hs : ∀ x, S x → S' x) (hh : HIn S h) : HIn S' h :=
  fun x b e => ⟨hs x (hh x b e).1, (hh x b e).2.1, fun v hv => In.mono hs v ((hh x b e).2.2 v hv)⟩

/-- two valuations that agree on what stands in a block -/
theorem conc_list {s s' : Val} {S : Nat → Prop} (ha : ∀ x, S x → s.blk x = s'.blk x ∧ s.cap x = s'.cap x) (l : List Value) (h : ∀ v ∈ l, In S v) :
    l.map (conc s) = l.map (conc s') := List.map_congr_left fun v hv => conc_agree v (In.mono ha v (h v hv))

theorem Good.agree {s s' : Val} {S : Nat → Prop} (ha : ∀ x, S x → s.blk x = s'.blk x ∧ s.cap x = s'.cap x) {x : Nat} {b : Blk} {w : World}
    (hx : S x) (hv : ∀ v ∈ b.cells, In S v) (h : Good s x b w) : Good s' x b w := by
  rcases h with ⟨hl, c, rest, h1, h2, h3, h4⟩ | ⟨L, hl, h⟩
  · exact .inl ⟨hl, c, rest, by rw [← (ha x hx).1]; exact h1, by rw [← conc_list ha _ hv]; exact h2, h3, by rw [← (ha x hx).2]; exact h4⟩
  · refine .inr ⟨L, hl, ?_⟩
    cases L with
    | dfr t => simp only [GoodL] at h ⊢; rw [← (ha x hx).1]; exact h
    | map ks ns ck => simp only [GoodL] at h ⊢; rw [← (ha x hx).1, ← conc_list ha _ hv]; exact h
    | loop st pe ps asg body =>
      obtain ⟨fn, D, ts, h1, h2⟩ := h
      refine ⟨fn, D, ts, h1, ?_⟩
      rw [h1] at hv
      have hD : S D := by have := hv (.map (some D)) (by simp); simpa only [In] using this
      rw [← (ha x hx).1, ← (ha D hD).1, ← conc_list ha ts (fun v hvt => hv v (by simp [hvt]))]
      exact h2

theorem GoodC.world {s : Val} {x : Nat} {b : Blk} {w w' : World} (h : GoodC s x b w) (hw : w'.heap[s.blk x]? = w.heap[s.blk x]?) : GoodC s x b w' := by
  obtain ⟨c, rest, h1, h2⟩ := h
  exact ⟨c, rest, by rw [hw]; exact h1, h2⟩
theorem Good.world {s : Val} {x : Nat} {b : Blk} {w w' : World} (h : Good s x b w) (hw : w'.heap[s.blk x]? = w.heap[s.blk x]?) : Good s x b w' := by
  rcases h with ⟨hl, h⟩ | ⟨L, hl, h⟩
  · exact .inl ⟨hl, h.world hw⟩
  · refine .inr ⟨L, hl, ?_⟩
    cases L with
    | dfr t => simp only [GoodL] at h ⊢; rw [hw]; exact h
    | map ks ns ck => simp only [GoodL] at h ⊢; rw [hw]; exact h
    | loop st pe ps asg body =>
      obtain ⟨fn, D, ts, h1, h2⟩ := h
      exact ⟨fn, D, ts, h1, by rw [hw]; exact h2⟩

theorem Good.lt {s : Val} {x : Nat} {b : Blk} {w : World} (h : Good s x b w) : s.blk x < w.heap.size := by
  rcases h with ⟨hl, c, rest, h1, h2⟩ | ⟨L, hl, h⟩
  · exact (Array.getElem?_eq_some_iff.1 h1).1
  · cases L with
    | dfr t => simp only [GoodL] at h; exact (Array.getElem?_eq_some_iff.1 h).1
    | map ks ns ck => simp only [GoodL] at h; exact (Array.getElem?_eq_some_iff.1 h).1
    | loop st pe ps asg body =>
      obtain ⟨fn, D, ts, h1, h2⟩ := h
      exact (Array.getElem?_eq_some_iff.1 h2).1

structure Post (s s' : Val) (B B' : Hp) (w w' : World) (wr : List Nat) : Prop where
  off : ∀ x, x < B.next ∨ B'.next ≤ x → s'.blk x = s.blk x ∧ s'.cap x = s.cap x
  mono : B.next ≤ B'.next
  sat : Sat s' B' w'
  inj : Inj s' B'
  dom : ∀ x b, B'.get x = some b → x < B.next → ∃ b', B.get x = some b'
  old : ∀ x, x < B.next → x ∉ wr → B'.get x = B.get x
  fresh : ∀ x b, B'.get x = some b → B.next ≤ x → w.heap.size ≤ s'.blk x ∨ ∃ y ∈ wr, s'.blk x = s.blk y
  frame : ∀ b, b < w.heap.size → (∀ y ∈ wr, s.blk y ≠ b) → w'.heap[b]? = w.heap[b]?
  size : w.heap.size ≤ w'.heap.size
  os : w'.os = w.os
  tape : w'.tape = w.tape
  output : w'.output = w.output
  wrOld : ∀ y ∈ wr, y < B.next ∧ ∃ b, B.get y = some b

theorem Post.refl {s : Val} {B : Hp} {w : World} (hs : Sat s B w) (hi : Inj s B) (hn : HIn (· < B.next) B) : Post s s B B w w [] where
  off _ _ := ⟨rfl, rfl⟩
  mono := Nat.le_refl _
  sat := hs
  inj := hi
  dom x b h _ := ⟨b, h⟩
  old _ _ _ := rfl
  fresh x b h hx := absurd (hn x b h).1 (by omega)
  frame _ _ _ := rfl
  size := Nat.le_refl _
  os := rfl
  tape := rfl
  output := rfl
  wrOld _ h := by simp at h

theorem Post.congr {s s' : Val} {B B' : Hp} {w w' : World} {wr wr' : List Nat} (h : Post s s' B B' w w' wr) (e : ∀ y, y ∈ wr' ↔ y ∈ wr) : Post s s' B B' w w' wr' where
  off := h.off
  mono := h.mono
  sat := h.sat
  inj := h.inj
  dom := h.dom
  old x hx hn := h.old x hx fun hh => hn ((e x).2 hh)
  fresh x b hb hx := (h.fresh x b hb hx).imp id fun ⟨y, hy, he⟩ => ⟨y, (e y).2 hy, he⟩
  frame b hb hn := h.frame b hb fun y hy => hn y ((e y).2 hy)
  size := h.size
  os := h.os
  tape := h.tape
  output := h.output
  wrOld y hy := h.wrOld y ((e y).1 hy)

/-- names that a piece wrote, and the ones of the next piece, as far as they were there before -/
def joinWr (lo : Nat) (l m : List Nat) : List Nat :=
  List.rec (motive := fun _ => List Nat → List Nat) (fun l => l) (fun y _ ih l => ih (Bool.rec (motive := fun _ => List Nat) (Bool.rec (motive := fun _ => List Nat) (y :: l) l (l.contains y)) l (Nat.ble lo y))) m l

theorem mem_joinWr (lo : Nat) : ∀ (m l : List Nat) (y : Nat), y ∈ joinWr lo l m ↔ y ∈ l ∨ (y ∈ m ∧ y < lo) := by
  intro m
  induction m with
  | nil => intro l y; simp [joinWr]
  | cons z m ih =>
    intro l y
    show y ∈ joinWr lo (Bool.rec (motive := fun _ => List Nat) (Bool.rec (motive := fun _ => List Nat) (z :: l) l (l.contains z)) l (Nat.ble lo z)) m ↔ _
    rw [ih]
    have e0 : (Bool.rec (motive := fun _ => List Nat) (Bool.rec (motive := fun _ => List Nat) (z :: l) l (l.contains z)) l (Nat.ble lo z)) = match (Nat.ble lo z || l.contains z) with
        | true => l
        | false => z :: l := by
      cases Nat.ble lo z <;> cases l.contains z <;> rfl
    rw [e0]
    cases hb : (Nat.ble lo z || l.contains z) with
    | true =>
      simp only [hb]
      simp only [Bool.or_eq_true, List.contains_iff_mem] at hb
      have hz : lo ≤ z ∨ z ∈ l := hb.imp Nat.le_of_ble_eq_true id
      simp only [List.mem_cons]
      constructor
      · rintro (h | h)
        · exact .inl h
        · exact .inr ⟨.inr h.1, h.2⟩
      · rintro (h | ⟨h | h, h2⟩)
        · exact .inl h
        · subst h
          rcases hz with hz | hz
          · omega
          · exact .inl hz
        · exact .inr ⟨h, h2⟩
    | false =>
      simp only [hb]
      simp only [Bool.or_eq_false_iff] at hb
      have hz : z < lo := by
        rcases Nat.lt_or_ge z lo with h | h
        · exact h
        · have := Nat.ble_eq_true_of_le h; simp [this] at hb
      simp only [List.mem_cons]
      constructor
      · rintro ((h | h) | h)
        · subst h; exact .inr ⟨.inl rfl, hz⟩
        · exact .inl h
        · exact .inr ⟨.inr h.1, h.2⟩
      · rintro (h | ⟨h | h, h2⟩)
        · exact .inl (.inr h)
        · exact .inl (.inl h)
        · exact .inr ⟨h, h2⟩

theorem Post.trans {s s1 s2 : Val} {B B1 B2 : Hp} {w w1 w2 : World} {wr1 wr2 : List Nat} (h1 : Post s s1 B B1 w w1 wr1) (h2 : Post s1 s2 B1 B2 w1 w2 wr2) :
    Post s s2 B B2 w w2 (joinWr B.next wr1 wr2) where
  off x hx := by
    have m1 := h1.mono
    have m2 := h2.mono
    have a := h1.off x (by omega)
    have b := h2.off x (by omega)
    exact ⟨b.1.trans a.1, b.2.trans a.2⟩
  mono := Nat.le_trans h1.mono h2.mono
  sat := h2.sat
  inj := h2.inj
  dom x b hb hx := by
    have m1 := h1.mono
    obtain ⟨b', hb'⟩ := h2.dom x b hb (by omega)
    exact h1.dom x b' hb' hx
  old x hx hn := by
    rw [mem_joinWr] at hn
    have m1 := h1.mono
    rw [h2.old x (by omega) (fun h => hn (.inr ⟨h, hx⟩)), h1.old x hx (fun h => hn (.inl h))]
  fresh x b hb hx := by
    have m1 := h1.mono
    have z1 := h1.size
    by_cases hx1 : B1.next ≤ x
    · rcases h2.fresh x b hb hx1 with h | ⟨y, hy, he⟩
      · exact .inl (by omega)
      · obtain ⟨hy1, b', hb'⟩ := h2.wrOld y hy
        by_cases hyB : y < B.next
        · exact .inr ⟨y, (mem_joinWr _ _ _ _).2 (.inr ⟨hy, hyB⟩), by rw [he, (h1.off y (by omega)).1]⟩
        · rcases h1.fresh y b' hb' (by omega) with h | ⟨z, hz, he'⟩
          · exact .inl (by omega)
          · exact .inr ⟨z, (mem_joinWr _ _ _ _).2 (.inl hz), by rw [he, he']⟩
    · obtain ⟨b', hb'⟩ := h2.dom x b hb (by omega)
      have e := (h2.off x (by omega)).1
      rcases h1.fresh x b' hb' hx with h | ⟨z, hz, he'⟩
      · exact .inl (by omega)
      · exact .inr ⟨z, (mem_joinWr _ _ _ _).2 (.inl hz), by rw [e, he']⟩
  frame b hb hn := by
    have z1 := h1.size
    rw [h2.frame b (by omega) ?_, h1.frame b hb fun y hy => hn y ((mem_joinWr _ _ _ _).2 (.inl hy))]
    intro y hy
    obtain ⟨hy1, b', hb'⟩ := h2.wrOld y hy
    by_cases hyB : y < B.next
    · rw [(h1.off y (by omega)).1]; exact hn y ((mem_joinWr _ _ _ _).2 (.inr ⟨hy, hyB⟩))
    · rcases h1.fresh y b' hb' (by omega) with h | ⟨z, hz, he'⟩
      · omega
      · rw [he']; exact hn z ((mem_joinWr _ _ _ _).2 (.inl hz))
  size := Nat.le_trans h1.size h2.size
  os := h2.os.trans h1.os
  tape := h2.tape.trans h1.tape
  output := h2.output.trans h1.output
  wrOld y hy := by
    rcases (mem_joinWr _ _ _ _).1 hy with h | ⟨h, hlt⟩
    · exact h1.wrOld y h
    · obtain ⟨_, b', hb'⟩ := h2.wrOld y h
      exact ⟨hlt, h1.dom y b' hb' hlt⟩

/-- the names of before mean what they meant -/
theorem Post.keep {s s' : Val} {B B' : Hp} {w w' : World} {wr : List Nat} (h : Post s s' B B' w w' wr) {v : Value} (hv : In (· < B.next) v) : conc s' v = conc s v :=
  conc_agree v (In.mono (fun x hx => h.off x (.inl hx)) v hv)

/-- The valuation with one more name. -/
def Val.with (s : Val) (x b c : Nat) : Val := { blk := fun y => if y = x then b else s.blk y, cap := fun y => if y = x then c else s.cap y }
theorem Val.with_off {s : Val} {x b c y : Nat} (h : y ≠ x) : (s.with x b c).blk y = s.blk y ∧ (s.with x b c).cap y = s.cap y := by simp [Val.with, h]
theorem Val.with_blk {s : Val} {x b c : Nat} : (s.with x b c).blk x = b := by simp [Val.with]
theorem Val.with_cap {s : Val} {x b c : Nat} : (s.with x b c).cap x = c := by simp [Val.with]

/-- A new block in a world that has drawn, perhaps. -/
theorem Post.newG {s : Val} {B B' : Hp} {w w' : World} {b : Blk} {o : Obj} {n : Nat} (hs : Sat s B w) (hi : Inj s B) (hn : HIn (· < B.next) B) (e : B.new b = some B')
    (hv : ∀ v ∈ b.cells, In (· < B.next) v) (hgood : w'.heap[w.heap.size]? = some o → Good (s.with B.next w.heap.size n) B.next b w')
    (hw : w'.heap = w.heap.push o) (hos : w'.os = w.os) (ht : w'.tape = w.tape) (hou : w'.output = w.output) :
    Post s (s.with B.next w.heap.size n) B B' w w' [] := by
  obtain ⟨e1, e2⟩ := Hp.new_spec e
  have agree : ∀ x, x < B.next → s.blk x = (s.with B.next w.heap.size n).blk x ∧ s.cap x = (s.with B.next w.heap.size n).cap x := fun x hx => by
    have := Val.with_off (s := s) (x := B.next) (b := w.heap.size) (c := n) (y := x) (by omega)
    exact ⟨this.1.symm, this.2.symm⟩
  have hold : ∀ k, k < w.heap.size → w'.heap[k]? = w.heap[k]? := fun k hk => by rw [hw, Array.getElem?_push, if_neg (by omega)]
  exact {
    off := fun x hx => Val.with_off (by omega)
    mono := by omega
    sat := fun x b' hb => by
      rw [e2] at hb
      split at hb
      · rename_i hxe; subst hxe; cases hb
        exact hgood (by rw [hw]; simp)
      · have := hn x b' hb
        refine ((hs x b' hb).world (hold _ (hs x b' hb).lt)).agree (S := (· < B.next)) agree this.1 this.2.2
    inj := fun x y b1 b2 h1 h2 he => by
      rw [e2] at h1 h2
      split at h1 <;> split at h2
      · omega
      · rename_i hx hy; subst hx
        rw [Val.with_blk, (Val.with_off hy).1] at he
        have := (hs y b2 h2).lt; omega
      · rename_i hx hy; subst hy
        rw [Val.with_blk, (Val.with_off hx).1] at he
        have := (hs x b1 h1).lt; omega
      · rename_i hx hy
        rw [(Val.with_off hx).1, (Val.with_off hy).1] at he
        exact hi x y b1 b2 h1 h2 he
    dom := fun x b' hb hx => by rw [e2, if_neg (by omega)] at hb; exact ⟨b', hb⟩
    old := fun x hx _ => by rw [e2, if_neg (by omega)]
    fresh := fun x b' hb hx => by
      rw [e2] at hb
      split at hb
      · rename_i hxe; subst hxe; rw [Val.with_blk]; exact .inl (Nat.le_refl _)
      · exact absurd (hn x b' hb).2.1 (by omega)
    frame := fun k hk _ => hold k hk
    size := by rw [hw]; simp
    os := hos
    tape := ht
    output := hou
    wrOld := fun y hy => by simp at hy }

/-- A new block in a world that has drawn, perhaps. -/
theorem Post.new {s : Val} {B B' : Hp} {w w' : World} {b : Blk} {c : Array Value} {rest : List Value} {n : Nat} (hs : Sat s B w) (hi : Inj s B) (hn : HIn (· < B.next) B) (e : B.new b = some B')
    (hv : ∀ v ∈ b.cells, In (· < B.next) v) (hc : c.toList = b.cells.map (conc s) ++ rest) (hx : b.exact = true → rest = []) (ho : b.exact = false → c.size = n * b.size)
    (hw : w'.heap = w.heap.push (.cells c b.ty (0, 0))) (hos : w'.os = w.os) (ht : w'.tape = w.tape) (hou : w'.output = w.output) (hl : b.lp = none := by rfl) :
    Post s (s.with B.next w.heap.size n) B B' w w' [] := by
  refine Post.newG hs hi hn e hv (fun hg => ?_) hw hos ht hou
  have agree : ∀ x, x < B.next → s.blk x = (s.with B.next w.heap.size n).blk x ∧ s.cap x = (s.with B.next w.heap.size n).cap x := fun x hx => by
    have := Val.with_off (s := s) (x := B.next) (b := w.heap.size) (c := n) (y := x) (by omega)
    exact ⟨this.1.symm, this.2.symm⟩
  exact .inl ⟨hl, c, rest, by rw [Val.with_blk]; exact hg, by rw [← conc_list agree _ hv]; exact hc, hx, by rw [Val.with_cap]; exact ho⟩

/-- A known block is written. -/
theorem Post.setG {s : Val} {B B' : Hp} {w w' : World} {x : Nat} {b b' : Blk} {o : Obj} (hs : Sat s B w) (hi : Inj s B) (hn : HIn (· < B.next) B)
    (hx : B.get x = some b) (e : B.put x (some b') = some B') (hgood : w'.heap[s.blk x]? = some o → Good s x b' w')
    (hw : w'.heap = w.heap.setIfInBounds (s.blk x) o) (hos : w'.os = w.os) (ht : w'.tape = w.tape) (hou : w'.output = w.output) :
    Post s s B B' w w' [x] := by
  obtain ⟨e1, e2⟩ := Hp.put_spec e
  have hlt := (hs x b hx).lt
  exact {
    off := fun _ _ => ⟨rfl, rfl⟩
    mono := by omega
    sat := fun y by' hy => by
      rw [e2] at hy
      split at hy
      · rename_i hxe; subst hxe; cases hy
        exact hgood (by rw [hw]; simp [hlt])
      · rename_i hxe
        refine (hs y by' hy).world ?_
        rw [hw, Array.getElem?_setIfInBounds_ne fun he => hxe (hi y x _ _ hy hx he.symm)]
    inj := fun y z b1 b2 h1 h2 he => by
      rw [e2] at h1 h2
      split at h1 <;> split at h2
      · omega
      · rename_i hxe _; subst hxe; exact hi _ _ _ _ hx h2 he
      · rename_i _ hxe; subst hxe; exact hi _ _ _ _ h1 hx he
      · exact hi _ _ _ _ h1 h2 he
    dom := fun y b1 h1 _ => by
      rw [e2] at h1
      split at h1
      · rename_i hxe; subst hxe; exact ⟨b, hx⟩
      · exact ⟨b1, h1⟩
    old := fun y _ hy => by rw [e2, if_neg (by simpa using hy)]
    fresh := fun y b1 h1 hy => by
      rw [e2] at h1
      split at h1
      · rename_i hxe; subst hxe; exact absurd (hn _ _ hx).2.1 (by omega)
      · exact absurd (hn _ _ h1).2.1 (by omega)
    frame := fun k hk hne => by rw [hw, Array.getElem?_setIfInBounds_ne (hne x (by simp))]
    size := by rw [hw]; simp
    os := hos
    tape := ht
    output := hou
    wrOld := fun y hy => by simp only [List.mem_singleton] at hy; subst hy; exact ⟨(hn _ _ hx).2.1, b, hx⟩ }

/-- A known row is written. -/
theorem Post.set {s : Val} {B B' : Hp} {w w' : World} {x : Nat} {b b' : Blk} {c' : Array Value} {rest : List Value} (hs : Sat s B w) (hi : Inj s B) (hn : HIn (· < B.next) B)
    (hx : B.getC x = some b) (e : B.put x (some b') = some B') (hb : b'.ty = b.ty ∧ b'.size = b.size ∧ b'.exact = b.exact ∧ b'.lp = b.lp)
    (hc : c'.toList = b'.cells.map (conc s) ++ rest) (hr : b.exact = true → rest = []) (ho : b.exact = false → c'.size = s.cap x * b.size)
    (hw : w'.heap = w.heap.setIfInBounds (s.blk x) (.cells c' b.ty (0, 0))) (hos : w'.os = w.os) (ht : w'.tape = w.tape) (hou : w'.output = w.output) :
    Post s s B B' w w' [x] := by
  refine Post.setG hs hi hn (getC_get hx) e (fun hg => ?_) hw hos ht hou
  exact .inl ⟨hb.2.2.2.trans (getC_lp hx), c', rest, by rw [hb.1]; exact hg, hc, by rw [hb.2.2.1]; exact hr, by rw [hb.2.2.1, hb.2.1]; exact ho⟩
end

section
/-! One operation at a time: what it yields over names, and that the machine does so. First those that only read, or make. -/
/-! ### values that name nothing -/
def flat : Value → Bool
  | .bool _ => true
  | .int _ _ => true
  | .string _ => true
  | .float _ _ => true
  | .nilFunc => true
  | .nilIface => true
  | .pointer none => true
  | .map none => true
  | .slice none _ _ => true
  | .func (.func _) ⟨[]⟩ ⟨[]⟩ => true
  | _ => false
def flat2 : Value → Bool
  | .agg cs => cs.toList.all flat
  | .tuple cs => cs.toList.all flat
  | v => flat v
def pureV : Value → Bool
  | .tuple cs => cs.toList.all flat2
  | v => flat2 v

theorem conc_flat {s : Val} {v : Value} (h : flat v = true) : conc s v = v ∧ ∀ S, In S v := by
  unfold flat at h
  split at h <;> first | (cases h; done) | skip
  all_goals first | (simp [conc, In]; done) | (simp [conc, In, concFn])
theorem map_id_of {s : Val} {f : Value → Bool} (hf : ∀ v, f v = true → conc s v = v ∧ ∀ S, In S v) {cs : Array Value} (h : cs.toList.all f = true) :
    cs.map (conc s) = cs ∧ ∀ S, ∀ v ∈ cs, In S v := by
  have hm : ∀ v ∈ cs, f v = true := fun v hv => List.all_eq_true.1 h v (by simpa using hv)
  refine ⟨?_, fun S v hv => (hf v (hm v hv)).2 S⟩
  conv => rhs; rw [← Array.map_id cs]
  exact Array.map_congr_left fun v hv => (hf v (hm v hv)).1
theorem conc_flat2 {s : Val} {v : Value} (h : flat2 v = true) : conc s v = v ∧ ∀ S, In S v := by
  unfold flat2 at h
  split at h
  · have := map_id_of (s := s) (fun v => conc_flat) h; simp only [conc, In]; exact ⟨by rw [this.1], this.2⟩
  · have := map_id_of (s := s) (fun v => conc_flat) h; simp only [conc, In]; exact ⟨by rw [this.1], this.2⟩
  · exact conc_flat h
theorem conc_pure {s : Val} {v : Value} (h : pureV v = true) : conc s v = v ∧ ∀ S, In S v := by
  unfold pureV at h
  split at h
  · have := map_id_of (s := s) (fun v => conc_flat2) h; simp only [conc, In]; exact ⟨by rw [this.1], this.2⟩
  · exact conc_flat2 h

theorem cells_conc (s : Val) (v : Value) : (conc s v).cells = v.cells.map (conc s) := by
  cases v with
  | pointer a => cases a <;> simp [conc, Value.cells]
  | slice a n c => cases a <;> simp [conc, Value.cells]
  | map r => cases r <;> simp [conc, Value.cells]
  | _ => simp [conc, Value.cells]
theorem one_conc (s : Val) (v : Value) : (conc s v).oneCell' = v.oneCell' := by
  cases v with
  | pointer a => cases a <;> simp [conc, Value.oneCell']
  | slice a n c => cases a <;> simp [conc, Value.oneCell']
  | map r => cases r <;> simp [conc, Value.oneCell']
  | _ => simp [conc, Value.oneCell']
theorem in_cells {S : Nat → Prop} {v : Value} (h : In S v) : ∀ u ∈ v.cells.toList, In S u := by
  cases v <;> simp only [Value.cells] <;> intro u hu <;> first
    | (simp only [List.mem_singleton] at hu; subst hu; exact h)
    | (simp only [In] at h; exact h u (by simpa using hu))

/-- A computation that asks nothing but the program. -/
def runP {α : Type} (P : Program) : Sem α → Option α
  | .pure a => some a
  | .program k => runP P (k P)
  | _ => none
theorem runP_run {α : Type} {P : Program} : ∀ (m : Sem α) (a : α), runP P m = some a → ∀ w, m.run P w = .ok a w := by
  intro m
  induction m with
  | pure b => intro a h w; simp only [runP, Option.some.injEq] at h; subst h; rfl
  | program k ih => intro a h w; simp only [runP] at h; exact ih P a h w
  | _ => intro a h w; simp [runP] at h

structure Pre (s : Val) (h : Hp) (w : World) : Prop where
  sat : Sat s h w
  inj : Inj s h
  hin : HIn (· < h.next) h

section
variable {P : Program} {s : Val} {h : Hp} {w : World}

theorem GoodC.cell {x : Nat} {b : Blk} (hg : GoodC s x b w) {j : Nat} {v : Value} (hv : b.cells[j]? = some v) : w.cell? ⟨s.blk x, j, none⟩ = some (conc s v) := by
  obtain ⟨c, rest, h1, h2, _⟩ := hg
  have hlt : j < b.cells.length := (List.getElem?_eq_some_iff.1 hv).1
  have : c[j]? = some (conc s v) := by
    rw [← Array.getElem?_toList, h2, List.getElem?_append_left (by simpa using hlt), List.getElem?_map, hv]; rfl
  simp [World.cell?, h1, this]

theorem add_lit (b o n : Nat) : (⟨b, o, none⟩ : Addr).add n = ⟨b, o + n, none⟩ := by unfold Addr.add; split <;> simp_all

/-! ### load -/
def isAggD : TypeDesc → Bool
  | .struct _ => true
  | .array _ _ => true
  | _ => false

def aLoad (P : Program) (t : TypeId) (v : Value) (h : Hp) : Option Value :=
  match v with
  | .pointer (some ⟨x, off, none⟩) =>
    match h.getC x, P.underlying t with
    | some b, some d =>
      match isAggD d with
      | true =>
        match P.info? t with
        | some i =>
          match Nat.ble (off + i.size) b.cells.length with
          | true => some (.agg ((b.cells.drop off).take i.size).toArray)
          | false => none
        | none => none
      | false => b.cells[off]?
    | _, _ => none
  | _ => none

theorem isAgg_run {t : TypeId} {d : TypeDesc} (hd : P.underlying t = some d) : (isAgg t).run P w = .ok (isAggD d) w := by
  cases d <;> simp [isAgg, run_underlying hd, isAggD]

theorem load_sem {t : TypeId} {v u : Value} (hp : Pre s h w) (e : aLoad P t v h = some u) : ∃ a, conc s v = .pointer (some a) ∧ (loadVar t a).run P w = .ok (conc s u) w := by
  unfold aLoad at e
  split at e
  case h_2 => cases e
  rename_i x off
  split at e
  case h_2 => cases e
  rename_i b d hb hd
  have hg := hp.sat.c hb
  refine ⟨concA s ⟨x, off, none⟩, by simp only [conc], ?_⟩
  simp only [concA]
  split at e
  · rename_i ha
    split at e
    case h_2 => cases e
    rename_i i hi
    split at e
    case h_2 => cases e
    rename_i hle
    have hle' := Nat.le_of_ble_eq_true hle
    cases e
    have hl : (loadCells ⟨s.blk x, off, none⟩ (((b.cells.drop off).take i.size).map (conc s)).length).run P w = .ok (((b.cells.drop off).take i.size).map (conc s)).toArray w :=
      run_loadCells_list w _ _ fun j v hv => by
        rw [add_lit]
        rw [List.getElem?_map, List.getElem?_take, Option.map_eq_some_iff] at hv
        obtain ⟨v', hv, rfl⟩ := hv
        split at hv
        · rw [List.getElem?_drop] at hv; exact hg.cell hv
        · cases hv
    have hlen : (((b.cells.drop off).take i.size).map (conc s)).length = i.size := by simp; omega
    rw [hlen] at hl
    simp only [loadVar, Sem.run_bind, isAgg_run hd, ha, Result.andThen_ok, if_true, sizeOf, typeInfo]
    simp [hi, hl, conc]
  · rename_i ha
    simp only [loadVar, Sem.run_bind, isAgg_run hd, ha, Result.andThen_ok, Bool.false_eq_true, if_false, run_load, hg.cell e]

theorem load_in {S : Nat → Prop} {t : TypeId} {v u : Value} (hn : HIn S h) (e : aLoad P t v h = some u) : In S u := by
  unfold aLoad at e
  split at e
  case h_2 => cases e
  split at e
  case h_2 => cases e
  rename_i x off _ _ b d hb hd
  have hc := (hn x b (getC_get hb)).2.2
  split at e
  · split at e
    case h_2 => cases e
    split at e
    case h_2 => cases e
    cases e
    simp only [In]
    intro v hv
    exact hc v (List.mem_of_mem_drop (List.mem_of_mem_take (by simpa using hv)))
  · exact hc u (List.mem_of_getElem? e)

/-! ### store -/
def aStore (P : Program) (t : TypeId) (v u : Value) (h : Hp) : Option (Hp × Nat) :=
  match v with
  | .pointer (some ⟨x, off, none⟩) =>
    match h.getC x, P.info? t with
    | some b, some i =>
      let cs := u.cells.toList
      match Nat.beq cs.length i.size && Nat.ble (off + cs.length) b.cells.length && cs.all (·.oneCell') with
      | true => match h.put x (some { b with cells := b.cells.take off ++ cs ++ b.cells.drop (off + cs.length) }) with
        | some h' => some (h', x)
        | none => none
      | false => none
    | _, _ => none
  | _ => none

theorem row_of_good {x : Nat} {b : Blk} (hg : GoodC s x b w) {off : Nat} {cs : List Value} (hl : off + cs.length ≤ b.cells.length) :
    ∃ (c : Array Value) (rest : List Value), w.heap[s.blk x]? = some (.cells c b.ty (0, 0)) ∧ off + (cs.map (conc s)).length ≤ c.size ∧
      (c.toList.take off ++ cs.map (conc s) ++ c.toList.drop (off + (cs.map (conc s)).length)) = (b.cells.take off ++ cs ++ b.cells.drop (off + cs.length)).map (conc s) ++ rest ∧
      (b.exact = true → rest = []) ∧ (b.exact = false → (c.toList.take off ++ cs.map (conc s) ++ c.toList.drop (off + (cs.map (conc s)).length)).length = s.cap x * b.size) := by
  obtain ⟨c, rest, h1, h2, h3, h4⟩ := hg
  have hsz : c.size = b.cells.length + rest.length := by rw [← Array.length_toList, h2]; simp
  refine ⟨c, rest, h1, by simp; omega, ?_, h3, fun he => ?_⟩
  · rw [h2]
    simp only [List.map_append, List.length_map, List.map_take, List.map_drop]
    rw [List.take_append_of_le_length (by simp; omega), List.drop_append_of_le_length (by simp; omega)]
    simp [List.append_assoc]
  · rw [← h4 he]
    simp; omega

theorem store_sem {t : TypeId} {v u : Value} {h' : Hp} {x : Nat} (hp : Pre s h w) (e : aStore P t v u h = some (h', x)) :
    ∃ w' a, conc s v = .pointer (some a) ∧ (storeVar t a (conc s u)).run P w = .ok () w' ∧ Post s s h h' w w' [x] := by
  unfold aStore at e
  split at e
  case h_2 => cases e
  rename_i y off
  split at e
  case h_2 => cases e
  rename_i b i hb hi
  simp only at e
  split at e
  case h_2 => cases e
  rename_i hc
  simp only [Bool.and_eq_true] at hc
  obtain ⟨⟨hc1, hc2⟩, hc3⟩ := hc
  have hc1 := Nat.eq_of_beq_eq_true hc1
  have hc2 := Nat.le_of_ble_eq_true hc2
  split at e
  case h_2 => cases e
  rename_i h1 hput
  simp only [Option.some.injEq, Prod.mk.injEq] at e
  obtain ⟨rfl, rfl⟩ := e
  have hg := hp.sat.c hb
  obtain ⟨c, rest, g1, g2, g3, g4, g5⟩ := row_of_good hg hc2
  have hcells : (conc s u).cells = (u.cells.toList.map (conc s)).toArray := by rw [cells_conc]; apply Array.ext'; simp
  have hst := run_storeCells_at P (s.blk y) off b.ty (u.cells.toList.map (conc s)) 0 c w g1 (by simpa using g2) (by
    intro v hv
    obtain ⟨v', hv', rfl⟩ := List.mem_map.1 hv
    rw [one_conc]; exact List.all_eq_true.1 hc3 v' hv')
  refine ⟨w.setRow (s.blk y) (c.toList.take off ++ u.cells.toList.map (conc s) ++ c.toList.drop (off + (u.cells.toList.map (conc s)).length)).toArray, concA s ⟨y, off, none⟩, by simp only [conc], ?_, ?_⟩
  · simp only [concA]
    have hsz : (conc s u).cells.size = i.size := by rw [hcells]; simp; simpa using hc1
    simp only [Nat.add_zero] at hst
    simp only [storeVar, Sem.run_bind, sizeOf, typeInfo]
    simp [hi, hsz]
    rw [hcells]
    simpa using hst
  · refine Post.set (b' := { b with cells := b.cells.take off ++ u.cells.toList ++ b.cells.drop (off + u.cells.toList.length) }) (rest := rest)
      (c' := (c.toList.take off ++ u.cells.toList.map (conc s) ++ c.toList.drop (off + (u.cells.toList.map (conc s)).length)).toArray) hp.sat hp.inj hp.hin hb hput ⟨rfl, rfl, rfl, rfl⟩ ?_ g4 ?_ ?_ rfl rfl rfl
    · simpa using g3
    · intro he; simpa using g5 he
    · have := (Array.getElem?_eq_some_iff.1 g1)
      obtain ⟨hlt, hv⟩ := this
      simp only [World.setRow]
      apply Array.ext_getElem?
      intro k
      by_cases hk : k = s.blk y
      · subst hk; simp [hlt, Array.getElem_modify_self, hv]
      · rw [Array.getElem?_setIfInBounds_ne (Ne.symm hk)]; simp [Array.getElem?_modify, Ne.symm hk]

theorem store_in {S : Nat → Prop} {t : TypeId} {v u : Value} {h' : Hp} {x : Nat} (hn : HIn S h) (hu : In S u) (e : aStore P t v u h = some (h', x)) : HIn S h' ∧ h'.next = h.next := by
  unfold aStore at e
  split at e
  case h_2 => cases e
  split at e
  case h_2 => cases e
  rename_i y off _ _ b i hb hi
  simp only at e
  split at e
  case h_2 => cases e
  split at e
  case h_2 => cases e
  rename_i h1 hput
  simp only [Option.some.injEq, Prod.mk.injEq] at e
  obtain ⟨rfl, rfl⟩ := e
  obtain ⟨e1, e2⟩ := Hp.put_spec hput
  refine ⟨fun k b' hk => ?_, e1⟩
  rw [e2] at hk
  split at hk
  · rename_i hke; subst hke; cases hk
    have hh := hn _ b (getC_get hb)
    refine ⟨hh.1, by rw [e1]; exact hh.2.1, fun v hv => ?_⟩
    simp only [List.mem_append] at hv
    rcases hv with (hv | hv) | hv
    · exact hh.2.2 v (List.mem_of_mem_take hv)
    · exact in_cells hu v hv
    · exact hh.2.2 v (List.mem_of_mem_drop hv)
  · have hh := hn _ b' hk
    exact ⟨hh.1, by rw [e1]; exact hh.2.1, hh.2.2⟩
end
end

section
/-! Operations that make, and those that reckon with addresses. -/
section
variable {P : Program} {s : Val} {h : Hp} {w : World}

/-! ### a new block, all of it known -/
def aNew (e : TypeId) (size : Nat) (cells : List Value) (h : Hp) : Option (Nat × Hp) :=
  match h.new ⟨e, size, true, cells, none⟩ with
  | some h' => some (h.next, h')
  | none => none

theorem new_sem {e : TypeId} {size : Nat} {cells : List Value} {h' : Hp} {x : Nat} (hp : Pre s h w) (hc : ∀ v ∈ cells, In (· < h.next) v) (he : aNew e size cells h = some (x, h')) :
    ∃ s', Post s s' h h' w (w.alloc (.cells (cells.map (conc s)).toArray e)) [] ∧ s'.blk x = w.heap.size := by
  unfold aNew at he
  split at he
  case h_2 => cases he
  rename_i h1 hn
  simp only [Option.some.injEq, Prod.mk.injEq] at he
  obtain ⟨rfl, rfl⟩ := he
  refine ⟨_, Post.new (n := 0) (rest := []) (c := (cells.map (conc s)).toArray) hp.sat hp.inj hp.hin hn hc (by simp) (fun _ => rfl) (fun hf => by cases hf) rfl rfl rfl rfl, Val.with_blk⟩

theorem new_in {S : Nat → Prop} {e : TypeId} {size : Nat} {cells : List Value} {h' : Hp} {x : Nat} (hn : HIn S h) (hc : ∀ v ∈ cells, In S v) (he : aNew e size cells h = some (x, h')) (hS : ∀ y, h.next ≤ y → y < h'.next → S y) :
    HIn S h' ∧ h'.next = h.next + 1 ∧ x = h.next := by
  unfold aNew at he
  split at he
  case h_2 => cases he
  rename_i h1 hnew
  simp only [Option.some.injEq, Prod.mk.injEq] at he
  obtain ⟨rfl, rfl⟩ := he
  obtain ⟨e1, e2⟩ := Hp.new_spec hnew
  refine ⟨fun k b hk => ?_, e1, rfl⟩
  rw [e2] at hk
  split at hk
  · rename_i hke; cases hk; subst hke; exact ⟨hS _ (Nat.le_refl _) (by omega), by omega, hc⟩
  · have := hn k b hk; exact ⟨this.1, by omega, this.2.2⟩

/-! ### zero values -/
def zeroOf (P : Program) (t : TypeId) : Option Value :=
  match P.info? t with
  | some i => match i.zero with
    | some z => match z.cells.toList.all flat with
      | true => some z
      | false => none
    | none => none
  | none => none
theorem zeroOf_spec {t : TypeId} {z : Value} (e : zeroOf P t = some z) : ∃ i, P.info? t = some i ∧ i.zero = some z ∧ ∀ v ∈ z.cells, flat v = true := by
  unfold zeroOf at e
  split at e
  case h_2 => cases e
  rename_i i hi
  split at e
  case h_2 => cases e
  rename_i z' hz
  split at e
  case h_2 => cases e
  rename_i ha
  cases e
  exact ⟨i, hi, hz, fun v hv => List.all_eq_true.1 ha v (by simpa using hv)⟩

theorem map_flat {cs : Array Value} (h : ∀ v ∈ cs, flat v = true) : cs.map (conc s) = cs := by
  conv => rhs; rw [← Array.map_id cs]
  exact Array.map_congr_left fun v hv => (conc_flat (h v hv)).1

/-! ### build: a struct out of its parts -/
theorem fill_conc (place : Nat → Option (Nat × Nat)) : ∀ (parts : List (Nat × Value)) (cells : Array Value),
    Instr.fill place (cells.map (conc s)) (parts.map fun p => (p.1, conc s p.2)) = (Instr.fill place cells parts).map (·.map (conc s)) := by
  intro parts
  induction parts with
  | nil => intro cells; simp [Instr.fill]
  | cons p rest ih =>
    intro cells
    obtain ⟨i, v⟩ := p
    simp only [List.map_cons, Instr.fill]
    cases place i with
    | none => rfl
    | some os =>
      obtain ⟨off, size⟩ := os
      simp only [cells_conc, Array.size_map]
      split
      · rfl
      · rw [← ih]
        congr 1
        have key : ∀ (l : List (Value × Nat)) (cs : Array Value),
            List.foldl (fun cs p => Array.setIfInBounds cs (off + p.2) p.1) (cs.map (conc s)) (l.map fun p => (conc s p.1, p.2)) =
              (List.foldl (fun cs p => Array.setIfInBounds cs (off + p.2) p.1) cs l).map (conc s) := by
          intro l
          induction l with
          | nil => intro cs; rfl
          | cons q l ihl =>
            intro cs
            simp only [List.map_cons, List.foldl_cons]
            rw [← ihl]
            congr 1
            apply Array.ext_getElem?
            intro k
            simp only [Array.getElem?_setIfInBounds, Array.getElem?_map, Array.size_map]
            split
            · split <;> simp
            · rfl
        have e := key (v.cells.zipIdx.toList) cells
        have ez : (v.cells.map (conc s)).zipIdx.toList = v.cells.zipIdx.toList.map fun p => (conc s p.1, p.2) := by
          simp only [Array.toList_zipIdx, Array.toList_map]
          rw [List.zipIdx_map]
          apply List.map_congr_left
          intro p _; rfl
        rw [← Array.foldl_toList, ← Array.foldl_toList, ez]
        exact e

theorem fill_in {S : Nat → Prop} (place : Nat → Option (Nat × Nat)) : ∀ (parts : List (Nat × Value)) (cells r : Array Value), (∀ v ∈ cells, In S v) → (∀ p ∈ parts, In S p.2) →
    Instr.fill place cells parts = some r → ∀ v ∈ r, In S v := by
  intro parts
  induction parts with
  | nil => intro cells r hc _ e; simp only [Instr.fill, Option.some.injEq] at e; subst e; exact hc
  | cons p rest ih =>
    intro cells r hc hp e
    obtain ⟨i, v⟩ := p
    simp only [Instr.fill] at e
    cases hpl : place i with
    | none => simp [hpl] at e
    | some os =>
      obtain ⟨off, size⟩ := os
      simp only [hpl] at e
      split at e
      · cases e
      · refine ih _ _ ?_ (fun q hq => hp q (by simp [hq])) e
        have hv : ∀ u ∈ v.cells.toList, In S u := in_cells (hp _ List.mem_cons_self)
        have key : ∀ (l : List (Value × Nat)) (cs : Array Value), (∀ p ∈ l, In S p.1) → (∀ v ∈ cs, In S v) → ∀ v ∈ List.foldl (fun cs p => Array.setIfInBounds cs (off + p.2) p.1) cs l, In S v := by
          intro l
          induction l with
          | nil => intro cs _ h; exact h
          | cons q l ihl =>
            intro cs hq hcs
            refine ihl _ (fun p hp => hq p (by simp [hp])) ?_
            intro u hu
            rcases Array.mem_or_eq_of_mem_setIfInBounds hu with h | h
            · exact hcs u h
            · subst h; exact hq q List.mem_cons_self
        rw [← Array.foldl_toList]
        refine key _ _ (fun p hpm => hv p.1 ?_) hc
        simp only [Array.toList_zipIdx] at hpm
        have := List.mem_zipIdx hpm
        obtain ⟨_, _, h3⟩ := this
        rw [h3]; exact List.getElem_mem _
end
end

section
/-! More operations: build, make, addresses, parts. -/
section
variable {P : Program} {s : Val} {h : Hp} {w : World}

/-! ### build -/
def aBuild (P : Program) (t : TypeId) (parts : List (Nat × Value)) : Option Value :=
  match zeroOf P t with
  | some _ => match P.built t parts with
    | some cells => some (.agg cells)
    | none => none
  | none => none

theorem built_conc {t : TypeId} {z : Value} (hz : zeroOf P t = some z) (parts : List (Nat × Value)) :
    P.built t (parts.map fun p => (p.1, conc s p.2)) = (P.built t parts).map (·.map (conc s)) := by
  obtain ⟨i, hi, hzi, hf⟩ := zeroOf_spec hz
  unfold Program.built
  simp only [hi]
  cases hu : P.underlying t with
  | none => rfl
  | some d =>
    cases d <;> simp only [hzi] <;> try rfl
    · rename_i n e
      cases P.info? e with
      | none => rfl
      | some ie =>
        simp only
        have := fill_conc (s := s) (fun i => some (i * ie.size, ie.size)) parts z.cells
        rw [map_flat hf] at this; exact this
    · rename_i fields
      split
      · rename_i places _ hpl
        have := fill_conc (s := s) (fun i => places.toArray[i]?) parts z.cells
        rw [map_flat hf] at this
        simp_all
      · simp_all

theorem build_sem {t : TypeId} {parts : Array (Nat × Value)} {v : Value} (e : aBuild P t parts.toList = some v) :
    (Instr.build t (parts.map fun p => (p.1, conc s p.2))).run P w = .ok (conc s v) w := by
  unfold aBuild at e
  split at e
  case h_2 => cases e
  rename_i z hz
  split at e
  case h_2 => cases e
  rename_i cells hb
  cases e
  have := built_conc (s := s) hz parts.toList
  rw [hb] at this
  rw [conc]
  exact run_build w t _ _ (by rw [Array.toList_map]; exact this)

theorem build_in {S : Nat → Prop} {t : TypeId} {parts : List (Nat × Value)} {v : Value} (hp : ∀ p ∈ parts, In S p.2) (e : aBuild P t parts = some v) : In S v := by
  unfold aBuild at e
  split at e
  case h_2 => cases e
  rename_i z hz
  split at e
  case h_2 => cases e
  rename_i cells hb
  cases e
  obtain ⟨i, hi, hzi, hf⟩ := zeroOf_spec hz
  have hzc : ∀ v ∈ z.cells, In S v := fun v hv => (conc_flat (s := ⟨id, id⟩) (hf v hv)).2 S
  simp only [In]
  unfold Program.built at hb
  simp only [hi] at hb
  cases hu : P.underlying t with
  | none => simp [hu] at hb
  | some d =>
    cases d <;> simp only [hu, hzi] at hb <;> try (cases hb; done)
    · split at hb
      · rename_i h1 h2; cases h1; exact fill_in _ _ _ _ hzc hp hb
      · cases hb
    · split at hb
      · rename_i h1 h2; cases h1; exact fill_in _ _ _ _ hzc hp hb
      · cases hb

/-! ### a slice written out -/
def aBuildSlice (P : Program) (t : TypeId) (len : Nat) (parts : List (Nat × Value)) (h : Hp) : Option (Value × Hp) :=
  match P.underlying t with
  | some (.slice e) =>
    match zeroOf P e, P.info? e with
    | some z, some ie =>
      match Nat.beq (len * ie.size) 0 with
      | true => match parts with
        | [] => match aNew e ie.size [] h with
          | some (x, h') => some (.slice (some ⟨x, 0, none⟩) len (2 * len), h')
          | none => none
        | _ :: _ => none
      | false => match Nat.ble (len * ie.size) (2 ^ 24) with
       | true =>
        match Instr.fill (fun i => some (i * ie.size, ie.size)) ((Array.range (len * ie.size)).map (z.cells[· % z.cells.size]!)) parts with
        | some cells => match aNew e ie.size cells.toList h with
          | some (x, h') => some (.slice (some ⟨x, 0, none⟩) len (2 * len), h')
          | none => none
        | none => none
       | false => none
    | _, _ => none
  | _ => none

theorem tile_conc {z : Value} (hf : ∀ v ∈ z.cells, flat v = true) (n : Nat) : ((Array.range n).map (z.cells[· % z.cells.size]!)).map (conc s) = (Array.range n).map (z.cells[· % z.cells.size]!) := by
  rw [Array.map_map]
  apply Array.map_congr_left
  intro i _
  simp only [Function.comp]
  by_cases hlt : i % z.cells.size < z.cells.size
  · rw [getElem!_pos z.cells _ hlt]; exact (conc_flat (hf _ (Array.getElem_mem _))).1
  · rw [getElem!_neg z.cells _ hlt]; simp [conc, default, instInhabitedValue.default]

theorem even2 (n : Nat) (s : Val) (x : Nat) : room s x (2 * n) = n := by unfold room; rw [if_pos (by omega)]; omega

theorem tile_in {S : Nat → Prop} {z : Value} (hf : ∀ v ∈ z.cells, flat v = true) (n : Nat) : ∀ v ∈ (Array.range n).map (z.cells[· % z.cells.size]!), In S v := by
  intro v hv
  obtain ⟨i, hi, rfl⟩ := Array.mem_map.1 hv
  by_cases hlt : i % z.cells.size < z.cells.size
  · rw [getElem!_pos z.cells _ hlt]; exact (conc_flat (s := ⟨id, id⟩) (hf _ (Array.getElem_mem _))).2 S
  · rw [getElem!_neg z.cells _ hlt]; simp [In, default, instInhabitedValue.default]

theorem buildSlice_sem {t : TypeId} {len : Nat} {parts : Array (Nat × Value)} {v : Value} {h' : Hp} (hp : Pre s h w) (hpa : ∀ p ∈ parts.toList, In (· < h.next) p.2) (e : aBuildSlice P t len parts.toList h = some (v, h')) :
    ∃ s' w', (Instr.buildSlice t len (parts.map fun p => (p.1, conc s p.2))).run P w = .ok (conc s' v) w' ∧ Post s s' h h' w w' [] := by
  unfold aBuildSlice at e
  split at e
  case h_2 => cases e
  rename_i el hu
  split at e
  case h_2 => cases e
  rename_i z ie hz hie
  obtain ⟨i, hi, hzi, hf⟩ := zeroOf_spec hz
  rw [hie] at hi; cases hi
  split at e
  · -- nothing in it
    rename_i hz0
    have hz0 := Nat.eq_of_beq_eq_true hz0
    split at e
    case h_2 => cases e
    rename_i hpn
    split at e
    case h_2 => cases e
    rename_i x h1 hn
    simp only [Option.some.injEq, Prod.mk.injEq] at e
    obtain ⟨rfl, rfl⟩ := e
    have hpe : parts = #[] := by apply Array.ext'; simpa using hpn
    subst hpe
    obtain ⟨s', hpost, hblk⟩ := new_sem hp (by simp) hn
    refine ⟨s', _, ?_, hpost⟩
    simp [Instr.buildSlice, run_underlying hu, sizeOf, typeInfo, hie, hz0, newRow, Instr.fill, conc, concA, hblk, even2, Array.range_zero']
  rename_i hc2
  have hc2 : len * ie.size ≠ 0 := fun h0 => by rw [h0] at hc2; simp at hc2
  split at e
  case h_2 => cases e
  rename_i hc
  have hc1 := Nat.le_of_ble_eq_true hc
  split at e
  case h_2 => cases e
  rename_i cells hfill
  split at e
  case h_2 => cases e
  rename_i x h1 hn
  simp only [Option.some.injEq, Prod.mk.injEq] at e
  obtain ⟨rfl, rfl⟩ := e
  have hin : ∀ v ∈ cells, In (· < h.next) v := fill_in _ _ _ _ (tile_in hf _) hpa hfill
  obtain ⟨s', hpost, hblk⟩ := new_sem hp (by simpa using hin) hn
  refine ⟨s', _, ?_, hpost⟩
  have hfc := fill_conc (s := s) (fun i => some (i * ie.size, ie.size)) parts.toList ((Array.range (len * ie.size)).map (z.cells[· % z.cells.size]!))
  rw [tile_conc hf, hfill] at hfc
  rw [run_buildSlice w t el len _ _ ie z hu hie hzi (by omega) hc2 (by rw [Array.toList_map]; exact hfc)]
  simp only [conc, concA, hblk, even2]
  congr 3
  apply Array.ext'
  simp

theorem buildSlice_in {S : Nat → Prop} {t : TypeId} {len : Nat} {parts : List (Nat × Value)} {v : Value} {h' : Hp} (hn : HIn S h) (hpa : ∀ p ∈ parts, In S p.2) (e : aBuildSlice P t len parts h = some (v, h')) (hS : ∀ y, h.next ≤ y → y < h'.next → S y) :
    HIn S h' ∧ In S v ∧ h'.next = h.next + 1 := by
  unfold aBuildSlice at e
  split at e
  case h_2 => cases e
  rename_i el hu
  split at e
  case h_2 => cases e
  rename_i z ie hz hie
  obtain ⟨i, hi, hzi, hf⟩ := zeroOf_spec hz
  split at e
  · split at e
    case h_2 => cases e
    split at e
    case h_2 => cases e
    rename_i x h1 hnew
    simp only [Option.some.injEq, Prod.mk.injEq] at e
    obtain ⟨rfl, rfl⟩ := e
    obtain ⟨a, b, c⟩ := new_in hn (by simp) hnew hS
    exact ⟨a, by simp only [In]; rw [c]; exact hS _ (Nat.le_refl _) (by omega), b⟩
  split at e
  case h_2 => cases e
  split at e
  case h_2 => cases e
  rename_i cells hfill
  split at e
  case h_2 => cases e
  rename_i x h1 hnew
  simp only [Option.some.injEq, Prod.mk.injEq] at e
  obtain ⟨rfl, rfl⟩ := e
  have hin : ∀ v ∈ cells, In S v := fill_in _ _ _ _ (tile_in hf _) hpa hfill
  obtain ⟨a, b, c⟩ := new_in hn (by simpa using hin) hnew hS
  exact ⟨a, by simp only [In]; rw [c]; exact hS _ (Nat.le_refl _) (by omega), b⟩

/-! ### make -/
def aMakeSlice (P : Program) (t : TypeId) (l c : Value) (h : Hp) : Option (Value × Hp) :=
  match P.underlying t, l, c with
  | some (.slice e), .int _ l, .int _ c =>
    match zeroOf P e, P.info? e with
    | some z, some ie =>
      match decide (0 ≤ l) && decide (l ≤ c) && decide ((ie.bytes : Int) * c ≤ 281474976710656) && decide (c ≤ 9223372036854775807) with
      | true => match aNew e ie.size (madeCells z.cells (c.toNat * ie.size)).toList h with
        | some (x, h') => some (.slice (some ⟨x, 0, none⟩) l.toNat (2 * c.toNat), h')
        | none => none
      | false => none
    | _, _ => none
  | _, _, _ => none

theorem makeSlice_sem {t : TypeId} {l c v : Value} {h' : Hp} (hp : Pre s h w) (e : aMakeSlice P t l c h = some (v, h')) :
    ∃ s' w', (Instr.makeSlice t (conc s l) (conc s c)).run P w = .ok (conc s' v) w' ∧ Post s s' h h' w w' [] := by
  unfold aMakeSlice at e
  split at e
  case h_2 => cases e
  rename_i el kl l kc c hu
  split at e
  case h_2 => cases e
  rename_i z ie hz hie
  obtain ⟨i, hi, hzi, hf⟩ := zeroOf_spec hz
  rw [hie] at hi; cases hi
  split at e
  case h_2 => cases e
  rename_i hc
  simp only [Bool.and_eq_true, decide_eq_true_eq] at hc
  split at e
  case h_2 => cases e
  rename_i x h1 hn
  simp only [Option.some.injEq, Prod.mk.injEq] at e
  obtain ⟨rfl, rfl⟩ := e
  have hin : ∀ v ∈ (madeCells z.cells (c.toNat * ie.size)).toList, In (· < h.next) v := by simpa [madeCells] using tile_in (S := (· < h.next)) hf (c.toNat * ie.size)
  obtain ⟨s', hpost, hblk⟩ := new_sem hp hin hn
  refine ⟨s', _, ?_, hpost⟩
  simp only [conc]
  rw [run_make w t el ie z hu hie hzi kl kc l c hc.1.1.1 hc.1.1.2 hc.1.2 hc.2]
  simp only [concA, hblk, even2]
  congr 2
  have : (madeCells z.cells (c.toNat * ie.size)).map (conc s) = madeCells z.cells (c.toNat * ie.size) := tile_conc hf _
  rw [← Array.toList_map, this]

theorem makeSlice_in {S : Nat → Prop} {t : TypeId} {l c v : Value} {h' : Hp} (hn : HIn S h) (e : aMakeSlice P t l c h = some (v, h')) (hS : ∀ y, h.next ≤ y → y < h'.next → S y) : HIn S h' ∧ In S v ∧ h'.next = h.next + 1 := by
  unfold aMakeSlice at e
  split at e
  case h_2 => cases e
  rename_i el kl l kc c hu
  split at e
  case h_2 => cases e
  rename_i z ie hz hie
  obtain ⟨i, hi, hzi, hf⟩ := zeroOf_spec hz
  split at e
  case h_2 => cases e
  split at e
  case h_2 => cases e
  rename_i x h1 hnew
  simp only [Option.some.injEq, Prod.mk.injEq] at e
  obtain ⟨rfl, rfl⟩ := e
  have hin : ∀ v ∈ (madeCells z.cells (c.toNat * ie.size)).toList, In S v := by simpa [madeCells] using tile_in (S := S) hf (c.toNat * ie.size)
  obtain ⟨a, b, c⟩ := new_in hn hin hnew hS
  exact ⟨a, by simp only [In]; rw [c]; exact hS _ (Nat.le_refl _) (by omega), b⟩

/-! ### the place of a field, of an element -/
def aFieldAddr (P : Program) (t : TypeId) (v : Value) (f : Nat) : Option Value :=
  match P.underlying t, v with
  | some (.struct fields), .pointer (some ⟨x, off, none⟩) =>
    match fields[f]? with
    | some fd => match P.info? fd.type with
      | some i => match Nat.beq i.size 0 with
        | true => none
        | false => some (.pointer (some ⟨x, off + fd.offset, none⟩))
      | none => none
    | none => none
  | _, _ => none

theorem fieldAddr_sem {t : TypeId} {v u : Value} {f : Nat} (e : aFieldAddr P t v f = some u) : (Instr.fieldAt t (conc s v) f).run P w = .ok (conc s u) w := by
  unfold aFieldAddr at e
  split at e
  case h_2 => cases e
  rename_i fields x off hu
  split at e
  case h_2 => cases e
  rename_i fd hfd
  split at e
  case h_2 => cases e
  rename_i i hi
  split at e
  case h_1 => cases e
  rename_i h0
  have h0' : i.size ≠ 0 := fun hh => by rw [hh] at h0; simp at h0
  cases e
  simp [Instr.fieldAt, run_underlying hu, hfd, conc, concA, Instr.sureAddr, fieldPlace, sizeOf, typeInfo, hi, h0', add_lit]

theorem fieldAddr_in {S : Nat → Prop} {t : TypeId} {v u : Value} {f : Nat} (hv : In S v) (e : aFieldAddr P t v f = some u) : In S u := by
  unfold aFieldAddr at e
  split at e
  case h_2 => cases e
  split at e
  case h_2 => cases e
  split at e
  case h_2 => cases e
  split at e
  case h_1 => cases e
  cases e
  simp only [In] at hv ⊢
  exact hv

def aIndexAddr (P : Program) (t : TypeId) (v i : Value) : Option Value :=
  match P.underlying t, v, i with
  | some (.slice e), .slice (some ⟨x, off, none⟩) len _, .int _ k =>
    match P.info? e with
    | some ie => match decide (0 ≤ k) && decide (k < len) with
      | true => some (.pointer (some ⟨x, off + k.toNat * ie.size, none⟩))
      | false => none
    | none => none
  | some (.array len e), .pointer (some ⟨x, off, none⟩), .int _ k =>
    match P.info? e with
    | some ie => match decide (0 ≤ k) && decide (k < len) with
      | true => some (.pointer (some ⟨x, off + k.toNat * ie.size, none⟩))
      | false => none
    | none => none
  | _, _, _ => none

theorem indexAddr_sem {t : TypeId} {v i u : Value} (e : aIndexAddr P t v i = some u) : (Instr.indexAt t (conc s v) (conc s i)).run P w = .ok (conc s u) w := by
  unfold aIndexAddr at e
  split at e
  case h_3 => cases e
  all_goals
    rename_i hu
    split at e
    case h_2 => cases e
    rename_i ie hie
    split at e
    case h_2 => cases e
    rename_i hk
    simp only [Bool.and_eq_true, decide_eq_true_eq] at hk
    cases e
    simp [Instr.indexAt, run_underlying hu, conc, concA, asIntOf, Instr.sureAddr, sizeOf, typeInfo, hie, hk.1, hk.2, add_lit]

theorem indexAddr_in {S : Nat → Prop} {t : TypeId} {v i u : Value} (hv : In S v) (e : aIndexAddr P t v i = some u) : In S u := by
  unfold aIndexAddr at e
  split at e
  case h_3 => cases e
  all_goals
    split at e
    case h_2 => cases e
    split at e
    case h_2 => cases e
    cases e
    simp only [In] at hv ⊢
    exact hv

/-! ### a part of a struct's or an array's value -/
def aPart (P : Program) (t : TypeId) (cs : List Value) (off : Nat) : Option Value :=
  match P.underlying t with
  | some d => match isAggD d with
    | true => match P.info? t with
      | some i => some (.agg ((cs.drop off).take i.size).toArray)
      | none => none
    | false => cs[off]?
  | none => none

theorem part_sem {t : TypeId} {cs : Array Value} {off : Nat} {u : Value} (e : aPart P t cs.toList off = some u) : (part t (cs.map (conc s)) off).run P w = .ok (conc s u) w := by
  unfold aPart at e
  split at e
  case h_2 => cases e
  rename_i d hd
  split at e
  · rename_i ha
    split at e
    case h_2 => cases e
    rename_i i hi
    cases e
    simp only [part, Sem.run_bind, isAgg_run hd, ha, Result.andThen_ok, if_true, sizeOf, typeInfo]
    simp [hi, conc]
    apply Array.ext'
    simp
  · rename_i ha
    simp only [part, Sem.run_bind, isAgg_run hd, ha, Result.andThen_ok, Bool.false_eq_true, if_false]
    have : (cs.map (conc s))[off]? = some (conc s u) := by rw [Array.getElem?_map, ← Array.getElem?_toList, e]; rfl
    simp [this]

theorem part_in {S : Nat → Prop} {t : TypeId} {cs : List Value} {off : Nat} {u : Value} (hc : ∀ v ∈ cs, In S v) (e : aPart P t cs off = some u) : In S u := by
  unfold aPart at e
  split at e
  case h_2 => cases e
  split at e
  · split at e
    case h_2 => cases e
    cases e
    simp only [In]
    intro v hv
    exact hc v (List.mem_of_mem_drop (List.mem_of_mem_take (by simpa using hv)))
  · exact hc u (List.mem_of_getElem? e)

def aField (P : Program) (t : TypeId) (v : Value) (f : Nat) : Option Value :=
  match P.underlying t, v with
  | some (.struct fields), .agg cs => match fields[f]? with
    | some fd => aPart P fd.type cs.toList fd.offset
    | none => none
  | _, _ => none

theorem field_sem {t : TypeId} {v u : Value} {f : Nat} (e : aField P t v f = some u) : (Instr.field t (conc s v) f).run P w = .ok (conc s u) w := by
  unfold aField at e
  split at e
  case h_2 => cases e
  rename_i fields cs hu
  split at e
  case h_2 => cases e
  rename_i fd hfd
  have := part_sem (s := s) (w := w) e
  simp [Instr.field, run_underlying hu, hfd, conc, asAgg, this]

theorem field_in {S : Nat → Prop} {t : TypeId} {v u : Value} {f : Nat} (hv : In S v) (e : aField P t v f = some u) : In S u := by
  unfold aField at e
  split at e
  case h_2 => cases e
  split at e
  case h_2 => cases e
  simp only [In] at hv
  exact part_in (fun u hu => hv u (by simpa using hu)) e

def aIndex (P : Program) (t : TypeId) (v i : Value) : Option Value :=
  match P.underlying t, v, i with
  | some (.array len e), .agg cs, .int _ k =>
    match P.info? e with
    | some ie => match decide (0 ≤ k) && decide (k < len) with
      | true => aPart P e cs.toList (k.toNat * ie.size)
      | false => none
    | none => none
  | _, _, _ => none

theorem index_sem {t : TypeId} {v i u : Value} (e : aIndex P t v i = some u) : (Instr.index t (conc s v) (conc s i)).run P w = .ok (conc s u) w := by
  unfold aIndex at e
  split at e
  case h_2 => cases e
  rename_i len el cs k kk hu
  split at e
  case h_2 => cases e
  rename_i ie hie
  split at e
  case h_2 => cases e
  rename_i hk
  simp only [Bool.and_eq_true, decide_eq_true_eq] at hk
  have := part_sem (s := s) (w := w) e
  simp [Instr.index, run_underlying hu, conc, asIntOf, sizeOf, typeInfo, hie, hk.1, hk.2, this]

theorem index_in {S : Nat → Prop} {t : TypeId} {v i u : Value} (hv : In S v) (e : aIndex P t v i = some u) : In S u := by
  unfold aIndex at e
  split at e
  case h_2 => cases e
  split at e
  case h_2 => cases e
  split at e
  case h_2 => cases e
  simp only [In] at hv
  exact part_in (fun u hu => hv u (by simpa using hu)) e

def aExtract (v : Value) (i : Nat) : Option Value :=
  match v with
  | .tuple vs => vs.toList[i]?
  | _ => none
theorem extract_sem {v u : Value} {i : Nat} (e : aExtract v i = some u) : (Instr.extract (conc s v) i).run P w = .ok (conc s u) w := by
  unfold aExtract at e
  split at e
  case h_2 => cases e
  rename_i vs
  have : (vs.map (conc s))[i]? = some (conc s u) := by rw [Array.getElem?_map, ← Array.getElem?_toList, e]; rfl
  simp [Instr.extract, conc, this]
theorem extract_in {S : Nat → Prop} {v u : Value} {i : Nat} (hv : In S v) (e : aExtract v i = some u) : In S u := by
  unfold aExtract at e
  split at e
  case h_2 => cases e
  simp only [In] at hv
  exact hv u (by simpa using List.mem_of_getElem? e)
end
end

end
end Go.Proofs.Ytfafjojoapcliaa.Eng

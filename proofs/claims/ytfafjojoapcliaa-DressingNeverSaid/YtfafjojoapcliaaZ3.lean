/- An engine for closed calls, part 3: regions that draw -/
import Derived.Test.YtfafjojoapcliaaZ2
import Derived.OrdersIn
set_option linter.unusedVariables false
set_option linter.unusedSimpArgs false
namespace Go.Proofs.Ytfafjojoapcliaa.Eng
noncomputable section

section
/-! A region that draws its order: what is reckoned, in the text's order, and what holds of it step by step. -/
/-! ### what must stand ahead of an operation -/
inductive Reach (ops : Array Oper) : Nat → Nat → Prop
  | edge {j : Nat} {o : Oper} {e : Edge} : ops[j]? = some o → e ∈ o.after → Region.binds .any e = true → Reach ops j e.on
  | step {j i : Nat} {o : Oper} {e : Edge} : ops[j]? = some o → e ∈ o.after → Region.binds .any e = true → Reach ops e.on i → Reach ops j i

def maskOf (acc : List Nat) (o : Oper) : Nat :=
  o.after.toList.foldl (fun m e => match Region.binds .any e with
    | true => m ||| 2 ^ e.on ||| acc.getD e.on 0
    | false => m) 0
def masks : List Oper → List Nat → List Nat
  | [], acc => acc
  | o :: r, acc => masks r (acc ++ [maskOf acc o])

theorem mask_fold {ops : Array Oper} {j : Nat} {o : Oper} (ho : ops[j]? = some o) {acc : List Nat} (hacc : ∀ k i, (acc.getD k 0).testBit i = true → Reach ops k i) :
    ∀ (l : List Edge) (m : Nat), (∀ e ∈ l, e ∈ o.after) → (∀ i, m.testBit i = true → Reach ops j i) →
      ∀ i, (l.foldl (fun m e => match Region.binds .any e with | true => m ||| 2 ^ e.on ||| acc.getD e.on 0 | false => m) m).testBit i = true → Reach ops j i := by
  intro l
  induction l with
  | nil => intro m _ hm i hi; exact hm i hi
  | cons e l ih =>
    intro m hl hm i hi
    rw [List.foldl_cons] at hi
    refine ih _ (fun e he => hl e (by simp [he])) ?_ i hi
    cases hb : Region.binds .any e with
    | false => simpa [hb] using hm
    | true =>
      intro k hk
      simp only [Nat.testBit_or, Bool.or_eq_true] at hk
      rcases hk with (hk | hk) | hk
      · exact hm k hk
      · rw [Nat.testBit_two_pow] at hk
        simp only [decide_eq_true_eq] at hk
        subst hk
        exact .edge ho (hl e List.mem_cons_self) hb
      · exact .step ho (hl e List.mem_cons_self) hb (hacc _ _ hk)

theorem masks_spec {ops : Array Oper} : ∀ (l : List Oper) (acc : List Nat), (∀ i, l[i]? = ops[acc.length + i]?) → (∀ k i, (acc.getD k 0).testBit i = true → Reach ops k i) →
    ∀ k i, ((masks l acc).getD k 0).testBit i = true → Reach ops k i := by
  intro l
  induction l with
  | nil => intro acc _ h; exact h
  | cons o l ih =>
    intro acc hl hacc
    have ho : ops[acc.length]? = some o := by have := hl 0; simpa using this.symm
    refine ih _ (fun i => by have := hl (i + 1); simpa [Nat.add_assoc, Nat.add_comm 1 i] using this) fun k i hk => ?_
    rcases Nat.lt_trichotomy k acc.length with h | h | h
    · rw [List.getD_eq_getElem?_getD, List.getElem?_append_left h, ← List.getD_eq_getElem?_getD] at hk; exact hacc k i hk
    · subst h
      rw [List.getD_eq_getElem?_getD, List.getElem?_append_right (Nat.le_refl _)] at hk
      simp only [Nat.sub_self, List.getElem?_cons_zero, Option.getD_some] at hk
      exact mask_fold ho hacc _ 0 (fun e he => by simpa using he) (fun i hi => by simp at hi) i hk
    · rw [List.getD_eq_getElem?_getD, List.getElem?_eq_none (by simp; omega)] at hk; simp at hk

/-! ### which operation writes which temporary -/
def dstTab : List Oper → Nat → Tr Nat → Option (Tr Nat)
  | [], _, t => some t
  | o :: r, j, t => match o.dst with
    | none => dstTab r (j + 1) t
    | some d => match t.get d with
      | some _ => none
      | none => match t.set 64 d (some j) with
        | some t' => dstTab r (j + 1) t'
        | none => none

theorem dstTab_spec {ops : Array Oper} : ∀ (l : List Oper) (j : Nat) (t t' : Tr Nat), (∀ i, l[i]? = ops[j + i]?) → (∀ d i, t.get d = some i ↔ ∃ o, i < j ∧ ops[i]? = some o ∧ o.dst = some d) → dstTab l j t = some t' →
    ∀ d i, t'.get d = some i ↔ ∃ o, i < j + l.length ∧ ops[i]? = some o ∧ o.dst = some d := by
  intro l
  induction l with
  | nil => intro j t t' _ h e; simp only [dstTab, Option.some.injEq] at e; subst e; simpa using h
  | cons o l ih =>
    intro j t t' hl h e
    have ho : ops[j]? = some o := by have := hl 0; simpa using this.symm
    have hl' : ∀ i, l[i]? = ops[j + 1 + i]? := fun i => by have := hl (i + 1); simpa [Nat.add_assoc, Nat.add_comm 1 i] using this
    have hlen : j + (o :: l).length = j + 1 + l.length := by simp; omega
    rw [hlen]
    simp only [dstTab] at e
    split at e
    · rename_i hd
      refine ih _ _ _ hl' (fun d i => ?_) e
      rw [h]
      constructor
      · rintro ⟨o', h1, h2, h3⟩; exact ⟨o', by omega, h2, h3⟩
      · rintro ⟨o', h1, h2, h3⟩
        rcases Nat.lt_or_ge i j with hlt | hge
        · exact ⟨o', hlt, h2, h3⟩
        · have : i = j := by omega
          subst this; rw [ho] at h2; cases h2; rw [hd] at h3; cases h3
    · rename_i d0 hd
      split at e
      · cases e
      · rename_i hnone
        split at e
        case h_2 => cases e
        rename_i t1 ht1
        refine ih _ _ _ hl' (fun d i => ?_) e
        rw [Tr.get_set _ _ _ _ _ ht1]
        constructor
        · intro hh
          split at hh
          · rename_i hdd; cases hh; subst hdd; exact ⟨o, by omega, ho, hd⟩
          · obtain ⟨o', h1, h2, h3⟩ := (h d i).1 hh; exact ⟨o', by omega, h2, h3⟩
        · rintro ⟨o', h1, h2, h3⟩
          rcases Nat.lt_or_ge i j with hlt | hge
          · have := (h d i).2 ⟨o', hlt, h2, h3⟩
            rw [if_neg (fun hdd => by subst hdd; rw [hnone] at this; cases this)]; exact this
          · have : i = j := by omega
            subst this; rw [ho] at h2; cases h2; rw [hd] at h3; cases h3; simp

/-! ### the fixed conditions -/
def statGo (ops : Array Oper) (tab : Tr Nat) : List Oper → Nat → List Nat → Bool
  | [], _, _ => true
  | o :: r, j, ms =>
    (o.after.toList.all fun e => !Region.binds .any e || Nat.blt e.on j) &&
    ((o.looksAt ops).all fun t => match tab.get t with
      | none => true
      | some i => match Nat.blt i j with
        | true => (ms.getD j 0).testBit i
        | false => Nat.beq i j || (ms.getD i 0).testBit j) && statGo ops tab r (j + 1) ms

def statB (ops : Array Oper) : Bool :=
  match dstTab ops.toList 0 .leaf with
  | some tab => Region.noSelect ops && statGo ops tab ops.toList 0 (masks ops.toList [])
  | none => false

structure Fixed (ops : Array Oper) : Prop where
  nosel : Region.noSelect ops = true
  back : ∀ (j : Nat) (o : Oper), ops[j]? = some o → ∀ e ∈ o.after, Region.binds .any e = true → e.on < j
  one : ∀ (i k : Nat) (o o' : Oper) (d : Tmp), ops[i]? = some o → ops[k]? = some o' → o.dst = some d → o'.dst = some d → i = k
  look : ∀ (j : Nat) (o : Oper), ops[j]? = some o → ∀ t ∈ o.looksAt ops, ∀ (i : Nat) (o' : Oper), ops[i]? = some o' → o'.dst = some t → (i < j ∧ Reach ops j i) ∨ (j ≤ i ∧ (i = j ∨ Reach ops i j))

theorem blt_lt {a b : Nat} (h : Nat.blt a b = true) : a < b := by
  have := Nat.blt_eq (x := a) (y := b)
  rw [← this]; exact h

theorem statGo_spec {ops : Array Oper} {tab : Tr Nat} {ms : List Nat} : ∀ (l : List Oper) (j : Nat), (∀ i, l[i]? = ops[j + i]?) → statGo ops tab l j ms = true →
    ∀ k o, j ≤ k → ops[k]? = some o → (∀ e ∈ o.after, Region.binds .any e = true → e.on < k) ∧ (∀ t ∈ o.looksAt ops, ∀ i, tab.get t = some i → (i < k ∧ (ms.getD k 0).testBit i = true) ∨ (k ≤ i ∧ (i = k ∨ (ms.getD i 0).testBit k = true))) := by
  intro l
  induction l with
  | nil =>
    intro j hl _ k o hk ho
    have := hl (k - j)
    rw [show j + (k - j) = k by omega, ho] at this; simp at this
  | cons o l ih =>
    intro j hl h k ok hk hok
    simp only [statGo, Bool.and_eq_true] at h
    have ho : ops[j]? = some o := by have := hl 0; simpa using this.symm
    rcases Nat.eq_or_lt_of_le hk with rfl | hlt
    · rw [ho] at hok; cases hok
      refine ⟨fun e he hb => ?_, fun t ht i hi => ?_⟩
      · have := List.all_eq_true.1 h.1.1 e (by simpa using he)
        simp only [hb, Bool.not_true, Bool.false_or] at this
        exact blt_lt this
      · have := List.all_eq_true.1 h.1.2 t ht
        simp only [hi] at this
        split at this
        · rename_i hb; exact .inl ⟨blt_lt hb, this⟩
        · rename_i hb
          have hge : j ≤ i := by
            rcases Nat.lt_or_ge i j with h | h
            · have h' : Nat.blt i j = true := by rw [Nat.blt_eq]; exact h
              rw [h'] at hb; cases hb
            · exact h
          simp only [Bool.or_eq_true] at this
          exact .inr ⟨hge, this.imp Nat.eq_of_beq_eq_true id⟩
    · exact ih (j + 1) (fun i => by have := hl (i + 1); simpa [Nat.add_assoc, Nat.add_comm 1 i] using this) h.2 k ok hlt hok

theorem statB_spec {ops : Array Oper} (h : statB ops = true) : Fixed ops := by
  unfold statB at h
  split at h
  case h_2 => cases h
  rename_i tab ht
  simp only [Bool.and_eq_true] at h
  have hs := statGo_spec ops.toList 0 (by simp) h.2
  have hd := dstTab_spec (ops := ops) ops.toList 0 .leaf tab (by simp) (fun d i => by simp [Tr.get_leaf]) ht
  have lt : ∀ {i : Nat} {o : Oper}, ops[i]? = some o → i < 0 + ops.toList.length := fun ho => by
    have := (Array.getElem?_eq_some_iff.1 ho).1; simpa using this
  refine ⟨h.1, fun j o ho e he hb => (hs j o (Nat.zero_le _) ho).1 e he hb, fun i k o o' d h1 h2 h3 h4 => ?_, fun j o ho t htt i o' h1 h2 => ?_⟩
  · have e1 := (hd d i).2 ⟨o, lt h1, h1, h3⟩
    have e2 := (hd d k).2 ⟨o', lt h2, h2, h4⟩
    rw [e1] at e2; exact Option.some.inj e2
  · have e1 := (hd t i).2 ⟨o', lt h1, h1, h2⟩
    have hm := masks_spec (ops := ops) ops.toList [] (by simp) (fun k i hk => by simp at hk)
    rcases (hs j o (Nat.zero_le _) ho).2 t htt i e1 with ⟨g1, g2⟩ | ⟨g1, g2⟩
    · exact .inl ⟨g1, hm j i g2⟩
    · exact .inr ⟨g1, g2.imp id (hm i j)⟩
end

section
/-! A region that draws: the reckoning. -/
/-- it neither reads nor writes a block that is there -/
def heapFree : Op → Bool
  | .move _ => true
  | .assign _ => true
  | .pick _ _ _ => true
  | .alloc _ => true
  | .box _ _ => true
  | .build _ _ => true
  | .buildSlice _ _ _ => true
  | .nilCheck _ => true
  | .binOp _ _ _ _ _ => true
  | .unOp _ _ _ => true
  | .convert _ _ _ => true
  | .makeFunc _ _ _ => true
  | .makeSlice _ _ _ => true
  | .makeMap _ _ => true
  | .fieldAddr _ _ _ => true
  | .indexAddr _ _ _ => true
  | .field _ _ _ => true
  | .index _ _ _ => true
  | .extract _ _ => true
  | .call c => match c.callee with
    | .builtin .len => true
    | .builtin .max => true
    | .builtin .min => true
    | _ => false
  | _ => false

structure Rec where
  c0 : Nat
  c1 : Nat
  wr : List Nat
  free : Bool
  /-- the one block that a load reads -/
  rd : Option Nat

/-- names from one on are struck -/
def strike : Nat → Nat → Hp → Option Hp
  | 0, _, h => some h
  | k + 1, x, h => match h.put x none with
    | some h' => strike k (x + 1) h'
    | none => none
/-- names from one on are taken over -/
def takeOver (src : Hp) : Nat → Nat → Hp → Option Hp
  | 0, _, h => some h
  | k + 1, x, h => match h.put x (src.get x) with
    | some h' => takeOver src k (x + 1) h'
    | none => none

theorem strike_spec : ∀ (k x : Nat) (h h' : Hp), strike k x h = some h' → h'.next = h.next ∧ ∀ y, h'.get y = if x ≤ y ∧ y < x + k then none else h.get y := by
  intro k
  induction k with
  | zero => intro x h h' e; simp only [strike, Option.some.injEq] at e; subst e; exact ⟨rfl, fun y => by rw [if_neg (by omega)]⟩
  | succ k ih =>
    intro x h h' e
    simp only [strike] at e
    split at e
    case h_2 => cases e
    rename_i h1 hp
    obtain ⟨e1, e2⟩ := Hp.put_spec hp
    obtain ⟨i1, i2⟩ := ih _ _ _ e
    refine ⟨by omega, fun y => ?_⟩
    rw [i2]
    by_cases hy : x + 1 ≤ y ∧ y < x + 1 + k
    · rw [if_pos hy, if_pos (by omega)]
    · rw [if_neg hy, e2]
      by_cases hx : y = x
      · rw [if_pos hx, if_pos (by omega)]
      · rw [if_neg hx, if_neg (by omega)]
theorem takeOver_spec {src : Hp} : ∀ (k x : Nat) (h h' : Hp), takeOver src k x h = some h' → h'.next = h.next ∧ ∀ y, h'.get y = if x ≤ y ∧ y < x + k then src.get y else h.get y := by
  intro k
  induction k with
  | zero => intro x h h' e; simp only [takeOver, Option.some.injEq] at e; subst e; exact ⟨rfl, fun y => by rw [if_neg (by omega)]⟩
  | succ k ih =>
    intro x h h' e
    simp only [takeOver] at e
    split at e
    case h_2 => cases e
    rename_i h1 hp
    obtain ⟨e1, e2⟩ := Hp.put_spec hp
    obtain ⟨i1, i2⟩ := ih _ _ _ e
    refine ⟨by omega, fun y => ?_⟩
    rw [i2]
    by_cases hy : x + 1 ≤ y ∧ y < x + 1 + k
    · rw [if_pos hy, if_pos (by omega)]
    · rw [if_neg hy, e2]
      by_cases hx : y = x
      · subst hx; rw [if_pos rfl, if_pos (by omega)]
      · rw [if_neg hx, if_neg (by omega)]

def strikeAll (m : Nat) : List (Nat × Rec) → Hp → Option Hp
  | [], h => some h
  | (i, r) :: rs, h => match m.testBit i || Nat.ble r.c1 r.c0 with
    | true => strikeAll m rs h
    | false => match strike (r.c1 - r.c0) r.c0 h with
      | some h' => strikeAll m rs h'
      | none => none
def takeAll (m : Nat) (src : Hp) : List (Nat × Rec) → Hp → Option Hp
  | [], h => some h
  | (i, r) :: rs, h => match m.testBit i || Nat.ble r.c1 r.c0 with
    | true => takeAll m src rs h
    | false => match takeOver src (r.c1 - r.c0) r.c0 h with
      | some h' => takeAll m src rs h'
      | none => none

def Struck (m : Nat) (rs : List (Nat × Rec)) (x : Nat) : Prop := ∃ p ∈ rs, m.testBit p.1 = false ∧ p.2.c0 ≤ x ∧ x < p.2.c1

open Classical in
theorem strikeAll_spec {m : Nat} : ∀ (rs : List (Nat × Rec)) (h h' : Hp), strikeAll m rs h = some h' → h'.next = h.next ∧ ∀ y, h'.get y = if Struck m rs y then none else h.get y := by
  intro rs
  induction rs with
  | nil => intro h h' e; simp only [strikeAll, Option.some.injEq] at e; subst e; exact ⟨rfl, fun y => by rw [if_neg (by simp [Struck])]⟩
  | cons p rs ih =>
    intro h h' e
    obtain ⟨i, r⟩ := p
    simp only [strikeAll] at e
    split at e
    · rename_i hb
      obtain ⟨i1, i2⟩ := ih _ _ e
      refine ⟨i1, fun y => ?_⟩
      rw [i2]
      have : Struck m ((i, r) :: rs) y ↔ Struck m rs y := by
        unfold Struck
        constructor
        · rintro ⟨p, hp, h1, h2, h3⟩
          rcases List.mem_cons.1 hp with rfl | hp
          · simp only [Bool.or_eq_true] at hb
            rcases hb with hb | hb
            · rw [h1] at hb; cases hb
            · have := Nat.le_of_ble_eq_true hb; simp only at h2 h3; omega
          · exact ⟨p, hp, h1, h2, h3⟩
        · rintro ⟨p, hp, hh⟩; exact ⟨p, by simp [hp], hh⟩
      rw [this]
    · rename_i hb
      split at e
      case h_2 => cases e
      rename_i h1 hs
      obtain ⟨s1, s2⟩ := strike_spec _ _ _ _ hs
      obtain ⟨i1, i2⟩ := ih _ _ e
      simp only [Bool.or_eq_false_iff] at hb
      have hlt : r.c0 < r.c1 := by
        rcases Nat.lt_or_ge r.c0 r.c1 with hl | hl
        · exact hl
        · rw [Nat.ble_eq_true_of_le hl] at hb; cases hb.2
      refine ⟨by omega, fun y => ?_⟩
      rw [i2, s2]
      by_cases h1 : Struck m rs y
      · have : Struck m ((i, r) :: rs) y := by obtain ⟨p, hp, hh⟩ := h1; exact ⟨p, by simp [hp], hh⟩
        rw [if_pos h1, if_pos this]
      · rw [if_neg h1]
        by_cases h2 : r.c0 ≤ y ∧ y < r.c0 + (r.c1 - r.c0)
        · rw [if_pos h2, if_pos ⟨(i, r), by simp, hb.1, h2.1, by simp only; omega⟩]
        · rw [if_neg h2, if_neg]
          rintro ⟨p, hp, g1, g2, g3⟩
          rcases List.mem_cons.1 hp with rfl | hp
          · simp only at g2 g3; omega
          · exact h1 ⟨p, hp, g1, g2, g3⟩

open Classical in
theorem takeAll_spec {m : Nat} {src : Hp} : ∀ (rs : List (Nat × Rec)) (h h' : Hp), takeAll m src rs h = some h' → h'.next = h.next ∧ ∀ y, h'.get y = if Struck m rs y then src.get y else h.get y := by
  intro rs
  induction rs with
  | nil => intro h h' e; simp only [takeAll, Option.some.injEq] at e; subst e; exact ⟨rfl, fun y => by rw [if_neg (by simp [Struck])]⟩
  | cons p rs ih =>
    intro h h' e
    obtain ⟨i, r⟩ := p
    simp only [takeAll] at e
    split at e
    · rename_i hb
      obtain ⟨i1, i2⟩ := ih _ _ e
      refine ⟨i1, fun y => ?_⟩
      rw [i2]
      have : Struck m ((i, r) :: rs) y ↔ Struck m rs y := by
        unfold Struck
        constructor
        · rintro ⟨p, hp, h1, h2, h3⟩
          rcases List.mem_cons.1 hp with rfl | hp
          · simp only [Bool.or_eq_true] at hb
            rcases hb with hb | hb
            · rw [h1] at hb; cases hb
            · have := Nat.le_of_ble_eq_true hb; simp only at h2 h3; omega
          · exact ⟨p, hp, h1, h2, h3⟩
        · rintro ⟨p, hp, hh⟩; exact ⟨p, by simp [hp], hh⟩
      rw [this]
    · rename_i hb
      split at e
      case h_2 => cases e
      rename_i h1 hs
      obtain ⟨s1, s2⟩ := takeOver_spec _ _ _ _ hs
      obtain ⟨i1, i2⟩ := ih _ _ e
      simp only [Bool.or_eq_false_iff] at hb
      have hlt : r.c0 < r.c1 := by
        rcases Nat.lt_or_ge r.c0 r.c1 with hl | hl
        · exact hl
        · rw [Nat.ble_eq_true_of_le hl] at hb; cases hb.2
      refine ⟨by omega, fun y => ?_⟩
      rw [i2, s2]
      by_cases h1 : Struck m rs y
      · have : Struck m ((i, r) :: rs) y := by obtain ⟨p, hp, hh⟩ := h1; exact ⟨p, by simp [hp], hh⟩
        rw [if_pos h1, if_pos this]
      · rw [if_neg h1]
        by_cases h2 : r.c0 ≤ y ∧ y < r.c0 + (r.c1 - r.c0)
        · rw [if_pos h2, if_pos ⟨(i, r), by simp, hb.1, h2.1, by simp only; omega⟩]
        · rw [if_neg h2, if_neg]
          rintro ⟨p, hp, g1, g2, g3⟩
          rcases List.mem_cons.1 hp with rfl | hp
          · simp only at g2 g3; omega
          · exact h1 ⟨p, hp, g1, g2, g3⟩

/-- it is not one that reads a block -/
def freeB (o : Oper) (T : Tr Value) : Bool :=
  match o.op with
  | .convert _ _ x => match evT T x with
    | some (.slice (some _) _ _) => false
    | _ => true
  | p => heapFree p
/-- the block that a load reads -/
def loadOf (o : Oper) (T : Tr Value) : Option Nat :=
  match o.op with
  | .convert _ _ x => match evT T x with
    | some (.slice (some a) _ _) => some a.block
    | _ => none
  | .load _ x => match evT T x with
    | some (.pointer (some a)) => some a.block
    | _ => none
  | _ => none

structure Did where
  out : Out
  free : Bool
  rd : Option Nat

def goodLoads (m : Nat) (recs : List (Nat × Rec)) (wr : List Nat) : Bool :=
  recs.all fun p => m.testBit p.1 || match p.2.rd with
    | some x => !wr.contains x
    | none => true

/-- one operation of a region that draws -/
def stepD (P : Program) (call : Caller) (ops : Array Oper) (m : Nat) (o : Oper) (T : Tr Value) (A : Hp) (recs : List (Nat × Rec)) : Option Did :=
  match wantedA ops T o with
  | false => some ⟨⟨undef, A, []⟩, true, none⟩
  | true => match freeB o T with
    | true => match opA P call (evT T) o ⟨A.next, .leaf⟩ with
      | some out => match out.wr with
        | [] => match takeOver out.hp (out.hp.next - A.next) A.next A with
          | some A1 => some ⟨⟨out.v, ⟨out.hp.next, A1.tr⟩, []⟩, true, none⟩
          | none => none
        | _ :: _ => none
      | none => none
    | false => match loadOf o T with
      | some x => match recs.all (fun p => m.testBit p.1 || !(Nat.ble p.2.c0 x && Nat.blt x p.2.c1) && !p.2.wr.contains x), Hp.put ⟨A.next, .leaf⟩ x (A.get x) with
        | true, some B => match opA P call (evT T) o B with
          | some out => match out.wr with
            | [] => some ⟨⟨out.v, A, []⟩, true, some x⟩
            | _ :: _ => none
          | none => none
        | _, _ => none
      | none => match recs.all (fun p => p.2.free || p.2.wr.isEmpty || m.testBit p.1), strikeAll m recs A with
        | true, some B => match opA P call (evT T) o B with
          | some out => match out.wr.isEmpty || (recs.all (fun p => p.2.free || m.testBit p.1) && goodLoads m recs out.wr) with
            | true => match takeAll m A recs out.hp with
              | some A1 => some ⟨⟨out.v, A1, out.wr⟩, false, none⟩
              | none => none
            | false => none
          | none => none
        | _, _ => none

def drawGo (P : Program) (call : Caller) (ops : Array Oper) (ms : List Nat) (n lo : Nat) : List Oper → Nat → Tr Value → Hp → List (Nat × Rec) → List Nat → Option Res
  | [], _, T, A, _, acc => some ⟨T, A, acc⟩
  | o :: rest, j, T, A, recs, acc => match stepD P call ops (ms.getD j 0) o T A recs with
    | some d => match putT n T o.dst d.out.v with
      | some T' => drawGo P call ops ms n lo rest (j + 1) T' d.out.hp ((j, ⟨A.next, d.out.hp.next, d.out.wr, d.free, d.rd⟩) :: recs) (joinWr lo acc d.out.wr)
      | none => none
    | none => none

def drawA (P : Program) (call : Caller) (ops : Array Oper) (n : Nat) (T : Tr Value) (h : Hp) : Option Res :=
  match statB ops with
  | true => drawGo P call ops (masks ops.toList []) n h.next ops.toList 0 T h [] []
  | false => none

/-! ### what holds at each step -/
structure Tape where
  A : Nat → Hp
  T : Nat → Tr Value
  v : Nat → Value
  wr : Nat → List Nat
  fr : Nat → Bool
  rd : Nat → Option Nat

/-- x is a name made by an operation that need not stand ahead of k -/
def Tape.apart (t : Tape) (ms : List Nat) (k x : Nat) : Prop := ∃ i, i < k ∧ (ms.getD k 0).testBit i = false ∧ (t.A i).next ≤ x ∧ x < (t.A (i + 1)).next

structure StepOK (P : Program) (call : Caller) (ops : Array Oper) (ms : List Nat) (n : Nat) (t : Tape) (k : Nat) (o : Oper) : Prop where
  put : putT n (t.T k) o.dst (t.v k) = some (t.T (k + 1))
  order : ∀ i, i < k → t.fr i = false → t.fr k = false → (t.wr i ≠ [] ∨ t.wr k ≠ []) → (ms.getD k 0).testBit i = true
  free : t.fr k = true → t.wr k = []
  loads : ∀ i x, i < k → t.rd i = some x → (ms.getD k 0).testBit i = false → x ∉ t.wr k
  run : (wantedA ops (t.T k) o = false ∧ t.A (k + 1) = t.A k ∧ t.v k = undef ∧ t.wr k = []) ∨
    (wantedA ops (t.T k) o = true ∧ ∃ (B : Hp) (out : Out) (x0 : Nat), opA P call (evT (t.T k)) o B = some out ∧ t.v k = out.v ∧ t.wr k = out.wr ∧ t.wr k = [] ∧ t.A (k + 1) = t.A k ∧ B.next = (t.A k).next ∧ (t.A (k + 1)).next = out.hp.next ∧
      t.rd k = some x0 ∧ ¬ t.apart ms k x0 ∧ (∀ x, B.get x = if x = x0 then (t.A k).get x0 else none) ∧ (∀ i, i < k → (ms.getD k 0).testBit i = false → x0 ∉ t.wr i)) ∨
    (wantedA ops (t.T k) o = true ∧ ∃ (B : Hp) (out : Out), opA P call (evT (t.T k)) o B = some out ∧ t.v k = out.v ∧ t.wr k = out.wr ∧ B.next = (t.A k).next ∧ (t.A (k + 1)).next = out.hp.next ∧
      (t.fr k = true → ∀ x, B.get x = none) ∧
      (t.fr k = false → ∀ x, (t.apart ms k x → B.get x = none) ∧ (¬ t.apart ms k x → B.get x = (t.A k).get x)) ∧
      (t.fr k = true → ∀ x, (t.A (k + 1)).get x = if (t.A k).next ≤ x ∧ x < out.hp.next then out.hp.get x else (t.A k).get x) ∧
      (t.fr k = false → ∀ x, (t.apart ms k x → (t.A (k + 1)).get x = (t.A k).get x) ∧ (¬ t.apart ms k x → (t.A (k + 1)).get x = out.hp.get x)))

def RecsOf (t : Tape) (j : Nat) (recs : List (Nat × Rec)) : Prop := ∀ p, p ∈ recs ↔ ∃ i, i < j ∧ p = (i, ⟨(t.A i).next, (t.A (i + 1)).next, t.wr i, t.fr i, t.rd i⟩)

def Same (t t' : Tape) (j : Nat) : Prop := (∀ i, i ≤ j → t'.A i = t.A i ∧ t'.T i = t.T i) ∧ ∀ i, i < j → t'.v i = t.v i ∧ t'.wr i = t.wr i ∧ t'.fr i = t.fr i ∧ t'.rd i = t.rd i

theorem struck_iff {t : Tape} {j : Nat} {recs : List (Nat × Rec)} {ms : List Nat} (hr : RecsOf t j recs) (x : Nat) : Struck (ms.getD j 0) recs x ↔ t.apart ms j x := by
  unfold Struck Tape.apart
  constructor
  · rintro ⟨p, hp, h1, h2, h3⟩
    obtain ⟨i, hi, rfl⟩ := (hr p).1 hp
    exact ⟨i, hi, h1, h2, h3⟩
  · rintro ⟨i, hi, h1, h2, h3⟩
    exact ⟨_, (hr _).2 ⟨i, hi, rfl⟩, h1, h2, h3⟩

/-- a load leaves the heap -/
theorem load_hp {P : Program} {call : Caller} {ev : Ev} {o : Oper} {out : Out} {B : Hp} {T : Tr Value} {x : Nat} (hl : loadOf o T = some x) (e : opA P call ev o B = some out) : out.hp = B := by
  unfold loadOf at hl
  split at hl
  · rename_i s d y hop
    unfold opA at e
    rw [hop] at e
    simp only [opConvertA] at e
    split at e
    · cases e; rfl
    · split at e
      case h_2 => cases e
      obtain ⟨v, _, rfl⟩ := val1_some e
      rfl
  case h_3 => cases hl
  rename_i t y hop
  unfold opA at e
  rw [hop] at e
  simp only [opLoadA] at e
  split at e
  case h_2 => cases e
  obtain ⟨v, _, rfl⟩ := val1_some e
  rfl

theorem stepD_ok {P : Program} {call : Caller} {ops : Array Oper} {ms : List Nat} {n j : Nat} {t : Tape} {o : Oper} {recs : List (Nat × Rec)} {d : Did} {T' : Tr Value}
    (hr : RecsOf t j recs) (hin : CallIn call) (ht : TIn (fun _ => True) (t.T j)) (e : stepD P call ops (ms.getD j 0) o (t.T j) (t.A j) recs = some d) (hp : putT n (t.T j) o.dst d.out.v = some T')
    (h1 : t.A (j + 1) = d.out.hp) (h2 : t.T (j + 1) = T') (h3 : t.v j = d.out.v) (h4 : t.wr j = d.out.wr) (h5 : t.fr j = d.free) (h6 : t.rd j = d.rd) : StepOK P call ops ms n t j o := by
  have hput : putT n (t.T j) o.dst (t.v j) = some (t.T (j + 1)) := by rw [h3, h2]; exact hp
  unfold stepD at e
  split at e
  · rename_i hw
    cases e
    exact ⟨hput, fun i _ _ h _ => (by rw [h5] at h; cases h), fun _ => h4, fun _ _ _ _ _ => (by rw [h4]; simp), .inl ⟨hw, h1, h3, h4⟩⟩
  · rename_i hw
    split at e
    · -- free
      split at e
      case h_2 => cases e
      rename_i out1 ho
      split at e
      case h_2 => cases e
      rename_i hwr
      split at e
      case h_2 => cases e
      rename_i A1 htk
      cases e
      obtain ⟨k1, k2⟩ := takeOver_spec _ _ _ _ htk
      have hleaf : ∀ x, (Hp.get ⟨(t.A j).next, .leaf⟩ x) = none := fun x => rfl
      have hnx := (op_in hin (h := ⟨(t.A j).next, .leaf⟩) (S := fun _ => True) (fun x b hb => by rw [hleaf] at hb; cases hb) (fun x _ v hv => evT_in ht hv) ho (fun _ _ _ => trivial)).2.2
      refine ⟨hput, fun i _ _ h _ => (by rw [h5] at h; cases h), fun _ => h4, fun _ _ _ _ _ => (by rw [h4]; simp), .inr (.inr ⟨hw, ⟨(t.A j).next, .leaf⟩, out1, ho, h3, by rw [h4, hwr], rfl, by rw [h1], fun _ => hleaf, fun h => (by rw [h5] at h; cases h), fun _ x => ?_, fun h => (by rw [h5] at h; cases h)⟩)⟩
      rw [h1]
      show A1.get x = _
      rw [k2]
      simp only at hnx
      by_cases hx : (t.A j).next ≤ x ∧ x < out1.hp.next
      · rw [if_pos hx, if_pos (by omega)]
      · rw [if_neg hx, if_neg (by omega)]
    · split at e
      · -- a load
        rename_i x0 hld
        split at e
        case h_2 => cases e
        rename_i B hall hput'
        split at e
        case h_2 => cases e
        rename_i out1 ho
        split at e
        case h_2 => cases e
        rename_i hwr
        cases e
        obtain ⟨p1, p2⟩ := Hp.put_spec hput'
        have hhp := load_hp hld ho
        have hrec : ∀ i, i < j → (ms.getD j 0).testBit i = false → ¬ ((t.A i).next ≤ x0 ∧ x0 < (t.A (i + 1)).next) ∧ x0 ∉ t.wr i := fun i hi hb => by
          have := List.all_eq_true.1 hall _ ((hr _).2 ⟨i, hi, rfl⟩)
          simp only [hb, Bool.false_or, Bool.and_eq_true, Bool.not_eq_true', Bool.and_eq_false_iff] at this
          refine ⟨fun hh => ?_, fun hh => ?_⟩
          · rcases this.1 with h | h
            · rw [Nat.ble_eq_true_of_le hh.1] at h; cases h
            · have : Nat.blt x0 (t.A (i + 1)).next = true := by rw [Nat.blt_eq]; exact hh.2
              rw [this] at h; cases h
          · have h := this.2
            rw [List.contains_iff_mem.2 hh] at h; cases h
        refine ⟨hput, fun i _ _ h _ => (by rw [h5] at h; cases h), fun _ => h4, fun _ _ _ _ _ => (by rw [h4]; simp), .inr (.inl ⟨hw, B, out1, x0, ho, h3, by rw [h4, hwr], h4, h1, p1, by rw [h1, hhp]; exact p1.symm, h6, ?_, fun x => ?_, fun i hi hb => (hrec i hi hb).2⟩)⟩
        · rintro ⟨i, i1, i2, i3⟩; exact (hrec i i1 i2).1 i3
        · rw [p2]; rfl
      · split at e
        case h_2 => cases e
        rename_i B hall hstr
        split at e
        case h_2 => cases e
        rename_i out1 ho
        split at e
        case h_2 => cases e
        rename_i hor
        split at e
        case h_2 => cases e
        rename_i A1 hta
        cases e
        obtain ⟨s1, s2⟩ := strikeAll_spec _ _ _ hstr
        obtain ⟨k1, k2⟩ := takeAll_spec _ _ _ hta
        simp only [Bool.or_eq_true, Bool.and_eq_true, List.isEmpty_iff] at hor
        refine ⟨hput, fun i hi hfi _ hor' => ?_, fun h => (by rw [h5] at h; cases h), fun i x hi hrd hb => ?_, .inr (.inr ⟨hw, B, out1, ho, h3, h4, s1, by rw [h1]; exact k1, fun h => (by rw [h5] at h; cases h), fun _ x => ⟨fun ha => ?_, fun ha => ?_⟩, fun h => (by rw [h5] at h; cases h), fun _ x => ⟨fun ha => ?_, fun ha => ?_⟩⟩)⟩
        · have hmem := (hr _).2 ⟨i, hi, rfl⟩
          rcases hor' with hq | hq
          · have := List.all_eq_true.1 hall _ hmem
            simp only [hfi, Bool.false_or, Bool.or_eq_true, List.isEmpty_iff] at this
            exact this.resolve_left hq
          · rcases hor with hz | hz
            · exact absurd (h4.trans hz) hq
            · have := List.all_eq_true.1 hz.1 _ hmem
              simpa [hfi] using this
        · rcases hor with hz | hz
          · rw [h4]; show x ∉ out1.wr; rw [hz]; simp
          · have hmem := (hr _).2 ⟨i, hi, rfl⟩
            have := List.all_eq_true.1 hz.2 _ hmem
            simp only [hb, hrd, Bool.false_or, Bool.not_eq_true'] at this
            rw [h4]
            intro hh
            rw [List.contains_iff_mem.2 hh] at this; cases this
        · rw [s2, if_pos ((struck_iff hr x).2 ha)]
        · rw [s2, if_neg (fun hh => ha ((struck_iff hr x).1 hh))]
        · rw [h1]; show A1.get x = _; rw [k2, if_pos ((struck_iff hr x).2 ha)]
        · rw [h1]; show A1.get x = _; rw [k2, if_neg (fun hh => ha ((struck_iff hr x).1 hh))]
end

section
/-! A region that draws: the tape of its steps, in the text's order. -/
theorem Same.refl (t : Tape) (j : Nat) : Same t t j := ⟨fun _ _ => ⟨rfl, rfl⟩, fun _ _ => ⟨rfl, rfl, rfl, rfl⟩⟩
theorem Same.apart {t t' : Tape} {ms : List Nat} {k j : Nat} (h : Same t t' j) (hk : k ≤ j) (x : Nat) : t'.apart ms k x ↔ t.apart ms k x := by
  unfold Tape.apart
  constructor
  · rintro ⟨i, h1, h2, h3, h4⟩
    exact ⟨i, h1, h2, by rw [← (h.1 i (by omega)).1]; exact h3, by rw [← (h.1 (i + 1) (by omega)).1]; exact h4⟩
  · rintro ⟨i, h1, h2, h3, h4⟩
    exact ⟨i, h1, h2, by rw [(h.1 i (by omega)).1]; exact h3, by rw [(h.1 (i + 1) (by omega)).1]; exact h4⟩

theorem StepOK.same {P : Program} {call : Caller} {ops : Array Oper} {ms : List Nat} {n k : Nat} {t t' : Tape} {o : Oper} (h : Same t t' (k + 1)) (ok : StepOK P call ops ms n t k o) : StepOK P call ops ms n t' k o := by
  have e1 := h.1 k (by omega)
  have e2 := h.1 (k + 1) (by omega)
  have e3 := h.2 k (by omega)
  have ea := fun x => Same.apart (ms := ms) (k := k) h (by omega) x
  refine ⟨by rw [e1.2, e2.2, e3.1]; exact ok.put, fun i hi h1 h2 h3 => ?_, fun hf => by rw [e3.2.1]; exact ok.free (by rw [← e3.2.2.1]; exact hf), fun i x hi hrd hb => ?_, ?_⟩
  · have ei := h.2 i (by omega)
    exact ok.order i hi (by rw [← ei.2.2.1]; exact h1) (by rw [← e3.2.2.1]; exact h2) (by rw [← ei.2.1, ← e3.2.1]; exact h3)
  · rw [e3.2.1]; exact ok.loads i x hi (by rw [← (h.2 i (by omega)).2.2.2]; exact hrd) hb
  · rcases ok.run with ⟨r1, r2, r3, r4⟩ | ⟨r1, B, out, x0, r2, r3, r4, r5, r6, r7, r8, r9, r10, r11, r12⟩ | ⟨r1, B, out, r2, r3, r4, r5, r6, r7, r8, r9, r10⟩
    · exact .inl ⟨by rw [e1.2]; exact r1, by rw [e2.1, e1.1]; exact r2, by rw [e3.1]; exact r3, by rw [e3.2.1]; exact r4⟩
    · refine .inr (.inl ⟨by rw [e1.2]; exact r1, B, out, x0, by rw [e1.2]; exact r2, by rw [e3.1]; exact r3, by rw [e3.2.1]; exact r4, by rw [e3.2.1]; exact r5, by rw [e2.1, e1.1]; exact r6, by rw [e1.1]; exact r7, by rw [e2.1]; exact r8,
        by rw [e3.2.2.2]; exact r9, by rw [ea]; exact r10, by rw [e1.1]; exact r11, fun i hi hb => ?_⟩)
      rw [(h.2 i (by omega)).2.1]; exact r12 i hi hb
    · refine .inr (.inr ⟨by rw [e1.2]; exact r1, B, out, by rw [e1.2]; exact r2, by rw [e3.1]; exact r3, by rw [e3.2.1]; exact r4, by rw [e1.1]; exact r5, by rw [e2.1]; exact r6,
        fun hf => r7 (by rw [← e3.2.2.1]; exact hf), fun hf x => ?_, fun hf x => ?_, fun hf x => ?_⟩)
      · have := r8 (by rw [← e3.2.2.1]; exact hf) x; rw [ea, e1.1]; exact this
      · have := r9 (by rw [← e3.2.2.1]; exact hf) x; rw [e1.1, e2.1]; exact this
      · have := r10 (by rw [← e3.2.2.1]; exact hf) x; rw [ea, e1.1, e2.1]; exact this

/-- the text's order: names -/
theorem StepOK.hin {P : Program} {call : Caller} (hc : CallIn call) {ops : Array Oper} {ms : List Nat} {n k : Nat} {t : Tape} {o : Oper} (ok : StepOK P call ops ms n t k o) {S : Nat → Prop}
    (hA : HIn S (t.A k)) (hT : TIn S (t.T k)) (hS : ∀ y, (t.A k).next ≤ y → y < (t.A (k + 1)).next → S y) :
    (t.A k).next ≤ (t.A (k + 1)).next ∧ HIn S (t.A (k + 1)) ∧ In S (t.v k) ∧ TIn S (t.T (k + 1)) := by
  have hput := ok.put
  rcases ok.run with ⟨r1, r2, r3, r4⟩ | ⟨r1, B, out, x0, r2, r3, r4, r5, r6, r7, r8, r9, r10, r11, r12⟩ | ⟨r1, B, out, r2, r3, r4, r5, r6, r7, r8, r9, r10⟩
  · have hv : In S (t.v k) := by rw [r3]; simp [undef, In]
    exact ⟨by rw [r2]; exact Nat.le_refl _, by rw [r2]; exact hA, hv, TIn.put hT hv hput⟩
  · have hB : HIn S B := fun x b hb => by
      rw [r11] at hb
      split at hb
      · rename_i hx; subst hx; have := hA x b hb; rw [r7]; exact this
      · cases hb
    have hh := op_in hc hB (fun x _ v hv => evT_in hT hv) r2 (fun y h1 h2 => hS y (by rw [← r7]; exact h1) (by rw [r8]; exact h2))
    have hv : In S (t.v k) := by rw [r3]; exact hh.2.1
    exact ⟨by rw [r6]; exact Nat.le_refl _, by rw [r6]; exact hA, hv, TIn.put hT hv hput⟩
  · have hsub : ∀ x b, B.get x = some b → (t.A k).get x = some b := fun x b hb => by
      cases hf : t.fr k with
      | true => rw [r7 hf] at hb; cases hb
      | false =>
        by_cases ha : t.apart ms k x
        · rw [(r8 hf x).1 ha] at hb; cases hb
        · rw [(r8 hf x).2 ha] at hb; exact hb
    have hB : HIn S B := fun x b hb => by have := hA x b (hsub x b hb); rw [r5]; exact this
    have hh := op_in hc hB (fun x _ v hv => evT_in hT hv) r2 (fun y h1 h2 => hS y (by rw [← r5]; exact h1) (by rw [r6]; exact h2))
    have hv : In S (t.v k) := by rw [r3]; exact hh.2.1
    refine ⟨by rw [r6, ← r5]; exact hh.2.2, fun x b hb => ?_, hv, TIn.put hT hv hput⟩
    have hnx : (t.A k).next ≤ out.hp.next := by rw [← r5]; exact hh.2.2
    cases hf : t.fr k with
    | true =>
      rw [r9 hf] at hb
      split at hb
      · have := hh.1 x b hb; rw [r6]; exact this
      · have := hA x b hb; exact ⟨this.1, by rw [r6]; omega, this.2.2⟩
    | false =>
      by_cases ha : t.apart ms k x
      · rw [(r10 hf x).1 ha] at hb
        have := hA x b hb; exact ⟨this.1, by rw [r6]; omega, this.2.2⟩
      · rw [(r10 hf x).2 ha] at hb
        have := hh.1 x b hb; rw [r6]; exact this

def Tape.with (t : Tape) (j : Nat) (A : Hp) (T : Tr Value) (v : Value) (wr : List Nat) (fr : Bool) (rd : Option Nat) : Tape where
  A k := if k = j + 1 then A else t.A k
  T k := if k = j + 1 then T else t.T k
  v k := if k = j then v else t.v k
  wr k := if k = j then wr else t.wr k
  fr k := if k = j then fr else t.fr k
  rd k := if k = j then rd else t.rd k

theorem drawGo_spec {P : Program} {call : Caller} (hc : CallIn call) {ops : Array Oper} {ms : List Nat} {n lo : Nat} : ∀ (l : List Oper) (j : Nat) (t : Tape) (recs : List (Nat × Rec)) (acc : List Nat) (r : Res),
    (∀ i, l[i]? = ops[j + i]?) → RecsOf t j recs → HIn (fun _ => True) (t.A j) → TIn (fun _ => True) (t.T j) → drawGo P call ops ms n lo l j (t.T j) (t.A j) recs acc = some r →
    ∃ t', Same t t' j ∧ t'.A (j + l.length) = r.hp ∧ t'.T (j + l.length) = r.T ∧ (∀ (k : Nat) (o : Oper), j ≤ k → ops[k]? = some o → StepOK P call ops ms n t' k o) ∧
      ∀ y, y ∈ r.wr ↔ y ∈ acc ∨ ∃ k, j ≤ k ∧ k < j + l.length ∧ y ∈ t'.wr k ∧ y < lo := by
  intro l
  induction l with
  | nil =>
    intro j t recs acc r hl hr hA hT e
    simp only [drawGo, Option.some.injEq] at e
    subst e
    refine ⟨t, Same.refl t j, rfl, rfl, fun k o hk ho => ?_, fun y => by simp; intro k h1 h2; omega⟩
    have := hl (k - j)
    rw [show j + (k - j) = k by omega, ho] at this; simp at this
  | cons o l ih =>
    intro j t recs acc r hl hr hA hT e
    have ho : ops[j]? = some o := by have := hl 0; simpa using this.symm
    simp only [drawGo] at e
    split at e
    case h_2 => cases e
    rename_i d hst
    split at e
    case h_2 => cases e
    rename_i T' hT'
    let t1 := t.with j d.out.hp T' d.out.v d.out.wr d.free d.rd
    have a1 : t1.A (j + 1) = d.out.hp := by simp [t1, Tape.with]
    have a2 : t1.T (j + 1) = T' := by simp [t1, Tape.with]
    have a3 : t1.v j = d.out.v := by simp [t1, Tape.with]
    have a4 : t1.wr j = d.out.wr := by simp [t1, Tape.with]
    have a5 : t1.fr j = d.free := by simp [t1, Tape.with]
    have a6 : t1.rd j = d.rd := by simp [t1, Tape.with]
    have s1 : Same t t1 j := ⟨fun i hi => by simp [t1, Tape.with, show i ≠ j + 1 by omega], fun i hi => by simp [t1, Tape.with, show i ≠ j by omega]⟩
    have hr1 : RecsOf t1 j recs := fun p => by
      rw [hr p]
      constructor
      · rintro ⟨i, hi, rfl⟩
        exact ⟨i, hi, by rw [(s1.1 i (by omega)).1, (s1.1 (i + 1) (by omega)).1, (s1.2 i hi).2.1, (s1.2 i hi).2.2.1, (s1.2 i hi).2.2.2]⟩
      · rintro ⟨i, hi, rfl⟩
        exact ⟨i, hi, by rw [(s1.1 i (by omega)).1, (s1.1 (i + 1) (by omega)).1, (s1.2 i hi).2.1, (s1.2 i hi).2.2.1, (s1.2 i hi).2.2.2]⟩
    have ej := s1.1 j (Nat.le_refl _)
    have ok : StepOK P call ops ms n t1 j o := stepD_ok hr1 hc (by rw [ej.2]; exact hT) (by rw [ej.1, ej.2]; exact hst) (by rw [ej.2]; exact hT') a1 a2 a3 a4 a5 a6
    have hh := ok.hin hc (S := fun _ => True) (by rw [ej.1]; exact hA) (by rw [ej.2]; exact hT) (fun _ _ _ => trivial)
    have hr2 : RecsOf t1 (j + 1) ((j, ⟨(t.A j).next, d.out.hp.next, d.out.wr, d.free, d.rd⟩) :: recs) := fun p => by
      rw [List.mem_cons, hr1 p]
      constructor
      · rintro (rfl | ⟨i, hi, rfl⟩)
        · exact ⟨j, by omega, by rw [ej.1, a1, a4, a5, a6]⟩
        · exact ⟨i, by omega, rfl⟩
      · rintro ⟨i, hi, rfl⟩
        rcases Nat.lt_or_ge i j with h | h
        · exact .inr ⟨i, h, rfl⟩
        · have : i = j := by omega
          subst this
          left; rw [ej.1, a1, a4, a5, a6]
    obtain ⟨t', b1, b2, b3, b4, b5⟩ := ih (j + 1) t1 _ (joinWr lo acc d.out.wr) r (fun i => by have := hl (i + 1); simpa [Nat.add_assoc, Nat.add_comm 1 i] using this) hr2 hh.2.1 hh.2.2.2 (by rw [a1, a2]; exact e)
    have hlen : j + (o :: l).length = j + 1 + l.length := by simp; omega
    refine ⟨t', ⟨fun i hi => ?_, fun i hi => ?_⟩, by rw [hlen]; exact b2, by rw [hlen]; exact b3, fun k o' hk hk' => ?_, fun y => ?_⟩
    · have x1 := b1.1 i (by omega); have x2 := s1.1 i hi; exact ⟨x1.1.trans x2.1, x1.2.trans x2.2⟩
    · have x1 := b1.2 i (by omega); have x2 := s1.2 i hi; exact ⟨x1.1.trans x2.1, x1.2.1.trans x2.2.1, x1.2.2.1.trans x2.2.2.1, x1.2.2.2.trans x2.2.2.2⟩
    · rcases Nat.eq_or_lt_of_le hk with rfl | hlt
      · rw [ho] at hk'; cases hk'; exact ok.same b1
      · exact b4 k o' hlt hk'
    · rw [b5 y, mem_joinWr, hlen]
      have ew : t'.wr j = d.out.wr := ((b1.2 j (by omega)).2.1).trans a4
      constructor
      · rintro ((h | ⟨h1, h2⟩) | ⟨k, k1, k2, k3, k4⟩)
        · exact .inl h
        · exact .inr ⟨j, Nat.le_refl _, by omega, by rw [ew]; exact h1, h2⟩
        · exact .inr ⟨k, by omega, k2, k3, k4⟩
      · rintro (h | ⟨k, k1, k2, k3, k4⟩)
        · exact .inl (.inl h)
        · rcases Nat.eq_or_lt_of_le k1 with rfl | hlt
          · exact .inl (.inr ⟨by rw [← ew]; exact k3, k4⟩)
          · exact .inr ⟨k, hlt, k2, k3, k4⟩

/-! ### the whole tape -/
structure Whole (P : Program) (call : Caller) (ops : Array Oper) (ms : List Nat) (n : Nat) (t : Tape) : Prop where
  ok : ∀ (k : Nat) (o : Oper), ops[k]? = some o → StepOK P call ops ms n t k o
  fx : Fixed ops
  anc : ∀ k i, (ms.getD k 0).testBit i = true → Reach ops k i
  hin0 : HIn (· < (t.A 0).next) (t.A 0)
  tin0 : TIn (· < (t.A 0).next) (t.T 0)
  cin : CallIn call
  cold : CallOld call

section
variable {P : Program} {call : Caller} {ops : Array Oper} {ms : List Nat} {n : Nat} {t : Tape}

theorem Whole.op (W : Whole P call ops ms n t) {k : Nat} (hk : k < ops.size) : ∃ o, ops[k]? = some o ∧ StepOK P call ops ms n t k o :=
  ⟨ops[k], by simp [hk], W.ok k _ (by simp [hk])⟩

theorem Whole.next1 (W : Whole P call ops ms n t) {k : Nat} (hk : k < ops.size) (hA : HIn (fun _ => True) (t.A k)) (hT : TIn (fun _ => True) (t.T k)) : (t.A k).next ≤ (t.A (k + 1)).next := by
  obtain ⟨o, _, ok⟩ := W.op hk
  exact (ok.hin W.cin hA hT (fun _ _ _ => trivial)).1

theorem Whole.hin (W : Whole P call ops ms n t) : ∀ q, q ≤ ops.size → HIn (· < (t.A q).next) (t.A q) ∧ TIn (· < (t.A q).next) (t.T q) := by
  intro q
  induction q with
  | zero => intro _; exact ⟨W.hin0, W.tin0⟩
  | succ q ih =>
    intro hq
    obtain ⟨h1, h2⟩ := ih (by omega)
    have hn := W.next1 (k := q) (by omega) (h1.mono fun _ _ => trivial) (h2.mono fun _ _ => trivial)
    obtain ⟨o, _, ok⟩ := W.op (k := q) (by omega)
    have := ok.hin W.cin (S := (· < (t.A (q + 1)).next)) (h1.mono fun x hx => by omega) (h2.mono fun x hx => by omega) (fun y _ h => h)
    exact ⟨this.2.1, this.2.2.2⟩

theorem Whole.mono (W : Whole P call ops ms n t) {p q : Nat} (hpq : p ≤ q) (hq : q ≤ ops.size) : (t.A p).next ≤ (t.A q).next := by
  induction q with
  | zero => have : p = 0 := by omega
            subst this; exact Nat.le_refl _
  | succ q ih =>
    rcases Nat.eq_or_lt_of_le hpq with rfl | hlt
    · exact Nat.le_refl _
    · have h := W.hin q (by omega)
      exact Nat.le_trans (ih (by omega) (by omega)) (W.next1 (by omega) (h.1.mono fun _ _ => trivial) (h.2.mono fun _ _ => trivial))

theorem Whole.owner (_W : Whole P call ops ms n t) {q x : Nat} (hq : q ≤ ops.size) (h0 : (t.A 0).next ≤ x) (hx : x < (t.A q).next) : ∃ i, i < q ∧ (t.A i).next ≤ x ∧ x < (t.A (i + 1)).next := by
  induction q with
  | zero => omega
  | succ q ih =>
    rcases Nat.lt_or_ge x (t.A q).next with h | h
    · obtain ⟨i, h1, h2⟩ := ih (by omega) h; exact ⟨i, by omega, h2⟩
    · exact ⟨q, by omega, h, hx⟩

theorem Whole.one_owner (W : Whole P call ops ms n t) {i k x : Nat} (hi : i < ops.size) (hk : k < ops.size) (h1 : (t.A i).next ≤ x ∧ x < (t.A (i + 1)).next) (h2 : (t.A k).next ≤ x ∧ x < (t.A (k + 1)).next) : i = k := by
  rcases Nat.lt_trichotomy i k with h | h | h
  · have := W.mono (p := i + 1) (q := k) h (by omega); omega
  · exact h
  · have := W.mono (p := k + 1) (q := i) h (by omega); omega

/-- a step leaves alone what it does not write -/
theorem Whole.step_old (W : Whole P call ops ms n t) {k x : Nat} (hk : k < ops.size) (hx : x < (t.A k).next) (h : x ∉ t.wr k ∨ t.apart ms k x) : (t.A (k + 1)).get x = (t.A k).get x := by
  obtain ⟨o, _, ok⟩ := W.op hk
  rcases ok.run with ⟨r1, r2, r3, r4⟩ | ⟨r1, B, out, x0, r2, r3, r4, r5, r6, r7, r8, r9, r10, r11, r12⟩ | ⟨r1, B, out, r2, r3, r4, r5, r6, r7, r8, r9, r10⟩
  · rw [r2]
  · rw [r6]
  · cases hf : t.fr k with
    | true => rw [r9 hf, if_neg (by omega)]
    | false =>
      by_cases ha : t.apart ms k x
      · exact (r10 hf x).1 ha
      · have hAk := W.hin k (by omega)
        have hsub : HIn (· < B.next) B := fun y b hb => by
          by_cases hay : t.apart ms k y
          · rw [(r8 hf y).1 hay] at hb; cases hb
          · rw [(r8 hf y).2 hay] at hb; rw [r5]; exact hAk.1 y b hb
        rw [(r10 hf x).2 ha, op_old W.cold hsub (fun y _ v hv => by rw [r5]; exact evT_in hAk.2 hv) r2 x (by rw [r5]; exact hx) (by rw [← r4]; exact h.resolve_right ha), (r8 hf x).2 ha]

theorem Whole.stab (W : Whole P call ops ms n t) {p q x : Nat} (hpq : p ≤ q) (hq : q ≤ ops.size) (hx : x < (t.A p).next) (h : ∀ k, p ≤ k → k < q → x ∉ t.wr k ∨ t.apart ms k x) : (t.A q).get x = (t.A p).get x := by
  induction q with
  | zero => have : p = 0 := by omega
            subst this; rfl
  | succ q ih =>
    rcases Nat.eq_or_lt_of_le hpq with rfl | hlt
    · rfl
    · rw [W.step_old (by omega) (Nat.lt_of_lt_of_le hx (W.mono (by omega) (by omega))) (h q (by omega) (by omega)), ih (by omega) (by omega) fun k h1 h2 => h k h1 (by omega)]

theorem Whole.temps (W : Whole P call ops ms n t) (d : Tmp) : ∀ k, k ≤ ops.size → (∀ (i : Nat) (o : Oper), i < k → ops[i]? = some o → o.dst = some d → d < n → (t.T k).get d = some (t.v i)) ∧
    ((∀ (i : Nat) (o : Oper), i < k → ops[i]? = some o → ¬ (o.dst = some d ∧ d < n)) → (t.T k).get d = (t.T 0).get d) := by
  intro k
  induction k with
  | zero => intro _; exact ⟨fun i o hi => by omega, fun _ => rfl⟩
  | succ k ih =>
    intro hk
    obtain ⟨i1, i2⟩ := ih (by omega)
    obtain ⟨o, ho, ok⟩ := W.op (k := k) (by omega)
    have hs := putT_spec ok.put d
    refine ⟨fun i o' hi hio hd hdn => ?_, fun h => ?_⟩
    · rw [hs]
      by_cases hc : o.dst = some d ∧ d < n
      · rw [if_pos hc]
        have := W.fx.one i k o' o d hio ho hd hc.1
        rw [this]
      · rw [if_neg hc]
        rcases Nat.eq_or_lt_of_le (Nat.le_of_lt_succ hi) with rfl | hlt
        · rw [ho] at hio; cases hio; exact absurd ⟨hd, hdn⟩ hc
        · exact i1 i o' hlt hio hd hdn
    · rw [hs, if_neg (h k o (by omega) ho)]
      exact i2 fun i o' hi hio => h i o' (by omega) hio
end
end

section
/-! A region that draws: whichever operations have come up, what holds. -/
section
variable {P : Program} {call : Caller} {ops : Array Oper} {ms : List Nat} {n : Nat} {t : Tape}

/-- what has come up is closed under 'ahead' -/
def Closed (ops : Array Oper) (D : Nat → Prop) : Prop := ∀ (j : Nat) (o : Oper), D j → ops[j]? = some o → ∀ e ∈ o.after, Region.binds .any e = true → D e.on

theorem Closed.reach {D : Nat → Prop} (h : Closed ops D) {j i : Nat} (hr : Reach ops j i) : D j → D i := by
  induction hr with
  | edge ho he hb => exact fun hj => h _ _ hj ho _ he hb
  | step ho he hb _ ih => exact fun hj => ih (h _ _ hj ho _ he hb)
/-- what may come up now has all that stands ahead of it -/
theorem Closed.ready {D : Nat → Prop} (h : Closed ops D) {j i : Nat} {o : Oper} (ho : ops[j]? = some o) (hr : Reach ops j i) (he : ∀ e ∈ o.after, Region.binds .any e = true → D e.on) : D i := by
  cases hr with
  | edge ho' he' hb => rw [ho] at ho'; cases ho'; exact he _ he' hb
  | step ho' he' hb hr' => rw [ho] at ho'; cases ho'; exact h.reach hr' (he _ he' hb)

/-- the names that are there -/
def SD (t : Tape) (N : Nat) (D : Nat → Prop) (x : Nat) : Prop := x < (t.A 0).next ∨ ∃ i, D i ∧ i < N ∧ (t.A i).next ≤ x ∧ x < (t.A (i + 1)).next

theorem Whole.order (W : Whole P call ops ms n t) {i k : Nat} (hik : i < k) (hk : k < ops.size) (hfi : t.fr i = false) (hfk : t.fr k = false) (hw : t.wr i ≠ [] ∨ t.wr k ≠ []) : Reach ops k i := by
  obtain ⟨o, _, ok⟩ := W.op hk
  exact W.anc k i (ok.order i hik hfi hfk hw)
theorem Whole.notfree (W : Whole P call ops ms n t) {k : Nat} (hk : k < ops.size) (hw : t.wr k ≠ []) : t.fr k = false := by
  obtain ⟨o, _, ok⟩ := W.op hk
  cases hf : t.fr k with
  | false => rfl
  | true => exact absurd (ok.free hf) hw

/-- all names in what has come up so far are there -/
theorem Whole.supp (W : Whole P call ops ms n t) {D : Nat → Prop} (hD : Closed ops D) : ∀ q, q ≤ ops.size →
    (∀ x b, SD t ops.size D x → (∀ k, k < q → x ∈ t.wr k → ¬ t.apart ms k x → x < (t.A k).next → D k) → (t.A q).get x = some b → ∀ v ∈ b.cells, In (SD t ops.size D) v) ∧
    (∀ k, k < q → D k → In (SD t ops.size D) (t.v k)) := by
  intro q
  induction q with
  | zero =>
    intro _
    refine ⟨fun x b _ _ hb v hv => In.mono (fun y hy => .inl hy) v ((W.hin0 x b hb).2.2 v hv), fun k hk => by omega⟩
  | succ q ih =>
    intro hq
    obtain ⟨ih1, ih2⟩ := ih (by omega)
    -- the operation q, if it has come up
    have hop : ∀ (o : Oper) (B : Hp) (out : Out), D q → ops[q]? = some o → opA P call (evT (t.T q)) o B = some out → B.next = (t.A q).next → (t.A (q + 1)).next = out.hp.next →
        (∀ x b, B.get x = some b → ¬ t.apart ms q x ∧ (∀ k, k < q → x ∈ t.wr k → D k) ∧ (t.A q).get x = some b) → HIn (SD t ops.size D) out.hp ∧ In (SD t ops.size D) out.v := by
      intro o B out hDq ho hrun hB1 hB2 hB3
      have hBin : HIn (SD t ops.size D) B := fun x b hb => by
        obtain ⟨g1, g2, g3⟩ := hB3 x b hb
        have hlt := ((W.hin q (by omega)).1 x b g3).2.1
        have hsd : SD t ops.size D x := by
          rcases Nat.lt_or_ge x (t.A 0).next with h | h
          · exact .inl h
          · obtain ⟨i, i1, i2, i3⟩ := W.owner (by omega) h hlt
            refine .inr ⟨i, ?_, by omega, i2, i3⟩
            have hbit : (ms.getD q 0).testBit i = true := by
              cases hb' : (ms.getD q 0).testBit i with
              | true => rfl
              | false => exact absurd ⟨i, i1, hb', i2, i3⟩ g1
            exact hD.reach (W.anc q i hbit) hDq
        exact ⟨hsd, by rw [hB1]; exact hlt, ih1 x b hsd (fun k k1 k2 _ _ => g2 k k1 k2) g3⟩
      have hev : ∀ x ∈ o.op.operands, ∀ v, evT (t.T q) x = some v → In (SD t ops.size D) v := by
        intro x hx v hv
        cases x with
        | tmp d =>
          have hlook : d ∈ o.looksAt ops := by
            unfold Oper.looksAt
            exact List.mem_append_left _ (List.mem_filterMap.2 ⟨.tmp d, by simpa using hx, rfl⟩)
          simp only [evT, Option.some.injEq] at hv
          subst hv
          have htm := W.temps d q (by omega)
          by_cases hc : ∃ (i : Nat) (o' : Oper), i < q ∧ ops[i]? = some o' ∧ o'.dst = some d ∧ d < n
          · obtain ⟨i, o', c1, c2, c3, c4⟩ := hc
            rw [htm.1 i o' c1 c2 c3 c4]
            have hDi := hD.reach ((W.fx.look q o ho d hlook i o' c2 c3).elim (fun h => h.2) (fun h => absurd h.1 (by omega))) hDq
            exact ih2 i c1 hDi
          · rw [htm.2 fun i o' h1 h2 h3 => hc ⟨i, o', h1, h2, h3.1, h3.2⟩]
            exact In.mono (fun y hy => .inl hy) _ (W.tin0.getD d)
        | const c => simp only [evT] at hv; split at hv <;> cases hv; rename_i hp; exact (conc_pure (s := ⟨id, id⟩) hp).2 _
        | func f => simp only [evT, Option.some.injEq] at hv; subst hv; simp [In]
        | global g => simp [evT] at hv
      have := op_in W.cin hBin hev hrun (fun y h1 h2 => .inr ⟨q, hDq, by omega, by rw [← hB1]; exact h1, by rw [hB2]; exact h2⟩)
      exact ⟨this.1, this.2.1⟩
    obtain ⟨o, ho, ok⟩ := W.op (k := q) (by omega)
    have hBs3 : D q → ∀ (B : Hp), (t.fr q = true → ∀ x, B.get x = none) → (t.fr q = false → ∀ x, (t.apart ms q x → B.get x = none) ∧ (¬ t.apart ms q x → B.get x = (t.A q).get x)) →
        ∀ x b, B.get x = some b → ¬ t.apart ms q x ∧ (∀ k, k < q → x ∈ t.wr k → D k) ∧ (t.A q).get x = some b := fun hDq B r7 r8 x b hb => by
      cases hf : t.fr q with
      | true => rw [r7 hf] at hb; cases hb
      | false =>
        by_cases ha : t.apart ms q x
        · rw [(r8 hf x).1 ha] at hb; cases hb
        · rw [(r8 hf x).2 ha] at hb
          refine ⟨ha, fun k k1 k2 => ?_, hb⟩
          have hne : t.wr k ≠ [] := fun h => by rw [h] at k2; cases k2
          exact hD.reach (W.order k1 (by omega) (W.notfree (by omega) hne) hf (.inl hne)) hDq
    refine ⟨fun x b hsd hwr hb => ?_, fun k hk hDk => ?_⟩
    · rcases ok.run with ⟨r1, r2, r3, r4⟩ | ⟨r1, B, out, x0, r2, r3, r4, r5, r6, r7, r8, r9, r10, r11, r12⟩ | ⟨r1, B, out, r2, r3, r4, r5, r6, r7, r8, r9, r10⟩
      · rw [r2] at hb
        exact ih1 x b hsd (fun k k1 => hwr k (by omega)) hb
      · rw [r6] at hb
        exact ih1 x b hsd (fun k k1 => hwr k (by omega)) hb
      · rcases Nat.lt_or_ge x (t.A q).next with hlt | hge
        · by_cases hw : x ∉ t.wr q ∨ t.apart ms q x
          · rw [W.step_old (by omega) hlt hw] at hb
            exact ih1 x b hsd (fun k k1 => hwr k (by omega)) hb
          · have hw1 : x ∈ t.wr q := Classical.not_not.1 (fun h => hw (.inl h))
            have hw2 : ¬ t.apart ms q x := fun h => hw (.inr h)
            have hne : t.wr q ≠ [] := fun h => by rw [h] at hw1; cases hw1
            have hDq := hwr q (by omega) hw1 hw2 hlt
            have hf := W.notfree (by omega) hne
            rw [(r10 hf x).2 hw2] at hb
            exact ((hop o B out hDq ho r2 r5 r6 (hBs3 hDq B r7 r8)).1 x b hb).2.2
        · have hxn := ((W.hin (q + 1) (by omega)).1 x b hb).2.1
          have hDq : D q := by
            rcases hsd with h | ⟨i, i1, i2, i3⟩
            · have := W.mono (p := 0) (q := q) (by omega) (by omega); omega
            · rw [W.one_owner (i := q) (k := i) (by omega) i2 ⟨hge, hxn⟩ i3]; exact i1
          have hbo : out.hp.get x = some b := by
            cases hf : t.fr q with
            | true => rw [r9 hf, if_pos ⟨hge, by rw [← r6]; exact hxn⟩] at hb; exact hb
            | false =>
              rw [(r10 hf x).2 ?_] at hb
              · exact hb
              · rintro ⟨i, i1, _, _, i4⟩
                have := W.mono (p := i + 1) (q := q) i1 (by omega); omega
          exact ((hop o B out hDq ho r2 r5 r6 (hBs3 hDq B r7 r8)).1 x b hbo).2.2
    · rcases Nat.eq_or_lt_of_le (Nat.le_of_lt_succ hk) with rfl | hlt
      · rcases ok.run with ⟨r1, r2, r3, r4⟩ | ⟨r1, B, out, x0, r2, r3, r4, r5, r6, r7, r8, r9, r10, r11, r12⟩ | ⟨r1, B, out, r2, r3, r4, r5, r6, r7, r8, r9, r10⟩
        · rw [r3]; simp [undef, In]
        · rw [r3]
          refine (hop o B out hDk ho r2 r7 r8 fun x b hb => ?_).2
          rw [r11] at hb
          split at hb
          · rename_i hx; subst hx
            refine ⟨r10, fun i i1 i2 => ?_, hb⟩
            cases hbit : (ms.getD k 0).testBit i with
            | true => exact hD.reach (W.anc k i hbit) hDk
            | false => exact absurd i2 (r12 i i1 hbit)
          · cases hb
        · rw [r3]
          exact (hop o B out hDk ho r2 r5 r6 (hBs3 hDk B r7 r8)).2
      · exact ih2 k hlt hDk
end
end

section
/-! A region that draws: one step, whichever comes up. -/
section
variable {ro : Option Nat} {ds : List Deferred} {P : Program} {call : Caller} {ops : Array Oper} {ms : List Nat} {n : Nat} {t : Tape}

def IsM (t : Tape) (N : Nat) (D : Nat → Prop) (M : Nat) : Prop := M ≤ N ∧ (M = 0 ∨ ∃ k, k + 1 = M ∧ D k ∧ t.wr k ≠ []) ∧ ∀ k, D k → t.wr k ≠ [] → k < M
def Has (t : Tape) (D : Nat → Prop) (M x : Nat) (b : Blk) : Prop :=
  (x < (t.A 0).next ∧ (t.A M).get x = some b) ∨ ∃ i, D i ∧ (t.A i).next ≤ x ∧ x < (t.A (i + 1)).next ∧ (t.A (max M (i + 1))).get x = some b

structure Inv (ds : List Deferred) (ops : Array Oper) (n : Nat) (t : Tape) (s0 : Val) (w0 : World) (D : Nat → Prop) (M : Nat) (s : Val) (a : Act) (w : World) : Prop where
  closed : Closed ops D
  dlt : ∀ i, D i → i < ops.size
  isM : IsM t ops.size D M
  off : ∀ x, x < (t.A 0).next ∨ (t.A ops.size).next ≤ x → s.blk x = s0.blk x ∧ s.cap x = s0.cap x
  sat : ∀ x b, Has t D M x b → Good s x b w
  inj : ∀ x y b b', Has t D M x b → Has t D M y b' → s.blk x = s.blk y → x = y
  dom0 : ∀ x b, Has t D M x b → x < (t.A 0).next → ∃ b', (t.A 0).get x = some b'
  fresh : ∀ x b, Has t D M x b → (t.A 0).next ≤ x → w0.heap.size ≤ s.blk x ∨ ∃ i y, D i ∧ y ∈ t.wr i ∧ y < (t.A 0).next ∧ s.blk x = s0.blk y
  frame : ∀ b, b < w0.heap.size → (∀ i y, D i → y ∈ t.wr i → y < (t.A 0).next → s0.blk y ≠ b) → w.heap[b]? = w0.heap[b]?
  wrOld : ∀ i y, D i → y ∈ t.wr i → y < (t.A 0).next → ∃ b, (t.A 0).get y = some b
  size : w0.heap.size ≤ w.heap.size
  os : w.os = w0.os
  tape : w.tape = w0.tape
  output : w.output = w0.output
  tsize : a.tmps.size = n
  defers : a.defers = ds
  tmps : ∀ d : Tmp, (∀ (i : Nat) (o : Oper), D i → ops[i]? = some o → o.dst = some d → d < n → a.tmps.getD d undef = conc s (t.v i)) ∧
    ((∀ (i : Nat) (o : Oper), D i → ops[i]? = some o → ¬ (o.dst = some d ∧ d < n)) → a.tmps.getD d undef = conc s (((t.T 0).get d).getD undef))

theorem put_getD {a : Act} {dst : Option Tmp} {v : Value} {n : Nat} (hs : a.tmps.size = n) (d : Tmp) : (a.put dst v).tmps.getD d undef = if dst = some d ∧ d < n then v else a.tmps.getD d undef := by
  cases dst with
  | none => simp [Act.put]
  | some e =>
    simp only [Act.put, Array.getD_eq_getD_getElem?, Array.getElem?_setIfInBounds]
    by_cases h : e = d
    · subst h
      by_cases hl : e < n
      · rw [if_pos rfl, if_pos (by rw [hs]; exact hl), if_pos ⟨rfl, hl⟩]; rfl
      · rw [if_pos rfl, if_neg (by rw [hs]; exact hl), if_neg (fun hh => hl hh.2)]
        rw [Array.getElem?_eq_none (by rw [hs]; exact Nat.le_of_not_lt hl)]
    · rw [if_neg h, if_neg (fun hh => h (Option.some.inj hh.1))]

theorem wanted_eq2 {s : Val} {T : Tr Value} {a : Act} (ops : Array Oper) (o : Oper) (h : ∀ d ∈ o.looksAt ops, a.tmps.getD d undef = conc s ((T.get d).getD undef)) :
    Region.wanted o (yielded ops a.tmps) = wantedA ops T o := by
  unfold Region.wanted wantedA
  split
  · rename_i hg; simp [hg]
  · rename_i j want hg
    simp only [hg, yielded]
    cases hd : (ops[j]?).bind (·.dst) with
    | none => simp
    | some d =>
      simp only [Option.bind_some]
      have h0 := h d (by unfold Oper.looksAt; rw [hg]; exact List.mem_append_right _ (by simp [hd]))
      simp only [Array.getD_eq_getD_getElem?] at h0
      cases ht : a.tmps[d]? with
      | none =>
        simp only [ht, Option.getD_none] at h0
        simp only
        cases hT : T.get d with
        | none => simp
        | some v =>
          simp only [hT, Option.getD_some] at h0
          cases v <;> simp [conc, undef] at h0 ⊢
      | some u =>
        simp only [ht, Option.getD_some] at h0
        subst h0
        cases hT : T.get d with
        | none => simp [undef, conc]
        | some v =>
          simp only [Option.getD_some]
          cases v with
          | bool c => simp [conc]
          | pointer a => cases a <;> simp [conc]
          | slice a n c => cases a <;> simp [conc]
          | map r => cases r <;> simp [conc]
          | _ => simp [conc]

theorem Whole.chain (W : Whole P call ops ms n t) {D : Nat → Prop} {M k : Nat} (hD : Closed ops D) (hM : IsM t ops.size D M) (hk : k < M) (hw : t.wr k ≠ []) : D k := by
  obtain ⟨h1, h2, h3⟩ := hM
  rcases h2 with h | ⟨m, e, hm, hwm⟩
  · omega
  · rcases Nat.eq_or_lt_of_le (show k ≤ m by omega) with rfl | hlt
    · exact hm
    · exact hD.reach (W.order hlt (by omega) (W.notfree (by omega) hw) (W.notfree (by omega) hwm) (.inl hw)) hm

theorem Whole.hasSD (W : Whole P call ops ms n t) {D : Nat → Prop} {M x : Nat} {b : Blk} (hD : Closed ops D) (hl : ∀ i, D i → i < ops.size) (hM : IsM t ops.size D M) (h : Has t D M x b) :
    SD t ops.size D x ∧ ∀ v ∈ b.cells, In (SD t ops.size D) v := by
  rcases h with ⟨h1, h2⟩ | ⟨i, h1, h2, h3, h4⟩
  · have hsd : SD t ops.size D x := .inl h1
    exact ⟨hsd, (W.supp hD M hM.1).1 x b hsd (fun k k1 k2 _ _ => W.chain hD hM k1 (fun h => by rw [h] at k2; cases k2)) h2⟩
  · have hsd : SD t ops.size D x := .inr ⟨i, h1, hl i h1, h2, h3⟩
    have hi := hl i h1
    refine ⟨hsd, (W.supp hD (max M (i + 1)) (by have := hM.1; omega)).1 x b hsd (fun k k1 k2 _ k4 => ?_) h4⟩
    rcases Nat.lt_or_ge k M with h | h
    · exact W.chain hD hM h (fun h => by rw [h] at k2; cases k2)
    · have := W.mono (p := k) (q := i) (by omega) (by omega); omega

theorem SD.off {W : Whole P call ops ms n t} {D : Nat → Prop} {j x : Nat} (hl : ∀ i, D i → i < ops.size) (hj : j < ops.size) (hnD : ¬ D j) (h : SD t ops.size D x) : x < (t.A j).next ∨ (t.A (j + 1)).next ≤ x := by
  rcases h with h | ⟨i, i1, i2, i3⟩
  · have := W.mono (p := 0) (q := j) (by omega) (by omega); omega
  · rcases Nat.lt_or_ge x (t.A j).next with h | h
    · exact .inl h
    · rcases Nat.lt_or_ge x (t.A (j + 1)).next with h' | h'
      · have := W.one_owner (hl i i1) hj i3 ⟨h, h'⟩
        subst this; exact absurd i1 hnD
      · exact .inr h'

/-- **One more comes up.** -/
theorem Inv.step (W : Whole P call ops ms n t) (hcall : CallSem P call) (hnum : NoNum P) {s0 s : Val} {w0 w : World} {D : Nat → Prop} {M : Nat} {a : Act} (inv : Inv ds ops n t s0 w0 D M s a w) {j : Nat} {o : Oper} (ho : ops[j]? = some o) (hnD : ¬ D j)
    (hedge : ∀ e ∈ o.after, Region.binds .any e = true → D e.on) {Q : Exit → Act → World → Prop} {K : Act → World → Prop} (hK : ∀ s' a' w' M', Inv ds ops n t s0 w0 (fun i => D i ∨ i = j) M' s' a' w' → K a' w') : wpOpIn (fence ro) 0 P ops Q j K a w := by
  have hj : j < ops.size := (Array.getElem?_eq_some_iff.1 ho).1
  have ok := W.ok j o ho
  have hanc : ∀ i, Reach ops j i → D i := fun i hr => inv.closed.ready ho hr hedge
  have hclosed' : Closed ops (fun i => D i ∨ i = j) := fun k ok hk hok e he hb => by
    rcases hk with hk | rfl
    · exact .inl (inv.closed k ok hk hok e he hb)
    · rw [ho] at hok; cases hok; exact .inl (hedge e he hb)
  have hdlt' : ∀ i, (D i ∨ i = j) → i < ops.size := fun i hi => hi.elim (inv.dlt i) (fun h => by omega)
  -- the temporaries that it looks at
  have hlook : ∀ d ∈ o.looksAt ops, a.tmps.getD d undef = conc s (((t.T j).get d).getD undef) := fun d hd => by
    have htm := W.temps d j (by omega)
    by_cases hc : ∃ (i : Nat) (o' : Oper), ops[i]? = some o' ∧ o'.dst = some d ∧ d < n
    · obtain ⟨i, o', c1, c2, c3⟩ := hc
      rcases W.fx.look j o ho d hd i o' c1 c2 with ⟨l1, l2⟩ | ⟨l1, l2⟩
      · rw [htm.1 i o' l1 c1 c2 c3]
        exact (inv.tmps d).1 i o' (hanc i l2) c1 c2 c3
      · have hni : ¬ D i := fun hDi => by
          rcases l2 with rfl | l2
          · exact hnD hDi
          · exact hnD (inv.closed.reach l2 hDi)
        rw [htm.2 fun k ok hk hok hh => by have := W.fx.one k i ok o' d hok c1 hh.1 c2; omega]
        exact (inv.tmps d).2 fun k ok hk hok hh => hni (by rw [← W.fx.one k i ok o' d hok c1 hh.1 c2]; exact hk)
    · rw [htm.2 fun i o' _ h2 h3 => hc ⟨i, o', h2, h3.1, h3.2⟩]
      exact (inv.tmps d).2 fun i o' _ h2 h3 => hc ⟨i, o', h2, h3.1, h3.2⟩
  have hmono0 : (t.A 0).next ≤ (t.A j).next := W.mono (by omega) (by omega)
  have hmonoj : (t.A j).next ≤ (t.A (j + 1)).next := W.mono (by omega) (by omega)
  have hmonoN : (t.A (j + 1)).next ≤ (t.A ops.size).next := W.mono (by omega) (Nat.le_refl _)
  have hsupp := W.supp inv.closed ops.size (Nat.le_refl _)
  -- the temporaries behind it
  have htmps' : ∀ s' : Val, (∀ v, In (SD t ops.size D) v → conc s' v = conc s v) → ∀ d : Tmp,
      (∀ (i : Nat) (o' : Oper), (D i ∨ i = j) → ops[i]? = some o' → o'.dst = some d → d < n → (a.put o.dst (conc s' (t.v j))).tmps.getD d undef = conc s' (t.v i)) ∧
      ((∀ (i : Nat) (o' : Oper), (D i ∨ i = j) → ops[i]? = some o' → ¬ (o'.dst = some d ∧ d < n)) → (a.put o.dst (conc s' (t.v j))).tmps.getD d undef = conc s' (((t.T 0).get d).getD undef)) := fun s' hs' d => by
    rw [put_getD inv.tsize]
    refine ⟨fun i o' hi hio hd hdn => ?_, fun h => ?_⟩
    · by_cases hc : o.dst = some d ∧ d < n
      · rw [if_pos hc, W.fx.one i j o' o d hio ho hd hc.1]
      · rw [if_neg hc]
        rcases hi with hi | rfl
        · rw [(inv.tmps d).1 i o' hi hio hd hdn]
          exact (hs' _ (hsupp.2 i (inv.dlt i hi) hi)).symm
        · rw [ho] at hio; cases hio; exact absurd ⟨hd, hdn⟩ hc
    · rw [if_neg (h j o (.inr rfl) ho), (inv.tmps d).2 fun i o' hi hio => h i o' (.inl hi) hio]
      exact (hs' _ (In.mono (fun y hy => .inl hy) _ (W.tin0.getD d))).symm
  have hdef' : ∀ v, (a.put o.dst v).defers = ds := fun v => by cases o.dst <;> exact inv.defers
  have hts' : ∀ v, (a.put o.dst v).tmps.size = n := fun v => by cases hdst : o.dst <;> simp [Act.put, inv.tsize]
  unfold wpOpIn
  simp only [ho]
  rw [wanted_eq2 ops o hlook]
  -- what follows, once it is known what it reads and what is there behind it
  have main : ∀ (B : Hp) (out : Out), wantedA ops (t.T j) o = true → opA P call (evT (t.T j)) o B = some out → t.v j = out.v → t.wr j = out.wr → B.next = (t.A j).next → (t.A (j + 1)).next = out.hp.next →
      (∀ x b, B.get x = some b → x < (t.A j).next) → HIn (· < B.next) B → (∀ x b, B.get x = some b → Has t D M x b) →
      (∀ (s' : Val) (w' : World), Post s s' B out.hp w w' out.wr → ∃ M', IsM t ops.size (fun i => D i ∨ i = j) M' ∧ ∀ x b, Has t (fun i => D i ∨ i = j) M' x b → out.hp.get x = some b ∨ (Has t D M x b ∧ B.get x = none ∧ (x < (t.A j).next ∨ (t.A (j + 1)).next ≤ x))) →
      o.wpIn (fence ro) 0 P a w K Q := by
    intro B out r1 r2 r3 r4 r5 r6 hBlt hBhin hB hMex
    have hpre : Pre s B w := ⟨fun x b hb => inv.sat x b (hB x b hb), fun x y b b' h h' => inv.inj x y b b' (hB x b h) (hB y b' h'), hBhin⟩
    have hTj := (W.hin j (by omega)).2
    have hev : ∀ x ∈ o.op.operands, ∀ v, evT (t.T j) x = some v → a.eval x = conc s v ∧ In (· < B.next) v := fun x hx v hv => by
      refine ⟨?_, by rw [r5]; exact evT_in hTj hv⟩
      cases x with
      | tmp d =>
        simp only [evT, Option.some.injEq] at hv
        subst hv
        exact hlook d (by unfold Oper.looksAt; exact List.mem_append_left _ (List.mem_filterMap.2 ⟨.tmp d, by simpa using hx, rfl⟩))
      | const c => simp only [evT] at hv; split at hv <;> cases hv; rename_i hp; exact ((conc_pure hp).1).symm
      | func f => simp only [evT, Option.some.injEq] at hv; subst hv; simp [Act.eval, conc, concFn]
      | global g => simp [evT] at hv
    refine op_sem (ro := ro) hcall hnum hpre hev r2 fun s' w' hpost => ?_
    -- valuations
    have hsd : ∀ x, SD t ops.size D x → s.blk x = s'.blk x ∧ s.cap x = s'.cap x := fun x hx => by
      have := hpost.off x (by rw [r5, ← r6]; exact SD.off (W := W) inv.dlt hj hnD hx)
      exact ⟨this.1.symm, this.2.symm⟩
    have hconc : ∀ v, In (SD t ops.size D) v → conc s' v = conc s v := fun v hv => (conc_agree v (In.mono hsd v hv)).symm
    obtain ⟨M', hM', hcl⟩ := hMex s' w' hpost
    have houtlt : ∀ x b, out.hp.get x = some b → x < (t.A j).next → ∃ b', B.get x = some b' := fun x b h hx => hpost.dom x b h (by rw [r5]; exact hx)
    have hblkold : ∀ x, x < (t.A j).next → s'.blk x = s.blk x := fun x hx => (hpost.off x (.inl (by rw [r5]; exact hx))).1
    rw [← r3]
    refine hK s' _ w' M' ⟨hclosed', hdlt', hM', fun x hx => ?_, fun x b h => ?_, fun x y b b' h h' he => ?_, fun x b h hx => ?_, fun x b h hx => ?_, fun b hb hne => ?_, fun i y hi hy hlt => ?_, Nat.le_trans inv.size hpost.size, hpost.os.trans inv.os, hpost.tape.trans inv.tape, hpost.output.trans inv.output, hts' _, hdef' _, htmps' s' hconc⟩
    · have h1 := inv.off x hx
      have h2 := hpost.off x (by rw [r5, ← r6]; omega)
      exact ⟨h2.1.trans h1.1, h2.2.trans h1.2⟩
    · rcases hcl x b h with h | ⟨h1, h2, h3⟩
      · exact hpost.sat x b h
      · have hg := inv.sat x b h1
        have hs := W.hasSD inv.closed inv.dlt inv.isM h1
        refine (hg.world ?_).agree (S := SD t ops.size D) hsd hs.1 hs.2
        refine hpost.frame _ hg.lt fun y hy he => ?_
        obtain ⟨_, b', hb'⟩ := hpost.wrOld y hy
        have := inv.inj y x b' b (hB y b' hb') h1 he
        subst this; rw [h2] at hb'; cases hb'
    · have mixed : ∀ x y b b', out.hp.get x = some b → Has t D M y b' → B.get y = none → (y < (t.A j).next ∨ (t.A (j + 1)).next ≤ y) → s'.blk x = s'.blk y → x = y := fun x y b b' hx hy hBy hyr he => by
        have hsy := hsd y (W.hasSD inv.closed inv.dlt inv.isM hy).1
        rw [← hsy.1] at he
        rcases Nat.lt_or_ge x (t.A j).next with hlt | hge
        · obtain ⟨bx, hbx⟩ := houtlt x b hx hlt
          rw [hblkold x hlt] at he
          exact inv.inj x y bx b' (hB x bx hbx) hy he
        · rcases hpost.fresh x b hx (by rw [r5]; exact hge) with h | ⟨z, hz, hze⟩
          · have := (inv.sat y b' hy).lt; omega
          · obtain ⟨_, bz, hbz⟩ := hpost.wrOld z hz
            have := inv.inj z y bz b' (hB z bz hbz) hy (by rw [← hze]; exact he)
            subst this; rw [hBy] at hbz; cases hbz
      rcases hcl x b h with h1 | ⟨h1, h2, h3⟩ <;> rcases hcl y b' h' with g1 | ⟨g1, g2, g3⟩
      · exact hpost.inj x y b b' h1 g1 he
      · exact mixed x y b b' h1 g1 g2 g3 he
      · exact (mixed y x b' b g1 h1 h2 h3 he.symm).symm
      · have e1 := hsd x (W.hasSD inv.closed inv.dlt inv.isM h1).1
        have e2 := hsd y (W.hasSD inv.closed inv.dlt inv.isM g1).1
        rw [← e1.1, ← e2.1] at he
        exact inv.inj x y b b' h1 g1 he
    · rcases hcl x b h with h1 | ⟨h1, _, _⟩
      · obtain ⟨b', hb'⟩ := houtlt x b h1 (by omega)
        exact inv.dom0 x b' (hB x b' hb') hx
      · exact inv.dom0 x b h1 hx
    · have up : ∀ z bz, Has t D M z bz → (t.A 0).next ≤ z → s'.blk x = s.blk z → w0.heap.size ≤ s'.blk x ∨ ∃ i y, (D i ∨ i = j) ∧ y ∈ t.wr i ∧ y < (t.A 0).next ∧ s'.blk x = s0.blk y := fun z bz hz hzl he => by
        rcases inv.fresh z bz hz hzl with h | ⟨i, y, h1, h2, h3, h4⟩
        · exact .inl (by omega)
        · exact .inr ⟨i, y, .inl h1, h2, h3, by rw [he]; exact h4⟩
      rcases hcl x b h with h1 | ⟨h1, _, _⟩
      · rcases Nat.lt_or_ge x (t.A j).next with hlt | hge
        · obtain ⟨bx, hbx⟩ := houtlt x b h1 hlt
          exact up x bx (hB x bx hbx) hx (hblkold x hlt)
        · rcases hpost.fresh x b h1 (by rw [r5]; exact hge) with hh | ⟨z, hz, hze⟩
          · exact .inl (by have := inv.size; omega)
          · obtain ⟨_, bz, hbz⟩ := hpost.wrOld z hz
            rcases Nat.lt_or_ge z (t.A 0).next with hzl | hzl
            · exact .inr ⟨j, z, .inr rfl, by rw [r4]; exact hz, hzl, by rw [hze]; exact (inv.off z (.inl hzl)).1⟩
            · exact up z bz (hB z bz hbz) hzl hze
      · exact up x b h1 hx (hsd x (W.hasSD inv.closed inv.dlt inv.isM h1).1).1.symm
    · rw [hpost.frame b (by have := inv.size; omega) fun y hy he => ?_]
      · exact inv.frame b hb fun i y hi => hne i y (.inl hi)
      · obtain ⟨_, by', hby⟩ := hpost.wrOld y hy
        rcases Nat.lt_or_ge y (t.A 0).next with hyl | hyl
        · exact hne j y (.inr rfl) (by rw [r4]; exact hy) hyl (by rw [← (inv.off y (.inl hyl)).1]; exact he)
        · rcases inv.fresh y by' (hB y by' hby) hyl with h | ⟨i, z, h1, h2, h3, h4⟩
          · omega
          · exact hne i z (.inl h1) h2 h3 (by rw [← h4]; exact he)
    · rcases hi with hi | rfl
      · exact inv.wrOld i y hi hy hlt
      · obtain ⟨_, by', hby⟩ := hpost.wrOld y (by rw [← r4]; exact hy)
        exact inv.dom0 y by' (hB y by' hby) hlt
  rcases ok.run with ⟨r1, r2, r3, r4⟩ | ⟨r1, B, out, x0, r2, r3, r4, r4n, rA, r5, r6, rrd, rap, rB, rwr⟩ | ⟨r1, B, out, r2, r3, r4, r5, r6, r7, r8, r9, r10⟩
  · -- it is not wanted
    rw [if_neg (by simp [r1])]
    have hhas : ∀ x b, Has t (fun i => D i ∨ i = j) M x b → Has t D M x b := fun x b h => by
      rcases h with h | ⟨i, i1 | rfl, i2, i3, i4⟩
      · exact .inl h
      · exact .inr ⟨i, i1, i2, i3, i4⟩
      · rw [r2] at i3; omega
    have hun : conc s (t.v j) = undef := by rw [r3, undef_conc]
    have htm := htmps' s (fun _ _ => rfl)
    rw [hun] at htm
    refine ⟨fun _ _ => trivial, ?_⟩
    refine hK s _ w M ⟨hclosed', hdlt', ⟨inv.isM.1, ?_, fun k hk hw => ?_⟩, inv.off, fun x b h => inv.sat x b (hhas x b h), fun x y b b' h h' => inv.inj x y b b' (hhas x b h) (hhas y b' h'), fun x b h => inv.dom0 x b (hhas x b h), fun x b h hx => ?_, fun b hb hne => ?_, fun i y hi hy hlt => ?_, inv.size, inv.os, inv.tape, inv.output, hts' _, hdef' _, htm⟩
    · rcases inv.isM.2.1 with h | ⟨k, k1, k2, k3⟩
      · exact .inl h
      · exact .inr ⟨k, k1, .inl k2, k3⟩
    · rcases hk with hk | rfl
      · exact inv.isM.2.2 k hk hw
      · exact absurd r4 hw
    · rcases inv.fresh x b (hhas x b h) hx with h | ⟨i, y, h1, h2⟩
      · exact .inl h
      · exact .inr ⟨i, y, .inl h1, h2⟩
    · exact inv.frame b hb fun i y hi => hne i y (.inl hi)
    · rcases hi with hi | rfl
      · exact inv.wrOld i y hi hy hlt
      · rw [r4] at hy; cases hy
  · -- a load
    rw [if_pos r1]
    have hxA := (W.hin j (by omega)).1
    have hBx : ∀ x b, B.get x = some b → x = x0 ∧ (t.A j).get x0 = some b := fun x b hb => by
      rw [rB] at hb
      split at hb
      · exact ⟨by assumption, hb⟩
      · cases hb
    have hBlt : ∀ x b, B.get x = some b → x < (t.A j).next := fun x b hb => by
      obtain ⟨e, hb'⟩ := hBx x b hb
      subst e; exact (hxA x b hb').2.1
    -- its block is the same in the text's order and now
    have hun : ∀ k, k < ops.size → ¬ D k → k < j → x0 ∉ t.wr k := fun k hk hnk hkj => by
      refine rwr k hkj ?_
      cases hb : (ms.getD j 0).testBit k with
      | false => rfl
      | true => exact absurd (hanc k (W.anc j k hb)) hnk
    have hun2 : ∀ k, D k → j < k → x0 ∉ t.wr k := fun k hDk hjk => by
      have hk := inv.dlt k hDk
      obtain ⟨ok', _, okk⟩ := W.op hk
      refine okk.loads j x0 hjk rrd ?_
      cases hb : (ms.getD k 0).testBit j with
      | false => rfl
      | true => exact absurd (inv.closed.reach (W.anc k j hb) hDk) hnD
    have hMnot : ∀ k, M ≤ k → k < ops.size → D k → t.wr k = [] := fun k k1 _ k3 => by
      refine Classical.byContradiction fun h => ?_
      have := inv.isM.2.2 k k3 h; omega
    have hjnil : t.wr j = [] := r4n
    have nowr : ∀ p q, (p = j ∧ q = M) ∨ (p = M ∧ q = j) → ∀ k, p ≤ k → k < q → k < ops.size → x0 ∉ t.wr k := fun p q hpq k k1 k2 k3 => by
      rcases hpq with ⟨rfl, rfl⟩ | ⟨rfl, rfl⟩
      · by_cases hkw : t.wr k = []
        · rw [hkw]; simp
        · have hDk := W.chain inv.closed inv.isM k2 hkw
          rcases Nat.eq_or_lt_of_le k1 with rfl | hlt
          · exact absurd hDk hnD
          · exact hun2 k hDk hlt
      · by_cases hDk : D k
        · rw [hMnot k k1 k3 hDk]; simp
        · exact hun k k3 hDk k2
    have hsame : ∀ b, (t.A j).get x0 = some b → Has t D M x0 b := fun b hb => by
      have hlt := (hxA x0 b hb).2.1
      have hM1 := inv.isM.1
      rcases Nat.lt_or_ge x0 (t.A 0).next with h | h
      · refine .inl ⟨h, ?_⟩
        rcases Nat.le_total M j with hMj | hMj
        · rw [← W.stab (p := M) (q := j) hMj (by omega) (Nat.lt_of_lt_of_le h (W.mono (by omega) (by omega))) fun k k1 k2 => .inl (nowr M j (.inr ⟨rfl, rfl⟩) k k1 k2 (by omega))]; exact hb
        · rw [W.stab (p := j) (q := M) hMj hM1 hlt fun k k1 k2 => .inl (nowr j M (.inl ⟨rfl, rfl⟩) k k1 k2 (by omega))]; exact hb
      · obtain ⟨i, i1, i2, i3⟩ := W.owner (by omega) h hlt
        have hbit : (ms.getD j 0).testBit i = true := by
          cases hb' : (ms.getD j 0).testBit i with
          | true => rfl
          | false => exact absurd ⟨i, i1, hb', i2, i3⟩ rap
        refine .inr ⟨i, hanc i (W.anc j i hbit), i2, i3, ?_⟩
        rcases (Nat.lt_or_ge j (max M (i + 1))).symm with hMj | hMj
        · rw [← W.stab (p := max M (i + 1)) (q := j) hMj (by omega) (Nat.lt_of_lt_of_le i3 (W.mono (by omega) (by omega))) fun k k1 k2 => .inl (nowr M j (.inr ⟨rfl, rfl⟩) k (by omega) k2 (by omega))]; exact hb
        · have e : max M (i + 1) = M := by omega
          rw [e, W.stab (p := j) (q := M) (by omega) hM1 hlt fun k k1 k2 => .inl (nowr j M (.inl ⟨rfl, rfl⟩) k k1 k2 (by omega))]; exact hb
    have hB : ∀ x b, B.get x = some b → Has t D M x b := fun x b hb => by
      obtain ⟨e, hb'⟩ := hBx x b hb
      subst e; exact hsame b hb'
    have hBhin : HIn (· < B.next) B := fun x b hb => by
      obtain ⟨e, hb'⟩ := hBx x b hb
      subst e; have := hxA x b hb'; rw [r5]; exact this
    refine main B out r1 r2 r3 r4 r5 r6 hBlt hBhin hB fun s' w' hpost => ⟨M, ⟨inv.isM.1, ?_, fun k hk hkw => ?_⟩, fun x b h => ?_⟩
    · rcases inv.isM.2.1 with h | ⟨k, k1, k2, k3⟩
      · exact .inl h
      · exact .inr ⟨k, k1, .inl k2, k3⟩
    · rcases hk with hk | rfl
      · exact inv.isM.2.2 k hk hkw
      · exact absurd hjnil hkw
    · have hh : Has t D M x b := by
        rcases h with h | ⟨i, i1 | rfl, i2, i3, i4⟩
        · exact .inl h
        · exact .inr ⟨i, i1, i2, i3, i4⟩
        · rw [rA] at i3; omega
      cases hbx : B.get x with
      | none => exact .inr ⟨hh, rfl, SD.off (W := W) inv.dlt hj hnD (W.hasSD inv.closed inv.dlt inv.isM hh).1⟩
      | some b' =>
        left
        have hlt := hBlt x b' hbx
        have h1 := hB x b' hbx
        have e : b' = b := by
          rcases hh with ⟨g1, g2⟩ | ⟨i, g1, g2, g3, g4⟩ <;> rcases h1 with ⟨f1, f2⟩ | ⟨k, f1, f2, f3, f4⟩
          · rw [g2] at f2; cases f2; rfl
          · have := W.mono (p := 0) (q := k) (by omega) (by have := inv.dlt k f1; omega); omega
          · have := W.mono (p := 0) (q := i) (by omega) (by have := inv.dlt i g1; omega); omega
          · have := W.one_owner (inv.dlt i g1) (inv.dlt k f1) ⟨g2, g3⟩ ⟨f2, f3⟩
            subst this; rw [g4] at f4; cases f4; rfl
        subst e
        rw [hpost.old x (by rw [r5]; exact hlt) (by rw [← r4, hjnil]; simp)]; exact hbx
  · rw [if_pos r1]
    have hxA := (W.hin j (by omega)).1
    have hBs : ∀ x b, B.get x = some b → ¬ t.apart ms j x ∧ t.fr j = false ∧ (t.A j).get x = some b := fun x b hb => by
      cases hf : t.fr j with
      | true => rw [r7 hf] at hb; cases hb
      | false =>
        by_cases ha : t.apart ms j x
        · rw [(r8 hf x).1 ha] at hb; cases hb
        · rw [(r8 hf x).2 ha] at hb; exact ⟨ha, rfl, hb⟩
    have hBlt : ∀ x b, B.get x = some b → x < (t.A j).next := fun x b hb => (hxA x b (hBs x b hb).2.2).2.1
    have hBhin : HIn (· < B.next) B := fun x b hb => by have := hxA x b (hBs x b hb).2.2; rw [r5]; exact this
    have hnap : ∀ x, (t.A j).next ≤ x → ¬ t.apart ms j x := fun x hx => by
      rintro ⟨i, i1, _, _, i4⟩
      have := W.mono (p := i + 1) (q := j) i1 (by omega); omega
    -- where writers stand
    have hMj : t.fr j = false → M ≤ j := fun hf => by
      rcases inv.isM.2.1 with h | ⟨k, k1, k2, k3⟩
      · omega
      · rcases Nat.lt_trichotomy k j with h | h | h
        · omega
        · subst h; exact absurd k2 hnD
        · exact absurd (inv.closed.reach (W.order h (inv.dlt k k2) hf (W.notfree (inv.dlt k k2) k3) (.inr k3)) k2) hnD
    have hMw : t.fr j = false → ∀ k, M ≤ k → k < j → t.wr k = [] := fun hf k k1 k2 => by
      refine Classical.byContradiction fun hw => ?_
      have := inv.isM.2.2 k (hanc k (W.order k2 hj (W.notfree (by omega) hw) hf (.inl hw))) hw
      omega
    have hAj : t.fr j = false → ∀ x b, Has t D M x b → x < (t.A j).next → (t.A j).get x = some b := fun hf x b h hx => by
      have := hMj hf
      rcases h with ⟨h1, h2⟩ | ⟨i, i1, i2, i3, i4⟩
      · rw [W.stab (p := M) (q := j) this (by omega) (Nat.lt_of_lt_of_le h1 (W.mono (by omega) (by omega))) fun k k1 k2 => .inl (by rw [hMw hf k k1 k2]; simp)]; exact h2
      · have hij : i < j := by
          rcases Nat.lt_trichotomy i j with h | h | h
          · exact h
          · subst h; exact absurd i1 hnD
          · have := W.mono (p := j) (q := i) (by omega) (by have := inv.dlt i i1; omega); omega
        rw [W.stab (p := max M (i + 1)) (q := j) (by omega) (by omega) (Nat.lt_of_lt_of_le i3 (W.mono (by omega) (by omega))) fun k k1 k2 => .inl (by rw [hMw hf k (by omega) k2]; simp)]; exact i4
    have hB : ∀ x b, B.get x = some b → Has t D M x b := fun x b hb => by
      obtain ⟨b1, hf, b3⟩ := hBs x b hb
      have hlt := hBlt x b hb
      have := hMj hf
      rcases Nat.lt_or_ge x (t.A 0).next with h | h
      · refine .inl ⟨h, ?_⟩
        rw [← W.stab (p := M) (q := j) this (by omega) (Nat.lt_of_lt_of_le h (W.mono (by omega) (by omega))) fun k k1 k2 => .inl (by rw [hMw hf k k1 k2]; simp)]; exact b3
      · obtain ⟨i, i1, i2, i3⟩ := W.owner (by omega) h hlt
        have hbit : (ms.getD j 0).testBit i = true := by
          cases hb' : (ms.getD j 0).testBit i with
          | true => rfl
          | false => exact absurd ⟨i, i1, hb', i2, i3⟩ b1
        refine .inr ⟨i, hanc i (W.anc j i hbit), i2, i3, ?_⟩
        rw [← W.stab (p := max M (i + 1)) (q := j) (by omega) (by omega) (Nat.lt_of_lt_of_le i3 (W.mono (by omega) (by omega))) fun k k1 k2 => .inl (by rw [hMw hf k (by omega) k2]; simp)]; exact b3
    refine main B out r1 r2 r3 r4 r5 r6 hBlt hBhin hB fun s' w' hpost => ?_
    have hne : ∀ i x, D i → (t.A i).next ≤ x → x < (t.A (i + 1)).next → x < (t.A j).next ∨ (t.A (j + 1)).next ≤ x := fun i x i1 i2 i3 => SD.off (W := W) inv.dlt hj hnD (.inr ⟨i, i1, inv.dlt i i1, i2, i3⟩)
    by_cases hw : t.wr j = []
    · refine ⟨M, ⟨inv.isM.1, ?_, fun k hk hkw => ?_⟩, fun x b h => ?_⟩
      · rcases inv.isM.2.1 with h | ⟨k, k1, k2, k3⟩
        · exact .inl h
        · exact .inr ⟨k, k1, .inl k2, k3⟩
      · rcases hk with hk | rfl
        · exact inv.isM.2.2 k hk hkw
        · exact absurd hw hkw
      · have hold : Has t D M x b → out.hp.get x = some b ∨ (Has t D M x b ∧ B.get x = none ∧ (x < (t.A j).next ∨ (t.A (j + 1)).next ≤ x)) := fun hh => by
          cases hbx : B.get x with
          | none => exact .inr ⟨hh, rfl, SD.off (W := W) inv.dlt hj hnD (W.hasSD inv.closed inv.dlt inv.isM hh).1⟩
          | some b' =>
            obtain ⟨b1, hf, b3⟩ := hBs x b' hbx
            have hlt := hBlt x b' hbx
            have := hAj hf x b hh hlt
            rw [b3] at this; cases this
            left
            rw [hpost.old x (by rw [r5]; exact hlt) (by rw [← r4, hw]; simp)]; exact hbx
        rcases h with h | ⟨i, i1 | rfl, i2, i3, i4⟩
        · exact hold (.inl h)
        · exact hold (.inr ⟨i, i1, i2, i3, i4⟩)
        · left
          have hst : (t.A (max M (i + 1))).get x = (t.A (i + 1)).get x := by
            refine W.stab (p := i + 1) (by omega) (by have := inv.isM.1; omega) i3 fun k k1 k2 => ?_
            by_cases hkw : t.wr k = []
            · left; rw [hkw]; simp
            · have hDk := W.chain inv.closed inv.isM (show k < M by omega) hkw
              right
              refine ⟨i, by omega, ?_, i2, i3⟩
              cases hb' : (ms.getD k 0).testBit i with
              | false => rfl
              | true => exact absurd (inv.closed.reach (W.anc k i hb') hDk) hnD
          rw [hst] at i4
          cases hf : t.fr i with
          | true => rw [r9 hf, if_pos ⟨i2, by rw [← r6]; exact i3⟩] at i4; exact i4
          | false => rw [(r10 hf x).2 (hnap x i2)] at i4; exact i4
    · have hf := W.notfree hj hw
      have hMj' := hMj hf
      refine ⟨j + 1, ⟨by omega, .inr ⟨j, rfl, .inr rfl, hw⟩, fun k hk hkw => ?_⟩, fun x b h => ?_⟩
      · rcases hk with hk | rfl
        · have := inv.isM.2.2 k hk hkw; omega
        · omega
      · rcases h with ⟨h1, h2⟩ | ⟨i, i1 | rfl, i2, i3, i4⟩
        · left
          rw [(r10 hf x).2 ?_] at h2
          · exact h2
          · rintro ⟨i, i1, _, i3, _⟩
            have := W.mono (p := 0) (q := i) (by omega) (by omega); omega
        · rcases Nat.lt_trichotomy i j with h | h | h
          · have e : max (j + 1) (i + 1) = j + 1 := by omega
            rw [e] at i4
            by_cases ha : t.apart ms j x
            · rw [(r10 hf x).1 ha] at i4
              refine .inr ⟨.inr ⟨i, i1, i2, i3, ?_⟩, (r8 hf x).1 ha, hne i x i1 i2 i3⟩
              rw [← W.stab (p := max M (i + 1)) (q := j) (by omega) (by omega) (Nat.lt_of_lt_of_le i3 (W.mono (by omega) (by omega))) fun k k1 k2 => .inl (by rw [hMw hf k (by omega) k2]; simp)]; exact i4
            · rw [(r10 hf x).2 ha] at i4; exact .inl i4
          · subst h; exact absurd i1 hnD
          · have e : max (j + 1) (i + 1) = max M (i + 1) := by omega
            rw [e] at i4
            have hge : (t.A (j + 1)).next ≤ x := Nat.le_trans (W.mono (p := j + 1) (q := i) h (by have := inv.dlt i i1; omega)) i2
            refine .inr ⟨.inr ⟨i, i1, i2, i3, i4⟩, ?_, .inr hge⟩
            cases hbx : B.get x with
            | none => rfl
            | some b' => have := hBlt x b' hbx; omega
        · left
          rw [Nat.max_self, (r10 hf x).2 (hnap x i2)] at i4; exact i4

end
end

end
end Go.Proofs.Ytfafjojoapcliaa.Eng

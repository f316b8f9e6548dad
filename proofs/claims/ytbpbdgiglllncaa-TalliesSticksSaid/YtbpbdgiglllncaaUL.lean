/- Layer 9: a crash of a stick: mathematics alone; and what two sticks beside each other need to know. -/
import Derived.Test.YtbpbdgiglllncaaUK
import Derived.Test.YtbpbdgiglllncaaUB
set_option linter.all false
namespace Go.Proofs.Ytbpbdgiglllncaa
open Go.RowKit

/-- a list with one bit inverted -/
def inv (l : List Int) (t : Nat) : List Int := l.set (t / 8) (bits .xor .u8 (nth l (t / 8)) (2 ^ (t % 8)))
/-- what is left of the pending bytes of both journals behind a crash -/
def crL (P1 P2 : List Int) (k m : Nat) (t : Int) : List Int := if t < 0 then P1.take k ++ P2.take m else inv (P1.take k ++ P2.take m) t.toNat
theorem inv_len (l : List Int) (t : Nat) : (inv l t).length = l.length := by unfold inv; simp
theorem crL_len {P1 P2 : List Int} {k m : Nat} {t : Int} (hk : k ≤ P1.length) (hm : m ≤ P2.length) : (crL P1 P2 k m t).length = k + m := by
  unfold crL
  split
  · simp; omega
  · rw [inv_len]; simp; omega
theorem take_cat (D P : List Int) (k : Nat) : (D ++ P).take (D.length + k) = D ++ P.take k := by rw [List.take_append, List.take_of_length_le (by omega), Nat.add_sub_cancel_left]
theorem cr_none1 {D1 P1 P2 : List Int} {k m : Nat} {t : Int} (ht : t < 0) (hk : k ≤ P1.length) : (D1 ++ P1).take (D1.length + k) = D1 ++ (crL P1 P2 k m t).take k := by
  unfold crL
  have hl : (P1.take k).length = k := by simp; omega
  rw [if_pos ht, take_cat, List.take_left' hl]
theorem cr_none2 {D2 P1 P2 : List Int} {k m : Nat} {t : Int} (ht : t < 0) (hk : k ≤ P1.length) : (D2 ++ P2).take (D2.length + m) = D2 ++ (crL P1 P2 k m t).drop k := by
  unfold crL
  have hl : (P1.take k).length = k := by simp; omega
  rw [if_pos ht, take_cat, List.drop_left' hl]
/-- the bit is one of the first journal -/
theorem cr_one1 {D1 P1 P2 : List Int} {k m t : Nat} (ht : t < 8 * k) (hk : k ≤ P1.length) :
    ((D1 ++ P1).set (D1.length + t / 8) (bits .xor .u8 (nth (D1 ++ P1) (D1.length + t / 8)) (2 ^ (t % 8)))).take (D1.length + k) = D1 ++ (crL P1 P2 k m (t : Int)).take k := by
  unfold crL inv
  have q : t / 8 < k := by omega
  rw [if_neg (by omega), Int.toNat_natCast, nth_app2, List.set_append_right _ _ (by omega), Nat.add_sub_cancel_left, List.take_append, List.take_of_length_le (by omega), Nat.add_sub_cancel_left, nth_app1 _ _ _ (by simp; omega), nth_take _ _ _ q, List.set_append_left _ _ (by simp; omega), List.take_left' (by simp; omega), List.take_set]
theorem cr_one2 {D2 P1 P2 : List Int} {k m t : Nat} (ht : t < 8 * k) (hk : k ≤ P1.length) : (D2 ++ P2).take (D2.length + m) = D2 ++ (crL P1 P2 k m (t : Int)).drop k := by
  unfold crL inv
  have q : t / 8 < k := by omega
  rw [if_neg (by omega), Int.toNat_natCast, List.set_append_left _ _ (by simp; omega), List.drop_left' (by simp; omega), List.take_append, List.take_of_length_le (by omega), Nat.add_sub_cancel_left]
/-- the bit is one of the second journal -/
theorem cr_two1 {D1 P1 P2 : List Int} {k m t : Nat} (ht : 8 * k ≤ t) (hk : k ≤ P1.length) : (D1 ++ P1).take (D1.length + k) = D1 ++ (crL P1 P2 k m (t : Int)).take k := by
  unfold crL inv
  have hl : (P1.take k).length = k := by simp; omega
  rw [if_neg (by omega), Int.toNat_natCast, take_cat, List.set_append_right _ _ (by omega), List.take_left' hl]
theorem cr_two2 {D2 P1 P2 : List Int} {k m t : Nat} (ht : 8 * k ≤ t) (h2 : t < 8 * (k + m)) (hk : k ≤ P1.length) (hm : m ≤ P2.length) :
    ((D2 ++ P2).set (D2.length + (t - 8 * k) / 8) (bits .xor .u8 (nth (D2 ++ P2) (D2.length + (t - 8 * k) / 8)) (2 ^ ((t - 8 * k) % 8)))).take (D2.length + m) = D2 ++ (crL P1 P2 k m (t : Int)).drop k := by
  unfold crL inv
  have hl : (P1.take k).length = k := by simp; omega
  have e1 : (t - 8 * k) / 8 = t / 8 - k := by omega
  have e2 : (t - 8 * k) % 8 = t % 8 := by omega
  have e3 : nth (P1.take k ++ P2.take m) (t / 8) = nth P2 (t / 8 - k) := by
    rw [show t / 8 = (P1.take k).length + (t / 8 - k) by omega, nth_app2, nth_take _ _ _ (by omega)]
    congr 1; omega
  rw [if_neg (by omega), Int.toNat_natCast, e1, e2, e3, nth_app2, List.set_append_right _ _ (by omega), Nat.add_sub_cancel_left, List.take_append, List.take_of_length_le (by omega), Nat.add_sub_cancel_left, List.set_append_right _ _ (by omega), hl, List.drop_left' hl, List.take_set]
theorem inv_by {l : List Int} (h : IsBy l) (t : Nat) : IsBy (inv l t) := by
  have q := (bit_of (j := t % 8) (h (t / 8)).1 (h (t / 8)).2 (by omega)).2
  intro k
  unfold inv
  rw [nth_set]
  split
  · exact q
  · exact h k
theorem crL_by {P1 P2 : List Int} (h1 : IsBy P1) (h2 : IsBy P2) (k m : Nat) (t : Int) : IsBy (crL P1 P2 k m t) := by
  unfold crL
  split
  · exact (h1.take k).app (h2.take m)
  · exact inv_by ((h1.take k).app (h2.take m)) _

/-- all old blocks but some stay as they were -/
def Ex (Q : Nat → Prop) (W W' : World) : Prop := W.heap.size ≤ W'.heap.size ∧ ∀ k, k < W.heap.size → ¬ Q k → W'.heap[k]? = W.heap[k]?
theorem Ex.of_below {Q : Nat → Prop} {W W' : World} (hb : Below W.heap.size W W') : Ex Q W W' := ⟨hb.size, fun k hk _ => hb.block k hk⟩
theorem Ex.trans {Q : Nat → Prop} {W W1 W2 : World} (h1 : Ex Q W W1) (h2 : Ex Q W1 W2) : Ex Q W W2 := ⟨Nat.le_trans h1.1 h2.1, fun k hk q => (h2.2 k (Nat.lt_of_lt_of_le hk h1.1) q).trans (h1.2 k hk q)⟩
theorem Ex.set (Q : Nat → Prop) (W : World) (b i : Nat) (u : Value) (hq : Q b) : Ex Q W (W.setCell ⟨b, i, none⟩ u) := ⟨by rw [World.size_setCell]; exact Nat.le_refl _, fun k hk q => Below.heap_setCell _ _ _ _ (fun e => q (e ▸ hq))⟩
theorem Chg.ex {W W' : World} {b base : Nat} {v1 v2 : Value} (h : Chg W W' b base v1 v2) : Ex (fun k => k = b ∨ v1.ownBlock = some k ∨ v2.ownBlock = some k) W W' := ⟨h.2.1, fun k hk q => h.2.2 k hk (fun e => q (.inl e)) (fun e => q (.inr (.inl e))) (fun e => q (.inr (.inr e)))⟩
theorem own_ex {Q : Nat → Prop} {W W' : World} {base size n : Nat} {e : TypeId} {v : Value} {xs : List Value} (h : W.ownsRow base e size v n xs) (hx : Ex Q W W') (hq : ∀ g, v.ownBlock = some g → ¬ Q g) : W'.ownsRow base e size v n xs := by
  obtain ⟨h1, h2⟩ := h
  refine ⟨h1, ?_⟩
  rcases h2 with h2 | ⟨g, cap, cur, rfl, h4, h5, h6⟩
  · exact .inl h2
  · exact .inr ⟨g, cap, cur, rfl, h4, (hx.2 g (Box.lt (w := W) (t := e) h5) (hq g rfl)).trans h5, h6⟩
theorem Bys.ex {Q : Nat → Prop} {W W' : World} {u : Value} {xs : List Int} (h : Bys W W.heap.size u xs) (hx : Ex Q W W') (hq : ∀ g, u.ownBlock = some g → ¬ Q g) : Bys W' W'.heap.size u xs := by
  obtain ⟨h1, h0, A, c, rfl, h2, h3⟩ := h
  refine ⟨h1, h0, A, c, rfl, h2, fun hp => ?_⟩
  obtain ⟨g, off, rfl, hlt, hcc⟩ := h3 hp
  exact ⟨g, off, rfl, Nat.lt_of_lt_of_le hlt hx.1, fun k hk => (World.cell?_of_block (w := W) (w' := W') (a := ⟨g, off + k, none⟩) (hx.2 g hlt (hq g rfl))).trans (hcc k hk)⟩
theorem Box.ex {Q : Nat → Prop} {W W' : World} {g : Nat} {t : TypeId} {cs : Array Value} (h : Box W g t cs) (hx : Ex Q W W') (hq : ¬ Q g) : Box W' g t cs := (hx.2 g h.lt hq).trans h
theorem StkP.ex {Q : Nat → Prop} {W W' : World} {b base : Nat} {v1 v2 : Value} {S F : List Int} {d1 d2 : Nat} (h : StkP W b base v1 v2 S F d1 d2) (hx : Ex Q W W') (h0 : ¬ Q b) (h1 : ∀ g, v1.ownBlock = some g → ¬ Q g) (h2 : ∀ g, v2.ownBlock = some g → ¬ Q g) : StkP W' b base v1 v2 S F d1 d2 :=
  { h with box := h.box.ex hx h0, o1 := own_ex h.o1 hx h1, o2 := own_ex h.o2 hx h2 }

/-- the specification's stick: four slices of bytes, in a block of its own -/
structure StkR (W : World) (r base : Nat) (u1 u2 u3 u4 : Value) (D1 P1 D2 P2 : List Int) : Prop where
  box : Box W r 62 #[u1, u2, u3, u4]
  b1 : Bys W W.heap.size u1 D1
  b2 : Bys W W.heap.size u2 P1
  b3 : Bys W W.heap.size u3 D2
  b4 : Bys W W.heap.size u4 P2
  n1 : ∀ g, u1.ownBlock = some g → g ≠ r ∧ g < W.heap.size
  n2 : ∀ g, u2.ownBlock = some g → g ≠ r ∧ g < W.heap.size
  n3 : ∀ g, u3.ownBlock = some g → g ≠ r ∧ g < W.heap.size
  n4 : ∀ g, u4.ownBlock = some g → g ≠ r ∧ g < W.heap.size
  hr : base ≤ r
theorem StkR.ex {Q : Nat → Prop} {W W' : World} {r base : Nat} {u1 u2 u3 u4 : Value} {D1 P1 D2 P2 : List Int} (h : StkR W r base u1 u2 u3 u4 D1 P1 D2 P2) (hx : Ex Q W W') (h0 : ¬ Q r) (h1 : ∀ g, u1.ownBlock = some g → ¬ Q g) (h2 : ∀ g, u2.ownBlock = some g → ¬ Q g) (h3 : ∀ g, u3.ownBlock = some g → ¬ Q g) (h4 : ∀ g, u4.ownBlock = some g → ¬ Q g) : StkR W' r base u1 u2 u3 u4 D1 P1 D2 P2 :=
  { box := h.box.ex hx h0, b1 := h.b1.ex hx h1, b2 := h.b2.ex hx h2, b3 := h.b3.ex hx h3, b4 := h.b4.ex hx h4, n1 := fun g e => ⟨(h.n1 g e).1, Nat.lt_of_lt_of_le (h.n1 g e).2 hx.1⟩, n2 := fun g e => ⟨(h.n2 g e).1, Nat.lt_of_lt_of_le (h.n2 g e).2 hx.1⟩, n3 := fun g e => ⟨(h.n3 g e).1, Nat.lt_of_lt_of_le (h.n3 g e).2 hx.1⟩, n4 := fun g e => ⟨(h.n4 g e).1, Nat.lt_of_lt_of_le (h.n4 g e).2 hx.1⟩, hr := h.hr }
theorem StkR.later {W W' : World} {r base : Nat} {u1 u2 u3 u4 : Value} {D1 P1 D2 P2 : List Int} (h : StkR W r base u1 u2 u3 u4 D1 P1 D2 P2) (hb : Below W.heap.size W W') : StkR W' r base u1 u2 u3 u4 D1 P1 D2 P2 :=
  h.ex (Q := fun _ => False) (Ex.of_below hb) (fun h => h) (fun _ _ h => h) (fun _ _ h => h) (fun _ _ h => h) (fun _ _ h => h)
/-- a slice that stayed, or a new one -/
def Nw (W : World) (u y : Value) : Prop := y = u ∨ ∀ g, y.ownBlock = some g → W.heap.size ≤ g
/-- both sticks beside each other -/
structure Two (W : World) (b r base : Nat) (v1 v2 u1 u2 u3 u4 : Value) (S F : List Int) (d1 d2 : Nat) (D1 P1 D2 P2 : List Int) : Prop where
  p : StkP W b base v1 v2 S F d1 d2
  s : StkR W r base u1 u2 u3 u4 D1 P1 D2 P2
  ne : r ≠ b
  a1 : ∀ g, v1.ownBlock = some g → g ≠ r
  a2 : ∀ g, v2.ownBlock = some g → g ≠ r
  c1 : ∀ g, u1.ownBlock = some g → g ≠ b ∧ v1.ownBlock ≠ some g ∧ v2.ownBlock ≠ some g
  c2 : ∀ g, u2.ownBlock = some g → g ≠ b ∧ v1.ownBlock ≠ some g ∧ v2.ownBlock ≠ some g
  c3 : ∀ g, u3.ownBlock = some g → g ≠ b ∧ v1.ownBlock ≠ some g ∧ v2.ownBlock ≠ some g
  c4 : ∀ g, u4.ownBlock = some g → g ≠ b ∧ v1.ownBlock ≠ some g ∧ v2.ownBlock ≠ some g
theorem NewB.ne {W : World} {v v' : Value} (h : NewB W v v') {g : Nat} (hg : g < W.heap.size) (hv : v.ownBlock ≠ some g) : v'.ownBlock ≠ some g := by
  intro e
  rcases h with h | h
  · exact hv (h ▸ e)
  · have := h g e; omega
/-- a step of the program's stick -/
theorem Two.prog {W W1 : World} {b r base : Nat} {v1 v2 v1' v2' u1 u2 u3 u4 : Value} {S F S' F' : List Int} {d1 d2 d1' d2' : Nat} {D1 P1 D2 P2 : List Int} (h : Two W b r base v1 v2 u1 u2 u3 u4 S F d1 d2 D1 P1 D2 P2) (hp : StkP W1 b base v1' v2' S' F' d1' d2') (hc : Chg W W1 b base v1 v2) (m1 : NewB W v1 v1') (m2 : NewB W v2 v2') : Two W1 b r base v1' v2' u1 u2 u3 u4 S' F' d1' d2' D1 P1 D2 P2 := by
  have hr := h.s.box.lt
  have q : ∀ {g : Nat}, (g ≠ b ∧ v1.ownBlock ≠ some g ∧ v2.ownBlock ≠ some g) → ¬ (g = b ∨ v1.ownBlock = some g ∨ v2.ownBlock = some g) := fun h e => e.elim h.1 fun e => e.elim h.2.1 h.2.2
  have qr : r ≠ b ∧ v1.ownBlock ≠ some r ∧ v2.ownBlock ≠ some r := ⟨h.ne, fun e => h.a1 r e rfl, fun e => h.a2 r e rfl⟩
  exact { p := hp, s := h.s.ex hc.ex (q qr) (fun g e => q (h.c1 g e)) (fun g e => q (h.c2 g e)) (fun g e => q (h.c3 g e)) (fun g e => q (h.c4 g e)), ne := h.ne,
          a1 := fun g e e2 => m1.ne hr qr.2.1 (e2 ▸ e), a2 := fun g e e2 => m2.ne hr qr.2.2 (e2 ▸ e),
          c1 := fun g e => ⟨(h.c1 g e).1, m1.ne (h.s.n1 g e).2 (h.c1 g e).2.1, m2.ne (h.s.n1 g e).2 (h.c1 g e).2.2⟩,
          c2 := fun g e => ⟨(h.c2 g e).1, m1.ne (h.s.n2 g e).2 (h.c2 g e).2.1, m2.ne (h.s.n2 g e).2 (h.c2 g e).2.2⟩,
          c3 := fun g e => ⟨(h.c3 g e).1, m1.ne (h.s.n3 g e).2 (h.c3 g e).2.1, m2.ne (h.s.n3 g e).2 (h.c3 g e).2.2⟩,
          c4 := fun g e => ⟨(h.c4 g e).1, m1.ne (h.s.n4 g e).2 (h.c4 g e).2.1, m2.ne (h.s.n4 g e).2 (h.c4 g e).2.2⟩ }
/-- a step of the specification's stick -/
theorem Two.spec {W W1 : World} {b r base : Nat} {v1 v2 u1 u2 u3 u4 y1 y2 y3 y4 : Value} {S F : List Int} {d1 d2 : Nat} {D1 P1 D2 P2 E1 Q1 E2 Q2 : List Int} (h : Two W b r base v1 v2 u1 u2 u3 u4 S F d1 d2 D1 P1 D2 P2) (hs : StkR W1 r base y1 y2 y3 y4 E1 Q1 E2 Q2) (hx : Ex (· = r) W W1) (m1 : Nw W u1 y1) (m2 : Nw W u2 y2) (m3 : Nw W u3 y3) (m4 : Nw W u4 y4) : Two W1 b r base v1 v2 y1 y2 y3 y4 S F d1 d2 E1 Q1 E2 Q2 := by
  have hbl := h.p.box.lt
  have q : ∀ {u y : Value}, Nw W u y → (∀ g, u.ownBlock = some g → g ≠ b ∧ v1.ownBlock ≠ some g ∧ v2.ownBlock ≠ some g) → ∀ g, y.ownBlock = some g → g ≠ b ∧ v1.ownBlock ≠ some g ∧ v2.ownBlock ≠ some g := by
    intro u y hm hu g e
    rcases hm with rfl | hm
    · exact hu g e
    · have := hm g e
      refine ⟨by omega, fun e2 => ?_, fun e2 => ?_⟩
      · have := (h.p.o1.lt g e2).2; omega
      · have := (h.p.o2.lt g e2).2; omega
  exact { p := h.p.ex hx (fun e => h.ne e.symm) h.a1 h.a2, s := hs, ne := h.ne, a1 := h.a1, a2 := h.a2, c1 := q m1 h.c1, c2 := q m2 h.c2, c3 := q m3 h.c3, c4 := q m4 h.c4 }
theorem Two.later {W W1 : World} {b r base : Nat} {v1 v2 u1 u2 u3 u4 : Value} {S F : List Int} {d1 d2 : Nat} {D1 P1 D2 P2 : List Int} (h : Two W b r base v1 v2 u1 u2 u3 u4 S F d1 d2 D1 P1 D2 P2) (hb : Below W.heap.size W W1) : Two W1 b r base v1 v2 u1 u2 u3 u4 S F d1 d2 D1 P1 D2 P2 :=
  { h with p := h.p.later hb, s := h.s.later hb }
end Go.Proofs.Ytbpbdgiglllncaa

/- Layer 9: what two journals tell together: the specification's answer. -/
import Derived.Test.YtcichnapgdkbhaaGreatU6
set_option linter.all false
namespace Go.Proofs.YtcichnapgdkbhaaGreat
open Go.RowKit

/-- an append, met by its run -/
theorem wpList_app {ops : Array Oper} {rest : List Oper} {o : Oper} {a : Act} {w w' : World} {v x1 x2 : Value} {Q : Exit → Act → World → Prop} (t : TypeId) (s x : Operand) (hgd : o.guard = none)
    (ho : o.op = .call { callee := .builtin .append, args := #[s, x], argTypes := #[t, t] }) (h1 : a.eval s = x1) (h2 : a.eval x = x2)
    (hr : (Builtin.append_ #[t, t] o.type #[x1, x2]).run Tryz.prog w = .ok v w') (h : wpList Tryz.prog ops Q rest (a.put o.dst v) w') :
    wpList Tryz.prog ops Q (o :: rest) a w := by
  refine wpList_plain hgd fun K hK => ?_
  unfold Oper.wp execOp
  simp only [ho, resolve, invoke, builtin, Sem.run_bind, Sem.run_pure, Result.andThen_ok, List.map_toArray, List.map_cons, List.map_nil, h1, h2, hr]
  exact hK _ _ h
/-- a row of slices of bytes that the call itself owns -/
def RowL (base : Nat) (ov : Value) (W : World) (l : List (List Int)) : Prop :=
  ∃ vs, W.ownsRow base 22 1 ov l.length vs ∧ Cells W W.heap.size vs l ∧ Fresh base ov W vs
theorem RowL.nil (base : Nat) (W : World) : RowL base (.slice none 0 0) W [] := ⟨[], ⟨by simp, .inl ⟨rfl, rfl⟩⟩, Cells.nil _ _, fun k s h => by simp at h⟩
theorem Fresh.size {n3 : Nat} {ov : Value} {W W' : World} {vs : List Value} (h : Fresh n3 ov W vs) (hs : W.heap.size ≤ W'.heap.size) : Fresh n3 ov W' vs := fun k s h1 g e => by obtain ⟨a, b, c⟩ := h k s h1 g e; exact ⟨a, by omega, c⟩
theorem RowL.later {base : Nat} {ov : Value} {W W' : World} {l : List (List Int)} (h : RowL base ov W l) (hb : Below W.heap.size W W') : RowL base ov W' l := by
  obtain ⟨vs, h1, h2, h3⟩ := h
  exact ⟨vs, own_later h1 hb, h2.mono hb hb.size, h3.size hb.size⟩
/-- a store into a block below the row's base changes nothing of it -/
theorem RowL.far {base : Nat} {ov : Value} {W : World} {l : List (List Int)} (h : RowL base ov W l) (b : Nat) (u : Value) (hb : b < base) : RowL base ov (W.setCell ⟨b, 0, none⟩ u) l := by
  obtain ⟨vs, h1, h2, h3⟩ := h
  refine ⟨vs, own_far h1 (p := ⟨b, 0, none⟩) hb u, ?_, h3.size (by rw [World.size_setCell]; exact Nat.le_refl _)⟩
  rw [World.size_setCell]
  exact h2.grown (grownBy_setCell' W b u) (Nat.le_refl _) (Nat.le_refl _) (fun k s hs g e h => by have := (h3 k s hs g e).1; cases h; omega)
/-- one more slice, made in blocks of its own -/
theorem RowL.snoc {base : Nat} {ov : Value} {W w2 : World} {l : List (List Int)} (h : RowL base ov W l) (hbase : base ≤ W.heap.size) (hb : Below W.heap.size W w2) {A : Option Addr} {n c : Nat} {b : List Int} (hs : Bys w2 w2.heap.size (.slice A n c) b)
    (hf : ∀ g, (Value.slice A n c).ownBlock = some g → W.heap.size ≤ g ∧ g < w2.heap.size) (hl : l.length ≤ 1099511627776) (ty : TypeId) :
    ∃ oB cB w7, (Builtin.append_ #[60, 60] ty #[ov, .slice (some ⟨w2.heap.size, 0, none⟩) 1 1]).run Tryz.prog (w2.alloc (.cells #[.slice A n c] 22)) = .ok (.slice oB (l.length + 1) cB) w7 ∧
      RowL base (.slice oB (l.length + 1) cB) w7 (l ++ [b]) ∧ (w2.alloc (.cells #[.slice A n c] 22)).grownBy w7 ov.ownBlock ∧ (∀ g, ov.ownBlock = some g → base ≤ g ∧ g < W.heap.size) := by
  obtain ⟨vs, h1, h2, h3⟩ := h
  have hov := h1.lt
  have h1' := own_later h1 hb
  obtain ⟨v7, w7, hr, ho7, hg7, hd7⟩ := app_cell w2 base ty ov l.length vs h1' (.slice A n c) (by cases A <;> rfl) hl (Nat.le_trans hbase hb.size)
  obtain ⟨oB, cB, rfl⟩ := own_shape ho7
  have hs2 := hb.size
  have hs7 := hg7.size
  rw [World.size_alloc] at hs7
  have c2' := (h2.mono hb hb.size).snoc hs
  have hent : ∀ (k : Nat) (s : Value), (vs ++ [.slice A n c])[k]? = some s → ∀ g, s.ownBlock = some g → base ≤ g ∧ g < w2.heap.size ∧ ov.ownBlock ≠ some g := by
    intro k s hs g e
    rcases Nat.lt_or_ge k vs.length with hk | hk
    · rw [List.getElem?_append_left hk] at hs
      obtain ⟨h1, h2, h3⟩ := h3 k s hs g e
      exact ⟨h1, by omega, h3⟩
    · rw [List.getElem?_append_right hk] at hs
      have hz : k - vs.length = 0 := by
        have := (List.getElem?_eq_some_iff.1 hs).1
        simp at this; omega
      rw [hz] at hs
      simp at hs
      subst hs
      obtain ⟨h1, h2⟩ := hf g e
      exact ⟨by omega, h2, fun h => by have := (hov g h).2; omega⟩
  have c3' := (c2'.mono (B' := (w2.alloc (.cells #[.slice A n c] 22)).heap.size) ((Below.refl _ _).alloc (Nat.le_refl _) (.cells #[.slice A n c] 22)) (by rw [World.size_alloc]; omega)).grown (B' := w7.heap.size) hg7 (Nat.le_refl _) hg7.size (fun k s hs g e h => (hent k s hs g e).2.2 h.symm)
  refine ⟨oB, cB, w7, hr, ⟨vs ++ [.slice A n c], ?_, c3', fun k s hs g e => ?_⟩, hg7, hov⟩
  · rw [List.length_append]; exact ho7
  · obtain ⟨h1, h2, h3⟩ := hent k s hs g e
    refine ⟨h1, by omega, fun h => ?_⟩
    rcases hd7 with h4 | h4
    · exact h3 (h4 ▸ h)
    · rw [h4] at h; cases h; omega
theorem RowL.byl {base : Nat} {ov : Value} {W : World} {l : List (List Int)} (h : RowL base ov W l) (hl : l.length * 24 ≤ 140737488351232) : ByL W W.heap.size ov l := by
  obtain ⟨vs, h1, h2, h3⟩ := h
  exact byl_own h1 h2 (Nat.le_refl _) (Nat.le_refl _) hl

theorem sLen_toNat (pre : List (List Int)) (b : List Int) : (sLen (pre ++ [b])).toNat = (sLen pre).toNat + (2 + b.length) := by
  rw [sLen_snoc]; have := sLen_nn pre; omega

end Go.Proofs.YtcichnapgdkbhaaGreat

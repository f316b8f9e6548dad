/- Layer 9: sticks in memory: the program's own methods. -/
import Derived.Test.YtbpbdgiglllncaaUG
import Derived.Test.YtbpbdgiglllncaaU6
set_option linter.all false
namespace Go.Proofs.Ytbpbdgiglllncaa
open Go.RowKit

/-- a stick: two journals, in a block of its own, with rows of their own -/
structure StkP (W : World) (b base : Nat) (v1 v2 : Value) (S F : List Int) (d1 d2 : Nat) : Prop where
  box : Box W b 94 #[v1, .int .i64 (d1 : Int), v2, .int .i64 (d2 : Int)]
  o1 : W.ownsRow base 5 1 v1 S.length (bys S)
  o2 : W.ownsRow base 5 1 v2 F.length (bys F)
  dis : Dis v1 v2
  l1 : d1 ≤ S.length
  l2 : d2 ≤ F.length
  s1 : S.length ≤ 16777216
  s2 : F.length ≤ 16777216
  y1 : IsBy S
  y2 : IsBy F
  hb : base ≤ b
/-- what a method of a stick leaves as it was: all old blocks but its own three -/
def Chg (W W' : World) (b base : Nat) (v1 v2 : Value) : Prop :=
  Below base W W' ∧ W.heap.size ≤ W'.heap.size ∧ ∀ k, k < W.heap.size → k ≠ b → v1.ownBlock ≠ some k → v2.ownBlock ≠ some k → W'.heap[k]? = W.heap[k]?
/-- a row stays in its block, or moves to a new one -/
def NewB (W : World) (v v' : Value) : Prop := v'.ownBlock = v.ownBlock ∨ ∀ g, v'.ownBlock = some g → W.heap.size ≤ g
theorem own_box_ne {W : World} {base b n : Nat} {v : Value} {xs : List Value} {cs : Array Value} (h : W.ownsRow base 5 1 v n xs) (hb : Box W b 94 cs) : ∀ g, v.ownBlock = some g → g ≠ b := by
  intro g hg e
  subst e
  rcases h.2 with ⟨rfl, -⟩ | ⟨g', cap, cur, rfl, h4, h5, -⟩
  · cases hg
  · cases hg
    unfold Box at hb
    rw [h5] at hb
    injection hb with hb
    injection hb with h1 h2 h3
    exact absurd h2 (by decide)
theorem StkP.later {W W' : World} {b base : Nat} {v1 v2 : Value} {S F : List Int} {d1 d2 : Nat} (h : StkP W b base v1 v2 S F d1 d2) (hb : Below W.heap.size W W') : StkP W' b base v1 v2 S F d1 d2 :=
  { h with box := h.box.later hb, o1 := own_later h.o1 hb, o2 := own_later h.o2 hb }
theorem Chg.of_below {W W' : World} {b base : Nat} {v1 v2 : Value} (hb : Below W.heap.size W W') (hs : base ≤ W.heap.size) : Chg W W' b base v1 v2 := ⟨hb.mono hs, hb.size, fun k hk _ _ _ => hb.block k hk⟩
theorem Chg.trans {W W1 W2 : World} {b base : Nat} {v1 v2 v1' v2' : Value} (h1 : Chg W W1 b base v1 v2) (h2 : Chg W1 W2 b base v1' v2') (n1 : NewB W v1 v1') (n2 : NewB W v2 v2') : Chg W W2 b base v1 v2 := by
  refine ⟨h1.1.trans h2.1, Nat.le_trans h1.2.1 h2.2.1, fun k hk hb e1 e2 => ?_⟩
  rw [h2.2.2 k (Nat.lt_of_lt_of_le hk h1.2.1) hb ?_ ?_]
  · exact h1.2.2 k hk hb e1 e2
  · intro h
    rcases n1 with n | n
    · exact e1 (n ▸ h)
    · have := n k h; omega
  · intro h
    rcases n2 with n | n
    · exact e2 (n ▸ h)
    · have := n k h; omega
theorem NewB.refl (W : World) (v : Value) : NewB W v v := .inl rfl
theorem NewB.later {W W1 : World} {v v' : Value} (h : NewB W1 v v') (hs : W.heap.size ≤ W1.heap.size) : NewB W v v' := h.imp id fun n g hg => by have := n g hg; omega
theorem NewB.trans {W : World} {v v' v'' : Value} (h : NewB W v v') (h2 : NewB W v' v'') : NewB W v v'' := by
  rcases h2 with h2 | h2
  · rcases h with h | h
    · exact .inl (h2.trans h)
    · exact .inr fun g hg => h g (h2 ▸ hg)
  · exact .inr h2
/-- bytes elsewhere stay as they are -/
theorem Bys.chg {W W' : World} {b base : Nat} {v1 v2 u : Value} {xs : List Int} (h : Bys W W.heap.size u xs) (hc : Chg W W' b base v1 v2) (hu : ∀ g, u.ownBlock = some g → g ≠ b ∧ v1.ownBlock ≠ some g ∧ v2.ownBlock ≠ some g) : Bys W' W'.heap.size u xs := by
  obtain ⟨h1, h0, A, c, rfl, h2, h3⟩ := h
  refine ⟨h1, h0, A, c, rfl, h2, fun hp => ?_⟩
  obtain ⟨g, off, rfl, hlt, hcc⟩ := h3 hp
  obtain ⟨q1, q2, q3⟩ := hu g rfl
  exact ⟨g, off, rfl, Nat.lt_of_lt_of_le hlt hc.2.1, fun k hk => (World.cell?_of_block (w := W) (w' := W') (a := ⟨g, off + k, none⟩) (hc.2.2 g hlt q1 q2 q3)).trans (hcc k hk)⟩
/-- bytes are added to the first journal -/
theorem StkP.add1 {W w7 : World} {b base : Nat} {v1 v2 v' : Value} {S F xs : List Int} {d1 d2 : Nat} (h : StkP W b base v1 v2 S F d1 d2) (hw : base ≤ W.heap.size) (ho : w7.ownsRow base 5 1 v' (S ++ xs).length (bys (S ++ xs))) (hg : W.grownBy w7 v1.ownBlock) (hn : v'.ownBlock = v1.ownBlock ∨ v'.ownBlock = some W.heap.size)
    (hx : IsBy xs) (hs : S.length + xs.length ≤ 16777216) :
    StkP (w7.setCell ⟨b, 0, none⟩ v') b base v' v2 (S ++ xs) F d1 d2 ∧ Chg W (w7.setCell ⟨b, 0, none⟩ v') b base v1 v2 ∧ NewB W v1 v' := by
  have hbl := h.box.lt
  have hne := own_box_ne h.o1 h.box
  have hne2 := own_box_ne h.o2 h.box
  have hb7 : Box w7 b 94 #[v1, .int .i64 (d1 : Int), v2, .int .i64 (d2 : Int)] := h.box.grown hg (fun e => hne b e rfl)
  have hs7 := hg.size
  have hfar : ∀ {n : Nat} {v : Value} {ys : List Value}, w7.ownsRow base 5 1 v n ys → (w7.setCell ⟨b, 0, none⟩ v').ownsRow base 5 1 v n ys := fun {n v ys} h1 =>
    h1.kept (grownBy_setCell' w7 b v') (by
      cases hv : v.ownBlock with
      | none => exact .inl rfl
      | some g => exact .inr fun e => by cases e; exact own_box_ne h1 hb7 b hv rfl)
  refine ⟨{ box := hb7.put 0 v', o1 := hfar ho, o2 := hfar (own_other h.o2 hg h.dis.symm), dis := (dis_new h.o2 h.dis.symm (Nat.le_refl _) hn).symm, l1 := by rw [List.length_append]; have := h.l1; omega, l2 := h.l2, s1 := by rw [List.length_append]; exact hs, s2 := h.s2, y1 := h.y1.app hx, y2 := h.y2, hb := h.hb }, ⟨?_, ?_, ?_⟩, ?_⟩
  · exact (((Below.refl base W).grown hg hw (fun k e => (h.o1.lt k e).1)).setCell (p := ⟨b, 0, none⟩) h.hb _)
  · rw [World.size_setCell]; exact hs7
  · intro k hk q1 q2 q3
    rw [Below.heap_setCell _ _ _ _ (by exact q1)]
    exact hg.block k hk (fun e => q2 e.symm)
  · exact hn.imp id fun e g hg => by rw [e] at hg; cases hg; exact Nat.le_refl _
theorem StkP.add2 {W w7 : World} {b base : Nat} {v1 v2 v' : Value} {S F xs : List Int} {d1 d2 : Nat} (h : StkP W b base v1 v2 S F d1 d2) (hw : base ≤ W.heap.size) (ho : w7.ownsRow base 5 1 v' (F ++ xs).length (bys (F ++ xs))) (hg : W.grownBy w7 v2.ownBlock) (hn : v'.ownBlock = v2.ownBlock ∨ v'.ownBlock = some W.heap.size)
    (hx : IsBy xs) (hs : F.length + xs.length ≤ 16777216) :
    StkP (w7.setCell ⟨b, 2, none⟩ v') b base v1 v' S (F ++ xs) d1 d2 ∧ Chg W (w7.setCell ⟨b, 2, none⟩ v') b base v1 v2 ∧ NewB W v2 v' := by
  have hbl := h.box.lt
  have hne2 := own_box_ne h.o2 h.box
  have hb7 : Box w7 b 94 #[v1, .int .i64 (d1 : Int), v2, .int .i64 (d2 : Int)] := h.box.grown hg (fun e => hne2 b e rfl)
  have hs7 := hg.size
  have hgs : w7.grownBy (w7.setCell ⟨b, 2, none⟩ v') (some b) := ⟨rfl, rfl, rfl, by rw [World.size_setCell]; exact Nat.le_refl _, fun k hk hne => Below.heap_setCell _ _ _ _ (fun e => hne (by rw [e]))⟩
  have hfar : ∀ {n : Nat} {v : Value} {ys : List Value}, w7.ownsRow base 5 1 v n ys → (w7.setCell ⟨b, 2, none⟩ v').ownsRow base 5 1 v n ys := fun {n v ys} h1 =>
    h1.kept hgs (by
      cases hv : v.ownBlock with
      | none => exact .inl rfl
      | some g => exact .inr fun e => by cases e; exact own_box_ne h1 hb7 b hv rfl)
  refine ⟨{ box := hb7.put 2 v', o1 := hfar (own_other h.o1 hg h.dis), o2 := hfar ho, dis := dis_new h.o1 h.dis (Nat.le_refl _) hn, l1 := h.l1, l2 := by rw [List.length_append]; have := h.l2; omega, s1 := h.s1, s2 := by rw [List.length_append]; exact hs, y1 := h.y1, y2 := h.y2.app hx, hb := h.hb }, ⟨?_, ?_, ?_⟩, ?_⟩
  · exact (((Below.refl base W).grown hg hw (fun k e => (h.o2.lt k e).1)).setCell (p := ⟨b, 2, none⟩) h.hb _)
  · rw [World.size_setCell]; exact hs7
  · intro k hk q1 q2 q3
    rw [Below.heap_setCell _ _ _ _ (by exact q1)]
    exact hg.block k hk (fun e => q3 e.symm)
  · exact hn.imp id fun e g hg => by rw [e] at hg; cases hg; exact Nat.le_refl _
/-- what Write answers, and the journals behind it -/
def wrOk (S F x : List Int) : Bool := decide (x.length ≤ 8192) && (decide (S.length + (2 + x.length) ≤ 16777216) && decide (F.length + 4 ≤ 16777216))
def wrE (S F x : List Int) : Int := if wrOk S F x then 0 else 2
def wrS (S F x : List Int) : List Int := if wrOk S F x then S ++ stockL x else S
def wrF (S F x : List Int) : List Int := if wrOk S F x then F ++ foilL x else F
end Go.Proofs.Ytbpbdgiglllncaa

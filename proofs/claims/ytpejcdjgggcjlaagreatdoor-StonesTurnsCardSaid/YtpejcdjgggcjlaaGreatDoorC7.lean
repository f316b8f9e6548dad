/- The neighbours of a valid cell are valid cells; so 'clamp' changes none of them. -/
import Derived.Test.YtpejcdjgggcjlaaGreatDoorC6
namespace Go.Proofs.YtpejcdjgggcjlaaGreatDoor
open Go.RowKit

theorem near_in {f : Fc} {r c : Int} (h1 : 0 ≤ r) (h2 : r < f.rings) (h3 : 0 ≤ c) (h4 : c < f.sectors) {x : Int × Int} (h : x ∈ nearTo f r c 4) : InF f x := by
  have hs : 1 ≤ f.sectors := by omega
  obtain ⟨b1, b2⟩ := rnd_bd (a := c - 1) (s := f.sectors) hs
  obtain ⟨b3, b4⟩ := rnd_bd (a := c + 1) (s := f.sectors) hs
  have l1 : 0 ≤ lowS f c ∧ lowS f c < f.sectors := by unfold lowS; omega
  have l2 : 0 ≤ highS f c ∧ highS f c < f.sectors := by unfold highS; omega
  unfold InF
  simp only [nearTo, nearD, nearC, nearB, nearA, List.mem_append] at h
  rcases h with ((h | h) | h) | h
  · split at h
    · simp only [List.mem_cons, List.not_mem_nil, or_false] at h; subst h; dsimp only; omega
    · simp at h
  · simp only [List.mem_cons, List.not_mem_nil, or_false] at h; subst h; dsimp only; omega
  · split at h
    · simp at h
    · simp only [List.mem_cons, List.not_mem_nil, or_false] at h; subst h; dsimp only; omega
  · split at h
    · simp only [List.mem_cons, List.not_mem_nil, or_false] at h; subst h; dsimp only; omega
    · simp at h

/-- spread's fold, without 'clamp' -/
theorem sprTo_near (f : Fc) (c : Int × Int) (hc : InF f c) (m : Int × Int → Option Int) (o : List (Int × Int)) :
    sprTo f c m o (nearTo f c.1 c.2 4) = (nearTo f c.1 c.2 4).foldl (sprStep f (kat f c.1 c.2 != 0) c) (m, o) := by
  obtain ⟨h1, h2, h3, h4⟩ := hc
  unfold sprTo
  rw [show (nearTo f c.1 c.2 4).map (clamp f) = nearTo f c.1 c.2 4 from (List.map_congr_left (fun x hx => clamp_of (near_in h1 h2 h3 h4 hx))).trans (List.map_id _)]

/-- what spread leaves: a cell that was known stays as it was -/
theorem sprStep_known {f : Fc} {fur : Bool} {c : Int × Int} {s : (Int × Int → Option Int) × List (Int × Int)} {x y : Int × Int} {v : Int} (h : s.1 y = some v) : (sprStep f fur c s x).1 y = some v := by
  unfold sprStep
  split
  · exact h
  · rename_i hx
    dsimp only
    split
    · rename_i e
      subst e
      rw [h] at hx
      simp at hx
    · exact h
theorem sprTo_known {f : Fc} {c : Int × Int} {m : Int × Int → Option Int} {o : List (Int × Int)} {pre : List (Int × Int)} {y : Int × Int} {v : Int} (h : m y = some v) : (sprTo f c m o pre).1 y = some v := by
  unfold sprTo
  have key : ∀ (l : List (Int × Int)) (s : (Int × Int → Option Int) × List (Int × Int)), s.1 y = some v → (l.foldl (sprStep f (kat f c.1 c.2 != 0) c) s).1 y = some v := by
    intro l
    induction l with
    | nil => intro s hs; exact hs
    | cons x l ih => intro s hs; exact ih _ (sprStep_known hs)
  exact key _ _ h

/-- cells that are still to be looked at: valid and known -/
def Opn (f : Fc) (s : (Int × Int → Option Int) × List (Int × Int)) : Prop := ∀ x ∈ s.2, InF f x ∧ (s.1 x).isSome = true
theorem Opn.step {f : Fc} {fur : Bool} {c : Int × Int} {s : (Int × Int → Option Int) × List (Int × Int)} {x : Int × Int} (h : Opn f s) (hx : InF f x) : Opn f (sprStep f fur c s x) := by
  intro y hy
  by_cases hb : (s.1 x).isSome || ((kat f x.1 x.2 != 0) != fur)
  · have e : sprStep f fur c s x = s := by unfold sprStep; exact if_pos hb
    rw [e] at hy ⊢
    exact h y hy
  · have e : sprStep f fur c s x = (fun y => if y = x then some ((s.1 c).getD 0) else s.1 y, s.2 ++ [x]) := by unfold sprStep; exact if_neg hb
    rw [e] at hy ⊢
    dsimp only at hy ⊢
    rcases List.mem_append.1 hy with h1 | h1
    · obtain ⟨h2, h3⟩ := h y h1
      refine ⟨h2, ?_⟩
      split
      · rfl
      · exact h3
    · obtain rfl : y = x := by simpa using h1
      exact ⟨hx, by simp⟩
theorem Opn.fold {f : Fc} {fur : Bool} {c : Int × Int} (l : List (Int × Int)) : ∀ {s : (Int × Int → Option Int) × List (Int × Int)}, Opn f s → (∀ x ∈ l, InF f x) → Opn f (l.foldl (sprStep f fur c) s) := by
  induction l with
  | nil => intro s h _; exact h
  | cons x l ih => intro s h hl; exact ih (h.step (hl x (by simp))) (fun y hy => hl y (by simp [hy]))

/-- how many cells of a list are not known -/
def unk (l : List (Int × Int)) (m : Int × Int → Option Int) : Nat := (l.filter (fun x => (m x).isNone)).length
theorem filter_less {α : Type} (l : List α) (p q : α → Bool) (x : α) (hx : x ∈ l) (h1 : p x = true) (h2 : q x = false) (h3 : ∀ y, q y = true → p y = true) : (l.filter q).length + 1 ≤ (l.filter p).length := by
  have le : ∀ l : List α, (l.filter q).length ≤ (l.filter p).length := by
    intro l
    induction l with
    | nil => simp
    | cons y l ih =>
      cases hq : q y with
      | true => simp [hq, h3 y hq]; exact ih
      | false =>
        cases hp : p y with
        | true => simp [hq, hp]; omega
        | false => simp [hq, hp]; exact ih
  induction l with
  | nil => simp at hx
  | cons y l ih =>
    rcases List.mem_cons.1 hx with rfl | hx'
    · have := le l
      simp [h1, h2]
      omega
    · have := ih hx'
      cases hq : q y with
      | true => simp [hq, h3 y hq]; omega
      | false =>
        cases hp : p y with
        | true => simp [hq, hp]; omega
        | false => simp [hq, hp]; omega
/-- a cell taken in: one fewer that is not known -/
theorem unk_put (l : List (Int × Int)) (m : Int × Int → Option Int) (x : Int × Int) (v : Int) (hx : x ∈ l) (hm : (m x).isSome = false) : unk l (fun y => if y = x then some v else m y) + 1 ≤ unk l m := by
  unfold unk
  refine filter_less l _ _ x hx ?_ ?_ ?_
  · cases h : m x with
    | none => rfl
    | some u => rw [h] at hm; cases hm
  · simp
  · intro y hy
    by_cases e : y = x
    · subst e; simp at hy
    · simpa [e] using hy
/-- the measure does not rise in a step of spread -/
theorem meas_step {f : Fc} {fur : Bool} {c : Int × Int} {s : (Int × Int → Option Int) × List (Int × Int)} {x : Int × Int} (l : List (Int × Int)) (hx : x ∈ l) :
    2 * unk l (sprStep f fur c s x).1 + (sprStep f fur c s x).2.length ≤ 2 * unk l s.1 + s.2.length := by
  by_cases hb : (s.1 x).isSome || ((kat f x.1 x.2 != 0) != fur)
  · have e : sprStep f fur c s x = s := by unfold sprStep; exact if_pos hb
    rw [e]
    exact Nat.le_refl _
  · have e : sprStep f fur c s x = (fun y => if y = x then some ((s.1 c).getD 0) else s.1 y, s.2 ++ [x]) := by unfold sprStep; exact if_neg hb
    rw [e]
    have := unk_put l s.1 x ((s.1 c).getD 0) hx (by simp at hb; simp [hb.1])
    simp only [List.length_append, List.length_cons, List.length_nil]
    omega
theorem meas_fold {f : Fc} {fur : Bool} {c : Int × Int} (l : List (Int × Int)) (xs : List (Int × Int)) : ∀ {s : (Int × Int → Option Int) × List (Int × Int)}, (∀ x ∈ xs, x ∈ l) →
    2 * unk l (xs.foldl (sprStep f fur c) s).1 + (xs.foldl (sprStep f fur c) s).2.length ≤ 2 * unk l s.1 + s.2.length := by
  induction xs with
  | nil => intro s _; exact Nat.le_refl _
  | cons x xs ih => intro s h; exact Nat.le_trans (ih (fun y hy => h y (by simp [hy]))) (meas_step l (h x (by simp)))

/-- the cell of an index; all cells -/
def cellOf (f : Fc) (i : Nat) : Int × Int := ((i : Int) / f.sectors, (i : Int) % f.sectors)
def allCells (f : Fc) : List (Int × Int) := (List.range (f.rings * f.sectors).toNat).map (cellOf f)
theorem cellOf_in {f : Fc} (h2 : 1 ≤ f.sectors) {i : Nat} (hi : (i : Int) < f.rings * f.sectors) : InF f (cellOf f i) := by
  refine ⟨Int.ediv_nonneg (by omega) (by omega), Int.ediv_lt_of_lt_mul (by omega) hi, Int.emod_nonneg _ (by omega), Int.emod_lt_of_pos _ (by omega)⟩
theorem mem_allCells {f : Fc} {x : Int × Int} (h : InF f x) : x ∈ allCells f := by
  obtain ⟨a, b⟩ := x
  obtain ⟨h1, h2, h3, h4⟩ := h
  dsimp only at h1 h2 h3 h4
  have hm : 0 ≤ a * f.sectors := Int.mul_nonneg h1 (by omega)
  have hle : (a + 1) * f.sectors ≤ f.rings * f.sectors := Int.mul_le_mul_of_nonneg_right (by omega) (by omega)
  rw [Int.add_mul] at hle
  refine List.mem_map.2 ⟨(a * f.sectors + b).toNat, List.mem_range.2 (by omega), ?_⟩
  unfold cellOf
  rw [Int.toNat_of_nonneg (by omega)]
  have e1 : (a * f.sectors + b) / f.sectors = a := by
    rw [Int.add_comm, Int.add_mul_ediv_right _ _ (by omega), Int.ediv_eq_zero_of_lt h3 h4]
    omega
  have e2 : (a * f.sectors + b) % f.sectors = b := by
    rw [Int.add_comm, Int.add_mul_emod_self_right, Int.emod_eq_of_lt h3 h4]
  rw [e1, e2]

end Go.Proofs.YtpejcdjgggcjlaaGreatDoor

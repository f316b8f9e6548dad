/- Cells and indices undo each other; a face with a cell of another kind; the cells of all kinds. -/
import Derived.Test.YtpejcdjgggcjlaaGreatDoorJ2
import Derived.Test.YtpejcdjgggcjlaaGreatDoorH3c
namespace Go.Proofs.YtpejcdjgggcjlaaGreatDoor
open Go.RowKit

theorem idx_div {r c s : Int} (h1 : 0 ≤ c) (h2 : c < s) : (r * s + c) / s = r ∧ (r * s + c) % s = c := by
  refine ⟨?_, ?_⟩
  · rw [Int.add_comm, Int.add_mul_ediv_right _ _ (by omega), Int.ediv_eq_zero_of_lt h1 h2]; omega
  · rw [Int.add_comm, Int.add_mul_emod_self_right, Int.emod_eq_of_lt h1 h2]
theorem idx_back (i s : Int) : i / s * s + i % s = i := Int.ediv_mul_add_emod i s
theorem cell_idx {f : Fc} {i : Nat} : (cellOf f i).1 * f.sectors + (cellOf f i).2 = (i : Int) := idx_back _ _

/-- a face in which a cell has another kind -/
def setF (f : Fc) (r c kind : Int) : Fc := { eye := f.eye, rings := f.rings, sectors := f.sectors, kinds := f.kinds.set (r * f.sectors + c).toNat kind }
theorem nth_put {l : List Int} {i k : Nat} {x : Int} (h : i < l.length) : nth (l.set i x) k = if k = i then x else nth l k := by
  unfold nth
  rw [List.getD_eq_getElem?_getD, List.getElem?_set, List.getD_eq_getElem?_getD]
  by_cases e : i = k
  · subst e
    simp [h]
  · rw [if_neg e, if_neg (fun h => e h.symm)]
theorem kindsB_iff {l : List Int} : kindsB l = true ↔ ∀ x ∈ l, 0 ≤ x ∧ x ≤ 2 := by
  unfold kindsB
  rw [List.all_eq_true]
  simp only [inB_iff]
theorem setF_len (f : Fc) (r c kind : Int) : (setF f r c kind).kinds.length = f.kinds.length := by simp [setF]
theorem setF_valid {f : Fc} {r c kind : Int} (hv : validB f = true) (hk : inB kind 0 2 = true) : validB (setF f r c kind) = true := by
  obtain ⟨h1, h2, h3⟩ := validB_iff.1 hv
  refine validB_iff.2 ⟨h1, ?_, ?_⟩
  · rw [setF_len]; exact h2
  · rw [kindsB_iff] at h3 ⊢
    intro x hx
    rcases List.mem_or_eq_of_mem_set hx with h | h
    · exact h3 x h
    · rw [h]; exact inB_iff.1 hk
theorem kindCells_mem {f : Fc} {kind : Int} {n : Nat} {x : Int × Int} (h : x ∈ kindCells f kind n) : ∃ i, i < n ∧ nth f.kinds i = kind ∧ x = cellOf f i := by
  induction n with
  | zero => simp [kindCells] at h
  | succ n ih =>
    rw [kindCells, List.mem_append] at h
    rcases h with h | h
    · obtain ⟨i, h1, h2, h3⟩ := ih h
      exact ⟨i, by omega, h2, h3⟩
    · split at h
      · rename_i hk
        simp at h
        exact ⟨n, by omega, hk, h⟩
      · simp at h
theorem kindCells_all (f : Fc) (n : Nat) (h : ∀ i, i < n → 0 ≤ nth f.kinds i ∧ nth f.kinds i ≤ 2) : (kindCells f 0 n).length + (kindCells f 1 n).length + (kindCells f 2 n).length = n := by
  induction n with
  | zero => simp [kindCells]
  | succ n ih =>
    have ih := ih (fun i hi => h i (by omega))
    have hn := h n (by omega)
    have h3 : nth f.kinds n = 0 ∨ nth f.kinds n = 1 ∨ nth f.kinds n = 2 := by omega
    simp only [kindCells, List.length_append]
    rcases h3 with e | e | e <;> rw [e] <;> simp <;> omega
theorem kinds_nth {l : List Int} (h : kindsB l = true) {i : Nat} (hi : i < l.length) : 0 ≤ nth l i ∧ nth l i ≤ 2 := by
  rw [nth_get hi]
  exact kindsB_iff.1 h _ (List.getElem_mem hi)
theorem kindCells_sum {f : Fc} (hv : validB f = true) : (kindCells f 0 f.kinds.length).length + (kindCells f 1 f.kinds.length).length + (kindCells f 2 f.kinds.length).length = f.kinds.length :=
  kindCells_all f _ (fun _ hi => kinds_nth (validB_iff.1 hv).2.2 hi)
theorem kat_cell {f : Fc} {i : Nat} : kat f (cellOf f i).1 (cellOf f i).2 = nth f.kinds i := by
  unfold kat
  rw [cell_idx]
  rfl
/-- each cell that is told of a kind, when one cell has been set -/
theorem place_of {f : Fc} {r c kind kd : Int} (hv : validB f = true) (hin : InF f (r, c)) {x : Int × Int} (hx : x ∈ kindCells (setF f r c kind) kd f.kinds.length) :
    InF f x ∧ kat (setF f r c kind) x.1 x.2 = kd ∧ (x = (r, c) → kd = kind) ∧ (x ≠ (r, c) → kat f x.1 x.2 = kd) := by
  obtain ⟨i, hi, hk, rfl⟩ := kindCells_mem hx
  obtain ⟨⟨⟨a1, a2⟩, ⟨a3, a4⟩, a5, a6⟩, hl, -⟩ := validB_iff.1 hv
  obtain ⟨i1, i2, i3, i4⟩ := hin
  dsimp only at i1 i2 i3 i4
  have hb := idx_bd hv i1 i2 i3 i4
  have hc : cellOf (setF f r c kind) i = cellOf f i := rfl
  rw [hc]
  have hset : nth (setF f r c kind).kinds i = if i = (r * f.sectors + c).toNat then kind else nth f.kinds i := nth_put (by omega)
  refine ⟨cellOf_in (by omega) (by omega), ?_, ?_, ?_⟩
  · rw [← hc, kat_cell, hk]
  · intro e
    have h1 := cell_idx (f := f) (i := i)
    rw [e] at h1
    dsimp only at h1
    rw [if_pos (by omega)] at hset
    rw [← hk, hset]
  · intro e
    have h1 : i ≠ (r * f.sectors + c).toNat := by
      intro h2
      apply e
      have h3 : (i : Int) = r * f.sectors + c := by omega
      unfold cellOf
      rw [h3]
      exact Prod.ext (idx_div i3 i4).1 (idx_div i3 i4).2
    rw [if_neg h1] at hset
    rw [kat_cell, ← hset, hk]

end Go.Proofs.YtpejcdjgggcjlaaGreatDoor

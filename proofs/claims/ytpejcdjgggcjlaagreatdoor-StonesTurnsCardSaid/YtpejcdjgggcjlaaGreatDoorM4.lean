/- The neighbours of a cell: which they are, that they are cells, and that each one has the cell for a neighbour. -/
import Derived.Test.YtpejcdjgggcjlaaGreatDoorC7
namespace Go.Proofs.YtpejcdjgggcjlaaGreatDoor

theorem rnd_before {c s : Int} (h1 : 0 ≤ c) (h2 : c < s) : rnd (c - 1) s = if c = 0 then s - 1 else c - 1 := by
  unfold rnd
  split
  · subst c
    rw [← Int.add_emod_right, show (0 : Int) - 1 + s = s - 1 by omega]
    exact Int.emod_eq_of_lt (by omega) (by omega)
  · exact Int.emod_eq_of_lt (by omega) (by omega)
theorem rnd_behind {c s : Int} (h1 : 0 ≤ c) (h2 : c < s) : rnd (c + 1) s = if c + 1 = s then 0 else c + 1 := by
  unfold rnd
  split
  · rename_i h
    rw [h, Int.emod_self]
  · exact Int.emod_eq_of_lt (by omega) (by omega)
/-- which cells are beside a cell -/
theorem near_iff {f : Fc} {r c : Int} (x : Int × Int) :
    x ∈ nearL f r c ↔ (1 ≤ r ∧ x = (r - 1, c)) ∨ x = (r, lowS f c) ∨ x = (r, highS f c) ∨ (r + 1 < f.rings ∧ x = (r + 1, c)) := by
  show x ∈ nearD f r c ↔ _
  unfold nearD nearC nearB nearA
  by_cases h1 : 1 ≤ r <;> by_cases h2 : lowS f c = highS f c <;> by_cases h3 : r + 1 < f.rings <;> simp [h1, h2, h3] <;> constructor <;> (intro h; rcases h with h | h | h | h <;> simp [h])
theorem side_cases {f : Fc} {c : Int} : (lowS f c = rnd (c - 1) f.sectors ∧ highS f c = rnd (c + 1) f.sectors) ∨ (lowS f c = rnd (c + 1) f.sectors ∧ highS f c = rnd (c - 1) f.sectors) := by
  unfold lowS highS
  omega
theorem near_mem {f : Fc} {r c : Int} (x : Int × Int) :
    x ∈ nearL f r c ↔ (1 ≤ r ∧ x = (r - 1, c)) ∨ x = (r, rnd (c - 1) f.sectors) ∨ x = (r, rnd (c + 1) f.sectors) ∨ (r + 1 < f.rings ∧ x = (r + 1, c)) := by
  rw [near_iff]
  rcases side_cases (f := f) (c := c) with ⟨e1, e2⟩ | ⟨e1, e2⟩
  · rw [e1, e2]
  · rw [e1, e2]
    constructor <;> (intro h; rcases h with h | h | h | h <;> simp [h])
theorem near_cell {f : Fc} {r c : Int} (h : InF f (r, c)) {x : Int × Int} (hx : x ∈ nearL f r c) : InF f x := by
  obtain ⟨a, b, d, e⟩ := h
  dsimp only at a b d e
  obtain ⟨z1, z2⟩ := rnd_bd (a := c - 1) (s := f.sectors) (by omega)
  obtain ⟨z3, z4⟩ := rnd_bd (a := c + 1) (s := f.sectors) (by omega)
  rw [near_mem] at hx
  rcases hx with ⟨hx, rfl⟩ | rfl | rfl | ⟨hx, rfl⟩ <;> exact ⟨by dsimp only; omega, by dsimp only; omega, by dsimp only; omega, by dsimp only; omega⟩
theorem near_ne {f : Fc} {r c : Int} (h : InF f (r, c)) (h2 : 2 ≤ f.sectors) {x : Int × Int} (hx : x ∈ nearL f r c) : x ≠ (r, c) := by
  obtain ⟨a, b, d, e⟩ := h
  dsimp only at a b d e
  have y1 := rnd_before d e
  have y2 := rnd_behind d e
  rw [near_mem] at hx
  rintro rfl
  simp only [Prod.mk.injEq] at hx
  split at y1 <;> split at y2 <;> omega
/-- each neighbour has the cell for a neighbour -/
theorem near_back {f : Fc} {r c : Int} (h : InF f (r, c)) (h2 : 2 ≤ f.sectors) {x : Int × Int} (hx : x ∈ nearL f r c) : (r, c) ∈ nearL f x.1 x.2 := by
  have hin := near_cell h hx
  obtain ⟨a, b, d, e⟩ := h
  obtain ⟨a', b', d', e'⟩ := hin
  dsimp only at a b d e
  have y1 := rnd_before d e
  have y2 := rnd_behind d e
  have y3 := rnd_before d' e'
  have y4 := rnd_behind d' e'
  rw [near_mem] at hx ⊢
  obtain ⟨p, q⟩ := x
  dsimp only at *
  simp only [Prod.mk.injEq] at hx ⊢
  split at y1 <;> split at y2 <;> split at y3 <;> split at y4 <;> omega
theorem near_len (f : Fc) (r c : Int) : 1 ≤ (nearL f r c).length ∧ (nearL f r c).length ≤ 4 := by
  refine ⟨?_, (nearTo_len f r c 4).1⟩
  have h : (r, lowS f c) ∈ nearL f r c := by rw [near_iff]; simp
  exact List.length_pos_of_mem h
theorem near_clamp {f : Fc} {r c : Int} (h : InF f (r, c)) : (nearTo f r c 4).map (clamp f) = nearL f r c := by
  show (nearL f r c).map (clamp f) = nearL f r c
  conv => rhs; rw [← List.map_id (nearL f r c)]
  exact List.map_congr_left fun x hx => clamp_of (near_cell h hx)

end Go.Proofs.YtpejcdjgggcjlaaGreatDoor

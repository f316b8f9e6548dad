/- Layer 7: all sectors, as the specification has them. -/
import Derived.Test.YtmmfmanjajefcaaHT3
set_option linter.all false
namespace Go.Proofs.Ytmmfmanjajefcaa
open Go.RowKit

/-- a row of truth values: f at each place below S -/
def fb (S : Nat) (f : Nat → Bool) : List Value := (List.range S).map fun i => .bool (f i)
def BRow (w : World) (g S : Nat) (f : Nat → Bool) : Prop := Box w g 4 (fb S f).toArray
def upf (f : Nat → Bool) (k : Nat) : Nat → Bool := fun i => if i = k then true else f i
theorem fb_len (S : Nat) (f : Nat → Bool) : (fb S f).length = S := by simp [fb]
theorem BRow.cell {w : World} {g S : Nat} {f : Nat → Bool} (h : BRow w g S f) {k : Nat} (hk : k < S) : w.cell? ⟨g, k, none⟩ = some (.bool (f k)) := by
  have hc := Box.cell (w := w) (t := 4) h k
  rw [hc]
  unfold fb
  rw [List.getElem?_toArray, List.getElem?_map, List.getElem?_range hk]
  rfl
theorem BRow.free {w : World} {g S : Nat} {f : Nat → Bool} (h : BRow w g S f) (k : Nat) : w.frozen? ⟨g, k, none⟩ = false := Box.free (w := w) (t := 4) h k
theorem BRow.lt {w : World} {g S : Nat} {f : Nat → Bool} (h : BRow w g S f) : g < w.heap.size := Box.lt (w := w) (t := 4) h
theorem BRow.put {w : World} {g S : Nat} {f : Nat → Bool} (h : BRow w g S f) (k : Nat) : BRow (w.setCell ⟨g, k, none⟩ (.bool true)) g S (upf f k) := by
  have e := Box.put (w := w) (t := 4) h k (.bool true)
  rw [List.setIfInBounds_toArray] at e
  unfold BRow
  rw [show fb S (upf f k) = (fb S f).set k (.bool true) by
    unfold fb
    apply List.ext_getElem
    · simp
    · intro i h1 h2
      rw [List.getElem_set]
      simp only [List.getElem_map, List.getElem_range]
      unfold upf
      by_cases hik : i = k
      · rw [if_pos hik, if_pos hik.symm]
      · rw [if_neg hik, if_neg (fun h => hik h.symm)]]
  exact e
theorem BRow.later {w w' : World} {g S : Nat} {f : Nat → Bool} (h : BRow w g S f) (hb : Below w.heap.size w w') : BRow w' g S f := Box.later (w := w) (t := 4) h hb
theorem BRow.alloc {w : World} {g S : Nat} {f : Nat → Bool} (h : BRow w g S f) (o : Obj) : BRow (w.alloc o) g S f := Box.alloc (w := w) (t := 4) h o
theorem BRow.made (w : World) (S : Nat) : BRow (w.alloc (.cells (Array.replicate S (.bool false)) 4)) w.heap.size S (fun _ => false) := by
  have e := Box.made w 4 (Array.replicate S (.bool false))
  unfold BRow
  rw [show (fb S fun _ => false).toArray = Array.replicate S (Value.bool false) by
    apply Array.toList_inj.1
    simp [fb, List.map_const']]
  exact e
set_option maxRecDepth 100000 in
theorem mkBools (w : World) (n : Nat) (hn : n ≤ 10000) : (Instr.makeSlice 102 (.int .i64 (n : Int)) (.int .i64 (n : Int))).run Try.prog w = .ok (.slice (some ⟨w.heap.size, 0, none⟩) n n) (w.alloc (.cells (Array.replicate n (Value.bool false)) 4)) := by
  obtain ⟨i0, hi, hz0, hz1, hz2⟩ : ∃ i, Try.prog.info? 4 = some i ∧ i.zero = some (.bool false) ∧ i.size = 1 ∧ i.bytes = 1 := ⟨_, rfl, rfl, rfl, rfl⟩
  have hr := run_make (P := Try.prog) w 102 4 i0 (.bool false) Try.underlying102 hi hz0 .i64 .i64 n n (by omega) (Int.le_refl _) (by rw [hz2]; omega) (by omega)
  simp only [Int.toNat_natCast] at hr
  rw [hr, hz1]
  have e : madeCells (Value.bool false).cells (n * 1) = Array.replicate n (Value.bool false) := by
    apply Array.toList_inj.1
    rw [Nat.mul_one]
    exact (toList_madeCells_one _ n).trans (by simp)
  rw [e]
/-- what is hit after m teeth, by the first K places -/
def Hit (N D n d S m K i : Nat) : Prop := ∃ j : Nat, j < K ∧ hmI (m * N) S D n d + (j : Int) ≤ ((fmN (m * N) S D : Nat) : Int) ∧ (hmI (m * N) S D n d + (j : Int)) % (S : Int) = (i : Int)
theorem hit_next {N D n d S m K i : Nat} (h : hmI (m * N) S D n d + (K : Int) ≤ ((fmN (m * N) S D : Nat) : Int)) : Hit N D n d S m (K + 1) i ↔ (Hit N D n d S m K i ∨ (hmI (m * N) S D n d + (K : Int)) % (S : Int) = (i : Int)) := by
  constructor
  · rintro ⟨j, h1, h2, h3⟩
    rcases Nat.lt_succ_iff_lt_or_eq.1 h1 with h4 | h4
    · exact .inl ⟨j, h4, h2, h3⟩
    · subst h4; exact .inr h3
  · rintro (⟨j, h1, h2, h3⟩ | h1)
    · exact ⟨j, by omega, h2, h3⟩
    · exact ⟨K, by omega, h, h1⟩
theorem hit_stop {N D n d S m K i : Nat} (hK : K ≤ S) (h : ¬ (K < S ∧ hmI (m * N) S D n d + (K : Int) ≤ ((fmN (m * N) S D : Nat) : Int))) : Hit N D n d S m K i ↔ Hit N D n d S m S i := by
  constructor
  · rintro ⟨j, h1, h2, h3⟩; exact ⟨j, by omega, h2, h3⟩
  · rintro ⟨j, h1, h2, h3⟩; exact ⟨j, by omega, h2, h3⟩
/-- where the turns have as many parts as sectors, the runner may stand everywhere -/
theorem may_all {N D n d S z : Nat} (hD : 0 < D) (hd : 0 < d) (hS : 0 < S) (h : S ≤ D) (hz : z < S) : mayB N D n d S z = true := by
  refine may_of (P := clP z D S) (x := (z : Int)) hD hd hS (by rw [Int.emod_eq_of_lt (by omega) (by omega)]) ?_ ?_
  · refine Int.le_trans (hm_hi _ _ _ _ _) ?_
    have : fmN (clP z D S) S D ≤ z := by
      unfold fmN clP
      have h1 : (z * D + S - 1) / S * S ≤ z * D + S - 1 := Nat.div_mul_le_self _ _
      refine Nat.lt_succ_iff.1 ((Nat.div_lt_iff_lt_mul hD).2 ?_)
      rw [Nat.succ_mul]
      omega
    omega
  · have := (cl_le (k := z) (P := clP z D S) hD hS).1 (Nat.le_refl _)
    omega
/-- each rest is the one of some number of teeth -/
theorem rest_at {N D : Nat} (hD : 0 < D) (hg : N.gcd D = 1) (r : Nat) : ∃ m, m < D ∧ (m * N) % D = r % D := by
  obtain ⟨x, y, h⟩ := bez N D
  rw [hg] at h
  have hD' : (D : Int) ≠ 0 := by omega
  refine ⟨((r : Int) * x % (D : Int)).toNat, ?_, ?_⟩
  · have h1 := Int.emod_nonneg ((r : Int) * x) hD'
    have h2 := Int.emod_lt_of_pos ((r : Int) * x) (show (0 : Int) < (D : Int) by omega)
    omega
  · have h1 := Int.emod_nonneg ((r : Int) * x) hD'
    have e : ((((r : Int) * x % (D : Int)).toNat : Nat) : Int) = (r : Int) * x % (D : Int) := by omega
    have e2 : (((((r : Int) * x % (D : Int)).toNat * N) % D : Nat) : Int) = ((r % D : Nat) : Int) := by
      push_cast
      rw [Int.toNat_of_nonneg h1]
      rw [Int.mul_emod, Int.emod_emod_of_dvd _ (Int.dvd_refl _), ← Int.mul_emod]
      have e3 : (r : Int) * x * (N : Int) = (r : Int) + (D : Int) * (-(r : Int) * y) := by
        have : x * (N : Int) = 1 - y * (D : Int) := by have := h; push_cast at this; omega
        rw [Int.mul_assoc, this]; grind
      rw [e3, Int.add_mul_emod_self_left]
    exact Int.ofNat.inj e2
theorem may_iff {N D n d S z : Nat} (hD : 0 < D) (hd : 0 < d) (hS : 0 < S) (hg : N.gcd D = 1) (hz : z < S) : mayB N D n d S z = true ↔ ∃ m, m < D ∧ Hit N D n d S m S z := by
  constructor
  · intro h
    unfold mayB at h
    rw [decide_eq_true_iff] at h
    have h2 := (cl_le (k := z) (P := clP z D S) hD hS).1 (Nat.le_refl _)
    obtain ⟨m, hm, hr⟩ := rest_at hD hg (clP z D S)
    refine ⟨m, hm, ?_⟩
    have key : ∃ x : Int, hmI (m * N) S D n d ≤ x ∧ x ≤ ((fmN (m * N) S D : Nat) : Int) ∧ x % (S : Int) = (z : Int) := by
      have hz0 : (z : Int) % (S : Int) = (z : Int) := Int.emod_eq_of_lt (by omega) (by omega)
      have e1 := Nat.div_add_mod (m * N) D
      have e2 := Nat.div_add_mod (clP z D S) D
      rw [hr] at e1
      rcases Nat.le_total (clP z D S / D) (m * N / D) with hle | hle
      · obtain ⟨u, hu⟩ := Nat.exists_eq_add_of_le hle
        have e3 : m * N = clP z D S + D * u := by rw [hu, Nat.mul_add] at e1; omega
        rw [e3]
        obtain ⟨s1, s2⟩ := hm_shift (P := clP z D S) (S := S) (D := D) (n := n) (d := d) (k := u) hD
        refine ⟨(z : Int) + ((u * S : Nat) : Int), by rw [s1]; omega, by rw [s2]; push_cast; omega, ?_⟩
        rw [show ((u * S : Nat) : Int) = (S : Int) * (u : Int) by push_cast; rw [Int.mul_comm], Int.add_mul_emod_self_left]; exact hz0
      · obtain ⟨u, hu⟩ := Nat.exists_eq_add_of_le hle
        have e3 : clP z D S = m * N + D * u := by rw [hu, Nat.mul_add] at e2; omega
        obtain ⟨s1, s2⟩ := hm_shift (P := m * N) (S := S) (D := D) (n := n) (d := d) (k := u) hD
        rw [e3, s1] at h
        rw [e3, s2] at h2
        refine ⟨(z : Int) - ((u * S : Nat) : Int), by omega, by omega, ?_⟩
        rw [show ((u * S : Nat) : Int) = (S : Int) * (u : Int) by push_cast; rw [Int.mul_comm], Int.sub_mul_emod_self_left]; exact hz0
    obtain ⟨x, k1, k2, k3⟩ := key
    have hS' : (0 : Int) < (S : Int) := by omega
    obtain ⟨j, hj⟩ := Int.eq_ofNat_of_zero_le (Int.emod_nonneg (x - hmI (m * N) S D n d) (show (S : Int) ≠ 0 by omega))
    have hj2 := Int.emod_lt_of_pos (x - hmI (m * N) S D n d) hS'
    have hj3 : x - hmI (m * N) S D n d = (j : Int) + (S : Int) * ((x - hmI (m * N) S D n d) / (S : Int)) := by
      have := Int.mul_ediv_add_emod (x - hmI (m * N) S D n d) (S : Int)
      rw [hj] at this; omega
    have hj4 : 0 ≤ (x - hmI (m * N) S D n d) / (S : Int) := Int.ediv_nonneg (by omega) (by omega)
    have hj5 : 0 ≤ (S : Int) * ((x - hmI (m * N) S D n d) / (S : Int)) := Int.mul_nonneg (by omega) hj4
    refine ⟨j, by omega, by omega, ?_⟩
    have : hmI (m * N) S D n d + (j : Int) = x - (S : Int) * ((x - hmI (m * N) S D n d) / (S : Int)) := by omega
    rw [this, Int.sub_mul_emod_self_left]; exact k3
  · rintro ⟨m, -, j, h1, h2, h3⟩
    exact may_of hD hd hS h3 (by omega) h2

end Go.Proofs.Ytmmfmanjajefcaa

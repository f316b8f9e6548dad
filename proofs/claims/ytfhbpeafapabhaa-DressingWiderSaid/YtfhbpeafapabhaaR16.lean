/- Rows of spans that a law makes by itself: a copy with one span changed, and one of spans that are none. -/
import Derived.Test.YtfhbpeafapabhaaR15
import Derived.Test.YtfhbpeafapabhaaQ3b
import Derived.Test.YtfhbpeafapabhaaR1
namespace Go.Proofs.Ytfhbpeafapabhaa
open Go.RowKit

def prow (l : List (Int × Int)) : List Value := l.flatMap fun p => [.int .i64 p.1, .int .i64 p.2]
theorem prow_len (l : List (Int × Int)) : (prow l).length = l.length * 2 := by
  induction l with
  | nil => rfl
  | cons x l ih => rw [prow, List.flatMap_cons, List.length_append]; change 2 + (prow l).length = _; rw [ih, List.length_cons]; omega
theorem prow_at (l : List (Int × Int)) (k : Nat) (hk : k < l.length) : (prow l)[k * 2]? = some (.int .i64 (nthP l k).1) ∧ (prow l)[k * 2 + 1]? = some (.int .i64 (nthP l k).2) := by
  induction l generalizing k with
  | nil => simp at hk
  | cons x l ih =>
    have e : prow (x :: l) = .int .i64 x.1 :: .int .i64 x.2 :: prow l := rfl
    rw [e]
    cases k with
    | zero => exact ⟨rfl, rfl⟩
    | succ k =>
      have := ih k (by simpa using hk)
      rw [show (k + 1) * 2 = k * 2 + 1 + 1 by omega]
      exact this
theorem prow_one (l : List (Int × Int)) : ∀ u ∈ prow l, u.oneCell' = true := by
  intro u hu
  unfold prow at hu
  obtain ⟨x, -, h⟩ := List.mem_flatMap.1 hu
  simp at h
  rcases h with rfl | rfl <;> rfl
theorem pairs_news {w W : World} {b off B : Nat} {xs : List (Int × Int)} (hcc : ∀ k, k < xs.length → w.cell? ⟨b, off + k * 2, none⟩ = some (.int .i64 (nthP xs k).1) ∧ w.cell? ⟨b, off + k * 2 + 1, none⟩ = some (.int .i64 (nthP xs k).2)) (hb : Below B w W) (hB : b < B) :
    ∀ (j : Nat) (u : Value), (prow xs)[j]? = some u → W.cell? ((⟨b, off, none⟩ : Addr).add j) = some u := fun j u hu => by
  have hj : j < xs.length * 2 := by
    have := (List.getElem?_eq_some_iff.1 hu).1
    rwa [prow_len] at this
  have e2 : (⟨b, off, none⟩ : Addr).add j = ⟨b, off + j, none⟩ := by rcases j with _ | j <;> simp [Addr.add]
  rw [e2]
  obtain ⟨k, hk⟩ : ∃ k, j = k * 2 ∨ j = k * 2 + 1 := ⟨j / 2, by omega⟩
  have hkl : k < xs.length := by omega
  have hp := prow_at xs k hkl
  rcases hk with rfl | rfl
  · rw [hp.1] at hu
    rw [← hu]; exact keepd (hcc k hkl).1 hb hB
  · rw [hp.2] at hu
    rw [← hu, ← Nat.add_assoc]; exact keepd (hcc k hkl).2 hb hB

/-- a row of its own with one span changed -/
theorem wide_pairs {W : World} {gg cap : Nat} {cur : Array Value} {l : List (Int × Int)} {k : Nat} {a b : Int} (hbx : Box W gg 49 ((cur.setIfInBounds (k * 2) (.int .i64 a)).setIfInBounds (k * 2 + 1) (.int .i64 b)))
    (hcur : ∀ j, j < l.length * 2 → cur[j]? = (prow l)[j]?) (hk : k < l.length) (hc : l.length ≤ cap) : Pairs W W.heap.size (.slice (some ⟨gg, 0, none⟩) l.length cap) (l.set k (a, b)) := by
  refine ⟨some ⟨gg, 0, none⟩, cap, by rw [List.length_set], by rw [List.length_set]; exact hc, fun _ => ⟨gg, 0, rfl, hbx.lt, fun i hi => ?_⟩⟩
  rw [List.length_set] at hi
  have hsz : ∀ j, j < l.length * 2 → j < cur.size := fun j hj => by
    have h1 := hcur j hj
    rw [List.getElem?_eq_getElem (by rw [prow_len]; exact hj)] at h1
    exact (Array.getElem?_eq_some_iff.1 h1).1
  rw [Nat.zero_add, hbx.cell, hbx.cell, nthP_set]
  have p1 := prow_at l i hi
  by_cases e : k = i
  · subst e
    rw [if_pos ⟨rfl, hi⟩]
    constructor
    · rw [Array.getElem?_setIfInBounds_ne (by omega), Array.getElem?_setIfInBounds_self_of_lt (hsz _ (by omega))]
    · rw [Array.getElem?_setIfInBounds_self_of_lt (by rw [Array.size_setIfInBounds]; exact hsz _ (by omega))]
  · rw [if_neg (by omega)]
    constructor
    · rw [Array.getElem?_setIfInBounds_ne (by omega), Array.getElem?_setIfInBounds_ne (by omega), hcur _ (by omega), p1.1]
    · rw [Array.getElem?_setIfInBounds_ne (by omega), Array.getElem?_setIfInBounds_ne (by omega), hcur _ (by omega), p1.2]

/-- spans that are none -/
def zrow (n : Nat) : Array Value := madeCells (Value.agg #[.int .i64 0, .int .i64 0]).cells (n * 2)
theorem zrow_at (n j : Nat) (h : j < n * 2) : (zrow n)[j]? = some (.int .i64 0) := by
  unfold zrow madeCells
  have hc : (Value.agg #[.int .i64 0, .int .i64 0]).cells = #[.int .i64 0, .int .i64 0] := rfl
  rw [hc]
  rcases Nat.mod_two_eq_zero_or_one j with e | e <;> simp [h, e]
set_option maxRecDepth 100000 in
theorem mkPairs (w : World) (n : Nat) (hn : n ≤ 10000) : (Instr.makeSlice 22 (.int .i64 (n : Int)) (.int .i64 (n : Int))).run Try.prog w = .ok (.slice (some ⟨w.heap.size, 0, none⟩) n n) (w.alloc (.cells (zrow n) 49)) := by
  obtain ⟨i0, hi, hz0, hz1, hz2⟩ : ∃ i, Try.prog.info? 49 = some i ∧ i.zero = some (.agg #[.int .i64 0, .int .i64 0]) ∧ i.size = 2 ∧ i.bytes = 16 := ⟨_, rfl, rfl, rfl, rfl⟩
  have hr := run_make (P := Try.prog) w 22 49 i0 (.agg #[.int .i64 0, .int .i64 0]) Try.underlying22 hi hz0 .i64 .i64 n n (by omega) (Int.le_refl _) (by rw [hz2]; omega) (by omega)
  simp only [Int.toNat_natCast] at hr
  rw [hr, hz1]
  rfl
theorem zero_pairs {W : World} {gg n : Nat} (hbx : Box W gg 49 (zrow n)) : Pairs W W.heap.size (.slice (some ⟨gg, 0, none⟩) n n) (List.replicate n (0, 0)) := by
  refine ⟨some ⟨gg, 0, none⟩, n, by rw [List.length_replicate], by rw [List.length_replicate]; exact Nat.le_refl _, fun _ => ⟨gg, 0, rfl, hbx.lt, fun i hi => ?_⟩⟩
  rw [List.length_replicate] at hi
  rw [Nat.zero_add, hbx.cell, hbx.cell, nthP_rep]
  exact ⟨zrow_at n _ (by omega), zrow_at n _ (by omega)⟩

theorem own_span {w : World} {base n c : Nat} {A : Option Addr} {row : List Value} (h : w.ownsRow base 49 2 (.slice A n c) n row) (hn : 0 < n) :
    ∃ gg cur, A = some ⟨gg, 0, none⟩ ∧ base ≤ gg ∧ gg < w.heap.size ∧ n ≤ c ∧ Box w gg 49 cur ∧ ∀ j, j < n * 2 → cur[j]? = row[j]? := by
  have ho := h
  rcases ho.2 with ⟨h1, h2⟩ | ⟨ge, cap, cur, h3, h4, h5, h6, h7, h8, h9⟩
  · have h3 : n = 0 := h2
    omega
  · cases h3
    have hb : Box w ge 49 cur := h5
    refine ⟨ge, cur, rfl, h4, hb.lt, h6, hb, fun j hj => ?_⟩
    rw [← hb.cell j]
    exact ho.cellAt _ (by omega)
/-- the wider task that a law makes -/
theorem wide_ok {t : Tk} {k : Nat} {bl bh q1 q2 : Int} (h : stE t = 0) (hk : k < t.need.length) (h1 : 0 ≤ bl) (h1' : bl ≤ 9223372036854775807) (h2 : 0 ≤ bh) (h3 : bh ≤ 100000)
    (e1 : (if 0 < IntKind.i64.wrap ((nthP t.need k).1 - bl) then IntKind.i64.wrap ((nthP t.need k).1 - bl) else 0) = q1) (e2 : (if IntKind.i64.wrap ((nthP t.need k).2 + bh) < 100000 then IntKind.i64.wrap ((nthP t.need k).2 + bh) else 100000) = q2) :
    stE (wideOf t k (q1, q2)) = 0 ∧ fwV (wideOf t k (q1, q2)) ≤ fwV t ∧ doesE (wideOf t k (q1, q2)) (plR t) = 0 := by
  obtain ⟨a1, a2, a3, a4, a5, a6, a7, a8⟩ := task_parts (stE_zero h).1
  have hp := okP_bd a8 hk
  rw [wrap_id (by omega) (by omega)] at e1 e2
  refine wider_fewest (t := t) (u := wideOf t k (q1, q2)) rfl (by simp [wideOf]) h fun i hi => ?_
  have hpi := okP_bd a8 hi
  show 0 ≤ (nthP (t.need.set k (q1, q2)) i).1 ∧ (nthP (t.need.set k (q1, q2)) i).1 ≤ _ ∧ _ ≤ (nthP (t.need.set k (q1, q2)) i).2 ∧ (nthP (t.need.set k (q1, q2)) i).2 ≤ 100000
  rw [nthP_set]
  by_cases e : k = i
  · subst e
    rw [if_pos ⟨rfl, hi⟩]
    dsimp only
    split at e1 <;> split at e2 <;> omega
  · rw [if_neg (by omega)]
    omega

end Go.Proofs.Ytfhbpeafapabhaa

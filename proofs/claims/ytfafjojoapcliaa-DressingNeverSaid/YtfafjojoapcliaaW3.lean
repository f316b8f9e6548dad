/- Arguments as they came in: lists of numbers, tasks; what the statements' cards share. -/
import Derived.Test.YtfafjojoapcliaaW0q
import Derived.Test.YtfafjojoapcliaaQ0
import Derived.Deep.SlicePairs
import Derived.Deep.DeepHandedRow
import Derived.Deep.DeepWitnessRowRef
import Derived.WideKeyArgs
import Derived.HandedShaped
namespace Go.Proofs.Ytfafjojoapcliaa
open Go.ChangeShapes Go.WideShapes Go.ChangeAt Go.RowKit

theorem cellsI : Try.prog.cellsOf 3 = 1 := by kernel_rfl
theorem cell_lt {w : World} {a : Addr} {v : Value} (h : w.cell? a = some v) : a.block < w.heap.size := by
  rcases Nat.lt_or_ge a.block w.heap.size with hl | hl
  · exact hl
  · unfold World.cell? at h
    rw [Array.getElem?_eq_none hl] at h; cases h

set_option maxRecDepth 100000 in
/-- a slice of ints, as it came in -/
theorem open_nums {H : Type} {enc : TypeId × Value → H} {W : World} {fuel : Nat} {v : Value} {x : DataW H × List MemPlace} (h : DataW.trod enc Try.prog W 0 (fun _ => true) true fuel 30 [v] = some x)
    (hsz : (x.1.weights Try.prog 30).all (· ≤ reachBytes) = true) : ∃ l, Ints W W.heap.size v l := by
  rcases open_ints Try.underlying30 Try.underlying3 cellsI h with ⟨h1, -⟩ | ⟨a, len, cap, zs, h1, hb, hlc, hcm, hlen, hx, hc, hw⟩
  · cases h1
    exact ⟨[], by simp, none, 0, rfl, Nat.le_refl _, fun h => by simp at h⟩
  · cases h1
    simp only [if_true] at hlen
    have hbytes : Try.prog.bytesOf 3 = 8 := by kernel_rfl
    rw [hx] at hsz
    simp only [DataW.weights, Try.underlying30, List.all_cons, Bool.and_eq_true, decide_eq_true_iff] at hsz
    obtain ⟨hsz, -⟩ := hsz
    have hl2 : (lits (H := H) .i64 (zs.take len)).length + (lits (H := H) .i64 (zs.drop len)).length = zs.length := by
      simp only [lits, List.length_map, List.length_take, List.length_drop]; omega
    rw [hl2, hbytes] at hsz
    unfold reachBytes at hsz
    have htl : (zs.take len).length = len := by rw [List.length_take]; omega
    obtain ⟨b, off, spot⟩ := a
    refine ⟨zs.take len, by rw [htl]; omega, some ⟨b, off, spot⟩, cap, by rw [htl], by rw [htl]; exact hlc, fun hp => ?_⟩
    rw [htl] at hp
    have h0 := hc 0 (by omega)
    have hspot : spot = none := by simpa [Addr.add] using World.cell?_spot h0
    subst hspot
    refine ⟨b, off, rfl, by simpa [Addr.add] using cell_lt h0, fun k hk => ?_⟩
    rw [htl] at hk
    have h1 := hc k (by omega)
    have e : nth (zs.take len) k = zs.getD k 0 := by
      unfold nth
      rw [List.getD_eq_getElem?_getD, List.getD_eq_getElem?_getD, List.getElem?_take_of_lt hk]
    have e2 : (⟨b, off, none⟩ : Addr).add k = ⟨b, off + k, none⟩ := by rcases k with _ | k <;> simp [Addr.add]
    rw [e, ← e2]
    exact h1

set_option maxRecDepth 100000 in
/-- the same of an argument -/
theorem open_list {H : Type} {enc : TypeId × Value → H} {W : World} {base : Nat} {v : Value} {d : DataW H} {p : List MemPlace} (hv : Value.okWide Try.prog W .any base 30 v) (h : DataW.Trod enc Try.prog W 0 (fun _ => true) true 30 v d p)
    (hsz : (d.weights Try.prog 30).all (· ≤ reachBytes) = true) : ∃ l, Ints W W.heap.size v l := by
  obtain ⟨a, len, cap, rfl⟩ := okWide_slice Try.underlying30 hv
  obtain ⟨fuel, h'⟩ := h
  exact open_nums (x := (d, p)) h' hsz

/-- the number in a value -/
def numOf : Value → Int
  | .int _ z => z
  | _ => 0
set_option maxRecDepth 100000 in
/-- a slice of spans, as it came in -/
theorem open_spans {H : Type} {enc : TypeId × Value → H} {W : World} {fuel : Nat} {v : Value} {x : DataW H × List MemPlace} (h : DataW.trod enc Try.prog W 0 (fun _ => true) true fuel 22 [v] = some x) :
    ∃ l, Pairs W W.heap.size v l := by
  rcases Deep.open_slice_pairs Try.underlying22 Try.underlying49 (by kernel_rfl) rfl rfl cellsI cellsI h with ⟨h1, -⟩ | ⟨a, len, cap, m, n, V0, V1, D0, D1, P0, P1, h1, hb, hlc, hcm, hm, hx, hc⟩
  · cases h1
    exact ⟨[], none, 0, rfl, Nat.le_refl _, fun h => by simp at h⟩
  · cases h1
    simp only [if_true] at hm
    obtain ⟨b, off, spot⟩ := a
    refine ⟨(List.range len).map fun i => (numOf (V0 i), numOf (V1 i)), some ⟨b, off, spot⟩, cap, by simp, by simpa using hlc, fun hp => ?_⟩
    simp only [List.length_map, List.length_range] at hp
    have h0 := (hc 0 (by omega)).1
    have hspot : spot = none := by simpa [Addr.add] using World.cell?_spot h0
    subst hspot
    refine ⟨b, off, rfl, by simpa [Addr.add] using cell_lt h0, fun k hk => ?_⟩
    simp only [List.length_map, List.length_range] at hk
    obtain ⟨c0, c1, t0, t1⟩ := hc k (by omega)
    obtain ⟨n0, e0, -, -⟩ := DataW.trod_int Try.underlying3 t0
    obtain ⟨n1, e1, -, -⟩ := DataW.trod_int Try.underlying3 t1
    have e2 : ∀ j, (⟨b, off, none⟩ : Addr).add j = ⟨b, off + j, none⟩ := fun j => by rcases j with _ | j <;> simp [Addr.add]
    rw [e2] at c0 c1
    simp only [List.cons.injEq, and_true] at e0 e1
    have e3 : nthP ((List.range len).map fun i => (numOf (V0 i), numOf (V1 i))) k = (numOf (V0 k), numOf (V1 k)) := by
      unfold nthP
      rw [List.getD_eq_getElem?_getD, List.getElem?_map, List.getElem?_range hk]; rfl
    rw [← Nat.add_assoc] at c1
    rw [e3, c0, c1, e0, e1]
    exact ⟨rfl, rfl⟩

set_option maxRecDepth 100000 in
/-- a task, as it came in -/
theorem open_task {H : Type} {enc : TypeId × Value → H} {W : World} {base : Nat} {v : Value} {d : DataW H} {p : List MemPlace} (hv : Value.okWide Try.prog W .any base 24 v) (h : DataW.Trod enc Try.prog W 0 (fun _ => true) true 24 v d p) :
    ∃ t, IsTask W W.heap.size v t := by
  obtain ⟨v0, v1, y0, y1, n, rfl, rfl, rfl, h0, h1⟩ := Joins.open_agg2 Try.underlying24 (by kernel_rfl) (by kernel_rfl) hv h
  obtain ⟨n0, e0, -, -⟩ := DataW.trod_int Try.underlying3 h0
  cases e0
  obtain ⟨l, hl⟩ := open_spans h1
  exact ⟨⟨n0, l⟩, v1, rfl, hl⟩

end Go.Proofs.Ytfafjojoapcliaa

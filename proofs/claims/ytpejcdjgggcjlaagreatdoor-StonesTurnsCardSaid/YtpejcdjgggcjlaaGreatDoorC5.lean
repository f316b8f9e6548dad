/- A map from cells to numbers, as a plain function. -/
import Derived.Test.YtpejcdjgggcjlaaGreatDoorBase
import Derived.DeepKeys4
import Derived.Maps.OwnSet
import Derived.Maps.Views
namespace Go.Proofs.YtpejcdjgggcjlaaGreatDoor
open Go.RowKit Go.Maps

/-- a cell as a value -/
def cellV (x : Int × Int) : Value := .agg #[.int .i64 x.1, .int .i64 x.2]
/-- a number fits an int -/
def Fit64 (n : Int) : Prop := (Lit.int .i64 n).wf = true
/-- a cell as a key -/
def keyL (x : Int × Int) : Lit := .string (keyBytes [.int .i64 x.1, .int .i64 x.2])
theorem Tryz.laidOut : laidOutB Tryz.prog = true := by kernel_rfl
theorem Tryz.rowCell : (26 : TypeId) < Tryz.prog.types.size := of_decide_eq_true (by kernel_rfl)
theorem Tryz.wideCell : (match Tryz.prog.underlying 26 with | some (.array _ _) | some (.struct _) => true | _ => false) = true := by kernel_rfl
theorem Tryz.keyTypeCell : Tryz.prog.keyTypeAt 3 26 = true := by kernel_rfl
set_option maxRecDepth 100000 in
theorem Tryz.keyedCell : Keyed Tryz.prog 26 := Keyed.of_law (deep_law_laid Tryz.laidOut (m := 3) (by omega) Tryz.rowCell Tryz.keyTypeCell Tryz.wideCell)
theorem Tryz.zeroInt (w : World) : (zeroValue 3).run Tryz.prog w = .ok (.int .i64 0) w := by kernel_rfl
set_option maxRecDepth 100000 in
theorem keyOf_cell {x : Int × Int} (h1 : Fit64 x.1) (h2 : Fit64 x.2) : keyOf Tryz.prog 26 (cellV x) = some (keyL x) := by
  unfold Fit64 at h1 h2
  obtain ⟨a, b⟩ := x
  have hk : Tryz.prog.keyType 26 = true := by kernel_rfl
  have hc : Tryz.prog.cellsOf 26 = 2 := by kernel_rfl
  have hc1 : Tryz.prog.cellsOf 3 = 1 := by kernel_rfl
  have hn : ∀ n, 0 < n → n + 1 = (n - 1) + 1 + 1 := fun n h => by omega
  have hsz : 0 < Tryz.prog.types.size := Nat.lt_of_le_of_lt (Nat.zero_le _) Tryz.rowCell
  unfold keyOf cellV keyL
  rw [hn _ hsz, Tryz.underlying26]
  generalize Tryz.prog.types.size - 1 = d
  have e1 : Tryz.prog.keyLits (d + 1 + 1) 26 [.int .i64 a, .int .i64 b] = some [.int .i64 a, .int .i64 b] := by
    have h3 : (Lit.int IntKind.i64 a).wf = true := h1
    have h4 : (Lit.int IntKind.i64 b).wf = true := h2
    simp [Program.keyLits, Tryz.underlying26, Tryz.underlying3, hc, hc1, h3, h4]
  have e2 : (Value.agg #[.int .i64 a, .int .i64 b]).formed Tryz.prog 26 = true := by simp [Value.formed, Tryz.underlying26, hc]
  have e3 : (Value.agg #[.int .i64 a, .int .i64 b]).cells.toList = [.int .i64 a, .int .i64 b] := rfl
  rw [hk, e2, e3, e1]
  rfl

theorem keyL_inj {x y : Int × Int} (hx : Fit64 x.1 ∧ Fit64 x.2) (hy : Fit64 y.1 ∧ Fit64 y.2) (h : keyL x = keyL y) : x = y := by
  have h1 := keyOf_cell hx.1 hx.2
  have h2 := keyOf_cell hy.1 hy.2
  rw [← h] at h2
  have h3 := Tryz.keyedCell.inj h1 h2
  obtain ⟨a, b⟩ := x
  obtain ⟨c, d⟩ := y
  unfold cellV at h3
  simpa using h3
theorem keyL_key (x : Int × Int) : WideAt.IsKeyLit (keyL x) := trivial

/-- a map from cells to numbers, as a plain function; it has at most n entries -/
def NumMap (w : World) (b n : Nat) (m : Int × Int → Option Int) : Prop :=
  ∃ D : DataW Unit, w.ownsMap Tryz.prog 26 (plainElem Tryz.prog 3) b n D ∧ IsMap D ∧
    ∀ x, Fit64 x.1 ∧ Fit64 x.2 → has D (keyL x) = (m x).isSome ∧ D.atKey (keyL x) (.lit (.int .i64 0)) = .lit (.int .i64 ((m x).getD 0))
section
variable {w w' : World} {b n : Nat} {m : Int × Int → Option Int}
theorem NumMap.made (w : World) : NumMap (w.alloc (.map #[] 0)) w.heap.size 0 (fun _ => none) :=
  ⟨.map [], World.ownsMap_made _ _ _ _, isMap_empty, fun _ _ => ⟨rfl, rfl⟩⟩
theorem NumMap.lt (h : NumMap w b n m) : b < w.heap.size := by obtain ⟨D, h1, _⟩ := h; exact h1.lt
theorem NumMap.kept {row : Option Nat} (h : NumMap w b n m) (hg : w.grownBy w' row) (hne : some b ≠ row) : NumMap w' b n m := by
  obtain ⟨D, h1, h2, h3⟩ := h
  exact ⟨D, h1.kept hg hne, h2, h3⟩
theorem NumMap.later (h : NumMap w b n m) (hb : Below w.heap.size w w') : NumMap w' b n m :=
  h.kept (row := none) ⟨hb.os, hb.tape, hb.output, hb.size, fun i hi _ => hb.block i hi⟩ (by simp)
theorem NumMap.below {B : Nat} (h : NumMap w b n m) (hb : Below B w w') (hB : b < B) : NumMap w' b n m := by
  obtain ⟨D, ⟨es, clock, h1, h4⟩, h2, h3⟩ := h
  exact ⟨D, ⟨es, clock, (hb.block b hB).trans h1, h4⟩, h2, h3⟩
theorem NumMap.mono (h : NumMap w b n m) {n' : Nat} (hn : n ≤ n') : NumMap w b n' m := by
  obtain ⟨D, h1, h2, h3⟩ := h
  exact ⟨D, h1.mono hn, h2, h3⟩
/-- v, ok := m[c] -/
theorem NumMap.look (h : NumMap w b n m) {x : Int × Int} (hx : Fit64 x.1 ∧ Fit64 x.2) :
    (Instr.lookup 92 (.map (some b)) (cellV x) true).run Tryz.prog w = .ok (.tuple #[.int .i64 ((m x).getD 0), .bool (m x).isSome]) w := by
  obtain ⟨D, h1, h2, h3⟩ := h
  obtain ⟨e1, e2⟩ := h3 x hx
  obtain ⟨v, ps, hrun, hv⟩ := h1.look_ok Tryz.keyedCell Tryz.underlying92 (Tryz.zeroInt w) (plainElem_int Tryz.underlying3 (by decide)) (keyOf_cell hx.1 hx.2)
  rw [e2] at hv
  obtain ⟨c, rfl, hc, _⟩ := plainElem_int_inv Tryz.underlying3 hv
  simp only [Prod.mk.injEq, DataW.lit.injEq, Lit.int.injEq, true_and] at hc
  rw [hrun, e1, hc.1]
/-- m[c] -/
theorem NumMap.look1 (h : NumMap w b n m) {x : Int × Int} (hx : Fit64 x.1 ∧ Fit64 x.2) :
    (Instr.lookup 92 (.map (some b)) (cellV x) false).run Tryz.prog w = .ok (.int .i64 ((m x).getD 0)) w := by
  obtain ⟨D, h1, h2, h3⟩ := h
  obtain ⟨e1, e2⟩ := h3 x hx
  obtain ⟨c, hrun, hat, _⟩ := h1.lookup_int Tryz.keyedCell Tryz.underlying92 Tryz.underlying3 (Tryz.zeroInt w) (keyOf_cell hx.1 hx.2)
  rw [e2] at hat
  simp only [DataW.lit.injEq, Lit.int.injEq, true_and] at hat
  rw [hrun, hat]
/-- m[c] = v -/
theorem NumMap.update (h : NumMap w b n m) (hn : n < maxLen) {x : Int × Int} (hx : Fit64 x.1 ∧ Fit64 x.2) {v : Int} (hv : Fit64 v) :
    ∃ w', (Instr.mapUpdate 92 (.map (some b)) (cellV x) (.int .i64 v)).run Tryz.prog w = .ok () w' ∧ NumMap w' b (n + 1) (fun y => if y = x then some v else m y) ∧ w.grownBy w' (some b) := by
  obtain ⟨D, h1, h2, h3⟩ := h
  obtain ⟨w', hrun, hown, hg⟩ := h1.update Tryz.keyedCell Tryz.underlying92 hn (keyOf_cell hx.1 hx.2) (plainElem_int Tryz.underlying3 hv)
  refine ⟨w', hrun, ⟨_, hown, h2.put _ _, fun y hy => ?_⟩, hg⟩
  by_cases e : y = x
  · subst e
    rw [has_put_same h2 (keyL_key _), atKey_put_same h2 (keyL_key _)]
    simp
  · have hne : keyL y ≠ keyL x := fun h => e (keyL_inj hy hx h)
    rw [has_put_other hne, atKey_put_other hne]
    simpa only [if_neg e] using h3 y hy
end

end Go.Proofs.YtpejcdjgggcjlaaGreatDoor

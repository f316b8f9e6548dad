/- A graph that is being built: edges appended one by one. -/
import Derived.Test.YtfafjojoapcliaaR0
import Derived.Test.YtfafjojoapcliaaQ3b
import Derived.Deep.AppendLies
import Derived.Deep.RegionLaw
namespace Go.Proofs.Ytfafjojoapcliaa
open Go.RowKit

def egCells (x : Eg) : List Value := [.int .i64 x.fr, .int .i64 x.to, .int .i64 x.more, .int .i64 x.cell, .bool x.high]
def egRow (es : List Eg) : List Value := es.flatMap egCells
theorem egCells_len (x : Eg) : (egCells x).length = 5 := rfl
theorem egRow_len (es : List Eg) : (egRow es).length = es.length * 5 := by
  induction es with
  | nil => rfl
  | cons x es ih => rw [egRow, List.flatMap_cons, List.length_append, egCells_len]; change _ + (egRow es).length = _; rw [ih, List.length_cons]; omega
theorem egRow_app (a b : List Eg) : egRow (a ++ b) = egRow a ++ egRow b := by unfold egRow; rw [List.flatMap_append]
theorem egRow_one (x : Eg) : egRow [x] = egCells x := by simp [egRow]
theorem egRow_at (es : List Eg) (k j : Nat) (hk : k < es.length) (hj : j < 5) : (egRow es)[k * 5 + j]? = (egCells (egAt es k))[j]? := by
  induction es generalizing k with
  | nil => simp at hk
  | cons x es ih =>
    have e : egRow (x :: es) = egCells x ++ egRow es := by simp [egRow]
    rw [e]
    cases k with
    | zero => rw [List.getElem?_append_left (by rw [egCells_len]; omega)]; simp [egAt]
    | succ k =>
      rw [List.getElem?_append_right (by rw [egCells_len]; omega), egCells_len, show (k + 1) * 5 + j - 5 = k * 5 + j by omega, ih k (by simpa using hk)]
      simp [egAt]
theorem eg_one (x : Eg) : ∀ u ∈ egCells x, u.oneCell' = true := by
  intro u hu
  simp [egCells] at hu
  rcases hu with rfl | rfl | rfl | rfl | rfl <;> rfl

/-- a graph in memory: its edges in a slice of its own, two rows of its own -/
structure Gb (w : World) (g gl gb N : Nat) (lv : Value) (es : List Eg) (L B : List Int) : Prop where
  b0 : Box w g 65 #[lv, .slice (some ⟨gl, 0, none⟩) N N, .slice (some ⟨gb, 0, none⟩) N N]
  own : w.ownsRow (g + 1) 101 5 lv es.length (egRow es)
  rl : Row w gl L
  rb : Row w gb B
  lenL : L.length = N
  lenB : B.length = N
  lt : gl < g ∧ gb < g ∧ gl ≠ gb
section
variable {w w' : World} {g gl gb N : Nat} {lv : Value} {es : List Eg} {L B : List Int}
theorem Gb.later (h : Gb w g gl gb N lv es L B) (hb : Below w.heap.size w w') : Gb w' g gl gb N lv es L B :=
  ⟨h.b0.later hb, own_later h.own hb, h.rl.later hb, h.rb.later hb, h.lenL, h.lenB, h.lt⟩
theorem Gb.gsize (h : Gb w g gl gb N lv es L B) : g < w.heap.size := h.b0.lt
/-- more edges behind those that are there -/
theorem Gb.more {w7 : World} {o : Obj} {lv' : Value} {xs : List Eg} {m B0 : Nat} {w0 : World} (h : Gb w g gl gb N lv es L B) (hm : xs.length = m)
    (hown : w7.ownsRow (g + 1) 101 5 lv' (es.length + m) (egRow es ++ egRow xs)) (hg : (w.alloc o).grownBy w7 lv.ownBlock) (hbel : Below B0 w0 w) (hB : B0 ≤ g) (hB2 : B0 ≤ w.heap.size) :
    Gb (w7.setCell ⟨g, 0, none⟩ lv') g gl gb N lv' (es ++ xs) L B ∧ Below B0 w0 (w7.setCell ⟨g, 0, none⟩ lv') := by
  have hown' := hown
  have ho6 := h.own.alloc o
  have hne : lv.ownBlock ≠ some g := own_ne ho6
  have hn1 : lv.ownBlock ≠ some gl := fun e => by have := (ho6.lt gl e).1; have := h.lt; omega
  have hn2 : lv.ownBlock ≠ some gb := fun e => by have := (ho6.lt gb e).1; have := h.lt; omega
  have hlt := h.lt
  refine ⟨⟨(((h.b0.alloc o).grown hg hne).put 0 lv'), ?_, ?_, ?_, h.lenL, h.lenB, h.lt⟩, ?_⟩
  · rw [List.length_append, hm, egRow_app]
    exact own_far hown (by simp) _
  · exact Box.far (w := w7) (t := 3) (Box.grown (w := w.alloc o) (t := 3) (Box.alloc (w := w) (t := 3) h.rl o) hg hn1) (by simp; omega) _
  · exact Box.far (w := w7) (t := 3) (Box.grown (w := w.alloc o) (t := 3) (Box.alloc (w := w) (t := 3) h.rb o) hg hn2) (by simp; omega) _
  · exact ((hbel.alloc hB2 o).grown hg (by simp; omega) (fun q e => by have := (ho6.lt q e).1; omega)).setCell hB _
theorem Gb.cell0 {w7 : World} {o : Obj} (h : Gb w g gl gb N lv es L B) (hg : (w.alloc o).grownBy w7 lv.ownBlock) : w7.cell? ⟨g, 0, none⟩ = some lv ∧ w7.frozen? ⟨g, 0, none⟩ = false := by
  have c := (h.b0.alloc o).grown hg (own_ne (h.own.alloc o))
  exact ⟨c.cell 0, c.free 0⟩
/-- the edges can be read -/
theorem Gb.edge (h : Gb w g gl gb N lv es L B) (hp : 0 < es.length) : ∃ ge cap, lv = .slice (some ⟨ge, 0, none⟩) es.length cap ∧ g < ge ∧ ge < w.heap.size ∧ es.length ≤ cap ∧
    ∀ k j, k < es.length → j < 5 → w.cell? ⟨ge, k * 5 + j, none⟩ = (egCells (egAt es k))[j]? := by
  have ho := h.own
  rcases ho.2 with ⟨h1, h2⟩ | ⟨ge, cap, cur, h3, h4, h5, h6, h7, h8, h9⟩
  · have h3 : es.length = 0 := h2
    omega
  · subst h3
    have hl : ge < w.heap.size := Box.lt (w := w) (t := 101) h5
    exact ⟨ge, cap, rfl, h4, hl, h6, fun k j hk hj => by rw [ho.cellAt _ (by omega), egRow_at _ _ _ hk hj]⟩
theorem Gb.setL (h : Gb w g gl gb N lv es L B) (k : Nat) (x : Int) : Gb (w.setCell ⟨gl, k, none⟩ (.int .i64 x)) g gl gb N lv es (L.set k x) B := by
  have hlt := h.lt
  exact ⟨Box.far h.b0 (by simp; omega) _, own_far h.own (by simp; omega) _, h.rl.put k x, Box.far (w := w) (t := 3) h.rb (by simp; omega) _, by rw [List.length_set]; exact h.lenL, h.lenB, h.lt⟩
theorem Gb.setB (h : Gb w g gl gb N lv es L B) (k : Nat) (x : Int) : Gb (w.setCell ⟨gb, k, none⟩ (.int .i64 x)) g gl gb N lv es L (B.set k x) := by
  have hlt := h.lt
  exact ⟨Box.far h.b0 (by simp; omega) _, own_far h.own (by simp; omega) _, Box.far (w := w) (t := 3) h.rl (by simp; omega) _, h.rb.put k x, h.lenL, by rw [List.length_set]; exact h.lenB, h.lt⟩
end

theorem news_cells (w : World) (t : TypeId) (cs : List Value) : ∀ (j : Nat) (u : Value), cs[j]? = some u → (w.alloc (.cells cs.toArray t)).cell? ((⟨w.heap.size, 0, none⟩ : Addr).add j) = some u := fun j u h => by
  have e := Box.made w t cs.toArray
  have e2 : (⟨w.heap.size, 0, none⟩ : Addr).add j = ⟨w.heap.size, j, none⟩ := by rcases j with _ | j <;> simp [Addr.add]
  rw [e2, e.cell j]
  simpa using h

/-- the points rise -/
def riseTo (p : Nat) : List Eg := (List.range (p - 1)).map fun i => ⟨i, i + 1, 0, -1, false⟩
theorem riseTo_len (p : Nat) : (riseTo p).length = p - 1 := by simp [riseTo]
theorem riseTo_snoc (k : Nat) (h : 1 ≤ k) : riseTo (k + 1) = riseTo k ++ [⟨k - 1, k, 0, -1, false⟩] := by
  obtain ⟨m, rfl⟩ : ∃ m, k = m + 1 := ⟨k - 1, by omega⟩
  simp [riseTo, List.range_succ]

set_option maxRecDepth 100000 in
set_option maxHeartbeats 8000000 in
theorem rise_c (w : World) (g gl gb N B0 : Nat) (lv : Value) (es : List Eg) (L B : List Int) (p : Nat) (h : Gb w g gl gb N lv es L B) (hp1 : 1 ≤ p) (hp : p ≤ 500) (hl : es.length ≤ 500) (hB : B0 ≤ g) :
    Calls Try.prog 63 #[.pointer (some ⟨g, 0, none⟩), .int .i64 (p : Int)] w fun e w' => ∃ lv', e = .returned (.tuple #[]) ∧ Gb w' g gl gb N lv' (es ++ riseTo p) L B ∧ Below B0 w w' := by
  have HG := Lib.hid h
  have HP := Lib.hid (show 1 ≤ p ∧ p ≤ 500 ∧ es.length ≤ 500 ∧ B0 ≤ g from ⟨hp1, hp, hl, hB⟩)
  obtain ⟨i0, hi, hz0, hz1, hz2⟩ : ∃ i, Try.prog.info? 101 = some i ∧ i.zero = some (.agg #[.int .i64 0, .int .i64 0, .int .i64 0, .int .i64 0, .bool false]) ∧ i.size = 5 ∧ i.bytes = 40 := ⟨_, rfl, rfl, rfl, rfl⟩
  clear h hp1 hp hl hB
  go_enter Try.func63, Try.ntmps63
  go_wp2_with fail
  go_loopw [4] (fun kv wr => ∃ (k : Nat) (lw : Value), 1 ≤ k ∧ k ≤ p ∧ kv = .int .i64 (k : Int) ∧ Gb wr g gl gb N lw (es ++ riseTo k) L B ∧ Below B0 w wr) (fun kv _ => p - (intOf kv).toNat)
  case atStart => exact ⟨1, lv, Nat.le_refl _, HP.out.1, rfl, by simpa [riseTo] using HG.out, Below.refl _ _⟩
  case round =>
    obtain ⟨k, lw, hk1, hk, rfl, hgb, hbr⟩ := hrel
    by_cases hlt : k < p
    · have hd : decide ((k : Int) < (p : Int)) = true := by simpa using hlt
      have HK := Lib.hid (show 1 ≤ k ∧ k < p ∧ p ≤ 500 from ⟨hk1, hlt, HP.out.2.1⟩)
      have HGB := Lib.hid hgb
      have HBR := Lib.hid hbr
      have q0 : wr.cell? ⟨g, 0, none⟩ = some lw := hgb.b0.cell 0
      have hlen : (es ++ riseTo k).length ≤ 1000 := by rw [List.length_append, riseTo_len]; have := HP.out; omega
      have hk5 : k ≤ 500 := by have := HK.out; omega
      have wk : IntKind.i64.wrap ((k : Int) - 1) = (k : Int) - 1 := wrap_id (by omega) (by omega)
      have hE : egCells ⟨k - 1, k, 0, -1, false⟩ = [.int .i64 ((k : Int) - 1), .int .i64 (k : Int), .int .i64 0, .int .i64 (-1), .bool false] := by unfold egCells; rw [show (((k - 1 : Nat)) : Int) = (k : Int) - 1 by omega]
      have HE := Lib.hid hE
      have hnews := news_cells wr 101 (egCells ⟨k - 1, k, 0, -1, false⟩)
      have h1c := eg_one ⟨k - 1, k, 0, -1, false⟩
      rw [hE] at hnews h1c
      have hk1' : (es ++ riseTo k).length + 1 ≤ maxLen := by unfold maxLen; omega
      have hk2' : ((es ++ riseTo k).length + 1) * 40 ≤ 140737488355328 := by omega
      have hk3' : g + 1 ≤ (wr.alloc (.cells #[.int .i64 ((k : Int) - 1), .int .i64 (k : Int), .int .i64 0, .int .i64 (-1), .bool false] 101)).heap.size := by have := hgb.gsize; simp; omega
      have ho6 := hgb.own.alloc (.cells #[.int .i64 ((k : Int) - 1), .int .i64 (k : Int), .int .i64 0, .int .i64 (-1), .bool false] 101)
      have HS := Lib.hid (show es ++ riseTo (k + 1) = (es ++ riseTo k) ++ [⟨k - 1, k, 0, -1, false⟩] by rw [riseTo_snoc k hk1, List.append_assoc])
      clear hE hgb hbr hk1 hk hlen
      generalize es ++ riseTo k = E at *
      go_wp2_with (first
        | (at_builtin; refine wpList_append_own_at _ rfl _ _ 61 rfl (g + 1) 101 i0 (.agg #[.int .i64 0, .int .i64 0, .int .i64 0, .int .i64 0, .bool false]) 5 40 Try.underlying61 hi hz0 hz1 hz2 rfl (by decide) lw _ _ rfl ho6 ⟨wr.heap.size, 0, none⟩ 1 1 [.int .i64 ((k : Int) - 1), .int .i64 (k : Int), .int .i64 0, .int .i64 (-1), .bool false] rfl rfl hnews h1c hk1' hk2' hk3' ?_; intro v' w7 hown7 hgrow7 _ _; obtain ⟨vA, vc, rfl⟩ := own_shape hown7; obtain ⟨z0, z1⟩ := HGB.out.cell0 hgrow7))
      have hfin := HGB.out.more (xs := [⟨k - 1, k, 0, -1, false⟩]) (B0 := B0) (w0 := w) rfl (by rw [egRow_one, HE.out]; exact hown7) hgrow7 HBR.out HP.out.2.2.2 (by have := HGB.out.gsize; have := HP.out; omega)
      rw [← HS.out] at hfin
      have HF := Lib.hid hfin
      clear hfin
      go_roundw
      case rel => exact ⟨k + 1, _, by omega, by have := HK.out; omega, by go_num, HF.out.1, HF.out.2⟩
      case measure => have := HK.out; simp [intOf]; omega
    · obtain rfl : k = p := by omega
      have hd : decide ((k : Int) < (k : Int)) = false := by simp
      have HGB := Lib.hid hgb
      have HBR := Lib.hid hbr
      clear hgb hbr hk1 hk
      go_wp2_with fail
      refine bodyPost_end (results_none rfl _ _ _) rfl ?_
      exact ⟨lw, rfl, HGB.out, HBR.out⟩

end Go.Proofs.Ytfafjojoapcliaa

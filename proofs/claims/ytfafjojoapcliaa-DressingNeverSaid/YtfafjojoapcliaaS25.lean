/- Prices of nothing, in the specification. Prices that are paid once, in the specification. -/
import Derived.Test.YtfafjojoapcliaaS12
import Derived.Test.YtfafjojoapcliaaS23
set_option linter.all false
namespace Go.Proofs.Ytfafjojoapcliaa
open Go.RowKit

theorem alloc2 (w1 : World) (cs1 cs2 : Array Value) (t1 t2 : TypeId) :
    Box ((w1.alloc (.cells cs1 t1)).alloc (.cells cs2 t2)) w1.heap.size t1 cs1 ∧ Box ((w1.alloc (.cells cs1 t1)).alloc (.cells cs2 t2)) (w1.heap.size + 1) t2 cs2 ∧ Below w1.heap.size w1 ((w1.alloc (.cells cs1 t1)).alloc (.cells cs2 t2)) := by
  have b1 := Box.made w1 t1 cs1
  have b2 := Box.made (w1.alloc (.cells cs1 t1)) t2 cs2
  rw [World.size_alloc] at b2
  exact ⟨b1.alloc _, b2, ((Below.refl _ _).alloc (Nat.le_refl _) _).alloc (by simp) _⟩
theorem box_drew {W : World} {g : Nat} {t : TypeId} {cs : Array Value} (h : Box W g t cs) : Box W.drew g t cs := h
theorem row_drew {W : World} {g : Nat} {l : List Int} (h : Row W g l) : Row W.drew g l := h
/-- two rows that were made behind a box, which then names them -/
theorem none_end (w1 W2 : World) (n rb : Nat) (u v : Value) (i1 i2 : Value) (hr : Box w1 rb 35 #[u, v]) (hW : W2 = ((w1.alloc (.cells (Array.replicate n (Value.int .i64 0)) 3)).alloc (.cells (Array.replicate n (Value.int .i64 0)) 3))) :
    Box ((W2.setCell ⟨rb, 0, none⟩ i1).setCell ⟨rb, 1, none⟩ i2) rb 35 #[i1, i2] ∧ Row ((W2.setCell ⟨rb, 0, none⟩ i1).setCell ⟨rb, 1, none⟩ i2) w1.heap.size (List.replicate n 0) ∧ Row ((W2.setCell ⟨rb, 0, none⟩ i1).setCell ⟨rb, 1, none⟩ i2) (w1.heap.size + 1) (List.replicate n 0) ∧
    Below rb w1 ((W2.setCell ⟨rb, 0, none⟩ i1).setCell ⟨rb, 1, none⟩ i2) := by
  subst hW
  obtain ⟨h1, h2, h3⟩ := alloc2 w1 (Array.replicate n (Value.int .i64 0)) (Array.replicate n (Value.int .i64 0)) 3 3
  have hl := hr.lt
  refine ⟨(((hr.alloc _).alloc _).put 0 i1).put 1 i2, row_rep ((h1.far (p := ⟨rb, 0, none⟩) (by show w1.heap.size ≠ rb; omega) i1).far (p := ⟨rb, 1, none⟩) (by show w1.heap.size ≠ rb; omega) i2), row_rep ((h2.far (p := ⟨rb, 0, none⟩) (by show w1.heap.size + 1 ≠ rb; omega) i1).far (p := ⟨rb, 1, none⟩) (by show w1.heap.size + 1 ≠ rb; omega) i2), ((h3.mono (show rb ≤ w1.heap.size by omega)).setCell (p := ⟨rb, 0, none⟩) (Nat.le_refl _) i1).setCell (p := ⟨rb, 1, none⟩) (Nat.le_refl _) i2⟩
set_option maxRecDepth 100000 in
set_option maxHeartbeats 8000000 in
theorem none1_c (w1 : World) (n tb rb : Nat) (wd A : Value) (A9 : Option Addr) (c9 : Nat) (hA : A = .slice A9 n c9) (u v : Value) (hn : n ≤ 1000) (ht : Box w1 tb 24 #[wd, A]) (hr : Box w1 rb 35 #[u, v]) (Q : Exit → Act → World → Prop) (x0 x3 x4 x5 x6 x7 x8 x9 x10 x11 : Value)
    (hQ : ∀ (g1 g2 : Nat) (y3 y4 y5 y6 y7 y8 y9 y10 y11 : Value) (W : World), Box W rb 35 #[.slice (some ⟨g1, 0, none⟩) n n, .slice (some ⟨g2, 0, none⟩) n n] → Row W g1 (List.replicate n 0) → Row W g2 (List.replicate n 0) → w1.heap.size ≤ g1 → w1.heap.size ≤ g2 → g1 ≠ g2 → Below rb w1 W → Q .normal { tmps := #[x0, .pointer (some ⟨tb, 0, none⟩), .pointer (some ⟨rb, 0, none⟩), y3, y4, y5, y6, y7, y8, y9, y10, y11], defers := [] } W) :
    (Code.region 1 #[{ dst := some 3, op := Op.fieldAddr 24 (Operand.tmp 1) 1, type := 0, pos := "ref.go:178", after := #[], guard := none }, { dst := some 4, op := Op.load 22 (Operand.tmp 3), type := 22, pos := "ref.go:178", after := #[{ on := 0, ground := Ground.data }], guard := none }, { dst := some 5, op := Op.call { callee := Callee.builtin Builtin.len, args := #[Operand.tmp 4], argTypes := #[22] }, type := 3, pos := "ref.go:178", after := #[{ on := 1, ground := Ground.data }], guard := none }, { dst := some 6, op := Op.makeSlice 30 (Operand.tmp 5) (Operand.tmp 5), type := 30, pos := "ref.go:178", after := #[{ on := 2, ground := Ground.data }, { on := 2, ground := Ground.data }], guard := none }, { dst := some 7, op := Op.fieldAddr 24 (Operand.tmp 1) 1, type := 0, pos := "ref.go:178", after := #[], guard := none }, { dst := some 8, op := Op.load 22 (Operand.tmp 7), type := 22, pos := "ref.go:178", after := #[{ on := 4, ground := Ground.data }], guard := none }, { dst := some 9, op := Op.call { callee := Callee.builtin Builtin.len, args := #[Operand.tmp 8], argTypes := #[22] }, type := 3, pos := "ref.go:178", after := #[{ on := 5, ground := Ground.data }], guard := none }, { dst := some 10, op := Op.makeSlice 30 (Operand.tmp 9) (Operand.tmp 9), type := 30, pos := "ref.go:178", after := #[{ on := 6, ground := Ground.data }, { on := 6, ground := Ground.data }], guard := none }, { dst := some 11, op := Op.build 35 #[(0, Operand.tmp 6), (1, Operand.tmp 10)], type := 35, pos := "ref.go:178", after := #[{ on := 3, ground := Ground.data }, { on := 7, ground := Ground.data }], guard := none }, { dst := none, op := Op.store 35 (Operand.tmp 2) (Operand.tmp 11), type := 0, pos := "ref.go:178", after := #[{ on := 8, ground := Ground.data }, { on := 0, ground := Ground.phase }, { on := 1, ground := Ground.phase }, { on := 2, ground := Ground.phase }, { on := 3, ground := Ground.phase }, { on := 4, ground := Ground.phase }, { on := 5, ground := Ground.phase }, { on := 6, ground := Ground.phase }, { on := 7, ground := Ground.phase }, { on := 8, ground := Ground.phase }], guard := none }] true).wp Try.prog Q { tmps := #[x0, .pointer (some ⟨tb, 0, none⟩), .pointer (some ⟨rb, 0, none⟩), x3, x4, x5, x6, x7, x8, x9, x10, x11], defers := [] } w1 := by
  subst hA
  have HQ := Lib.hid hQ
  have hmk : ∀ X : World, (Instr.makeSlice 30 (.int .i64 (n : Int)) (.int .i64 (n : Int))).run Try.prog X = .ok (.slice (some ⟨X.heap.size, 0, none⟩) n n) (X.alloc (.cells (Array.replicate n (Value.int .i64 0)) 3)) := fun X => mkInts X n (by omega)
  have c1 : w1.cell? ⟨tb, 1, none⟩ = some (.slice A9 n c9) := ht.cell 1
  have c2 : ∀ o, (w1.alloc o).cell? ⟨tb, 1, none⟩ = some (.slice A9 n c9) := fun o => (ht.alloc o).cell 1
  have c3 : ∀ o o2, ((w1.alloc o).alloc o2).cell? ⟨rb, 0, none⟩ = some u := fun o o2 => ((hr.alloc o).alloc o2).cell 0
  have c4 : ∀ o o2, ((w1.alloc o).alloc o2).cell? ⟨rb, 1, none⟩ = some v := fun o o2 => ((hr.alloc o).alloc o2).cell 1
  have c5 : ∀ o o2 k, ((w1.alloc o).alloc o2).frozen? ⟨rb, k, none⟩ = false := fun o o2 k => ((hr.alloc o).alloc o2).free k
  have HR := Lib.hid hr
  clear hQ hn ht hr
  refine wp_region_noPanic ?_
  go_region
  all_goals
    refine NoPanic.normal ?_
    clear hmk c1 c2 c3 c4 c5
    first
      | (obtain ⟨h1, h2, h3, h4⟩ := none_end w1 _ n rb u v (.slice (some ⟨w1.heap.size, 0, none⟩) n n) (.slice (some ⟨w1.heap.size + 1, 0, none⟩) n n) HR.out rfl
         exact HQ.out _ _ _ _ _ _ _ _ _ _ _ _ (box_drew h1) (row_drew h2) (row_drew h3) (Nat.le_refl _) (by omega) (by omega) h4.drew)
      | (obtain ⟨h1, h2, h3, h4⟩ := none_end w1 _ n rb u v (.slice (some ⟨w1.heap.size + 1, 0, none⟩) n n) (.slice (some ⟨w1.heap.size, 0, none⟩) n n) HR.out rfl
         exact HQ.out _ _ _ _ _ _ _ _ _ _ _ _ (box_drew h1) (row_drew h3) (row_drew h2) (by omega) (Nat.le_refl _) (by omega) h4.drew)

set_option maxRecDepth 100000 in
set_option maxHeartbeats 8000000 in
theorem none_c (t : Tk) (v : Value) (w : World) (h : IsTask w w.heap.size v t) (hn : t.need.length ≤ 1000) :
    Calls Try.prog 47 #[v] w fun e w' => ∃ g1 g2, e = .returned (.agg #[.slice (some ⟨g1, 0, none⟩) t.need.length t.need.length, .slice (some ⟨g2, 0, none⟩) t.need.length t.need.length]) ∧
      Row w' g1 (List.replicate t.need.length 0) ∧ Row w' g2 (List.replicate t.need.length 0) ∧ w.heap.size ≤ g1 ∧ w.heap.size ≤ g2 ∧ g1 ≠ g2 ∧ Below w.heap.size w w' := by
  obtain ⟨s, rfl, A, c, rfl, hcap, hcell⟩ := h
  clear hcap hcell
  have hn' := Lib.hid hn
  obtain ⟨nl, hnl⟩ : ∃ z, t.need.length = z := ⟨_, rfl⟩
  rw [hnl] at hn' ⊢
  clear hnl hn
  go_enter Try.func47, Try.ntmps47
  go_wp2_with fail
  obtain ⟨W1, hW1⟩ : ∃ Wzz, ((w.alloc (.cells #[.int .i64 t.wide, .slice A nl c] 24)).alloc (.cells #[.slice none 0 0, .slice none 0 0] 35)) = Wzz := ⟨_, rfl⟩
  have HA := Lib.hid (alloc2 w #[.int .i64 t.wide, .slice A nl c] #[.slice none 0 0, .slice none 0 0] 24 35)
  have SZ := Lib.hid (show W1.heap.size = w.heap.size + 2 by rw [← hW1]; simp)
  rw [hW1] at HA ⊢
  clear hW1
  refine none1_c W1 nl w.heap.size (w.heap.size + 1) _ _ A c rfl _ _ hn'.out HA.out.1 HA.out.2.1 _ _ _ _ _ _ _ _ _ _ _ (fun g1 g2 y3 y4 y5 y6 y7 y8 y9 y10 y11 W hx hr1 hr2 hg1 hg2 hne hb => ?_)
  have e0 : W.cell? ⟨w.heap.size + 1, 0, none⟩ = _ := hx.cell 0
  have e1 : W.cell? ⟨w.heap.size + 1, 1, none⟩ = _ := hx.cell 1
  have HF := Lib.hid (show Row W g1 (List.replicate nl 0) ∧ Row W g2 (List.replicate nl 0) ∧ w.heap.size ≤ g1 ∧ w.heap.size ≤ g2 ∧ g1 ≠ g2 ∧ Below w.heap.size w W from ⟨hr1, hr2, by have := SZ.out; omega, by have := SZ.out; omega, hne, HA.out.2.2.trans (hb.mono (Nat.le_succ _))⟩)
  clear hx hr1 hr2 hg1 hg2 hne hb hn'
  go_wp2_with fail
  refine bodyPost_ret (v := .agg #[.slice (some ⟨g1, 0, none⟩) nl nl, .slice (some ⟨g2, 0, none⟩) nl nl]) (by simp [results, Try.results47, go_sem, *]) rfl ?_
  exact ⟨g1, g2, rfl, HF.out⟩


end Go.Proofs.Ytfafjojoapcliaa

set_option linter.all false
namespace Go.Proofs.Ytfafjojoapcliaa
open Go.RowKit

/-- prices in memory, by their rows; what they hold does not matter -/
def Pr (W : World) (g1 g2 n : Nat) : Prop := (∃ l, Row W g1 l ∧ l.length = n) ∧ (∃ l, Row W g2 l ∧ l.length = n) ∧ g1 ≠ g2
theorem Pr.later {W W' : World} {g1 g2 n : Nat} (h : Pr W g1 g2 n) (hb : Below W.heap.size W W') : Pr W' g1 g2 n := by
  obtain ⟨⟨l1, a1, a2⟩, ⟨l2, b1, b2⟩, c⟩ := h
  exact ⟨⟨l1, a1.later hb, a2⟩, ⟨l2, b1.later hb, b2⟩, c⟩
theorem Pr.lt {W : World} {g1 g2 n : Nat} (h : Pr W g1 g2 n) : g1 < W.heap.size ∧ g2 < W.heap.size := by
  obtain ⟨⟨l1, a1, a2⟩, ⟨l2, b1, b2⟩, c⟩ := h
  exact ⟨a1.lt, b1.lt⟩
theorem Pr.put1 {W : World} {g1 g2 n : Nat} (h : Pr W g1 g2 n) (k : Nat) (x : Int) : Pr (W.setCell ⟨g1, k, none⟩ (.int .i64 x)) g1 g2 n := by
  obtain ⟨⟨l1, a1, a2⟩, ⟨l2, b1, b2⟩, c⟩ := h
  exact ⟨⟨_, a1.put k x, by simp [a2]⟩, ⟨l2, b1.far (by show g2 ≠ g1; omega) _, b2⟩, c⟩
theorem Pr.put2 {W : World} {g1 g2 n : Nat} (h : Pr W g1 g2 n) (k : Nat) (x : Int) : Pr (W.setCell ⟨g2, k, none⟩ (.int .i64 x)) g1 g2 n := by
  obtain ⟨⟨l1, a1, a2⟩, ⟨l2, b1, b2⟩, c⟩ := h
  exact ⟨⟨l1, a1.far (by show g1 ≠ g2; omega) _, a2⟩, ⟨_, b1.put k x, by simp [b2]⟩, c⟩
theorem Pr.cells {W : World} {g1 g2 n : Nat} (h : Pr W g1 g2 n) {k : Nat} (hk : k < n) : (∃ z, W.cell? ⟨g1, k, none⟩ = some (.int .i64 z)) ∧ (∃ z, W.cell? ⟨g2, k, none⟩ = some (.int .i64 z)) ∧ (∀ o, W.frozen? ⟨g1, o, none⟩ = false) ∧ ∀ o, W.frozen? ⟨g2, o, none⟩ = false := by
  obtain ⟨⟨l1, a1, a2⟩, ⟨l2, b1, b2⟩, c⟩ := h
  exact ⟨⟨_, a1.cell (by omega)⟩, ⟨_, b1.cell (by omega)⟩, fun o => a1.free o, fun o => b1.free o⟩
theorem Pr.far {W : World} {g1 g2 n : Nat} (h : Pr W g1 g2 n) {p : Addr} (h1 : g1 ≠ p.block) (h2 : g2 ≠ p.block) (u : Value) : Pr (W.setCell p u) g1 g2 n := by
  obtain ⟨⟨l1, a1, a2⟩, ⟨l2, b1, b2⟩, c⟩ := h
  exact ⟨⟨l1, a1.far h1 _, a2⟩, ⟨l2, b1.far h2 _, b2⟩, c⟩
theorem Pr.three {w : World} {g1 g2 n B : Nat} (hp : Pr w g1 g2 n) (h1 : B ≤ g1) (h2 : B ≤ g2) (cs1 cs2 cs3 : Array Value) (t1 t2 t3 : TypeId) :
    Pr (((w.alloc (.cells cs1 t1)).alloc (.cells cs2 t2)).alloc (.cells cs3 t3)) g1 g2 n ∧ Below B w (((w.alloc (.cells cs1 t1)).alloc (.cells cs2 t2)).alloc (.cells cs3 t3)) ∧ B ≤ w.heap.size + 1 + 1 ∧ g1 ≠ w.heap.size + 1 + 1 ∧ g2 ≠ w.heap.size + 1 + 1 := by
  obtain ⟨l1, l2⟩ := hp.lt
  have hb : Below w.heap.size w (((w.alloc (.cells cs1 t1)).alloc (.cells cs2 t2)).alloc (.cells cs3 t3)) := (((Below.refl _ _).alloc (Nat.le_refl _) _).alloc (by simp) _).alloc (by simp; omega) _
  exact ⟨hp.later hb, hb.mono (by omega), by omega, by omega, by omega⟩
/-- boxes that are kept, those of the prices' rows aside -/
def Kp (g1 g2 : Nat) (w W : World) : Prop := ∀ p t cs, Box w p t cs → p ≠ g1 → p ≠ g2 → Box W p t cs
theorem Kp.three {w : World} {g1 g2 : Nat} (o1 o2 o3 : Obj) : Kp g1 g2 w (((w.alloc o1).alloc o2).alloc o3) := fun _ _ _ h _ _ => ((h.alloc _).alloc _).alloc _
theorem Kp.put1 {w W : World} {g1 g2 : Nat} (h : Kp g1 g2 w W) (k : Nat) (u : Value) : Kp g1 g2 w (W.setCell ⟨g1, k, none⟩ u) := fun p t cs hb n1 n2 => (h p t cs hb n1 n2).far (p := ⟨g1, k, none⟩) n1 u
theorem Kp.put2 {w W : World} {g1 g2 : Nat} (h : Kp g1 g2 w W) (k : Nat) (u : Value) : Kp g1 g2 w (W.setCell ⟨g2, k, none⟩ u) := fun p t cs hb n1 n2 => (h p t cs hb n1 n2).far (p := ⟨g2, k, none⟩) n2 u
theorem Kp.new {w W : World} {g1 g2 q : Nat} (h : Kp g1 g2 w W) (hq : w.heap.size ≤ q) (u v : Value) : Kp g1 g2 w ((W.setCell ⟨q, 0, none⟩ u).setCell ⟨q, 1, none⟩ v) := fun p t cs hb n1 n2 => by
  have hl := hb.lt
  exact ((h p t cs hb n1 n2).far (p := ⟨q, 0, none⟩) (by show p ≠ q; omega) u).far (p := ⟨q, 1, none⟩) (by show p ≠ q; omega) v
theorem Pr.end3 {w W : World} {g1 g2 n B p : Nat} (h : Pr W g1 g2 n ∧ Below B w W ∧ B ≤ p ∧ g1 ≠ p ∧ g2 ≠ p) (u v : Value) : Pr ((W.setCell ⟨p, 0, none⟩ u).setCell ⟨p, 1, none⟩ v) g1 g2 n ∧ Below B w ((W.setCell ⟨p, 0, none⟩ u).setCell ⟨p, 1, none⟩ v) := by
  obtain ⟨h1, h2, h3, h4, h5⟩ := h
  exact ⟨(h1.far (p := ⟨p, 0, none⟩) h4 h5 u).far (p := ⟨p, 1, none⟩) h4 h5 v, (h2.setCell (p := ⟨p, 0, none⟩) h3 u).setCell (p := ⟨p, 1, none⟩) h3 v⟩

set_option maxRecDepth 100000 in
set_option maxHeartbeats 8000000 in
theorem paid_c (fz tz more cell : Int) (bz : Bool) (g1 g2 n B : Nat) (w : World) (hx : cell = -1 ∨ ∃ c : Nat, cell = (c : Int) ∧ c < n) (hn : n ≤ 1000) (hp : Pr w g1 g2 n) (h1 : B ≤ g1) (h2 : B ≤ g2) :
    Calls Try.prog 46 #[.agg #[.slice (some ⟨g1, 0, none⟩) n n, .slice (some ⟨g2, 0, none⟩) n n], .agg #[.int .i64 fz, .int .i64 tz, .int .i64 more, .int .i64 cell, .bool bz]] w
      fun e w' => e = .returned (.agg #[.slice (some ⟨g1, 0, none⟩) n n, .slice (some ⟨g2, 0, none⟩) n n]) ∧ Pr w' g1 g2 n ∧ Below B w w' ∧ Kp g1 g2 w w' := by
  have HP := Lib.hid (⟨hp, h1, h2⟩ : _ ∧ _ ∧ _)
  have hlt := hp.lt
  have HLT := Lib.hid hlt
  clear hp h1 h2 hlt
  rcases hx with rfl | ⟨c, rfl, hc⟩
  · go_enter Try.func46, Try.ntmps46
    go_wp2_with fail
    refine bodyPost_ret (v := .agg #[.slice (some ⟨g1, 0, none⟩) n n, .slice (some ⟨g2, 0, none⟩) n n]) (by simp [results, Try.results46, go_sem, *]) rfl ?_
    exact ⟨rfl, (HP.out.1.three HP.out.2.1 HP.out.2.2 _ _ _ _ _ _).1, (HP.out.1.three HP.out.2.1 HP.out.2.2 _ _ _ _ _ _).2.1, Kp.three _ _ _⟩
  · have HC := Lib.hid hc
    obtain ⟨⟨z1, q1⟩, ⟨z2, q2⟩, q3, q4⟩ := HP.out.1.cells hc
    have i0 : (0 : Int) ≤ (c : Int) := by omega
    have i1 : (c : Int) < (n : Int) := by omega
    have hd : decide ((0 : Int) ≤ (c : Int)) = true := by simp
    have a1 : ∀ o o2 o3, (((w.alloc o).alloc o2).alloc o3).cell? ⟨g1, c, none⟩ = some (.int .i64 z1) := fun o o2 o3 => by rw [World.cell?_alloc_lt _ _ _ (by simp; have := HLT.out; omega), World.cell?_alloc_lt _ _ _ (by simp; have := HLT.out; omega), World.cell?_alloc_lt _ _ _ (by have := HLT.out; exact this.1)]; exact q1
    have a2 : ∀ o o2 o3, (((w.alloc o).alloc o2).alloc o3).cell? ⟨g2, c, none⟩ = some (.int .i64 z2) := fun o o2 o3 => by rw [World.cell?_alloc_lt _ _ _ (by simp; have := HLT.out; omega), World.cell?_alloc_lt _ _ _ (by simp; have := HLT.out; omega), World.cell?_alloc_lt _ _ _ (by have := HLT.out; exact this.2)]; exact q2
    have a3 : ∀ o o2 o3 k, (((w.alloc o).alloc o2).alloc o3).frozen? ⟨g1, k, none⟩ = false := fun o o2 o3 k => by
      obtain ⟨⟨l1, r1, -⟩, -⟩ := HP.out.1
      exact Box.free (w := ((w.alloc o).alloc o2).alloc o3) (t := 3) (((Box.alloc (w := w) (t := 3) r1 o).alloc o2).alloc o3) k
    have a4 : ∀ o o2 o3 k, (((w.alloc o).alloc o2).alloc o3).frozen? ⟨g2, k, none⟩ = false := fun o o2 o3 k => by
      obtain ⟨-, ⟨l1, r1, -⟩, -⟩ := HP.out.1
      exact Box.free (w := ((w.alloc o).alloc o2).alloc o3) (t := 3) (((Box.alloc (w := w) (t := 3) r1 o).alloc o2).alloc o3) k
    obtain ⟨hl1, hl2⟩ := HLT.out
    have d1 : w.heap.size ≠ g1 := by omega
    have d2 : w.heap.size + 1 ≠ g1 := by omega
    have d3 : w.heap.size + 1 + 1 ≠ g1 := by omega
    have d4 : w.heap.size ≠ g2 := by omega
    have d5 : w.heap.size + 1 ≠ g2 := by omega
    have d6 : w.heap.size + 1 + 1 ≠ g2 := by omega
    have d7 : g1 ≠ w.heap.size := by omega
    have d8 : g1 ≠ w.heap.size + 1 := by omega
    have d9 : g1 ≠ w.heap.size + 1 + 1 := by omega
    have d10 : g2 ≠ w.heap.size := by omega
    have d11 : g2 ≠ w.heap.size + 1 := by omega
    have d12 : g2 ≠ w.heap.size + 1 + 1 := by omega
    clear q1 q2 q3 q4 hc hl1 hl2
    cases bz
    · go_enter Try.func46, Try.ntmps46
      go_wp2_with fail
      refine bodyPost_ret (v := .agg #[.slice (some ⟨g1, 0, none⟩) n n, .slice (some ⟨g2, 0, none⟩) n n]) (by simp [results, Try.results46, go_sem, *]) rfl ?_
      have h3 := HP.out.1.three HP.out.2.1 HP.out.2.2 #[.slice (some ⟨g1, 0, none⟩) n n, .slice (some ⟨g2, 0, none⟩) n n] #[.int .i64 fz, .int .i64 tz, .int .i64 more, .int .i64 (c : Int), .bool false] #[.slice none 0 0, .slice none 0 0] 35 82 35
      have h4 := Pr.end3 ⟨h3.1.put2 c (wrap64 (z2 + 1)), h3.2.1.setCell (p := ⟨g2, c, none⟩) HP.out.2.2 (.int .i64 (wrap64 (z2 + 1))), h3.2.2⟩ (.slice (some ⟨g1, 0, none⟩) n n) (.slice (some ⟨g2, 0, none⟩) n n)
      exact ⟨rfl, h4.1, h4.2, ((Kp.three _ _ _).put2 c _).new (by omega) _ _⟩
    · go_enter Try.func46, Try.ntmps46
      go_wp2_with fail
      refine bodyPost_ret (v := .agg #[.slice (some ⟨g1, 0, none⟩) n n, .slice (some ⟨g2, 0, none⟩) n n]) (by simp [results, Try.results46, go_sem, *]) rfl ?_
      have h3 := HP.out.1.three HP.out.2.1 HP.out.2.2 #[.slice (some ⟨g1, 0, none⟩) n n, .slice (some ⟨g2, 0, none⟩) n n] #[.int .i64 fz, .int .i64 tz, .int .i64 more, .int .i64 (c : Int), .bool true] #[.slice none 0 0, .slice none 0 0] 35 82 35
      have h4 := Pr.end3 ⟨h3.1.put1 c (wrap64 (z1 + 1)), h3.2.1.setCell (p := ⟨g1, c, none⟩) HP.out.2.1 (.int .i64 (wrap64 (z1 + 1))), h3.2.2⟩ (.slice (some ⟨g1, 0, none⟩) n n) (.slice (some ⟨g2, 0, none⟩) n n)
      exact ⟨rfl, h4.1, h4.2, ((Kp.three _ _ _).put1 c _).new (by omega) _ _⟩
end Go.Proofs.Ytfafjojoapcliaa

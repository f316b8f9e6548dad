/- Regions that draw, with a store behind all else into what was read. Layer 5: the drawn regions of the specification's Never. -/
import Derived.Test.YtfafjojoapcliaaS25
set_option linter.all false
namespace Go.Proofs.Ytfafjojoapcliaa
open Go.RowKit

section
variable {P : Program} {ops : Array Oper} {Q : Exit → Act → World → Prop} {md : Region.Mode} {S : World → Prop} {z : Nat}

/-- whatever order is picked, and S holds behind each operation but number z -/
def AnyBut (z : Nat) (P : Program) (md : Region.Mode) (ops : Array Oper) (Q : Exit → Act → World → Prop) (S : World → Prop) : Nat → Array Bool → Act → World → Prop
  | 0, l, a, w => Region.ready md ops l = [] ∧ Q .normal a w
  | n + 1, l, a, w => (Region.ready md ops l = [] → Q .normal a w) ∧ ∀ i ∈ Region.ready md ops l, wpOp P ops Q i (fun a' w' => (i ≠ z → S w') ∧ AnyBut z P md ops Q S n (l.setIfInBounds i true) a' w') a w
theorem AnyBut.any : ∀ (n : Nat) (l : Array Bool) (a : Act) (w : World), AnyBut z P md ops Q S n l a w → wpAny P md ops Q n l a w
  | 0, _, _, _, h => h
  | n + 1, _, _, _, h => ⟨h.1, fun i hi => wpOp_mono (fun a' w' q => AnyBut.any n _ a' w' q.2) (h.2 i hi)⟩
/-- what z waits for, and what yields its value in each world that meets S, may be taken first -/
theorem AnyBut.first {i : Nat} {oi : Oper} {v : Value} (hi : ops[i]? = some oi) (hz : ∀ oz, ops[z]? = some oz → ∃ e ∈ oz.after, Region.binds md e = true ∧ e.on = i) (hsel : ∀ (j : Nat) (o : Oper) cs b, ops[j]? = some o → o.op ≠ .select cs b)
    (hQ : ∀ c a w, Q (.panic c) (a.put oi.dst v) w → Q (.panic c) a w) (n : Nat) : ∀ (l : Array Bool) (a : Act) (w : World),
      (∀ j oj, ops[j]? = some oj → j ≠ i → l.getD j true = false → (∀ e ∈ oj.after, Region.binds md e = true → e.on ≠ i) → oi.apart ops oj = true) →
      i ∈ Region.ready md ops l → YieldsIf P ops S oi v a → S w → AnyBut z P md ops Q S n (l.setIfInBounds i true) (a.put oi.dst v) w → AnyBut z P md ops Q S (n + 1) l a w := by
  induction n with
  | zero =>
    intro l a w _ hr hy hS H
    refine ⟨fun e => (by rw [e] at hr; cases hr), fun j hj => ?_⟩
    rcases Nat.decEq j i with hji | rfl
    · have q := ready_mono hj hji
      rw [H.1] at q
      cases q
    · exact hy.wpOp hi hS ⟨fun _ => hS, H⟩
  | succ n ih =>
    intro l a w hfree hr hy hS H
    refine ⟨fun e => (by rw [e] at hr; cases hr), fun j hj => ?_⟩
    rcases Nat.decEq j i with hji | rfl
    case isTrue => exact hy.wpOp hi hS ⟨fun _ => hS, H⟩
    obtain ⟨hun, oj, hoj, hall⟩ := mem_ready.1 hj
    have hnot : ∀ e ∈ oj.after, Region.binds md e = true → e.on ≠ i := by
      intro e he hb heq
      have q1 := hall e he hb
      have q0 := (mem_ready.1 hr).1
      rw [heq] at q1
      rcases Nat.lt_or_ge i l.size with hlt | hge
      · simp [hlt] at q0 q1; rw [q0] at q1; cases q1
      · simp [Array.getElem?_eq_none hge] at q1
    have hjz : j ≠ z := by
      rintro rfl
      obtain ⟨e, he, hb, heq⟩ := hz oj hoj
      exact hnot e he hb heq
    have q2 := wpOp_putIf hoj (hfree j oj hoj hji hun hnot) (fun cs b => hsel i oi cs b hi) (fun cs b => hsel j oj cs b hoj) hQ hy (H.2 j (ready_mono hj hji))
    refine wpOp_mono (fun a' w' q3 => ⟨q3.2.1, ih _ a' w' ?_ (ready_mono hr (Ne.symm hji)) q3.1 (q3.2.1 hjz) ?_⟩) q2
    · intro k ok hk hki hunk hno
      refine hfree k ok hk hki ?_ hno
      rcases Nat.decEq j k with hjk | rfl
      · rw [getD_set_ne true hjk] at hunk; exact hunk
      · exact hun
    · rw [Array.setIfInBounds_comm _ _ hji]
      exact q3.2.2
/-- z waits for i -/
def waits (md : Region.Mode) (ops : Array Oper) (z i : Nat) : Bool := match ops[z]? with
  | none => true
  | some o => o.after.toList.any fun e => Region.binds md e && (e.on == i)
theorem waits_spec {i : Nat} (h : waits md ops z i = true) : ∀ oz, ops[z]? = some oz → ∃ e ∈ oz.after, Region.binds md e = true ∧ e.on = i := by
  intro oz ho
  unfold waits at h
  rw [ho] at h
  obtain ⟨e, he, h⟩ := List.any_eq_true.1 h
  rw [Bool.and_eq_true] at h
  exact ⟨e, Array.mem_toList_iff.1 he, h.1, by simpa using h.2⟩
theorem AnyBut.take {i : Nat} {oi : Oper} {v : Value} {n : Nat} {l : Array Bool} {a : Act} {w : World} (hi : ops[i]? = some oi) (hz : waits md ops z i = true)
    (hs : Region.noSelect ops = true) (hf : Region.free md ops l i = true) (hr : (Region.ready md ops l).contains i = true)
    (hQ : ∀ c a w, Q (.panic c) (a.put oi.dst v) w → Q (.panic c) a w) (hy : YieldsIf P ops S oi v a) (hS : S w)
    (h : AnyBut z P md ops Q S n (l.setIfInBounds i true) (a.put oi.dst v) w) : AnyBut z P md ops Q S (n + 1) l a w :=
  AnyBut.first hi (waits_spec hz) (Region.noSelect_spec hs) hQ n l a w (Region.free_spec hi hf) (by simpa using hr) hy hS h
/-- one operation alone may come up, another one than z -/
theorem AnyBut.one {i : Nat} {o : Oper} {n : Nat} {l : Array Bool} {a : Act} {w : World} (hr : Region.ready md ops l = [i]) (hne : (i == z) = false) (ho : ops[i]? = some o)
    (h : ∀ K' : Act → World → Prop, Shut (∀ a w, S w → (S w → AnyBut z P md ops Q S n (l.setIfInBounds i true) a w) → K' a w) → if Region.wanted o (yielded ops a.tmps) = true then Oper.wp P o a w K' Q else K' (a.put o.dst undef) w) : AnyBut z P md ops Q S (n + 1) l a w :=
  ⟨fun h0 => (by rw [hr] at h0; cases h0), fun j hj => by
    rw [hr] at hj
    obtain rfl := List.mem_singleton.1 hj
    exact wpOp_step ho (fun K' hK => h K' (fun a w hS hW => hK a w ⟨fun _ => hS, hW hS⟩))⟩
/-- z alone may come up -/
theorem AnyBut.last {o : Oper} {n : Nat} {l : Array Bool} {a : Act} {w : World} (hr : Region.ready md ops l = [z]) (ho : ops[z]? = some o)
    (h : ∀ K' : Act → World → Prop, Shut (∀ a w, AnyBut z P md ops Q S n (l.setIfInBounds z true) a w → K' a w) → if Region.wanted o (yielded ops a.tmps) = true then Oper.wp P o a w K' Q else K' (a.put o.dst undef) w) : AnyBut z P md ops Q S (n + 1) l a w :=
  ⟨fun h0 => (by rw [hr] at h0; cases h0), fun j hj => by
    rw [hr] at hj
    obtain rfl := List.mem_singleton.1 hj
    exact wpOp_step ho (fun K' hK => h K' (fun a w hW => hK a w ⟨fun e => absurd rfl e, hW⟩))⟩
theorem AnyBut.done {l : Array Bool} {a : Act} {w : World} (hr : Region.ready md ops l = []) (h : Q .normal a w) : ∀ n, AnyBut z P md ops Q S n l a w
  | 0 => ⟨hr, h⟩
  | _ + 1 => ⟨fun _ => h, by rw [hr]; intro i hi; cases hi⟩
theorem wp_region_but (z : Nat) {id : Nat} {a : Act} {w : World} (hm : P.follows .mixedOrders = true) (hS : S w.drew)
    (h : S w.drew → AnyBut z P .any ops Q S ops.size (Array.replicate ops.size false) a w.drew) : (Code.region id ops true).wp P Q a w :=
  wp_region_any hm (AnyBut.any _ _ _ _ (h hS))
end
end Go.Proofs.Ytfafjojoapcliaa

set_option linter.all false
namespace Go.Proofs.Ytfafjojoapcliaa
open Go.RowKit

set_option maxRecDepth 100000 in
set_option maxHeartbeats 8000000 in
theorem rnever12_c (w1 : World) (tb gb ge a i nb ml cap nl : Nat) (fz tz mz cz : Int) (bz : Bool) (t : Tk) (A : Option Addr) (c : Nat) (HT : IsTask w1 w1.heap.size (.agg #[.int .i64 t.wide, .slice A nl c]) t) (hnl : t.need.length = nl) (htb : Box w1 tb 24 #[.int .i64 t.wide, .slice A nl c]) (k0 : w1.cell? ⟨gb, a, none⟩ = some (.int .i64 (i : Int))) (k1 : w1.cell? ⟨ge, i * 5, none⟩ = some (.int .i64 fz)) (k2 : w1.cell? ⟨ge, i * 5 + 1, none⟩ = some (.int .i64 tz)) (k3 : w1.cell? ⟨ge, i * 5 + 2, none⟩ = some (.int .i64 mz)) (k4 : w1.cell? ⟨ge, i * 5 + 3, none⟩ = some (.int .i64 cz)) (k5 : w1.cell? ⟨ge, i * 5 + 4, none⟩ = some (.bool bz)) (lb : gb < w1.heap.size) (le : ge < w1.heap.size) (hcz : cz = -1 ∨ ∃ c : Nat, cz = (c : Int) ∧ c < nl) (hn : nl ≤ 1000) (i0 : (0 : Int) ≤ (a : Int)) (i1 : (a : Int) < (nb : Int)) (i2 : (0 : Int) ≤ (i : Int)) (i3 : (i : Int) < (ml : Int)) (Q : Exit → Act → World → Prop) (x0 x2 x3 x4 x5 x9 x10 x11 x12 x13 x14 x15 x16 x17 x18 x19 x20 x21 x22 x23 x24 x25 x26 x27 x28 x29 x30 x31 x32 x33 x34 x35 x36 x37 x38 x39 x40 x41 x42 x43 x44 x45 x46 x47 x48 x49 x50 x51 x52 x53 x54 x55 x56 x57 x58 x59 x60 x61 x62 x63 x64 x65 x66 x67 x68 x69 x70 x71 x72 x73 x74 x75 x76 x77 x78 x79 x80 x81 : Value)
    (hQ : ∀ (p g1 g2 : Nat) (y43 y44 y45 y46 y47 y48 y49 y50 y51 y52 : Value) (W : World), Pr W g1 g2 nl → Box W p 35 #[.slice (some ⟨g1, 0, none⟩) nl nl, .slice (some ⟨g2, 0, none⟩) nl nl] → p ≠ g1 → p ≠ g2 → w1.heap.size ≤ g1 → w1.heap.size ≤ g2 → w1.heap.size ≤ p → Below w1.heap.size w1 W → Q .normal { tmps := #[x0, .pointer (some ⟨tb, 0, none⟩), x2, x3, x4, x5, .slice (some ⟨gb, 0, none⟩) nb nb, .int .i64 (a : Int), .slice (some ⟨ge, 0, none⟩) ml cap, x9, .pointer (some ⟨p, 0, none⟩), x11, x12, x13, x14, x15, x16, x17, x18, x19, x20, x21, x22, x23, x24, x25, x26, x27, x28, x29, x30, x31, x32, x33, x34, x35, x36, x37, x38, x39, x40, x41, x42, y43, y44, y45, y46, y47, y48, y49, y50, y51, y52, x53, x54, x55, x56, x57, x58, x59, x60, x61, x62, x63, x64, x65, x66, x67, x68, x69, x70, x71, x72, x73, x74, x75, x76, x77, x78, x79, x80, x81], defers := [] } W) :
    (Code.region 12 #[{ dst := some 43, op := Op.load 24 (Operand.tmp 1), type := 24, pos := "ref.go:245", after := #[], guard := none }, { dst := some 44, op := Op.call { callee := Callee.value (Operand.func 47), args := #[Operand.tmp 43], argTypes := #[24] }, type := 35, pos := "ref.go:245", after := #[{ on := 0, ground := Ground.data }], guard := none }, { dst := some 45, op := Op.move (Operand.tmp 8), type := 79, pos := "ref.go:245", after := #[], guard := none }, { dst := some 46, op := Op.move (Operand.tmp 6), type := 30, pos := "ref.go:245", after := #[], guard := none }, { dst := some 47, op := Op.move (Operand.tmp 7), type := 3, pos := "ref.go:245", after := #[], guard := none }, { dst := some 48, op := Op.indexAddr 30 (Operand.tmp 46) (Operand.tmp 47), type := 0, pos := "ref.go:245", after := #[{ on := 3, ground := Ground.data }, { on := 4, ground := Ground.data }], guard := none }, { dst := some 49, op := Op.load 3 (Operand.tmp 48), type := 3, pos := "ref.go:245", after := #[{ on := 5, ground := Ground.data }], guard := none }, { dst := some 50, op := Op.indexAddr 79 (Operand.tmp 45) (Operand.tmp 49), type := 0, pos := "ref.go:245", after := #[{ on := 2, ground := Ground.data }, { on := 6, ground := Ground.data }], guard := none }, { dst := some 51, op := Op.load 82 (Operand.tmp 50), type := 82, pos := "ref.go:245", after := #[{ on := 7, ground := Ground.data }], guard := none }, { dst := some 52, op := Op.call { callee := Callee.value (Operand.func 46), args := #[Operand.tmp 44, Operand.tmp 51], argTypes := #[35, 82] }, type := 35, pos := "ref.go:245", after := #[{ on := 1, ground := Ground.data }, { on := 8, ground := Ground.data }, { on := 1, ground := Ground.chain }], guard := none }, { dst := some 10, op := Op.alloc 35, type := 0, pos := "ref.go:245", after := #[], guard := none }, { dst := none, op := Op.store 35 (Operand.tmp 10) (Operand.tmp 52), type := 0, pos := "ref.go:245", after := #[{ on := 10, ground := Ground.data }, { on := 9, ground := Ground.data }, { on := 9, ground := Ground.chain }, { on := 0, ground := Ground.phase }, { on := 1, ground := Ground.phase }, { on := 2, ground := Ground.phase }, { on := 3, ground := Ground.phase }, { on := 4, ground := Ground.phase }, { on := 5, ground := Ground.phase }, { on := 6, ground := Ground.phase }, { on := 7, ground := Ground.phase }, { on := 8, ground := Ground.phase }, { on := 9, ground := Ground.phase }, { on := 10, ground := Ground.phase }], guard := none }] true).wp Try.prog Q { tmps := #[x0, .pointer (some ⟨tb, 0, none⟩), x2, x3, x4, x5, .slice (some ⟨gb, 0, none⟩) nb nb, .int .i64 (a : Int), .slice (some ⟨ge, 0, none⟩) ml cap, x9, x10, x11, x12, x13, x14, x15, x16, x17, x18, x19, x20, x21, x22, x23, x24, x25, x26, x27, x28, x29, x30, x31, x32, x33, x34, x35, x36, x37, x38, x39, x40, x41, x42, x43, x44, x45, x46, x47, x48, x49, x50, x51, x52, x53, x54, x55, x56, x57, x58, x59, x60, x61, x62, x63, x64, x65, x66, x67, x68, x69, x70, x71, x72, x73, x74, x75, x76, x77, x78, x79, x80, x81], defers := [] } w1 := by
  have HQ := Lib.hid hQ
  have HN := Lib.hid (⟨hcz, hn⟩ : _ ∧ _)
  have HT0 := Lib.hid HT
  have HNL := Lib.hid hnl
  have lt := htb.lt
  have k10 : w1.cell? ⟨tb, 0, none⟩ = some (.int .i64 t.wide) := htb.cell 0
  have k11 : w1.cell? ⟨tb, 1, none⟩ = some (.slice A nl c) := htb.cell 1
  have hbb : ∀ X Y : World, (fun Wz => Wz.cell? ⟨tb, 0, none⟩ = some (.int .i64 t.wide) ∧ Wz.cell? ⟨tb, 1, none⟩ = some (.slice A nl c) ∧ Wz.cell? ⟨gb, a, none⟩ = some (.int .i64 (i : Int)) ∧ Wz.cell? ⟨ge, i * 5, none⟩ = some (.int .i64 fz) ∧ Wz.cell? ⟨ge, i * 5 + 1, none⟩ = some (.int .i64 tz) ∧ Wz.cell? ⟨ge, i * 5 + 2, none⟩ = some (.int .i64 mz) ∧ Wz.cell? ⟨ge, i * 5 + 3, none⟩ = some (.int .i64 cz) ∧ Wz.cell? ⟨ge, i * 5 + 4, none⟩ = some (.bool bz) ∧ w1.heap.size ≤ Wz.heap.size) X → Below w1.heap.size X Y → (fun Wz => Wz.cell? ⟨tb, 0, none⟩ = some (.int .i64 t.wide) ∧ Wz.cell? ⟨tb, 1, none⟩ = some (.slice A nl c) ∧ Wz.cell? ⟨gb, a, none⟩ = some (.int .i64 (i : Int)) ∧ Wz.cell? ⟨ge, i * 5, none⟩ = some (.int .i64 fz) ∧ Wz.cell? ⟨ge, i * 5 + 1, none⟩ = some (.int .i64 tz) ∧ Wz.cell? ⟨ge, i * 5 + 2, none⟩ = some (.int .i64 mz) ∧ Wz.cell? ⟨ge, i * 5 + 3, none⟩ = some (.int .i64 cz) ∧ Wz.cell? ⟨ge, i * 5 + 4, none⟩ = some (.bool bz) ∧ w1.heap.size ≤ Wz.heap.size) Y := by
    rintro X Y ⟨z0, z1, z2, z3, z4, z5, z6, z7, xs⟩ hb2
    exact ⟨keepd z0 hb2 lt, keepd z1 hb2 lt, keepd z2 hb2 lb, keepd z3 hb2 le, keepd z4 hb2 le, keepd z5 hb2 le, keepd z6 hb2 le, keepd z7 hb2 le, Nat.le_trans xs hb2.size⟩
  have hini : (fun Wz => Wz.cell? ⟨tb, 0, none⟩ = some (.int .i64 t.wide) ∧ Wz.cell? ⟨tb, 1, none⟩ = some (.slice A nl c) ∧ Wz.cell? ⟨gb, a, none⟩ = some (.int .i64 (i : Int)) ∧ Wz.cell? ⟨ge, i * 5, none⟩ = some (.int .i64 fz) ∧ Wz.cell? ⟨ge, i * 5 + 1, none⟩ = some (.int .i64 tz) ∧ Wz.cell? ⟨ge, i * 5 + 2, none⟩ = some (.int .i64 mz) ∧ Wz.cell? ⟨ge, i * 5 + 3, none⟩ = some (.int .i64 cz) ∧ Wz.cell? ⟨ge, i * 5 + 4, none⟩ = some (.bool bz) ∧ w1.heap.size ≤ Wz.heap.size) w1.drew := ⟨k10, k11, k0, k1, k2, k3, k4, k5, Nat.le_refl _⟩
  have Hbb := Lib.hid hbb
  have Hini := Lib.hid hini
  clear hbb hini hQ hcz hn lb le k0 k1 k2 k3 k4 k5 HT hnl htb lt k10 k11
  refine wp_region_noPanic ?_
  refine wp_region_held_drew (S := (fun Wz => Wz.cell? ⟨tb, 0, none⟩ = some (.int .i64 t.wide) ∧ Wz.cell? ⟨tb, 1, none⟩ = some (.slice A nl c) ∧ Wz.cell? ⟨gb, a, none⟩ = some (.int .i64 (i : Int)) ∧ Wz.cell? ⟨ge, i * 5, none⟩ = some (.int .i64 fz) ∧ Wz.cell? ⟨ge, i * 5 + 1, none⟩ = some (.int .i64 tz) ∧ Wz.cell? ⟨ge, i * 5 + 2, none⟩ = some (.int .i64 mz) ∧ Wz.cell? ⟨ge, i * 5 + 3, none⟩ = some (.int .i64 cz) ∧ Wz.cell? ⟨ge, i * 5 + 4, none⟩ = some (.bool bz) ∧ w1.heap.size ≤ Wz.heap.size)) (by kernel_rfl) Hini.out (fun hHeld => ?_)
  obtain ⟨W0, hW0⟩ : ∃ z, w1.drew = z := ⟨_, rfl⟩
  have BL0 := Lib.hid (show Below w1.heap.size w1 W0 by rw [← hW0]; exact (Below.refl _ _).drew)
  rw [hW0] at hHeld ⊢
  clear hW0
  refine wpAnyH_take (i := 0) (oi := { dst := some 43, op := Op.load 24 (Operand.tmp 1), type := 24, pos := "ref.go:245", after := #[], guard := none }) (v := ?vh1) rfl ?hsh1 ?hfh1 ?hrh1 ?hQh1 ?hyh1 (by assumption) ?resth1
  case hsh1 => kernel_rfl
  case hfh1 => kernel_rfl
  case hrh1 => kernel_rfl
  case hQh1 => exact fun _ _ _ h => h
  case hyh1 => (refine Or.inl ⟨by rfl, ?_⟩; intro w hSw; (try dsimp only at hSw); go_simp; try with_reducible rfl)
  try simp only [Act.put, List.setIfInBounds_toArray, List.set_cons_zero, List.set_cons_succ]
  refine wpAnyH_take (i := 2) (oi := { dst := some 45, op := Op.move (Operand.tmp 8), type := 79, pos := "ref.go:245", after := #[], guard := none }) (v := ?vh2) rfl ?hsh2 ?hfh2 ?hrh2 ?hQh2 ?hyh2 (by assumption) ?resth2
  case hsh2 => kernel_rfl
  case hfh2 => kernel_rfl
  case hrh2 => kernel_rfl
  case hQh2 => exact fun _ _ _ h => h
  case hyh2 => (refine Or.inl ⟨by rfl, ?_⟩; intro w hSw; (try dsimp only at hSw); go_simp; try with_reducible rfl)
  try simp only [Act.put, List.setIfInBounds_toArray, List.set_cons_zero, List.set_cons_succ]
  refine wpAnyH_take (i := 3) (oi := { dst := some 46, op := Op.move (Operand.tmp 6), type := 30, pos := "ref.go:245", after := #[], guard := none }) (v := ?vh3) rfl ?hsh3 ?hfh3 ?hrh3 ?hQh3 ?hyh3 (by assumption) ?resth3
  case hsh3 => kernel_rfl
  case hfh3 => kernel_rfl
  case hrh3 => kernel_rfl
  case hQh3 => exact fun _ _ _ h => h
  case hyh3 => (refine Or.inl ⟨by rfl, ?_⟩; intro w hSw; (try dsimp only at hSw); go_simp; try with_reducible rfl)
  try simp only [Act.put, List.setIfInBounds_toArray, List.set_cons_zero, List.set_cons_succ]
  refine wpAnyH_take (i := 4) (oi := { dst := some 47, op := Op.move (Operand.tmp 7), type := 3, pos := "ref.go:245", after := #[], guard := none }) (v := ?vh4) rfl ?hsh4 ?hfh4 ?hrh4 ?hQh4 ?hyh4 (by assumption) ?resth4
  case hsh4 => kernel_rfl
  case hfh4 => kernel_rfl
  case hrh4 => kernel_rfl
  case hQh4 => exact fun _ _ _ h => h
  case hyh4 => (refine Or.inl ⟨by rfl, ?_⟩; intro w hSw; (try dsimp only at hSw); go_simp; try with_reducible rfl)
  try simp only [Act.put, List.setIfInBounds_toArray, List.set_cons_zero, List.set_cons_succ]
  refine wpAnyH_take (i := 5) (oi := { dst := some 48, op := Op.indexAddr 30 (Operand.tmp 46) (Operand.tmp 47), type := 0, pos := "ref.go:245", after := #[{ on := 3, ground := Ground.data }, { on := 4, ground := Ground.data }], guard := none }) (v := ?vh5) rfl ?hsh5 ?hfh5 ?hrh5 ?hQh5 ?hyh5 (by assumption) ?resth5
  case hsh5 => kernel_rfl
  case hfh5 => kernel_rfl
  case hrh5 => kernel_rfl
  case hQh5 => exact fun _ _ _ h => h
  case hyh5 => (refine Or.inl ⟨by rfl, ?_⟩; intro w hSw; (try dsimp only at hSw); go_simp; try with_reducible rfl)
  try simp only [Act.put, List.setIfInBounds_toArray, List.set_cons_zero, List.set_cons_succ]
  refine wpAnyH_take (i := 6) (oi := { dst := some 49, op := Op.load 3 (Operand.tmp 48), type := 3, pos := "ref.go:245", after := #[{ on := 5, ground := Ground.data }], guard := none }) (v := ?vh6) rfl ?hsh6 ?hfh6 ?hrh6 ?hQh6 ?hyh6 (by assumption) ?resth6
  case hsh6 => kernel_rfl
  case hfh6 => kernel_rfl
  case hrh6 => kernel_rfl
  case hQh6 => exact fun _ _ _ h => h
  case hyh6 => (refine Or.inl ⟨by rfl, ?_⟩; intro w hSw; (try dsimp only at hSw); go_simp; try with_reducible rfl)
  try simp only [Act.put, List.setIfInBounds_toArray, List.set_cons_zero, List.set_cons_succ]
  refine wpAnyH_take (i := 7) (oi := { dst := some 50, op := Op.indexAddr 79 (Operand.tmp 45) (Operand.tmp 49), type := 0, pos := "ref.go:245", after := #[{ on := 2, ground := Ground.data }, { on := 6, ground := Ground.data }], guard := none }) (v := ?vh7) rfl ?hsh7 ?hfh7 ?hrh7 ?hQh7 ?hyh7 (by assumption) ?resth7
  case hsh7 => kernel_rfl
  case hfh7 => kernel_rfl
  case hrh7 => kernel_rfl
  case hQh7 => exact fun _ _ _ h => h
  case hyh7 => (refine Or.inl ⟨by rfl, ?_⟩; intro w hSw; (try dsimp only at hSw); go_simp; try with_reducible rfl)
  try simp only [Act.put, List.setIfInBounds_toArray, List.set_cons_zero, List.set_cons_succ]
  refine wpAnyH_take (i := 8) (oi := { dst := some 51, op := Op.load 82 (Operand.tmp 50), type := 82, pos := "ref.go:245", after := #[{ on := 7, ground := Ground.data }], guard := none }) (v := ?vh8) rfl ?hsh8 ?hfh8 ?hrh8 ?hQh8 ?hyh8 (by assumption) ?resth8
  case hsh8 => kernel_rfl
  case hfh8 => kernel_rfl
  case hrh8 => kernel_rfl
  case hQh8 => exact fun _ _ _ h => h
  case hyh8 => (refine Or.inl ⟨by rfl, ?_⟩; intro w hSw; (try dsimp only at hSw); go_simp; try with_reducible rfl)
  try simp only [Act.put, List.setIfInBounds_toArray, List.set_cons_zero, List.set_cons_succ]
  refine wpAnyH_ready (rs := [1, 10]) (by kernel_rfl) (by simp) ?_
  refine AllReadyH.cons (o := _) (by rfl) (fun K hK => ?_) ?_
  · go_simp
    go_at_call 47
    have hcn := none_c t _ W0 (HT0.out.mono BL0.out BL0.out.size) (by rw [HNL.out]; exact HN.out.2)
    rw [HNL.out] at hcn
    refine hcn.mono ?_; rintro e v10 ⟨g1, g2, rfl, r1, r2, l1, l2, ne, hb11⟩
    clear hcn
    have BS15 := Lib.hid BL0.out.size
    have PR12 := Lib.hid (show Pr v10 g1 g2 nl from ⟨⟨_, r1, by simp⟩, ⟨_, r2, by simp⟩, ne⟩)
    have GN13 := Lib.hid (show w1.heap.size ≤ g1 ∧ w1.heap.size ≤ g2 from ⟨Nat.le_trans BS15.out l1, Nat.le_trans BS15.out l2⟩)
    have hbm := hb11.mono BS15.out
    have BL14 := Lib.hid (BL0.out.trans hbm)
    have hHeld9 := Hbb.out _ _ hHeld hbm
    clear r1 r2 l1 l2 ne hbm hb11
    go_wp2_with fail
    refine hK.out _ _ hHeld9 (fun hHeld9x => ?_)
    clear hK K hHeld hHeld9
    have hHeld := hHeld9x
    clear hHeld9x
    try simp only [Act.put, List.setIfInBounds_toArray, List.set_cons_zero, List.set_cons_succ]
    refine wpAnyH_ready (rs := [9, 10]) (by kernel_rfl) (by simp) ?_
    refine AllReadyH.cons (o := _) (by rfl) (fun K hK => ?_) ?_
    · go_simp
      go_at_call 46
      refine (paid_c fz tz mz cz bz g1 g2 nl w1.heap.size v10 HN.out.1 HN.out.2 PR12.out GN13.out.1 GN13.out.2).mono ?_; rintro e v17 ⟨rfl, hpp, hb18, hkp⟩
      have PR19 := Lib.hid hpp
      have BL20 := Lib.hid (BL14.out.trans hb18)
      have hHeld16 := Hbb.out _ _ hHeld hb18
      clear hpp hkp hb18
      go_wp2_with fail
      refine hK.out _ _ hHeld16 (fun hHeld16x => ?_)
      clear hK K hHeld hHeld16
      have hHeld := hHeld16x
      clear hHeld16x
      try simp only [Act.put, List.setIfInBounds_toArray, List.set_cons_zero, List.set_cons_succ]
      refine wpAnyH_ready (rs := [10]) (by kernel_rfl) (by simp) ?_
      refine AllReadyH.cons (o := _) (by rfl) (fun K hK => ?_) AllReadyH.nil
      go_simp
      obtain ⟨W22, hW23⟩ : ∃ z, (v17).alloc (.cells #[.slice none 0 0, .slice none 0 0] 35) = z := ⟨_, rfl⟩
      have hb27 : Below (v17).heap.size v17 W22 := by rw [← hW23]; exact (Below.refl _ _).alloc (Nat.le_refl _) _
      have BX24 := Lib.hid (show Box W22 (v17).heap.size 35 #[.slice none 0 0, .slice none 0 0] by rw [← hW23]; exact Box.made _ _ _)
      have PL26 := Lib.hid BL20.out.size
      have hbm := hb27.mono PL26.out
      have BL25 := Lib.hid (BL20.out.trans hbm)
      have NE29 := Lib.hid (show (v17).heap.size ≠ g1 ∧ (v17).heap.size ≠ g2 by have := PR19.out.lt; omega)
      have PR28 := Lib.hid (PR19.out.later hb27)
      have hHeld21 := Hbb.out _ _ hHeld hbm
      rw [hW23]
      clear hbm hb27 hW23
      refine hK.out _ _ hHeld21 (fun hHeld21x => ?_)
      clear hK K hHeld hHeld21
      have hHeld := hHeld21x
      clear hHeld21x
      try simp only [Act.put, List.setIfInBounds_toArray, List.set_cons_zero, List.set_cons_succ]
      refine wpAnyH_ready (rs := [11]) (by kernel_rfl) (by simp) ?_
      refine AllReadyH.cons (o := _) (by rfl) (fun K hK => ?_) AllReadyH.nil
      have q0 : W22.cell? ⟨(v17).heap.size, 0, none⟩ = some (.slice none 0 0) := BX24.out.cell 0
      have q1 : W22.cell? ⟨(v17).heap.size, 1, none⟩ = some (.slice none 0 0) := BX24.out.cell 1
      have q2 : ∀ o, W22.frozen? ⟨(v17).heap.size, o, none⟩ = false := fun o => BX24.out.free o
      go_simp
      clear q0 q1 q2
      have hb9 := ((Below.refl w1.heap.size W22).setCell (p := ⟨(v17).heap.size, 0, none⟩) (PL26.out) (.slice (some ⟨g1, 0, none⟩) nl nl)).setCell (p := ⟨(v17).heap.size, 1, none⟩) (PL26.out) (.slice (some ⟨g2, 0, none⟩) nl nl)
      have PR31 := Lib.hid ((PR28.out.far (p := ⟨(v17).heap.size, 0, none⟩) (Ne.symm NE29.out.1) (Ne.symm NE29.out.2) (.slice (some ⟨g1, 0, none⟩) nl nl)).far (p := ⟨(v17).heap.size, 1, none⟩) (Ne.symm NE29.out.1) (Ne.symm NE29.out.2) (.slice (some ⟨g2, 0, none⟩) nl nl))
      have BX32 := Lib.hid ((BX24.out.put 0 (.slice (some ⟨g1, 0, none⟩) nl nl)).put 1 (.slice (some ⟨g2, 0, none⟩) nl nl))
      have BL33 := Lib.hid (BL25.out.trans hb9)
      have hHeld30 := Hbb.out _ _ hHeld hb9
      clear hb9
      refine hK.out _ _ hHeld30 (fun hHeld30x => ?_)
      clear hK K hHeld hHeld30
      have hHeld := hHeld30x
      clear hHeld30x
      try simp only [Act.put, List.setIfInBounds_toArray, List.set_cons_zero, List.set_cons_succ]
      refine wpAnyH_done (by kernel_rfl) ?_ _
      refine NoPanic.normal ?_
      exact HQ.out _ _ _ _ _ _ _ _ _ _ _ _ _ _ PR31.out BX32.out NE29.out.1 NE29.out.2 GN13.out.1 GN13.out.2 PL26.out BL33.out
    refine AllReadyH.cons (o := _) (by rfl) (fun K hK => ?_) ?_
    · go_simp
      obtain ⟨W35, hW36⟩ : ∃ z, (v10).alloc (.cells #[.slice none 0 0, .slice none 0 0] 35) = z := ⟨_, rfl⟩
      have hb40 : Below (v10).heap.size v10 W35 := by rw [← hW36]; exact (Below.refl _ _).alloc (Nat.le_refl _) _
      have BX37 := Lib.hid (show Box W35 (v10).heap.size 35 #[.slice none 0 0, .slice none 0 0] by rw [← hW36]; exact Box.made _ _ _)
      have PL39 := Lib.hid BL14.out.size
      have hbm := hb40.mono PL39.out
      have BL38 := Lib.hid (BL14.out.trans hbm)
      have NE42 := Lib.hid (show (v10).heap.size ≠ g1 ∧ (v10).heap.size ≠ g2 by have := PR12.out.lt; omega)
      have PR41 := Lib.hid (PR12.out.later hb40)
      have hHeld34 := Hbb.out _ _ hHeld hbm
      rw [hW36]
      clear hbm hb40 hW36
      refine hK.out _ _ hHeld34 (fun hHeld34x => ?_)
      clear hK K hHeld hHeld34
      have hHeld := hHeld34x
      clear hHeld34x
      try simp only [Act.put, List.setIfInBounds_toArray, List.set_cons_zero, List.set_cons_succ]
      refine wpAnyH_ready (rs := [9]) (by kernel_rfl) (by simp) ?_
      refine AllReadyH.cons (o := _) (by rfl) (fun K hK => ?_) AllReadyH.nil
      go_simp
      go_at_call 46
      refine (paid_c fz tz mz cz bz g1 g2 nl w1.heap.size W35 HN.out.1 HN.out.2 PR41.out GN13.out.1 GN13.out.2).mono ?_; rintro e v44 ⟨rfl, hpp, hb45, hkp⟩
      have PR46 := Lib.hid hpp
      have BL47 := Lib.hid (BL38.out.trans hb45)
      have BX48 := Lib.hid (hkp _ _ _ BX37.out NE42.out.1 NE42.out.2)
      have hHeld43 := Hbb.out _ _ hHeld hb45
      clear hpp hkp hb45
      go_wp2_with fail
      refine hK.out _ _ hHeld43 (fun hHeld43x => ?_)
      clear hK K hHeld hHeld43
      have hHeld := hHeld43x
      clear hHeld43x
      try simp only [Act.put, List.setIfInBounds_toArray, List.set_cons_zero, List.set_cons_succ]
      refine wpAnyH_ready (rs := [11]) (by kernel_rfl) (by simp) ?_
      refine AllReadyH.cons (o := _) (by rfl) (fun K hK => ?_) AllReadyH.nil
      have q0 : v44.cell? ⟨(v10).heap.size, 0, none⟩ = some (.slice none 0 0) := BX48.out.cell 0
      have q1 : v44.cell? ⟨(v10).heap.size, 1, none⟩ = some (.slice none 0 0) := BX48.out.cell 1
      have q2 : ∀ o, v44.frozen? ⟨(v10).heap.size, o, none⟩ = false := fun o => BX48.out.free o
      go_simp
      clear q0 q1 q2
      have hb9 := ((Below.refl w1.heap.size v44).setCell (p := ⟨(v10).heap.size, 0, none⟩) (PL39.out) (.slice (some ⟨g1, 0, none⟩) nl nl)).setCell (p := ⟨(v10).heap.size, 1, none⟩) (PL39.out) (.slice (some ⟨g2, 0, none⟩) nl nl)
      have PR50 := Lib.hid ((PR46.out.far (p := ⟨(v10).heap.size, 0, none⟩) (Ne.symm NE42.out.1) (Ne.symm NE42.out.2) (.slice (some ⟨g1, 0, none⟩) nl nl)).far (p := ⟨(v10).heap.size, 1, none⟩) (Ne.symm NE42.out.1) (Ne.symm NE42.out.2) (.slice (some ⟨g2, 0, none⟩) nl nl))
      have BX51 := Lib.hid ((BX48.out.put 0 (.slice (some ⟨g1, 0, none⟩) nl nl)).put 1 (.slice (some ⟨g2, 0, none⟩) nl nl))
      have BL52 := Lib.hid (BL47.out.trans hb9)
      have hHeld49 := Hbb.out _ _ hHeld hb9
      clear hb9
      refine hK.out _ _ hHeld49 (fun hHeld49x => ?_)
      clear hK K hHeld hHeld49
      have hHeld := hHeld49x
      clear hHeld49x
      try simp only [Act.put, List.setIfInBounds_toArray, List.set_cons_zero, List.set_cons_succ]
      refine wpAnyH_done (by kernel_rfl) ?_ _
      refine NoPanic.normal ?_
      exact HQ.out _ _ _ _ _ _ _ _ _ _ _ _ _ _ PR50.out BX51.out NE42.out.1 NE42.out.2 GN13.out.1 GN13.out.2 PL39.out BL52.out
    exact AllReadyH.nil
  refine AllReadyH.cons (o := _) (by rfl) (fun K hK => ?_) ?_
  · go_simp
    obtain ⟨W54, hW55⟩ : ∃ z, (W0).alloc (.cells #[.slice none 0 0, .slice none 0 0] 35) = z := ⟨_, rfl⟩
    have hb59 : Below (W0).heap.size W0 W54 := by rw [← hW55]; exact (Below.refl _ _).alloc (Nat.le_refl _) _
    have BX56 := Lib.hid (show Box W54 (W0).heap.size 35 #[.slice none 0 0, .slice none 0 0] by rw [← hW55]; exact Box.made _ _ _)
    have PL58 := Lib.hid BL0.out.size
    have hbm := hb59.mono PL58.out
    have BL57 := Lib.hid (BL0.out.trans hbm)
    have hHeld53 := Hbb.out _ _ hHeld hbm
    rw [hW55]
    clear hbm hb59 hW55
    refine hK.out _ _ hHeld53 (fun hHeld53x => ?_)
    clear hK K hHeld hHeld53
    have hHeld := hHeld53x
    clear hHeld53x
    try simp only [Act.put, List.setIfInBounds_toArray, List.set_cons_zero, List.set_cons_succ]
    refine wpAnyH_ready (rs := [1]) (by kernel_rfl) (by simp) ?_
    refine AllReadyH.cons (o := _) (by rfl) (fun K hK => ?_) AllReadyH.nil
    go_simp
    go_at_call 47
    have hcn := none_c t _ W54 (HT0.out.mono BL57.out BL57.out.size) (by rw [HNL.out]; exact HN.out.2)
    rw [HNL.out] at hcn
    refine hcn.mono ?_; rintro e v61 ⟨g1, g2, rfl, r1, r2, l1, l2, ne, hb62⟩
    clear hcn
    have BS66 := Lib.hid BL57.out.size
    have PR63 := Lib.hid (show Pr v61 g1 g2 nl from ⟨⟨_, r1, by simp⟩, ⟨_, r2, by simp⟩, ne⟩)
    have GN64 := Lib.hid (show w1.heap.size ≤ g1 ∧ w1.heap.size ≤ g2 from ⟨Nat.le_trans BS66.out l1, Nat.le_trans BS66.out l2⟩)
    have hbm := hb62.mono BS66.out
    have BL65 := Lib.hid (BL57.out.trans hbm)
    have BX67 := Lib.hid (BX56.out.later hb62)
    have NE68 := Lib.hid (show (W0).heap.size ≠ g1 ∧ (W0).heap.size ≠ g2 by have := BX56.out.lt; omega)
    have hHeld60 := Hbb.out _ _ hHeld hbm
    clear r1 r2 l1 l2 ne hbm hb62
    go_wp2_with fail
    refine hK.out _ _ hHeld60 (fun hHeld60x => ?_)
    clear hK K hHeld hHeld60
    have hHeld := hHeld60x
    clear hHeld60x
    try simp only [Act.put, List.setIfInBounds_toArray, List.set_cons_zero, List.set_cons_succ]
    refine wpAnyH_ready (rs := [9]) (by kernel_rfl) (by simp) ?_
    refine AllReadyH.cons (o := _) (by rfl) (fun K hK => ?_) AllReadyH.nil
    go_simp
    go_at_call 46
    refine (paid_c fz tz mz cz bz g1 g2 nl w1.heap.size v61 HN.out.1 HN.out.2 PR63.out GN64.out.1 GN64.out.2).mono ?_; rintro e v70 ⟨rfl, hpp, hb71, hkp⟩
    have PR72 := Lib.hid hpp
    have BL73 := Lib.hid (BL65.out.trans hb71)
    have BX74 := Lib.hid (hkp _ _ _ BX67.out NE68.out.1 NE68.out.2)
    have hHeld69 := Hbb.out _ _ hHeld hb71
    clear hpp hkp hb71
    go_wp2_with fail
    refine hK.out _ _ hHeld69 (fun hHeld69x => ?_)
    clear hK K hHeld hHeld69
    have hHeld := hHeld69x
    clear hHeld69x
    try simp only [Act.put, List.setIfInBounds_toArray, List.set_cons_zero, List.set_cons_succ]
    refine wpAnyH_ready (rs := [11]) (by kernel_rfl) (by simp) ?_
    refine AllReadyH.cons (o := _) (by rfl) (fun K hK => ?_) AllReadyH.nil
    have q0 : v70.cell? ⟨(W0).heap.size, 0, none⟩ = some (.slice none 0 0) := BX74.out.cell 0
    have q1 : v70.cell? ⟨(W0).heap.size, 1, none⟩ = some (.slice none 0 0) := BX74.out.cell 1
    have q2 : ∀ o, v70.frozen? ⟨(W0).heap.size, o, none⟩ = false := fun o => BX74.out.free o
    go_simp
    clear q0 q1 q2
    have hb9 := ((Below.refl w1.heap.size v70).setCell (p := ⟨(W0).heap.size, 0, none⟩) (PL58.out) (.slice (some ⟨g1, 0, none⟩) nl nl)).setCell (p := ⟨(W0).heap.size, 1, none⟩) (PL58.out) (.slice (some ⟨g2, 0, none⟩) nl nl)
    have PR76 := Lib.hid ((PR72.out.far (p := ⟨(W0).heap.size, 0, none⟩) (Ne.symm NE68.out.1) (Ne.symm NE68.out.2) (.slice (some ⟨g1, 0, none⟩) nl nl)).far (p := ⟨(W0).heap.size, 1, none⟩) (Ne.symm NE68.out.1) (Ne.symm NE68.out.2) (.slice (some ⟨g2, 0, none⟩) nl nl))
    have BX77 := Lib.hid ((BX74.out.put 0 (.slice (some ⟨g1, 0, none⟩) nl nl)).put 1 (.slice (some ⟨g2, 0, none⟩) nl nl))
    have BL78 := Lib.hid (BL73.out.trans hb9)
    have hHeld75 := Hbb.out _ _ hHeld hb9
    clear hb9
    refine hK.out _ _ hHeld75 (fun hHeld75x => ?_)
    clear hK K hHeld hHeld75
    have hHeld := hHeld75x
    clear hHeld75x
    try simp only [Act.put, List.setIfInBounds_toArray, List.set_cons_zero, List.set_cons_succ]
    refine wpAnyH_done (by kernel_rfl) ?_ _
    refine NoPanic.normal ?_
    exact HQ.out _ _ _ _ _ _ _ _ _ _ _ _ _ _ PR76.out BX77.out NE68.out.1 NE68.out.2 GN64.out.1 GN64.out.2 PL58.out BL78.out
  exact AllReadyH.nil

set_option maxRecDepth 100000 in
set_option maxHeartbeats 8000000 in
theorem rnever16_c (w1 : World) (p g1 g2 gb ge a i nb ml cap nl B0 : Nat) (fz tz mz cz : Int) (bz : Bool) (hp : Pr w1 g1 g2 nl) (hx : Box w1 p 35 #[.slice (some ⟨g1, 0, none⟩) nl nl, .slice (some ⟨g2, 0, none⟩) nl nl]) (hp1 : p ≠ g1) (hp2 : p ≠ g2) (hb0 : B0 ≤ w1.heap.size) (hb1 : B0 ≤ g1) (hb2 : B0 ≤ g2) (hb3 : B0 ≤ p) (k0 : w1.cell? ⟨gb, a, none⟩ = some (.int .i64 (i : Int))) (k1 : w1.cell? ⟨ge, i * 5, none⟩ = some (.int .i64 fz)) (k2 : w1.cell? ⟨ge, i * 5 + 1, none⟩ = some (.int .i64 tz)) (k3 : w1.cell? ⟨ge, i * 5 + 2, none⟩ = some (.int .i64 mz)) (k4 : w1.cell? ⟨ge, i * 5 + 3, none⟩ = some (.int .i64 cz)) (k5 : w1.cell? ⟨ge, i * 5 + 4, none⟩ = some (.bool bz)) (lb : gb < B0) (le : ge < B0) (hcz : cz = -1 ∨ ∃ c : Nat, cz = (c : Int) ∧ c < nl) (hn : nl ≤ 1000) (i0 : (0 : Int) ≤ (a : Int)) (i1 : (a : Int) < (nb : Int)) (i2 : (0 : Int) ≤ (i : Int)) (i3 : (i : Int) < (ml : Int)) (Q : Exit → Act → World → Prop) (x0 x1 x2 x3 x4 x5 x7 x9 x12 x13 x14 x15 x16 x17 x18 x19 x20 x21 x22 x23 x24 x25 x26 x27 x28 x29 x30 x31 x32 x33 x34 x35 x36 x37 x38 x39 x40 x41 x42 x43 x44 x45 x46 x47 x48 x49 x50 x51 x52 x53 x54 x55 x56 x57 x58 x59 x60 x61 x62 x63 x64 x65 x66 x67 x68 x69 x70 x71 x72 x73 x74 x75 x76 x77 x78 x79 x80 x81 : Value)
    (hQ : ∀ (y72 y73 y74 y75 y76 y77 y78 y79 y80 : Value) (W : World), Pr W g1 g2 nl → Box W p 35 #[.slice (some ⟨g1, 0, none⟩) nl nl, .slice (some ⟨g2, 0, none⟩) nl nl] → Below B0 w1 W → Q .normal { tmps := #[x0, x1, x2, x3, x4, x5, .slice (some ⟨gb, 0, none⟩) nb nb, x7, .slice (some ⟨ge, 0, none⟩) ml cap, x9, .pointer (some ⟨p, 0, none⟩), .int .i64 (a : Int), x12, x13, x14, x15, x16, x17, x18, x19, x20, x21, x22, x23, x24, x25, x26, x27, x28, x29, x30, x31, x32, x33, x34, x35, x36, x37, x38, x39, x40, x41, x42, x43, x44, x45, x46, x47, x48, x49, x50, x51, x52, x53, x54, x55, x56, x57, x58, x59, x60, x61, x62, x63, x64, x65, x66, x67, x68, x69, x70, x71, y72, y73, y74, y75, y76, y77, y78, y79, y80, x81], defers := [] } W) :
    (Code.region 16 #[{ dst := some 72, op := Op.load 35 (Operand.tmp 10), type := 35, pos := "ref.go:247", after := #[], guard := none }, { dst := some 73, op := Op.move (Operand.tmp 8), type := 79, pos := "ref.go:247", after := #[], guard := none }, { dst := some 74, op := Op.move (Operand.tmp 6), type := 30, pos := "ref.go:247", after := #[], guard := none }, { dst := some 75, op := Op.move (Operand.tmp 11), type := 3, pos := "ref.go:247", after := #[], guard := none }, { dst := some 76, op := Op.indexAddr 30 (Operand.tmp 74) (Operand.tmp 75), type := 0, pos := "ref.go:247", after := #[{ on := 2, ground := Ground.data }, { on := 3, ground := Ground.data }], guard := none }, { dst := some 77, op := Op.load 3 (Operand.tmp 76), type := 3, pos := "ref.go:247", after := #[{ on := 4, ground := Ground.data }], guard := none }, { dst := some 78, op := Op.indexAddr 79 (Operand.tmp 73) (Operand.tmp 77), type := 0, pos := "ref.go:247", after := #[{ on := 1, ground := Ground.data }, { on := 5, ground := Ground.data }], guard := none }, { dst := some 79, op := Op.load 82 (Operand.tmp 78), type := 82, pos := "ref.go:247", after := #[{ on := 6, ground := Ground.data }], guard := none }, { dst := some 80, op := Op.call { callee := Callee.value (Operand.func 46), args := #[Operand.tmp 72, Operand.tmp 79], argTypes := #[35, 82] }, type := 35, pos := "ref.go:247", after := #[{ on := 0, ground := Ground.data }, { on := 7, ground := Ground.data }], guard := none }, { dst := none, op := Op.store 35 (Operand.tmp 10) (Operand.tmp 80), type := 0, pos := "ref.go:247", after := #[{ on := 8, ground := Ground.data }, { on := 8, ground := Ground.chain }, { on := 0, ground := Ground.phase }, { on := 1, ground := Ground.phase }, { on := 2, ground := Ground.phase }, { on := 3, ground := Ground.phase }, { on := 4, ground := Ground.phase }, { on := 5, ground := Ground.phase }, { on := 6, ground := Ground.phase }, { on := 7, ground := Ground.phase }, { on := 8, ground := Ground.phase }], guard := none }] true).wp Try.prog Q { tmps := #[x0, x1, x2, x3, x4, x5, .slice (some ⟨gb, 0, none⟩) nb nb, x7, .slice (some ⟨ge, 0, none⟩) ml cap, x9, .pointer (some ⟨p, 0, none⟩), .int .i64 (a : Int), x12, x13, x14, x15, x16, x17, x18, x19, x20, x21, x22, x23, x24, x25, x26, x27, x28, x29, x30, x31, x32, x33, x34, x35, x36, x37, x38, x39, x40, x41, x42, x43, x44, x45, x46, x47, x48, x49, x50, x51, x52, x53, x54, x55, x56, x57, x58, x59, x60, x61, x62, x63, x64, x65, x66, x67, x68, x69, x70, x71, x72, x73, x74, x75, x76, x77, x78, x79, x80, x81], defers := [] } w1 := by
  have HQ := Lib.hid hQ
  have HN := Lib.hid (⟨hcz, hn⟩ : _ ∧ _)
  have HP0 := Lib.hid (⟨hp, hp1, hp2, hb1, hb2⟩ : Pr w1 g1 g2 nl ∧ p ≠ g1 ∧ p ≠ g2 ∧ B0 ≤ g1 ∧ B0 ≤ g2)
  have HX0 := Lib.hid hx
  have HB3 := Lib.hid hb3
  have HB0 := Lib.hid hb0
  have hbb : ∀ X Y : World, (fun Wz => Wz.cell? ⟨gb, a, none⟩ = some (.int .i64 (i : Int)) ∧ Wz.cell? ⟨ge, i * 5, none⟩ = some (.int .i64 fz) ∧ Wz.cell? ⟨ge, i * 5 + 1, none⟩ = some (.int .i64 tz) ∧ Wz.cell? ⟨ge, i * 5 + 2, none⟩ = some (.int .i64 mz) ∧ Wz.cell? ⟨ge, i * 5 + 3, none⟩ = some (.int .i64 cz) ∧ Wz.cell? ⟨ge, i * 5 + 4, none⟩ = some (.bool bz) ∧ Wz.cell? ⟨p, 0, none⟩ = some (.slice (some ⟨g1, 0, none⟩) nl nl) ∧ Wz.cell? ⟨p, 1, none⟩ = some (.slice (some ⟨g2, 0, none⟩) nl nl) ∧ w1.heap.size ≤ Wz.heap.size) X → Below B0 X Y → Y.cell? ⟨p, 0, none⟩ = some (.slice (some ⟨g1, 0, none⟩) nl nl) → Y.cell? ⟨p, 1, none⟩ = some (.slice (some ⟨g2, 0, none⟩) nl nl) → (fun Wz => Wz.cell? ⟨gb, a, none⟩ = some (.int .i64 (i : Int)) ∧ Wz.cell? ⟨ge, i * 5, none⟩ = some (.int .i64 fz) ∧ Wz.cell? ⟨ge, i * 5 + 1, none⟩ = some (.int .i64 tz) ∧ Wz.cell? ⟨ge, i * 5 + 2, none⟩ = some (.int .i64 mz) ∧ Wz.cell? ⟨ge, i * 5 + 3, none⟩ = some (.int .i64 cz) ∧ Wz.cell? ⟨ge, i * 5 + 4, none⟩ = some (.bool bz) ∧ Wz.cell? ⟨p, 0, none⟩ = some (.slice (some ⟨g1, 0, none⟩) nl nl) ∧ Wz.cell? ⟨p, 1, none⟩ = some (.slice (some ⟨g2, 0, none⟩) nl nl) ∧ w1.heap.size ≤ Wz.heap.size) Y := by
    rintro X Y ⟨z0, z1, z2, z3, z4, z5, z6, z7, xs⟩ hb2 c1 c2
    exact ⟨keepd z0 hb2 lb, keepd z1 hb2 le, keepd z2 hb2 le, keepd z3 hb2 le, keepd z4 hb2 le, keepd z5 hb2 le, c1, c2, Nat.le_trans xs hb2.size⟩
  have hini : (fun Wz => Wz.cell? ⟨gb, a, none⟩ = some (.int .i64 (i : Int)) ∧ Wz.cell? ⟨ge, i * 5, none⟩ = some (.int .i64 fz) ∧ Wz.cell? ⟨ge, i * 5 + 1, none⟩ = some (.int .i64 tz) ∧ Wz.cell? ⟨ge, i * 5 + 2, none⟩ = some (.int .i64 mz) ∧ Wz.cell? ⟨ge, i * 5 + 3, none⟩ = some (.int .i64 cz) ∧ Wz.cell? ⟨ge, i * 5 + 4, none⟩ = some (.bool bz) ∧ Wz.cell? ⟨p, 0, none⟩ = some (.slice (some ⟨g1, 0, none⟩) nl nl) ∧ Wz.cell? ⟨p, 1, none⟩ = some (.slice (some ⟨g2, 0, none⟩) nl nl) ∧ w1.heap.size ≤ Wz.heap.size) w1.drew := ⟨k0, k1, k2, k3, k4, k5, hx.cell 0, hx.cell 1, Nat.le_refl _⟩
  have Hbb := Lib.hid hbb
  have Hini := Lib.hid hini
  clear hbb hini hQ hcz hn lb le k0 k1 k2 k3 k4 k5 hp hx hp1 hp2 hb0 hb1 hb2 hb3
  refine wp_region_noPanic ?_
  refine wp_region_but 9 (S := (fun Wz => Wz.cell? ⟨gb, a, none⟩ = some (.int .i64 (i : Int)) ∧ Wz.cell? ⟨ge, i * 5, none⟩ = some (.int .i64 fz) ∧ Wz.cell? ⟨ge, i * 5 + 1, none⟩ = some (.int .i64 tz) ∧ Wz.cell? ⟨ge, i * 5 + 2, none⟩ = some (.int .i64 mz) ∧ Wz.cell? ⟨ge, i * 5 + 3, none⟩ = some (.int .i64 cz) ∧ Wz.cell? ⟨ge, i * 5 + 4, none⟩ = some (.bool bz) ∧ Wz.cell? ⟨p, 0, none⟩ = some (.slice (some ⟨g1, 0, none⟩) nl nl) ∧ Wz.cell? ⟨p, 1, none⟩ = some (.slice (some ⟨g2, 0, none⟩) nl nl) ∧ w1.heap.size ≤ Wz.heap.size)) (by kernel_rfl) Hini.out (fun hHeld => ?_)
  obtain ⟨W0, hW0⟩ : ∃ z, w1.drew = z := ⟨_, rfl⟩
  have BL0 := Lib.hid (show Below B0 w1 W0 by rw [← hW0]; exact (Below.refl _ _).drew)
  have PR0 := Lib.hid (show Pr W0 g1 g2 nl by rw [← hW0]; exact HP0.out.1)
  have BX0 := Lib.hid (show Box W0 p 35 #[.slice (some ⟨g1, 0, none⟩) nl nl, .slice (some ⟨g2, 0, none⟩) nl nl] by rw [← hW0]; exact HX0.out)
  rw [hW0] at hHeld ⊢
  clear hW0
  refine AnyBut.take (i := 0) (oi := { dst := some 72, op := Op.load 35 (Operand.tmp 10), type := 35, pos := "ref.go:247", after := #[], guard := none }) (v := ?vh79) rfl ?hzh79 ?hsh79 ?hfh79 ?hrh79 ?hQh79 ?hyh79 (by assumption) ?resth79
  case hzh79 => kernel_rfl
  case hsh79 => kernel_rfl
  case hfh79 => kernel_rfl
  case hrh79 => kernel_rfl
  case hQh79 => exact fun _ _ _ h => h
  case hyh79 => (refine Or.inl ⟨by rfl, ?_⟩; intro w hSw; (try dsimp only at hSw); go_simp; try with_reducible rfl)
  try simp only [Act.put, List.setIfInBounds_toArray, List.set_cons_zero, List.set_cons_succ]
  refine AnyBut.take (i := 1) (oi := { dst := some 73, op := Op.move (Operand.tmp 8), type := 79, pos := "ref.go:247", after := #[], guard := none }) (v := ?vh80) rfl ?hzh80 ?hsh80 ?hfh80 ?hrh80 ?hQh80 ?hyh80 (by assumption) ?resth80
  case hzh80 => kernel_rfl
  case hsh80 => kernel_rfl
  case hfh80 => kernel_rfl
  case hrh80 => kernel_rfl
  case hQh80 => exact fun _ _ _ h => h
  case hyh80 => (refine Or.inl ⟨by rfl, ?_⟩; intro w hSw; (try dsimp only at hSw); go_simp; try with_reducible rfl)
  try simp only [Act.put, List.setIfInBounds_toArray, List.set_cons_zero, List.set_cons_succ]
  refine AnyBut.take (i := 2) (oi := { dst := some 74, op := Op.move (Operand.tmp 6), type := 30, pos := "ref.go:247", after := #[], guard := none }) (v := ?vh81) rfl ?hzh81 ?hsh81 ?hfh81 ?hrh81 ?hQh81 ?hyh81 (by assumption) ?resth81
  case hzh81 => kernel_rfl
  case hsh81 => kernel_rfl
  case hfh81 => kernel_rfl
  case hrh81 => kernel_rfl
  case hQh81 => exact fun _ _ _ h => h
  case hyh81 => (refine Or.inl ⟨by rfl, ?_⟩; intro w hSw; (try dsimp only at hSw); go_simp; try with_reducible rfl)
  try simp only [Act.put, List.setIfInBounds_toArray, List.set_cons_zero, List.set_cons_succ]
  refine AnyBut.take (i := 3) (oi := { dst := some 75, op := Op.move (Operand.tmp 11), type := 3, pos := "ref.go:247", after := #[], guard := none }) (v := ?vh82) rfl ?hzh82 ?hsh82 ?hfh82 ?hrh82 ?hQh82 ?hyh82 (by assumption) ?resth82
  case hzh82 => kernel_rfl
  case hsh82 => kernel_rfl
  case hfh82 => kernel_rfl
  case hrh82 => kernel_rfl
  case hQh82 => exact fun _ _ _ h => h
  case hyh82 => (refine Or.inl ⟨by rfl, ?_⟩; intro w hSw; (try dsimp only at hSw); go_simp; try with_reducible rfl)
  try simp only [Act.put, List.setIfInBounds_toArray, List.set_cons_zero, List.set_cons_succ]
  refine AnyBut.take (i := 4) (oi := { dst := some 76, op := Op.indexAddr 30 (Operand.tmp 74) (Operand.tmp 75), type := 0, pos := "ref.go:247", after := #[{ on := 2, ground := Ground.data }, { on := 3, ground := Ground.data }], guard := none }) (v := ?vh83) rfl ?hzh83 ?hsh83 ?hfh83 ?hrh83 ?hQh83 ?hyh83 (by assumption) ?resth83
  case hzh83 => kernel_rfl
  case hsh83 => kernel_rfl
  case hfh83 => kernel_rfl
  case hrh83 => kernel_rfl
  case hQh83 => exact fun _ _ _ h => h
  case hyh83 => (refine Or.inl ⟨by rfl, ?_⟩; intro w hSw; (try dsimp only at hSw); go_simp; try with_reducible rfl)
  try simp only [Act.put, List.setIfInBounds_toArray, List.set_cons_zero, List.set_cons_succ]
  refine AnyBut.take (i := 5) (oi := { dst := some 77, op := Op.load 3 (Operand.tmp 76), type := 3, pos := "ref.go:247", after := #[{ on := 4, ground := Ground.data }], guard := none }) (v := ?vh84) rfl ?hzh84 ?hsh84 ?hfh84 ?hrh84 ?hQh84 ?hyh84 (by assumption) ?resth84
  case hzh84 => kernel_rfl
  case hsh84 => kernel_rfl
  case hfh84 => kernel_rfl
  case hrh84 => kernel_rfl
  case hQh84 => exact fun _ _ _ h => h
  case hyh84 => (refine Or.inl ⟨by rfl, ?_⟩; intro w hSw; (try dsimp only at hSw); go_simp; try with_reducible rfl)
  try simp only [Act.put, List.setIfInBounds_toArray, List.set_cons_zero, List.set_cons_succ]
  refine AnyBut.take (i := 6) (oi := { dst := some 78, op := Op.indexAddr 79 (Operand.tmp 73) (Operand.tmp 77), type := 0, pos := "ref.go:247", after := #[{ on := 1, ground := Ground.data }, { on := 5, ground := Ground.data }], guard := none }) (v := ?vh85) rfl ?hzh85 ?hsh85 ?hfh85 ?hrh85 ?hQh85 ?hyh85 (by assumption) ?resth85
  case hzh85 => kernel_rfl
  case hsh85 => kernel_rfl
  case hfh85 => kernel_rfl
  case hrh85 => kernel_rfl
  case hQh85 => exact fun _ _ _ h => h
  case hyh85 => (refine Or.inl ⟨by rfl, ?_⟩; intro w hSw; (try dsimp only at hSw); go_simp; try with_reducible rfl)
  try simp only [Act.put, List.setIfInBounds_toArray, List.set_cons_zero, List.set_cons_succ]
  refine AnyBut.take (i := 7) (oi := { dst := some 79, op := Op.load 82 (Operand.tmp 78), type := 82, pos := "ref.go:247", after := #[{ on := 6, ground := Ground.data }], guard := none }) (v := ?vh86) rfl ?hzh86 ?hsh86 ?hfh86 ?hrh86 ?hQh86 ?hyh86 (by assumption) ?resth86
  case hzh86 => kernel_rfl
  case hsh86 => kernel_rfl
  case hfh86 => kernel_rfl
  case hrh86 => kernel_rfl
  case hQh86 => exact fun _ _ _ h => h
  case hyh86 => (refine Or.inl ⟨by rfl, ?_⟩; intro w hSw; (try dsimp only at hSw); go_simp; try with_reducible rfl)
  try simp only [Act.put, List.setIfInBounds_toArray, List.set_cons_zero, List.set_cons_succ]
  refine AnyBut.one (i := 8) (o := _) (by kernel_rfl) (by rfl) (by rfl) (fun K hK => ?_)
  go_simp
  go_at_call 46
  refine (paid_c fz tz mz cz bz g1 g2 nl B0 W0 HN.out.1 HN.out.2 PR0.out HP0.out.2.2.2.1 HP0.out.2.2.2.2).mono ?_; rintro e v88 ⟨rfl, hpp, hb89, hkp⟩
  have PR90 := Lib.hid hpp
  have BL91 := Lib.hid (BL0.out.trans hb89)
  have BX92 := Lib.hid (hkp _ _ _ BX0.out HP0.out.2.1 HP0.out.2.2.1)
  have hHeld87 := Hbb.out _ _ hHeld hb89 (BX92.out.cell 0) (BX92.out.cell 1)
  clear hpp hkp hb89
  go_wp2_with fail
  refine hK.out _ _ hHeld87 (fun hHeld87x => ?_)
  clear hK K hHeld hHeld87
  have hHeld := hHeld87x
  clear hHeld87x
  try simp only [Act.put, List.setIfInBounds_toArray, List.set_cons_zero, List.set_cons_succ]
  refine AnyBut.last (o := _) (by kernel_rfl) (by rfl) (fun K hK => ?_)
  have q0 : v88.cell? ⟨p, 0, none⟩ = some (.slice (some ⟨g1, 0, none⟩) nl nl) := BX92.out.cell 0
  have q1 : v88.cell? ⟨p, 1, none⟩ = some (.slice (some ⟨g2, 0, none⟩) nl nl) := BX92.out.cell 1
  have q2 : ∀ o, v88.frozen? ⟨p, o, none⟩ = false := fun o => BX92.out.free o
  go_simp
  clear q0 q1 q2
  have hb9 := ((Below.refl B0 v88).setCell (p := ⟨p, 0, none⟩) (HB3.out) (.slice (some ⟨g1, 0, none⟩) nl nl)).setCell (p := ⟨p, 1, none⟩) (HB3.out) (.slice (some ⟨g2, 0, none⟩) nl nl)
  have PR94 := Lib.hid ((PR90.out.far (p := ⟨p, 0, none⟩) (Ne.symm HP0.out.2.1) (Ne.symm HP0.out.2.2.1) (.slice (some ⟨g1, 0, none⟩) nl nl)).far (p := ⟨p, 1, none⟩) (Ne.symm HP0.out.2.1) (Ne.symm HP0.out.2.2.1) (.slice (some ⟨g2, 0, none⟩) nl nl))
  have BX95 := Lib.hid ((BX92.out.put 0 (.slice (some ⟨g1, 0, none⟩) nl nl)).put 1 (.slice (some ⟨g2, 0, none⟩) nl nl))
  have BL96 := Lib.hid (BL91.out.trans hb9)
  clear hb9
  refine hK.out _ _ ?_
  clear hK K hHeld
  try simp only [Act.put, List.setIfInBounds_toArray, List.set_cons_zero, List.set_cons_succ]
  refine AnyBut.done (by kernel_rfl) ?_ _
  refine NoPanic.normal ?_
  exact HQ.out _ _ _ _ _ _ _ _ _ _ PR94.out BX95.out BL96.out

end Go.Proofs.Ytfafjojoapcliaa

/- Layer 7: lowest terms of a product, as the specification has them. -/
import Derived.Test.YtmmfmanjajefcaaLC
import Derived.OneCell
set_option linter.all false
namespace Go.Proofs.Ytmmfmanjajefcaa
open Go.RowKit

/-- two lists of the call's own, which are being worked on -/
structure OB (W : World) (b1 b2 g1 g2 c1 c2 n m : Nat) (ns ds : List Nat) : Prop where
  r1 : W.ownsRow b1 3 1 (.slice (some ⟨g1, 0, none⟩) n c1) n (ints (nats ns))
  r2 : W.ownsRow b2 3 1 (.slice (some ⟨g2, 0, none⟩) m c2) m (ints (nats ds))
  l1 : ns.length = n
  l2 : ds.length = m
  d : g1 ≠ g2
section
variable {W W' : World} {b1 b2 g1 g2 c1 c2 n m : Nat} {ns ds : List Nat}
theorem OB.later (h : OB W b1 b2 g1 g2 c1 c2 n m ns ds) (hb : Below W.heap.size W W') : OB W' b1 b2 g1 g2 c1 c2 n m ns ds :=
  ⟨own_later h.r1 hb, own_later h.r2 hb, h.l1, h.l2, h.d⟩
theorem OB.put1 (h : OB W b1 b2 g1 g2 c1 c2 n m ns ds) (k x : Nat) : OB (W.setCell ⟨g1, k, none⟩ (.int .i64 (x : Int))) b1 b2 g1 g2 c1 c2 n m (ns.set k x) ds := by
  refine ⟨?_, ownsRow_setCell_other h.r2 (fun e => by simp [Value.ownBlock] at e; exact h.d e.symm) _, by simp [h.l1], h.l2, h.d⟩
  have := (h.r1.stored k (.int .i64 (x : Int))).1
  rw [← nats_set, show ints ((nats ns).set k (x : Int)) = (ints (nats ns)).set k (.int .i64 (x : Int)) by unfold ints; rw [List.map_set]]
  exact this
theorem OB.put2 (h : OB W b1 b2 g1 g2 c1 c2 n m ns ds) (k x : Nat) : OB (W.setCell ⟨g2, k, none⟩ (.int .i64 (x : Int))) b1 b2 g1 g2 c1 c2 n m ns (ds.set k x) := by
  refine ⟨ownsRow_setCell_other h.r1 (fun e => by simp [Value.ownBlock] at e; exact h.d e) _, ?_, h.l1, by simp [h.l2], h.d⟩
  have := (h.r2.stored k (.int .i64 (x : Int))).1
  rw [← nats_set, show ints ((nats ds).set k (x : Int)) = (ints (nats ds)).set k (.int .i64 (x : Int)) by unfold ints; rw [List.map_set]]
  exact this
theorem ints_at {l : List Nat} {k : Nat} (h : k < l.length) : (ints (nats l))[k]? = some (.int .i64 ((l[k] : Nat) : Int)) := by
  unfold ints nats
  rw [List.getElem?_map, List.getElem?_map, List.getElem?_eq_getElem h]; rfl
theorem OB.k1 (h : OB W b1 b2 g1 g2 c1 c2 n m ns ds) {k : Nat} (hk : k < ns.length) : W.cell? ⟨g1, k, none⟩ = some (.int .i64 ((ns[k] : Nat) : Int)) :=
  (h.r1.cellAt k (by have := h.l1; omega)).trans (ints_at hk)
theorem OB.k2 (h : OB W b1 b2 g1 g2 c1 c2 n m ns ds) {k : Nat} (hk : k < ds.length) : W.cell? ⟨g2, k, none⟩ = some (.int .i64 ((ds[k] : Nat) : Int)) :=
  (h.r2.cellAt k (by have := h.l2; omega)).trans (ints_at hk)
theorem OB.i1 (h : OB W b1 b2 g1 g2 c1 c2 n m ns ds) (hl : n ≤ 1000) : Ints W W.heap.size (.slice (some ⟨g1, 0, none⟩) n c1) (nats ns) := by
  have h2 : W.ownsRow b1 3 1 (.slice (some ⟨g1, 0, none⟩) n c1) (nats ns).length (ints (nats ns)) := by rw [nats_len, h.l1]; exact h.r1
  exact ints_own h2 (Nat.le_refl _) (by rw [nats_len, h.l1]; omega)
theorem OB.i2 (h : OB W b1 b2 g1 g2 c1 c2 n m ns ds) (hl : m ≤ 1000) : Ints W W.heap.size (.slice (some ⟨g2, 0, none⟩) m c2) (nats ds) := by
  have h2 : W.ownsRow b2 3 1 (.slice (some ⟨g2, 0, none⟩) m c2) (nats ds).length (ints (nats ds)) := by rw [nats_len, h.l2]; exact h.r2
  exact ints_own h2 (Nat.le_refl _) (by rw [nats_len, h.l2]; omega)
end
theorem pos_set {l : List Nat} {i g : Nat} (h : ∀ x ∈ l, 0 < x) (hi : i < l.length) (hg : g ∣ l[i]) : ∀ x ∈ l.set i (l[i] / g), 0 < x := by
  intro x hx
  rcases List.mem_or_eq_of_mem_set hx with hx | rfl
  · exact h x hx
  · have hp := h _ (List.getElem_mem hi)
    exact Nat.div_pos (Nat.le_of_dvd hp hg) (Nat.pos_of_dvd_of_pos hg hp)
theorem he_two {ns ds : List Nat} {N D i j : Nat} (h : CInv N D i j ns ds) (hi : ns.length ≤ i) (hD : 0 < D) :
    (heV ns ≤ 1000000000 ∧ heV ds ≤ 1000000000 → rOf N D = ⟨(heV ns : Nat), (heV ds : Nat), 0⟩) ∧ (1000000000 < heV ns ∨ 1000000000 < heV ds → rOf N D = ⟨0, 0, 2⟩) := by
  obtain ⟨h1, h2⟩ := h.lw hi hD
  have key : ∀ l : List Nat, (heV l ≤ 1000000000 → prodL l ≤ mh ∧ heV l = prodL l) ∧ (1000000000 < heV l → ¬ prodL l ≤ mh) := by
    intro l
    unfold heV mh
    by_cases hc : prodL l ≤ 1000000000
    · rw [if_pos hc]; exact ⟨fun _ => ⟨hc, rfl⟩, fun h => by omega⟩
    · rw [if_neg hc]; exact ⟨fun h => by omega, fun _ => hc⟩
  constructor
  · rintro ⟨a, b⟩
    obtain ⟨a1, a2⟩ := (key ns).1 a
    obtain ⟨b1, b2⟩ := (key ds).1 b
    have hb : lwB N D = true := by rw [h1, decide_eq_true a1, decide_eq_true b1]; rfl
    obtain ⟨e1, e2⟩ := h2 hb
    unfold rOf lwE
    rw [e1, e2, hb, a2, b2]; rfl
  · intro hh
    have hb : lwB N D = false := by
      rw [h1]
      rcases hh with hh | hh
      · rw [decide_eq_false ((key ns).2 hh)]; rfl
      · rw [decide_eq_false ((key ds).2 hh), Bool.and_false]
    obtain ⟨e1, e2, e3⟩ := lw_no hb
    unfold rOf
    rw [e1, e2, e3]; rfl

set_option maxRecDepth 100000 in
set_option maxHeartbeats 8000000 in
theorem low9_c (n m i j x y b1 b2 g1 g2 c1 c2 : Nat) (ns ds : List Nat) (w1 : World) (Q : Exit → Act → World → Prop) (x0 x1 x2 x3 x4 x5 x10 x11 x12 x13 x14 x15 x16 x17 x18 x19 x20 x21 x22 x23 x24 x25 x26 x27 x28 x29 x30 x31 x32 x33 x34 x35 x36 x37 x38 x39 x40 x41 x42 x43 x44 x45 x46 x47 x48 x49 x50 x51 x52 x53 x54 x55 x56 x57 x58 x59 x60 x61 x62 x63 x64 x65 x66 x67 x68 x69 x70 x71 : Value)
    (hi : i < n)
    (hj : j < m)
    (hn : n ≤ 1000 ∧ m ≤ 1000)
    (hx : w1.cell? ⟨g1, i, none⟩ = some (.int .i64 (x : Int)))
    (hy : w1.cell? ⟨g2, j, none⟩ = some (.int .i64 (y : Int)))
    (hbd : x ≤ 9223372036854775807 ∧ y ≤ 9223372036854775807)
    (hQ : ∀ (y30 y31 y32 y33 y34 y35 y36 y37 y38 : Value) (W : World), Below w1.heap.size w1 W → Q .normal { tmps := #[x0, x1, x2, x3, x4, x5, .slice (some ⟨g1, 0, none⟩) n c1, .slice (some ⟨g2, 0, none⟩) m c2, .int .i64 (i : Int), .int .i64 (j : Int), .int .i64 ((x.gcd y : Nat) : Int), x11, x12, x13, x14, x15, x16, x17, x18, x19, x20, x21, x22, x23, x24, x25, x26, x27, x28, x29, y30, y31, y32, y33, y34, y35, y36, y37, y38, x39, x40, x41, x42, x43, x44, x45, x46, x47, x48, x49, x50, x51, x52, x53, x54, x55, x56, x57, x58, x59, x60, x61, x62, x63, x64, x65, x66, x67, x68, x69, x70, x71], defers := [] } W) :
    (Code.region 9 #[{ dst := some 30, op := Op.move (Operand.tmp 6), type := 45, pos := "ref.go:104", after := #[], guard := none }, { dst := some 31, op := Op.move (Operand.tmp 8), type := 3, pos := "ref.go:104", after := #[], guard := none }, { dst := some 32, op := Op.indexAddr 45 (Operand.tmp 30) (Operand.tmp 31), type := 0, pos := "ref.go:104", after := #[{ on := 0, ground := Ground.data }, { on := 1, ground := Ground.data }], guard := none }, { dst := some 33, op := Op.load 3 (Operand.tmp 32), type := 3, pos := "ref.go:104", after := #[{ on := 2, ground := Ground.data }], guard := none }, { dst := some 34, op := Op.move (Operand.tmp 7), type := 45, pos := "ref.go:104", after := #[], guard := none }, { dst := some 35, op := Op.move (Operand.tmp 9), type := 3, pos := "ref.go:104", after := #[], guard := none }, { dst := some 36, op := Op.indexAddr 45 (Operand.tmp 34) (Operand.tmp 35), type := 0, pos := "ref.go:104", after := #[{ on := 4, ground := Ground.data }, { on := 5, ground := Ground.data }], guard := none }, { dst := some 37, op := Op.load 3 (Operand.tmp 36), type := 3, pos := "ref.go:104", after := #[{ on := 6, ground := Ground.data }], guard := none }, { dst := some 38, op := Op.call { callee := Callee.value (Operand.func 60), args := #[Operand.tmp 33, Operand.tmp 37], argTypes := #[3, 3] }, type := 3, pos := "ref.go:104", after := #[{ on := 3, ground := Ground.data }, { on := 7, ground := Ground.data }], guard := none }, { dst := some 10, op := Op.assign (Operand.tmp 38), type := 3, pos := "ref.go:104", after := #[{ on := 8, ground := Ground.data }, { on := 8, ground := Ground.chain }, { on := 0, ground := Ground.phase }, { on := 1, ground := Ground.phase }, { on := 2, ground := Ground.phase }, { on := 3, ground := Ground.phase }, { on := 4, ground := Ground.phase }, { on := 5, ground := Ground.phase }, { on := 6, ground := Ground.phase }, { on := 7, ground := Ground.phase }, { on := 8, ground := Ground.phase }], guard := none }] true).wp Try.prog Q { tmps := #[x0, x1, x2, x3, x4, x5, .slice (some ⟨g1, 0, none⟩) n c1, .slice (some ⟨g2, 0, none⟩) m c2, .int .i64 (i : Int), .int .i64 (j : Int), x10, x11, x12, x13, x14, x15, x16, x17, x18, x19, x20, x21, x22, x23, x24, x25, x26, x27, x28, x29, x30, x31, x32, x33, x34, x35, x36, x37, x38, x39, x40, x41, x42, x43, x44, x45, x46, x47, x48, x49, x50, x51, x52, x53, x54, x55, x56, x57, x58, x59, x60, x61, x62, x63, x64, x65, x66, x67, x68, x69, x70, x71], defers := [] } w1 := by
  have HQ := Lib.hid hQ
  have HG := Lib.hid hbd
  have i0 : (0 : Int) ≤ (i : Int) := by omega
  have i1 : (i : Int) < (n : Int) := by omega
  have j0 : (0 : Int) ≤ (j : Int) := by omega
  have j1 : (j : Int) < (m : Int) := by omega
  have i2 : i ≤ 1000 := by omega
  have j2 : j ≤ 1000 := by omega
  clear hQ hi hj hn hbd
  go_quiet ((go_at_call 60; exact Calls.quiet_of_same (rgcd_q x y _ HG.out.1 HG.out.2)))
  exact HQ.out _ _ _ _ _ _ _ _ _ _ (below_drewN _ _)

set_option maxRecDepth 100000 in
set_option maxHeartbeats 8000000 in
theorem lowest_c (ns ds : List Nat) (va vb : Value) (base1 base2 : Nat) (w : World) (ha : w.ownsRow base1 3 1 va ns.length (ints (nats ns))) (hb : w.ownsRow base2 3 1 vb ds.length (ints (nats ds)))
    (hl : ns.length ≤ 100 ∧ ds.length ≤ 100) (hpn : ∀ x ∈ ns, 0 < x) (hpd : ∀ x ∈ ds, 0 < x) (hbn : ∀ x ∈ ns, x ≤ 9223372036854775807) (hbd : ∀ x ∈ ds, x ≤ 9223372036854775807) (r : Rr) (hr : rOf (prodL ns) (prodL ds) = r) :
    Calls Try.prog 68 #[va, vb] w fun e w' => e = .returned (rrV r) ∧ Below w.heap.size w w' := by
  obtain ⟨n, hn⟩ : ∃ n, ns.length = n := ⟨_, rfl⟩
  obtain ⟨m, hm⟩ : ∃ m, ds.length = m := ⟨_, rfl⟩
  rw [hn] at ha hl
  rw [hm] at hb hl
  have HNM := Lib.hid (And.intro hn hm)
  have HL := Lib.hid hl
  have HP := Lib.hid (And.intro hpn hpd)
  have HBD := Lib.hid (And.intro hbn hbd)
  have HR := Lib.hid hr
  have HD := Lib.hid (prodL_pos hpd)
  have X0 := Lib.hid (Box.made w 23 #[.int .i64 0, .int .i64 0])
  have B0 := Lib.hid (show Below w.heap.size w (w.alloc (.cells #[.int .i64 0, .int .i64 0] 23)) from (Below.refl _ _).alloc (Nat.le_refl _) _)
  have hsz0 : (w.alloc (.cells #[.int .i64 0, .int .i64 0] 23)).heap.size = w.heap.size + 1 := World.size_alloc _ _
  have ho1 := World.ownsRow_made (base := w.heap.size + 1) (e := 3) (size := 1) (w.alloc (.cells #[.int .i64 0, .int .i64 0] 23)) #[] 0 (by rw [hsz0]; exact Nat.le_refl _) (Nat.zero_le _) rfl
  rw [hsz0] at ho1
  have HO1 := Lib.hid ho1
  have HA1 := Lib.hid ((ha.alloc (.cells #[.int .i64 0, .int .i64 0] 23)).alloc (.cells #[] 3))
  have HB1 := Lib.hid hb
  have HBS := Lib.hid (show w.heap.size + 1 ≤ ((w.alloc (.cells #[.int .i64 0, .int .i64 0] 23)).alloc (.cells #[] 3)).heap.size by rw [World.size_alloc, hsz0]; omega)
  have hone : ∀ l : List Nat, ∀ u ∈ ints (nats l), u.oneCell' = true := by intro l u hu; obtain ⟨x, _, rfl⟩ := List.mem_map.1 hu; rfl
  have H1A := Lib.hid (hone ns)
  have H1B := Lib.hid (hone ds)
  obtain ⟨i0, hi, hz0, hz1, hz2⟩ : ∃ i, Try.prog.info? 3 = some i ∧ i.zero = some (.int .i64 0) ∧ i.size = 1 ∧ i.bytes = 8 := ⟨_, rfl, rfl, rfl, rfl⟩
  have L1 : n ≤ 100 := hl.1
  have L2 : m ≤ 100 := hl.2
  have HBB := Lib.hid (show ∀ x, vb.ownBlock = some x → x < w.heap.size from fun x hx => (hb.lt x hx).2)
  clear hsz0 ho1 ha hb hl hpn hpd hbn hbd hr hn hm hone
  go_enter Try.func68, Try.ntmps68
  go_wp2_with (first
    | (at_builtin; refine wpList_copy_own rfl _ _ 45 rfl (w.heap.size + 1) 3 i0 (.int .i64 0) Try.underlying45 hi hz0 hz1 hz2 rfl (w.heap.size + 1) rfl HO1.out base1 n va _ rfl HA1.out H1A.out (by omega) HBS.out ?_; intro g1 c1 w7 hown7 hgrow7 hblk7; have O7 := Lib.hid hown7; have S7 := Lib.hid (show w.heap.size + 1 ≤ g1 ∧ g1 < w7.heap.size from hown7.lt g1 rfl); have X7 := Lib.hid (((X0.out.alloc (.cells #[] 3)).grown hgrow7 (fun e => by injection e with e; omega))); have B7 := Lib.hid ((B0.out.alloc B0.out.size (.cells #[] 3)).grown hgrow7 (by have := HBS.out; omega) (fun q e => by injection e with e; omega)); have K7 := Lib.hid (show (w7.alloc (.cells #[] 3)).ownsRow base2 3 1 vb m (ints (nats ds)) from ((((HB1.out.alloc (.cells #[.int .i64 0, .int .i64 0] 23)).alloc (.cells #[] 3)).kept hgrow7 (by right; intro e; have := HBB.out _ e; omega)).alloc _)); have M7 := Lib.hid (World.ownsRow_made (base := w7.heap.size) (e := 3) (size := 1) w7 #[] 0 (Nat.le_refl _) (Nat.zero_le _) rfl); have BS7 := Lib.hid (show w7.heap.size ≤ (w7.alloc (.cells #[] 3)).heap.size by rw [World.size_alloc]; omega); clear hown7 hgrow7 hblk7)
    | (at_builtin; refine wpList_copy_own rfl _ _ 45 rfl w7.heap.size 3 i0 (.int .i64 0) Try.underlying45 hi hz0 hz1 hz2 rfl w7.heap.size rfl M7.out base2 m vb _ rfl K7.out H1B.out (by omega) BS7.out ?_; intro g2 c2 w8 hown8 hgrow8 hblk8; have OB8 := Lib.hid (show OB w8 (w.heap.size + 1) w7.heap.size g1 g2 c1 c2 n m ns ds from ⟨(O7.out.alloc (.cells #[] 3)).kept hgrow8 (by right; intro e; injection e with e; have := S7.out; dsimp only at e; omega), hown8, HNM.out.1, HNM.out.2, by have := (hown8.lt g2 rfl).1; have := S7.out; omega⟩); have X8 := Lib.hid ((X7.out.alloc (.cells #[] 3)).grown hgrow8 (fun e => by injection e with e; have := S7.out; omega)); have B8 := Lib.hid ((B7.out.alloc B7.out.size (.cells #[] 3)).grown hgrow8 (by rw [World.size_alloc]; have := B7.out.size; omega) (fun q e => by injection e with e; have := B7.out.size; omega)); have G8 := Lib.hid (show w.heap.size < g1 ∧ w.heap.size < g2 by have := (hown8.lt g2 rfl).1; have := S7.out; omega); clear hown8 hgrow8 hblk8))
  have HCI := Lib.hid (CInv.start ns ds HP.out.2)
  obtain ⟨N, hN⟩ : ∃ N, prodL ns = N := ⟨_, rfl⟩
  obtain ⟨D, hD⟩ : ∃ D, prodL ds = D := ⟨_, rfl⟩
  rw [hN, hD] at HCI HR
  rw [hD] at HD
  clear hN hD
  go_loopw [8] (fun iv wq => ∃ (i : Nat) (ns ds : List Nat), i ≤ n ∧ iv = .int .i64 (i : Int) ∧ OB wq (w.heap.size + 1) w7.heap.size g1 g2 c1 c2 n m ns ds ∧ CInv N D i 0 ns ds ∧ ((∀ x ∈ ns, x ≤ 9223372036854775807) ∧ (∀ x ∈ ds, x ≤ 9223372036854775807) ∧ (∀ x ∈ ns, 0 < x)) ∧ Below w.heap.size w wq ∧ Box wq w.heap.size 23 #[.int .i64 0, .int .i64 0]) (fun iv _ => n - (intOf iv).toNat)
  case atStart => exact ⟨0, ns, ds, Nat.zero_le _, rfl, OB8.out, HCI.out, ⟨HBD.out.1, HBD.out.2, HP.out.1⟩, B8.out, X8.out⟩
  case round =>
    clear OB8 HCI HBD B8 X8 HP HNM
    obtain ⟨i, ns, ds, hi', rfl, hP, hci, hbd, hbr, hbx⟩ := hrel
    have HPr := Lib.hid hP
    have HCI := Lib.hid hci
    have HBD := Lib.hid hbd
    have HBr := Lib.hid hbr
    have HXr := Lib.hid hbx
    clear hP hci hbd hbr hbx
    by_cases hlt : i < n
    · have d1 : decide ((i : Int) < (n : Int)) = true := by simpa using hlt
      have d2 : decide (i < n) = true := by simpa using hlt
      go_wp2_with fail
      go_loopw [9] (fun jv wj => ∃ (j : Nat) (ns ds : List Nat), j ≤ m ∧ jv = .int .i64 (j : Int) ∧ OB wj (w.heap.size + 1) w7.heap.size g1 g2 c1 c2 n m ns ds ∧ CInv N D i j ns ds ∧ ((∀ x ∈ ns, x ≤ 9223372036854775807) ∧ (∀ x ∈ ds, x ≤ 9223372036854775807) ∧ (∀ x ∈ ns, 0 < x)) ∧ Below w.heap.size w wj ∧ Box wj w.heap.size 23 #[.int .i64 0, .int .i64 0]) (fun jv _ => m - (intOf jv).toNat)
      case atStart => exact ⟨0, ns, ds, Nat.zero_le _, rfl, HPr.out, HCI.out, HBD.out, HBr.out, HXr.out⟩
      case round =>
        clear HPr HCI HBr HXr HBD
        obtain ⟨j, ns, ds, hj, rfl, hP, hci, hbd, hbr, hbx⟩ := hrel
        have HPr := Lib.hid hP
        have HCI := Lib.hid hci
        have HBD := Lib.hid hbd
        have HBr := Lib.hid hbr
        have HXr := Lib.hid hbx
        clear hP hci hbd hbr hbx
        by_cases hjt : j < m
        · have e1 : decide ((j : Int) < (m : Int)) = true := by simpa using hjt
          have e2 : decide (j < m) = true := by simpa using hjt
          have hin : i < ns.length := by rw [HPr.out.l1]; exact hlt
          have hjn : j < ds.length := by rw [HPr.out.l2]; exact hjt
          have q0 := HPr.out.k1 hin
          have q1 := HPr.out.k2 hjn
          have HXY := Lib.hid (And.intro (HBD.out.1 _ (List.getElem_mem hin)) (HBD.out.2.1 _ (List.getElem_mem hjn)))
          have HST := Lib.hid (HCI.out.step hin hjn)
          have HPO := Lib.hid (HCI.out.pos _ (List.getElem_mem hjn))
          have HB1 := Lib.hid (And.intro (bd_set (g := ns[i].gcd ds[j]) HBD.out.1 hin) (And.intro (bd_set (g := ns[i].gcd ds[j]) HBD.out.2.1 hjn) (pos_set (g := ns[i].gcd ds[j]) HBD.out.2.2 hin (Nat.gcd_dvd_left _ _))))
          obtain ⟨x, hx⟩ : ∃ x, ns[i] = x := ⟨_, rfl⟩
          obtain ⟨y, hy⟩ : ∃ y, ds[j] = y := ⟨_, rfl⟩
          rw [hx] at q0 HXY HST HB1
          rw [hy] at q1 HXY HST HPO HB1
          clear hx hy
          go_wp2_with fail
          refine low9_c n m i j x y 0 0 g1 g2 c1 c2 ns ds _ _ _ _ _ _ _ _ _ _ _ _ _ _ _ _ _ _ _ _ _ _ _ _ _ _ _ _ _ _ _ _ _ _ _ _ _ _ _ _ _ _ _ _ _ _ _ _ _ _ _ _ _ _ _ _ _ _ _ _ _ _ _ _ _ _ _ _ _ _ hlt hjt (by omega) q0 q1 HXY.out ?_
          intro _ _ _ _ _ _ _ _ _ W13 hb13
          have HP13 := Lib.hid (HPr.out.later hb13)
          have HB13 := Lib.hid (HBr.out.trans (hb13.mono HBr.out.size))
          have HX13 := Lib.hid (HXr.out.later hb13)
          have c0 : W13.cell? ⟨g1, i, none⟩ = some (.int .i64 (x : Int)) := keepd q0 hb13 (HPr.out.r1.lt g1 rfl).2
          have c1' : W13.cell? ⟨g2, j, none⟩ = some (.int .i64 (y : Int)) := keepd q1 hb13 (HPr.out.r2.lt g2 rfl).2
          have f0 : W13.frozen? ⟨g1, i, none⟩ = false := HP13.out.r1.frozenAt i
          have f1 : W13.frozen? ⟨g2, j, none⟩ = false := HP13.out.r2.frozenAt j
          clear q0 q1 hb13
          have gp : 0 < x.gcd y := Nat.gcd_pos_of_pos_right _ HPO.out
          obtain ⟨g, hg⟩ : ∃ g, x.gcd y = g := ⟨_, rfl⟩
          rw [hg] at gp HST HB1 ⊢
          obtain ⟨x1, hx1⟩ : ∃ z, x / g = z := ⟨_, rfl⟩
          obtain ⟨y1, hy1⟩ : ∃ z, y / g = z := ⟨_, rfl⟩
          rw [hx1, hy1] at HST HB1
          have qx : (x : Int) / (g : Int) = (x1 : Int) := by rw [← hx1]; simp
          have qy : (y : Int) / (g : Int) = (y1 : Int) := by rw [← hy1]; simp
          have bx : x1 ≤ 9223372036854775807 := by rw [← hx1]; exact Nat.le_trans (Nat.div_le_self _ _) HXY.out.1
          have by' : y1 ≤ 9223372036854775807 := by rw [← hy1]; exact Nat.le_trans (Nat.div_le_self _ _) HXY.out.2
          have w1 : IntKind.i64.wrap (x1 : Int) = (x1 : Int) := wrap_id (by omega) (by omega)
          have w2 : IntKind.i64.wrap (y1 : Int) = (y1 : Int) := wrap_id (by omega) (by omega)
          have z0 : decide ((g : Int) = 0) = false := by simp; omega
          have z1 : decide (g = 0) = false := by simp; omega
          have g0 : (0 : Int) < (g : Int) := by omega
          have dd : g1 ≠ g2 := HP13.out.d
          have c2'' : (W13.setCell ⟨g1, i, none⟩ (.int .i64 (x1 : Int))).cell? ⟨g2, j, none⟩ = some (.int .i64 (y : Int)) := (World.cell?_setCell_other _ _ _ _ (fun e => dd (by injection e))).trans c1'
          have i0' : (0 : Int) ≤ (i : Int) := by omega
          have i1 : (i : Int) < (n : Int) := by omega
          have j0 : (0 : Int) ≤ (j : Int) := by omega
          have j1 : (j : Int) < (m : Int) := by omega
          have HPF := Lib.hid ((HP13.out.put1 i x1).put2 j y1)
          have HBF := Lib.hid ((HB13.out.setCell (p := ⟨g1, i, none⟩) (Nat.le_of_lt G8.out.1) (.int .i64 (x1 : Int))).setCell (p := ⟨g2, j, none⟩) (Nat.le_of_lt G8.out.2) (.int .i64 (y1 : Int)))
          have HXF := Lib.hid ((HX13.out.far (p := ⟨g1, i, none⟩) (Nat.ne_of_lt G8.out.1) (.int .i64 (x1 : Int))).far (p := ⟨g2, j, none⟩) (Nat.ne_of_lt G8.out.2) (.int .i64 (y1 : Int)))
          clear hg hx1 hy1 dd hin hjn
          go_wp2_with fail
          go_roundw
          case rel => exact ⟨j + 1, _, _, by omega, by go_num, HPF.out, HST.out, HB1.out, HBF.out, HXF.out⟩
          case measure => simp [intOf]; omega
        · obtain rfl : j = m := by omega
          have e1 : decide ((j : Int) < (j : Int)) = false := by simp
          have e2 : decide (j < j) = false := by simp
          have HCN := Lib.hid (HCI.out.next (by rw [HPr.out.l2]; exact Nat.le_refl _))
          go_wp2_with fail
          go_roundw
          case rel => exact ⟨i + 1, ns, ds, by omega, by go_num, HPr.out, HCN.out, HBD.out, HBr.out, HXr.out⟩
          case measure => simp [intOf]; omega
    · obtain rfl : i = n := by omega
      have d1 : decide ((i : Int) < (i : Int)) = false := by simp
      have d2 : decide (i < i) = false := by simp
      have HI1 := Lib.hid (HPr.out.i1 (by omega))
      have HI2 := Lib.hid (HPr.out.i2 (by omega))
      have HM := Lib.hid (he_two HCI.out (by rw [HPr.out.l1]; exact Nat.le_refl _) HD.out)
      have HZ := Lib.hid (show 0 ∉ ns ∧ 0 ∉ ds from ⟨fun h => absurd (HBD.out.2.2 0 h) (by omega), fun h => absurd (HCI.out.pos 0 h) (by omega)⟩)
      go_wp2_with fail
      refine (held_c ns _ wr _ HI1.out HZ.out.1).mono ?_; rintro e w2 ⟨rfl, rfl⟩
      go_wp2_with fail
      refine (held_c ds _ wr _ HI2.out HZ.out.2).mono ?_; rintro e w2 ⟨rfl, rfl⟩
      rw [HR.out] at HM
      obtain ⟨p, hp⟩ : ∃ p, heV ns = p := ⟨_, rfl⟩
      obtain ⟨q, hq⟩ : ∃ q, heV ds = q := ⟨_, rfl⟩
      rw [hp, hq] at HM
      rw [hp, hq]
      clear hp hq
      obtain ⟨W, hW⟩ : ∃ W, wr.alloc (.cells #[.int .i64 (p : Int), .int .i64 (q : Int)] 23) = W := ⟨_, rfl⟩
      have HXW := Lib.hid (show Box W w.heap.size 23 #[.int .i64 0, .int .i64 0] by rw [← hW]; exact HXr.out.alloc _)
      have HBW := Lib.hid (show Below w.heap.size w W by rw [← hW]; exact HBr.out.alloc HBr.out.size _)
      have z0 : ∀ o : Obj, (wr.alloc o).cell? ⟨w.heap.size, 0, none⟩ = some (.int .i64 0) := fun o => (HXr.out.alloc o).cell 0
      have z1 : ∀ o : Obj, (wr.alloc o).cell? ⟨w.heap.size, 1, none⟩ = some (.int .i64 0) := fun o => (HXr.out.alloc o).cell 1
      have fz : ∀ k, wr.frozen? ⟨w.heap.size, k, none⟩ = false := fun k => HXr.out.free k
      have fz' : ∀ (k : Nat) (o : Obj), (wr.alloc o).frozen? ⟨w.heap.size, k, none⟩ = false := fun k o => (HXr.out.alloc o).free k
      by_cases hx : 1000000000 < p
      · have d1 : decide ((1000000000 : Int) < (p : Int)) = true := decide_eq_true (by omega)
        have d1' : decide (1000000000 < p) = true := by simpa using hx
        have HF := Lib.hid (HM.out.2 (.inl hx))
        clear hx hW
        go_wp2_with fail
        exact endRr Try.results68 rfl rfl HF.out (HXr.out.alloc _) (Nat.le_refl _) (HBr.out.alloc HBr.out.size _)
      · have d1 : decide ((1000000000 : Int) < (p : Int)) = false := decide_eq_false (by omega)
        have d1' : decide (1000000000 < p) = false := by simpa using hx
        by_cases hy : 1000000000 < q
        · have d2 : decide ((1000000000 : Int) < (q : Int)) = true := decide_eq_true (by omega)
          have d2' : decide (1000000000 < q) = true := by simpa using hy
          have HF := Lib.hid (HM.out.2 (.inr hy))
          clear hx hy hW
          go_wp2_with fail
          exact endRr Try.results68 rfl rfl HF.out (HXr.out.alloc _) (Nat.le_refl _) (HBr.out.alloc HBr.out.size _)
        · have d2 : decide ((1000000000 : Int) < (q : Int)) = false := decide_eq_false (by omega)
          have d2' : decide (1000000000 < q) = false := by simpa using hy
          have HF := Lib.hid (HM.out.1 ⟨by omega, by omega⟩)
          clear hx hy hW
          go_wp2_with fail
          exact endRr Try.results68 rfl rfl HF.out (HXr.out.alloc _) (Nat.le_refl _) (HBr.out.alloc HBr.out.size _)
end Go.Proofs.Ytmmfmanjajefcaa

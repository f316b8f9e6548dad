/- Layer 2: rows of moves: copies, and whether a list has a move. -/
import Derived.Test.YtikfiallhmhicaaGreatC23
import Derived.Maps.AppendAt
import Derived.Laws.StructEq
set_option linter.all false
namespace Go.Proofs.YtikfiallhmhicaaGreat
open Go.RowKit


def mrow (l : List Mv) : List Value := l.flatMap fun m => [.int .i64 m.out, .int .i64 m.side, .bool m.cut]
theorem mrow_len (l : List Mv) : (mrow l).length = l.length * 3 := by
  induction l with
  | nil => rfl
  | cons x l ih => rw [mrow, List.flatMap_cons, List.length_append]; change 3 + (mrow l).length = _; rw [ih, List.length_cons]; omega
theorem mrow_at (l : List Mv) (k : Nat) (hk : k < l.length) : (mrow l)[k * 3]? = some (.int .i64 (nthM l k).out) ∧ (mrow l)[k * 3 + 1]? = some (.int .i64 (nthM l k).side) ∧ (mrow l)[k * 3 + 2]? = some (.bool (nthM l k).cut) := by
  induction l generalizing k with
  | nil => simp at hk
  | cons x l ih =>
    have e : mrow (x :: l) = .int .i64 x.out :: .int .i64 x.side :: .bool x.cut :: mrow l := rfl
    rw [e]
    cases k with
    | zero => exact ⟨rfl, rfl, rfl⟩
    | succ k =>
      have := ih k (by simpa using hk)
      rw [show (k + 1) * 3 = k * 3 + 1 + 1 + 1 by omega]
      exact this
theorem mrow_one (l : List Mv) : ∀ u ∈ mrow l, u.oneCell' = true := by
  intro u hu
  unfold mrow at hu
  obtain ⟨x, -, h⟩ := List.mem_flatMap.1 hu
  simp at h
  rcases h with rfl | rfl | rfl <;> rfl
theorem moves_news {w W : World} {b off B : Nat} {xs : List Mv} (hcc : ∀ k, k < xs.length → w.cell? ⟨b, off + k * 3, none⟩ = some (.int .i64 (nthM xs k).out) ∧ w.cell? ⟨b, off + k * 3 + 1, none⟩ = some (.int .i64 (nthM xs k).side) ∧ w.cell? ⟨b, off + k * 3 + 2, none⟩ = some (.bool (nthM xs k).cut)) (hb : Below B w W) (hB : b < B) :
    ∀ (j : Nat) (u : Value), (mrow xs)[j]? = some u → W.cell? ((⟨b, off, none⟩ : Addr).add j) = some u := fun j u hu => by
  have hj : j < xs.length * 3 := by
    have := (List.getElem?_eq_some_iff.1 hu).1
    rwa [mrow_len] at this
  have e2 : (⟨b, off, none⟩ : Addr).add j = ⟨b, off + j, none⟩ := by rcases j with _ | j <;> simp [Addr.add]
  rw [e2]
  obtain ⟨k, hk⟩ : ∃ k, j = k * 3 ∨ j = k * 3 + 1 ∨ j = k * 3 + 2 := ⟨j / 3, by omega⟩
  have hkl : k < xs.length := by omega
  have hp := mrow_at xs k hkl
  rcases hk with rfl | rfl | rfl
  · rw [hp.1] at hu
    rw [← hu]; exact keepd (hcc k hkl).1 hb hB
  · rw [hp.2.1] at hu
    rw [← hu, ← Nat.add_assoc]; exact keepd (hcc k hkl).2.1 hb hB
  · rw [hp.2.2] at hu
    rw [← hu, ← Nat.add_assoc]; exact keepd (hcc k hkl).2.2 hb hB
theorem moves_own {w : World} {base : Nat} {v : Value} {l : List Mv} (h : w.ownsRow base 50 3 v l.length (mrow l)) (h24 : l.length * 24 ≤ 140737488351232) : Moves w w.heap.size v l := by
  have ho := h
  refine ⟨by omega, ?_⟩
  rcases h.2 with ⟨rfl, h2⟩ | ⟨ge, cap, cur, rfl, h4, h5, h6, h7, h8, h9⟩
  · exact ⟨none, 0, by rw [h2], by omega, fun h => by omega⟩
  · have hb : Box w ge 50 cur := h5
    have hc : ∀ j, j < l.length * 3 → w.cell? ⟨ge, 0 + j, none⟩ = (mrow l)[j]? := fun j hj => by
      rw [Nat.zero_add]; exact ho.cellAt _ (by omega)
    refine ⟨_, _, rfl, h6, fun hp => ⟨ge, 0, rfl, hb.lt, fun k hk => ?_⟩⟩
    have hp := mrow_at l k hk
    exact ⟨(hc _ (by omega)).trans hp.1, (hc _ (by omega)).trans hp.2.1, (hc _ (by omega)).trans hp.2.2⟩

def eqM (a b : Mv) : Bool := decide (a.out = b.out) && decide (a.side = b.side) && (a.cut == b.cut)
theorem eqM_iff {a b : Mv} : eqM a b = true ↔ a = b := by
  unfold eqM
  constructor
  · intro h
    rw [Bool.and_eq_true, Bool.and_eq_true, decide_eq_true_iff, decide_eq_true_iff, beq_iff_eq] at h
    exact Mv.ext' h.1.1 h.1.2 h.2
  · rintro rfl; simp
def hasM (l : List Mv) (m : Mv) : Bool := l.any (eqM m)
theorem mp0 (x y z : Value) (w : World) : (part 3 #[x, y, z] 0).run Tryz.prog w = .ok x w := by kernel_rfl
theorem mp1 (x y z : Value) (w : World) : (part 3 #[x, y, z] 1).run Tryz.prog w = .ok y w := by kernel_rfl
theorem mp2 (x y z : Value) (w : World) : (part 3 #[x, y, z] 2).run Tryz.prog w = .ok z w := by kernel_rfl
theorem mp2b (x y z : Value) (w : World) : (part 4 #[x, y, z] 2).run Tryz.prog w = .ok z w := by kernel_rfl
theorem eqMove (p q : Int) (r : Bool) (x y : Int) (z : Bool) (w : World) : (binOp .eql 50 (.agg #[.int .i64 p, .int .i64 q, .bool r]) (.agg #[.int .i64 x, .int .i64 y, .bool z])).run Tryz.prog w = .ok (.bool (eqM ⟨p, q, r⟩ ⟨x, y, z⟩)) w := by
  have ht : Tryz.prog.underlying 50 = some (.struct (Tryz.prog.fieldsOf 50)) := by kernel_rfl
  have hp : Tryz.prog.stoodInHeld 50 = false := by kernel_rfl
  have hf : (Tryz.prog.fieldsOf 50).toList = [{ name := "Out", type := 3, offset := 0, embedded := false, tag := "", pkgPath := "", byteOffset := 0 }, { name := "Side", type := 3, offset := 1, embedded := false, tag := "", pkgPath := "", byteOffset := 8 }, { name := "Cut", type := 4, offset := 2, embedded := false, tag := "", pkgPath := "", byteOffset := 16 }] := by kernel_rfl
  rw [run_eql_struct, run_equalIn_struct w 9999 _ _ _ ht hp, hf]
  have e1 := fun (x y : Int) => run_equalIn_int (P := Tryz.prog) (w := w) 9998 3 .i64 .i64 x y Tryz.underlying3
  have e2 := fun (x y : Bool) => run_equalIn_bool' (P := Tryz.prog) (w := w) 9998 4 x y Tryz.underlying4
  have he : eqM ⟨p, q, r⟩ ⟨x, y, z⟩ = ((p == x) && (q == y) && (r == z)) := rfl
  rw [he]
  cases h1 : (p == x) <;> cases h2 : (q == y) <;> cases h3 : (r == z) <;>
    simp [Op.eqFields, Sem.run_bind, mp0, mp1, mp2b, e1, e2, h1, h2, h3]
def eqS (a b : St3) : Bool := (a.ring == b.ring) && (a.sector == b.sector) && (a.turn == b.turn)
theorem eqS_iff {a b : St3} : eqS a b = true ↔ a = b := by
  obtain ⟨x, y, z⟩ := a
  obtain ⟨p, q, r⟩ := b
  simp [eqS, and_assoc]
theorem eqState (op : BinOp) (ho : op = .eql ∨ op = .neq) (p q r x y z : Int) (w : World) : (binOp op 46 (.agg #[.int .i64 p, .int .i64 q, .int .i64 r]) (.agg #[.int .i64 x, .int .i64 y, .int .i64 z])).run Tryz.prog w = .ok (.bool (if op = .eql then eqS ⟨p, q, r⟩ ⟨x, y, z⟩ else !eqS ⟨p, q, r⟩ ⟨x, y, z⟩)) w := by
  have ht : Tryz.prog.underlying 46 = some (.struct (Tryz.prog.fieldsOf 46)) := by kernel_rfl
  have hp : Tryz.prog.stoodInHeld 46 = false := by kernel_rfl
  have hf : (Tryz.prog.fieldsOf 46).toList = [{ name := "Ring", type := 3, offset := 0, embedded := false, tag := "", pkgPath := "", byteOffset := 0 }, { name := "Sector", type := 3, offset := 1, embedded := false, tag := "", pkgPath := "", byteOffset := 8 }, { name := "Turn", type := 3, offset := 2, embedded := false, tag := "", pkgPath := "", byteOffset := 16 }] := by kernel_rfl
  have e1 := fun (x y : Int) => run_equalIn_int (P := Tryz.prog) (w := w) 9998 3 .i64 .i64 x y Tryz.underlying3
  have he : eqS ⟨p, q, r⟩ ⟨x, y, z⟩ = ((p == x) && (q == y) && (r == z)) := rfl
  rw [he]
  rcases ho with rfl | rfl
  · rw [run_eql_struct, run_equalIn_struct w 9999 _ _ _ ht hp, hf]
    cases h1 : (p == x) <;> cases h2 : (q == y) <;> cases h3 : (r == z) <;>
      simp [Op.eqFields, Sem.run_bind, mp0, mp1, mp2, e1, h1, h2, h3]
  · rw [run_neq_struct, run_equalIn_struct w 9999 _ _ _ ht hp, hf]
    cases h1 : (p == x) <;> cases h2 : (q == y) <;> cases h3 : (r == z) <;>
      simp [Op.eqFields, Sem.run_bind, mp0, mp1, mp2, e1, h1, h2, h3]
theorem hasM_at {l : List Mv} {m : Mv} {k : Nat} (hk : k < l.length) (h : eqM m (nthM l k) = true) : hasM l m = true := by
  unfold hasM nthM at *
  rw [List.any_eq_true]
  exact ⟨l[k], List.getElem_mem hk, by simpa [hk] using h⟩
theorem hasM_snoc {l : List Mv} {m : Mv} {k : Nat} (hk : k < l.length) : hasM (l.take (k + 1)) m = (hasM (l.take k) m || eqM m (nthM l k)) := by
  unfold hasM nthM
  rw [List.take_succ_eq_append_getElem hk, List.any_append]
  simp [hk]
set_option maxRecDepth 100000 in
set_option maxHeartbeats 8000000 in
theorem Index_c (l : List Mv) (p q : Int) (r : Bool) (v : Value) (w : World) (h : Moves w w.heap.size v l) (h3 : l.length ≤ 3) : Calls Tryz.prog 74 #[v, .agg #[.int .i64 p, .int .i64 q, .bool r]] w fun e w' => (∃ z : Int, e = .returned (.int .i64 z) ∧ decide (0 ≤ z) = hasM l ⟨p, q, r⟩) ∧ Below w.heap.size w w' := by
  obtain ⟨n, hn⟩ : ∃ n, l.length = n := ⟨_, rfl⟩
  have HN := Lib.hid hn
  have HM := Lib.hid h
  obtain ⟨hlen, A, c, rfl, hcap, -⟩ := h
  rw [hn] at HM hlen h3 ⊢
  clear hcap hn
  go_enter Tryz.func74, Tryz.ntmps74
  go_wp2_with fail
  obtain ⟨W1, hW2⟩ : ∃ Wzz, (w.alloc (.cells #[.int .i64 p, .int .i64 q, .bool r] 50)) = Wzz := ⟨_, rfl⟩
  have B3 := Lib.hid (show Below w.heap.size w W1 by rw [← hW2]; exact ((Below.refl w.heap.size w).alloc (Nat.le_refl _) _))
  have X4 := Lib.hid (show Box W1 (w.heap.size) 50 #[.int .i64 p, .int .i64 q, .bool r] by rw [← hW2]; exact Box.made w 50 #[.int .i64 p, .int .i64 q, .bool r])
  have SZ5 := Lib.hid (show W1.heap.size = w.heap.size + 1 by rw [← hW2]; simp)
  rw [hW2]
  clear hW2
  have q6 : W1.cell? ⟨w.heap.size, 0, none⟩ = some (.int .i64 p) := X4.out.cell 0
  have q7 : W1.cell? ⟨w.heap.size, 1, none⟩ = some (.int .i64 q) := X4.out.cell 1
  have q8 : W1.cell? ⟨w.heap.size, 2, none⟩ = some (.bool r) := X4.out.cell 2
  go_loopw [8] (fun i wr => ∃ k : Nat, k ≤ n ∧ i = .int .i64 (k : Int) ∧ hasM (l.take k) ⟨p, q, r⟩ = false ∧ Box wr w.heap.size 50 #[.int .i64 p, .int .i64 q, .bool r] ∧ Below w.heap.size w wr) (fun i _ => n - (intOf i).toNat)
  case atStart => exact ⟨0, Nat.zero_le _, rfl, rfl, X4.out, B3.out⟩
  case round =>
    obtain ⟨k, hk, rfl, hno, hbx, hbr⟩ := hrel
    have HNO := Lib.hid hno
    have HBX := Lib.hid hbx
    have HBR := Lib.hid hbr
    have q0 : wr.cell? ⟨w.heap.size, 0, none⟩ = some (.int .i64 p) := hbx.cell 0
    have q1 : wr.cell? ⟨w.heap.size, 1, none⟩ = some (.int .i64 q) := hbx.cell 1
    have q2 : wr.cell? ⟨w.heap.size, 2, none⟩ = some (.bool r) := hbx.cell 2
    clear hno hbx hbr
    by_cases hlt : k < n
    · have hdk : decide ((k : Int) < (n : Int)) = true := by simpa using hlt
      have i0 : (0 : Int) ≤ (k : Int) := Int.natCast_nonneg _
      have i1 : (k : Int) < (n : Int) := by omega
      obtain ⟨b, off, c', hv, hbB, x1, x2, x3⟩ := HM.out.at (k := k) (by rw [HN.out]; exact hlt)
      rw [HN.out] at hv
      cases hv
      have y1 := keepd x1 HBR.out hbB
      have y2 := keepd x2 HBR.out hbB
      have y3 := keepd x3 HBR.out hbB
      obtain ⟨⟨x, y, z⟩, hm⟩ : ∃ m, nthM l k = m := ⟨_, rfl⟩
      have HK := Lib.hid hm
      have HLT := Lib.hid hlt
      rw [hm] at y1 y2 y3
      dsimp only at y1 y2 y3
      clear x1 x2 x3 hbB hm hlt
      have hE : ∀ w : World, (binOp .eql 50 (.agg #[.int .i64 p, .int .i64 q, .bool r]) (.agg #[.int .i64 x, .int .i64 y, .bool z])).run Tryz.prog w = .ok (.bool (eqM ⟨p, q, r⟩ ⟨x, y, z⟩)) w := fun w => eqMove p q r x y z w
      cases he : eqM ⟨p, q, r⟩ ⟨x, y, z⟩
      · have HS := Lib.hid (show hasM (l.take (k + 1)) ⟨p, q, r⟩ = false by rw [hasM_snoc (by rw [HN.out]; exact HLT.out), HNO.out, HK.out, he]; rfl)
        rw [he] at hE
        clear he
        go_wp2_with fail
        go_quiet (fail)
        go_wp2_with fail
        go_roundw
        case rel => exact ⟨k + 1, by have := HLT.out; omega, by go_num, HS.out, HBX.out.later (below_drewN _ _), HBR.out.trans (below_drewN _ _)⟩
        case measure => have := HLT.out; simp [intOf]; omega
      · have HS := Lib.hid (show hasM l ⟨p, q, r⟩ = true from hasM_at (k := k) (by rw [HN.out]; exact HLT.out) (by rw [HK.out]; exact he))
        rw [he] at hE
        clear he
        go_wp2_with fail
        go_quiet (fail)
        go_wp2_with fail
        go_ret
        exact ⟨⟨(k : Int), rfl, by rw [HS.out]; simp⟩, HBR.out.trans (below_drewN _ _)⟩
    · obtain rfl : k = n := by omega
      have hdk : decide ((k : Int) < (k : Int)) = false := by simp
      clear hlt
      go_wp2_with fail
      go_ret
      exact ⟨⟨-1, rfl, by have h := HNO.out; rw [← HN.out, List.take_length] at h; rw [h]; rfl⟩, HBR.out⟩

set_option maxRecDepth 100000 in
set_option maxHeartbeats 8000000 in
theorem Contains_c (l : List Mv) (p q : Int) (r : Bool) (v : Value) (w : World) (h : Moves w w.heap.size v l) (h3 : l.length ≤ 3) : Calls Tryz.prog 50 #[v, .agg #[.int .i64 p, .int .i64 q, .bool r]] w fun e w' => e = .returned (.bool (hasM l ⟨p, q, r⟩)) ∧ Below w.heap.size w w' := by
  have HM := Lib.hid h
  have H3 := Lib.hid h3
  clear h h3
  go_enter Tryz.func50, Tryz.ntmps50
  go_wp2_with fail
  obtain ⟨W9, hW10⟩ : ∃ Wzz, (w.alloc (.cells #[.int .i64 p, .int .i64 q, .bool r] 50)) = Wzz := ⟨_, rfl⟩
  have B11 := Lib.hid (show Below w.heap.size w W9 by rw [← hW10]; exact ((Below.refl w.heap.size w).alloc (Nat.le_refl _) _))
  have X12 := Lib.hid (show Box W9 (w.heap.size) 50 #[.int .i64 p, .int .i64 q, .bool r] by rw [← hW10]; exact Box.made w 50 #[.int .i64 p, .int .i64 q, .bool r])
  have SZ13 := Lib.hid (show W9.heap.size = w.heap.size + 1 by rw [← hW10]; simp)
  rw [hW10]
  clear hW10
  have q14 : W9.cell? ⟨w.heap.size, 0, none⟩ = some (.int .i64 p) := X12.out.cell 0
  have q15 : W9.cell? ⟨w.heap.size, 1, none⟩ = some (.int .i64 q) := X12.out.cell 1
  have q16 : W9.cell? ⟨w.heap.size, 2, none⟩ = some (.bool r) := X12.out.cell 2
  have HM1 := Lib.hid (Moves.mono HM.out B11.out B11.out.size)
  go_wp2_with fail
  refine (Index_c l p q r v _ HM1.out H3.out).mono ?_; rintro e v17 ⟨⟨z, rfl, hz⟩, hb18⟩
  have X19 := Lib.hid (X12.out.later hb18)
  have C20 := Lib.hid (HM1.out.later hb18)
  have B21 := Lib.hid (B11.out.trans (hb18.mono B11.out.size))
  clear hb18
  have HZ := Lib.hid hz
  clear hz
  clear q14 q15 q16
  have q22 : v17.cell? ⟨w.heap.size, 0, none⟩ = some (.int .i64 p) := X19.out.cell 0
  have q23 : v17.cell? ⟨w.heap.size, 1, none⟩ = some (.int .i64 q) := X19.out.cell 1
  have q24 : v17.cell? ⟨w.heap.size, 2, none⟩ = some (.bool r) := X19.out.cell 2
  go_wp2_with fail
  go_ret
  exact ⟨ret_bool HZ.out, B21.out⟩

end Go.Proofs.YtikfiallhmhicaaGreat

/- Layer 9: numbers in two bytes, and the check: what both sides answer. -/
import Derived.Test.YtbpbdgiglllncaaU1
set_option linter.all false
namespace Go.Proofs.Ytbpbdgiglllncaa
open Go.RowKit

theorem wrapI {n : Int} (h0 : 0 ≤ n) (h1 : n ≤ 4611686018427387904) : IntKind.wrap .i64 n = n := by
  unfold IntKind.wrap
  simp [IntKind.bits, IntKind.signed]
  omega
theorem wrapB {n : Int} (h0 : 0 ≤ n) (h1 : n ≤ 255) : IntKind.wrap .u8 n = n := by
  unfold IntKind.wrap
  simp [IntKind.bits, IntKind.signed]
  omega

theorem Try.infoU8 : (Try.prog.info? 5).map (fun i => (i.zero, i.size, i.bytes)) = some (some (.int .u8 0), 1, 1) := by kernel_rfl
/-- an append of bytes to bytes that the call itself owns -/
theorem app_bytes (w : World) (base : Nat) (ty : TypeId) (v : Value) (l : List Int) (hown : w.ownsRow base 5 1 v l.length (bys l)) (s : Value) (xs : List Int) (hs : Bys w w.heap.size s xs)
    (hsmall : l.length + xs.length ≤ 1099511627776) (hbase : base ≤ w.heap.size) :
    ∃ v' w', (Builtin.append_ #[31, 31] ty #[v, s]).run Try.prog w = .ok v' w' ∧ w'.ownsRow base 5 1 v' (l ++ xs).length (bys (l ++ xs)) ∧ w.grownBy w' v.ownBlock ∧ (v'.ownBlock = v.ownBlock ∨ v'.ownBlock = some w.heap.size) := by
  obtain ⟨i, hi, hi2⟩ := Option.map_eq_some_iff.1 Try.infoU8
  simp only [Prod.mk.injEq] at hi2
  obtain ⟨hz, hsz, hby⟩ := hi2
  obtain ⟨h1, h0, A, c, rfl, hc, hcell⟩ := hs
  rw [List.length_append, bys_app]
  have hsome : ∀ a : Addr, A = some a → (0 < xs.length → ∃ b off, A = some ⟨b, off, none⟩ ∧ b < w.heap.size ∧ ∀ k, k < xs.length → w.cell? ⟨b, off + k, none⟩ = some (.int .u8 (nth xs k))) →
      ∀ j u, (bys xs)[j]? = some u → w.cell? (a.add j) = some u := by
    intro a ha hcl j u hu
    subst ha
    have hj : j < xs.length := by
      have := (List.getElem?_eq_some_iff.1 hu).1
      rwa [bys_len] at this
    obtain ⟨b, off, e, hlt, hcc⟩ := hcl (by omega)
    cases e
    exact bys_news hcc (Below.refl w.heap.size w) hlt j u hu
  cases A with
  | some a =>
    obtain ⟨v', w', r1, r2, r3, r4, r5⟩ := run_append_own_at (P := Try.prog) w base 31 ty 5 i (.int .u8 0) 1 1 Try.underlying31 hi hz hsz hby rfl (by decide) v l.length (bys l) hown a xs.length c (bys xs) (by rw [bys_len]; omega) (hsome a rfl hcell) (bys_one xs) (by unfold maxLen; omega) (by omega) hbase
    exact ⟨v', w', r1, r2, r3, r5⟩
  | none =>
    have hx : xs = [] := by
      rcases Nat.eq_zero_or_pos xs.length with hz | hp
      · exact List.length_eq_zero_iff.1 hz
      · obtain ⟨b, off, e, -⟩ := hcell hp; cases e
    subst hx
    refine ⟨v, w, ?_, by simpa [bys] using hown, World.grownBy.refl _ _, .inl rfl⟩
    rcases hown.2 with ⟨rfl, hz⟩ | ⟨g, cap, cur, rfl, _, _, hnc, _⟩
    · simp [hz, Builtin.append_, run_underlying Try.underlying31, sizeOf, typeInfo, hi, Builtin.lenOf, Builtin.firstCells]
    · simp [Builtin.append_, run_underlying Try.underlying31, sizeOf, typeInfo, hi, Builtin.lenOf, Builtin.firstCells, hnc, storeCells]
theorem wpList_bytes {ops : Array Oper} {rest : List Oper} {o : Oper} {a : Act} {w : World} {Q : Exit → Act → World → Prop} (hgd : o.guard = none) (s x : Operand)
    (ho : o.op = .call { callee := .builtin .append, args := #[s, x], argTypes := #[31, 31] })
    (base : Nat) (v : Value) (l : List Int) (hs : a.eval s = v) (hown : w.ownsRow base 5 1 v l.length (bys l))
    (u : Value) (xs : List Int) (hx : a.eval x = u) (hu : Bys w w.heap.size u xs) (hsmall : l.length + xs.length ≤ 1099511627776) (hbase : base ≤ w.heap.size)
    (h : ∀ v' w', w'.ownsRow base 5 1 v' (l ++ xs).length (bys (l ++ xs)) → w.grownBy w' v.ownBlock → (v'.ownBlock = v.ownBlock ∨ v'.ownBlock = some w.heap.size) → wpList Try.prog ops Q rest (a.put o.dst v') w') :
    wpList Try.prog ops Q (o :: rest) a w := by
  refine wpList_plain hgd fun K hK => ?_
  obtain ⟨v', w', hr, h2, h3, h5⟩ := app_bytes w base o.type v l hown u xs hu hsmall hbase
  unfold Oper.wp execOp
  simp only [ho, resolve, invoke, builtin, Sem.run_bind, Sem.run_pure, Result.andThen_ok, List.map_toArray, List.map_cons, List.map_nil, hs, hx, hr]
  exact hK _ _ (h v' w' h2 h3 h5)
/-- bytes that were laid out just now -/
theorem bys_lit (w : World) (base : Nat) (l : List Int) (hb : base ≤ w.heap.size) (hl : l.length ≤ 1099511627776) :
    (w.alloc (.cells (bys l).toArray 5)).ownsRow base 5 1 (.slice (some ⟨w.heap.size, 0, none⟩) l.length l.length) l.length (bys l) := by
  have := World.ownsRow_lit (base := base) (e := 5) (size := 1) w (bys l).toArray l.length hb (by unfold maxLen; omega) (by simp [bys_len])
  simpa using this
theorem bys_lit2 (w : World) (base : Nat) (x y : Int) (hb : base ≤ w.heap.size) :
    (w.alloc (.cells #[.int .u8 x, .int .u8 y] 5)).ownsRow base 5 1 (.slice (some ⟨w.heap.size, 0, none⟩) 2 2) [x, y].length (bys [x, y]) := bys_lit w base [x, y] hb (by simp)

set_option maxRecDepth 100000 in
set_option maxHeartbeats 4000000 in
theorem pairOf_c (xs : List Int) (v : Value) (w : World) (h : Bys w w.heap.size v xs) (h2 : 2 ≤ xs.length) :
    Calls Try.prog 77 #[v] w fun e w' => e = .returned (.int .i64 (pr xs)) ∧ Below w.heap.size w w' := by
  obtain ⟨h1, h0, A, c, rfl, hc, hcell⟩ := h
  obtain ⟨b, off, rfl, hlt, hcc⟩ := hcell (by omega)
  have q0 : w.cell? ⟨b, off, none⟩ = some (.int .u8 (nth xs 0)) := hcc 0 (by omega)
  have q1 : w.cell? ⟨b, off + 1, none⟩ = some (.int .u8 (nth xs 1)) := hcc 1 (by omega)
  have b0 := h0 0
  have b1 := h0 1
  have HR := Lib.hid (show pr xs = nth xs 0 + 256 * nth xs 1 from rfl)
  have hl0 : (0 : Int) < (xs.length : Int) := by omega
  have hl1 : (1 : Int) < (xs.length : Int) := by omega
  clear hcc hcell hc h1 h2 h0
  generalize nth xs 0 = x at *
  generalize nth xs 1 = y at *
  obtain ⟨x0, x1⟩ := b0
  obtain ⟨y0, y1⟩ := b1
  have w1 : IntKind.wrap .i64 x = x := wrapI x0 (by omega)
  have w2 : IntKind.wrap .i64 y = y := wrapI y0 (by omega)
  have w3 : IntKind.wrap .i64 (y * 256) = y * 256 := wrapI (by omega) (by omega)
  have w4 : bits .or .i64 x (y * 256) = x + 256 * y := bor x y x0 x1 y0 y1
  go_enter Try.func77, Try.ntmps77
  go_wp2_with fail
  go_quiet (fail)
  go_wp2_with fail
  go_ret
  exact ⟨ret_int HR.out.symm, below_drewN _ _⟩

set_option maxRecDepth 100000 in
set_option maxHeartbeats 4000000 in
theorem at_c (xs : List Int) (i : Nat) (v : Value) (w : World) (h : Bys w w.heap.size v xs) (h2 : i + 2 ≤ xs.length) :
    Calls Try.prog 47 #[v, .int .i64 (i : Int)] w fun e w' => e = .returned (.int .i64 (pr (xs.drop i))) ∧ Below w.heap.size w w' := by
  obtain ⟨h1, h0, A, c, rfl, hc, hcell⟩ := h
  obtain ⟨b, off, rfl, hlt, hcc⟩ := hcell (by omega)
  have q0 : w.cell? ⟨b, off + i, none⟩ = some (.int .u8 (nth xs i)) := hcc i (by omega)
  have q1 : w.cell? ⟨b, off + (i + 1), none⟩ = some (.int .u8 (nth xs (i + 1))) := hcc (i + 1) (by omega)
  have b0 := h0 i
  have b1 := h0 (i + 1)
  have HR := Lib.hid (show pr (xs.drop i) = nth xs i + 256 * nth xs (i + 1) by unfold pr; rw [nth_drop, nth_drop, Nat.add_zero])
  have hl0 : (i : Int) < (xs.length : Int) := by omega
  have hl1 : (i : Int) + 1 < (xs.length : Int) := by omega
  have i0 : (0 : Int) ≤ (i : Int) := by omega
  have i1 : (0 : Int) ≤ (i : Int) + 1 := by omega
  have t0 : ((i : Int) + 1).toNat = i + 1 := by omega
  have w0 : IntKind.wrap .i64 ((i : Int) + 1) = (i : Int) + 1 := wrapI (by omega) (by omega)
  clear hcc hcell hc h1 h2 h0
  generalize nth xs i = x at *
  generalize nth xs (i + 1) = y at *
  obtain ⟨x0, x1⟩ := b0
  obtain ⟨y0, y1⟩ := b1
  have w1 : IntKind.wrap .i64 x = x := wrapI x0 (by omega)
  have w2 : IntKind.wrap .i64 y = y := wrapI y0 (by omega)
  have w3 : IntKind.wrap .i64 (256 * y) = 256 * y := wrapI (by omega) (by omega)
  have w4 : IntKind.wrap .i64 (x + 256 * y) = x + 256 * y := wrapI (by omega) (by omega)
  go_enter Try.func47, Try.ntmps47
  go_wp2_with fail
  go_quiet (fail)
  go_wp2_with fail
  go_ret
  exact ⟨ret_int HR.out.symm, below_drewN _ _⟩

set_option maxRecDepth 100000 in
set_option maxHeartbeats 4000000 in
theorem two_c (n : Int) (h0 : 0 ≤ n) (h1 : n ≤ 65535) (w : World) :
    Calls Try.prog 43 #[.int .i64 n] w fun e w' => ∃ v', e = .returned v' ∧ w'.ownsRow w.heap.size 5 1 v' (two n).length (bys (two n)) ∧ Below w.heap.size w w' := by
  have HO := Lib.hid (bys_lit2 w w.heap.size (n % 256) (n / 256) (Nat.le_refl _))
  have HB := Lib.hid ((Below.refl w.heap.size w).alloc (Nat.le_refl _) (.cells #[.int .u8 (n % 256), .int .u8 (n / 256)] 5))
  have w1 : IntKind.wrap .u8 (n % 256) = n % 256 := wrapB (by omega) (by omega)
  have w2 : IntKind.wrap .u8 (n / 256) = n / 256 := wrapB (by omega) (by omega)
  go_enter Try.func43, Try.ntmps43
  go_wp2_with fail
  go_ret
  exact ⟨_, rfl, HO.out, HB.out⟩

set_option maxRecDepth 100000 in
set_option maxHeartbeats 4000000 in
theorem appendPair_c (base : Nat) (v : Value) (l : List Int) (n : Int) (h0 : 0 ≤ n) (h1 : n ≤ 65535) (w : World) (hown : w.ownsRow base 5 1 v l.length (bys l)) (hl : l.length ≤ 1073741824) (hb : base ≤ w.heap.size) :
    Calls Try.prog 41 #[v, .int .i64 n] w fun e w' => ∃ v', e = .returned v' ∧ w'.ownsRow base 5 1 v' (l ++ two n).length (bys (l ++ two n)) ∧ Below base w w' := by
  have ho2 := bys_lit2 w w.heap.size (n % 256) (n / 256) (Nat.le_refl _)
  have hal := (Below.refl w.heap.size w).alloc (Nat.le_refl _) (.cells #[.int .u8 (n % 256), .int .u8 (n / 256)] 5)
  have how := own_later hown hal
  have hby := bys_own (B := (w.alloc (.cells #[.int .u8 (n % 256), .int .u8 (n / 256)] 5)).heap.size) ho2 (Nat.le_refl _) (by simp) (two_by h0 h1)
  have HALB := Lib.hid (hal.mono (B' := base) hb)
  have HS := Lib.hid (show base ≤ (w.alloc (.cells #[.int .u8 (n % 256), .int .u8 (n / 256)] 5)).heap.size from Nat.le_trans hb hal.size)
  have HLT := Lib.hid (fun k hk => (how.lt k hk).1)
  have w1 : IntKind.wrap .u8 (n % 256) = n % 256 := wrapB (by omega) (by omega)
  have w2 : IntKind.wrap .u8 (n >>> 8) = n / 256 := by rw [Int.shiftRight_eq_div_pow]; exact wrapB (by omega) (by omega)
  have w3 : IntKind.wrap .u8 (n / 256) = n / 256 := wrapB (by omega) (by omega)
  have w4 : IntKind.wrap .u8 n = n % 256 := by unfold IntKind.wrap; simp [IntKind.bits, IntKind.signed]
  have HSM := Lib.hid (show l.length + [n % 256, n / 256].length ≤ 1099511627776 by simp; omega)
  clear hown hal ho2
  obtain ⟨ov, hov⟩ : ∃ ov, ov = v := ⟨_, rfl⟩
  go_enter Try.func41, Try.ntmps41
  go_wp2_with (first
    | (at_builtin; refine wpList_bytes rfl _ _ rfl base v l rfl how _ [n % 256, n / 256] rfl hby HSM.out HS.out ?_
       intro v' w7 hown7 hgrow7 _
       have HOWN := Lib.hid hown7
       have HB7 := Lib.hid (HALB.out.grown hgrow7 HS.out HLT.out)
       clear hown7 hgrow7 how hby))
  go_ret
  exact ⟨_, rfl, HOWN.out, HB7.out⟩
end Go.Proofs.Ytbpbdgiglllncaa

/- Layer 9: what two journals tell together: the specification's answer. -/
import Derived.Test.YtbpbdgiglllncaaU6
set_option linter.all false
namespace Go.Proofs.Ytbpbdgiglllncaa
open Go.RowKit

/-- an append, met by its run -/
theorem wpList_app {ops : Array Oper} {rest : List Oper} {o : Oper} {a : Act} {w w' : World} {v x1 x2 : Value} {Q : Exit → Act → World → Prop} (t : TypeId) (s x : Operand) (hgd : o.guard = none)
    (ho : o.op = .call { callee := .builtin .append, args := #[s, x], argTypes := #[t, t] }) (h1 : a.eval s = x1) (h2 : a.eval x = x2)
    (hr : (Builtin.append_ #[t, t] o.type #[x1, x2]).run Try.prog w = .ok v w') (h : wpList Try.prog ops Q rest (a.put o.dst v) w') :
    wpList Try.prog ops Q (o :: rest) a w := by
  refine wpList_plain hgd fun K hK => ?_
  unfold Oper.wp execOp
  simp only [ho, resolve, invoke, builtin, Sem.run_bind, Sem.run_pure, Result.andThen_ok, List.map_toArray, List.map_cons, List.map_nil, h1, h2, hr]
  exact hK _ _ h
/-- a row of slices of bytes that the call itself owns -/
def RowL (base : Nat) (ov : Value) (W : World) (l : List (List Int)) : Prop :=
  ∃ vs, W.ownsRow base 31 1 ov l.length vs ∧ Cells W W.heap.size vs l ∧ Fresh base ov W vs
theorem RowL.nil (base : Nat) (W : World) : RowL base (.slice none 0 0) W [] := ⟨[], ⟨by simp, .inl ⟨rfl, rfl⟩⟩, Cells.nil _ _, fun k s h => by simp at h⟩
theorem Fresh.size {n3 : Nat} {ov : Value} {W W' : World} {vs : List Value} (h : Fresh n3 ov W vs) (hs : W.heap.size ≤ W'.heap.size) : Fresh n3 ov W' vs := fun k s h1 g e => by obtain ⟨a, b, c⟩ := h k s h1 g e; exact ⟨a, by omega, c⟩
theorem RowL.later {base : Nat} {ov : Value} {W W' : World} {l : List (List Int)} (h : RowL base ov W l) (hb : Below W.heap.size W W') : RowL base ov W' l := by
  obtain ⟨vs, h1, h2, h3⟩ := h
  exact ⟨vs, own_later h1 hb, h2.mono hb hb.size, h3.size hb.size⟩
/-- a store into a block below the row's base changes nothing of it -/
theorem RowL.far {base : Nat} {ov : Value} {W : World} {l : List (List Int)} (h : RowL base ov W l) (b : Nat) (u : Value) (hb : b < base) : RowL base ov (W.setCell ⟨b, 0, none⟩ u) l := by
  obtain ⟨vs, h1, h2, h3⟩ := h
  refine ⟨vs, own_far h1 (p := ⟨b, 0, none⟩) hb u, ?_, h3.size (by rw [World.size_setCell]; exact Nat.le_refl _)⟩
  rw [World.size_setCell]
  exact h2.grown (grownBy_setCell' W b u) (Nat.le_refl _) (Nat.le_refl _) (fun k s hs g e h => by have := (h3 k s hs g e).1; cases h; omega)
/-- one more slice, made in blocks of its own -/
theorem RowL.snoc {base : Nat} {ov : Value} {W w2 : World} {l : List (List Int)} (h : RowL base ov W l) (hbase : base ≤ W.heap.size) (hb : Below W.heap.size W w2) {A : Option Addr} {n c : Nat} {b : List Int} (hs : Bys w2 w2.heap.size (.slice A n c) b)
    (hf : ∀ g, (Value.slice A n c).ownBlock = some g → W.heap.size ≤ g ∧ g < w2.heap.size) (hl : l.length ≤ 1099511627776) (ty : TypeId) :
    ∃ oB cB w7, (Builtin.append_ #[44, 44] ty #[ov, .slice (some ⟨w2.heap.size, 0, none⟩) 1 1]).run Try.prog (w2.alloc (.cells #[.slice A n c] 31)) = .ok (.slice oB (l.length + 1) cB) w7 ∧
      RowL base (.slice oB (l.length + 1) cB) w7 (l ++ [b]) ∧ (w2.alloc (.cells #[.slice A n c] 31)).grownBy w7 ov.ownBlock ∧ (∀ g, ov.ownBlock = some g → base ≤ g ∧ g < W.heap.size) := by
  obtain ⟨vs, h1, h2, h3⟩ := h
  have hov := h1.lt
  have h1' := own_later h1 hb
  obtain ⟨v7, w7, hr, ho7, hg7, hd7⟩ := app_cell w2 base ty ov l.length vs h1' (.slice A n c) (by cases A <;> rfl) hl (Nat.le_trans hbase hb.size)
  obtain ⟨oB, cB, rfl⟩ := own_shape ho7
  have hs2 := hb.size
  have hs7 := hg7.size
  rw [World.size_alloc] at hs7
  have c2' := (h2.mono hb hb.size).snoc hs
  have hent : ∀ (k : Nat) (s : Value), (vs ++ [.slice A n c])[k]? = some s → ∀ g, s.ownBlock = some g → base ≤ g ∧ g < w2.heap.size ∧ ov.ownBlock ≠ some g := by
    intro k s hs g e
    rcases Nat.lt_or_ge k vs.length with hk | hk
    · rw [List.getElem?_append_left hk] at hs
      obtain ⟨h1, h2, h3⟩ := h3 k s hs g e
      exact ⟨h1, by omega, h3⟩
    · rw [List.getElem?_append_right hk] at hs
      have hz : k - vs.length = 0 := by
        have := (List.getElem?_eq_some_iff.1 hs).1
        simp at this; omega
      rw [hz] at hs
      simp at hs
      subst hs
      obtain ⟨h1, h2⟩ := hf g e
      exact ⟨by omega, h2, fun h => by have := (hov g h).2; omega⟩
  have c3' := (c2'.mono (B' := (w2.alloc (.cells #[.slice A n c] 31)).heap.size) ((Below.refl _ _).alloc (Nat.le_refl _) (.cells #[.slice A n c] 31)) (by rw [World.size_alloc]; omega)).grown (B' := w7.heap.size) hg7 (Nat.le_refl _) hg7.size (fun k s hs g e h => (hent k s hs g e).2.2 h.symm)
  refine ⟨oB, cB, w7, hr, ⟨vs ++ [.slice A n c], ?_, c3', fun k s hs g e => ?_⟩, hg7, hov⟩
  · rw [List.length_append]; exact ho7
  · obtain ⟨h1, h2, h3⟩ := hent k s hs g e
    refine ⟨h1, by omega, fun h => ?_⟩
    rcases hd7 with h4 | h4
    · exact h3 (h4 ▸ h)
    · rw [h4] at h; cases h; omega
theorem RowL.byl {base : Nat} {ov : Value} {W : World} {l : List (List Int)} (h : RowL base ov W l) (hl : l.length * 24 ≤ 140737488351232) : ByL W W.heap.size ov l := by
  obtain ⟨vs, h1, h2, h3⟩ := h
  exact byl_own h1 h2 (Nat.le_refl _) (Nat.le_refl _) hl

theorem at_i (xs : List Int) (I : Int) (i : Nat) (hI : I = (i : Int)) (v : Value) (w : World) (h : Bys w w.heap.size v xs) (h2 : i + 2 ≤ xs.length) :
    Calls Try.prog 47 #[v, .int .i64 I] w fun e w' => e = .returned (.int .i64 (pr (xs.drop i))) ∧ Below w.heap.size w w' := by
  rw [hI]; exact at_c xs i v w h h2
theorem sLen_toNat (pre : List (List Int)) (b : List Int) : (sLen (pre ++ [b])).toNat = (sLen pre).toNat + (2 + b.length) := by
  rw [sLen_snoc]; have := sLen_nn pre; omega

set_option maxRecDepth 100000 in
set_option maxHeartbeats 8000000 in
theorem rJoin_c (s f : List Int) (vs vf : Value) (w : World) (hs : Bys w w.heap.size vs s) (hf : Bys w w.heap.size vf f) (hsL : s.length ≤ 33554432) (hfL : f.length ≤ 33554432) :
    Calls Try.prog 17 #[vs, vf] w fun e w' => ∃ ov, e = .returned (.tuple #[ov, .int .i64 (sLen (joinL s f)), .int .i64 (4 * ((joinL s f).length : Int))]) ∧ ByL w' w'.heap.size ov (joinL s f) ∧ Below w.heap.size w w' := by
  have HS := Lib.hid hs
  have HF := Lib.hid hf
  obtain ⟨A, c, rfl, hc⟩ := hs.shape
  obtain ⟨A', c', rfl, hc'⟩ := hf.shape
  obtain ⟨n, hn⟩ : ∃ z, s.length = z := ⟨_, rfl⟩
  obtain ⟨m, hm⟩ : ∃ z, f.length = z := ⟨_, rfl⟩
  have HN := Lib.hid hn
  have HM := Lib.hid hm
  rw [hn] at HS hsL ⊢
  rw [hm] at HF hfL ⊢
  clear hs hf hc hc' hn hm
  go_enter Try.func17, Try.ntmps17
  go_wp2_with fail
  go_loopw [7, 8, 9] (fun o i j wr => ∃ pre : List (List Int), RowL w.heap.size o wr pre ∧ i = .int .i64 (sLen pre) ∧ j = .int .i64 (4 * (pre.length : Int)) ∧
    pre ++ joinL (s.drop (sLen pre).toNat) (f.drop (4 * pre.length)) = joinL s f ∧ sLen pre ≤ n ∧ 4 * pre.length ≤ m ∧ Below w.heap.size w wr) (fun _ _ j _ => m - (intOf j).toNat)
  case atStart => exact ⟨[], RowL.nil _ _, rfl, rfl, by simp [sLen], by simp [sLen], by simp, Below.refl _ _⟩
  case round =>
    obtain ⟨pre, hr, rfl, rfl, hp, hi, hj, hb⟩ := hrel
    have HR := Lib.hid hr
    have HP := Lib.hid hp
    have HB := Lib.hid hb
    have hnn := sLen_nn pre
    obtain ⟨i, hii⟩ := Int.eq_ofNat_of_zero_le hnn
    have HI := Lib.hid hii
    obtain ⟨q, hq⟩ : ∃ z, pre.length = z := ⟨_, rfl⟩
    have HQ := Lib.hid hq
    rw [hii] at hi HP ⊢
    rw [hq] at hj HP ⊢
    rw [show ((i : Int)).toNat = i from rfl] at HP
    clear hr hp hb hnn hii hq
    have H0 := Lib.hid (show i ≤ n by omega)
    have H1 := Lib.hid (show 4 * q ≤ m from hj)
    have hi9 : i ≤ 33554432 := by omega
    have hq9 : q ≤ 33554432 := by omega
    clear hi hj
    have w1 : IntKind.wrap .i64 ((i : Int) + 2) = (i : Int) + 2 := wrapI (by omega) (by omega)
    have w2 : IntKind.wrap .i64 (4 * (q : Int) + 4) = 4 * (q : Int) + 4 := wrapI (by omega) (by omega)
    have HOVS : ∃ oA oc, u7 = .slice oA q oc := by
      obtain ⟨vs, h1, -⟩ := HR.out
      obtain ⟨oA, oc, e⟩ := own_shape h1
      exact ⟨oA, oc, by rw [e, HQ.out]⟩
    -- BODY
    clear HOVS
    have D1 := Lib.hid (show (s.drop i).length = n - i by rw [List.length_drop, HN.out])
    have D2 := Lib.hid (show (f.drop (4 * q)).length = m - 4 * q by rw [List.length_drop, HM.out])
    have i0 : (0 : Int) ≤ (i : Int) := by omega
    by_cases c1 : i + 2 ≤ n
    case neg =>
      have e1 : decide ((i : Int) + 2 ≤ (n : Int)) = false := by simp; omega
      have C1 := Lib.hid c1
      clear c1
      have HE := Lib.hid (show joinL s f = pre by rw [← HP.out, joinL_stop (beg_f1 (by rw [D1.out]; have := C1.out; omega)), List.append_nil])
      go_wp2_with fail
      go_ret3
      exact ⟨u7, by rw [HE.out, HI.out, HQ.out]; rfl, by rw [HE.out]; exact (HR.out).byl (by have := HQ.out; omega), HB.out⟩
    have e1 : decide ((i : Int) + 2 ≤ (n : Int)) = true := by simp; omega
    have C1 := Lib.hid c1
    clear c1
    by_cases c2 : 4 * q + 4 ≤ m
    case neg =>
      have e2 : decide (4 * (q : Int) + 4 ≤ (m : Int)) = false := by simp; omega
      have C2 := Lib.hid c2
      clear c2
      have HE := Lib.hid (show joinL s f = pre by rw [← HP.out, joinL_stop (beg_f2 (by rw [D2.out]; have := C2.out; omega)), List.append_nil])
      go_wp2_with fail
      go_ret3
      exact ⟨u7, by rw [HE.out, HI.out, HQ.out]; rfl, by rw [HE.out]; exact (HR.out).byl (by have := HQ.out; omega), HB.out⟩
    have e2 : decide (4 * (q : Int) + 4 ≤ (m : Int)) = true := by simp; omega
    have C2 := Lib.hid c2
    clear c2
    have HPS := Lib.hid (pr_bd (HS.out.by.drop i))
    have HPF := Lib.hid (pr_bd (HF.out.by.drop (4 * q)))
    obtain ⟨p, hp⟩ := Int.eq_ofNat_of_zero_le HPS.out.1
    have HPE := Lib.hid hp
    have p9 : p ≤ 65535 := by have := HPS.out.2; omega
    obtain ⟨r, hr⟩ := Int.eq_ofNat_of_zero_le HPF.out.1
    have HRE := Lib.hid hr
    have k1 := Lib.hid (at_i s (i : Int) i rfl _ wr (HS.out.mono HB.out HB.out.size) (by have := C1.out; have := HN.out; omega))
    rw [hp] at k1
    clear hp hr
    have k2 := Lib.hid (fun (W : World) (hb : Below w.heap.size w W) => at_i f (4 * (q : Int)) (4 * q) (by simp) _ W (HF.out.mono hb hb.size) (by have := C2.out; have := HM.out; omega))
    rw [HRE.out] at k2
    by_cases c3 : 8192 < p
    · have e3 : decide ((8192 : Int) < (p : Int)) = true := by simp; omega
      have C3 := Lib.hid c3
      clear c3
      go_wp2_with fail
      refine k1.out.mono ?_; rintro e w4 ⟨rfl, hb4⟩
      have HB4 := Lib.hid (HB.out.trans (hb4.mono HB.out.size))
      have HR4 := Lib.hid (HR.out.later hb4)
      clear hb4
      have HE := Lib.hid (show joinL s f = pre by rw [← HP.out, joinL_stop (beg_f3 (by rw [HPE.out]; have := C3.out; omega)), List.append_nil])
      go_wp2_with fail
      go_ret3
      exact ⟨u7, by rw [HE.out, HI.out, HQ.out]; rfl, by rw [HE.out]; exact (HR4.out).byl (by have := HQ.out; omega), HB4.out⟩
    have e3 : decide ((8192 : Int) < (p : Int)) = false := by simp; omega
    have C3 := Lib.hid (show p ≤ 8192 by omega)
    have p8 : p ≤ 8192 := by omega
    clear c3 p9
    have w3 : IntKind.wrap .i64 ((i : Int) + 2 + (p : Int)) = (i : Int) + 2 + (p : Int) := wrapI (by omega) (by omega)
    by_cases c4 : i + 2 + p ≤ n
    case neg =>
      have e4 : decide ((n : Int) < (i : Int) + 2 + (p : Int)) = true := by simp; omega
      have C4 := Lib.hid c4
      clear c4
      go_wp2_with fail
      refine k1.out.mono ?_; rintro e w4 ⟨rfl, hb4⟩
      have HB4 := Lib.hid (HB.out.trans (hb4.mono HB.out.size))
      have HR4 := Lib.hid (HR.out.later hb4)
      clear hb4
      have HE := Lib.hid (show joinL s f = pre by rw [← HP.out, joinL_stop (beg_f5 (by rw [HPE.out, D1.out]; have := C4.out; have := H0.out; omega)), List.append_nil])
      go_wp2_with fail
      go_ret3
      exact ⟨u7, by rw [HE.out, HI.out, HQ.out]; rfl, by rw [HE.out]; exact (HR4.out).byl (by have := HQ.out; omega), HB4.out⟩
    have e4 : decide ((n : Int) < (i : Int) + 2 + (p : Int)) = false := by simp; omega
    have C4 := Lib.hid c4
    clear c4
    by_cases c5 : r = p
    case neg =>
      have e5 : ((r : Int) != (p : Int)) = true := by simp; omega
      have e5' : (r != p) = true := by simp; omega
      have C5 := Lib.hid c5
      clear c5
      go_wp2_with fail
      refine k1.out.mono ?_; rintro e w4 ⟨rfl, hb4⟩
      have HB4 := Lib.hid (HB.out.trans (hb4.mono HB.out.size))
      have HR4 := Lib.hid (HR.out.later hb4)
      clear hb4
      go_wp2_with fail
      refine (k2.out _ HB4.out).mono ?_; rintro e w5 ⟨rfl, hb5⟩
      have HB5 := Lib.hid (HB4.out.trans (hb5.mono HB4.out.size))
      have HR5 := Lib.hid (HR4.out.later hb5)
      clear hb5
      have HE := Lib.hid (show joinL s f = pre by rw [← HP.out, joinL_stop (beg_f4 (by rw [HPE.out, HRE.out]; have := C5.out; omega)), List.append_nil])
      go_wp2_with fail
      go_ret3
      exact ⟨u7, by rw [HE.out, HI.out, HQ.out]; rfl, by rw [HE.out]; exact (HR5.out).byl (by have := HQ.out; omega), HB5.out⟩
    subst c5
    have e5 : ((r : Int) != (r : Int)) = false := by simp
    have e5' : (r != r) = false := by simp
    have w4 : IntKind.wrap .i64 (4 * (q : Int) + 2) = 4 * (q : Int) + 2 := wrapI (by omega) (by omega)
    have w5 : IntKind.wrap .i64 (2 + (r : Int)) = 2 + (r : Int) := wrapI (by omega) (by omega)
    have w6 : IntKind.wrap .i64 ((i : Int) + (2 + (r : Int))) = (i : Int) + (2 + (r : Int)) := wrapI (by omega) (by omega)
    obtain ⟨V1, s1, hV1⟩ := HS.out.cut ((i : Int) + 2) ((i : Int) + 2 + (r : Int)) (i + 2) (i + 2 + r) (by omega) (by omega) (by omega) (by have := C4.out; have := HN.out; omega)
    have hH : hdL (s.drop i) = (s.drop (i + 2)).take (i + 2 + r - (i + 2)) := by unfold hdL; rw [HPE.out, List.drop_drop]; congr 1; omega
    rw [← hH] at hV1
    have HV1 := Lib.hid hV1
    have HL1 := Lib.hid (show (hdL (s.drop i)).length = r by rw [hH, List.length_take, List.length_drop]; have := C4.out; have := HN.out; omega)
    obtain ⟨A1, c1, rfl, hc1⟩ := hV1.shape
    rw [HL1.out] at HV1 s1
    rw [HL1.out] at hc1
    clear hV1 hH hc1
    have k3 := Lib.hid (fun (W : World) (hb : Below w.heap.size w W) => at_i f (4 * (q : Int) + 2) (4 * q + 2) (by omega) _ W (HF.out.mono hb hb.size) (by have := C2.out; have := HM.out; omega))
    have k4 := Lib.hid (fun (W : World) (hb : Below w.heap.size w W) => rcheck_c (hdL (s.drop i)) _ W (HV1.out.mono hb hb.size) (by have := HL1.out; omega))
    have HX := Lib.hid (show beg (s.drop i) (f.drop (4 * q)) = (chk (hdL (s.drop i)) == pr (f.drop (4 * q + 2))) by
      rw [beg_f6 (by rw [D1.out]; have := C1.out; omega) (by rw [D2.out]; have := C2.out; omega) (by rw [HPE.out]; omega) (by rw [HPE.out, HRE.out]) (by rw [HPE.out, D1.out]; have := C4.out; have := H0.out; omega), List.drop_drop])
    obtain ⟨X, hX⟩ : ∃ X, chk (hdL (s.drop i)) = X := ⟨_, rfl⟩
    obtain ⟨Y, hY⟩ : ∃ X, pr (f.drop (4 * q + 2)) = X := ⟨_, rfl⟩
    rw [hX] at k4 HX
    rw [hY] at k3 HX
    clear hX hY
    by_cases c6 : Y = X
    case neg =>
      have e6 : (Y != X) = true := by simpa using c6
      have C6 := Lib.hid c6
      clear c6
      go_wp2_with fail
      refine k1.out.mono ?_; rintro e w4' ⟨rfl, hb4⟩
      have HB4 := Lib.hid (HB.out.trans (hb4.mono HB.out.size))
      have HR4 := Lib.hid (HR.out.later hb4)
      clear hb4
      go_wp2_with fail
      refine (k2.out _ HB4.out).mono ?_; rintro e w5' ⟨rfl, hb5⟩
      have HB5 := Lib.hid (HB4.out.trans (hb5.mono HB4.out.size))
      have HR5 := Lib.hid (HR4.out.later hb5)
      clear hb5
      go_wp2_with fail
      refine (k3.out _ HB5.out).mono ?_; rintro e w6' ⟨rfl, hb6⟩
      have HB6 := Lib.hid (HB5.out.trans (hb6.mono HB5.out.size))
      have HR6 := Lib.hid (HR5.out.later hb6)
      clear hb6
      go_wp2_with fail
      refine (k4.out _ HB6.out).mono ?_; rintro e w7' ⟨rfl, hb7⟩
      have HB7 := Lib.hid (HB6.out.trans (hb7.mono HB6.out.size))
      have HR7 := Lib.hid (HR6.out.later hb7)
      clear hb7
      have HE := Lib.hid (show joinL s f = pre by rw [← HP.out, joinL_stop (by rw [HX.out]; have := C6.out; simp; exact fun h => this h.symm), List.append_nil])
      go_wp2_with fail
      go_ret3
      exact ⟨u7, by rw [HE.out, HI.out, HQ.out]; rfl, by rw [HE.out]; exact (HR7.out).byl (by have := HQ.out; omega), HB7.out⟩
    subst c6
    have e6 : (Y != Y) = false := by simp
    have HGO := Lib.hid (joinL_go (show beg (s.drop i) (f.drop (4 * q)) = true by rw [HX.out]; simp))
    go_wp2_with fail
    refine k1.out.mono ?_; rintro e w4' ⟨rfl, hb4⟩
    have HB4 := Lib.hid (HB.out.trans (hb4.mono HB.out.size))
    have HR4 := Lib.hid (HR.out.later hb4)
    clear hb4 HB HR k1
    go_wp2_with fail
    refine (k2.out _ HB4.out).mono ?_; rintro e w5' ⟨rfl, hb5⟩
    have HB5 := Lib.hid (HB4.out.trans (hb5.mono HB4.out.size))
    have HR5 := Lib.hid (HR4.out.later hb5)
    clear hb5 HB4 HR4 k2
    go_wp2_with fail
    refine (k3.out _ HB5.out).mono ?_; rintro e w6' ⟨rfl, hb6⟩
    have HB6 := Lib.hid (HB5.out.trans (hb6.mono HB5.out.size))
    have HR6 := Lib.hid (HR5.out.later hb6)
    clear hb6 HB5 HR5 k3
    go_wp2_with fail
    refine (k4.out _ HB6.out).mono ?_; rintro e w7' ⟨rfl, hb7⟩
    have HB7 := Lib.hid (HB6.out.trans (hb7.mono HB6.out.size))
    have HR7 := Lib.hid (HR6.out.later hb7)
    clear hb7 HB6 HR6 k4
    have hal := (Below.refl w7'.heap.size w7').alloc (Nat.le_refl _) (.cells #[] 5)
    have hown := bys_lit w7' w7'.heap.size [] (Nat.le_refl _) (by simp)
    have hsrc := (HV1.out.mono HB7.out HB7.out.size).later hal
    have HAL := Lib.hid hal
    have HSM := Lib.hid (show ([] : List Int).length + (hdL (s.drop i)).length ≤ 1099511627776 by simp; have := HL1.out; omega)
    have HSA := Lib.hid (show w7'.heap.size ≤ (w7'.alloc (.cells #[] 5)).heap.size from hal.size)
    have HLT := Lib.hid (fun k hk => (hown.lt k hk).1)
    have hq1 : pre.length ≤ 1099511627776 := by have := HQ.out; omega
    have HQ1 := Lib.hid hq1
    clear hal hq1
    go_wp2_with (first
      | (at_builtin; refine wpList_bytes rfl _ _ rfl w7'.heap.size (.slice (some ⟨w7'.heap.size, 0, none⟩) 0 0) [] rfl hown _ (hdL (s.drop i)) rfl hsrc HSM.out HSA.out ?_
         intro v8 w8 hown8 hgrow8 _
         rw [List.nil_append] at hown8
         have hb8 := HAL.out.grown hgrow8 HSA.out HLT.out
         have hby8 := bys_own (B := w8.heap.size) hown8 (Nat.le_refl _) (by have := HL1.out; omega) HV1.out.by
         obtain ⟨A8, c8, rfl⟩ := own_shape hown8
         have hf8 := hown8.lt
         rw [HL1.out] at hby8 hf8 ⊢
         obtain ⟨oB, cB, w9, hr9, hrow9, hg9, hov9⟩ := HR7.out.snoc HB7.out.size hb8 hby8 hf8 HQ1.out 44
         have HR9 := Lib.hid hr9
         have HROW := Lib.hid hrow9
         have HB9 := Lib.hid (((HB7.out.trans (hb8.mono HB7.out.size)).alloc (Nat.le_trans HB7.out.size hb8.size) (.cells #[.slice A8 r c8] 31)).grown hg9 (by rw [World.size_alloc]; have := HB7.out.size; have := hb8.size; omega) (fun k e => (hov9 k e).1))
         clear hown hsrc hown8 hgrow8 hby8 hf8 hr9 hrow9 hg9 hov9 hb8)
      | (at_builtin; refine wpList_app 44 _ _ rfl rfl rfl rfl HR9.out ?_))
    go_roundw
    case rel =>
      refine ⟨pre ++ [hdL (s.drop i)], ?_, ?_, ?_, ?_, ?_, ?_, HB9.out⟩
      · exact HROW.out
      · rw [sLen_snoc, HI.out, HL1.out]
      · have := HQ.out; simp; go_num
      · rw [sLen_toNat, HI.out, HL1.out, ← HP.out, HGO.out, List.length_append, HQ.out, HPE.out]
        simp only [List.append_assoc, List.singleton_append, List.drop_drop]
        have e1 : ((i : Int)).toNat = i := rfl
        have e2 : ((r : Int)).toNat = r := rfl
        simp only [e1, e2]
        rfl
      · rw [sLen_snoc, HI.out, HL1.out]; have := C4.out; omega
      · have := HQ.out; have := C2.out; simp; omega
    case measure => have := C2.out; simp [intOf]; omega
end Go.Proofs.Ytbpbdgiglllncaa

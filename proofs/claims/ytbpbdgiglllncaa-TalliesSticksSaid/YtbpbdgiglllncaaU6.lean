/- Layer 9: what two journals tell together: the program's answer. -/
import Derived.Test.YtbpbdgiglllncaaU5
import Derived.Maps.OwnIn
import Derived.Lib.OwnKind
import Derived.Shelf.RegionOpen
set_option linter.all false
namespace Go.Proofs.Ytbpbdgiglllncaa
open Go.RowKit Go.Lib
attribute [local go_sem] Oper.semAt_some

set_option maxRecDepth 100000 in
set_option maxHeartbeats 4000000 in
theorem told_c (A A2 : Option Addr) (n n2 c c2 : Nat) (w : World) : Calls Try.prog 45 #[.slice A n c, .slice A2 n2 c2] w fun e w' => e = .returned (.func (.func 75) #[] #[.pointer (some ⟨w.heap.size, 0, none⟩), .pointer (some ⟨w.heap.size + 1, 0, none⟩)]) ∧
    Box w' w.heap.size 31 #[.slice A n c] ∧ Box w' (w.heap.size + 1) 31 #[.slice A2 n2 c2] ∧ Below w.heap.size w w' := by
  have X := Lib.hid ((Box.made w 31 #[.slice A n c]).alloc (.cells #[.slice A2 n2 c2] 31))
  have Y := Box.made (w.alloc (.cells #[.slice A n c] 31)) 31 #[.slice A2 n2 c2]
  rw [World.size_alloc] at Y
  have Y := Lib.hid Y
  have B := Lib.hid (((Below.refl w.heap.size w).alloc (Nat.le_refl _) (.cells #[.slice A n c] 31)).alloc (by simp) (.cells #[.slice A2 n2 c2] 31))
  go_enter Try.func45, Try.ntmps45
  go_wp2_with fail
  go_ret
  exact ⟨rfl, X.out, Y.out, B.out⟩

/-- an append, met by its run, inside a round too -/
theorem opIn_append {F : Fence} {n : Nat} {ops : Array Oper} {o : Oper} {a : Act} {w w' : World} {v x1 x2 : Value} {K : Act → World → Prop} {Q : Exit → Act → World → Prop} (t : TypeId) (s x : Operand) (hgd : o.guard = none)
    (ho : o.op = .call { callee := .builtin .append, args := #[s, x], argTypes := #[t, t] }) (h1 : a.eval s = x1) (h2 : a.eval x = x2)
    (hr : (Builtin.append_ #[t, t] o.type #[x1, x2]).run Try.prog w = .ok v w') (hK : K (a.put o.dst v) w') :
    if Region.wanted o (yielded ops a.tmps) = true then o.wpIn F n Try.prog a w K Q else (∀ f, o.about Try.prog w a.eval = some f → F.fn f) ∧ K (a.put o.dst undef) w := by
  rw [if_pos (by unfold Region.wanted; rw [hgd])]
  refine ⟨fun f hf => ?_, ?_⟩
  · unfold Oper.about at hf
    rw [ho] at hf
    simp [resolve, Target.leads] at hf
  · rw [Oper.semAt_eq _ _ _ (fun c h => by rw [ho] at h; cases h)]
    have : (execOp a.eval o).run Try.prog w = .ok (.value v) w' := by
      unfold execOp
      simp only [ho, resolve, invoke, builtin, Sem.run_bind, Sem.run_pure, Result.andThen_ok, List.map_toArray, List.map_cons, List.map_nil, h1, h2, hr]
    rw [this]
    exact hK

/-- one more slice at the end of a row of slices that the call itself owns -/
theorem Try.infoBs : (Try.prog.info? 31).map (fun i => (i.zero, i.size, i.bytes)) = some (some (.slice none 0 0), 1, 24) := by kernel_rfl
theorem app_cell (w : World) (base : Nat) (ty : TypeId) (v : Value) (n : Nat) (vs : List Value) (hown : w.ownsRow base 31 1 v n vs) (x : Value) (hx : x.oneCell' = true)
    (hsmall : n ≤ 1099511627776) (hbase : base ≤ w.heap.size) :
    ∃ v' w', (Builtin.append_ #[44, 44] ty #[v, .slice (some ⟨w.heap.size, 0, none⟩) 1 1]).run Try.prog (w.alloc (.cells #[x] 31)) = .ok v' w' ∧ w'.ownsRow base 31 1 v' (n + 1) (vs ++ [x]) ∧ (w.alloc (.cells #[x] 31)).grownBy w' v.ownBlock ∧ (v'.ownBlock = v.ownBlock ∨ v'.ownBlock = some (w.heap.size + 1)) := by
  obtain ⟨i, hi, hi2⟩ := Option.map_eq_some_iff.1 Try.infoBs
  simp only [Prod.mk.injEq] at hi2
  obtain ⟨hz, hsz, hby⟩ := hi2
  have ha := hown.alloc (.cells #[x] 31)
  obtain ⟨v', w', r1, r2, r3, r4, r5⟩ := run_append_own_at (P := Try.prog) (w.alloc (.cells #[x] 31)) base 44 ty 31 i (.slice none 0 0) 1 24 Try.underlying44 hi hz hsz hby rfl (by decide) v n vs ha ⟨w.heap.size, 0, none⟩ 1 1 [x] rfl
    (cell_one_new w x 31) (by intro u hu; simp at hu; subst hu; exact hx) (by unfold maxLen; omega) (by omega) (by simp; omega)
  rw [World.size_alloc] at r5
  exact ⟨v', w', r1, r2, r3, r5⟩

theorem Bys.gr {X Y : World} {B B' : Nat} {v : Value} {xs : List Int} {row : Option Nat} (h : Bys X B v xs) (hg : X.grownBy Y row) (hB : B ≤ B') (hr : ∀ r, row = some r → ∃ o : Obj, X.heap[r]? = some o ∧ o.isCells = false) : Bys Y B' v xs := by
  obtain ⟨h1, h0, A, c, rfl, h2, h3⟩ := h
  refine ⟨h1, h0, A, c, rfl, h2, fun hp => ?_⟩
  obtain ⟨b, off, rfl, hlt, hc⟩ := h3 hp
  exact ⟨b, off, rfl, by omega, fun k hk => cell_kept (hc k hk) hg hr⟩
theorem Cells.gr {X Y : World} {B B' : Nat} {vs : List Value} {l : List (List Int)} {row : Option Nat} (h : Cells X B vs l) (hg : X.grownBy Y row) (hB : B ≤ B') (hr : ∀ r, row = some r → ∃ o : Obj, X.heap[r]? = some o ∧ o.isCells = false) : Cells Y B' vs l :=
  ⟨h.1, fun k s hs => (h.2 k s hs).gr hg hB hr⟩
theorem Box.gr {w w' : World} {g B : Nat} {t : TypeId} {cs : Array Value} {row : Option Nat} (h : Box w g t cs) (hg : w.grownBy w' row) (hr : ∀ r, row = some r → B ≤ r ∧ ∃ o : Obj, w.heap[r]? = some o ∧ o.isCells = false) : Box w' g t cs :=
  h.grown hg (fun e => by obtain ⟨_, o, h1, h2⟩ := hr g e; unfold Box at h; rw [h] at h1; cases h1; cases h2)
theorem Bys.grown {X Y : World} {B B' : Nat} {v : Value} {xs : List Int} {row : Option Nat} (h : Bys X B v xs) (hg : X.grownBy Y row) (hBX : B ≤ X.heap.size) (hB : B ≤ B') (hne : ∀ g, v.ownBlock = some g → some g ≠ row) : Bys Y B' v xs := by
  obtain ⟨h1, h0, A, c, rfl, h2, h3⟩ := h
  refine ⟨h1, h0, A, c, rfl, h2, fun hp => ?_⟩
  obtain ⟨b, off, rfl, hlt, hc⟩ := h3 hp
  exact ⟨b, off, rfl, by omega, fun k hk => (World.cell?_of_block (w := X) (w' := Y) (a := ⟨b, off + k, none⟩) (hg.block b (by omega) (hne b rfl))).trans (hc k hk)⟩
theorem Cells.grown {X Y : World} {B B' : Nat} {vs : List Value} {l : List (List Int)} {row : Option Nat} (h : Cells X B vs l) (hg : X.grownBy Y row) (hBX : B ≤ X.heap.size) (hB : B ≤ B') (hne : ∀ (k : Nat) (s : Value), vs[k]? = some s → ∀ g, s.ownBlock = some g → some g ≠ row) : Cells Y B' vs l :=
  ⟨h.1, fun k s hs => (h.2 k s hs).grown hg hBX hB (hne k s hs)⟩
theorem Bys.blk {X : World} {B : Nat} {v : Value} {xs : List Int} (h : Bys X B v xs) (hp : 0 < xs.length) : ∀ g, v.ownBlock = some g → g < B := by
  obtain ⟨h1, h0, A, c, rfl, h2, h3⟩ := h
  obtain ⟨b, off, rfl, hlt, hc⟩ := h3 hp
  intro g e
  cases e
  exact hlt
/-- the bytes lie in blocks of their own -/
def Fresh (n3 : Nat) (ov : Value) (W : World) (vs : List Value) : Prop := ∀ (k : Nat) (s : Value), vs[k]? = some s → ∀ g, s.ownBlock = some g → n3 ≤ g ∧ g < W.heap.size ∧ ov.ownBlock ≠ some g
/-- what stands between two rounds -/
def JI (w : World) (n3 : Nat) (pre : List (Pc w)) (W : World) : Prop :=
  ∃ ov vs, Box W w.heap.size 44 #[ov] ∧ Box W (w.heap.size + 1) 3 #[.int .i64 (sLen (pcL pre))] ∧ Box W (w.heap.size + 1 + 1) 3 #[.int .i64 (4 * (pre.length : Int))] ∧
    W.ownsRow n3 31 1 ov pre.length vs ∧ Cells W W.heap.size vs (pcL pre) ∧ Fresh n3 ov W vs ∧ Below w.heap.size w W ∧ n3 ≤ W.heap.size
theorem JI.own (w : World) (n3 : Nat) (hn : w.heap.size ≤ n3) : OwnFrom n3 (JI w n3) := by
  rintro pre X Y row ⟨ov, vs, b0, b1, b2, ho, hc, hfr, hb, hn3⟩ hgr hr
  refine ⟨ov, vs, b0.gr hgr hr, b1.gr hgr hr, b2.gr hgr hr, ho.kept hgr ?_, hc.gr hgr hgr.size (fun r e => (hr r e).2), (fun k s hs g e => ⟨(hfr k s hs g e).1, Nat.lt_of_lt_of_le (hfr k s hs g e).2.1 hgr.size, (hfr k s hs g e).2.2⟩), hb.trans ((Below.refl _ X).grown hgr (Nat.le_trans hn hn3) (fun k e => Nat.le_trans hn (hr k e).1)), Nat.le_trans hn3 hgr.size⟩
  by_cases e : ov.ownBlock = row
  · left
    cases hx : ov.ownBlock with
    | none => rfl
    | some g =>
      obtain ⟨cs, fz, hh⟩ := ownsRow_kind ho g hx
      obtain ⟨_, ob, h3, h4⟩ := hr g (by rw [← e, hx])
      rw [hh] at h3; cases h3; cases h4
  · exact .inr e
theorem sLen_bd {w : World} (pre : List (Pc w)) : 0 ≤ sLen (pcL pre) ∧ sLen (pcL pre) ≤ pre.length * 8194 := by
  refine ⟨sLen_nn _, ?_⟩
  induction pre with
  | nil => simp [pcL, sLen]
  | cons x l ih =>
    have := x.2.2
    have e : pcL (x :: l) = x.1.2 :: pcL l := rfl
    rw [e, sLen, List.length_cons]
    omega

theorem tell_len : ∀ (n : Nat) (s f : List Int), f.length ≤ n → (tell n s f).length ≤ f.length := by
  intro n
  induction n with
  | zero => intro s f h; simp [tell]
  | succ n ih =>
    intro s f h
    simp only [tell]
    cases hb : beg s f
    · simp
    · have h4 := (beg_iff.1 hb).2.1
      have := ih (s.drop (2 + (pr s).toNat)) (f.drop 4) (by simp; omega)
      simp at this ⊢
      omega
theorem joinL_len (s f : List Int) : (joinL s f).length ≤ f.length := tell_len _ s f (Nat.le_refl _)

set_option maxRecDepth 100000 in
set_option maxHeartbeats 4000000 in
theorem Join_c (s f : List Int) (vs vf : Value) (w : World) (hs : Bys w w.heap.size vs s) (hf : Bys w w.heap.size vf f) (hsL : s.length ≤ 33554432) (hfL : f.length ≤ 33554432) :
    Calls Try.prog 16 #[vs, vf] w fun e w' => ∃ ov, e = .returned (.tuple #[ov, .int .i64 (sLen (joinL s f)), .int .i64 (4 * ((joinL s f).length : Int))]) ∧ ByL w' w'.heap.size ov (joinL s f) ∧ Below w.heap.size w w' := by
  have HS := Lib.hid hs
  have HF := Lib.hid hf
  have HSL := Lib.hid hsL
  have HFL := Lib.hid hfL
  obtain ⟨A, c, rfl, hc⟩ := hs.shape
  obtain ⟨A', c', rfl, hc'⟩ := hf.shape
  clear hs hf hsL hfL hc hc'
  refine (callsIn_wide (n := 8)).1 ?_
  refine callsIn_of_wp_marks Try.func16 rfl trivial ?_ rfl
  simp only [Try.ntmps16, List.size_toArray, List.length_cons, List.length_nil, Nat.reduceAdd, Nat.reduceSub, Array.replicate_succ, Array.replicate_zero, List.push_toArray, List.append_toArray, List.nil_append, List.cons_append]
  gi_wp2_with fail
  have b4 : Box _ _ _ _ := ((Box.made w 44 #[.slice none 0 0]).alloc (.cells #[.int .i64 0] 3)).alloc (.cells #[.int .i64 0] 3)
  have b5 : Box _ _ _ _ := (Box.made (w.alloc (.cells #[.slice none 0 0] 44)) 3 #[.int .i64 0]).alloc (.cells #[.int .i64 0] 3)
  have b6 : Box _ _ _ _ := Box.made ((w.alloc (.cells #[.slice none 0 0] 44)).alloc (.cells #[.int .i64 0] 3)) 3 #[.int .i64 0]
  simp only [World.size_alloc] at b5 b6
  have hB0 : Below w.heap.size w (((w.alloc (.cells #[.slice none 0 0] 44)).alloc (.cells #[.int .i64 0] 3)).alloc (.cells #[.int .i64 0] 3)) :=
    (((Below.refl _ w).alloc (Nat.le_refl _) _).alloc (by simp) _).alloc (by simp; omega) _
  have hsz : (((w.alloc (.cells #[.slice none 0 0] 44)).alloc (.cells #[.int .i64 0] 3)).alloc (.cells #[.int .i64 0] 3)).heap.size = w.heap.size + 3 := by simp
  obtain ⟨W0, hW0⟩ : ∃ W0, (((w.alloc (.cells #[.slice none 0 0] 44)).alloc (.cells #[.int .i64 0] 3)).alloc (.cells #[.int .i64 0] 3)) = W0 := ⟨_, rfl⟩
  rw [hW0] at b4 b5 b6 hB0 hsz ⊢
  clear hW0
  refine ⟨trivial, (callsIn_wide.2 (told_c A A' s.length f.length c c' W0)).mono ?_⟩
  rintro e w3 ⟨rfl, n1, n2, hb3⟩
  have c4 := b4.later hb3
  have c5 := b5.later hb3
  have c6 := b6.later hb3
  have hs3 := hb3.size
  have hB3 : Below w.heap.size w w3 := hB0.trans (hb3.mono hB0.size)
  have hN1 := n1.lt
  have hN2 := n2.lt
  rw [hsz] at n1 n2 hN1 hN2 hs3 ⊢
  clear b4 b5 b6 hB0 hsz hb3
  gi_wp2_with fail
  have HC4 := Lib.hid c4
  have HW := Lib.hid (JI.own w w3.heap.size (by omega))
  refine wpIn_rangeFunc_ownH (α := Pc w) rfl (by omega) (gf := 75) (lb := #[.pointer (some ⟨w.heap.size + 3, 0, none⟩), .pointer (some ⟨w.heap.size + 3 + 1, 0, none⟩)]) rfl trivial (enters_of Try.func75 (by kernel_rfl) rfl)
    (told_stops 7 (by omega) w s f _ _ HS.out HF.out HSL.out HFL.out (w.heap.size + 3) (w.heap.size + 3 + 1) w3 hB3 n1 n2) belowK_t (belowK_b (by omega)) (Below.refl _ _) (fun _ => rfl)
    (JI w w3.heap.size)
    (fun _ _ _ => False)
    HW.out
    (fun _ _ _ _ _ hs _ _ => hs)
    ⟨.slice none 0 0, [], c4, c5, c6, ⟨by simp, .inl ⟨rfl, rfl⟩⟩, Cells.nil _ _, (fun k s h => by simp at h), hB3, Nat.le_refl _⟩
    (fun x a' W => a' = { tmps := #[Value.slice A s.length c, Value.slice A' f.length c', undef, undef, Value.pointer (some ⟨w.heap.size, 0, none⟩), Value.pointer (some ⟨w.heap.size + 1, 0, none⟩), Value.pointer (some ⟨w.heap.size + 1 + 1, 0, none⟩), x.1.1, Value.slice A s.length c, Value.slice A' f.length c', Value.func (.func 75) #[] #[Value.pointer (some ⟨w.heap.size + 3, 0, none⟩), Value.pointer (some ⟨w.heap.size + 3 + 1, 0, none⟩)], x.1.1, undef, undef, undef, undef, undef, undef, undef, undef, undef, undef, undef, undef, undef, undef, undef], defers := [] })
    (fun x a' _ X Y row hs hg hr => hs)
    ?assign ?body ?done ?stop
  case assign =>
    rintro l pre x W K hI hK
    gi_wp2_with fail
    exact hK _ _ ((KeepsOthers.refl _).from _) (Below.refl _ _) hI rfl
  case stop =>
    rintro D c pre W _ _ h _
    exact h.elim
  case done =>
    rintro D xs W hD hxs hI hK
    obtain ⟨ov, vs, b4, b5, b6, ho, hc, hfr, hb, hn⟩ := hI
    have HFR := Lib.hid hfr
    have hxl : xs.length = (joinL s f).length := by rw [← hxs]; simp [pcL]
    have HL := Lib.hid hxl
    have HLM := Lib.hid (show (joinL s f).length ≤ f.length from joinL_len s f)
    rw [hxs] at b5 hc
    rw [hxl] at b6 ho
    have HOW := Lib.hid ho
    obtain ⟨oA, oc, rfl⟩ := own_shape ho
    have HC := Lib.hid hc
    have HB := Lib.hid hb
    have HB4 := Lib.hid b4
    have HB5 := Lib.hid b5
    have HB6 := Lib.hid b6
    have HK := Lib.hid hK
    have HN := Lib.hid hn
    have hlt := ho.lt
    have q4 : W.cell? ⟨w.heap.size, 0, none⟩ = some _ := b4.cell 0
    have q5 : W.cell? ⟨w.heap.size + 1, 0, none⟩ = some _ := b5.cell 0
    have q6 : W.cell? ⟨w.heap.size + 1 + 1, 0, none⟩ = some _ := b6.cell 0
    have z4 : ∀ o, W.frozen? ⟨w.heap.size, o, none⟩ = false := fun o => b4.free o
    have z5 : ∀ o, W.frozen? ⟨w.heap.size + 1, o, none⟩ = false := fun o => b5.free o
    have z6 : ∀ o, W.frozen? ⟨w.heap.size + 1 + 1, o, none⟩ = false := fun o => b6.free o
    have hmix : Try.prog.follows .mixedOrders = true := by kernel_rfl
    obtain ⟨sl, hsl⟩ : ∃ z, sLen (joinL s f) = z := ⟨_, rfl⟩
    obtain ⟨jl, hjl⟩ : ∃ z, (joinL s f).length = z := ⟨_, rfl⟩
    have HSLL := Lib.hid hsl
    have HJLL := Lib.hid hjl
    rw [hsl] at q5 HB5
    rw [hjl] at q4 q6 HB4 HB6 HL HLM HOW HFR
    clear hsl hjl hfr
    clear b4 b5 b6 ho hc hb hK hn hlt hxs hxl
    gi_wp2_with fail
    gi_region_o
    obtain ⟨WX, hWX⟩ : ∃ WX, (((W.setCell ⟨w.heap.size, 0, none⟩ (.slice oA jl oc)).setCell ⟨w.heap.size + 1, 0, none⟩ (.int .i64 sl)).setCell ⟨w.heap.size + 1 + 1, 0, none⟩ (.int .i64 (4 * (jl : Int)))).drew = WX := ⟨_, rfl⟩
    have k4 : Box WX w.heap.size 44 #[.slice oA jl oc] := by
      rw [← hWX]; exact ((HB4.out.put 0 (.slice oA jl oc)).far (p := ⟨w.heap.size + 1, 0, none⟩) (by simp) _).far (p := ⟨w.heap.size + 1 + 1, 0, none⟩) (by simp; omega) _
    have k5 : Box WX (w.heap.size + 1) 3 #[.int .i64 sl] := by
      rw [← hWX]; exact ((HB5.out.far (p := ⟨w.heap.size, 0, none⟩) (by simp) _).put 0 (.int .i64 sl)).far (p := ⟨w.heap.size + 1 + 1, 0, none⟩) (by simp) _
    have k6 : Box WX (w.heap.size + 1 + 1) 3 #[.int .i64 (4 * (jl : Int))] := by
      rw [← hWX]; exact ((HB6.out.far (p := ⟨w.heap.size, 0, none⟩) (by simp; omega) _).far (p := ⟨w.heap.size + 1, 0, none⟩) (by simp) _).put 0 (.int .i64 (4 * (jl : Int)))
    have hgX : ∀ k, w3.heap.size ≤ k → WX.heap[k]? = W.heap[k]? := fun k hk => by
      rw [← hWX]
      show (((W.setCell ⟨w.heap.size, 0, none⟩ (.slice oA jl oc)).setCell ⟨w.heap.size + 1, 0, none⟩ (.int .i64 sl)).setCell ⟨w.heap.size + 1 + 1, 0, none⟩ (.int .i64 (4 * (jl : Int)))).heap[k]? = _
      rw [Below.heap_setCell _ _ _ _ (by show k ≠ w.heap.size + 1 + 1; omega), Below.heap_setCell _ _ _ _ (by show k ≠ w.heap.size + 1; omega), Below.heap_setCell _ _ _ _ (by show k ≠ w.heap.size; omega)]
    have hbX : Below w.heap.size w WX := by
      rw [← hWX]; exact (((HB.out.setCell (p := ⟨w.heap.size, 0, none⟩) (Nat.le_refl _) _).setCell (p := ⟨w.heap.size + 1, 0, none⟩) (by simp) _).setCell (p := ⟨w.heap.size + 1 + 1, 0, none⟩) (by simp; omega) _).drew
    have hcX : Cells WX WX.heap.size vs (joinL s f) := by
      have g1 := HC.out.grown (grownBy_setCell' W w.heap.size (.slice oA jl oc)) (Nat.le_refl _) (Nat.le_refl _) (fun k s hs g e h => by have := (HFR.out k s hs g e).1; cases h; omega)
      have g2 := g1.grown (grownBy_setCell' (W.setCell ⟨w.heap.size, 0, none⟩ (.slice oA jl oc)) (w.heap.size + 1) (.int .i64 sl)) (by rw [World.size_setCell]; exact Nat.le_refl _) (Nat.le_refl _) (fun k s hs g e h => by have := (HFR.out k s hs g e).1; cases h; omega)
      have g3 := g2.grown (grownBy_setCell' ((W.setCell ⟨w.heap.size, 0, none⟩ (.slice oA jl oc)).setCell ⟨w.heap.size + 1, 0, none⟩ (.int .i64 sl)) (w.heap.size + 1 + 1) (.int .i64 (4 * (jl : Int)))) (by rw [World.size_setCell, World.size_setCell]; exact Nat.le_refl _) (Nat.le_refl _) (fun k s hs g e h => by have := (HFR.out k s hs g e).1; cases h; omega)
      have hsz2 : WX.heap.size = W.heap.size := by rw [← hWX]; simp
      rw [hsz2, ← hWX]
      exact g3.mono (below_drew _) (Nat.le_refl _)
    have hsX : WX.heap.size = W.heap.size := by rw [← hWX]; simp
    have hoX : WX.ownsRow w3.heap.size 31 1 (.slice oA jl oc) jl vs := by
      rw [← hWX]
      exact ((own_far (own_far (own_far HOW.out (p := ⟨w.heap.size, 0, none⟩) (by show w.heap.size < _; omega) _) (p := ⟨w.heap.size + 1, 0, none⟩) (by show w.heap.size + 1 < _; omega) _) (p := ⟨w.heap.size + 1 + 1, 0, none⟩) (by show w.heap.size + 1 + 1 < _; omega) _))
    rw [hWX]
    have HKX := Lib.hid ((hgX D hD).trans HK.out)
    have KX4 := Lib.hid k4
    have KX5 := Lib.hid k5
    have KX6 := Lib.hid k6
    have HBX := Lib.hid hbX
    have HCX := Lib.hid hcX
    have HOX := Lib.hid hoX
    clear q4 q5 q6 z4 z5 z6 hgX hbX hcX hoX hWX k4 k5 k6
    gi_wp2_with fail
    refine ⟨by simp, .inl ⟨_, _, rfl, run_takeDeferred HKX.out, ?_⟩⟩
    have hgp := grownBy_putObj' WX D (Obj.deferred none)
    have hr : ∀ r, some D = some r → 0 ≤ r ∧ ∃ o : Obj, WX.heap[r]? = some o ∧ o.isCells = false := fun r e => by cases e; exact ⟨Nat.zero_le _, _, HKX.out, rfl⟩
    have p4 : (WX.putObj D (Obj.deferred none)).cell? ⟨w.heap.size, 0, none⟩ = some (.slice oA jl oc) := (KX4.out.gr hgp hr).cell 0
    have p5 : (WX.putObj D (Obj.deferred none)).cell? ⟨w.heap.size + 1, 0, none⟩ = some (.int .i64 sl) := (KX5.out.gr hgp hr).cell 0
    have p6 : (WX.putObj D (Obj.deferred none)).cell? ⟨w.heap.size + 1 + 1, 0, none⟩ = some (.int .i64 (4 * (jl : Int))) := (KX6.out.gr hgp hr).cell 0
    refine ⟨.tuple #[.slice oA jl oc, .int .i64 sl, .int .i64 (4 * (jl : Int))], by simp [results, Try.results16, go_sem, p4, p5, p6], ⟨.slice oA jl oc, by rw [HSLL.out, HJLL.out], ?_, HBX.out.trans (belowK_b (w := w) (by omega) WX D _ _ (by omega) HKX.out rfl rfl)⟩⟩
    have ho9 := ownsRow_putObj HOX.out (Obj.deferred none) HKX.out rfl
    rw [← HJLL.out] at ho9 ⊢
    exact byl_own ho9 (HCX.out.gr hgp (Nat.le_refl _) (fun r e => (hr r e).2)) (Nat.le_refl _) hgp.size (by have := HJLL.out; have := HLM.out; have := HFL.out; omega)
  case body =>
    rintro l pre x a' W hl ⟨rec, hrec⟩ hI rfl hlt
    obtain ⟨ov, vs, b4, b5, b6, ho, hc, hfr, hb, hn⟩ := hI
    have hx := x.2.1
    obtain ⟨Ax, cx, hxe, hcx⟩ := hx.shape
    obtain ⟨nx, hnx⟩ : ∃ z, x.1.2.length = z := ⟨_, rfl⟩
    rw [hnx] at hxe hcx
    rw [hxe] at hx ⊢
    have hnx9 : nx ≤ 8192 := by have := x.2.2; omega
    have hp9 : pre.length ≤ 33554432 := by have := HFL.out; omega
    have hsb := sLen_bd pre
    have HNX := Lib.hid hnx
    have HC := Lib.hid hc
    have HFR := Lib.hid hfr
    have HB := Lib.hid hb
    have HN := Lib.hid hn
    have HB4 := Lib.hid b4
    have HB5 := Lib.hid b5
    have HB6 := Lib.hid b6
    have HO := Lib.hid ho
    have HXW := Lib.hid ((hx.mono (B' := W.heap.size) hb hb.size).mono (B' := W.drew.heap.size) (below_drew W) (Nat.le_refl _))
    have hmix : Try.prog.follows .mixedOrders = true := by kernel_rfl
    have q4 : W.cell? ⟨w.heap.size, 0, none⟩ = some _ := b4.cell 0
    obtain ⟨sl, hsl⟩ : ∃ z, sLen (pcL pre) = z := ⟨_, rfl⟩
    have HSL2 := Lib.hid hsl
    rw [hsl] at HB5 hsb
    obtain ⟨pl, hpl⟩ : ∃ z, pre.length = z := ⟨_, rfl⟩
    have HPL := Lib.hid hpl
    rw [hpl] at HB6 HO hp9 hsb
    have HSB := Lib.hid hsb
    have HXL := Lib.hid (show x.1.2.length ≤ 1073741824 by rw [hnx]; omega)
    have hwW : w3.heap.size ≤ W.heap.size := hn
    clear b4 b5 b6 ho hc hfr hb hn hx hxe hcx hnx hsl hpl hsb
    gi_wp2_with fail
    refine Code.wpIn_mono (Q := fun e a' w' => e = .normal ∧ ∃ A2 c2 w2 oB cB w7, a' = { tmps := #[Value.slice A s.length c, Value.slice A' f.length c', undef, undef, Value.pointer (some ⟨w.heap.size, 0, none⟩), Value.pointer (some ⟨w.heap.size + 1, 0, none⟩), Value.pointer (some ⟨w.heap.size + 1 + 1, 0, none⟩), Value.slice Ax nx cx, Value.slice A s.length c, Value.slice A' f.length c', Value.func (.func 75) #[] #[Value.pointer (some ⟨w.heap.size + 3, 0, none⟩), Value.pointer (some ⟨w.heap.size + 3 + 1, 0, none⟩)], Value.slice Ax nx cx, ov, Value.slice Ax nx cx, Value.slice A2 nx c2, Value.slice (some ⟨w2.heap.size, 0, none⟩) 1 1, Value.slice oB (pl + 1) cB, undef, undef, undef, undef, undef, undef, undef, undef, undef, undef], defers := [] } ∧ w' = w7.setCell ⟨w.heap.size, 0, none⟩ (.slice oB (pl + 1) cB) ∧ Below W.heap.size W w2 ∧ Bys w2 w2.heap.size (.slice A2 nx c2) x.1.2 ∧ (∀ g, (Value.slice A2 nx c2).ownBlock = some g → W.heap.size ≤ g ∧ g < w2.heap.size) ∧
      w7.ownsRow w3.heap.size 31 1 (.slice oB (pl + 1) cB) (pl + 1) (vs ++ [.slice A2 nx c2]) ∧ (w2.alloc (.cells #[.slice A2 nx c2] 31)).grownBy w7 ov.ownBlock ∧ ((Value.slice oB (pl + 1) cB).ownBlock = ov.ownBlock ∨ (Value.slice oB (pl + 1) cB).ownBlock = some (w2.heap.size + 1))) ?_ ?_
    rotate_left
    · refine wpIn_region_any (by assumption) ?_
      change wpAnyIn _ _ _ _ _ _ _ _ _ (World.drew _)
      refine wpAnyIn_ready (rs := [0, 1]) (by kernel_rfl) (by simp) ?_
      refine AllReadyIn.cons rfl (fun K hK => ?_) ?_
      · go_simp
        refine hK _ _ ?_
        clear hK K
        refine wpAnyIn_ready (rs := [1]) (by kernel_rfl) (by simp) ?_
        refine AllReadyIn.cons rfl (fun K hK => ?_) AllReadyIn.nil
        go_simp
        refine hK _ _ ?_
        clear hK K
        refine wpAnyIn_ready (rs := [2]) (by kernel_rfl) (by simp) ?_
        refine AllReadyIn.cons rfl (fun K hK => ?_) AllReadyIn.nil
        go_simp
        refine ⟨trivial, (CallsIn.inRound l (callsIn_wide.2 (Clone_c x.1.2 _ W.drew HXW.out HXL.out))).mono ?_⟩
        rintro e w2 ⟨⟨v2, rfl, hv2, hf2⟩, hb2⟩
        obtain ⟨A2, c2, rfl, hc2⟩ := hv2.shape
        rw [HNX.out] at hv2 hf2 ⊢
        have hbW : Below W.heap.size W w2 := (below_drew W).trans hb2
        have ho2 := own_later HO.out hbW
        obtain ⟨v7, w7, hr7, ho7, hg7, hd7⟩ := app_cell w2 w3.heap.size 44 ov pl vs ho2 (.slice A2 nx c2) (by cases A2 <;> rfl) (by omega) (Nat.le_trans hwW hbW.size)
        obtain ⟨oB, cB, rfl⟩ := own_shape ho7
        have k7 := ((HB4.out.later hbW).alloc (.cells #[.slice A2 nx c2] 31)).grown hg7 (fun e => by have := (HO.out.lt _ e).1; omega)
        have g4 : w2.cell? ⟨w.heap.size, 0, none⟩ = some ov := (HB4.out.later hbW).cell 0
        have g44 : ∀ o, (w2.alloc o).cell? ⟨w.heap.size, 0, none⟩ = some ov := fun o => ((HB4.out.later hbW).alloc o).cell 0
        have g7 : w7.cell? ⟨w.heap.size, 0, none⟩ = some ov := k7.cell 0
        have f7 : ∀ o, w7.frozen? ⟨w.heap.size, o, none⟩ = false := fun o => k7.free o
        have HEND := Lib.hid (show Below W.heap.size W w2 ∧ Bys w2 w2.heap.size (.slice A2 nx c2) x.1.2 ∧ (∀ g, (Value.slice A2 nx c2).ownBlock = some g → W.heap.size ≤ g ∧ g < w2.heap.size) ∧
          w7.ownsRow w3.heap.size 31 1 (.slice oB (pl + 1) cB) (pl + 1) (vs ++ [.slice A2 nx c2]) ∧ (w2.alloc (.cells #[.slice A2 nx c2] 31)).grownBy w7 ov.ownBlock ∧ ((Value.slice oB (pl + 1) cB).ownBlock = ov.ownBlock ∨ (Value.slice oB (pl + 1) cB).ownBlock = some (w2.heap.size + 1)) from ⟨hbW, hv2, hf2, ho7, hg7, hd7⟩)
        have HR7 := Lib.hid hr7
        clear hr7 hv2 hf2 hb2 hbW ho2 ho7 hg7 hd7 k7 hc2
        go_simp
        refine hK _ _ ?_
        clear hK K
        refine wpAnyIn_ready (rs := [3]) (by kernel_rfl) (by simp) ?_
        refine AllReadyIn.cons rfl (fun K hK => ?_) AllReadyIn.nil
        go_simp
        refine hK _ _ ?_
        clear hK K
        refine wpAnyIn_ready (rs := [4]) (by kernel_rfl) (by simp) ?_
        refine AllReadyIn.cons rfl (fun K hK => ?_) AllReadyIn.nil
        refine opIn_append 44 _ _ rfl rfl rfl rfl HR7.out (hK _ _ ?_)
        clear hK K
        try simp only [Act.put, List.setIfInBounds_toArray, List.set_cons_zero, List.set_cons_succ]
        refine wpAnyIn_ready (rs := [5]) (by kernel_rfl) (by simp) ?_
        refine AllReadyIn.cons rfl (fun K hK => ?_) AllReadyIn.nil
        go_simp
        refine hK _ _ ?_
        clear hK K
        refine wpAnyIn_done (by kernel_rfl) ?_ _
        exact ⟨rfl, A2, c2, w2, oB, cB, w7, rfl, rfl, HEND.out⟩
      refine AllReadyIn.cons rfl (fun K hK => ?_) ?_
      · go_simp
        refine hK _ _ ?_
        clear hK K
        refine wpAnyIn_ready (rs := [0, 2]) (by kernel_rfl) (by simp) ?_
        refine AllReadyIn.cons rfl (fun K hK => ?_) ?_
        · go_simp
          refine hK _ _ ?_
          clear hK K
          refine wpAnyIn_ready (rs := [2]) (by kernel_rfl) (by simp) ?_
          refine AllReadyIn.cons rfl (fun K hK => ?_) AllReadyIn.nil
          go_simp
          refine ⟨trivial, (CallsIn.inRound l (callsIn_wide.2 (Clone_c x.1.2 _ W.drew HXW.out HXL.out))).mono ?_⟩
          rintro e w2 ⟨⟨v2, rfl, hv2, hf2⟩, hb2⟩
          obtain ⟨A2, c2, rfl, hc2⟩ := hv2.shape
          rw [HNX.out] at hv2 hf2 ⊢
          have hbW : Below W.heap.size W w2 := (below_drew W).trans hb2
          have ho2 := own_later HO.out hbW
          obtain ⟨v7, w7, hr7, ho7, hg7, hd7⟩ := app_cell w2 w3.heap.size 44 ov pl vs ho2 (.slice A2 nx c2) (by cases A2 <;> rfl) (by omega) (Nat.le_trans hwW hbW.size)
          obtain ⟨oB, cB, rfl⟩ := own_shape ho7
          have k7 := ((HB4.out.later hbW).alloc (.cells #[.slice A2 nx c2] 31)).grown hg7 (fun e => by have := (HO.out.lt _ e).1; omega)
          have g4 : w2.cell? ⟨w.heap.size, 0, none⟩ = some ov := (HB4.out.later hbW).cell 0
          have g44 : ∀ o, (w2.alloc o).cell? ⟨w.heap.size, 0, none⟩ = some ov := fun o => ((HB4.out.later hbW).alloc o).cell 0
          have g7 : w7.cell? ⟨w.heap.size, 0, none⟩ = some ov := k7.cell 0
          have f7 : ∀ o, w7.frozen? ⟨w.heap.size, o, none⟩ = false := fun o => k7.free o
          have HEND := Lib.hid (show Below W.heap.size W w2 ∧ Bys w2 w2.heap.size (.slice A2 nx c2) x.1.2 ∧ (∀ g, (Value.slice A2 nx c2).ownBlock = some g → W.heap.size ≤ g ∧ g < w2.heap.size) ∧
            w7.ownsRow w3.heap.size 31 1 (.slice oB (pl + 1) cB) (pl + 1) (vs ++ [.slice A2 nx c2]) ∧ (w2.alloc (.cells #[.slice A2 nx c2] 31)).grownBy w7 ov.ownBlock ∧ ((Value.slice oB (pl + 1) cB).ownBlock = ov.ownBlock ∨ (Value.slice oB (pl + 1) cB).ownBlock = some (w2.heap.size + 1)) from ⟨hbW, hv2, hf2, ho7, hg7, hd7⟩)
          have HR7 := Lib.hid hr7
          clear hr7 hv2 hf2 hb2 hbW ho2 ho7 hg7 hd7 k7 hc2
          go_simp
          refine hK _ _ ?_
          clear hK K
          refine wpAnyIn_ready (rs := [3]) (by kernel_rfl) (by simp) ?_
          refine AllReadyIn.cons rfl (fun K hK => ?_) AllReadyIn.nil
          go_simp
          refine hK _ _ ?_
          clear hK K
          refine wpAnyIn_ready (rs := [4]) (by kernel_rfl) (by simp) ?_
          refine AllReadyIn.cons rfl (fun K hK => ?_) AllReadyIn.nil
          refine opIn_append 44 _ _ rfl rfl rfl rfl HR7.out (hK _ _ ?_)
          clear hK K
          try simp only [Act.put, List.setIfInBounds_toArray, List.set_cons_zero, List.set_cons_succ]
          refine wpAnyIn_ready (rs := [5]) (by kernel_rfl) (by simp) ?_
          refine AllReadyIn.cons rfl (fun K hK => ?_) AllReadyIn.nil
          go_simp
          refine hK _ _ ?_
          clear hK K
          refine wpAnyIn_done (by kernel_rfl) ?_ _
          exact ⟨rfl, A2, c2, w2, oB, cB, w7, rfl, rfl, HEND.out⟩
        refine AllReadyIn.cons rfl (fun K hK => ?_) ?_
        · go_simp
          refine ⟨trivial, (CallsIn.inRound l (callsIn_wide.2 (Clone_c x.1.2 _ W.drew HXW.out HXL.out))).mono ?_⟩
          rintro e w2 ⟨⟨v2, rfl, hv2, hf2⟩, hb2⟩
          obtain ⟨A2, c2, rfl, hc2⟩ := hv2.shape
          rw [HNX.out] at hv2 hf2 ⊢
          have hbW : Below W.heap.size W w2 := (below_drew W).trans hb2
          have ho2 := own_later HO.out hbW
          obtain ⟨v7, w7, hr7, ho7, hg7, hd7⟩ := app_cell w2 w3.heap.size 44 ov pl vs ho2 (.slice A2 nx c2) (by cases A2 <;> rfl) (by omega) (Nat.le_trans hwW hbW.size)
          obtain ⟨oB, cB, rfl⟩ := own_shape ho7
          have k7 := ((HB4.out.later hbW).alloc (.cells #[.slice A2 nx c2] 31)).grown hg7 (fun e => by have := (HO.out.lt _ e).1; omega)
          have g4 : w2.cell? ⟨w.heap.size, 0, none⟩ = some ov := (HB4.out.later hbW).cell 0
          have g44 : ∀ o, (w2.alloc o).cell? ⟨w.heap.size, 0, none⟩ = some ov := fun o => ((HB4.out.later hbW).alloc o).cell 0
          have g7 : w7.cell? ⟨w.heap.size, 0, none⟩ = some ov := k7.cell 0
          have f7 : ∀ o, w7.frozen? ⟨w.heap.size, o, none⟩ = false := fun o => k7.free o
          have HEND := Lib.hid (show Below W.heap.size W w2 ∧ Bys w2 w2.heap.size (.slice A2 nx c2) x.1.2 ∧ (∀ g, (Value.slice A2 nx c2).ownBlock = some g → W.heap.size ≤ g ∧ g < w2.heap.size) ∧
            w7.ownsRow w3.heap.size 31 1 (.slice oB (pl + 1) cB) (pl + 1) (vs ++ [.slice A2 nx c2]) ∧ (w2.alloc (.cells #[.slice A2 nx c2] 31)).grownBy w7 ov.ownBlock ∧ ((Value.slice oB (pl + 1) cB).ownBlock = ov.ownBlock ∨ (Value.slice oB (pl + 1) cB).ownBlock = some (w2.heap.size + 1)) from ⟨hbW, hv2, hf2, ho7, hg7, hd7⟩)
          have HR7 := Lib.hid hr7
          clear hr7 hv2 hf2 hb2 hbW ho2 ho7 hg7 hd7 k7 hc2
          go_simp
          refine hK _ _ ?_
          clear hK K
          refine wpAnyIn_ready (rs := [0, 3]) (by kernel_rfl) (by simp) ?_
          refine AllReadyIn.cons rfl (fun K hK => ?_) ?_
          · go_simp
            refine hK _ _ ?_
            clear hK K
            refine wpAnyIn_ready (rs := [3]) (by kernel_rfl) (by simp) ?_
            refine AllReadyIn.cons rfl (fun K hK => ?_) AllReadyIn.nil
            go_simp
            refine hK _ _ ?_
            clear hK K
            refine wpAnyIn_ready (rs := [4]) (by kernel_rfl) (by simp) ?_
            refine AllReadyIn.cons rfl (fun K hK => ?_) AllReadyIn.nil
            refine opIn_append 44 _ _ rfl rfl rfl rfl HR7.out (hK _ _ ?_)
            clear hK K
            try simp only [Act.put, List.setIfInBounds_toArray, List.set_cons_zero, List.set_cons_succ]
            refine wpAnyIn_ready (rs := [5]) (by kernel_rfl) (by simp) ?_
            refine AllReadyIn.cons rfl (fun K hK => ?_) AllReadyIn.nil
            go_simp
            refine hK _ _ ?_
            clear hK K
            refine wpAnyIn_done (by kernel_rfl) ?_ _
            exact ⟨rfl, A2, c2, w2, oB, cB, w7, rfl, rfl, HEND.out⟩
          refine AllReadyIn.cons rfl (fun K hK => ?_) ?_
          · go_simp
            refine hK _ _ ?_
            clear hK K
            refine wpAnyIn_ready (rs := [0]) (by kernel_rfl) (by simp) ?_
            refine AllReadyIn.cons rfl (fun K hK => ?_) AllReadyIn.nil
            go_simp
            refine hK _ _ ?_
            clear hK K
            refine wpAnyIn_ready (rs := [4]) (by kernel_rfl) (by simp) ?_
            refine AllReadyIn.cons rfl (fun K hK => ?_) AllReadyIn.nil
            refine opIn_append 44 _ _ rfl rfl rfl rfl HR7.out (hK _ _ ?_)
            clear hK K
            try simp only [Act.put, List.setIfInBounds_toArray, List.set_cons_zero, List.set_cons_succ]
            refine wpAnyIn_ready (rs := [5]) (by kernel_rfl) (by simp) ?_
            refine AllReadyIn.cons rfl (fun K hK => ?_) AllReadyIn.nil
            go_simp
            refine hK _ _ ?_
            clear hK K
            refine wpAnyIn_done (by kernel_rfl) ?_ _
            exact ⟨rfl, A2, c2, w2, oB, cB, w7, rfl, rfl, HEND.out⟩
          exact AllReadyIn.nil
        exact AllReadyIn.nil
      exact AllReadyIn.nil
    rintro e a' w' ⟨rfl, A2, c2, w2, oB, cB, w7, rfl, rfl, hbW, hv2, hf2, ho7, hg7, hd7⟩
    have hov := HO.out.lt
    have B2 := hbW.mono (B' := w.heap.size) HB.out.size
    have a4 := (((HB4.out.later hbW).alloc (.cells #[.slice A2 nx c2] 31)).grown hg7 (fun e => by have := (hov _ e).1; omega)).put 0 (.slice oB (pl + 1) cB)
    have a5 := (((HB5.out.later hbW).alloc (.cells #[.slice A2 nx c2] 31)).grown hg7 (fun e => by have := (hov _ e).1; omega)).far (p := ⟨w.heap.size, 0, none⟩) (by simp) (.slice oB (pl + 1) cB)
    have a6 := (((HB6.out.later hbW).alloc (.cells #[.slice A2 nx c2] 31)).grown hg7 (fun e => by have := (hov _ e).1; omega)).far (p := ⟨w.heap.size, 0, none⟩) (by simp; omega) (.slice oB (pl + 1) cB)
    have hs2 := hbW.size
    have hws := HB.out.size
    have hs7 := hg7.size
    rw [World.size_alloc] at hs7
    have B8 : Below w.heap.size W (w7.setCell ⟨w.heap.size, 0, none⟩ (.slice oB (pl + 1) cB)) := ((B2.alloc (by omega) (.cells #[.slice A2 nx c2] 31)).grown hg7 (by rw [World.size_alloc]; omega) (fun k e => by have := (hov k e).1; omega)).setCell (p := ⟨w.heap.size, 0, none⟩) (Nat.le_refl _) _
    have K8 : KeepsFrom w3.heap.size W (w7.setCell ⟨w.heap.size, 0, none⟩ (.slice oB (pl + 1) cB)) :=
      (show KeepsFrom w3.heap.size W w2 from ⟨hbW.size, fun k o _ hk _ => (hbW.block k (Array.getElem?_eq_some_iff.1 hk).1).trans hk⟩).trans (((KeepsOthers.alloc _ _).from _).trans (((KeepsOthers.of_grownBy hg7 (fun j ob h1 h2 => by
            obtain ⟨cs, fz, hh⟩ := ownsRow_kind ((own_later HO.out hbW).alloc (.cells #[.slice A2 nx c2] 31)) j h1
            rw [hh] at h2; cases h2; rfl)).from _).trans ((KeepsOthers.setCell _ _ _).from _)))
    have O8 := own_far ho7 (p := ⟨w.heap.size, 0, none⟩) (by show w.heap.size < _; omega) (.slice oB (pl + 1) cB)
    have c2' := (HC.out.mono hbW hbW.size).snoc hv2
    have hent : ∀ (k : Nat) (s : Value), (vs ++ [.slice A2 nx c2])[k]? = some s → ∀ g, s.ownBlock = some g → w3.heap.size ≤ g ∧ g < w2.heap.size ∧ ov.ownBlock ≠ some g := by
      intro k s hs g e
      rcases Nat.lt_or_ge k vs.length with hk | hk
      · rw [List.getElem?_append_left hk] at hs
        obtain ⟨h1, h2, h3⟩ := HFR.out k s hs g e
        exact ⟨h1, by omega, h3⟩
      · rw [List.getElem?_append_right hk] at hs
        have hz : k - vs.length = 0 := by
          have := (List.getElem?_eq_some_iff.1 hs).1
          simp at this; omega
        rw [hz] at hs
        simp at hs
        subst hs
        obtain ⟨h1, h2⟩ := hf2 g e
        exact ⟨by omega, h2, fun h => by have := (hov g h).2; omega⟩
    have c3' := (c2'.mono (B' := (w2.alloc (.cells #[.slice A2 nx c2] 31)).heap.size) ((Below.refl _ _).alloc (Nat.le_refl _) (.cells #[.slice A2 nx c2] 31)) (by rw [World.size_alloc]; omega)).grown (B' := w7.heap.size) hg7 (Nat.le_refl _) hg7.size (fun k s hs g e h => (hent k s hs g e).2.2 h.symm)
    have C8 := c3'.grown (B' := w7.heap.size) (grownBy_setCell' w7 w.heap.size (.slice oB (pl + 1) cB)) (Nat.le_refl _) (Nat.le_refl _) (fun k s hs g e h => by have := (hent k s hs g e).1; cases h; omega)
    have HENT := Lib.hid hent
    have HD7 := Lib.hid hd7
    have hs8 : (w7.setCell ⟨w.heap.size, 0, none⟩ (.slice oB (pl + 1) cB)).heap.size = w7.heap.size := by simp
    obtain ⟨W8, hW8⟩ : ∃ z, w7.setCell ⟨w.heap.size, 0, none⟩ (.slice oB (pl + 1) cB) = z := ⟨_, rfl⟩
    rw [hW8] at a4 a5 a6 B8 K8 O8 C8 hs8 ⊢
    clear hW8 c3' c2' hent hg7 hd7 hv2 hf2 ho7 hbW
    have A4 := Lib.hid a4
    have A5 := Lib.hid a5
    have A6 := Lib.hid a6
    have BB8 := Lib.hid B8
    have KK8 := Lib.hid K8
    have OO8 := Lib.hid O8
    have CC8 := Lib.hid C8
    have HS8 := Lib.hid hs8
    have HS7 := Lib.hid hs7
    have HW7 := Lib.hid (show w3.heap.size ≤ w7.heap.size by omega)
    have q5 : W8.cell? ⟨w.heap.size + 1, 0, none⟩ = some (.int .i64 sl) := a5.cell 0
    have q6 : W8.cell? ⟨w.heap.size + 1 + 1, 0, none⟩ = some (.int .i64 (4 * (pl : Int))) := a6.cell 0
    have z5 : ∀ o, W8.frozen? ⟨w.heap.size + 1, o, none⟩ = false := fun o => a5.free o
    have z6 : ∀ o, W8.frozen? ⟨w.heap.size + 1 + 1, o, none⟩ = false := fun o => a6.free o
    obtain ⟨s0, s1⟩ := HSB.out
    have w1 : IntKind.wrap .i64 (2 + (nx : Int)) = 2 + (nx : Int) := wrapI (by omega) (by omega)
    have w2' : IntKind.wrap .i64 (sl + (2 + (nx : Int))) = sl + (2 + (nx : Int)) := wrapI (by omega) (by omega)
    have w3' : IntKind.wrap .i64 (4 * (pl : Int) + 4) = 4 * (pl : Int) + 4 := wrapI (by omega) (by omega)
    clear a4 a5 a6 B8 K8 O8 C8 hs8 hs7 hov B2 hs2 hws q4 s0 s1
    gi_wp2_with fail
    have hps : (pre ++ [x]).length = pl + 1 := by rw [List.length_append, HPL.out]; rfl
    have e5 : sLen (pcL (pre ++ [x])) = sl + (2 + (nx : Int)) := by rw [pcL_snoc, sLen_snoc, HSL2.out, HNX.out]
    have e6 : 4 * (((pre ++ [x]).length : Nat) : Int) = 4 * (pl : Int) + 4 := by rw [hps]; omega
    refine ⟨KK8.out.trans (((KeepsOthers.setCell _ _ _).from _).trans ((KeepsOthers.setCell _ _ _).from _)), (BB8.out.setCell (p := ⟨w.heap.size + 1, 0, none⟩) (by simp) _).setCell (p := ⟨w.heap.size + 1 + 1, 0, none⟩) (by simp; omega) _,
      .slice oB (pl + 1) cB, vs ++ [.slice A2 nx c2], ?_, ?_, ?_, ?_, ?_, ?_, ?_, ?_⟩
    · exact ((A4.out.far (p := ⟨w.heap.size + 1, 0, none⟩) (by simp) _).far (p := ⟨w.heap.size + 1 + 1, 0, none⟩) (by simp; omega) _)
    · rw [e5]
      exact ((A5.out.put 0 (.int .i64 (sl + (2 + (nx : Int))))).far (p := ⟨w.heap.size + 1 + 1, 0, none⟩) (by simp) _)
    · rw [e6]
      exact ((A6.out.far (p := ⟨w.heap.size + 1, 0, none⟩) (by simp) _).put 0 (.int .i64 (4 * (pl : Int) + 4)))
    · rw [hps]
      exact own_far (own_far OO8.out (p := ⟨w.heap.size + 1, 0, none⟩) (by show w.heap.size + 1 < _; omega) _) (p := ⟨w.heap.size + 1 + 1, 0, none⟩) (by show w.heap.size + 1 + 1 < _; omega) _
    · rw [pcL_snoc, World.size_setCell, World.size_setCell, HS8.out]
      have g1 := CC8.out.grown (grownBy_setCell' W8 (w.heap.size + 1) (.int .i64 (sl + (2 + (nx : Int))))) (by rw [HS8.out]; exact Nat.le_refl _) (Nat.le_refl _) (fun k s hs g e h => by have := (HENT.out k s hs g e).1; cases h; omega)
      exact g1.grown (grownBy_setCell' (W8.setCell ⟨w.heap.size + 1, 0, none⟩ (.int .i64 (sl + (2 + (nx : Int))))) (w.heap.size + 1 + 1) (.int .i64 (4 * (pl : Int) + 4))) (by rw [World.size_setCell, HS8.out]; exact Nat.le_refl _) (Nat.le_refl _) (fun k s hs g e h => by have := (HENT.out k s hs g e).1; cases h; omega)
    · intro k s hs g e
      obtain ⟨h1, h2, h3⟩ := HENT.out k s hs g e
      refine ⟨h1, ?_, fun h => ?_⟩
      · rw [World.size_setCell, World.size_setCell, HS8.out]; have := HS7.out; omega
      · rcases HD7.out with h4 | h4
        · exact h3 (h4 ▸ h)
        · rw [h4] at h; cases h; omega
    · exact (HB.out.trans BB8.out).setCell (p := ⟨w.heap.size + 1, 0, none⟩) (by simp) _ |>.setCell (p := ⟨w.heap.size + 1 + 1, 0, none⟩) (by simp; omega) _
    · rw [World.size_setCell, World.size_setCell, HS8.out]; exact HW7.out
end Go.Proofs.Ytbpbdgiglllncaa

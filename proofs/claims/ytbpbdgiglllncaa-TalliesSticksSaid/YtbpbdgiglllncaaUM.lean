/- Layer 9: the halves of the specification: all of its bytes. -/
import Derived.Test.YtbpbdgiglllncaaUL
set_option linter.all false
namespace Go.Proofs.Ytbpbdgiglllncaa
open Go.RowKit

/-- an append, met by its run, in a region that draws -/
theorem opH_append {ops : Array Oper} {o : Oper} {a : Act} {w w' : World} {v x1 x2 : Value} {K : Act → World → Prop} {Q : Exit → Act → World → Prop} (t : TypeId) (s x : Operand) (hgd : o.guard = none)
    (ho : o.op = .call { callee := .builtin .append, args := #[s, x], argTypes := #[t, t] }) (h1 : a.eval s = x1) (h2 : a.eval x = x2)
    (hr : (Builtin.append_ #[t, t] o.type #[x1, x2]).run Try.prog w = .ok v w') (hK : K (a.put o.dst v) w') :
    if Region.wanted o (yielded ops a.tmps) = true then Oper.wp Try.prog o a w K Q else K (a.put o.dst undef) w := by
  rw [if_pos (by unfold Region.wanted; rw [hgd])]
  unfold Oper.wp execOp
  simp only [ho, resolve, invoke, builtin, Sem.run_bind, Sem.run_pure, Result.andThen_ok, List.map_toArray, List.map_cons, List.map_nil, h1, h2, hr]
  exact hK
/-- a new slice of bytes -/
def NewBy (W W' : World) (v : Value) (l : List Int) : Prop := Bys W' W'.heap.size v l ∧ ∀ g, v.ownBlock = some g → W.heap.size ≤ g ∧ g < W'.heap.size
theorem NewBy.of {W W1 W' : World} {v : Value} {l : List Int} (h : W'.ownsRow W1.heap.size 5 1 v l.length (bys l)) (hb : W.heap.size ≤ W1.heap.size) (hl : l.length ≤ 140737488351232) (hy : IsBy l) : NewBy W W' v l :=
  ⟨bys_own h (Nat.le_refl _) hl hy, fun g e => ⟨Nat.le_trans hb (h.lt g e).1, (h.lt g e).2⟩⟩

set_option maxRecDepth 100000 in
set_option maxHeartbeats 8000000 in
theorem all_c (D P : List Int) (u1 u2 : Value) (w : World) (hd : Bys w w.heap.size u1 D) (hp : Bys w w.heap.size u2 P) (hl : D.length + P.length ≤ 1073741824) : Calls Try.prog 49 #[.agg #[u1, u2]] w fun e w' => (∃ v, e = .returned v ∧ NewBy w w' v (D ++ P)) ∧ Below w.heap.size w w' := by
  have HD := Lib.hid hd
  have HP := Lib.hid hp
  have HL := Lib.hid hl
  obtain ⟨A1, c1, rfl, -⟩ := hd.shape
  obtain ⟨A2, c2, rfl, -⟩ := hp.shape
  obtain ⟨n1, hn1⟩ : ∃ z, D.length = z := ⟨_, rfl⟩
  obtain ⟨n2, hn2⟩ : ∃ z, P.length = z := ⟨_, rfl⟩
  have HN1 := Lib.hid hn1
  have HN2 := Lib.hid hn2
  rw [hn1] at HD ⊢
  rw [hn2] at HP ⊢
  clear hd hp hl hn1 hn2
  go_enter Try.func49, Try.ntmps49
  go_wp2_with fail
  obtain ⟨W1, hW2⟩ : ∃ Wzz, (w.alloc (.cells #[.slice A1 n1 c1, .slice A2 n2 c2] 60)) = Wzz := ⟨_, rfl⟩
  have B3 := Lib.hid (show Below w.heap.size w W1 by rw [← hW2]; exact ((Below.refl w.heap.size w).alloc (Nat.le_refl _) _))
  have X4 := Lib.hid (show Box W1 (w.heap.size) 60 #[.slice A1 n1 c1, .slice A2 n2 c2] by rw [← hW2]; exact Box.made w 60 #[.slice A1 n1 c1, .slice A2 n2 c2])
  have SZ5 := Lib.hid (show W1.heap.size = w.heap.size + 1 by rw [← hW2]; simp)
  rw [hW2]
  clear hW2
  have q6 : W1.cell? ⟨w.heap.size, 0, none⟩ = some (.slice A1 n1 c1) := X4.out.cell 0
  have q7 : W1.cell? ⟨w.heap.size, 1, none⟩ = some (.slice A2 n2 c2) := X4.out.cell 1
  have hdr12 : Below (W1).heap.size (W1) (W1).drew := (Below.refl _ _).drew
  have lt10 := X4.out.lt
  have lt11 := X4.out.lt
  have hcall13 : ∀ X Y : World, (fun Wz => Wz.cell? ⟨w.heap.size, 0, none⟩ = some (.slice A1 n1 c1) ∧ Wz.cell? ⟨w.heap.size, 1, none⟩ = some (.slice A2 n2 c2) ∧ (W1).heap.size ≤ Wz.heap.size) X → Below X.heap.size X Y → (fun Wz => Wz.cell? ⟨w.heap.size, 0, none⟩ = some (.slice A1 n1 c1) ∧ Wz.cell? ⟨w.heap.size, 1, none⟩ = some (.slice A2 n2 c2) ∧ (W1).heap.size ≤ Wz.heap.size) Y := by
    rintro X Y ⟨z8, z9, xs⟩ hb
    have hb2 := Below.mono (B' := (W1).heap.size) hb xs
    exact ⟨keepd z8 hb2 lt10, keepd z9 hb2 lt11, Nat.le_trans xs hb.size⟩
  have LTB17 := Lib.hid (show w.heap.size < (W1).heap.size from X4.out.lt)
  have BLE18 := Lib.hid B3.out.size
  have hgrow16 : ∀ X Y : World, (fun Wz => Wz.cell? ⟨w.heap.size, 0, none⟩ = some (.slice A1 n1 c1) ∧ Wz.cell? ⟨w.heap.size, 1, none⟩ = some (.slice A2 n2 c2) ∧ (W1).heap.size ≤ Wz.heap.size) X → Below (W1).heap.size X Y → (fun Wz => Wz.cell? ⟨w.heap.size, 0, none⟩ = some (.slice A1 n1 c1) ∧ Wz.cell? ⟨w.heap.size, 1, none⟩ = some (.slice A2 n2 c2) ∧ (W1).heap.size ≤ Wz.heap.size) Y := by
    rintro X Y ⟨z8, z9, xs⟩ hb2
    exact ⟨keepd z8 hb2 lt10, keepd z9 hb2 lt11, Nat.le_trans xs hb2.size⟩
  have hsz19 : ∀ X : World, (fun Wz => Wz.cell? ⟨w.heap.size, 0, none⟩ = some (.slice A1 n1 c1) ∧ Wz.cell? ⟨w.heap.size, 1, none⟩ = some (.slice A2 n2 c2) ∧ (W1).heap.size ≤ Wz.heap.size) X → (W1).heap.size ≤ X.heap.size := by
    rintro X ⟨_, _, xs⟩
    exact xs
  have hini14 : (fun Wz => Wz.cell? ⟨w.heap.size, 0, none⟩ = some (.slice A1 n1 c1) ∧ Wz.cell? ⟨w.heap.size, 1, none⟩ = some (.slice A2 n2 c2) ∧ (W1).heap.size ≤ Wz.heap.size) (W1).drew := ⟨keepd (X4.out.cell 0) hdr12 lt10, keepd (X4.out.cell 1) hdr12 lt11, Nat.le_refl _⟩
  have Hcall13 := Lib.hid hcall13
  have Hini14 := Lib.hid hini14
  have Hgrow16 := Lib.hid hgrow16
  have Hsz19 := Lib.hid hsz19
  clear hcall13 hgrow16 hsz19 hini14 lt10 lt11
  clear q6 q7
  refine wp_region_noPanic ?_
  refine wp_region_held_drew (S := (fun Wz => Wz.cell? ⟨w.heap.size, 0, none⟩ = some (.slice A1 n1 c1) ∧ Wz.cell? ⟨w.heap.size, 1, none⟩ = some (.slice A2 n2 c2) ∧ (W1).heap.size ≤ Wz.heap.size)) (by kernel_rfl) Hini14.out (fun hHeld => ?_)
  obtain ⟨W20, hW21⟩ : ∃ Wzz, (W1).drew = Wzz := ⟨_, rfl⟩
  rw [hW21] at hHeld hdr12 ⊢
  clear hW21
  have X22 := Lib.hid (X4.out.later hdr12)
  have B23 := Lib.hid (B3.out.trans (hdr12.mono B3.out.size))
  clear hdr12
  refine wpAnyH_take (i := 1) (oi := { dst := some 4, op := Op.fieldAddr 60 (Operand.tmp 1) 0, type := 0, pos := "ref.go:214", after := #[], guard := none }) (v := ?vh24) rfl ?hsh24 ?hfh24 ?hrh24 ?hQh24 ?hyh24 (by assumption) ?resth24
  case hsh24 => kernel_rfl
  case hfh24 => kernel_rfl
  case hrh24 => kernel_rfl
  case hQh24 => exact fun _ _ _ h => h
  case hyh24 => (refine Or.inl ⟨by rfl, ?_⟩; intro w hSw; (try dsimp only at hSw); go_simp; try with_reducible rfl)
  try simp only [Act.put, List.setIfInBounds_toArray, List.set_cons_zero, List.set_cons_succ]
  refine wpAnyH_take (i := 2) (oi := { dst := some 5, op := Op.load 31 (Operand.tmp 4), type := 31, pos := "ref.go:214", after := #[{ on := 1, ground := Ground.data }], guard := none }) (v := ?vh25) rfl ?hsh25 ?hfh25 ?hrh25 ?hQh25 ?hyh25 (by assumption) ?resth25
  case hsh25 => kernel_rfl
  case hfh25 => kernel_rfl
  case hrh25 => kernel_rfl
  case hQh25 => exact fun _ _ _ h => h
  case hyh25 => (refine Or.inl ⟨by rfl, ?_⟩; intro w hSw; (try dsimp only at hSw); go_simp; try with_reducible rfl)
  try simp only [Act.put, List.setIfInBounds_toArray, List.set_cons_zero, List.set_cons_succ]
  refine wpAnyH_take (i := 4) (oi := { dst := some 7, op := Op.fieldAddr 60 (Operand.tmp 1) 1, type := 0, pos := "ref.go:214", after := #[], guard := none }) (v := ?vh26) rfl ?hsh26 ?hfh26 ?hrh26 ?hQh26 ?hyh26 (by assumption) ?resth26
  case hsh26 => kernel_rfl
  case hfh26 => kernel_rfl
  case hrh26 => kernel_rfl
  case hQh26 => exact fun _ _ _ h => h
  case hyh26 => (refine Or.inl ⟨by rfl, ?_⟩; intro w hSw; (try dsimp only at hSw); go_simp; try with_reducible rfl)
  try simp only [Act.put, List.setIfInBounds_toArray, List.set_cons_zero, List.set_cons_succ]
  refine wpAnyH_take (i := 5) (oi := { dst := some 8, op := Op.load 31 (Operand.tmp 7), type := 31, pos := "ref.go:214", after := #[{ on := 4, ground := Ground.data }], guard := none }) (v := ?vh27) rfl ?hsh27 ?hfh27 ?hrh27 ?hQh27 ?hyh27 (by assumption) ?resth27
  case hsh27 => kernel_rfl
  case hfh27 => kernel_rfl
  case hrh27 => kernel_rfl
  case hQh27 => exact fun _ _ _ h => h
  case hyh27 => (refine Or.inl ⟨by rfl, ?_⟩; intro w hSw; (try dsimp only at hSw); go_simp; try with_reducible rfl)
  try simp only [Act.put, List.setIfInBounds_toArray, List.set_cons_zero, List.set_cons_succ]
  refine wpAnyH_ready (rs := [0]) (by kernel_rfl) (by simp) ?_
  refine AllReadyH.cons (o := _) (by rfl) (fun K hK => ?_) AllReadyH.nil
  go_simp
  obtain ⟨W28, hW29⟩ : ∃ Wzz, (W20.alloc (.cells #[] 5)) = Wzz := ⟨_, rfl⟩
  have sz32 := Hsz19.out _ hHeld
  have hb30 : Below (W20).heap.size (W20) W28 := by rw [← hW29]; exact (Below.refl _ _).alloc (Nat.le_refl _) _
  have R31 := Lib.hid (show W28.ownsRow (W1).heap.size 5 1 (.slice (some ⟨(W20).heap.size, 0, none⟩) 0 0) ([] : List Int).length (bys []) by rw [← hW29]; exact bys_lit (W20) (W1).heap.size [] sz32 (by simp))
  rw [hW29]
  have X33 := Lib.hid (X22.out.later hb30)
  have B34 := Lib.hid (B23.out.trans (hb30.mono B23.out.size))
  clear X22 B23
  refine hK.out _ _ (Hcall13.out _ _ hHeld hb30) (fun hHeld35 => ?_)
  clear hK K hHeld
  clear hb30 hW29 sz32
  have hHeld := hHeld35
  clear hHeld35
  try simp only [Act.put, List.setIfInBounds_toArray, List.set_cons_zero, List.set_cons_succ]
  refine wpAnyH_ready (rs := [3]) (by kernel_rfl) (by simp) ?_
  refine AllReadyH.cons (o := { dst := some 6, op := Op.call { callee := Callee.builtin Builtin.append, args := #[Operand.tmp 3, Operand.tmp 5], argTypes := #[31, 31] }, type := 31, pos := "ref.go:214", after := #[{ on := 0, ground := Ground.data }, { on := 2, ground := Ground.data }], guard := none }) (by rfl) (fun K hK => ?_) AllReadyH.nil
  have sz42 := Hsz19.out _ hHeld
  obtain ⟨rv36, W37, hr38, ho39, hg40, hn41⟩ := app_bytes (W28) (W1).heap.size _ (.slice (some ⟨(W20).heap.size, 0, none⟩) 0 0) ([] : List Int) R31.out (.slice A1 n1 c1) D (HD.out.mono B34.out B34.out.size) (by have := HL.out; simp; omega) sz42
  refine opH_append 31 _ _ rfl rfl rfl rfl hr38 ?_
  try dsimp only
  have lo44 : ∀ k, (.slice (some ⟨(W20).heap.size, 0, none⟩) 0 0 : Value).ownBlock = some k → (W1).heap.size ≤ k := fun k e => (R31.out.lt k e).1
  have hgb43 : Below (W1).heap.size (W28) W37 := (Below.refl _ _).grown hg40 sz42 lo44
  have X45 := Lib.hid (X33.out.below hgb43 (by have := LTB17.out; omega))
  have B46 := Lib.hid (B34.out.trans (hgb43.mono BLE18.out))
  have R47 := Lib.hid ho39
  refine hK.out _ _ (Hgrow16.out _ _ hHeld hgb43) (fun hHeld48 => ?_)
  clear hK K hHeld
  clear sz42 hr38 ho39 hg40 hn41 lo44 hgb43
  have hHeld := hHeld48
  clear hHeld48
  try simp only [Act.put, List.setIfInBounds_toArray, List.set_cons_zero, List.set_cons_succ]
  refine wpAnyH_ready (rs := [6]) (by kernel_rfl) (by simp) ?_
  refine AllReadyH.cons (o := { dst := some 9, op := Op.call { callee := Callee.builtin Builtin.append, args := #[Operand.tmp 6, Operand.tmp 8], argTypes := #[31, 31] }, type := 31, pos := "ref.go:214", after := #[{ on := 3, ground := Ground.data }, { on := 5, ground := Ground.data }, { on := 3, ground := Ground.chain }], guard := none }) (by rfl) (fun K hK => ?_) AllReadyH.nil
  have sz55 := Hsz19.out _ hHeld
  obtain ⟨rv49, W50, hr51, ho52, hg53, hn54⟩ := app_bytes (W37) (W1).heap.size _ (rv36) (([] : List Int) ++ D) R47.out (.slice A2 n2 c2) P (HP.out.mono B46.out B46.out.size) (by have := HL.out; simp; omega) sz55
  refine opH_append 31 _ _ rfl rfl rfl rfl hr51 ?_
  try dsimp only
  have lo57 : ∀ k, (rv36 : Value).ownBlock = some k → (W1).heap.size ≤ k := fun k e => (R47.out.lt k e).1
  have hgb56 : Below (W1).heap.size (W37) W50 := (Below.refl _ _).grown hg53 sz55 lo57
  have X58 := Lib.hid (X45.out.below hgb56 (by have := LTB17.out; omega))
  have B59 := Lib.hid (B46.out.trans (hgb56.mono BLE18.out))
  have R60 := Lib.hid ho52
  refine hK.out _ _ (Hgrow16.out _ _ hHeld hgb56) (fun hHeld61 => ?_)
  clear hK K hHeld
  clear sz55 hr51 ho52 hg53 hn54 lo57 hgb56
  have hHeld := hHeld61
  clear hHeld61
  try simp only [Act.put, List.setIfInBounds_toArray, List.set_cons_zero, List.set_cons_succ]
  refine wpAnyH_take (i := 7) (oi := { dst := some 2, op := Op.assign (Operand.tmp 9), type := 31, pos := "ref.go:214", after := #[{ on := 6, ground := Ground.data }, { on := 6, ground := Ground.chain }, { on := 0, ground := Ground.phase }, { on := 1, ground := Ground.phase }, { on := 2, ground := Ground.phase }, { on := 3, ground := Ground.phase }, { on := 4, ground := Ground.phase }, { on := 5, ground := Ground.phase }, { on := 6, ground := Ground.phase }], guard := none }) (v := ?vh62) rfl ?hsh62 ?hfh62 ?hrh62 ?hQh62 ?hyh62 (by assumption) ?resth62
  case hsh62 => kernel_rfl
  case hfh62 => kernel_rfl
  case hrh62 => kernel_rfl
  case hQh62 => exact fun _ _ _ h => h
  case hyh62 => (refine Or.inl ⟨by rfl, ?_⟩; intro w hSw; (try dsimp only at hSw); go_simp; try with_reducible rfl)
  try simp only [Act.put, List.setIfInBounds_toArray, List.set_cons_zero, List.set_cons_succ]
  refine wpAnyH_done (by kernel_rfl) ?_ _
  refine NoPanic.normal ?_
  clear hHeld Hcall13 Hini14 Hgrow16 Hsz19
  have q63 : W50.cell? ⟨w.heap.size, 0, none⟩ = some (.slice A1 n1 c1) := X58.out.cell 0
  have q64 : W50.cell? ⟨w.heap.size, 1, none⟩ = some (.slice A2 n2 c2) := X58.out.cell 1
  go_wp2_with fail
  go_ret
  exact ⟨⟨rv49, rfl, NewBy.of (l := D ++ P) (by have h := R60.out; rw [List.nil_append] at h; exact h) BLE18.out (by have := HL.out; simp; omega) (HD.out.by.app HP.out.by)⟩, B59.out⟩

end Go.Proofs.Ytbpbdgiglllncaa

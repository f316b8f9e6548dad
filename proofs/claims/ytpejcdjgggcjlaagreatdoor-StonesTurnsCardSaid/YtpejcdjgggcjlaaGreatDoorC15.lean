/- The walks of readLine and Parse at the examples' text. -/
import Derived.Test.YtpejcdjgggcjlaaGreatDoorC14
namespace Go.Proofs.YtpejcdjgggcjlaaGreatDoor
open Go.RowKit Go.Shelf
attribute [local go_sem] Oper.semAt_some

theorem txt_cut : (⟨(Lib.trimSuffix txt.data.toList (⟨#[10]⟩ : ByteArray).data.toList).toArray⟩ : ByteArray) = lin := by decide +kernel
theorem txt_has : Lib.hasSuffix txt.data.toList (⟨#[10]⟩ : ByteArray).data.toList = true := by decide +kernel
theorem readLine_lin (p : Value) (m : Int) (w : World) (hm : w.cell? ⟨0, 0, none⟩ = some (.int .i64 m)) :
    Calls Tryz.prog 75 #[p, .int .i64 0, .string lin] w fun e w' => e = .returned (.bool false) ∧ Below w.heap.size w w' := by
  go_enter Tryz.func75, Tryz.ntmps75
  go_wp2_with fail
  refine (readHead_lin p m w hm).mono ?_
  rintro e w1 ⟨rfl, hb⟩
  go_wp2_with fail
  go_ret
  exact ⟨rfl, hb⟩

theorem lines_c (s : ByteArray) (w : World) :
    Calls Tryz.prog 73 #[.string s] w fun e w' => e = .returned (.func (.func 86) #[] #[.pointer (some ⟨w.heap.size, 0, none⟩)]) ∧ w' = w.alloc (.cells #[.string s] 9) := by
  go_enter Tryz.func73, Tryz.ntmps73
  go_wp2_with fail
  go_ret
  exact ⟨rfl, rfl⟩
/-- what Parse has in memory while it reads -/
structure PsSt (w W : World) : Prop where
  b0 : Box W w.heap.size 24 #[.int .i64 0, .int .i64 0, .int .i64 0, .slice none 0 0]
  b1 : Box W (w.heap.size + 1) 31 #[.int .i64 0]
  b2 : Box W (w.heap.size + 1 + 1) 3 #[.int .i64 0]
  b4 : Box W (w.heap.size + 1 + 1 + 1 + 1) 3 #[.int .i64 0]
  bel : Below w.heap.size w W
/-- and what it has when it returns -/
structure PsEnd (w W : World) : Prop where
  b0 : Box W w.heap.size 24 #[.int .i64 0, .int .i64 0, .int .i64 0, .slice none 0 0]
  b1 : Box W (w.heap.size + 1) 31 #[.int .i64 11]
  b2 : Box W (w.heap.size + 1 + 1) 3 #[.int .i64 1]
  bel : Below w.heap.size w W

set_option maxRecDepth 100000 in
set_option maxHeartbeats 4000000 in
theorem Parse_txt (m : Int) (w : World) (hm : w.cell? ⟨0, 0, none⟩ = some (.int .i64 m)) (h0 : 0 < w.heap.size) :
    Calls Tryz.prog 45 #[.string txt] w fun e w' => e = .returned (.tuple #[.agg #[.int .i64 0, .int .i64 0, .int .i64 0, .slice none 0 0], .int .i64 11, .int .i64 1]) ∧ Below w.heap.size w w' := by
  have sz := txt_sz
  refine (callsIn_wide (n := 8)).1 ?_
  refine callsIn_of_wp_marks Tryz.func45 rfl trivial ?_ rfl
  simp only [Tryz.ntmps45, List.size_toArray, List.length_cons, List.length_nil, Nat.reduceAdd, Nat.reduceSub, Array.replicate_succ, Array.replicate_zero, List.push_toArray, List.append_toArray, List.nil_append, List.cons_append]
  gi_wp2_with fail
  obtain ⟨V, hV⟩ : ∃ V, ((((w.alloc (.cells #[.int .i64 0, .int .i64 0, .int .i64 0, .slice none 0 0] 24)).alloc (.cells #[.int .i64 0] 31)).alloc (.cells #[.int .i64 0] 3)).alloc (.cells #[.int .i64 0, .int .i64 0, .int .i64 0, .slice none 0 0] 24)).alloc (.cells #[.int .i64 0] 3) = V := ⟨_, rfl⟩
  have hst : PsSt w V := by
    have e1 := Box.made (w.alloc (.cells #[.int .i64 0, .int .i64 0, .int .i64 0, .slice none 0 0] 24)) 31 #[.int .i64 0]
    have e2 := Box.made ((w.alloc (.cells #[.int .i64 0, .int .i64 0, .int .i64 0, .slice none 0 0] 24)).alloc (.cells #[.int .i64 0] 31)) 3 #[.int .i64 0]
    have e4 := Box.made ((((w.alloc (.cells #[.int .i64 0, .int .i64 0, .int .i64 0, .slice none 0 0] 24)).alloc (.cells #[.int .i64 0] 31)).alloc (.cells #[.int .i64 0] 3)).alloc (.cells #[.int .i64 0, .int .i64 0, .int .i64 0, .slice none 0 0] 24)) 3 #[.int .i64 0]
    simp only [World.size_alloc] at e1 e2 e4
    rw [← hV]
    exact ⟨((((Box.made w _ _).alloc _).alloc _).alloc _).alloc _, ((e1.alloc _).alloc _).alloc _, (e2.alloc _).alloc _, e4,
      (((((Below.refl _ _).alloc (Nat.le_refl _) _).alloc (by simp) _).alloc (by simp; omega) _).alloc (by simp; omega) _).alloc (by simp; omega) _⟩
  have hVs : V.heap.size = w.heap.size + 5 := by rw [← hV]; simp
  rw [hV]
  clear hV
  refine ⟨trivial, (callsIn_wide.2 (lines_c txt V)).mono ?_⟩
  rintro e W1 ⟨rfl, hW1⟩
  have b5 : Box W1 V.heap.size 9 #[.string txt] := by rw [hW1]; exact Box.made _ _ _
  have hst1 : PsSt w W1 := by rw [hW1]; exact ⟨hst.b0.alloc _, hst.b1.alloc _, hst.b2.alloc _, hst.b4.alloc _, hst.bel.alloc (by omega) _⟩
  have hWs : W1.heap.size = w.heap.size + 6 := by rw [hW1]; simp; omega
  clear hW1 hst
  generalize V.heap.size = bs at *
  have HVs := Lib.hid hVs
  have HWs := Lib.hid hWs
  clear hVs hWs
  gi_wp2_with fail
  refine rangeFunc_first (n := 8) (by omega) (gf := 86) (lb := #[.pointer (some ⟨bs, 0, none⟩)]) rfl (enters_of Tryz.func86 (by kernel_rfl) rfl) #[.string txt] rfl
    (fun W => (W.setCell ⟨bs, 0, none⟩ (.string nos)).drew) (fun W => (KeepsOthers.setCell _ _ _).trans (KeepsOthers.drew _))
    (fun l Jx W hb hY => lines1_once 7 (by omega) l bs Jx W (b5.below hb (by have := HVs.out; have := HWs.out; omega)) hY)
    ({ tmps := #[.string txt, undef, .pointer (some ⟨w.heap.size, 0, none⟩), .pointer (some ⟨w.heap.size + 1, 0, none⟩), .pointer (some ⟨w.heap.size + 1 + 1, 0, none⟩), .pointer (some ⟨w.heap.size + 1 + 1 + 1, 0, none⟩), .pointer (some ⟨w.heap.size + 1 + 1 + 1 + 1, 0, none⟩), .string txt, undef, undef, .string txt, .int .i64 12, .bool false, undef, .string txt, .func (.func 86) #[] #[.pointer (some ⟨bs, 0, none⟩)], .string txt, undef, undef, undef, undef, undef, undef, undef, undef, undef, undef, undef, undef, undef, undef, undef, undef, undef, undef, undef, undef, undef, undef, undef, undef, undef, undef, undef], defers := [] }) ?assign (PsSt w) (PsEnd w) ?hG ?body ?hIx ?stop
  case assign =>
    intro l W K hK
    gi_wp2_with fail
    exact hK
  case hG =>
    rintro W l o hb hl ⟨r, hr⟩
    have hV := HVs.out
    have hW := HWs.out
    have hbb : Below w.heap.size w W := hst1.bel.trans (hb.mono (by omega))
    have hne : ∀ q, q < w.heap.size + 5 → (some q : Option Nat) ≠ some l := fun q hq e => by injection e with e; omega
    have hne' : ∀ q, q < w.heap.size + 5 → (some l : Option Nat) ≠ some q := fun q hq e => by injection e with e; omega
    exact ⟨(((hst1.b0.below hb (by omega)).far (by dsimp only; omega) _).later ((Below.refl _ _).drew)).grown (grownBy_putObj' _ _ _) (hne' _ (by omega)),
      (((hst1.b1.below hb (by omega)).far (by dsimp only; omega) _).later ((Below.refl _ _).drew)).grown (grownBy_putObj' _ _ _) (hne' _ (by omega)),
      (((hst1.b2.below hb (by omega)).far (by dsimp only; omega) _).later ((Below.refl _ _).drew)).grown (grownBy_putObj' _ _ _) (hne' _ (by omega)),
      (((hst1.b4.below hb (by omega)).far (by dsimp only; omega) _).later ((Below.refl _ _).drew)).grown (grownBy_putObj' _ _ _) (hne' _ (by omega)),
      ((hbb.setCell (by dsimp only; omega) _).drew).grown (grownBy_putObj' _ _ _) (by simp [World.setCell]; have := hbb.size; omega) (fun k e => by injection e with e; omega)⟩
  case hIx =>
    rintro W l o h hl ⟨r, hr⟩
    have hne' : ∀ q t cs, Box W q t cs → (some l : Option Nat) ≠ some q := fun q t cs hb e => by
      injection e with e
      subst e
      unfold Box at hb
      rw [hr] at hb
      cases hb
    exact ⟨h.b0.grown (grownBy_putObj' _ _ _) (hne' _ _ _ h.b0), h.b1.grown (grownBy_putObj' _ _ _) (hne' _ _ _ h.b1), h.b2.grown (grownBy_putObj' _ _ _) (hne' _ _ _ h.b2),
      h.bel.grown (grownBy_putObj' _ _ _) h.bel.size (fun k e => by injection e with e; have := HWs.out; omega)⟩
  case body =>
    rintro l W ⟨r, hr⟩ hl hG
    gi_wp2_with fail
    refine ⟨trivial, (CallsIn.inRound l (callsIn_wide.2 (Tryz.strings_CutSuffix txt ⟨#[10]⟩ W (by decide)))).mono ?_⟩
    rintro e w' ⟨rfl, hw'⟩
    obtain rfl : W = w' := hw'.symm
    rw [txt_cut, txt_has]
    have g4 : W.cell? ⟨w.heap.size + 1 + 1 + 1 + 1, 0, none⟩ = some (.int .i64 0) := hG.b4.cell 0
    have gm : W.cell? ⟨0, 0, none⟩ = some (.int .i64 m) := (hG.bel.cell (p := ⟨0, 0, none⟩) h0).trans hm
    gi_wp2_with fail
    refine ⟨trivial, (CallsIn.inRound l (callsIn_wide.2 (readLine_lin _ m W gm))).mono ?_⟩
    rintro e W2 ⟨rfl, hb2⟩
    have b0 := hG.b0.later hb2
    have b1 := hG.b1.later hb2
    have b2 := hG.b2.later hb2
    have b4 := hG.b4.later hb2
    have hbb : Below w.heap.size w W2 := hG.bel.trans (hb2.mono hG.bel.size)
    have hko : KeepsOthers W W2 := ⟨hb2.size, fun k o hk _ => (hb2.block k (Array.getElem?_eq_some_iff.1 hk).1).trans hk⟩
    clear g4 gm hb2
    have g4 : W2.cell? ⟨w.heap.size + 1 + 1 + 1 + 1, 0, none⟩ = some (.int .i64 0) := b4.cell 0
    have g00 : W2.cell? ⟨w.heap.size, 0, none⟩ = some (.int .i64 0) := b0.cell 0
    have g01 : W2.cell? ⟨w.heap.size, 1, none⟩ = some (.int .i64 0) := b0.cell 1
    have g02 : W2.cell? ⟨w.heap.size, 2, none⟩ = some (.int .i64 0) := b0.cell 2
    have g03 : W2.cell? ⟨w.heap.size, 3, none⟩ = some (.slice none 0 0) := b0.cell 3
    have g10 : W2.cell? ⟨w.heap.size + 1, 0, none⟩ = some (.int .i64 0) := b1.cell 0
    have g20 : W2.cell? ⟨w.heap.size + 1 + 1, 0, none⟩ = some (.int .i64 0) := b2.cell 0
    have f00 := b0.free 0
    have f01 := b0.free 1
    have f02 := b0.free 2
    have f03 := b0.free 3
    have f10 := b1.free 0
    have f20 := b2.free 0
    have hmix : Tryz.prog.follows .mixedOrders = true := by kernel_rfl
    have hw1 : IntKind.i64.wrap 1 = 1 := by decide
    gi_wp2_with fail
    have hend : PsEnd w (((((((W2.setCell ⟨w.heap.size, 0, none⟩ (.int .i64 0)).setCell ⟨w.heap.size, 1, none⟩ (.int .i64 0)).setCell ⟨w.heap.size, 2, none⟩ (.int .i64 0)).setCell ⟨w.heap.size, 3, none⟩ (.slice none 0 0)).setCell ⟨w.heap.size + 1, 0, none⟩ (.int .i64 11)).setCell ⟨w.heap.size + 1 + 1, 0, none⟩ (.int .i64 1)).drew) ∧ KeepsOthers W2 (((((((W2.setCell ⟨w.heap.size, 0, none⟩ (.int .i64 0)).setCell ⟨w.heap.size, 1, none⟩ (.int .i64 0)).setCell ⟨w.heap.size, 2, none⟩ (.int .i64 0)).setCell ⟨w.heap.size, 3, none⟩ (.slice none 0 0)).setCell ⟨w.heap.size + 1, 0, none⟩ (.int .i64 11)).setCell ⟨w.heap.size + 1 + 1, 0, none⟩ (.int .i64 1)).drew) := by
      have e0 := ((((b0.put 0 (.int .i64 0)).put 1 (.int .i64 0)).put 2 (.int .i64 0)).put 3 (.slice none 0 0))
      have e1 := ((((b1.far (p := ⟨w.heap.size, 0, none⟩) (by simp) (.int .i64 0)).far (p := ⟨w.heap.size, 1, none⟩) (by simp) (.int .i64 0)).far (p := ⟨w.heap.size, 2, none⟩) (by simp) (.int .i64 0)).far (p := ⟨w.heap.size, 3, none⟩) (by simp) (.slice none 0 0)).put 0 (.int .i64 11)
      have e2 := (((((b2.far (p := ⟨w.heap.size, 0, none⟩) (by dsimp only; omega) (.int .i64 0)).far (p := ⟨w.heap.size, 1, none⟩) (by dsimp only; omega) (.int .i64 0)).far (p := ⟨w.heap.size, 2, none⟩) (by dsimp only; omega) (.int .i64 0)).far (p := ⟨w.heap.size, 3, none⟩) (by dsimp only; omega) (.slice none 0 0)).far (p := ⟨w.heap.size + 1, 0, none⟩) (by simp) (.int .i64 11)).put 0 (.int .i64 1)
      refine ⟨⟨(((e0.far (p := ⟨w.heap.size + 1, 0, none⟩) (by simp) _).far (p := ⟨w.heap.size + 1 + 1, 0, none⟩) (by dsimp only; omega) _).later ((Below.refl _ _).drew)), ((e1.far (p := ⟨w.heap.size + 1 + 1, 0, none⟩) (by simp) _).later ((Below.refl _ _).drew)), e2.later ((Below.refl _ _).drew),
        ((((((hbb.setCell (by simp) _).setCell (by simp) _).setCell (by simp) _).setCell (by simp) _).setCell (by simp) _).setCell (by dsimp only; omega) _).drew⟩, ?_⟩
      exact ((((((KeepsOthers.setCell _ _ _).trans (KeepsOthers.setCell _ _ _)).trans (KeepsOthers.setCell _ _ _)).trans (KeepsOthers.setCell _ _ _)).trans (KeepsOthers.setCell _ _ _)).trans (KeepsOthers.setCell _ _ _)).trans (KeepsOthers.drew _)
    have Hend := Lib.hid hend
    have Hko := Lib.hid hko
    clear hend b0 b1 b2 b4 hbb hko
    gi_region_with_o fail
    all_goals
      gi_wp2_with fail
      exact ⟨Hko.out.trans Hend.out.2, Hend.out.1⟩
  case stop =>
    intro D W hD h hK
    gi_wp2_with fail
    refine ⟨by simp, .inl ⟨_, _, rfl, run_takeDeferred hK, ?_⟩⟩
    have hne' : ∀ q t cs, Box W q t cs → (some D : Option Nat) ≠ some q := fun q t cs hb e => by
      injection e with e
      subst e
      unfold Box at hb
      rw [hK] at hb
      cases hb
    have e0 := h.b0.grown (grownBy_putObj' W D (.deferred none)) (hne' _ _ _ h.b0)
    have e1 := h.b1.grown (grownBy_putObj' W D (.deferred none)) (hne' _ _ _ h.b1)
    have e2 := h.b2.grown (grownBy_putObj' W D (.deferred none)) (hne' _ _ _ h.b2)
    have q0 : (W.putObj D (.deferred none)).cell? ⟨w.heap.size, 0, none⟩ = some (.int .i64 0) := e0.cell 0
    have q1 : (W.putObj D (.deferred none)).cell? ⟨w.heap.size, 1, none⟩ = some (.int .i64 0) := e0.cell 1
    have q2 : (W.putObj D (.deferred none)).cell? ⟨w.heap.size, 2, none⟩ = some (.int .i64 0) := e0.cell 2
    have q3 : (W.putObj D (.deferred none)).cell? ⟨w.heap.size, 3, none⟩ = some (.slice none 0 0) := e0.cell 3
    have q4 : (W.putObj D (.deferred none)).cell? ⟨w.heap.size + 1, 0, none⟩ = some (.int .i64 11) := e1.cell 0
    have q5 : (W.putObj D (.deferred none)).cell? ⟨w.heap.size + 1 + 1, 0, none⟩ = some (.int .i64 1) := e2.cell 0
    refine ⟨.tuple #[.agg #[.int .i64 0, .int .i64 0, .int .i64 0, .slice none 0 0], .int .i64 11, .int .i64 1], ?_, rfl, h.bel.grown (grownBy_putObj' _ _ _) h.bel.size (fun k e => by injection e with e; have := HWs.out; omega)⟩
    simp [results, Tryz.results45, go_sem, q0, q1, q2, q3, q4, q5]

end Go.Proofs.YtpejcdjgggcjlaaGreatDoor

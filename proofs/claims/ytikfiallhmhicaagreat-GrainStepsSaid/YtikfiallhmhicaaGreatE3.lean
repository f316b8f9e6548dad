/- Layer 3: a grain behind a move, by the program. -/
import Derived.Test.YtikfiallhmhicaaGreatE2
import Derived.Test.YtikfiallhmhicaaGreatHM
set_option linter.all false
namespace Go.Proofs.YtikfiallhmhicaaGreat
open Go.RowKit


theorem hasM_nth {l : List Mv} {m : Mv} (h : hasM l m = true) : ∃ k, k < l.length ∧ nthM l k = m := by
  unfold hasM at h
  rw [List.any_eq_true] at h
  obtain ⟨x, hx, he⟩ := h
  obtain ⟨k, hk, rfl⟩ := List.getElem_of_mem hx
  exact ⟨k, hk, by unfold nthM; rw [eqM_iff.1 he]; simp [hk]⟩
theorem mvB_of_has {l : List Mv} {m : Mv} (hl : listB l = true) (h : hasM l m = true) : mvB m = true := by
  obtain ⟨k, hk, rfl⟩ := hasM_nth h
  have := (listB_parts hl).2 k hk
  unfold okAt at this
  rw [Bool.and_eq_true] at this
  exact this.1
theorem next_g (m : Ml) (a b t mo ms : Int) (mc : Bool) (g : Nat) (w : World) (h : IsGC w g m) (h0 : ckM m = 0) (hs : hasB m.pr ⟨a, b, t⟩ = true) (hm : mvB ⟨mo, ms, mc⟩ = true) : Calls Tryz.prog 76 #[.pointer (some ⟨g, 0, none⟩), .agg #[.int .i64 a, .int .i64 b, .int .i64 t], .agg #[.int .i64 mo, .int .i64 ms, .bool mc]] w fun e w' => e = .returned (.tuple #[stV (nextS m.pr ⟨a, b, t⟩ ⟨mo, ms, mc⟩), .bool (outB m.pr ⟨a, b, t⟩ ⟨mo, ms, mc⟩)]) ∧ Below w.heap.size w w' := by
  by_cases ho : a + mo = m.pr.bed.rings
  · have h1 : outB m.pr ⟨a, b, t⟩ ⟨mo, ms, mc⟩ = true := by unfold outB; exact decide_eq_true ho
    have h2 : nextS m.pr ⟨a, b, t⟩ ⟨mo, ms, mc⟩ = st0 := by unfold nextS; rw [if_pos h1]
    rw [h1, h2]
    exact next_g_out m a b t mo ms mc g w h h0 hs hm ho
  · have h1 : outB m.pr ⟨a, b, t⟩ ⟨mo, ms, mc⟩ = false := by unfold outB; exact decide_eq_false ho
    rw [h1]
    exact next_g_in m a b t mo ms mc g w h h0 hs hm ho
theorem cutsI_01 (m : Ml) (s : St3) (size : Int) (mc : Bool) : cutsI m s size mc = 0 ∨ cutsI m s size mc = 1 := by unfold cutsI; split <;> simp
/-- a grain behind a move -/
def stepV (m : Ml) (s : St3) (size cuts : Int) (x : Mv) : Value := .agg #[.int .i64 (nextS m.pr s x).ring, .int .i64 (nextS m.pr s x).sector, .int .i64 (nextS m.pr s x).turn, .int .i64 (hvN (cutsI m s size x.cut).toNat size), .int .i64 (cuts + cutsI m s size x.cut)]
set_option maxRecDepth 100000 in
set_option maxHeartbeats 8000000 in
theorem step_g (m : Ml) (a b t size cuts mo ms : Int) (mc : Bool) (g : Nat) (w : World) (h : IsGC w g m) (h0 : ckM m = 0) (hs : hasB m.pr ⟨a, b, t⟩ = true) (hm : mvB ⟨mo, ms, mc⟩ = true) (hz : inB size 1 4095 = true) (hc : inB cuts 0 70000 = true) : Calls Tryz.prog 52 #[.pointer (some ⟨g, 0, none⟩), .agg #[.int .i64 a, .int .i64 b, .int .i64 t, .int .i64 size, .int .i64 cuts], .agg #[.int .i64 mo, .int .i64 ms, .bool mc]] w fun e w' => e = .returned (.tuple #[stepV m ⟨a, b, t⟩ size cuts ⟨mo, ms, mc⟩, .bool (outB m.pr ⟨a, b, t⟩ ⟨mo, ms, mc⟩)]) ∧ Below w.heap.size w w' := by
  have HCH0 := Lib.hid h
  have HP := Lib.hid h0
  have HHS := Lib.hid hs
  have HMV := Lib.hid hm
  have hci := cutsI_01 m ⟨a, b, t⟩ size mc
  have hk := inB_iff.1 hc
  unfold stepV
  dsimp only
  obtain ⟨c, hcc⟩ : ∃ c, cutsI m ⟨a, b, t⟩ size mc = c := ⟨_, rfl⟩
  obtain ⟨⟨x, y, z⟩, hn⟩ : ∃ s, nextS m.pr ⟨a, b, t⟩ ⟨mo, ms, mc⟩ = s := ⟨_, rfl⟩
  obtain ⟨ob, ho⟩ : ∃ s, outB m.pr ⟨a, b, t⟩ ⟨mo, ms, mc⟩ = s := ⟨_, rfl⟩
  rw [hcc] at hci
  rw [hcc, hn, ho]
  dsimp only
  have HCI := Lib.hid hcc
  have HS := Lib.hid hn
  have HO := Lib.hid ho
  have HSZ := Lib.hid (show szOk size c = true by rw [szOk_iff]; have := inB_iff.1 hz; omega)
  obtain ⟨hv9, hh⟩ : ∃ k, hvN c.toNat size = k := ⟨_, rfl⟩
  have w1 : IntKind.i64.wrap (cuts + c) = cuts + c := wrap_id (by omega) (by omega)
  obtain ⟨k, hkk⟩ : ∃ k, cuts + c = k := ⟨_, rfl⟩
  rw [hh, hkk]
  rw [hkk] at w1
  have w2 : IntKind.i64.wrap (cuts + c) = k := by rw [hkk]; exact w1
  have HHV := Lib.hid hh
  clear h h0 hs hm hz hc hk hci hcc hn ho hh w1 hkk
  go_enter Tryz.func52, Tryz.ntmps52
  go_wp2_with fail
  obtain ⟨W1, hW2⟩ : ∃ Wzz, (((w.alloc (.cells #[.int .i64 a, .int .i64 b, .int .i64 t, .int .i64 size, .int .i64 cuts] 48)).alloc (.cells #[.int .i64 mo, .int .i64 ms, .bool mc] 50)).alloc (.cells #[.int .i64 0, .int .i64 0, .int .i64 0, .int .i64 0, .int .i64 0] 48)) = Wzz := ⟨_, rfl⟩
  have B3 := Lib.hid (show Below w.heap.size w W1 by rw [← hW2]; exact ((((Below.refl w.heap.size w).alloc (Nat.le_refl _) _).alloc (by first | (simp; done) | (simp; omega)) _).alloc (by first | (simp; done) | (simp; omega)) _))
  have X4 := Lib.hid (show Box W1 (w.heap.size) 48 #[.int .i64 a, .int .i64 b, .int .i64 t, .int .i64 size, .int .i64 cuts] by rw [← hW2]; exact Box.alloc (Box.alloc (Box.made w 48 #[.int .i64 a, .int .i64 b, .int .i64 t, .int .i64 size, .int .i64 cuts]) (.cells #[.int .i64 mo, .int .i64 ms, .bool mc] 50)) (.cells #[.int .i64 0, .int .i64 0, .int .i64 0, .int .i64 0, .int .i64 0] 48))
  have X5 := Lib.hid (show Box W1 (w.heap.size + 1) 50 #[.int .i64 mo, .int .i64 ms, .bool mc] by
    have hz := Box.alloc (Box.made (w.alloc (.cells #[.int .i64 a, .int .i64 b, .int .i64 t, .int .i64 size, .int .i64 cuts] 48)) 50 #[.int .i64 mo, .int .i64 ms, .bool mc]) (.cells #[.int .i64 0, .int .i64 0, .int .i64 0, .int .i64 0, .int .i64 0] 48)
    rw [World.size_alloc] at hz
    rw [← hW2]; exact hz)
  have X6 := Lib.hid (show Box W1 (w.heap.size + 1 + 1) 48 #[.int .i64 0, .int .i64 0, .int .i64 0, .int .i64 0, .int .i64 0] by
    have hz := Box.made ((w.alloc (.cells #[.int .i64 a, .int .i64 b, .int .i64 t, .int .i64 size, .int .i64 cuts] 48)).alloc (.cells #[.int .i64 mo, .int .i64 ms, .bool mc] 50)) 48 #[.int .i64 0, .int .i64 0, .int .i64 0, .int .i64 0, .int .i64 0]
    rw [World.size_alloc, World.size_alloc] at hz
    rw [← hW2]; exact hz)
  have C7 := Lib.hid (HCH0.out.later B3.out)
  have SZ8 := Lib.hid (show W1.heap.size = w.heap.size + 1 + 1 + 1 by rw [← hW2]; simp)
  rw [hW2]
  clear hW2
  have q9 : W1.cell? ⟨w.heap.size, 0, none⟩ = some (.int .i64 a) := X4.out.cell 0
  have q10 : W1.cell? ⟨w.heap.size, 1, none⟩ = some (.int .i64 b) := X4.out.cell 1
  have q11 : W1.cell? ⟨w.heap.size, 2, none⟩ = some (.int .i64 t) := X4.out.cell 2
  have q12 : W1.cell? ⟨w.heap.size, 3, none⟩ = some (.int .i64 size) := X4.out.cell 3
  have q13 : W1.cell? ⟨w.heap.size, 4, none⟩ = some (.int .i64 cuts) := X4.out.cell 4
  have q14 : W1.cell? ⟨w.heap.size + 1, 0, none⟩ = some (.int .i64 mo) := X5.out.cell 0
  have q15 : W1.cell? ⟨w.heap.size + 1, 1, none⟩ = some (.int .i64 ms) := X5.out.cell 1
  have q16 : W1.cell? ⟨w.heap.size + 1, 2, none⟩ = some (.bool mc) := X5.out.cell 2
  have q17 : W1.cell? ⟨w.heap.size + 1 + 1, 0, none⟩ = some (.int .i64 0) := X6.out.cell 0
  have q18 : W1.cell? ⟨w.heap.size + 1 + 1, 1, none⟩ = some (.int .i64 0) := X6.out.cell 1
  have q19 : W1.cell? ⟨w.heap.size + 1 + 1, 2, none⟩ = some (.int .i64 0) := X6.out.cell 2
  have q20 : W1.cell? ⟨w.heap.size + 1 + 1, 3, none⟩ = some (.int .i64 0) := X6.out.cell 3
  have q21 : W1.cell? ⟨w.heap.size + 1 + 1, 4, none⟩ = some (.int .i64 0) := X6.out.cell 4
  have fz22 : ∀ o, W1.frozen? ⟨w.heap.size + 1 + 1, o, none⟩ = false := fun o => X6.out.free o
  go_wp2_with fail
  refine (cuts_g m a b t size mo ms mc g _ C7.out HP.out HHS.out).mono ?_; rintro e v23 ⟨rfl, hb24⟩
  have X25 := Lib.hid (X4.out.later hb24)
  have X26 := Lib.hid (X5.out.later hb24)
  have X27 := Lib.hid (X6.out.later hb24)
  have C28 := Lib.hid (C7.out.later hb24)
  have B29 := Lib.hid (B3.out.trans (hb24.mono B3.out.size))
  clear hb24
  rw [HCI.out]
  clear q9 q10 q11 q12 q13 q14 q15 q16 q17 q18 q19 q20 q21 fz22
  have q30 : v23.cell? ⟨w.heap.size, 0, none⟩ = some (.int .i64 a) := X25.out.cell 0
  have q31 : v23.cell? ⟨w.heap.size, 1, none⟩ = some (.int .i64 b) := X25.out.cell 1
  have q32 : v23.cell? ⟨w.heap.size, 2, none⟩ = some (.int .i64 t) := X25.out.cell 2
  have q33 : v23.cell? ⟨w.heap.size, 3, none⟩ = some (.int .i64 size) := X25.out.cell 3
  have q34 : v23.cell? ⟨w.heap.size, 4, none⟩ = some (.int .i64 cuts) := X25.out.cell 4
  have q35 : v23.cell? ⟨w.heap.size + 1, 0, none⟩ = some (.int .i64 mo) := X26.out.cell 0
  have q36 : v23.cell? ⟨w.heap.size + 1, 1, none⟩ = some (.int .i64 ms) := X26.out.cell 1
  have q37 : v23.cell? ⟨w.heap.size + 1, 2, none⟩ = some (.bool mc) := X26.out.cell 2
  have q38 : v23.cell? ⟨w.heap.size + 1 + 1, 0, none⟩ = some (.int .i64 0) := X27.out.cell 0
  have q39 : v23.cell? ⟨w.heap.size + 1 + 1, 1, none⟩ = some (.int .i64 0) := X27.out.cell 1
  have q40 : v23.cell? ⟨w.heap.size + 1 + 1, 2, none⟩ = some (.int .i64 0) := X27.out.cell 2
  have q41 : v23.cell? ⟨w.heap.size + 1 + 1, 3, none⟩ = some (.int .i64 0) := X27.out.cell 3
  have q42 : v23.cell? ⟨w.heap.size + 1 + 1, 4, none⟩ = some (.int .i64 0) := X27.out.cell 4
  have fz43 : ∀ o, v23.frozen? ⟨w.heap.size + 1 + 1, o, none⟩ = false := fun o => X27.out.free o
  go_wp2_with fail
  refine (next_g m a b t mo ms mc g _ C28.out HP.out HHS.out HMV.out).mono ?_; rintro e v44 ⟨rfl, hb45⟩
  have X46 := Lib.hid (X25.out.later hb45)
  have X47 := Lib.hid (X26.out.later hb45)
  have X48 := Lib.hid (X27.out.later hb45)
  have C49 := Lib.hid (C28.out.later hb45)
  have B50 := Lib.hid (B29.out.trans (hb45.mono B29.out.size))
  clear hb45
  rw [HS.out, HO.out]
  unfold stV
  dsimp only
  have LTQ := Lib.hid X48.out.lt
  clear q30 q31 q32 q33 q34 q35 q36 q37 q38 q39 q40 q41 q42 fz43
  have q51 : v44.cell? ⟨w.heap.size, 0, none⟩ = some (.int .i64 a) := X46.out.cell 0
  have q52 : v44.cell? ⟨w.heap.size, 1, none⟩ = some (.int .i64 b) := X46.out.cell 1
  have q53 : v44.cell? ⟨w.heap.size, 2, none⟩ = some (.int .i64 t) := X46.out.cell 2
  have q54 : v44.cell? ⟨w.heap.size, 3, none⟩ = some (.int .i64 size) := X46.out.cell 3
  have q55 : v44.cell? ⟨w.heap.size, 4, none⟩ = some (.int .i64 cuts) := X46.out.cell 4
  have q56 : v44.cell? ⟨w.heap.size + 1, 0, none⟩ = some (.int .i64 mo) := X47.out.cell 0
  have q57 : v44.cell? ⟨w.heap.size + 1, 1, none⟩ = some (.int .i64 ms) := X47.out.cell 1
  have q58 : v44.cell? ⟨w.heap.size + 1, 2, none⟩ = some (.bool mc) := X47.out.cell 2
  have q59 : v44.cell? ⟨w.heap.size + 1 + 1, 0, none⟩ = some (.int .i64 0) := X48.out.cell 0
  have q60 : v44.cell? ⟨w.heap.size + 1 + 1, 1, none⟩ = some (.int .i64 0) := X48.out.cell 1
  have q61 : v44.cell? ⟨w.heap.size + 1 + 1, 2, none⟩ = some (.int .i64 0) := X48.out.cell 2
  have q62 : v44.cell? ⟨w.heap.size + 1 + 1, 3, none⟩ = some (.int .i64 0) := X48.out.cell 3
  have q63 : v44.cell? ⟨w.heap.size + 1 + 1, 4, none⟩ = some (.int .i64 0) := X48.out.cell 4
  have fz64 : ∀ o, v44.frozen? ⟨w.heap.size + 1 + 1, o, none⟩ = false := fun o => X48.out.free o
  have LT65 := Lib.hid X48.out.lt
  have X66 := Lib.hid (X46.out.alloc (.cells #[.int .i64 x, .int .i64 y, .int .i64 z] 46))
  have X67 := Lib.hid (X47.out.alloc (.cells #[.int .i64 x, .int .i64 y, .int .i64 z] 46))
  have X68 := Lib.hid (X48.out.alloc (.cells #[.int .i64 x, .int .i64 y, .int .i64 z] 46))
  have B69 := Lib.hid (B50.out.alloc B50.out.size (.cells #[.int .i64 x, .int .i64 y, .int .i64 z] 46))
  have X70 := Lib.hid (Box.made v44 46 #[.int .i64 x, .int .i64 y, .int .i64 z])
  have q71 : (v44.alloc (.cells #[.int .i64 x, .int .i64 y, .int .i64 z] 46)).cell? ⟨w.heap.size, 0, none⟩ = some (.int .i64 a) := X66.out.cell 0
  have q72 : (v44.alloc (.cells #[.int .i64 x, .int .i64 y, .int .i64 z] 46)).cell? ⟨w.heap.size, 1, none⟩ = some (.int .i64 b) := X66.out.cell 1
  have q73 : (v44.alloc (.cells #[.int .i64 x, .int .i64 y, .int .i64 z] 46)).cell? ⟨w.heap.size, 2, none⟩ = some (.int .i64 t) := X66.out.cell 2
  have q74 : (v44.alloc (.cells #[.int .i64 x, .int .i64 y, .int .i64 z] 46)).cell? ⟨w.heap.size, 3, none⟩ = some (.int .i64 size) := X66.out.cell 3
  have q75 : (v44.alloc (.cells #[.int .i64 x, .int .i64 y, .int .i64 z] 46)).cell? ⟨w.heap.size, 4, none⟩ = some (.int .i64 cuts) := X66.out.cell 4
  have q76 : (v44.alloc (.cells #[.int .i64 x, .int .i64 y, .int .i64 z] 46)).cell? ⟨w.heap.size + 1, 0, none⟩ = some (.int .i64 mo) := X67.out.cell 0
  have q77 : (v44.alloc (.cells #[.int .i64 x, .int .i64 y, .int .i64 z] 46)).cell? ⟨w.heap.size + 1, 1, none⟩ = some (.int .i64 ms) := X67.out.cell 1
  have q78 : (v44.alloc (.cells #[.int .i64 x, .int .i64 y, .int .i64 z] 46)).cell? ⟨w.heap.size + 1, 2, none⟩ = some (.bool mc) := X67.out.cell 2
  have q79 : (v44.alloc (.cells #[.int .i64 x, .int .i64 y, .int .i64 z] 46)).cell? ⟨w.heap.size + 1 + 1, 0, none⟩ = some (.int .i64 0) := X68.out.cell 0
  have q80 : (v44.alloc (.cells #[.int .i64 x, .int .i64 y, .int .i64 z] 46)).cell? ⟨w.heap.size + 1 + 1, 1, none⟩ = some (.int .i64 0) := X68.out.cell 1
  have q81 : (v44.alloc (.cells #[.int .i64 x, .int .i64 y, .int .i64 z] 46)).cell? ⟨w.heap.size + 1 + 1, 2, none⟩ = some (.int .i64 0) := X68.out.cell 2
  have q82 : (v44.alloc (.cells #[.int .i64 x, .int .i64 y, .int .i64 z] 46)).cell? ⟨w.heap.size + 1 + 1, 3, none⟩ = some (.int .i64 0) := X68.out.cell 3
  have q83 : (v44.alloc (.cells #[.int .i64 x, .int .i64 y, .int .i64 z] 46)).cell? ⟨w.heap.size + 1 + 1, 4, none⟩ = some (.int .i64 0) := X68.out.cell 4
  have fz84 : ∀ o, (v44.alloc (.cells #[.int .i64 x, .int .i64 y, .int .i64 z] 46)).frozen? ⟨w.heap.size + 1 + 1, o, none⟩ = false := fun o => X68.out.free o
  have q85 : (v44.alloc (.cells #[.int .i64 x, .int .i64 y, .int .i64 z] 46)).cell? ⟨v44.heap.size, 0, none⟩ = some (.int .i64 x) := X70.out.cell 0
  have q86 : (v44.alloc (.cells #[.int .i64 x, .int .i64 y, .int .i64 z] 46)).cell? ⟨v44.heap.size, 1, none⟩ = some (.int .i64 y) := X70.out.cell 1
  have q87 : (v44.alloc (.cells #[.int .i64 x, .int .i64 y, .int .i64 z] 46)).cell? ⟨v44.heap.size, 2, none⟩ = some (.int .i64 z) := X70.out.cell 2
  go_wp2_with fail
  have hdr110 : Below ((v44.alloc (.cells #[.int .i64 x, .int .i64 y, .int .i64 z] 46))).heap.size ((v44.alloc (.cells #[.int .i64 x, .int .i64 y, .int .i64 z] 46))) ((v44.alloc (.cells #[.int .i64 x, .int .i64 y, .int .i64 z] 46))).drew := (Below.refl _ _).drew
  have lt99 := X66.out.lt
  have lt100 := X66.out.lt
  have lt101 := X66.out.lt
  have lt102 := X66.out.lt
  have lt103 := X66.out.lt
  have lt104 := X67.out.lt
  have lt105 := X67.out.lt
  have lt106 := X67.out.lt
  have lt107 := X70.out.lt
  have lt108 := X70.out.lt
  have lt109 := X70.out.lt
  have hcall111 : ∀ X Y : World, (fun Wz => Wz.cell? ⟨w.heap.size, 0, none⟩ = some (.int .i64 a) ∧ Wz.cell? ⟨w.heap.size, 1, none⟩ = some (.int .i64 b) ∧ Wz.cell? ⟨w.heap.size, 2, none⟩ = some (.int .i64 t) ∧ Wz.cell? ⟨w.heap.size, 3, none⟩ = some (.int .i64 size) ∧ Wz.cell? ⟨w.heap.size, 4, none⟩ = some (.int .i64 cuts) ∧ Wz.cell? ⟨w.heap.size + 1, 0, none⟩ = some (.int .i64 mo) ∧ Wz.cell? ⟨w.heap.size + 1, 1, none⟩ = some (.int .i64 ms) ∧ Wz.cell? ⟨w.heap.size + 1, 2, none⟩ = some (.bool mc) ∧ Wz.cell? ⟨v44.heap.size, 0, none⟩ = some (.int .i64 x) ∧ Wz.cell? ⟨v44.heap.size, 1, none⟩ = some (.int .i64 y) ∧ Wz.cell? ⟨v44.heap.size, 2, none⟩ = some (.int .i64 z) ∧ ((v44.alloc (.cells #[.int .i64 x, .int .i64 y, .int .i64 z] 46))).heap.size ≤ Wz.heap.size) X → Below X.heap.size X Y → (fun Wz => Wz.cell? ⟨w.heap.size, 0, none⟩ = some (.int .i64 a) ∧ Wz.cell? ⟨w.heap.size, 1, none⟩ = some (.int .i64 b) ∧ Wz.cell? ⟨w.heap.size, 2, none⟩ = some (.int .i64 t) ∧ Wz.cell? ⟨w.heap.size, 3, none⟩ = some (.int .i64 size) ∧ Wz.cell? ⟨w.heap.size, 4, none⟩ = some (.int .i64 cuts) ∧ Wz.cell? ⟨w.heap.size + 1, 0, none⟩ = some (.int .i64 mo) ∧ Wz.cell? ⟨w.heap.size + 1, 1, none⟩ = some (.int .i64 ms) ∧ Wz.cell? ⟨w.heap.size + 1, 2, none⟩ = some (.bool mc) ∧ Wz.cell? ⟨v44.heap.size, 0, none⟩ = some (.int .i64 x) ∧ Wz.cell? ⟨v44.heap.size, 1, none⟩ = some (.int .i64 y) ∧ Wz.cell? ⟨v44.heap.size, 2, none⟩ = some (.int .i64 z) ∧ ((v44.alloc (.cells #[.int .i64 x, .int .i64 y, .int .i64 z] 46))).heap.size ≤ Wz.heap.size) Y := by
    rintro X Y ⟨z88, z89, z90, z91, z92, z93, z94, z95, z96, z97, z98, xs⟩ hb
    have hb2 := Below.mono (B' := ((v44.alloc (.cells #[.int .i64 x, .int .i64 y, .int .i64 z] 46))).heap.size) hb xs
    exact ⟨keepd z88 hb2 lt99, keepd z89 hb2 lt100, keepd z90 hb2 lt101, keepd z91 hb2 lt102, keepd z92 hb2 lt103, keepd z93 hb2 lt104, keepd z94 hb2 lt105, keepd z95 hb2 lt106, keepd z96 hb2 lt107, keepd z97 hb2 lt108, keepd z98 hb2 lt109, Nat.le_trans xs hb.size⟩
  have ne114 : w.heap.size ≠ w.heap.size + 1 + 1 := by first | (simp; done) | (simp; omega) | omega
  have ne119 : w.heap.size + 1 ≠ w.heap.size + 1 + 1 := by first | (simp; done) | (simp; omega) | omega
  have ne122 : v44.heap.size ≠ w.heap.size + 1 + 1 := by have := LTQ.out; first | omega | (dsimp only; omega)
  have hput113 : ∀ (X : World) (o : Nat) (v : Value), (fun Wz => Wz.cell? ⟨w.heap.size, 0, none⟩ = some (.int .i64 a) ∧ Wz.cell? ⟨w.heap.size, 1, none⟩ = some (.int .i64 b) ∧ Wz.cell? ⟨w.heap.size, 2, none⟩ = some (.int .i64 t) ∧ Wz.cell? ⟨w.heap.size, 3, none⟩ = some (.int .i64 size) ∧ Wz.cell? ⟨w.heap.size, 4, none⟩ = some (.int .i64 cuts) ∧ Wz.cell? ⟨w.heap.size + 1, 0, none⟩ = some (.int .i64 mo) ∧ Wz.cell? ⟨w.heap.size + 1, 1, none⟩ = some (.int .i64 ms) ∧ Wz.cell? ⟨w.heap.size + 1, 2, none⟩ = some (.bool mc) ∧ Wz.cell? ⟨v44.heap.size, 0, none⟩ = some (.int .i64 x) ∧ Wz.cell? ⟨v44.heap.size, 1, none⟩ = some (.int .i64 y) ∧ Wz.cell? ⟨v44.heap.size, 2, none⟩ = some (.int .i64 z) ∧ ((v44.alloc (.cells #[.int .i64 x, .int .i64 y, .int .i64 z] 46))).heap.size ≤ Wz.heap.size) X → (fun Wz => Wz.cell? ⟨w.heap.size, 0, none⟩ = some (.int .i64 a) ∧ Wz.cell? ⟨w.heap.size, 1, none⟩ = some (.int .i64 b) ∧ Wz.cell? ⟨w.heap.size, 2, none⟩ = some (.int .i64 t) ∧ Wz.cell? ⟨w.heap.size, 3, none⟩ = some (.int .i64 size) ∧ Wz.cell? ⟨w.heap.size, 4, none⟩ = some (.int .i64 cuts) ∧ Wz.cell? ⟨w.heap.size + 1, 0, none⟩ = some (.int .i64 mo) ∧ Wz.cell? ⟨w.heap.size + 1, 1, none⟩ = some (.int .i64 ms) ∧ Wz.cell? ⟨w.heap.size + 1, 2, none⟩ = some (.bool mc) ∧ Wz.cell? ⟨v44.heap.size, 0, none⟩ = some (.int .i64 x) ∧ Wz.cell? ⟨v44.heap.size, 1, none⟩ = some (.int .i64 y) ∧ Wz.cell? ⟨v44.heap.size, 2, none⟩ = some (.int .i64 z) ∧ ((v44.alloc (.cells #[.int .i64 x, .int .i64 y, .int .i64 z] 46))).heap.size ≤ Wz.heap.size) (X.setCell ⟨w.heap.size + 1 + 1, o, none⟩ v) := by
    rintro X o v ⟨z88, z89, z90, z91, z92, z93, z94, z95, z96, z97, z98, xs⟩
    exact ⟨(World.cell?_setCell_other X _ _ v (fun e => ne114 (congrArg Addr.block e).symm)).trans z88, (World.cell?_setCell_other X _ _ v (fun e => ne114 (congrArg Addr.block e).symm)).trans z89, (World.cell?_setCell_other X _ _ v (fun e => ne114 (congrArg Addr.block e).symm)).trans z90, (World.cell?_setCell_other X _ _ v (fun e => ne114 (congrArg Addr.block e).symm)).trans z91, (World.cell?_setCell_other X _ _ v (fun e => ne114 (congrArg Addr.block e).symm)).trans z92, (World.cell?_setCell_other X _ _ v (fun e => ne119 (congrArg Addr.block e).symm)).trans z93, (World.cell?_setCell_other X _ _ v (fun e => ne119 (congrArg Addr.block e).symm)).trans z94, (World.cell?_setCell_other X _ _ v (fun e => ne119 (congrArg Addr.block e).symm)).trans z95, (World.cell?_setCell_other X _ _ v (fun e => ne122 (congrArg Addr.block e).symm)).trans z96, (World.cell?_setCell_other X _ _ v (fun e => ne122 (congrArg Addr.block e).symm)).trans z97, (World.cell?_setCell_other X _ _ v (fun e => ne122 (congrArg Addr.block e).symm)).trans z98, by rw [World.size_setCell]; exact xs⟩
  have hini112 : (fun Wz => Wz.cell? ⟨w.heap.size, 0, none⟩ = some (.int .i64 a) ∧ Wz.cell? ⟨w.heap.size, 1, none⟩ = some (.int .i64 b) ∧ Wz.cell? ⟨w.heap.size, 2, none⟩ = some (.int .i64 t) ∧ Wz.cell? ⟨w.heap.size, 3, none⟩ = some (.int .i64 size) ∧ Wz.cell? ⟨w.heap.size, 4, none⟩ = some (.int .i64 cuts) ∧ Wz.cell? ⟨w.heap.size + 1, 0, none⟩ = some (.int .i64 mo) ∧ Wz.cell? ⟨w.heap.size + 1, 1, none⟩ = some (.int .i64 ms) ∧ Wz.cell? ⟨w.heap.size + 1, 2, none⟩ = some (.bool mc) ∧ Wz.cell? ⟨v44.heap.size, 0, none⟩ = some (.int .i64 x) ∧ Wz.cell? ⟨v44.heap.size, 1, none⟩ = some (.int .i64 y) ∧ Wz.cell? ⟨v44.heap.size, 2, none⟩ = some (.int .i64 z) ∧ ((v44.alloc (.cells #[.int .i64 x, .int .i64 y, .int .i64 z] 46))).heap.size ≤ Wz.heap.size) ((v44.alloc (.cells #[.int .i64 x, .int .i64 y, .int .i64 z] 46))).drew := ⟨keepd (X66.out.cell 0) hdr110 lt99, keepd (X66.out.cell 1) hdr110 lt100, keepd (X66.out.cell 2) hdr110 lt101, keepd (X66.out.cell 3) hdr110 lt102, keepd (X66.out.cell 4) hdr110 lt103, keepd (X67.out.cell 0) hdr110 lt104, keepd (X67.out.cell 1) hdr110 lt105, keepd (X67.out.cell 2) hdr110 lt106, keepd (X70.out.cell 0) hdr110 lt107, keepd (X70.out.cell 1) hdr110 lt108, keepd (X70.out.cell 2) hdr110 lt109, Nat.le_refl _⟩
  have Hcall111 := Lib.hid hcall111
  have Hini112 := Lib.hid hini112
  have Hput113 := Lib.hid hput113
  clear hcall111 ne114 ne119 ne122 hput113 hini112 lt99 lt100 lt101 lt102 lt103 lt104 lt105 lt106 lt107 lt108 lt109
  clear q71 q72 q73 q74 q75 q76 q77 q78 q79 q80 q81 q82 q83 fz84 q85 q86 q87 q51 q52 q53 q54 q55 q56 q57 q58 q59 q60 q61 q62 q63 fz64
  refine wp_region_noPanic ?_
  refine wp_region_held_drew (S := (fun Wz => Wz.cell? ⟨w.heap.size, 0, none⟩ = some (.int .i64 a) ∧ Wz.cell? ⟨w.heap.size, 1, none⟩ = some (.int .i64 b) ∧ Wz.cell? ⟨w.heap.size, 2, none⟩ = some (.int .i64 t) ∧ Wz.cell? ⟨w.heap.size, 3, none⟩ = some (.int .i64 size) ∧ Wz.cell? ⟨w.heap.size, 4, none⟩ = some (.int .i64 cuts) ∧ Wz.cell? ⟨w.heap.size + 1, 0, none⟩ = some (.int .i64 mo) ∧ Wz.cell? ⟨w.heap.size + 1, 1, none⟩ = some (.int .i64 ms) ∧ Wz.cell? ⟨w.heap.size + 1, 2, none⟩ = some (.bool mc) ∧ Wz.cell? ⟨v44.heap.size, 0, none⟩ = some (.int .i64 x) ∧ Wz.cell? ⟨v44.heap.size, 1, none⟩ = some (.int .i64 y) ∧ Wz.cell? ⟨v44.heap.size, 2, none⟩ = some (.int .i64 z) ∧ ((v44.alloc (.cells #[.int .i64 x, .int .i64 y, .int .i64 z] 46))).heap.size ≤ Wz.heap.size)) (by kernel_rfl) Hini112.out (fun hHeld => ?_)
  obtain ⟨W125, hW126⟩ : ∃ Wzz, ((v44.alloc (.cells #[.int .i64 x, .int .i64 y, .int .i64 z] 46))).drew = Wzz := ⟨_, rfl⟩
  rw [hW126] at hHeld hdr110 ⊢
  clear hW126
  have X127 := Lib.hid (X66.out.later hdr110)
  have X128 := Lib.hid (X67.out.later hdr110)
  have X129 := Lib.hid (X68.out.later hdr110)
  have X130 := Lib.hid (X70.out.later hdr110)
  have B131 := Lib.hid (B69.out.trans (hdr110.mono B69.out.size))
  clear hdr110
  refine wpAnyH_take (i := 0) (oi := { dst := some 25, op := Op.load 46 (Operand.tmp 9), type := 46, pos := "steps.go:93", after := #[], guard := none }) (v := ?vh132) rfl ?hsh132 ?hfh132 ?hrh132 ?hQh132 ?hyh132 (by assumption) ?resth132
  case hsh132 => kernel_rfl
  case hfh132 => kernel_rfl
  case hrh132 => kernel_rfl
  case hQh132 => exact fun _ _ _ h => h
  case hyh132 => (refine Or.inl ⟨by rfl, ?_⟩; intro w hSw; (try dsimp only at hSw); go_simp; try with_reducible rfl)
  try simp only [Act.put, List.setIfInBounds_toArray, List.set_cons_zero, List.set_cons_succ]
  refine wpAnyH_take (i := 1) (oi := { dst := some 26, op := Op.fieldAddr 48 (Operand.tmp 4) 1, type := 0, pos := "steps.go:93", after := #[], guard := none }) (v := ?vh133) rfl ?hsh133 ?hfh133 ?hrh133 ?hQh133 ?hyh133 (by assumption) ?resth133
  case hsh133 => kernel_rfl
  case hfh133 => kernel_rfl
  case hrh133 => kernel_rfl
  case hQh133 => exact fun _ _ _ h => h
  case hyh133 => (refine Or.inl ⟨by rfl, ?_⟩; intro w hSw; (try dsimp only at hSw); go_simp; try with_reducible rfl)
  try simp only [Act.put, List.setIfInBounds_toArray, List.set_cons_zero, List.set_cons_succ]
  refine wpAnyH_take (i := 2) (oi := { dst := some 27, op := Op.load 3 (Operand.tmp 26), type := 3, pos := "steps.go:93", after := #[{ on := 1, ground := Ground.data }], guard := none }) (v := ?vh134) rfl ?hsh134 ?hfh134 ?hrh134 ?hQh134 ?hyh134 (by assumption) ?resth134
  case hsh134 => kernel_rfl
  case hfh134 => kernel_rfl
  case hrh134 => kernel_rfl
  case hQh134 => exact fun _ _ _ h => h
  case hyh134 => (refine Or.inl ⟨by rfl, ?_⟩; intro w hSw; (try dsimp only at hSw); go_simp; try with_reducible rfl)
  try simp only [Act.put, List.setIfInBounds_toArray, List.set_cons_zero, List.set_cons_succ]
  refine wpAnyH_take (i := 3) (oi := { dst := some 28, op := Op.move (Operand.tmp 8), type := 3, pos := "steps.go:93", after := #[], guard := none }) (v := ?vh135) rfl ?hsh135 ?hfh135 ?hrh135 ?hQh135 ?hyh135 (by assumption) ?resth135
  case hsh135 => kernel_rfl
  case hfh135 => kernel_rfl
  case hrh135 => kernel_rfl
  case hQh135 => exact fun _ _ _ h => h
  case hyh135 => (refine Or.inl ⟨by rfl, ?_⟩; intro w hSw; (try dsimp only at hSw); go_simp; try with_reducible rfl)
  try simp only [Act.put, List.setIfInBounds_toArray, List.set_cons_zero, List.set_cons_succ]
  refine wpAnyH_take (i := 5) (oi := { dst := some 30, op := Op.fieldAddr 48 (Operand.tmp 4) 2, type := 0, pos := "steps.go:93", after := #[], guard := none }) (v := ?vh136) rfl ?hsh136 ?hfh136 ?hrh136 ?hQh136 ?hyh136 (by assumption) ?resth136
  case hsh136 => kernel_rfl
  case hfh136 => kernel_rfl
  case hrh136 => kernel_rfl
  case hQh136 => exact fun _ _ _ h => h
  case hyh136 => (refine Or.inl ⟨by rfl, ?_⟩; intro w hSw; (try dsimp only at hSw); go_simp; try with_reducible rfl)
  try simp only [Act.put, List.setIfInBounds_toArray, List.set_cons_zero, List.set_cons_succ]
  refine wpAnyH_take (i := 6) (oi := { dst := some 31, op := Op.load 3 (Operand.tmp 30), type := 3, pos := "steps.go:93", after := #[{ on := 5, ground := Ground.data }], guard := none }) (v := ?vh137) rfl ?hsh137 ?hfh137 ?hrh137 ?hQh137 ?hyh137 (by assumption) ?resth137
  case hsh137 => kernel_rfl
  case hfh137 => kernel_rfl
  case hrh137 => kernel_rfl
  case hQh137 => exact fun _ _ _ h => h
  case hyh137 => (refine Or.inl ⟨by rfl, ?_⟩; intro w hSw; (try dsimp only at hSw); go_simp; try with_reducible rfl)
  try simp only [Act.put, List.setIfInBounds_toArray, List.set_cons_zero, List.set_cons_succ]
  refine wpAnyH_take (i := 7) (oi := { dst := some 32, op := Op.move (Operand.tmp 8), type := 3, pos := "steps.go:93", after := #[], guard := none }) (v := ?vh138) rfl ?hsh138 ?hfh138 ?hrh138 ?hQh138 ?hyh138 (by assumption) ?resth138
  case hsh138 => kernel_rfl
  case hfh138 => kernel_rfl
  case hrh138 => kernel_rfl
  case hQh138 => exact fun _ _ _ h => h
  case hyh138 => (refine Or.inl ⟨by rfl, ?_⟩; intro w hSw; (try dsimp only at hSw); go_simp; try with_reducible rfl)
  try simp only [Act.put, List.setIfInBounds_toArray, List.set_cons_zero, List.set_cons_succ]
  refine wpAnyH_take (i := 8) (oi := { dst := some 33, op := Op.binOp BinOp.add 3 (Operand.tmp 31) (Operand.tmp 32) 3, type := 3, pos := "steps.go:93", after := #[{ on := 6, ground := Ground.data }, { on := 7, ground := Ground.data }], guard := none }) (v := ?vh139) rfl ?hsh139 ?hfh139 ?hrh139 ?hQh139 ?hyh139 (by assumption) ?resth139
  case hsh139 => kernel_rfl
  case hfh139 => kernel_rfl
  case hrh139 => kernel_rfl
  case hQh139 => exact fun _ _ _ h => h
  case hyh139 => (refine Or.inl ⟨by rfl, ?_⟩; intro w hSw; (try dsimp only at hSw); go_simp; try with_reducible rfl)
  try simp only [Act.put, List.setIfInBounds_toArray, List.set_cons_zero, List.set_cons_succ]
  refine wpAnyH_take (i := 10) (oi := { dst := some 35, op := Op.move (Operand.tmp 7), type := 4, pos := "steps.go:93", after := #[{ on := 11, ground := Ground.gcOnly Departure.lateStores }], guard := none }) (v := ?vh140) rfl ?hsh140 ?hfh140 ?hrh140 ?hQh140 ?hyh140 (by assumption) ?resth140
  case hsh140 => kernel_rfl
  case hfh140 => kernel_rfl
  case hrh140 => kernel_rfl
  case hQh140 => exact fun _ _ _ h => h
  case hyh140 => (refine Or.inl ⟨by rfl, ?_⟩; intro w hSw; (try dsimp only at hSw); go_simp; try with_reducible rfl)
  try simp only [Act.put, List.setIfInBounds_toArray, List.set_cons_zero, List.set_cons_succ]
  refine wpAnyH_ready (rs := [4]) (by kernel_rfl) (by simp) ?_
  refine AllReadyH.cons (o := _) (by rfl) (fun K hK => ?_) AllReadyH.nil
  go_simp
  go_at_call 27
  refine (halved_c size c _ HSZ.out).mono ?_; rintro e w' ⟨rfl, rfl⟩
  rw [HHV.out]
  go_wp2_with fail
  refine hK.out _ _ hHeld (fun hHeld141 => ?_)
  clear hK K hHeld
  have hHeld := hHeld141
  clear hHeld141
  try simp only [Act.put, List.setIfInBounds_toArray, List.set_cons_zero, List.set_cons_succ]
  refine wpAnyH_take (i := 9) (oi := { dst := some 34, op := Op.build 48 #[(0, Operand.tmp 25), (1, Operand.tmp 29), (2, Operand.tmp 33)], type := 48, pos := "steps.go:93", after := #[{ on := 0, ground := Ground.data }, { on := 4, ground := Ground.data }, { on := 8, ground := Ground.data }], guard := none }) (v := ?vh142) rfl ?hsh142 ?hfh142 ?hrh142 ?hQh142 ?hyh142 (by assumption) ?resth142
  case hsh142 => kernel_rfl
  case hfh142 => kernel_rfl
  case hrh142 => kernel_rfl
  case hQh142 => exact fun _ _ _ h => h
  case hyh142 => (refine Or.inl ⟨by rfl, ?_⟩; intro w hSw; (try dsimp only at hSw); go_simp; try with_reducible rfl)
  try simp only [Act.put, List.setIfInBounds_toArray, List.set_cons_zero, List.set_cons_succ]
  refine wpAnyH_ready (rs := [11]) (by kernel_rfl) (by simp) ?_
  refine AllReadyH.cons (o := _) (by rfl) (fun K hK => ?_) AllReadyH.nil
  have q143 : W125.cell? ⟨w.heap.size + 1 + 1, 0, none⟩ = some (.int .i64 0) := X129.out.cell 0
  have q144 : W125.cell? ⟨w.heap.size + 1 + 1, 1, none⟩ = some (.int .i64 0) := X129.out.cell 1
  have q145 : W125.cell? ⟨w.heap.size + 1 + 1, 2, none⟩ = some (.int .i64 0) := X129.out.cell 2
  have q146 : W125.cell? ⟨w.heap.size + 1 + 1, 3, none⟩ = some (.int .i64 0) := X129.out.cell 3
  have q147 : W125.cell? ⟨w.heap.size + 1 + 1, 4, none⟩ = some (.int .i64 0) := X129.out.cell 4
  have q148 : ∀ o, W125.frozen? ⟨w.heap.size + 1 + 1, o, none⟩ = false := fun o => X129.out.free o
  go_simp
  clear q143 q144 q145 q146 q147 q148
  have X149 := Lib.hid (show Box (((((W125.setCell ⟨w.heap.size + 1 + 1, 0, none⟩ (.int .i64 x)).setCell ⟨w.heap.size + 1 + 1, 1, none⟩ (.int .i64 y)).setCell ⟨w.heap.size + 1 + 1, 2, none⟩ (.int .i64 z)).setCell ⟨w.heap.size + 1 + 1, 3, none⟩ (.int .i64 hv9)).setCell ⟨w.heap.size + 1 + 1, 4, none⟩ (.int .i64 k)) (w.heap.size) 48 #[.int .i64 a, .int .i64 b, .int .i64 t, .int .i64 size, .int .i64 cuts] from ((((((((((X127.out).far (p := ⟨w.heap.size + 1 + 1, 0, none⟩) (by first | (simp; done) | (simp; omega) | omega) (.int .i64 x))).far (p := ⟨w.heap.size + 1 + 1, 1, none⟩) (by first | (simp; done) | (simp; omega) | omega) (.int .i64 y))).far (p := ⟨w.heap.size + 1 + 1, 2, none⟩) (by first | (simp; done) | (simp; omega) | omega) (.int .i64 z))).far (p := ⟨w.heap.size + 1 + 1, 3, none⟩) (by first | (simp; done) | (simp; omega) | omega) (.int .i64 hv9))).far (p := ⟨w.heap.size + 1 + 1, 4, none⟩) (by first | (simp; done) | (simp; omega) | omega) (.int .i64 k)))
  have X150 := Lib.hid (show Box (((((W125.setCell ⟨w.heap.size + 1 + 1, 0, none⟩ (.int .i64 x)).setCell ⟨w.heap.size + 1 + 1, 1, none⟩ (.int .i64 y)).setCell ⟨w.heap.size + 1 + 1, 2, none⟩ (.int .i64 z)).setCell ⟨w.heap.size + 1 + 1, 3, none⟩ (.int .i64 hv9)).setCell ⟨w.heap.size + 1 + 1, 4, none⟩ (.int .i64 k)) (w.heap.size + 1) 50 #[.int .i64 mo, .int .i64 ms, .bool mc] from ((((((((((X128.out).far (p := ⟨w.heap.size + 1 + 1, 0, none⟩) (by first | (simp; done) | (simp; omega) | omega) (.int .i64 x))).far (p := ⟨w.heap.size + 1 + 1, 1, none⟩) (by first | (simp; done) | (simp; omega) | omega) (.int .i64 y))).far (p := ⟨w.heap.size + 1 + 1, 2, none⟩) (by first | (simp; done) | (simp; omega) | omega) (.int .i64 z))).far (p := ⟨w.heap.size + 1 + 1, 3, none⟩) (by first | (simp; done) | (simp; omega) | omega) (.int .i64 hv9))).far (p := ⟨w.heap.size + 1 + 1, 4, none⟩) (by first | (simp; done) | (simp; omega) | omega) (.int .i64 k)))
  have X151 := Lib.hid (show Box (((((W125.setCell ⟨w.heap.size + 1 + 1, 0, none⟩ (.int .i64 x)).setCell ⟨w.heap.size + 1 + 1, 1, none⟩ (.int .i64 y)).setCell ⟨w.heap.size + 1 + 1, 2, none⟩ (.int .i64 z)).setCell ⟨w.heap.size + 1 + 1, 3, none⟩ (.int .i64 hv9)).setCell ⟨w.heap.size + 1 + 1, 4, none⟩ (.int .i64 k)) (w.heap.size + 1 + 1) 48 #[.int .i64 x, .int .i64 y, .int .i64 z, .int .i64 hv9, .int .i64 k] from ((((((((((X129.out).put 0 (.int .i64 x))).put 1 (.int .i64 y))).put 2 (.int .i64 z))).put 3 (.int .i64 hv9))).put 4 (.int .i64 k)))
  have X152 := Lib.hid (show Box (((((W125.setCell ⟨w.heap.size + 1 + 1, 0, none⟩ (.int .i64 x)).setCell ⟨w.heap.size + 1 + 1, 1, none⟩ (.int .i64 y)).setCell ⟨w.heap.size + 1 + 1, 2, none⟩ (.int .i64 z)).setCell ⟨w.heap.size + 1 + 1, 3, none⟩ (.int .i64 hv9)).setCell ⟨w.heap.size + 1 + 1, 4, none⟩ (.int .i64 k)) (v44.heap.size) 46 #[.int .i64 x, .int .i64 y, .int .i64 z] from ((((((((((X130.out).far (p := ⟨w.heap.size + 1 + 1, 0, none⟩) (by have := LTQ.out; first | omega | (dsimp only; omega)) (.int .i64 x))).far (p := ⟨w.heap.size + 1 + 1, 1, none⟩) (by have := LTQ.out; first | omega | (dsimp only; omega)) (.int .i64 y))).far (p := ⟨w.heap.size + 1 + 1, 2, none⟩) (by have := LTQ.out; first | omega | (dsimp only; omega)) (.int .i64 z))).far (p := ⟨w.heap.size + 1 + 1, 3, none⟩) (by have := LTQ.out; first | omega | (dsimp only; omega)) (.int .i64 hv9))).far (p := ⟨w.heap.size + 1 + 1, 4, none⟩) (by have := LTQ.out; first | omega | (dsimp only; omega)) (.int .i64 k)))
  have B153 := Lib.hid ((((((((((B131.out).setCell (p := ⟨w.heap.size + 1 + 1, 0, none⟩) (by first | (simp; done) | (simp; omega) | omega) (.int .i64 x))).setCell (p := ⟨w.heap.size + 1 + 1, 1, none⟩) (by first | (simp; done) | (simp; omega) | omega) (.int .i64 y))).setCell (p := ⟨w.heap.size + 1 + 1, 2, none⟩) (by first | (simp; done) | (simp; omega) | omega) (.int .i64 z))).setCell (p := ⟨w.heap.size + 1 + 1, 3, none⟩) (by first | (simp; done) | (simp; omega) | omega) (.int .i64 hv9))).setCell (p := ⟨w.heap.size + 1 + 1, 4, none⟩) (by first | (simp; done) | (simp; omega) | omega) (.int .i64 k))
  refine hK.out _ _ (Hput113.out _ 4 (.int .i64 k) (Hput113.out _ 3 (.int .i64 hv9) (Hput113.out _ 2 (.int .i64 z) (Hput113.out _ 1 (.int .i64 y) (Hput113.out _ 0 (.int .i64 x) hHeld))))) (fun hHeld154 => ?_)
  clear hK K hHeld
  have hHeld := hHeld154
  clear hHeld154
  try simp only [Act.put, List.setIfInBounds_toArray, List.set_cons_zero, List.set_cons_succ]
  refine wpAnyH_take (i := 12) (oi := { dst := some 7, op := Op.assign (Operand.tmp 35), type := 4, pos := "steps.go:93", after := #[{ on := 10, ground := Ground.data }, { on := 11, ground := Ground.chain }, { on := 0, ground := Ground.phase }, { on := 1, ground := Ground.phase }, { on := 2, ground := Ground.phase }, { on := 3, ground := Ground.phase }, { on := 4, ground := Ground.phase }, { on := 5, ground := Ground.phase }, { on := 6, ground := Ground.phase }, { on := 7, ground := Ground.phase }, { on := 8, ground := Ground.phase }, { on := 9, ground := Ground.phase }, { on := 10, ground := Ground.phase }, { on := 11, ground := Ground.phase }], guard := none }) (v := ?vh155) rfl ?hsh155 ?hfh155 ?hrh155 ?hQh155 ?hyh155 (by assumption) ?resth155
  case hsh155 => kernel_rfl
  case hfh155 => kernel_rfl
  case hrh155 => kernel_rfl
  case hQh155 => exact fun _ _ _ h => h
  case hyh155 => (refine Or.inl ⟨by rfl, ?_⟩; intro w hSw; (try dsimp only at hSw); go_simp; try with_reducible rfl)
  try simp only [Act.put, List.setIfInBounds_toArray, List.set_cons_zero, List.set_cons_succ]
  refine wpAnyH_done (by kernel_rfl) ?_ _
  refine NoPanic.normal ?_
  clear hHeld Hcall111 Hini112 Hput113
  obtain ⟨W156, hW157⟩ : ∃ Wzz, (((((W125.setCell ⟨w.heap.size + 1 + 1, 0, none⟩ (.int .i64 x)).setCell ⟨w.heap.size + 1 + 1, 1, none⟩ (.int .i64 y)).setCell ⟨w.heap.size + 1 + 1, 2, none⟩ (.int .i64 z)).setCell ⟨w.heap.size + 1 + 1, 3, none⟩ (.int .i64 hv9)).setCell ⟨w.heap.size + 1 + 1, 4, none⟩ (.int .i64 k)) = Wzz := ⟨_, rfl⟩
  have x158 := X149.out
  rw [hW157] at x158
  have X158 := Lib.hid x158
  clear x158 X149
  have x159 := X150.out
  rw [hW157] at x159
  have X159 := Lib.hid x159
  clear x159 X150
  have x160 := X151.out
  rw [hW157] at x160
  have X160 := Lib.hid x160
  clear x160 X151
  have x161 := X152.out
  rw [hW157] at x161
  have X161 := Lib.hid x161
  clear x161 X152
  have b162 := B153.out
  rw [hW157] at b162
  have B162 := Lib.hid b162
  clear b162 B153
  rw [hW157]
  clear hW157
  have q163 : W156.cell? ⟨w.heap.size, 0, none⟩ = some (.int .i64 a) := X158.out.cell 0
  have q164 : W156.cell? ⟨w.heap.size, 1, none⟩ = some (.int .i64 b) := X158.out.cell 1
  have q165 : W156.cell? ⟨w.heap.size, 2, none⟩ = some (.int .i64 t) := X158.out.cell 2
  have q166 : W156.cell? ⟨w.heap.size, 3, none⟩ = some (.int .i64 size) := X158.out.cell 3
  have q167 : W156.cell? ⟨w.heap.size, 4, none⟩ = some (.int .i64 cuts) := X158.out.cell 4
  have q168 : W156.cell? ⟨w.heap.size + 1, 0, none⟩ = some (.int .i64 mo) := X159.out.cell 0
  have q169 : W156.cell? ⟨w.heap.size + 1, 1, none⟩ = some (.int .i64 ms) := X159.out.cell 1
  have q170 : W156.cell? ⟨w.heap.size + 1, 2, none⟩ = some (.bool mc) := X159.out.cell 2
  have q171 : W156.cell? ⟨w.heap.size + 1 + 1, 0, none⟩ = some (.int .i64 x) := X160.out.cell 0
  have q172 : W156.cell? ⟨w.heap.size + 1 + 1, 1, none⟩ = some (.int .i64 y) := X160.out.cell 1
  have q173 : W156.cell? ⟨w.heap.size + 1 + 1, 2, none⟩ = some (.int .i64 z) := X160.out.cell 2
  have q174 : W156.cell? ⟨w.heap.size + 1 + 1, 3, none⟩ = some (.int .i64 hv9) := X160.out.cell 3
  have q175 : W156.cell? ⟨w.heap.size + 1 + 1, 4, none⟩ = some (.int .i64 k) := X160.out.cell 4
  have fz176 : ∀ o, W156.frozen? ⟨w.heap.size + 1 + 1, o, none⟩ = false := fun o => X160.out.free o
  have q177 : W156.cell? ⟨v44.heap.size, 0, none⟩ = some (.int .i64 x) := X161.out.cell 0
  have q178 : W156.cell? ⟨v44.heap.size, 1, none⟩ = some (.int .i64 y) := X161.out.cell 1
  have q179 : W156.cell? ⟨v44.heap.size, 2, none⟩ = some (.int .i64 z) := X161.out.cell 2
  go_wp2_with fail
  (try simp only [Exit.inBlock, Exit.then])
  refine grainEnd2 (t := 6) (u := 7) (x := .bool ob) (v := .tuple #[.agg #[.int .i64 x, .int .i64 y, .int .i64 z, .int .i64 hv9, .int .i64 k], .bool ob]) ?_ ?_ ?_ X160.out B162.out ?_
  all_goals rfl

set_option maxRecDepth 100000 in
set_option maxHeartbeats 8000000 in
theorem After_bad (m : Ml) (a b t size cuts mo ms : Int) (mc : Bool) (v : Value) (w : World) (hm : IsMill w w.heap.size v m) (h0 : grE m ⟨a, b, t⟩ size cuts ≠ 0) : Calls Tryz.prog 18 #[v, .agg #[.int .i64 a, .int .i64 b, .int .i64 t, .int .i64 size, .int .i64 cuts], .agg #[.int .i64 mo, .int .i64 ms, .bool mc]] w fun e w' => e = .returned (.tuple #[.agg #[.int .i64 0, .int .i64 0, .int .i64 0, .int .i64 0, .int .i64 0], .bool false, .int .i64 (grE m ⟨a, b, t⟩ size cuts)]) ∧ Below w.heap.size w w' := by
  obtain ⟨s, r, d, gv, hmv, i1, i2, i3, i4⟩ := _root_.id hm
  subst hmv
  have HM0 := Lib.hid hm
  have HP0 := Lib.hid (show IsPair w w.heap.size (pairV m.pr s r d) m.pr from ⟨s, r, d, rfl, i1, i2, i3⟩)
  clear hm i1 i2 i3 i4
  unfold millV pairV at *
  have n1 : (grE m ⟨a, b, t⟩ size cuts != 0) = true := by simpa using h0
  have n2 : decide (grE m ⟨a, b, t⟩ size cuts = 0) = false := by simpa using h0
  clear h0
  go_enter Tryz.func18, Tryz.ntmps18
  go_wp2_with fail
  obtain ⟨W180, hW181⟩ : ∃ Wzz, ((((w.alloc (.cells #[.int .i64 m.pr.bed.eye, .int .i64 m.pr.bed.rings, .int .i64 m.pr.bed.sectors, s, .int .i64 m.pr.run.eye, .int .i64 m.pr.run.rings, .int .i64 m.pr.run.sectors, r, d, gv] 33)).alloc (.cells #[.int .i64 a, .int .i64 b, .int .i64 t, .int .i64 size, .int .i64 cuts] 48)).alloc (.cells #[.int .i64 mo, .int .i64 ms, .bool mc] 50)).alloc (.cells #[.int .i64 0, .int .i64 0, .int .i64 0, .int .i64 0, .int .i64 0] 48)) = Wzz := ⟨_, rfl⟩
  have B182 := Lib.hid (show Below w.heap.size w W180 by rw [← hW181]; exact (((((Below.refl w.heap.size w).alloc (Nat.le_refl _) _).alloc (by first | (simp; done) | (simp; omega)) _).alloc (by first | (simp; done) | (simp; omega)) _).alloc (by first | (simp; done) | (simp; omega)) _))
  have X183 := Lib.hid (show Box W180 (w.heap.size) 33 #[.int .i64 m.pr.bed.eye, .int .i64 m.pr.bed.rings, .int .i64 m.pr.bed.sectors, s, .int .i64 m.pr.run.eye, .int .i64 m.pr.run.rings, .int .i64 m.pr.run.sectors, r, d, gv] by rw [← hW181]; exact Box.alloc (Box.alloc (Box.alloc (Box.made w 33 #[.int .i64 m.pr.bed.eye, .int .i64 m.pr.bed.rings, .int .i64 m.pr.bed.sectors, s, .int .i64 m.pr.run.eye, .int .i64 m.pr.run.rings, .int .i64 m.pr.run.sectors, r, d, gv]) (.cells #[.int .i64 a, .int .i64 b, .int .i64 t, .int .i64 size, .int .i64 cuts] 48)) (.cells #[.int .i64 mo, .int .i64 ms, .bool mc] 50)) (.cells #[.int .i64 0, .int .i64 0, .int .i64 0, .int .i64 0, .int .i64 0] 48))
  have X184 := Lib.hid (show Box W180 (w.heap.size + 1) 48 #[.int .i64 a, .int .i64 b, .int .i64 t, .int .i64 size, .int .i64 cuts] by
    have hz := Box.alloc (Box.alloc (Box.made (w.alloc (.cells #[.int .i64 m.pr.bed.eye, .int .i64 m.pr.bed.rings, .int .i64 m.pr.bed.sectors, s, .int .i64 m.pr.run.eye, .int .i64 m.pr.run.rings, .int .i64 m.pr.run.sectors, r, d, gv] 33)) 48 #[.int .i64 a, .int .i64 b, .int .i64 t, .int .i64 size, .int .i64 cuts]) (.cells #[.int .i64 mo, .int .i64 ms, .bool mc] 50)) (.cells #[.int .i64 0, .int .i64 0, .int .i64 0, .int .i64 0, .int .i64 0] 48)
    rw [World.size_alloc] at hz
    rw [← hW181]; exact hz)
  have X185 := Lib.hid (show Box W180 (w.heap.size + 1 + 1) 50 #[.int .i64 mo, .int .i64 ms, .bool mc] by
    have hz := Box.alloc (Box.made ((w.alloc (.cells #[.int .i64 m.pr.bed.eye, .int .i64 m.pr.bed.rings, .int .i64 m.pr.bed.sectors, s, .int .i64 m.pr.run.eye, .int .i64 m.pr.run.rings, .int .i64 m.pr.run.sectors, r, d, gv] 33)).alloc (.cells #[.int .i64 a, .int .i64 b, .int .i64 t, .int .i64 size, .int .i64 cuts] 48)) 50 #[.int .i64 mo, .int .i64 ms, .bool mc]) (.cells #[.int .i64 0, .int .i64 0, .int .i64 0, .int .i64 0, .int .i64 0] 48)
    rw [World.size_alloc, World.size_alloc] at hz
    rw [← hW181]; exact hz)
  have X186 := Lib.hid (show Box W180 (w.heap.size + 1 + 1 + 1) 48 #[.int .i64 0, .int .i64 0, .int .i64 0, .int .i64 0, .int .i64 0] by
    have hz := Box.made (((w.alloc (.cells #[.int .i64 m.pr.bed.eye, .int .i64 m.pr.bed.rings, .int .i64 m.pr.bed.sectors, s, .int .i64 m.pr.run.eye, .int .i64 m.pr.run.rings, .int .i64 m.pr.run.sectors, r, d, gv] 33)).alloc (.cells #[.int .i64 a, .int .i64 b, .int .i64 t, .int .i64 size, .int .i64 cuts] 48)).alloc (.cells #[.int .i64 mo, .int .i64 ms, .bool mc] 50)) 48 #[.int .i64 0, .int .i64 0, .int .i64 0, .int .i64 0, .int .i64 0]
    rw [World.size_alloc, World.size_alloc, World.size_alloc] at hz
    rw [← hW181]; exact hz)
  have C187 := Lib.hid (HM0.out.later B182.out)
  have C188 := Lib.hid (HP0.out.later B182.out)
  have SZ189 := Lib.hid (show W180.heap.size = w.heap.size + 1 + 1 + 1 + 1 by rw [← hW181]; simp)
  rw [hW181]
  clear hW181
  have q190 : W180.cell? ⟨w.heap.size, 0, none⟩ = some (.int .i64 m.pr.bed.eye) := X183.out.cell 0
  have q191 : W180.cell? ⟨w.heap.size, 1, none⟩ = some (.int .i64 m.pr.bed.rings) := X183.out.cell 1
  have q192 : W180.cell? ⟨w.heap.size, 2, none⟩ = some (.int .i64 m.pr.bed.sectors) := X183.out.cell 2
  have q193 : W180.cell? ⟨w.heap.size, 3, none⟩ = some (s) := X183.out.cell 3
  have q194 : W180.cell? ⟨w.heap.size, 4, none⟩ = some (.int .i64 m.pr.run.eye) := X183.out.cell 4
  have q195 : W180.cell? ⟨w.heap.size, 5, none⟩ = some (.int .i64 m.pr.run.rings) := X183.out.cell 5
  have q196 : W180.cell? ⟨w.heap.size, 6, none⟩ = some (.int .i64 m.pr.run.sectors) := X183.out.cell 6
  have q197 : W180.cell? ⟨w.heap.size, 7, none⟩ = some (r) := X183.out.cell 7
  have q198 : W180.cell? ⟨w.heap.size, 8, none⟩ = some (d) := X183.out.cell 8
  have q199 : W180.cell? ⟨w.heap.size, 9, none⟩ = some (gv) := X183.out.cell 9
  have q200 : W180.cell? ⟨w.heap.size + 1, 0, none⟩ = some (.int .i64 a) := X184.out.cell 0
  have q201 : W180.cell? ⟨w.heap.size + 1, 1, none⟩ = some (.int .i64 b) := X184.out.cell 1
  have q202 : W180.cell? ⟨w.heap.size + 1, 2, none⟩ = some (.int .i64 t) := X184.out.cell 2
  have q203 : W180.cell? ⟨w.heap.size + 1, 3, none⟩ = some (.int .i64 size) := X184.out.cell 3
  have q204 : W180.cell? ⟨w.heap.size + 1, 4, none⟩ = some (.int .i64 cuts) := X184.out.cell 4
  have q205 : W180.cell? ⟨w.heap.size + 1 + 1, 0, none⟩ = some (.int .i64 mo) := X185.out.cell 0
  have q206 : W180.cell? ⟨w.heap.size + 1 + 1, 1, none⟩ = some (.int .i64 ms) := X185.out.cell 1
  have q207 : W180.cell? ⟨w.heap.size + 1 + 1, 2, none⟩ = some (.bool mc) := X185.out.cell 2
  have q208 : W180.cell? ⟨w.heap.size + 1 + 1 + 1, 0, none⟩ = some (.int .i64 0) := X186.out.cell 0
  have q209 : W180.cell? ⟨w.heap.size + 1 + 1 + 1, 1, none⟩ = some (.int .i64 0) := X186.out.cell 1
  have q210 : W180.cell? ⟨w.heap.size + 1 + 1 + 1, 2, none⟩ = some (.int .i64 0) := X186.out.cell 2
  have q211 : W180.cell? ⟨w.heap.size + 1 + 1 + 1, 3, none⟩ = some (.int .i64 0) := X186.out.cell 3
  have q212 : W180.cell? ⟨w.heap.size + 1 + 1 + 1, 4, none⟩ = some (.int .i64 0) := X186.out.cell 4
  have fz213 : ∀ o, W180.frozen? ⟨w.heap.size + 1 + 1 + 1, o, none⟩ = false := fun o => X186.out.free o
  go_wp2_with fail
  refine (checkGrain_c m a b t size cuts _ _ C187.out).mono ?_; rintro e v214 ⟨rfl, hb215⟩
  have X216 := Lib.hid (X183.out.later hb215)
  have X217 := Lib.hid (X184.out.later hb215)
  have X218 := Lib.hid (X185.out.later hb215)
  have X219 := Lib.hid (X186.out.later hb215)
  have C220 := Lib.hid (C187.out.later hb215)
  have C221 := Lib.hid (C188.out.later hb215)
  have B222 := Lib.hid (B182.out.trans (hb215.mono B182.out.size))
  clear hb215
  clear q190 q191 q192 q193 q194 q195 q196 q197 q198 q199 q200 q201 q202 q203 q204 q205 q206 q207 q208 q209 q210 q211 q212 fz213
  have q223 : v214.cell? ⟨w.heap.size, 0, none⟩ = some (.int .i64 m.pr.bed.eye) := X216.out.cell 0
  have q224 : v214.cell? ⟨w.heap.size, 1, none⟩ = some (.int .i64 m.pr.bed.rings) := X216.out.cell 1
  have q225 : v214.cell? ⟨w.heap.size, 2, none⟩ = some (.int .i64 m.pr.bed.sectors) := X216.out.cell 2
  have q226 : v214.cell? ⟨w.heap.size, 3, none⟩ = some (s) := X216.out.cell 3
  have q227 : v214.cell? ⟨w.heap.size, 4, none⟩ = some (.int .i64 m.pr.run.eye) := X216.out.cell 4
  have q228 : v214.cell? ⟨w.heap.size, 5, none⟩ = some (.int .i64 m.pr.run.rings) := X216.out.cell 5
  have q229 : v214.cell? ⟨w.heap.size, 6, none⟩ = some (.int .i64 m.pr.run.sectors) := X216.out.cell 6
  have q230 : v214.cell? ⟨w.heap.size, 7, none⟩ = some (r) := X216.out.cell 7
  have q231 : v214.cell? ⟨w.heap.size, 8, none⟩ = some (d) := X216.out.cell 8
  have q232 : v214.cell? ⟨w.heap.size, 9, none⟩ = some (gv) := X216.out.cell 9
  have q233 : v214.cell? ⟨w.heap.size + 1, 0, none⟩ = some (.int .i64 a) := X217.out.cell 0
  have q234 : v214.cell? ⟨w.heap.size + 1, 1, none⟩ = some (.int .i64 b) := X217.out.cell 1
  have q235 : v214.cell? ⟨w.heap.size + 1, 2, none⟩ = some (.int .i64 t) := X217.out.cell 2
  have q236 : v214.cell? ⟨w.heap.size + 1, 3, none⟩ = some (.int .i64 size) := X217.out.cell 3
  have q237 : v214.cell? ⟨w.heap.size + 1, 4, none⟩ = some (.int .i64 cuts) := X217.out.cell 4
  have q238 : v214.cell? ⟨w.heap.size + 1 + 1, 0, none⟩ = some (.int .i64 mo) := X218.out.cell 0
  have q239 : v214.cell? ⟨w.heap.size + 1 + 1, 1, none⟩ = some (.int .i64 ms) := X218.out.cell 1
  have q240 : v214.cell? ⟨w.heap.size + 1 + 1, 2, none⟩ = some (.bool mc) := X218.out.cell 2
  have q241 : v214.cell? ⟨w.heap.size + 1 + 1 + 1, 0, none⟩ = some (.int .i64 0) := X219.out.cell 0
  have q242 : v214.cell? ⟨w.heap.size + 1 + 1 + 1, 1, none⟩ = some (.int .i64 0) := X219.out.cell 1
  have q243 : v214.cell? ⟨w.heap.size + 1 + 1 + 1, 2, none⟩ = some (.int .i64 0) := X219.out.cell 2
  have q244 : v214.cell? ⟨w.heap.size + 1 + 1 + 1, 3, none⟩ = some (.int .i64 0) := X219.out.cell 3
  have q245 : v214.cell? ⟨w.heap.size + 1 + 1 + 1, 4, none⟩ = some (.int .i64 0) := X219.out.cell 4
  have fz246 : ∀ o, v214.frozen? ⟨w.heap.size + 1 + 1 + 1, o, none⟩ = false := fun o => X219.out.free o
  go_wp2_with fail
  (try simp only [Exit.inBlock, Exit.then])
  refine grainEnd3 (t := 6) (u := 7) (q := 8) (x := .bool false) (y := .int .i64 (grE m ⟨a, b, t⟩ size cuts)) (v := .tuple #[.agg #[.int .i64 0, .int .i64 0, .int .i64 0, .int .i64 0, .int .i64 0], .bool false, .int .i64 (grE m ⟨a, b, t⟩ size cuts)]) ?_ ?_ ?_ ?_ (((((X219.out.put 0 (.int .i64 0)).put 1 (.int .i64 0)).put 2 (.int .i64 0)).put 3 (.int .i64 0)).put 4 (.int .i64 0)) (((((B222.out.setCell (by first | (simp; done) | (simp; omega) | omega) _).setCell (by first | (simp; done) | (simp; omega) | omega) _).setCell (by first | (simp; done) | (simp; omega) | omega) _).setCell (by first | (simp; done) | (simp; omega) | omega) _).setCell (by first | (simp; done) | (simp; omega) | omega) _) ?_
  all_goals first | rfl | skip

set_option maxRecDepth 100000 in
set_option maxHeartbeats 8000000 in
theorem After_none (m : Ml) (a b t size cuts mo ms : Int) (mc : Bool) (v : Value) (w : World) (hm : IsMill w w.heap.size v m) (h0 : grE m ⟨a, b, t⟩ size cuts = 0) (hh : hasM (movesL m.pr ⟨a, b, t⟩) ⟨mo, ms, mc⟩ = false) : Calls Tryz.prog 18 #[v, .agg #[.int .i64 a, .int .i64 b, .int .i64 t, .int .i64 size, .int .i64 cuts], .agg #[.int .i64 mo, .int .i64 ms, .bool mc]] w fun e w' => e = .returned (.tuple #[.agg #[.int .i64 0, .int .i64 0, .int .i64 0, .int .i64 0, .int .i64 0], .bool false, .int .i64 1]) ∧ Below w.heap.size w w' := by
  obtain ⟨s, r, d, gv, hmv, i1, i2, i3, i4⟩ := _root_.id hm
  subst hmv
  have HM0 := Lib.hid hm
  have HP0 := Lib.hid (show IsPair w w.heap.size (pairV m.pr s r d) m.pr from ⟨s, r, d, rfl, i1, i2, i3⟩)
  clear hm i1 i2 i3 i4
  unfold millV pairV at *
  have HE := Lib.hid h0
  have HH := Lib.hid hh
  clear h0 hh
  go_enter Tryz.func18, Tryz.ntmps18
  go_wp2_with fail
  obtain ⟨W247, hW248⟩ : ∃ Wzz, ((((w.alloc (.cells #[.int .i64 m.pr.bed.eye, .int .i64 m.pr.bed.rings, .int .i64 m.pr.bed.sectors, s, .int .i64 m.pr.run.eye, .int .i64 m.pr.run.rings, .int .i64 m.pr.run.sectors, r, d, gv] 33)).alloc (.cells #[.int .i64 a, .int .i64 b, .int .i64 t, .int .i64 size, .int .i64 cuts] 48)).alloc (.cells #[.int .i64 mo, .int .i64 ms, .bool mc] 50)).alloc (.cells #[.int .i64 0, .int .i64 0, .int .i64 0, .int .i64 0, .int .i64 0] 48)) = Wzz := ⟨_, rfl⟩
  have B249 := Lib.hid (show Below w.heap.size w W247 by rw [← hW248]; exact (((((Below.refl w.heap.size w).alloc (Nat.le_refl _) _).alloc (by first | (simp; done) | (simp; omega)) _).alloc (by first | (simp; done) | (simp; omega)) _).alloc (by first | (simp; done) | (simp; omega)) _))
  have X250 := Lib.hid (show Box W247 (w.heap.size) 33 #[.int .i64 m.pr.bed.eye, .int .i64 m.pr.bed.rings, .int .i64 m.pr.bed.sectors, s, .int .i64 m.pr.run.eye, .int .i64 m.pr.run.rings, .int .i64 m.pr.run.sectors, r, d, gv] by rw [← hW248]; exact Box.alloc (Box.alloc (Box.alloc (Box.made w 33 #[.int .i64 m.pr.bed.eye, .int .i64 m.pr.bed.rings, .int .i64 m.pr.bed.sectors, s, .int .i64 m.pr.run.eye, .int .i64 m.pr.run.rings, .int .i64 m.pr.run.sectors, r, d, gv]) (.cells #[.int .i64 a, .int .i64 b, .int .i64 t, .int .i64 size, .int .i64 cuts] 48)) (.cells #[.int .i64 mo, .int .i64 ms, .bool mc] 50)) (.cells #[.int .i64 0, .int .i64 0, .int .i64 0, .int .i64 0, .int .i64 0] 48))
  have X251 := Lib.hid (show Box W247 (w.heap.size + 1) 48 #[.int .i64 a, .int .i64 b, .int .i64 t, .int .i64 size, .int .i64 cuts] by
    have hz := Box.alloc (Box.alloc (Box.made (w.alloc (.cells #[.int .i64 m.pr.bed.eye, .int .i64 m.pr.bed.rings, .int .i64 m.pr.bed.sectors, s, .int .i64 m.pr.run.eye, .int .i64 m.pr.run.rings, .int .i64 m.pr.run.sectors, r, d, gv] 33)) 48 #[.int .i64 a, .int .i64 b, .int .i64 t, .int .i64 size, .int .i64 cuts]) (.cells #[.int .i64 mo, .int .i64 ms, .bool mc] 50)) (.cells #[.int .i64 0, .int .i64 0, .int .i64 0, .int .i64 0, .int .i64 0] 48)
    rw [World.size_alloc] at hz
    rw [← hW248]; exact hz)
  have X252 := Lib.hid (show Box W247 (w.heap.size + 1 + 1) 50 #[.int .i64 mo, .int .i64 ms, .bool mc] by
    have hz := Box.alloc (Box.made ((w.alloc (.cells #[.int .i64 m.pr.bed.eye, .int .i64 m.pr.bed.rings, .int .i64 m.pr.bed.sectors, s, .int .i64 m.pr.run.eye, .int .i64 m.pr.run.rings, .int .i64 m.pr.run.sectors, r, d, gv] 33)).alloc (.cells #[.int .i64 a, .int .i64 b, .int .i64 t, .int .i64 size, .int .i64 cuts] 48)) 50 #[.int .i64 mo, .int .i64 ms, .bool mc]) (.cells #[.int .i64 0, .int .i64 0, .int .i64 0, .int .i64 0, .int .i64 0] 48)
    rw [World.size_alloc, World.size_alloc] at hz
    rw [← hW248]; exact hz)
  have X253 := Lib.hid (show Box W247 (w.heap.size + 1 + 1 + 1) 48 #[.int .i64 0, .int .i64 0, .int .i64 0, .int .i64 0, .int .i64 0] by
    have hz := Box.made (((w.alloc (.cells #[.int .i64 m.pr.bed.eye, .int .i64 m.pr.bed.rings, .int .i64 m.pr.bed.sectors, s, .int .i64 m.pr.run.eye, .int .i64 m.pr.run.rings, .int .i64 m.pr.run.sectors, r, d, gv] 33)).alloc (.cells #[.int .i64 a, .int .i64 b, .int .i64 t, .int .i64 size, .int .i64 cuts] 48)).alloc (.cells #[.int .i64 mo, .int .i64 ms, .bool mc] 50)) 48 #[.int .i64 0, .int .i64 0, .int .i64 0, .int .i64 0, .int .i64 0]
    rw [World.size_alloc, World.size_alloc, World.size_alloc] at hz
    rw [← hW248]; exact hz)
  have C254 := Lib.hid (HM0.out.later B249.out)
  have C255 := Lib.hid (HP0.out.later B249.out)
  have SZ256 := Lib.hid (show W247.heap.size = w.heap.size + 1 + 1 + 1 + 1 by rw [← hW248]; simp)
  rw [hW248]
  clear hW248
  have q257 : W247.cell? ⟨w.heap.size, 0, none⟩ = some (.int .i64 m.pr.bed.eye) := X250.out.cell 0
  have q258 : W247.cell? ⟨w.heap.size, 1, none⟩ = some (.int .i64 m.pr.bed.rings) := X250.out.cell 1
  have q259 : W247.cell? ⟨w.heap.size, 2, none⟩ = some (.int .i64 m.pr.bed.sectors) := X250.out.cell 2
  have q260 : W247.cell? ⟨w.heap.size, 3, none⟩ = some (s) := X250.out.cell 3
  have q261 : W247.cell? ⟨w.heap.size, 4, none⟩ = some (.int .i64 m.pr.run.eye) := X250.out.cell 4
  have q262 : W247.cell? ⟨w.heap.size, 5, none⟩ = some (.int .i64 m.pr.run.rings) := X250.out.cell 5
  have q263 : W247.cell? ⟨w.heap.size, 6, none⟩ = some (.int .i64 m.pr.run.sectors) := X250.out.cell 6
  have q264 : W247.cell? ⟨w.heap.size, 7, none⟩ = some (r) := X250.out.cell 7
  have q265 : W247.cell? ⟨w.heap.size, 8, none⟩ = some (d) := X250.out.cell 8
  have q266 : W247.cell? ⟨w.heap.size, 9, none⟩ = some (gv) := X250.out.cell 9
  have q267 : W247.cell? ⟨w.heap.size + 1, 0, none⟩ = some (.int .i64 a) := X251.out.cell 0
  have q268 : W247.cell? ⟨w.heap.size + 1, 1, none⟩ = some (.int .i64 b) := X251.out.cell 1
  have q269 : W247.cell? ⟨w.heap.size + 1, 2, none⟩ = some (.int .i64 t) := X251.out.cell 2
  have q270 : W247.cell? ⟨w.heap.size + 1, 3, none⟩ = some (.int .i64 size) := X251.out.cell 3
  have q271 : W247.cell? ⟨w.heap.size + 1, 4, none⟩ = some (.int .i64 cuts) := X251.out.cell 4
  have q272 : W247.cell? ⟨w.heap.size + 1 + 1, 0, none⟩ = some (.int .i64 mo) := X252.out.cell 0
  have q273 : W247.cell? ⟨w.heap.size + 1 + 1, 1, none⟩ = some (.int .i64 ms) := X252.out.cell 1
  have q274 : W247.cell? ⟨w.heap.size + 1 + 1, 2, none⟩ = some (.bool mc) := X252.out.cell 2
  have q275 : W247.cell? ⟨w.heap.size + 1 + 1 + 1, 0, none⟩ = some (.int .i64 0) := X253.out.cell 0
  have q276 : W247.cell? ⟨w.heap.size + 1 + 1 + 1, 1, none⟩ = some (.int .i64 0) := X253.out.cell 1
  have q277 : W247.cell? ⟨w.heap.size + 1 + 1 + 1, 2, none⟩ = some (.int .i64 0) := X253.out.cell 2
  have q278 : W247.cell? ⟨w.heap.size + 1 + 1 + 1, 3, none⟩ = some (.int .i64 0) := X253.out.cell 3
  have q279 : W247.cell? ⟨w.heap.size + 1 + 1 + 1, 4, none⟩ = some (.int .i64 0) := X253.out.cell 4
  have fz280 : ∀ o, W247.frozen? ⟨w.heap.size + 1 + 1 + 1, o, none⟩ = false := fun o => X253.out.free o
  go_wp2_with fail
  refine (checkGrain_c m a b t size cuts _ _ C254.out).mono ?_; rintro e v281 ⟨rfl, hb282⟩
  have X283 := Lib.hid (X250.out.later hb282)
  have X284 := Lib.hid (X251.out.later hb282)
  have X285 := Lib.hid (X252.out.later hb282)
  have X286 := Lib.hid (X253.out.later hb282)
  have C287 := Lib.hid (C254.out.later hb282)
  have C288 := Lib.hid (C255.out.later hb282)
  have B289 := Lib.hid (B249.out.trans (hb282.mono B249.out.size))
  clear hb282
  rw [HE.out]
  clear q257 q258 q259 q260 q261 q262 q263 q264 q265 q266 q267 q268 q269 q270 q271 q272 q273 q274 q275 q276 q277 q278 q279 fz280
  have q290 : v281.cell? ⟨w.heap.size, 0, none⟩ = some (.int .i64 m.pr.bed.eye) := X283.out.cell 0
  have q291 : v281.cell? ⟨w.heap.size, 1, none⟩ = some (.int .i64 m.pr.bed.rings) := X283.out.cell 1
  have q292 : v281.cell? ⟨w.heap.size, 2, none⟩ = some (.int .i64 m.pr.bed.sectors) := X283.out.cell 2
  have q293 : v281.cell? ⟨w.heap.size, 3, none⟩ = some (s) := X283.out.cell 3
  have q294 : v281.cell? ⟨w.heap.size, 4, none⟩ = some (.int .i64 m.pr.run.eye) := X283.out.cell 4
  have q295 : v281.cell? ⟨w.heap.size, 5, none⟩ = some (.int .i64 m.pr.run.rings) := X283.out.cell 5
  have q296 : v281.cell? ⟨w.heap.size, 6, none⟩ = some (.int .i64 m.pr.run.sectors) := X283.out.cell 6
  have q297 : v281.cell? ⟨w.heap.size, 7, none⟩ = some (r) := X283.out.cell 7
  have q298 : v281.cell? ⟨w.heap.size, 8, none⟩ = some (d) := X283.out.cell 8
  have q299 : v281.cell? ⟨w.heap.size, 9, none⟩ = some (gv) := X283.out.cell 9
  have q300 : v281.cell? ⟨w.heap.size + 1, 0, none⟩ = some (.int .i64 a) := X284.out.cell 0
  have q301 : v281.cell? ⟨w.heap.size + 1, 1, none⟩ = some (.int .i64 b) := X284.out.cell 1
  have q302 : v281.cell? ⟨w.heap.size + 1, 2, none⟩ = some (.int .i64 t) := X284.out.cell 2
  have q303 : v281.cell? ⟨w.heap.size + 1, 3, none⟩ = some (.int .i64 size) := X284.out.cell 3
  have q304 : v281.cell? ⟨w.heap.size + 1, 4, none⟩ = some (.int .i64 cuts) := X284.out.cell 4
  have q305 : v281.cell? ⟨w.heap.size + 1 + 1, 0, none⟩ = some (.int .i64 mo) := X285.out.cell 0
  have q306 : v281.cell? ⟨w.heap.size + 1 + 1, 1, none⟩ = some (.int .i64 ms) := X285.out.cell 1
  have q307 : v281.cell? ⟨w.heap.size + 1 + 1, 2, none⟩ = some (.bool mc) := X285.out.cell 2
  have q308 : v281.cell? ⟨w.heap.size + 1 + 1 + 1, 0, none⟩ = some (.int .i64 0) := X286.out.cell 0
  have q309 : v281.cell? ⟨w.heap.size + 1 + 1 + 1, 1, none⟩ = some (.int .i64 0) := X286.out.cell 1
  have q310 : v281.cell? ⟨w.heap.size + 1 + 1 + 1, 2, none⟩ = some (.int .i64 0) := X286.out.cell 2
  have q311 : v281.cell? ⟨w.heap.size + 1 + 1 + 1, 3, none⟩ = some (.int .i64 0) := X286.out.cell 3
  have q312 : v281.cell? ⟨w.heap.size + 1 + 1 + 1, 4, none⟩ = some (.int .i64 0) := X286.out.cell 4
  have fz313 : ∀ o, v281.frozen? ⟨w.heap.size + 1 + 1 + 1, o, none⟩ = false := fun o => X286.out.free o
  go_wp2_with fail
  refine (chartOf_g m _ _ C287.out).mono ?_; rintro e v314 ⟨⟨g, rfl, hg, hch⟩, hb315⟩
  have X316 := Lib.hid (X283.out.later hb315)
  have X317 := Lib.hid (X284.out.later hb315)
  have X318 := Lib.hid (X285.out.later hb315)
  have X319 := Lib.hid (X286.out.later hb315)
  have C320 := Lib.hid (C287.out.later hb315)
  have C321 := Lib.hid (C288.out.later hb315)
  have B322 := Lib.hid (B289.out.trans (hb315.mono B289.out.size))
  clear hb315
  have HCH := Lib.hid hch
  clear hch hg
  clear q290 q291 q292 q293 q294 q295 q296 q297 q298 q299 q300 q301 q302 q303 q304 q305 q306 q307 q308 q309 q310 q311 q312 fz313
  have q323 : v314.cell? ⟨w.heap.size, 0, none⟩ = some (.int .i64 m.pr.bed.eye) := X316.out.cell 0
  have q324 : v314.cell? ⟨w.heap.size, 1, none⟩ = some (.int .i64 m.pr.bed.rings) := X316.out.cell 1
  have q325 : v314.cell? ⟨w.heap.size, 2, none⟩ = some (.int .i64 m.pr.bed.sectors) := X316.out.cell 2
  have q326 : v314.cell? ⟨w.heap.size, 3, none⟩ = some (s) := X316.out.cell 3
  have q327 : v314.cell? ⟨w.heap.size, 4, none⟩ = some (.int .i64 m.pr.run.eye) := X316.out.cell 4
  have q328 : v314.cell? ⟨w.heap.size, 5, none⟩ = some (.int .i64 m.pr.run.rings) := X316.out.cell 5
  have q329 : v314.cell? ⟨w.heap.size, 6, none⟩ = some (.int .i64 m.pr.run.sectors) := X316.out.cell 6
  have q330 : v314.cell? ⟨w.heap.size, 7, none⟩ = some (r) := X316.out.cell 7
  have q331 : v314.cell? ⟨w.heap.size, 8, none⟩ = some (d) := X316.out.cell 8
  have q332 : v314.cell? ⟨w.heap.size, 9, none⟩ = some (gv) := X316.out.cell 9
  have q333 : v314.cell? ⟨w.heap.size + 1, 0, none⟩ = some (.int .i64 a) := X317.out.cell 0
  have q334 : v314.cell? ⟨w.heap.size + 1, 1, none⟩ = some (.int .i64 b) := X317.out.cell 1
  have q335 : v314.cell? ⟨w.heap.size + 1, 2, none⟩ = some (.int .i64 t) := X317.out.cell 2
  have q336 : v314.cell? ⟨w.heap.size + 1, 3, none⟩ = some (.int .i64 size) := X317.out.cell 3
  have q337 : v314.cell? ⟨w.heap.size + 1, 4, none⟩ = some (.int .i64 cuts) := X317.out.cell 4
  have q338 : v314.cell? ⟨w.heap.size + 1 + 1, 0, none⟩ = some (.int .i64 mo) := X318.out.cell 0
  have q339 : v314.cell? ⟨w.heap.size + 1 + 1, 1, none⟩ = some (.int .i64 ms) := X318.out.cell 1
  have q340 : v314.cell? ⟨w.heap.size + 1 + 1, 2, none⟩ = some (.bool mc) := X318.out.cell 2
  have q341 : v314.cell? ⟨w.heap.size + 1 + 1 + 1, 0, none⟩ = some (.int .i64 0) := X319.out.cell 0
  have q342 : v314.cell? ⟨w.heap.size + 1 + 1 + 1, 1, none⟩ = some (.int .i64 0) := X319.out.cell 1
  have q343 : v314.cell? ⟨w.heap.size + 1 + 1 + 1, 2, none⟩ = some (.int .i64 0) := X319.out.cell 2
  have q344 : v314.cell? ⟨w.heap.size + 1 + 1 + 1, 3, none⟩ = some (.int .i64 0) := X319.out.cell 3
  have q345 : v314.cell? ⟨w.heap.size + 1 + 1 + 1, 4, none⟩ = some (.int .i64 0) := X319.out.cell 4
  have fz346 : ∀ o, v314.frozen? ⟨w.heap.size + 1 + 1 + 1, o, none⟩ = false := fun o => X319.out.free o
  go_wp2_with fail
  have hdr393 : Below (v314).heap.size (v314) (v314).drew := (Below.refl _ _).drew
  have lt370 := X316.out.lt
  have lt371 := X316.out.lt
  have lt372 := X316.out.lt
  have lt373 := X316.out.lt
  have lt374 := X316.out.lt
  have lt375 := X316.out.lt
  have lt376 := X316.out.lt
  have lt377 := X316.out.lt
  have lt378 := X316.out.lt
  have lt379 := X316.out.lt
  have lt380 := X317.out.lt
  have lt381 := X317.out.lt
  have lt382 := X317.out.lt
  have lt383 := X317.out.lt
  have lt384 := X317.out.lt
  have lt385 := X318.out.lt
  have lt386 := X318.out.lt
  have lt387 := X318.out.lt
  have lt388 := X319.out.lt
  have lt389 := X319.out.lt
  have lt390 := X319.out.lt
  have lt391 := X319.out.lt
  have lt392 := X319.out.lt
  have hcall394 : ∀ X Y : World, (fun Wz => Wz.cell? ⟨w.heap.size, 0, none⟩ = some (.int .i64 m.pr.bed.eye) ∧ Wz.cell? ⟨w.heap.size, 1, none⟩ = some (.int .i64 m.pr.bed.rings) ∧ Wz.cell? ⟨w.heap.size, 2, none⟩ = some (.int .i64 m.pr.bed.sectors) ∧ Wz.cell? ⟨w.heap.size, 3, none⟩ = some (s) ∧ Wz.cell? ⟨w.heap.size, 4, none⟩ = some (.int .i64 m.pr.run.eye) ∧ Wz.cell? ⟨w.heap.size, 5, none⟩ = some (.int .i64 m.pr.run.rings) ∧ Wz.cell? ⟨w.heap.size, 6, none⟩ = some (.int .i64 m.pr.run.sectors) ∧ Wz.cell? ⟨w.heap.size, 7, none⟩ = some (r) ∧ Wz.cell? ⟨w.heap.size, 8, none⟩ = some (d) ∧ Wz.cell? ⟨w.heap.size, 9, none⟩ = some (gv) ∧ Wz.cell? ⟨w.heap.size + 1, 0, none⟩ = some (.int .i64 a) ∧ Wz.cell? ⟨w.heap.size + 1, 1, none⟩ = some (.int .i64 b) ∧ Wz.cell? ⟨w.heap.size + 1, 2, none⟩ = some (.int .i64 t) ∧ Wz.cell? ⟨w.heap.size + 1, 3, none⟩ = some (.int .i64 size) ∧ Wz.cell? ⟨w.heap.size + 1, 4, none⟩ = some (.int .i64 cuts) ∧ Wz.cell? ⟨w.heap.size + 1 + 1, 0, none⟩ = some (.int .i64 mo) ∧ Wz.cell? ⟨w.heap.size + 1 + 1, 1, none⟩ = some (.int .i64 ms) ∧ Wz.cell? ⟨w.heap.size + 1 + 1, 2, none⟩ = some (.bool mc) ∧ Wz.cell? ⟨w.heap.size + 1 + 1 + 1, 0, none⟩ = some (.int .i64 0) ∧ Wz.cell? ⟨w.heap.size + 1 + 1 + 1, 1, none⟩ = some (.int .i64 0) ∧ Wz.cell? ⟨w.heap.size + 1 + 1 + 1, 2, none⟩ = some (.int .i64 0) ∧ Wz.cell? ⟨w.heap.size + 1 + 1 + 1, 3, none⟩ = some (.int .i64 0) ∧ Wz.cell? ⟨w.heap.size + 1 + 1 + 1, 4, none⟩ = some (.int .i64 0) ∧ (v314).heap.size ≤ Wz.heap.size) X → Below X.heap.size X Y → (fun Wz => Wz.cell? ⟨w.heap.size, 0, none⟩ = some (.int .i64 m.pr.bed.eye) ∧ Wz.cell? ⟨w.heap.size, 1, none⟩ = some (.int .i64 m.pr.bed.rings) ∧ Wz.cell? ⟨w.heap.size, 2, none⟩ = some (.int .i64 m.pr.bed.sectors) ∧ Wz.cell? ⟨w.heap.size, 3, none⟩ = some (s) ∧ Wz.cell? ⟨w.heap.size, 4, none⟩ = some (.int .i64 m.pr.run.eye) ∧ Wz.cell? ⟨w.heap.size, 5, none⟩ = some (.int .i64 m.pr.run.rings) ∧ Wz.cell? ⟨w.heap.size, 6, none⟩ = some (.int .i64 m.pr.run.sectors) ∧ Wz.cell? ⟨w.heap.size, 7, none⟩ = some (r) ∧ Wz.cell? ⟨w.heap.size, 8, none⟩ = some (d) ∧ Wz.cell? ⟨w.heap.size, 9, none⟩ = some (gv) ∧ Wz.cell? ⟨w.heap.size + 1, 0, none⟩ = some (.int .i64 a) ∧ Wz.cell? ⟨w.heap.size + 1, 1, none⟩ = some (.int .i64 b) ∧ Wz.cell? ⟨w.heap.size + 1, 2, none⟩ = some (.int .i64 t) ∧ Wz.cell? ⟨w.heap.size + 1, 3, none⟩ = some (.int .i64 size) ∧ Wz.cell? ⟨w.heap.size + 1, 4, none⟩ = some (.int .i64 cuts) ∧ Wz.cell? ⟨w.heap.size + 1 + 1, 0, none⟩ = some (.int .i64 mo) ∧ Wz.cell? ⟨w.heap.size + 1 + 1, 1, none⟩ = some (.int .i64 ms) ∧ Wz.cell? ⟨w.heap.size + 1 + 1, 2, none⟩ = some (.bool mc) ∧ Wz.cell? ⟨w.heap.size + 1 + 1 + 1, 0, none⟩ = some (.int .i64 0) ∧ Wz.cell? ⟨w.heap.size + 1 + 1 + 1, 1, none⟩ = some (.int .i64 0) ∧ Wz.cell? ⟨w.heap.size + 1 + 1 + 1, 2, none⟩ = some (.int .i64 0) ∧ Wz.cell? ⟨w.heap.size + 1 + 1 + 1, 3, none⟩ = some (.int .i64 0) ∧ Wz.cell? ⟨w.heap.size + 1 + 1 + 1, 4, none⟩ = some (.int .i64 0) ∧ (v314).heap.size ≤ Wz.heap.size) Y := by
    rintro X Y ⟨z347, z348, z349, z350, z351, z352, z353, z354, z355, z356, z357, z358, z359, z360, z361, z362, z363, z364, z365, z366, z367, z368, z369, xs⟩ hb
    have hb2 := Below.mono (B' := (v314).heap.size) hb xs
    exact ⟨keepd z347 hb2 lt370, keepd z348 hb2 lt371, keepd z349 hb2 lt372, keepd z350 hb2 lt373, keepd z351 hb2 lt374, keepd z352 hb2 lt375, keepd z353 hb2 lt376, keepd z354 hb2 lt377, keepd z355 hb2 lt378, keepd z356 hb2 lt379, keepd z357 hb2 lt380, keepd z358 hb2 lt381, keepd z359 hb2 lt382, keepd z360 hb2 lt383, keepd z361 hb2 lt384, keepd z362 hb2 lt385, keepd z363 hb2 lt386, keepd z364 hb2 lt387, keepd z365 hb2 lt388, keepd z366 hb2 lt389, keepd z367 hb2 lt390, keepd z368 hb2 lt391, keepd z369 hb2 lt392, Nat.le_trans xs hb.size⟩
  have hini395 : (fun Wz => Wz.cell? ⟨w.heap.size, 0, none⟩ = some (.int .i64 m.pr.bed.eye) ∧ Wz.cell? ⟨w.heap.size, 1, none⟩ = some (.int .i64 m.pr.bed.rings) ∧ Wz.cell? ⟨w.heap.size, 2, none⟩ = some (.int .i64 m.pr.bed.sectors) ∧ Wz.cell? ⟨w.heap.size, 3, none⟩ = some (s) ∧ Wz.cell? ⟨w.heap.size, 4, none⟩ = some (.int .i64 m.pr.run.eye) ∧ Wz.cell? ⟨w.heap.size, 5, none⟩ = some (.int .i64 m.pr.run.rings) ∧ Wz.cell? ⟨w.heap.size, 6, none⟩ = some (.int .i64 m.pr.run.sectors) ∧ Wz.cell? ⟨w.heap.size, 7, none⟩ = some (r) ∧ Wz.cell? ⟨w.heap.size, 8, none⟩ = some (d) ∧ Wz.cell? ⟨w.heap.size, 9, none⟩ = some (gv) ∧ Wz.cell? ⟨w.heap.size + 1, 0, none⟩ = some (.int .i64 a) ∧ Wz.cell? ⟨w.heap.size + 1, 1, none⟩ = some (.int .i64 b) ∧ Wz.cell? ⟨w.heap.size + 1, 2, none⟩ = some (.int .i64 t) ∧ Wz.cell? ⟨w.heap.size + 1, 3, none⟩ = some (.int .i64 size) ∧ Wz.cell? ⟨w.heap.size + 1, 4, none⟩ = some (.int .i64 cuts) ∧ Wz.cell? ⟨w.heap.size + 1 + 1, 0, none⟩ = some (.int .i64 mo) ∧ Wz.cell? ⟨w.heap.size + 1 + 1, 1, none⟩ = some (.int .i64 ms) ∧ Wz.cell? ⟨w.heap.size + 1 + 1, 2, none⟩ = some (.bool mc) ∧ Wz.cell? ⟨w.heap.size + 1 + 1 + 1, 0, none⟩ = some (.int .i64 0) ∧ Wz.cell? ⟨w.heap.size + 1 + 1 + 1, 1, none⟩ = some (.int .i64 0) ∧ Wz.cell? ⟨w.heap.size + 1 + 1 + 1, 2, none⟩ = some (.int .i64 0) ∧ Wz.cell? ⟨w.heap.size + 1 + 1 + 1, 3, none⟩ = some (.int .i64 0) ∧ Wz.cell? ⟨w.heap.size + 1 + 1 + 1, 4, none⟩ = some (.int .i64 0) ∧ (v314).heap.size ≤ Wz.heap.size) (v314).drew := ⟨keepd (X316.out.cell 0) hdr393 lt370, keepd (X316.out.cell 1) hdr393 lt371, keepd (X316.out.cell 2) hdr393 lt372, keepd (X316.out.cell 3) hdr393 lt373, keepd (X316.out.cell 4) hdr393 lt374, keepd (X316.out.cell 5) hdr393 lt375, keepd (X316.out.cell 6) hdr393 lt376, keepd (X316.out.cell 7) hdr393 lt377, keepd (X316.out.cell 8) hdr393 lt378, keepd (X316.out.cell 9) hdr393 lt379, keepd (X317.out.cell 0) hdr393 lt380, keepd (X317.out.cell 1) hdr393 lt381, keepd (X317.out.cell 2) hdr393 lt382, keepd (X317.out.cell 3) hdr393 lt383, keepd (X317.out.cell 4) hdr393 lt384, keepd (X318.out.cell 0) hdr393 lt385, keepd (X318.out.cell 1) hdr393 lt386, keepd (X318.out.cell 2) hdr393 lt387, keepd (X319.out.cell 0) hdr393 lt388, keepd (X319.out.cell 1) hdr393 lt389, keepd (X319.out.cell 2) hdr393 lt390, keepd (X319.out.cell 3) hdr393 lt391, keepd (X319.out.cell 4) hdr393 lt392, Nat.le_refl _⟩
  have Hcall394 := Lib.hid hcall394
  have Hini395 := Lib.hid hini395
  clear hcall394 hini395 lt370 lt371 lt372 lt373 lt374 lt375 lt376 lt377 lt378 lt379 lt380 lt381 lt382 lt383 lt384 lt385 lt386 lt387 lt388 lt389 lt390 lt391 lt392
  clear q323 q324 q325 q326 q327 q328 q329 q330 q331 q332 q333 q334 q335 q336 q337 q338 q339 q340 q341 q342 q343 q344 q345 fz346
  refine wp_region_noPanic ?_
  refine wp_region_held_drew (S := (fun Wz => Wz.cell? ⟨w.heap.size, 0, none⟩ = some (.int .i64 m.pr.bed.eye) ∧ Wz.cell? ⟨w.heap.size, 1, none⟩ = some (.int .i64 m.pr.bed.rings) ∧ Wz.cell? ⟨w.heap.size, 2, none⟩ = some (.int .i64 m.pr.bed.sectors) ∧ Wz.cell? ⟨w.heap.size, 3, none⟩ = some (s) ∧ Wz.cell? ⟨w.heap.size, 4, none⟩ = some (.int .i64 m.pr.run.eye) ∧ Wz.cell? ⟨w.heap.size, 5, none⟩ = some (.int .i64 m.pr.run.rings) ∧ Wz.cell? ⟨w.heap.size, 6, none⟩ = some (.int .i64 m.pr.run.sectors) ∧ Wz.cell? ⟨w.heap.size, 7, none⟩ = some (r) ∧ Wz.cell? ⟨w.heap.size, 8, none⟩ = some (d) ∧ Wz.cell? ⟨w.heap.size, 9, none⟩ = some (gv) ∧ Wz.cell? ⟨w.heap.size + 1, 0, none⟩ = some (.int .i64 a) ∧ Wz.cell? ⟨w.heap.size + 1, 1, none⟩ = some (.int .i64 b) ∧ Wz.cell? ⟨w.heap.size + 1, 2, none⟩ = some (.int .i64 t) ∧ Wz.cell? ⟨w.heap.size + 1, 3, none⟩ = some (.int .i64 size) ∧ Wz.cell? ⟨w.heap.size + 1, 4, none⟩ = some (.int .i64 cuts) ∧ Wz.cell? ⟨w.heap.size + 1 + 1, 0, none⟩ = some (.int .i64 mo) ∧ Wz.cell? ⟨w.heap.size + 1 + 1, 1, none⟩ = some (.int .i64 ms) ∧ Wz.cell? ⟨w.heap.size + 1 + 1, 2, none⟩ = some (.bool mc) ∧ Wz.cell? ⟨w.heap.size + 1 + 1 + 1, 0, none⟩ = some (.int .i64 0) ∧ Wz.cell? ⟨w.heap.size + 1 + 1 + 1, 1, none⟩ = some (.int .i64 0) ∧ Wz.cell? ⟨w.heap.size + 1 + 1 + 1, 2, none⟩ = some (.int .i64 0) ∧ Wz.cell? ⟨w.heap.size + 1 + 1 + 1, 3, none⟩ = some (.int .i64 0) ∧ Wz.cell? ⟨w.heap.size + 1 + 1 + 1, 4, none⟩ = some (.int .i64 0) ∧ (v314).heap.size ≤ Wz.heap.size)) (by kernel_rfl) Hini395.out (fun hHeld => ?_)
  obtain ⟨W397, hW398⟩ : ∃ Wzz, (v314).drew = Wzz := ⟨_, rfl⟩
  rw [hW398] at hHeld hdr393 ⊢
  clear hW398
  have X399 := Lib.hid (X316.out.later hdr393)
  have X400 := Lib.hid (X317.out.later hdr393)
  have X401 := Lib.hid (X318.out.later hdr393)
  have X402 := Lib.hid (X319.out.later hdr393)
  have C403 := Lib.hid (C320.out.later hdr393)
  have C404 := Lib.hid (C321.out.later hdr393)
  have C405 := Lib.hid (HCH.out.later hdr393)
  have B406 := Lib.hid (B322.out.trans (hdr393.mono B322.out.size))
  clear hdr393
  refine wpAnyH_take (i := 0) (oi := { dst := some 20, op := Op.move (Operand.tmp 10), type := 89, pos := "steps.go:39", after := #[], guard := none }) (v := ?vh407) rfl ?hsh407 ?hfh407 ?hrh407 ?hQh407 ?hyh407 (by assumption) ?resth407
  case hsh407 => kernel_rfl
  case hfh407 => kernel_rfl
  case hrh407 => kernel_rfl
  case hQh407 => exact fun _ _ _ h => h
  case hyh407 => (refine Or.inl ⟨by rfl, ?_⟩; intro w hSw; (try dsimp only at hSw); go_simp; try with_reducible rfl)
  try simp only [Act.put, List.setIfInBounds_toArray, List.set_cons_zero, List.set_cons_succ]
  refine wpAnyH_take (i := 1) (oi := { dst := some 21, op := Op.fieldAddr 48 (Operand.tmp 4) 0, type := 0, pos := "steps.go:39", after := #[], guard := none }) (v := ?vh408) rfl ?hsh408 ?hfh408 ?hrh408 ?hQh408 ?hyh408 (by assumption) ?resth408
  case hsh408 => kernel_rfl
  case hfh408 => kernel_rfl
  case hrh408 => kernel_rfl
  case hQh408 => exact fun _ _ _ h => h
  case hyh408 => (refine Or.inl ⟨by rfl, ?_⟩; intro w hSw; (try dsimp only at hSw); go_simp; try with_reducible rfl)
  try simp only [Act.put, List.setIfInBounds_toArray, List.set_cons_zero, List.set_cons_succ]
  refine wpAnyH_take (i := 2) (oi := { dst := some 22, op := Op.load 46 (Operand.tmp 21), type := 46, pos := "steps.go:39", after := #[{ on := 1, ground := Ground.data }], guard := none }) (v := ?vh409) rfl ?hsh409 ?hfh409 ?hrh409 ?hQh409 ?hyh409 (by assumption) ?resth409
  case hsh409 => kernel_rfl
  case hfh409 => kernel_rfl
  case hrh409 => kernel_rfl
  case hQh409 => exact fun _ _ _ h => h
  case hyh409 => (refine Or.inl ⟨by rfl, ?_⟩; intro w hSw; (try dsimp only at hSw); go_simp; try with_reducible rfl)
  try simp only [Act.put, List.setIfInBounds_toArray, List.set_cons_zero, List.set_cons_succ]
  refine wpAnyH_take (i := 4) (oi := { dst := some 24, op := Op.load 50 (Operand.tmp 5), type := 50, pos := "steps.go:39", after := #[], guard := none }) (v := ?vh410) rfl ?hsh410 ?hfh410 ?hrh410 ?hQh410 ?hyh410 (by assumption) ?resth410
  case hsh410 => kernel_rfl
  case hfh410 => kernel_rfl
  case hrh410 => kernel_rfl
  case hQh410 => exact fun _ _ _ h => h
  case hyh410 => (refine Or.inl ⟨by rfl, ?_⟩; intro w hSw; (try dsimp only at hSw); go_simp; try with_reducible rfl)
  try simp only [Act.put, List.setIfInBounds_toArray, List.set_cons_zero, List.set_cons_succ]
  refine wpAnyH_ready (rs := [3]) (by kernel_rfl) (by simp) ?_
  refine AllReadyH.cons (o := _) (by rfl) (fun K hK => ?_) AllReadyH.nil
  go_simp
  go_at_call 51
  refine (moves_g m a b t g _ C405.out (agE_zero (grE_zero HE.out).1).1 (agE_zero (grE_zero HE.out).1).2.1).mono ?_; rintro e v411 ⟨⟨u, rfl, hu⟩, hb412⟩
  have X413 := Lib.hid (X399.out.later hb412)
  have X414 := Lib.hid (X400.out.later hb412)
  have X415 := Lib.hid (X401.out.later hb412)
  have X416 := Lib.hid (X402.out.later hb412)
  have C417 := Lib.hid (C403.out.later hb412)
  have C418 := Lib.hid (C404.out.later hb412)
  have C419 := Lib.hid (C405.out.later hb412)
  have B420 := Lib.hid (B406.out.trans (hb412.mono B406.out.size))
  clear X399 X400 X401 X402 C403 C404 C405 B406
  have HUV := Lib.hid hu
  clear hu
  go_wp2_with fail
  refine hK.out _ _ (Hcall394.out _ _ hHeld (by assumption)) (fun hHeld421 => ?_)
  clear hK K hHeld
  clear hb412
  have hHeld := hHeld421
  clear hHeld421
  try simp only [Act.put, List.setIfInBounds_toArray, List.set_cons_zero, List.set_cons_succ]
  refine wpAnyH_ready (rs := [5]) (by kernel_rfl) (by simp) ?_
  refine AllReadyH.cons (o := _) (by rfl) (fun K hK => ?_) AllReadyH.nil
  go_simp
  go_at_call 50
  refine (Contains_c (movesL m.pr ⟨a, b, t⟩) mo ms mc u _ HUV.out (listB_parts (movesL_ok (ckM_zero (agE_zero (grE_zero HE.out).1).1).1 (agE_zero (grE_zero HE.out).1).2.1)).1.2).mono ?_; rintro e v422 ⟨rfl, hb423⟩
  have X424 := Lib.hid (X413.out.later hb423)
  have X425 := Lib.hid (X414.out.later hb423)
  have X426 := Lib.hid (X415.out.later hb423)
  have X427 := Lib.hid (X416.out.later hb423)
  have C428 := Lib.hid (C417.out.later hb423)
  have C429 := Lib.hid (C418.out.later hb423)
  have C430 := Lib.hid (C419.out.later hb423)
  have B431 := Lib.hid (B420.out.trans (hb423.mono B420.out.size))
  clear X413 X414 X415 X416 C417 C418 C419 B420
  rw [HH.out]
  go_wp2_with fail
  refine hK.out _ _ (Hcall394.out _ _ hHeld (by assumption)) (fun hHeld432 => ?_)
  clear hK K hHeld
  clear hb423
  have hHeld := hHeld432
  clear hHeld432
  try simp only [Act.put, List.setIfInBounds_toArray, List.set_cons_zero, List.set_cons_succ]
  refine wpAnyH_take (i := 6) (oi := { dst := some 26, op := Op.unOp UnOp.not 4 (Operand.tmp 25), type := 4, pos := "steps.go:39", after := #[{ on := 5, ground := Ground.data }], guard := none }) (v := ?vh433) rfl ?hsh433 ?hfh433 ?hrh433 ?hQh433 ?hyh433 (by assumption) ?resth433
  case hsh433 => kernel_rfl
  case hfh433 => kernel_rfl
  case hrh433 => kernel_rfl
  case hQh433 => exact fun _ _ _ h => h
  case hyh433 => (refine Or.inl ⟨by rfl, ?_⟩; intro w hSw; (try dsimp only at hSw); go_simp; try with_reducible rfl)
  try simp only [Act.put, List.setIfInBounds_toArray, List.set_cons_zero, List.set_cons_succ]
  refine wpAnyH_done (by kernel_rfl) ?_ _
  refine NoPanic.normal ?_
  clear hHeld Hcall394 Hini395
  have q434 : v422.cell? ⟨w.heap.size, 0, none⟩ = some (.int .i64 m.pr.bed.eye) := X424.out.cell 0
  have q435 : v422.cell? ⟨w.heap.size, 1, none⟩ = some (.int .i64 m.pr.bed.rings) := X424.out.cell 1
  have q436 : v422.cell? ⟨w.heap.size, 2, none⟩ = some (.int .i64 m.pr.bed.sectors) := X424.out.cell 2
  have q437 : v422.cell? ⟨w.heap.size, 3, none⟩ = some (s) := X424.out.cell 3
  have q438 : v422.cell? ⟨w.heap.size, 4, none⟩ = some (.int .i64 m.pr.run.eye) := X424.out.cell 4
  have q439 : v422.cell? ⟨w.heap.size, 5, none⟩ = some (.int .i64 m.pr.run.rings) := X424.out.cell 5
  have q440 : v422.cell? ⟨w.heap.size, 6, none⟩ = some (.int .i64 m.pr.run.sectors) := X424.out.cell 6
  have q441 : v422.cell? ⟨w.heap.size, 7, none⟩ = some (r) := X424.out.cell 7
  have q442 : v422.cell? ⟨w.heap.size, 8, none⟩ = some (d) := X424.out.cell 8
  have q443 : v422.cell? ⟨w.heap.size, 9, none⟩ = some (gv) := X424.out.cell 9
  have q444 : v422.cell? ⟨w.heap.size + 1, 0, none⟩ = some (.int .i64 a) := X425.out.cell 0
  have q445 : v422.cell? ⟨w.heap.size + 1, 1, none⟩ = some (.int .i64 b) := X425.out.cell 1
  have q446 : v422.cell? ⟨w.heap.size + 1, 2, none⟩ = some (.int .i64 t) := X425.out.cell 2
  have q447 : v422.cell? ⟨w.heap.size + 1, 3, none⟩ = some (.int .i64 size) := X425.out.cell 3
  have q448 : v422.cell? ⟨w.heap.size + 1, 4, none⟩ = some (.int .i64 cuts) := X425.out.cell 4
  have q449 : v422.cell? ⟨w.heap.size + 1 + 1, 0, none⟩ = some (.int .i64 mo) := X426.out.cell 0
  have q450 : v422.cell? ⟨w.heap.size + 1 + 1, 1, none⟩ = some (.int .i64 ms) := X426.out.cell 1
  have q451 : v422.cell? ⟨w.heap.size + 1 + 1, 2, none⟩ = some (.bool mc) := X426.out.cell 2
  have q452 : v422.cell? ⟨w.heap.size + 1 + 1 + 1, 0, none⟩ = some (.int .i64 0) := X427.out.cell 0
  have q453 : v422.cell? ⟨w.heap.size + 1 + 1 + 1, 1, none⟩ = some (.int .i64 0) := X427.out.cell 1
  have q454 : v422.cell? ⟨w.heap.size + 1 + 1 + 1, 2, none⟩ = some (.int .i64 0) := X427.out.cell 2
  have q455 : v422.cell? ⟨w.heap.size + 1 + 1 + 1, 3, none⟩ = some (.int .i64 0) := X427.out.cell 3
  have q456 : v422.cell? ⟨w.heap.size + 1 + 1 + 1, 4, none⟩ = some (.int .i64 0) := X427.out.cell 4
  have fz457 : ∀ o, v422.frozen? ⟨w.heap.size + 1 + 1 + 1, o, none⟩ = false := fun o => X427.out.free o
  go_wp2_with fail
  (try simp only [Exit.inBlock, Exit.then])
  refine grainEnd3 (t := 6) (u := 7) (q := 8) (x := .bool false) (y := .int .i64 1) (v := .tuple #[.agg #[.int .i64 0, .int .i64 0, .int .i64 0, .int .i64 0, .int .i64 0], .bool false, .int .i64 1]) ?_ ?_ ?_ ?_ (((((X427.out.put 0 (.int .i64 0)).put 1 (.int .i64 0)).put 2 (.int .i64 0)).put 3 (.int .i64 0)).put 4 (.int .i64 0)) (((((B431.out.setCell (by first | (simp; done) | (simp; omega) | omega) _).setCell (by first | (simp; done) | (simp; omega) | omega) _).setCell (by first | (simp; done) | (simp; omega) | omega) _).setCell (by first | (simp; done) | (simp; omega) | omega) _).setCell (by first | (simp; done) | (simp; omega) | omega) _) ?_
  all_goals first | rfl | skip

set_option maxRecDepth 100000 in
set_option maxHeartbeats 8000000 in
theorem After_ok (m : Ml) (a b t size cuts mo ms : Int) (mc : Bool) (v : Value) (w : World) (hm : IsMill w w.heap.size v m) (h0 : grE m ⟨a, b, t⟩ size cuts = 0) (hh : hasM (movesL m.pr ⟨a, b, t⟩) ⟨mo, ms, mc⟩ = true) : Calls Tryz.prog 18 #[v, .agg #[.int .i64 a, .int .i64 b, .int .i64 t, .int .i64 size, .int .i64 cuts], .agg #[.int .i64 mo, .int .i64 ms, .bool mc]] w fun e w' => e = .returned (.tuple #[stepV m ⟨a, b, t⟩ size cuts ⟨mo, ms, mc⟩, .bool (outB m.pr ⟨a, b, t⟩ ⟨mo, ms, mc⟩), .int .i64 0]) ∧ Below w.heap.size w w' := by
  obtain ⟨s, r, d, gv, hmv, i1, i2, i3, i4⟩ := _root_.id hm
  subst hmv
  have HM0 := Lib.hid hm
  have HP0 := Lib.hid (show IsPair w w.heap.size (pairV m.pr s r d) m.pr from ⟨s, r, d, rfl, i1, i2, i3⟩)
  clear hm i1 i2 i3 i4
  unfold millV pairV at *
  have HE := Lib.hid h0
  have HH := Lib.hid hh
  have HMV := Lib.hid (mvB_of_has (movesL_ok (ckM_zero (agE_zero (grE_zero HE.out).1).1).1 (agE_zero (grE_zero HE.out).1).2.1) hh)
  obtain ⟨ob, ho⟩ : ∃ s, outB m.pr ⟨a, b, t⟩ ⟨mo, ms, mc⟩ = s := ⟨_, rfl⟩
  obtain ⟨r0, r1, r2, r3, r4, hst⟩ : ∃ r0 r1 r2 r3 r4, stepV m ⟨a, b, t⟩ size cuts ⟨mo, ms, mc⟩ = .agg #[.int .i64 r0, .int .i64 r1, .int .i64 r2, .int .i64 r3, .int .i64 r4] := ⟨_, _, _, _, _, rfl⟩
  rw [ho, hst]
  have HO := Lib.hid ho
  have HST := Lib.hid hst
  clear h0 hh ho hst
  go_enter Tryz.func18, Tryz.ntmps18
  go_wp2_with fail
  obtain ⟨W458, hW459⟩ : ∃ Wzz, ((((w.alloc (.cells #[.int .i64 m.pr.bed.eye, .int .i64 m.pr.bed.rings, .int .i64 m.pr.bed.sectors, s, .int .i64 m.pr.run.eye, .int .i64 m.pr.run.rings, .int .i64 m.pr.run.sectors, r, d, gv] 33)).alloc (.cells #[.int .i64 a, .int .i64 b, .int .i64 t, .int .i64 size, .int .i64 cuts] 48)).alloc (.cells #[.int .i64 mo, .int .i64 ms, .bool mc] 50)).alloc (.cells #[.int .i64 0, .int .i64 0, .int .i64 0, .int .i64 0, .int .i64 0] 48)) = Wzz := ⟨_, rfl⟩
  have B460 := Lib.hid (show Below w.heap.size w W458 by rw [← hW459]; exact (((((Below.refl w.heap.size w).alloc (Nat.le_refl _) _).alloc (by first | (simp; done) | (simp; omega)) _).alloc (by first | (simp; done) | (simp; omega)) _).alloc (by first | (simp; done) | (simp; omega)) _))
  have X461 := Lib.hid (show Box W458 (w.heap.size) 33 #[.int .i64 m.pr.bed.eye, .int .i64 m.pr.bed.rings, .int .i64 m.pr.bed.sectors, s, .int .i64 m.pr.run.eye, .int .i64 m.pr.run.rings, .int .i64 m.pr.run.sectors, r, d, gv] by rw [← hW459]; exact Box.alloc (Box.alloc (Box.alloc (Box.made w 33 #[.int .i64 m.pr.bed.eye, .int .i64 m.pr.bed.rings, .int .i64 m.pr.bed.sectors, s, .int .i64 m.pr.run.eye, .int .i64 m.pr.run.rings, .int .i64 m.pr.run.sectors, r, d, gv]) (.cells #[.int .i64 a, .int .i64 b, .int .i64 t, .int .i64 size, .int .i64 cuts] 48)) (.cells #[.int .i64 mo, .int .i64 ms, .bool mc] 50)) (.cells #[.int .i64 0, .int .i64 0, .int .i64 0, .int .i64 0, .int .i64 0] 48))
  have X462 := Lib.hid (show Box W458 (w.heap.size + 1) 48 #[.int .i64 a, .int .i64 b, .int .i64 t, .int .i64 size, .int .i64 cuts] by
    have hz := Box.alloc (Box.alloc (Box.made (w.alloc (.cells #[.int .i64 m.pr.bed.eye, .int .i64 m.pr.bed.rings, .int .i64 m.pr.bed.sectors, s, .int .i64 m.pr.run.eye, .int .i64 m.pr.run.rings, .int .i64 m.pr.run.sectors, r, d, gv] 33)) 48 #[.int .i64 a, .int .i64 b, .int .i64 t, .int .i64 size, .int .i64 cuts]) (.cells #[.int .i64 mo, .int .i64 ms, .bool mc] 50)) (.cells #[.int .i64 0, .int .i64 0, .int .i64 0, .int .i64 0, .int .i64 0] 48)
    rw [World.size_alloc] at hz
    rw [← hW459]; exact hz)
  have X463 := Lib.hid (show Box W458 (w.heap.size + 1 + 1) 50 #[.int .i64 mo, .int .i64 ms, .bool mc] by
    have hz := Box.alloc (Box.made ((w.alloc (.cells #[.int .i64 m.pr.bed.eye, .int .i64 m.pr.bed.rings, .int .i64 m.pr.bed.sectors, s, .int .i64 m.pr.run.eye, .int .i64 m.pr.run.rings, .int .i64 m.pr.run.sectors, r, d, gv] 33)).alloc (.cells #[.int .i64 a, .int .i64 b, .int .i64 t, .int .i64 size, .int .i64 cuts] 48)) 50 #[.int .i64 mo, .int .i64 ms, .bool mc]) (.cells #[.int .i64 0, .int .i64 0, .int .i64 0, .int .i64 0, .int .i64 0] 48)
    rw [World.size_alloc, World.size_alloc] at hz
    rw [← hW459]; exact hz)
  have X464 := Lib.hid (show Box W458 (w.heap.size + 1 + 1 + 1) 48 #[.int .i64 0, .int .i64 0, .int .i64 0, .int .i64 0, .int .i64 0] by
    have hz := Box.made (((w.alloc (.cells #[.int .i64 m.pr.bed.eye, .int .i64 m.pr.bed.rings, .int .i64 m.pr.bed.sectors, s, .int .i64 m.pr.run.eye, .int .i64 m.pr.run.rings, .int .i64 m.pr.run.sectors, r, d, gv] 33)).alloc (.cells #[.int .i64 a, .int .i64 b, .int .i64 t, .int .i64 size, .int .i64 cuts] 48)).alloc (.cells #[.int .i64 mo, .int .i64 ms, .bool mc] 50)) 48 #[.int .i64 0, .int .i64 0, .int .i64 0, .int .i64 0, .int .i64 0]
    rw [World.size_alloc, World.size_alloc, World.size_alloc] at hz
    rw [← hW459]; exact hz)
  have C465 := Lib.hid (HM0.out.later B460.out)
  have C466 := Lib.hid (HP0.out.later B460.out)
  have SZ467 := Lib.hid (show W458.heap.size = w.heap.size + 1 + 1 + 1 + 1 by rw [← hW459]; simp)
  rw [hW459]
  clear hW459
  have q468 : W458.cell? ⟨w.heap.size, 0, none⟩ = some (.int .i64 m.pr.bed.eye) := X461.out.cell 0
  have q469 : W458.cell? ⟨w.heap.size, 1, none⟩ = some (.int .i64 m.pr.bed.rings) := X461.out.cell 1
  have q470 : W458.cell? ⟨w.heap.size, 2, none⟩ = some (.int .i64 m.pr.bed.sectors) := X461.out.cell 2
  have q471 : W458.cell? ⟨w.heap.size, 3, none⟩ = some (s) := X461.out.cell 3
  have q472 : W458.cell? ⟨w.heap.size, 4, none⟩ = some (.int .i64 m.pr.run.eye) := X461.out.cell 4
  have q473 : W458.cell? ⟨w.heap.size, 5, none⟩ = some (.int .i64 m.pr.run.rings) := X461.out.cell 5
  have q474 : W458.cell? ⟨w.heap.size, 6, none⟩ = some (.int .i64 m.pr.run.sectors) := X461.out.cell 6
  have q475 : W458.cell? ⟨w.heap.size, 7, none⟩ = some (r) := X461.out.cell 7
  have q476 : W458.cell? ⟨w.heap.size, 8, none⟩ = some (d) := X461.out.cell 8
  have q477 : W458.cell? ⟨w.heap.size, 9, none⟩ = some (gv) := X461.out.cell 9
  have q478 : W458.cell? ⟨w.heap.size + 1, 0, none⟩ = some (.int .i64 a) := X462.out.cell 0
  have q479 : W458.cell? ⟨w.heap.size + 1, 1, none⟩ = some (.int .i64 b) := X462.out.cell 1
  have q480 : W458.cell? ⟨w.heap.size + 1, 2, none⟩ = some (.int .i64 t) := X462.out.cell 2
  have q481 : W458.cell? ⟨w.heap.size + 1, 3, none⟩ = some (.int .i64 size) := X462.out.cell 3
  have q482 : W458.cell? ⟨w.heap.size + 1, 4, none⟩ = some (.int .i64 cuts) := X462.out.cell 4
  have q483 : W458.cell? ⟨w.heap.size + 1 + 1, 0, none⟩ = some (.int .i64 mo) := X463.out.cell 0
  have q484 : W458.cell? ⟨w.heap.size + 1 + 1, 1, none⟩ = some (.int .i64 ms) := X463.out.cell 1
  have q485 : W458.cell? ⟨w.heap.size + 1 + 1, 2, none⟩ = some (.bool mc) := X463.out.cell 2
  have q486 : W458.cell? ⟨w.heap.size + 1 + 1 + 1, 0, none⟩ = some (.int .i64 0) := X464.out.cell 0
  have q487 : W458.cell? ⟨w.heap.size + 1 + 1 + 1, 1, none⟩ = some (.int .i64 0) := X464.out.cell 1
  have q488 : W458.cell? ⟨w.heap.size + 1 + 1 + 1, 2, none⟩ = some (.int .i64 0) := X464.out.cell 2
  have q489 : W458.cell? ⟨w.heap.size + 1 + 1 + 1, 3, none⟩ = some (.int .i64 0) := X464.out.cell 3
  have q490 : W458.cell? ⟨w.heap.size + 1 + 1 + 1, 4, none⟩ = some (.int .i64 0) := X464.out.cell 4
  have fz491 : ∀ o, W458.frozen? ⟨w.heap.size + 1 + 1 + 1, o, none⟩ = false := fun o => X464.out.free o
  go_wp2_with fail
  refine (checkGrain_c m a b t size cuts _ _ C465.out).mono ?_; rintro e v492 ⟨rfl, hb493⟩
  have X494 := Lib.hid (X461.out.later hb493)
  have X495 := Lib.hid (X462.out.later hb493)
  have X496 := Lib.hid (X463.out.later hb493)
  have X497 := Lib.hid (X464.out.later hb493)
  have C498 := Lib.hid (C465.out.later hb493)
  have C499 := Lib.hid (C466.out.later hb493)
  have B500 := Lib.hid (B460.out.trans (hb493.mono B460.out.size))
  clear hb493
  rw [HE.out]
  clear q468 q469 q470 q471 q472 q473 q474 q475 q476 q477 q478 q479 q480 q481 q482 q483 q484 q485 q486 q487 q488 q489 q490 fz491
  have q501 : v492.cell? ⟨w.heap.size, 0, none⟩ = some (.int .i64 m.pr.bed.eye) := X494.out.cell 0
  have q502 : v492.cell? ⟨w.heap.size, 1, none⟩ = some (.int .i64 m.pr.bed.rings) := X494.out.cell 1
  have q503 : v492.cell? ⟨w.heap.size, 2, none⟩ = some (.int .i64 m.pr.bed.sectors) := X494.out.cell 2
  have q504 : v492.cell? ⟨w.heap.size, 3, none⟩ = some (s) := X494.out.cell 3
  have q505 : v492.cell? ⟨w.heap.size, 4, none⟩ = some (.int .i64 m.pr.run.eye) := X494.out.cell 4
  have q506 : v492.cell? ⟨w.heap.size, 5, none⟩ = some (.int .i64 m.pr.run.rings) := X494.out.cell 5
  have q507 : v492.cell? ⟨w.heap.size, 6, none⟩ = some (.int .i64 m.pr.run.sectors) := X494.out.cell 6
  have q508 : v492.cell? ⟨w.heap.size, 7, none⟩ = some (r) := X494.out.cell 7
  have q509 : v492.cell? ⟨w.heap.size, 8, none⟩ = some (d) := X494.out.cell 8
  have q510 : v492.cell? ⟨w.heap.size, 9, none⟩ = some (gv) := X494.out.cell 9
  have q511 : v492.cell? ⟨w.heap.size + 1, 0, none⟩ = some (.int .i64 a) := X495.out.cell 0
  have q512 : v492.cell? ⟨w.heap.size + 1, 1, none⟩ = some (.int .i64 b) := X495.out.cell 1
  have q513 : v492.cell? ⟨w.heap.size + 1, 2, none⟩ = some (.int .i64 t) := X495.out.cell 2
  have q514 : v492.cell? ⟨w.heap.size + 1, 3, none⟩ = some (.int .i64 size) := X495.out.cell 3
  have q515 : v492.cell? ⟨w.heap.size + 1, 4, none⟩ = some (.int .i64 cuts) := X495.out.cell 4
  have q516 : v492.cell? ⟨w.heap.size + 1 + 1, 0, none⟩ = some (.int .i64 mo) := X496.out.cell 0
  have q517 : v492.cell? ⟨w.heap.size + 1 + 1, 1, none⟩ = some (.int .i64 ms) := X496.out.cell 1
  have q518 : v492.cell? ⟨w.heap.size + 1 + 1, 2, none⟩ = some (.bool mc) := X496.out.cell 2
  have q519 : v492.cell? ⟨w.heap.size + 1 + 1 + 1, 0, none⟩ = some (.int .i64 0) := X497.out.cell 0
  have q520 : v492.cell? ⟨w.heap.size + 1 + 1 + 1, 1, none⟩ = some (.int .i64 0) := X497.out.cell 1
  have q521 : v492.cell? ⟨w.heap.size + 1 + 1 + 1, 2, none⟩ = some (.int .i64 0) := X497.out.cell 2
  have q522 : v492.cell? ⟨w.heap.size + 1 + 1 + 1, 3, none⟩ = some (.int .i64 0) := X497.out.cell 3
  have q523 : v492.cell? ⟨w.heap.size + 1 + 1 + 1, 4, none⟩ = some (.int .i64 0) := X497.out.cell 4
  have fz524 : ∀ o, v492.frozen? ⟨w.heap.size + 1 + 1 + 1, o, none⟩ = false := fun o => X497.out.free o
  go_wp2_with fail
  refine (chartOf_g m _ _ C498.out).mono ?_; rintro e v525 ⟨⟨g, rfl, hg, hch⟩, hb526⟩
  have X527 := Lib.hid (X494.out.later hb526)
  have X528 := Lib.hid (X495.out.later hb526)
  have X529 := Lib.hid (X496.out.later hb526)
  have X530 := Lib.hid (X497.out.later hb526)
  have C531 := Lib.hid (C498.out.later hb526)
  have C532 := Lib.hid (C499.out.later hb526)
  have B533 := Lib.hid (B500.out.trans (hb526.mono B500.out.size))
  clear hb526
  have HCH := Lib.hid hch
  clear hch hg
  clear q501 q502 q503 q504 q505 q506 q507 q508 q509 q510 q511 q512 q513 q514 q515 q516 q517 q518 q519 q520 q521 q522 q523 fz524
  have q534 : v525.cell? ⟨w.heap.size, 0, none⟩ = some (.int .i64 m.pr.bed.eye) := X527.out.cell 0
  have q535 : v525.cell? ⟨w.heap.size, 1, none⟩ = some (.int .i64 m.pr.bed.rings) := X527.out.cell 1
  have q536 : v525.cell? ⟨w.heap.size, 2, none⟩ = some (.int .i64 m.pr.bed.sectors) := X527.out.cell 2
  have q537 : v525.cell? ⟨w.heap.size, 3, none⟩ = some (s) := X527.out.cell 3
  have q538 : v525.cell? ⟨w.heap.size, 4, none⟩ = some (.int .i64 m.pr.run.eye) := X527.out.cell 4
  have q539 : v525.cell? ⟨w.heap.size, 5, none⟩ = some (.int .i64 m.pr.run.rings) := X527.out.cell 5
  have q540 : v525.cell? ⟨w.heap.size, 6, none⟩ = some (.int .i64 m.pr.run.sectors) := X527.out.cell 6
  have q541 : v525.cell? ⟨w.heap.size, 7, none⟩ = some (r) := X527.out.cell 7
  have q542 : v525.cell? ⟨w.heap.size, 8, none⟩ = some (d) := X527.out.cell 8
  have q543 : v525.cell? ⟨w.heap.size, 9, none⟩ = some (gv) := X527.out.cell 9
  have q544 : v525.cell? ⟨w.heap.size + 1, 0, none⟩ = some (.int .i64 a) := X528.out.cell 0
  have q545 : v525.cell? ⟨w.heap.size + 1, 1, none⟩ = some (.int .i64 b) := X528.out.cell 1
  have q546 : v525.cell? ⟨w.heap.size + 1, 2, none⟩ = some (.int .i64 t) := X528.out.cell 2
  have q547 : v525.cell? ⟨w.heap.size + 1, 3, none⟩ = some (.int .i64 size) := X528.out.cell 3
  have q548 : v525.cell? ⟨w.heap.size + 1, 4, none⟩ = some (.int .i64 cuts) := X528.out.cell 4
  have q549 : v525.cell? ⟨w.heap.size + 1 + 1, 0, none⟩ = some (.int .i64 mo) := X529.out.cell 0
  have q550 : v525.cell? ⟨w.heap.size + 1 + 1, 1, none⟩ = some (.int .i64 ms) := X529.out.cell 1
  have q551 : v525.cell? ⟨w.heap.size + 1 + 1, 2, none⟩ = some (.bool mc) := X529.out.cell 2
  have q552 : v525.cell? ⟨w.heap.size + 1 + 1 + 1, 0, none⟩ = some (.int .i64 0) := X530.out.cell 0
  have q553 : v525.cell? ⟨w.heap.size + 1 + 1 + 1, 1, none⟩ = some (.int .i64 0) := X530.out.cell 1
  have q554 : v525.cell? ⟨w.heap.size + 1 + 1 + 1, 2, none⟩ = some (.int .i64 0) := X530.out.cell 2
  have q555 : v525.cell? ⟨w.heap.size + 1 + 1 + 1, 3, none⟩ = some (.int .i64 0) := X530.out.cell 3
  have q556 : v525.cell? ⟨w.heap.size + 1 + 1 + 1, 4, none⟩ = some (.int .i64 0) := X530.out.cell 4
  have fz557 : ∀ o, v525.frozen? ⟨w.heap.size + 1 + 1 + 1, o, none⟩ = false := fun o => X530.out.free o
  go_wp2_with fail
  have hdr604 : Below (v525).heap.size (v525) (v525).drew := (Below.refl _ _).drew
  have lt581 := X527.out.lt
  have lt582 := X527.out.lt
  have lt583 := X527.out.lt
  have lt584 := X527.out.lt
  have lt585 := X527.out.lt
  have lt586 := X527.out.lt
  have lt587 := X527.out.lt
  have lt588 := X527.out.lt
  have lt589 := X527.out.lt
  have lt590 := X527.out.lt
  have lt591 := X528.out.lt
  have lt592 := X528.out.lt
  have lt593 := X528.out.lt
  have lt594 := X528.out.lt
  have lt595 := X528.out.lt
  have lt596 := X529.out.lt
  have lt597 := X529.out.lt
  have lt598 := X529.out.lt
  have lt599 := X530.out.lt
  have lt600 := X530.out.lt
  have lt601 := X530.out.lt
  have lt602 := X530.out.lt
  have lt603 := X530.out.lt
  have hcall605 : ∀ X Y : World, (fun Wz => Wz.cell? ⟨w.heap.size, 0, none⟩ = some (.int .i64 m.pr.bed.eye) ∧ Wz.cell? ⟨w.heap.size, 1, none⟩ = some (.int .i64 m.pr.bed.rings) ∧ Wz.cell? ⟨w.heap.size, 2, none⟩ = some (.int .i64 m.pr.bed.sectors) ∧ Wz.cell? ⟨w.heap.size, 3, none⟩ = some (s) ∧ Wz.cell? ⟨w.heap.size, 4, none⟩ = some (.int .i64 m.pr.run.eye) ∧ Wz.cell? ⟨w.heap.size, 5, none⟩ = some (.int .i64 m.pr.run.rings) ∧ Wz.cell? ⟨w.heap.size, 6, none⟩ = some (.int .i64 m.pr.run.sectors) ∧ Wz.cell? ⟨w.heap.size, 7, none⟩ = some (r) ∧ Wz.cell? ⟨w.heap.size, 8, none⟩ = some (d) ∧ Wz.cell? ⟨w.heap.size, 9, none⟩ = some (gv) ∧ Wz.cell? ⟨w.heap.size + 1, 0, none⟩ = some (.int .i64 a) ∧ Wz.cell? ⟨w.heap.size + 1, 1, none⟩ = some (.int .i64 b) ∧ Wz.cell? ⟨w.heap.size + 1, 2, none⟩ = some (.int .i64 t) ∧ Wz.cell? ⟨w.heap.size + 1, 3, none⟩ = some (.int .i64 size) ∧ Wz.cell? ⟨w.heap.size + 1, 4, none⟩ = some (.int .i64 cuts) ∧ Wz.cell? ⟨w.heap.size + 1 + 1, 0, none⟩ = some (.int .i64 mo) ∧ Wz.cell? ⟨w.heap.size + 1 + 1, 1, none⟩ = some (.int .i64 ms) ∧ Wz.cell? ⟨w.heap.size + 1 + 1, 2, none⟩ = some (.bool mc) ∧ Wz.cell? ⟨w.heap.size + 1 + 1 + 1, 0, none⟩ = some (.int .i64 0) ∧ Wz.cell? ⟨w.heap.size + 1 + 1 + 1, 1, none⟩ = some (.int .i64 0) ∧ Wz.cell? ⟨w.heap.size + 1 + 1 + 1, 2, none⟩ = some (.int .i64 0) ∧ Wz.cell? ⟨w.heap.size + 1 + 1 + 1, 3, none⟩ = some (.int .i64 0) ∧ Wz.cell? ⟨w.heap.size + 1 + 1 + 1, 4, none⟩ = some (.int .i64 0) ∧ (v525).heap.size ≤ Wz.heap.size) X → Below X.heap.size X Y → (fun Wz => Wz.cell? ⟨w.heap.size, 0, none⟩ = some (.int .i64 m.pr.bed.eye) ∧ Wz.cell? ⟨w.heap.size, 1, none⟩ = some (.int .i64 m.pr.bed.rings) ∧ Wz.cell? ⟨w.heap.size, 2, none⟩ = some (.int .i64 m.pr.bed.sectors) ∧ Wz.cell? ⟨w.heap.size, 3, none⟩ = some (s) ∧ Wz.cell? ⟨w.heap.size, 4, none⟩ = some (.int .i64 m.pr.run.eye) ∧ Wz.cell? ⟨w.heap.size, 5, none⟩ = some (.int .i64 m.pr.run.rings) ∧ Wz.cell? ⟨w.heap.size, 6, none⟩ = some (.int .i64 m.pr.run.sectors) ∧ Wz.cell? ⟨w.heap.size, 7, none⟩ = some (r) ∧ Wz.cell? ⟨w.heap.size, 8, none⟩ = some (d) ∧ Wz.cell? ⟨w.heap.size, 9, none⟩ = some (gv) ∧ Wz.cell? ⟨w.heap.size + 1, 0, none⟩ = some (.int .i64 a) ∧ Wz.cell? ⟨w.heap.size + 1, 1, none⟩ = some (.int .i64 b) ∧ Wz.cell? ⟨w.heap.size + 1, 2, none⟩ = some (.int .i64 t) ∧ Wz.cell? ⟨w.heap.size + 1, 3, none⟩ = some (.int .i64 size) ∧ Wz.cell? ⟨w.heap.size + 1, 4, none⟩ = some (.int .i64 cuts) ∧ Wz.cell? ⟨w.heap.size + 1 + 1, 0, none⟩ = some (.int .i64 mo) ∧ Wz.cell? ⟨w.heap.size + 1 + 1, 1, none⟩ = some (.int .i64 ms) ∧ Wz.cell? ⟨w.heap.size + 1 + 1, 2, none⟩ = some (.bool mc) ∧ Wz.cell? ⟨w.heap.size + 1 + 1 + 1, 0, none⟩ = some (.int .i64 0) ∧ Wz.cell? ⟨w.heap.size + 1 + 1 + 1, 1, none⟩ = some (.int .i64 0) ∧ Wz.cell? ⟨w.heap.size + 1 + 1 + 1, 2, none⟩ = some (.int .i64 0) ∧ Wz.cell? ⟨w.heap.size + 1 + 1 + 1, 3, none⟩ = some (.int .i64 0) ∧ Wz.cell? ⟨w.heap.size + 1 + 1 + 1, 4, none⟩ = some (.int .i64 0) ∧ (v525).heap.size ≤ Wz.heap.size) Y := by
    rintro X Y ⟨z558, z559, z560, z561, z562, z563, z564, z565, z566, z567, z568, z569, z570, z571, z572, z573, z574, z575, z576, z577, z578, z579, z580, xs⟩ hb
    have hb2 := Below.mono (B' := (v525).heap.size) hb xs
    exact ⟨keepd z558 hb2 lt581, keepd z559 hb2 lt582, keepd z560 hb2 lt583, keepd z561 hb2 lt584, keepd z562 hb2 lt585, keepd z563 hb2 lt586, keepd z564 hb2 lt587, keepd z565 hb2 lt588, keepd z566 hb2 lt589, keepd z567 hb2 lt590, keepd z568 hb2 lt591, keepd z569 hb2 lt592, keepd z570 hb2 lt593, keepd z571 hb2 lt594, keepd z572 hb2 lt595, keepd z573 hb2 lt596, keepd z574 hb2 lt597, keepd z575 hb2 lt598, keepd z576 hb2 lt599, keepd z577 hb2 lt600, keepd z578 hb2 lt601, keepd z579 hb2 lt602, keepd z580 hb2 lt603, Nat.le_trans xs hb.size⟩
  have hini606 : (fun Wz => Wz.cell? ⟨w.heap.size, 0, none⟩ = some (.int .i64 m.pr.bed.eye) ∧ Wz.cell? ⟨w.heap.size, 1, none⟩ = some (.int .i64 m.pr.bed.rings) ∧ Wz.cell? ⟨w.heap.size, 2, none⟩ = some (.int .i64 m.pr.bed.sectors) ∧ Wz.cell? ⟨w.heap.size, 3, none⟩ = some (s) ∧ Wz.cell? ⟨w.heap.size, 4, none⟩ = some (.int .i64 m.pr.run.eye) ∧ Wz.cell? ⟨w.heap.size, 5, none⟩ = some (.int .i64 m.pr.run.rings) ∧ Wz.cell? ⟨w.heap.size, 6, none⟩ = some (.int .i64 m.pr.run.sectors) ∧ Wz.cell? ⟨w.heap.size, 7, none⟩ = some (r) ∧ Wz.cell? ⟨w.heap.size, 8, none⟩ = some (d) ∧ Wz.cell? ⟨w.heap.size, 9, none⟩ = some (gv) ∧ Wz.cell? ⟨w.heap.size + 1, 0, none⟩ = some (.int .i64 a) ∧ Wz.cell? ⟨w.heap.size + 1, 1, none⟩ = some (.int .i64 b) ∧ Wz.cell? ⟨w.heap.size + 1, 2, none⟩ = some (.int .i64 t) ∧ Wz.cell? ⟨w.heap.size + 1, 3, none⟩ = some (.int .i64 size) ∧ Wz.cell? ⟨w.heap.size + 1, 4, none⟩ = some (.int .i64 cuts) ∧ Wz.cell? ⟨w.heap.size + 1 + 1, 0, none⟩ = some (.int .i64 mo) ∧ Wz.cell? ⟨w.heap.size + 1 + 1, 1, none⟩ = some (.int .i64 ms) ∧ Wz.cell? ⟨w.heap.size + 1 + 1, 2, none⟩ = some (.bool mc) ∧ Wz.cell? ⟨w.heap.size + 1 + 1 + 1, 0, none⟩ = some (.int .i64 0) ∧ Wz.cell? ⟨w.heap.size + 1 + 1 + 1, 1, none⟩ = some (.int .i64 0) ∧ Wz.cell? ⟨w.heap.size + 1 + 1 + 1, 2, none⟩ = some (.int .i64 0) ∧ Wz.cell? ⟨w.heap.size + 1 + 1 + 1, 3, none⟩ = some (.int .i64 0) ∧ Wz.cell? ⟨w.heap.size + 1 + 1 + 1, 4, none⟩ = some (.int .i64 0) ∧ (v525).heap.size ≤ Wz.heap.size) (v525).drew := ⟨keepd (X527.out.cell 0) hdr604 lt581, keepd (X527.out.cell 1) hdr604 lt582, keepd (X527.out.cell 2) hdr604 lt583, keepd (X527.out.cell 3) hdr604 lt584, keepd (X527.out.cell 4) hdr604 lt585, keepd (X527.out.cell 5) hdr604 lt586, keepd (X527.out.cell 6) hdr604 lt587, keepd (X527.out.cell 7) hdr604 lt588, keepd (X527.out.cell 8) hdr604 lt589, keepd (X527.out.cell 9) hdr604 lt590, keepd (X528.out.cell 0) hdr604 lt591, keepd (X528.out.cell 1) hdr604 lt592, keepd (X528.out.cell 2) hdr604 lt593, keepd (X528.out.cell 3) hdr604 lt594, keepd (X528.out.cell 4) hdr604 lt595, keepd (X529.out.cell 0) hdr604 lt596, keepd (X529.out.cell 1) hdr604 lt597, keepd (X529.out.cell 2) hdr604 lt598, keepd (X530.out.cell 0) hdr604 lt599, keepd (X530.out.cell 1) hdr604 lt600, keepd (X530.out.cell 2) hdr604 lt601, keepd (X530.out.cell 3) hdr604 lt602, keepd (X530.out.cell 4) hdr604 lt603, Nat.le_refl _⟩
  have Hcall605 := Lib.hid hcall605
  have Hini606 := Lib.hid hini606
  clear hcall605 hini606 lt581 lt582 lt583 lt584 lt585 lt586 lt587 lt588 lt589 lt590 lt591 lt592 lt593 lt594 lt595 lt596 lt597 lt598 lt599 lt600 lt601 lt602 lt603
  clear q534 q535 q536 q537 q538 q539 q540 q541 q542 q543 q544 q545 q546 q547 q548 q549 q550 q551 q552 q553 q554 q555 q556 fz557
  refine wp_region_noPanic ?_
  refine wp_region_held_drew (S := (fun Wz => Wz.cell? ⟨w.heap.size, 0, none⟩ = some (.int .i64 m.pr.bed.eye) ∧ Wz.cell? ⟨w.heap.size, 1, none⟩ = some (.int .i64 m.pr.bed.rings) ∧ Wz.cell? ⟨w.heap.size, 2, none⟩ = some (.int .i64 m.pr.bed.sectors) ∧ Wz.cell? ⟨w.heap.size, 3, none⟩ = some (s) ∧ Wz.cell? ⟨w.heap.size, 4, none⟩ = some (.int .i64 m.pr.run.eye) ∧ Wz.cell? ⟨w.heap.size, 5, none⟩ = some (.int .i64 m.pr.run.rings) ∧ Wz.cell? ⟨w.heap.size, 6, none⟩ = some (.int .i64 m.pr.run.sectors) ∧ Wz.cell? ⟨w.heap.size, 7, none⟩ = some (r) ∧ Wz.cell? ⟨w.heap.size, 8, none⟩ = some (d) ∧ Wz.cell? ⟨w.heap.size, 9, none⟩ = some (gv) ∧ Wz.cell? ⟨w.heap.size + 1, 0, none⟩ = some (.int .i64 a) ∧ Wz.cell? ⟨w.heap.size + 1, 1, none⟩ = some (.int .i64 b) ∧ Wz.cell? ⟨w.heap.size + 1, 2, none⟩ = some (.int .i64 t) ∧ Wz.cell? ⟨w.heap.size + 1, 3, none⟩ = some (.int .i64 size) ∧ Wz.cell? ⟨w.heap.size + 1, 4, none⟩ = some (.int .i64 cuts) ∧ Wz.cell? ⟨w.heap.size + 1 + 1, 0, none⟩ = some (.int .i64 mo) ∧ Wz.cell? ⟨w.heap.size + 1 + 1, 1, none⟩ = some (.int .i64 ms) ∧ Wz.cell? ⟨w.heap.size + 1 + 1, 2, none⟩ = some (.bool mc) ∧ Wz.cell? ⟨w.heap.size + 1 + 1 + 1, 0, none⟩ = some (.int .i64 0) ∧ Wz.cell? ⟨w.heap.size + 1 + 1 + 1, 1, none⟩ = some (.int .i64 0) ∧ Wz.cell? ⟨w.heap.size + 1 + 1 + 1, 2, none⟩ = some (.int .i64 0) ∧ Wz.cell? ⟨w.heap.size + 1 + 1 + 1, 3, none⟩ = some (.int .i64 0) ∧ Wz.cell? ⟨w.heap.size + 1 + 1 + 1, 4, none⟩ = some (.int .i64 0) ∧ (v525).heap.size ≤ Wz.heap.size)) (by kernel_rfl) Hini606.out (fun hHeld => ?_)
  obtain ⟨W608, hW609⟩ : ∃ Wzz, (v525).drew = Wzz := ⟨_, rfl⟩
  rw [hW609] at hHeld hdr604 ⊢
  clear hW609
  have X610 := Lib.hid (X527.out.later hdr604)
  have X611 := Lib.hid (X528.out.later hdr604)
  have X612 := Lib.hid (X529.out.later hdr604)
  have X613 := Lib.hid (X530.out.later hdr604)
  have C614 := Lib.hid (C531.out.later hdr604)
  have C615 := Lib.hid (C532.out.later hdr604)
  have C616 := Lib.hid (HCH.out.later hdr604)
  have B617 := Lib.hid (B533.out.trans (hdr604.mono B533.out.size))
  clear hdr604
  refine wpAnyH_take (i := 0) (oi := { dst := some 20, op := Op.move (Operand.tmp 10), type := 89, pos := "steps.go:39", after := #[], guard := none }) (v := ?vh618) rfl ?hsh618 ?hfh618 ?hrh618 ?hQh618 ?hyh618 (by assumption) ?resth618
  case hsh618 => kernel_rfl
  case hfh618 => kernel_rfl
  case hrh618 => kernel_rfl
  case hQh618 => exact fun _ _ _ h => h
  case hyh618 => (refine Or.inl ⟨by rfl, ?_⟩; intro w hSw; (try dsimp only at hSw); go_simp; try with_reducible rfl)
  try simp only [Act.put, List.setIfInBounds_toArray, List.set_cons_zero, List.set_cons_succ]
  refine wpAnyH_take (i := 1) (oi := { dst := some 21, op := Op.fieldAddr 48 (Operand.tmp 4) 0, type := 0, pos := "steps.go:39", after := #[], guard := none }) (v := ?vh619) rfl ?hsh619 ?hfh619 ?hrh619 ?hQh619 ?hyh619 (by assumption) ?resth619
  case hsh619 => kernel_rfl
  case hfh619 => kernel_rfl
  case hrh619 => kernel_rfl
  case hQh619 => exact fun _ _ _ h => h
  case hyh619 => (refine Or.inl ⟨by rfl, ?_⟩; intro w hSw; (try dsimp only at hSw); go_simp; try with_reducible rfl)
  try simp only [Act.put, List.setIfInBounds_toArray, List.set_cons_zero, List.set_cons_succ]
  refine wpAnyH_take (i := 2) (oi := { dst := some 22, op := Op.load 46 (Operand.tmp 21), type := 46, pos := "steps.go:39", after := #[{ on := 1, ground := Ground.data }], guard := none }) (v := ?vh620) rfl ?hsh620 ?hfh620 ?hrh620 ?hQh620 ?hyh620 (by assumption) ?resth620
  case hsh620 => kernel_rfl
  case hfh620 => kernel_rfl
  case hrh620 => kernel_rfl
  case hQh620 => exact fun _ _ _ h => h
  case hyh620 => (refine Or.inl ⟨by rfl, ?_⟩; intro w hSw; (try dsimp only at hSw); go_simp; try with_reducible rfl)
  try simp only [Act.put, List.setIfInBounds_toArray, List.set_cons_zero, List.set_cons_succ]
  refine wpAnyH_take (i := 4) (oi := { dst := some 24, op := Op.load 50 (Operand.tmp 5), type := 50, pos := "steps.go:39", after := #[], guard := none }) (v := ?vh621) rfl ?hsh621 ?hfh621 ?hrh621 ?hQh621 ?hyh621 (by assumption) ?resth621
  case hsh621 => kernel_rfl
  case hfh621 => kernel_rfl
  case hrh621 => kernel_rfl
  case hQh621 => exact fun _ _ _ h => h
  case hyh621 => (refine Or.inl ⟨by rfl, ?_⟩; intro w hSw; (try dsimp only at hSw); go_simp; try with_reducible rfl)
  try simp only [Act.put, List.setIfInBounds_toArray, List.set_cons_zero, List.set_cons_succ]
  refine wpAnyH_ready (rs := [3]) (by kernel_rfl) (by simp) ?_
  refine AllReadyH.cons (o := _) (by rfl) (fun K hK => ?_) AllReadyH.nil
  go_simp
  go_at_call 51
  refine (moves_g m a b t g _ C616.out (agE_zero (grE_zero HE.out).1).1 (agE_zero (grE_zero HE.out).1).2.1).mono ?_; rintro e v622 ⟨⟨u, rfl, hu⟩, hb623⟩
  have X624 := Lib.hid (X610.out.later hb623)
  have X625 := Lib.hid (X611.out.later hb623)
  have X626 := Lib.hid (X612.out.later hb623)
  have X627 := Lib.hid (X613.out.later hb623)
  have C628 := Lib.hid (C614.out.later hb623)
  have C629 := Lib.hid (C615.out.later hb623)
  have C630 := Lib.hid (C616.out.later hb623)
  have B631 := Lib.hid (B617.out.trans (hb623.mono B617.out.size))
  clear X610 X611 X612 X613 C614 C615 C616 B617
  have HUV := Lib.hid hu
  clear hu
  go_wp2_with fail
  refine hK.out _ _ (Hcall605.out _ _ hHeld (by assumption)) (fun hHeld632 => ?_)
  clear hK K hHeld
  clear hb623
  have hHeld := hHeld632
  clear hHeld632
  try simp only [Act.put, List.setIfInBounds_toArray, List.set_cons_zero, List.set_cons_succ]
  refine wpAnyH_ready (rs := [5]) (by kernel_rfl) (by simp) ?_
  refine AllReadyH.cons (o := _) (by rfl) (fun K hK => ?_) AllReadyH.nil
  go_simp
  go_at_call 50
  refine (Contains_c (movesL m.pr ⟨a, b, t⟩) mo ms mc u _ HUV.out (listB_parts (movesL_ok (ckM_zero (agE_zero (grE_zero HE.out).1).1).1 (agE_zero (grE_zero HE.out).1).2.1)).1.2).mono ?_; rintro e v633 ⟨rfl, hb634⟩
  have X635 := Lib.hid (X624.out.later hb634)
  have X636 := Lib.hid (X625.out.later hb634)
  have X637 := Lib.hid (X626.out.later hb634)
  have X638 := Lib.hid (X627.out.later hb634)
  have C639 := Lib.hid (C628.out.later hb634)
  have C640 := Lib.hid (C629.out.later hb634)
  have C641 := Lib.hid (C630.out.later hb634)
  have B642 := Lib.hid (B631.out.trans (hb634.mono B631.out.size))
  clear X624 X625 X626 X627 C628 C629 C630 B631
  rw [HH.out]
  go_wp2_with fail
  refine hK.out _ _ (Hcall605.out _ _ hHeld (by assumption)) (fun hHeld643 => ?_)
  clear hK K hHeld
  clear hb634
  have hHeld := hHeld643
  clear hHeld643
  try simp only [Act.put, List.setIfInBounds_toArray, List.set_cons_zero, List.set_cons_succ]
  refine wpAnyH_take (i := 6) (oi := { dst := some 26, op := Op.unOp UnOp.not 4 (Operand.tmp 25), type := 4, pos := "steps.go:39", after := #[{ on := 5, ground := Ground.data }], guard := none }) (v := ?vh644) rfl ?hsh644 ?hfh644 ?hrh644 ?hQh644 ?hyh644 (by assumption) ?resth644
  case hsh644 => kernel_rfl
  case hfh644 => kernel_rfl
  case hrh644 => kernel_rfl
  case hQh644 => exact fun _ _ _ h => h
  case hyh644 => (refine Or.inl ⟨by rfl, ?_⟩; intro w hSw; (try dsimp only at hSw); go_simp; try with_reducible rfl)
  try simp only [Act.put, List.setIfInBounds_toArray, List.set_cons_zero, List.set_cons_succ]
  refine wpAnyH_done (by kernel_rfl) ?_ _
  refine NoPanic.normal ?_
  clear hHeld Hcall605 Hini606
  have q645 : v633.cell? ⟨w.heap.size, 0, none⟩ = some (.int .i64 m.pr.bed.eye) := X635.out.cell 0
  have q646 : v633.cell? ⟨w.heap.size, 1, none⟩ = some (.int .i64 m.pr.bed.rings) := X635.out.cell 1
  have q647 : v633.cell? ⟨w.heap.size, 2, none⟩ = some (.int .i64 m.pr.bed.sectors) := X635.out.cell 2
  have q648 : v633.cell? ⟨w.heap.size, 3, none⟩ = some (s) := X635.out.cell 3
  have q649 : v633.cell? ⟨w.heap.size, 4, none⟩ = some (.int .i64 m.pr.run.eye) := X635.out.cell 4
  have q650 : v633.cell? ⟨w.heap.size, 5, none⟩ = some (.int .i64 m.pr.run.rings) := X635.out.cell 5
  have q651 : v633.cell? ⟨w.heap.size, 6, none⟩ = some (.int .i64 m.pr.run.sectors) := X635.out.cell 6
  have q652 : v633.cell? ⟨w.heap.size, 7, none⟩ = some (r) := X635.out.cell 7
  have q653 : v633.cell? ⟨w.heap.size, 8, none⟩ = some (d) := X635.out.cell 8
  have q654 : v633.cell? ⟨w.heap.size, 9, none⟩ = some (gv) := X635.out.cell 9
  have q655 : v633.cell? ⟨w.heap.size + 1, 0, none⟩ = some (.int .i64 a) := X636.out.cell 0
  have q656 : v633.cell? ⟨w.heap.size + 1, 1, none⟩ = some (.int .i64 b) := X636.out.cell 1
  have q657 : v633.cell? ⟨w.heap.size + 1, 2, none⟩ = some (.int .i64 t) := X636.out.cell 2
  have q658 : v633.cell? ⟨w.heap.size + 1, 3, none⟩ = some (.int .i64 size) := X636.out.cell 3
  have q659 : v633.cell? ⟨w.heap.size + 1, 4, none⟩ = some (.int .i64 cuts) := X636.out.cell 4
  have q660 : v633.cell? ⟨w.heap.size + 1 + 1, 0, none⟩ = some (.int .i64 mo) := X637.out.cell 0
  have q661 : v633.cell? ⟨w.heap.size + 1 + 1, 1, none⟩ = some (.int .i64 ms) := X637.out.cell 1
  have q662 : v633.cell? ⟨w.heap.size + 1 + 1, 2, none⟩ = some (.bool mc) := X637.out.cell 2
  have q663 : v633.cell? ⟨w.heap.size + 1 + 1 + 1, 0, none⟩ = some (.int .i64 0) := X638.out.cell 0
  have q664 : v633.cell? ⟨w.heap.size + 1 + 1 + 1, 1, none⟩ = some (.int .i64 0) := X638.out.cell 1
  have q665 : v633.cell? ⟨w.heap.size + 1 + 1 + 1, 2, none⟩ = some (.int .i64 0) := X638.out.cell 2
  have q666 : v633.cell? ⟨w.heap.size + 1 + 1 + 1, 3, none⟩ = some (.int .i64 0) := X638.out.cell 3
  have q667 : v633.cell? ⟨w.heap.size + 1 + 1 + 1, 4, none⟩ = some (.int .i64 0) := X638.out.cell 4
  have fz668 : ∀ o, v633.frozen? ⟨w.heap.size + 1 + 1 + 1, o, none⟩ = false := fun o => X638.out.free o
  go_wp2_with fail
  refine (step_g m a b t size cuts mo ms mc g _ C641.out (agE_zero (grE_zero HE.out).1).1 (agE_zero (grE_zero HE.out).1).2.1 HMV.out (agE_zero (grE_zero HE.out).1).2.2 (grE_zero HE.out).2).mono ?_; rintro e v669 ⟨rfl, hb670⟩
  have X671 := Lib.hid (X635.out.later hb670)
  have X672 := Lib.hid (X636.out.later hb670)
  have X673 := Lib.hid (X637.out.later hb670)
  have X674 := Lib.hid (X638.out.later hb670)
  have C675 := Lib.hid (C639.out.later hb670)
  have C676 := Lib.hid (C640.out.later hb670)
  have C677 := Lib.hid (C641.out.later hb670)
  have B678 := Lib.hid (B642.out.trans (hb670.mono B642.out.size))
  clear hb670
  rw [HO.out, HST.out]
  clear q645 q646 q647 q648 q649 q650 q651 q652 q653 q654 q655 q656 q657 q658 q659 q660 q661 q662 q663 q664 q665 q666 q667 fz668
  have q679 : v669.cell? ⟨w.heap.size, 0, none⟩ = some (.int .i64 m.pr.bed.eye) := X671.out.cell 0
  have q680 : v669.cell? ⟨w.heap.size, 1, none⟩ = some (.int .i64 m.pr.bed.rings) := X671.out.cell 1
  have q681 : v669.cell? ⟨w.heap.size, 2, none⟩ = some (.int .i64 m.pr.bed.sectors) := X671.out.cell 2
  have q682 : v669.cell? ⟨w.heap.size, 3, none⟩ = some (s) := X671.out.cell 3
  have q683 : v669.cell? ⟨w.heap.size, 4, none⟩ = some (.int .i64 m.pr.run.eye) := X671.out.cell 4
  have q684 : v669.cell? ⟨w.heap.size, 5, none⟩ = some (.int .i64 m.pr.run.rings) := X671.out.cell 5
  have q685 : v669.cell? ⟨w.heap.size, 6, none⟩ = some (.int .i64 m.pr.run.sectors) := X671.out.cell 6
  have q686 : v669.cell? ⟨w.heap.size, 7, none⟩ = some (r) := X671.out.cell 7
  have q687 : v669.cell? ⟨w.heap.size, 8, none⟩ = some (d) := X671.out.cell 8
  have q688 : v669.cell? ⟨w.heap.size, 9, none⟩ = some (gv) := X671.out.cell 9
  have q689 : v669.cell? ⟨w.heap.size + 1, 0, none⟩ = some (.int .i64 a) := X672.out.cell 0
  have q690 : v669.cell? ⟨w.heap.size + 1, 1, none⟩ = some (.int .i64 b) := X672.out.cell 1
  have q691 : v669.cell? ⟨w.heap.size + 1, 2, none⟩ = some (.int .i64 t) := X672.out.cell 2
  have q692 : v669.cell? ⟨w.heap.size + 1, 3, none⟩ = some (.int .i64 size) := X672.out.cell 3
  have q693 : v669.cell? ⟨w.heap.size + 1, 4, none⟩ = some (.int .i64 cuts) := X672.out.cell 4
  have q694 : v669.cell? ⟨w.heap.size + 1 + 1, 0, none⟩ = some (.int .i64 mo) := X673.out.cell 0
  have q695 : v669.cell? ⟨w.heap.size + 1 + 1, 1, none⟩ = some (.int .i64 ms) := X673.out.cell 1
  have q696 : v669.cell? ⟨w.heap.size + 1 + 1, 2, none⟩ = some (.bool mc) := X673.out.cell 2
  have q697 : v669.cell? ⟨w.heap.size + 1 + 1 + 1, 0, none⟩ = some (.int .i64 0) := X674.out.cell 0
  have q698 : v669.cell? ⟨w.heap.size + 1 + 1 + 1, 1, none⟩ = some (.int .i64 0) := X674.out.cell 1
  have q699 : v669.cell? ⟨w.heap.size + 1 + 1 + 1, 2, none⟩ = some (.int .i64 0) := X674.out.cell 2
  have q700 : v669.cell? ⟨w.heap.size + 1 + 1 + 1, 3, none⟩ = some (.int .i64 0) := X674.out.cell 3
  have q701 : v669.cell? ⟨w.heap.size + 1 + 1 + 1, 4, none⟩ = some (.int .i64 0) := X674.out.cell 4
  have fz702 : ∀ o, v669.frozen? ⟨w.heap.size + 1 + 1 + 1, o, none⟩ = false := fun o => X674.out.free o
  iterate 40 (first | (with_reducible show Code.wp _ (Code.region 8 _ _) _ _ _) | go_values | go_skip | go_guarded | go_step | go_upon | go_back | (simp only [Int.not_lt, Int.not_le] at *; go_simp) | go_simp)
  obtain ⟨W703, hW704⟩ : ∃ Wzz, (((((v669.setCell ⟨w.heap.size + 1 + 1 + 1, 0, none⟩ (.int .i64 r0)).setCell ⟨w.heap.size + 1 + 1 + 1, 1, none⟩ (.int .i64 r1)).setCell ⟨w.heap.size + 1 + 1 + 1, 2, none⟩ (.int .i64 r2)).setCell ⟨w.heap.size + 1 + 1 + 1, 3, none⟩ (.int .i64 r3)).setCell ⟨w.heap.size + 1 + 1 + 1, 4, none⟩ (.int .i64 r4)) = Wzz := ⟨_, rfl⟩
  have X705 := Lib.hid (show Box W703 (w.heap.size) 33 #[.int .i64 m.pr.bed.eye, .int .i64 m.pr.bed.rings, .int .i64 m.pr.bed.sectors, s, .int .i64 m.pr.run.eye, .int .i64 m.pr.run.rings, .int .i64 m.pr.run.sectors, r, d, gv] by rw [← hW704]; exact (((((X671.out.far (p := ⟨w.heap.size + 1 + 1 + 1, 0, none⟩) (by first | (simp; done) | (simp; omega) | omega) (.int .i64 r0)).far (p := ⟨w.heap.size + 1 + 1 + 1, 1, none⟩) (by first | (simp; done) | (simp; omega) | omega) (.int .i64 r1)).far (p := ⟨w.heap.size + 1 + 1 + 1, 2, none⟩) (by first | (simp; done) | (simp; omega) | omega) (.int .i64 r2)).far (p := ⟨w.heap.size + 1 + 1 + 1, 3, none⟩) (by first | (simp; done) | (simp; omega) | omega) (.int .i64 r3)).far (p := ⟨w.heap.size + 1 + 1 + 1, 4, none⟩) (by first | (simp; done) | (simp; omega) | omega) (.int .i64 r4)))
  have X706 := Lib.hid (show Box W703 (w.heap.size + 1) 48 #[.int .i64 a, .int .i64 b, .int .i64 t, .int .i64 size, .int .i64 cuts] by rw [← hW704]; exact (((((X672.out.far (p := ⟨w.heap.size + 1 + 1 + 1, 0, none⟩) (by first | (simp; done) | (simp; omega) | omega) (.int .i64 r0)).far (p := ⟨w.heap.size + 1 + 1 + 1, 1, none⟩) (by first | (simp; done) | (simp; omega) | omega) (.int .i64 r1)).far (p := ⟨w.heap.size + 1 + 1 + 1, 2, none⟩) (by first | (simp; done) | (simp; omega) | omega) (.int .i64 r2)).far (p := ⟨w.heap.size + 1 + 1 + 1, 3, none⟩) (by first | (simp; done) | (simp; omega) | omega) (.int .i64 r3)).far (p := ⟨w.heap.size + 1 + 1 + 1, 4, none⟩) (by first | (simp; done) | (simp; omega) | omega) (.int .i64 r4)))
  have X707 := Lib.hid (show Box W703 (w.heap.size + 1 + 1) 50 #[.int .i64 mo, .int .i64 ms, .bool mc] by rw [← hW704]; exact (((((X673.out.far (p := ⟨w.heap.size + 1 + 1 + 1, 0, none⟩) (by first | (simp; done) | (simp; omega) | omega) (.int .i64 r0)).far (p := ⟨w.heap.size + 1 + 1 + 1, 1, none⟩) (by first | (simp; done) | (simp; omega) | omega) (.int .i64 r1)).far (p := ⟨w.heap.size + 1 + 1 + 1, 2, none⟩) (by first | (simp; done) | (simp; omega) | omega) (.int .i64 r2)).far (p := ⟨w.heap.size + 1 + 1 + 1, 3, none⟩) (by first | (simp; done) | (simp; omega) | omega) (.int .i64 r3)).far (p := ⟨w.heap.size + 1 + 1 + 1, 4, none⟩) (by first | (simp; done) | (simp; omega) | omega) (.int .i64 r4)))
  have X708 := Lib.hid (show Box W703 (w.heap.size + 1 + 1 + 1) 48 #[.int .i64 r0, .int .i64 r1, .int .i64 r2, .int .i64 r3, .int .i64 r4] by rw [← hW704]; exact (((((X674.out.put 0 (.int .i64 r0)).put 1 (.int .i64 r1)).put 2 (.int .i64 r2)).put 3 (.int .i64 r3)).put 4 (.int .i64 r4)))
  have B709 := Lib.hid (show Below w.heap.size w W703 by rw [← hW704]; exact (((((B678.out.setCell (p := ⟨w.heap.size + 1 + 1 + 1, 0, none⟩) (by first | (simp; done) | (simp; omega) | omega) (.int .i64 r0)).setCell (p := ⟨w.heap.size + 1 + 1 + 1, 1, none⟩) (by first | (simp; done) | (simp; omega) | omega) (.int .i64 r1)).setCell (p := ⟨w.heap.size + 1 + 1 + 1, 2, none⟩) (by first | (simp; done) | (simp; omega) | omega) (.int .i64 r2)).setCell (p := ⟨w.heap.size + 1 + 1 + 1, 3, none⟩) (by first | (simp; done) | (simp; omega) | omega) (.int .i64 r3)).setCell (p := ⟨w.heap.size + 1 + 1 + 1, 4, none⟩) (by first | (simp; done) | (simp; omega) | omega) (.int .i64 r4)))
  clear q679 q680 q681 q682 q683 q684 q685 q686 q687 q688 q689 q690 q691 q692 q693 q694 q695 q696 q697 q698 q699 q700 q701 fz702
  rw [hW704]
  clear hW704
  have q710 : W703.cell? ⟨w.heap.size, 0, none⟩ = some (.int .i64 m.pr.bed.eye) := X705.out.cell 0
  have q711 : W703.cell? ⟨w.heap.size, 1, none⟩ = some (.int .i64 m.pr.bed.rings) := X705.out.cell 1
  have q712 : W703.cell? ⟨w.heap.size, 2, none⟩ = some (.int .i64 m.pr.bed.sectors) := X705.out.cell 2
  have q713 : W703.cell? ⟨w.heap.size, 3, none⟩ = some (s) := X705.out.cell 3
  have q714 : W703.cell? ⟨w.heap.size, 4, none⟩ = some (.int .i64 m.pr.run.eye) := X705.out.cell 4
  have q715 : W703.cell? ⟨w.heap.size, 5, none⟩ = some (.int .i64 m.pr.run.rings) := X705.out.cell 5
  have q716 : W703.cell? ⟨w.heap.size, 6, none⟩ = some (.int .i64 m.pr.run.sectors) := X705.out.cell 6
  have q717 : W703.cell? ⟨w.heap.size, 7, none⟩ = some (r) := X705.out.cell 7
  have q718 : W703.cell? ⟨w.heap.size, 8, none⟩ = some (d) := X705.out.cell 8
  have q719 : W703.cell? ⟨w.heap.size, 9, none⟩ = some (gv) := X705.out.cell 9
  have q720 : W703.cell? ⟨w.heap.size + 1, 0, none⟩ = some (.int .i64 a) := X706.out.cell 0
  have q721 : W703.cell? ⟨w.heap.size + 1, 1, none⟩ = some (.int .i64 b) := X706.out.cell 1
  have q722 : W703.cell? ⟨w.heap.size + 1, 2, none⟩ = some (.int .i64 t) := X706.out.cell 2
  have q723 : W703.cell? ⟨w.heap.size + 1, 3, none⟩ = some (.int .i64 size) := X706.out.cell 3
  have q724 : W703.cell? ⟨w.heap.size + 1, 4, none⟩ = some (.int .i64 cuts) := X706.out.cell 4
  have q725 : W703.cell? ⟨w.heap.size + 1 + 1, 0, none⟩ = some (.int .i64 mo) := X707.out.cell 0
  have q726 : W703.cell? ⟨w.heap.size + 1 + 1, 1, none⟩ = some (.int .i64 ms) := X707.out.cell 1
  have q727 : W703.cell? ⟨w.heap.size + 1 + 1, 2, none⟩ = some (.bool mc) := X707.out.cell 2
  have q728 : W703.cell? ⟨w.heap.size + 1 + 1 + 1, 0, none⟩ = some (.int .i64 r0) := X708.out.cell 0
  have q729 : W703.cell? ⟨w.heap.size + 1 + 1 + 1, 1, none⟩ = some (.int .i64 r1) := X708.out.cell 1
  have q730 : W703.cell? ⟨w.heap.size + 1 + 1 + 1, 2, none⟩ = some (.int .i64 r2) := X708.out.cell 2
  have q731 : W703.cell? ⟨w.heap.size + 1 + 1 + 1, 3, none⟩ = some (.int .i64 r3) := X708.out.cell 3
  have q732 : W703.cell? ⟨w.heap.size + 1 + 1 + 1, 4, none⟩ = some (.int .i64 r4) := X708.out.cell 4
  have fz733 : ∀ o, W703.frozen? ⟨w.heap.size + 1 + 1 + 1, o, none⟩ = false := fun o => X708.out.free o
  go_wp2_with fail
  (try simp only [Exit.inBlock, Exit.then])
  refine grainEnd3 (t := 6) (u := 7) (q := 8) (x := .bool ob) (y := .int .i64 0) (v := .tuple #[.agg #[.int .i64 r0, .int .i64 r1, .int .i64 r2, .int .i64 r3, .int .i64 r4], .bool ob, .int .i64 0]) ?_ ?_ ?_ ?_ (((((X708.out.put 0 (.int .i64 r0)).put 1 (.int .i64 r1)).put 2 (.int .i64 r2)).put 3 (.int .i64 r3)).put 4 (.int .i64 r4)) (((((B709.out.setCell (by first | (simp; done) | (simp; omega) | omega) _).setCell (by first | (simp; done) | (simp; omega) | omega) _).setCell (by first | (simp; done) | (simp; omega) | omega) _).setCell (by first | (simp; done) | (simp; omega) | omega) _).setCell (by first | (simp; done) | (simp; omega) | omega) _) ?_
  all_goals first | rfl | skip

end Go.Proofs.YtikfiallhmhicaaGreat

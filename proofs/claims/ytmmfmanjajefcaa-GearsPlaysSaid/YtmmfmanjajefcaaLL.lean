/- Layer 7: times, on both sides. -/
import Derived.Test.YtmmfmanjajefcaaLK
set_option linter.all false
namespace Go.Proofs.Ytmmfmanjajefcaa
open Go.RowKit

set_option maxRecDepth 100000 in
set_option maxHeartbeats 4000000 in
theorem Time_c (ms : List Mh) (h1 d1 k1 n : Int) (v : Value) (w : World) (h : IsTr w w.heap.size v ms) : Calls Try.prog 53 #[v, .agg #[.int .i64 h1, .int .i64 d1, .int .i64 k1], .int .i64 n] w fun e w' => e = .returned (rrV (tiR ms h1 d1 k1 n)) ∧ Below w.heap.size w w' := by
  have HT := Lib.hid h
  obtain ⟨s, rfl, A, c, rfl, -, -⟩ := h
  obtain ⟨l, hn⟩ : ∃ n, ms.length = n := ⟨_, rfl⟩
  have HN := Lib.hid hn
  rw [hn] at HT ⊢
  clear hn
  go_enter Try.func53, Try.ntmps53
  go_wp2_with fail
  obtain ⟨W1, hW2⟩ : ∃ X, (((w.alloc (.cells #[.slice A l c] 35)).alloc (.cells #[.int .i64 h1, .int .i64 d1, .int .i64 k1] 57)).alloc (.cells #[.int .i64 0, .int .i64 0] 23)) = X := ⟨_, rfl⟩
  have B3 := Lib.hid (show Below w.heap.size w W1 by rw [← hW2]; exact ((((Below.refl w.heap.size w).alloc (Nat.le_refl _) _).alloc (by first | (simp; done) | (simp; omega)) _).alloc (by first | (simp; done) | (simp; omega)) _))
  have X4 := Lib.hid (show Box W1 (w.heap.size) 35 #[.slice A l c] by rw [← hW2]; exact Box.alloc (Box.alloc (Box.made w 35 #[.slice A l c]) (.cells #[.int .i64 h1, .int .i64 d1, .int .i64 k1] 57)) (.cells #[.int .i64 0, .int .i64 0] 23))
  have X5 := Lib.hid (show Box W1 (w.heap.size + 1) 57 #[.int .i64 h1, .int .i64 d1, .int .i64 k1] by
    have hz := Box.alloc (Box.made (w.alloc (.cells #[.slice A l c] 35)) 57 #[.int .i64 h1, .int .i64 d1, .int .i64 k1]) (.cells #[.int .i64 0, .int .i64 0] 23)
    rw [World.size_alloc] at hz
    rw [← hW2]; exact hz)
  have X6 := Lib.hid (show Box W1 (w.heap.size + 1 + 1) 23 #[.int .i64 0, .int .i64 0] by
    have hz := Box.made ((w.alloc (.cells #[.slice A l c] 35)).alloc (.cells #[.int .i64 h1, .int .i64 d1, .int .i64 k1] 57)) 23 #[.int .i64 0, .int .i64 0]
    rw [World.size_alloc, World.size_alloc] at hz
    rw [← hW2]; exact hz)
  have C7 := Lib.hid (HT.out.later B3.out)
  rw [hW2]
  clear hW2
  have q8 : W1.cell? ⟨w.heap.size, 0, none⟩ = some (.slice A l c) := X4.out.cell 0
  have q9 : W1.cell? ⟨w.heap.size + 1, 0, none⟩ = some (.int .i64 h1) := X5.out.cell 0
  have q10 : W1.cell? ⟨w.heap.size + 1, 1, none⟩ = some (.int .i64 d1) := X5.out.cell 1
  have q11 : W1.cell? ⟨w.heap.size + 1, 2, none⟩ = some (.int .i64 k1) := X5.out.cell 2
  have q12 : W1.cell? ⟨w.heap.size + 1 + 1, 0, none⟩ = some (.int .i64 0) := X6.out.cell 0
  have q13 : W1.cell? ⟨w.heap.size + 1 + 1, 1, none⟩ = some (.int .i64 0) := X6.out.cell 1
  have fz14 : ∀ o, W1.frozen? ⟨w.heap.size + 1 + 1, o, none⟩ = false := fun o => X6.out.free o
  go_wp2_with fail
  refine (ValidTrain_c ms _ _ C7.out).mono ?_; rintro e v15 ⟨rfl, hb16⟩
  have X17 := Lib.hid (X4.out.later hb16)
  have X18 := Lib.hid (X5.out.later hb16)
  have X19 := Lib.hid (X6.out.later hb16)
  have C20 := Lib.hid (C7.out.later hb16)
  have B21 := Lib.hid (B3.out.trans (hb16.mono B3.out.size))
  clear hb16
  clear q8 q9 q10 q11 q12 q13 fz14
  have q22 : v15.cell? ⟨w.heap.size, 0, none⟩ = some (.slice A l c) := X17.out.cell 0
  have q23 : v15.cell? ⟨w.heap.size + 1, 0, none⟩ = some (.int .i64 h1) := X18.out.cell 0
  have q24 : v15.cell? ⟨w.heap.size + 1, 1, none⟩ = some (.int .i64 d1) := X18.out.cell 1
  have q25 : v15.cell? ⟨w.heap.size + 1, 2, none⟩ = some (.int .i64 k1) := X18.out.cell 2
  have q26 : v15.cell? ⟨w.heap.size + 1 + 1, 0, none⟩ = some (.int .i64 0) := X19.out.cell 0
  have q27 : v15.cell? ⟨w.heap.size + 1 + 1, 1, none⟩ = some (.int .i64 0) := X19.out.cell 1
  have fz28 : ∀ o, v15.frozen? ⟨w.heap.size + 1 + 1, o, none⟩ = false := fun o => X19.out.free o
  cases hv : trB ms
  · have HR := Lib.hid (show tiR ms h1 d1 k1 n = ⟨0, 0, 70⟩ by unfold tiR; rw [hv]; rfl)
    clear hv
    go_wp2_with fail
    exact endRr Try.results53 rfl rfl HR.out X19.out (by omega) B21.out
  · have HV := Lib.hid hv
    clear hv
    go_wp2_with fail
    refine (isFeed_c h1 d1 k1 _).mono ?_; rintro e v29 ⟨rfl, hb30⟩
    have X31 := Lib.hid (X17.out.later hb30)
    have X32 := Lib.hid (X18.out.later hb30)
    have X33 := Lib.hid (X19.out.later hb30)
    have C34 := Lib.hid (C20.out.later hb30)
    have B35 := Lib.hid (B21.out.trans (hb30.mono B21.out.size))
    clear hb30
    clear q22 q23 q24 q25 q26 q27 fz28
    have q36 : v29.cell? ⟨w.heap.size, 0, none⟩ = some (.slice A l c) := X31.out.cell 0
    have q37 : v29.cell? ⟨w.heap.size + 1, 0, none⟩ = some (.int .i64 h1) := X32.out.cell 0
    have q38 : v29.cell? ⟨w.heap.size + 1, 1, none⟩ = some (.int .i64 d1) := X32.out.cell 1
    have q39 : v29.cell? ⟨w.heap.size + 1, 2, none⟩ = some (.int .i64 k1) := X32.out.cell 2
    have q40 : v29.cell? ⟨w.heap.size + 1 + 1, 0, none⟩ = some (.int .i64 0) := X33.out.cell 0
    have q41 : v29.cell? ⟨w.heap.size + 1 + 1, 1, none⟩ = some (.int .i64 0) := X33.out.cell 1
    have fz42 : ∀ o, v29.frozen? ⟨w.heap.size + 1 + 1, o, none⟩ = false := fun o => X33.out.free o
    cases hf : feedB h1 d1 k1
    · have HR := Lib.hid (show tiR ms h1 d1 k1 n = ⟨0, 0, 33⟩ by unfold tiR; rw [HV.out, hf]; rfl)
      clear hf
      go_wp2_with fail
      exact endRr Try.results53 rfl rfl HR.out X33.out (by omega) B35.out
    · have H1 := Lib.hid hf
      clear hf
      go_wp2_with fail
      refine (isCount_c n _).mono ?_; rintro e v43 ⟨rfl, rfl⟩
      cases hm : inB n 0 1000000
      · have HR := Lib.hid (show tiR ms h1 d1 k1 n = ⟨0, 0, 1⟩ by unfold tiR; rw [HV.out, H1.out, hm]; rfl)
        clear hm
        go_wp2_with fail
        exact endRr Try.results53 rfl rfl HR.out X33.out (by omega) B35.out
      · have H2 := Lib.hid hm
        clear hm
        obtain ⟨T, rfl⟩ : ∃ T : Nat, n = (T : Int) := ⟨n.toNat, by have := inB_iff.1 H2.out; omega⟩
        obtain ⟨M, rfl⟩ : ∃ M : Nat, k1 = (M : Int) := ⟨k1.toNat, by have := H1.out; unfold feedB at this; rw [Bool.and_eq_true] at this; have := inB_iff.1 this.2; omega⟩
        have HTM := Lib.hid (show T ≤ 1000000 ∧ 0 < M ∧ M ≤ 1000000 by have := inB_iff.1 H2.out; have := H1.out; unfold feedB at this; rw [Bool.and_eq_true] at this; have := inB_iff.1 this.2; omega)
        have HRU := Lib.hid (show tiR ms h1 d1 (M : Int) (T : Int) = if (rtR ms).e = 0 then rOf (T * (rtR ms).d.toNat) (M * (rtR ms).n.toNat) else bad 2 by unfold tiR; rw [HV.out, H1.out, H2.out]; rfl)
        go_wp2_with fail
        refine (RatioOf_c ms _ _ C34.out).mono ?_; rintro e v44 ⟨rfl, hb45⟩
        have X46 := Lib.hid (X31.out.later hb45)
        have X47 := Lib.hid (X32.out.later hb45)
        have X48 := Lib.hid (X33.out.later hb45)
        have C49 := Lib.hid (C34.out.later hb45)
        have B50 := Lib.hid (B35.out.trans (hb45.mono B35.out.size))
        clear hb45
        clear q36 q37 q38 q39 q40 q41 fz42
        have q51 : v44.cell? ⟨w.heap.size, 0, none⟩ = some (.slice A l c) := X46.out.cell 0
        have q52 : v44.cell? ⟨w.heap.size + 1, 0, none⟩ = some (.int .i64 h1) := X47.out.cell 0
        have q53 : v44.cell? ⟨w.heap.size + 1, 1, none⟩ = some (.int .i64 d1) := X47.out.cell 1
        have q54 : v44.cell? ⟨w.heap.size + 1, 2, none⟩ = some (.int .i64 (M : Int)) := X47.out.cell 2
        have q55 : v44.cell? ⟨w.heap.size + 1 + 1, 0, none⟩ = some (.int .i64 0) := X48.out.cell 0
        have q56 : v44.cell? ⟨w.heap.size + 1 + 1, 1, none⟩ = some (.int .i64 0) := X48.out.cell 1
        have fz57 : ∀ o, v44.frozen? ⟨w.heap.size + 1 + 1, o, none⟩ = false := fun o => X48.out.free o
        rcases rt_two HV.out with ⟨he, hr⟩ | ⟨he, N, D, hr, n0, n1, p0, p1, hg, his⟩
        · have HR := Lib.hid (show tiR ms h1 d1 (M : Int) (T : Int) = ⟨0, 0, 2⟩ by rw [HRU.out, if_neg he]; rfl)
          rw [hr]
          have e1 : ((2 : Int) != 0) = true := by decide
          clear he hr
          have X58 := Lib.hid (X46.out.alloc (.cells #[.int .i64 0, .int .i64 0] 23))
          have X59 := Lib.hid (X47.out.alloc (.cells #[.int .i64 0, .int .i64 0] 23))
          have X60 := Lib.hid (X48.out.alloc (.cells #[.int .i64 0, .int .i64 0] 23))
          have C61 := Lib.hid (C49.out.later ((Below.refl v44.heap.size v44).alloc (Nat.le_refl _) (.cells #[.int .i64 0, .int .i64 0] 23)))
          have B62 := Lib.hid (B50.out.alloc B50.out.size (.cells #[.int .i64 0, .int .i64 0] 23))
          have X63 := Lib.hid (Box.made v44 23 #[.int .i64 0, .int .i64 0])
          have q64 : (v44.alloc (.cells #[.int .i64 0, .int .i64 0] 23)).cell? ⟨w.heap.size, 0, none⟩ = some (.slice A l c) := X58.out.cell 0
          have q65 : (v44.alloc (.cells #[.int .i64 0, .int .i64 0] 23)).cell? ⟨w.heap.size + 1, 0, none⟩ = some (.int .i64 h1) := X59.out.cell 0
          have q66 : (v44.alloc (.cells #[.int .i64 0, .int .i64 0] 23)).cell? ⟨w.heap.size + 1, 1, none⟩ = some (.int .i64 d1) := X59.out.cell 1
          have q67 : (v44.alloc (.cells #[.int .i64 0, .int .i64 0] 23)).cell? ⟨w.heap.size + 1, 2, none⟩ = some (.int .i64 (M : Int)) := X59.out.cell 2
          have q68 : (v44.alloc (.cells #[.int .i64 0, .int .i64 0] 23)).cell? ⟨w.heap.size + 1 + 1, 0, none⟩ = some (.int .i64 0) := X60.out.cell 0
          have q69 : (v44.alloc (.cells #[.int .i64 0, .int .i64 0] 23)).cell? ⟨w.heap.size + 1 + 1, 1, none⟩ = some (.int .i64 0) := X60.out.cell 1
          have fz70 : ∀ o, (v44.alloc (.cells #[.int .i64 0, .int .i64 0] 23)).frozen? ⟨w.heap.size + 1 + 1, o, none⟩ = false := fun o => X60.out.free o
          have q71 : (v44.alloc (.cells #[.int .i64 0, .int .i64 0] 23)).cell? ⟨v44.heap.size, 0, none⟩ = some (.int .i64 0) := X63.out.cell 0
          have q72 : (v44.alloc (.cells #[.int .i64 0, .int .i64 0] 23)).cell? ⟨v44.heap.size, 1, none⟩ = some (.int .i64 0) := X63.out.cell 1
          go_wp2_with fail
          exact endRr Try.results53 rfl rfl HR.out X60.out (by omega) B62.out
        · have HR := Lib.hid (show tiR ms h1 d1 (M : Int) (T : Int) = rOf (T * D) (M * N) by rw [HRU.out, if_pos he, hr]; rfl)
          have HND := Lib.hid (show 0 < N ∧ N ≤ 1000000000 ∧ 0 < D ∧ D ≤ 1000000000 ∧ N.gcd D = 1 from ⟨n0, n1, p0, p1, hg⟩)
          rw [hr]
          have e1 : ((0 : Int) != 0) = false := by decide
          clear he hr n0 n1 p0 p1 hg his
          have X73 := Lib.hid (X46.out.alloc (.cells #[.int .i64 (N : Int), .int .i64 (D : Int)] 23))
          have X74 := Lib.hid (X47.out.alloc (.cells #[.int .i64 (N : Int), .int .i64 (D : Int)] 23))
          have X75 := Lib.hid (X48.out.alloc (.cells #[.int .i64 (N : Int), .int .i64 (D : Int)] 23))
          have C76 := Lib.hid (C49.out.later ((Below.refl v44.heap.size v44).alloc (Nat.le_refl _) (.cells #[.int .i64 (N : Int), .int .i64 (D : Int)] 23)))
          have B77 := Lib.hid (B50.out.alloc B50.out.size (.cells #[.int .i64 (N : Int), .int .i64 (D : Int)] 23))
          have X78 := Lib.hid (Box.made v44 23 #[.int .i64 (N : Int), .int .i64 (D : Int)])
          have q79 : (v44.alloc (.cells #[.int .i64 (N : Int), .int .i64 (D : Int)] 23)).cell? ⟨w.heap.size, 0, none⟩ = some (.slice A l c) := X73.out.cell 0
          have q80 : (v44.alloc (.cells #[.int .i64 (N : Int), .int .i64 (D : Int)] 23)).cell? ⟨w.heap.size + 1, 0, none⟩ = some (.int .i64 h1) := X74.out.cell 0
          have q81 : (v44.alloc (.cells #[.int .i64 (N : Int), .int .i64 (D : Int)] 23)).cell? ⟨w.heap.size + 1, 1, none⟩ = some (.int .i64 d1) := X74.out.cell 1
          have q82 : (v44.alloc (.cells #[.int .i64 (N : Int), .int .i64 (D : Int)] 23)).cell? ⟨w.heap.size + 1, 2, none⟩ = some (.int .i64 (M : Int)) := X74.out.cell 2
          have q83 : (v44.alloc (.cells #[.int .i64 (N : Int), .int .i64 (D : Int)] 23)).cell? ⟨w.heap.size + 1 + 1, 0, none⟩ = some (.int .i64 0) := X75.out.cell 0
          have q84 : (v44.alloc (.cells #[.int .i64 (N : Int), .int .i64 (D : Int)] 23)).cell? ⟨w.heap.size + 1 + 1, 1, none⟩ = some (.int .i64 0) := X75.out.cell 1
          have fz85 : ∀ o, (v44.alloc (.cells #[.int .i64 (N : Int), .int .i64 (D : Int)] 23)).frozen? ⟨w.heap.size + 1 + 1, o, none⟩ = false := fun o => X75.out.free o
          have q86 : (v44.alloc (.cells #[.int .i64 (N : Int), .int .i64 (D : Int)] 23)).cell? ⟨v44.heap.size, 0, none⟩ = some (.int .i64 (N : Int)) := X78.out.cell 0
          have q87 : (v44.alloc (.cells #[.int .i64 (N : Int), .int .i64 (D : Int)] 23)).cell? ⟨v44.heap.size, 1, none⟩ = some (.int .i64 (D : Int)) := X78.out.cell 1
          have HF := Lib.hid (fr2 T M D N)
          have HO := Lib.hid (frOk2 (a := T) (b := M) (c := D) (d := N) (by have := HTM.out; omega) HTM.out.2.1 (by have := HTM.out; omega) (by have := HND.out; omega) HND.out.1 (by have := HND.out; omega))
          have HFR := Lib.hid (frs2 (v44.alloc (.cells #[.int .i64 (N : Int), .int .i64 (D : Int)] 23)) 75 T M D N _ (World.size_alloc _ _))
          have X88 := Lib.hid (X73.out.alloc (.cells #[.int .i64 (T : Int), .int .i64 (M : Int), .int .i64 (D : Int), .int .i64 (N : Int)] 75))
          have X89 := Lib.hid (X74.out.alloc (.cells #[.int .i64 (T : Int), .int .i64 (M : Int), .int .i64 (D : Int), .int .i64 (N : Int)] 75))
          have X90 := Lib.hid (X75.out.alloc (.cells #[.int .i64 (T : Int), .int .i64 (M : Int), .int .i64 (D : Int), .int .i64 (N : Int)] 75))
          have X91 := Lib.hid (X78.out.alloc (.cells #[.int .i64 (T : Int), .int .i64 (M : Int), .int .i64 (D : Int), .int .i64 (N : Int)] 75))
          have C92 := Lib.hid (C76.out.later ((Below.refl (v44.alloc (.cells #[.int .i64 (N : Int), .int .i64 (D : Int)] 23)).heap.size (v44.alloc (.cells #[.int .i64 (N : Int), .int .i64 (D : Int)] 23))).alloc (Nat.le_refl _) (.cells #[.int .i64 (T : Int), .int .i64 (M : Int), .int .i64 (D : Int), .int .i64 (N : Int)] 75)))
          have B93 := Lib.hid (B77.out.alloc B77.out.size (.cells #[.int .i64 (T : Int), .int .i64 (M : Int), .int .i64 (D : Int), .int .i64 (N : Int)] 75))
          have X94 := Lib.hid (Box.made (v44.alloc (.cells #[.int .i64 (N : Int), .int .i64 (D : Int)] 23)) 75 #[.int .i64 (T : Int), .int .i64 (M : Int), .int .i64 (D : Int), .int .i64 (N : Int)])
          have q95 : ((v44.alloc (.cells #[.int .i64 (N : Int), .int .i64 (D : Int)] 23)).alloc (.cells #[.int .i64 (T : Int), .int .i64 (M : Int), .int .i64 (D : Int), .int .i64 (N : Int)] 75)).cell? ⟨w.heap.size, 0, none⟩ = some (.slice A l c) := X88.out.cell 0
          have q96 : ((v44.alloc (.cells #[.int .i64 (N : Int), .int .i64 (D : Int)] 23)).alloc (.cells #[.int .i64 (T : Int), .int .i64 (M : Int), .int .i64 (D : Int), .int .i64 (N : Int)] 75)).cell? ⟨w.heap.size + 1, 0, none⟩ = some (.int .i64 h1) := X89.out.cell 0
          have q97 : ((v44.alloc (.cells #[.int .i64 (N : Int), .int .i64 (D : Int)] 23)).alloc (.cells #[.int .i64 (T : Int), .int .i64 (M : Int), .int .i64 (D : Int), .int .i64 (N : Int)] 75)).cell? ⟨w.heap.size + 1, 1, none⟩ = some (.int .i64 d1) := X89.out.cell 1
          have q98 : ((v44.alloc (.cells #[.int .i64 (N : Int), .int .i64 (D : Int)] 23)).alloc (.cells #[.int .i64 (T : Int), .int .i64 (M : Int), .int .i64 (D : Int), .int .i64 (N : Int)] 75)).cell? ⟨w.heap.size + 1, 2, none⟩ = some (.int .i64 (M : Int)) := X89.out.cell 2
          have q99 : ((v44.alloc (.cells #[.int .i64 (N : Int), .int .i64 (D : Int)] 23)).alloc (.cells #[.int .i64 (T : Int), .int .i64 (M : Int), .int .i64 (D : Int), .int .i64 (N : Int)] 75)).cell? ⟨w.heap.size + 1 + 1, 0, none⟩ = some (.int .i64 0) := X90.out.cell 0
          have q100 : ((v44.alloc (.cells #[.int .i64 (N : Int), .int .i64 (D : Int)] 23)).alloc (.cells #[.int .i64 (T : Int), .int .i64 (M : Int), .int .i64 (D : Int), .int .i64 (N : Int)] 75)).cell? ⟨w.heap.size + 1 + 1, 1, none⟩ = some (.int .i64 0) := X90.out.cell 1
          have fz101 : ∀ o, ((v44.alloc (.cells #[.int .i64 (N : Int), .int .i64 (D : Int)] 23)).alloc (.cells #[.int .i64 (T : Int), .int .i64 (M : Int), .int .i64 (D : Int), .int .i64 (N : Int)] 75)).frozen? ⟨w.heap.size + 1 + 1, o, none⟩ = false := fun o => X90.out.free o
          have q102 : ((v44.alloc (.cells #[.int .i64 (N : Int), .int .i64 (D : Int)] 23)).alloc (.cells #[.int .i64 (T : Int), .int .i64 (M : Int), .int .i64 (D : Int), .int .i64 (N : Int)] 75)).cell? ⟨v44.heap.size, 0, none⟩ = some (.int .i64 (N : Int)) := X91.out.cell 0
          have q103 : ((v44.alloc (.cells #[.int .i64 (N : Int), .int .i64 (D : Int)] 23)).alloc (.cells #[.int .i64 (T : Int), .int .i64 (M : Int), .int .i64 (D : Int), .int .i64 (N : Int)] 75)).cell? ⟨v44.heap.size, 1, none⟩ = some (.int .i64 (D : Int)) := X91.out.cell 1
          have q104 : ((v44.alloc (.cells #[.int .i64 (N : Int), .int .i64 (D : Int)] 23)).alloc (.cells #[.int .i64 (T : Int), .int .i64 (M : Int), .int .i64 (D : Int), .int .i64 (N : Int)] 75)).cell? ⟨(v44.alloc (.cells #[.int .i64 (N : Int), .int .i64 (D : Int)] 23)).heap.size, 0, none⟩ = some (.int .i64 (T : Int)) := X94.out.cell 0
          have q105 : ((v44.alloc (.cells #[.int .i64 (N : Int), .int .i64 (D : Int)] 23)).alloc (.cells #[.int .i64 (T : Int), .int .i64 (M : Int), .int .i64 (D : Int), .int .i64 (N : Int)] 75)).cell? ⟨(v44.alloc (.cells #[.int .i64 (N : Int), .int .i64 (D : Int)] 23)).heap.size, 1, none⟩ = some (.int .i64 (M : Int)) := X94.out.cell 1
          have q106 : ((v44.alloc (.cells #[.int .i64 (N : Int), .int .i64 (D : Int)] 23)).alloc (.cells #[.int .i64 (T : Int), .int .i64 (M : Int), .int .i64 (D : Int), .int .i64 (N : Int)] 75)).cell? ⟨(v44.alloc (.cells #[.int .i64 (N : Int), .int .i64 (D : Int)] 23)).heap.size, 2, none⟩ = some (.int .i64 (D : Int)) := X94.out.cell 2
          have q107 : ((v44.alloc (.cells #[.int .i64 (N : Int), .int .i64 (D : Int)] 23)).alloc (.cells #[.int .i64 (T : Int), .int .i64 (M : Int), .int .i64 (D : Int), .int .i64 (N : Int)] 75)).cell? ⟨(v44.alloc (.cells #[.int .i64 (N : Int), .int .i64 (D : Int)] 23)).heap.size, 3, none⟩ = some (.int .i64 (N : Int)) := X94.out.cell 3
          go_wp2_with fail
          refine (product_c [(T, M), (D, N)] _ _ HFR.out HO.out).mono ?_; rintro e v108 ⟨rfl, hb109⟩
          have X110 := Lib.hid (X88.out.later hb109)
          have X111 := Lib.hid (X89.out.later hb109)
          have X112 := Lib.hid (X90.out.later hb109)
          have X113 := Lib.hid (X91.out.later hb109)
          have X114 := Lib.hid (X94.out.later hb109)
          have C115 := Lib.hid (C92.out.later hb109)
          have B116 := Lib.hid (B93.out.trans (hb109.mono B93.out.size))
          clear hb109
          rw [HF.out.1, HF.out.2]
          clear q95 q96 q97 q98 q99 q100 fz101 q102 q103 q104 q105 q106 q107 q79 q80 q81 q82 q83 q84 fz85 q86 q87 q51 q52 q53 q54 q55 q56 fz57
          have q117 : v108.cell? ⟨w.heap.size, 0, none⟩ = some (.slice A l c) := X110.out.cell 0
          have q118 : v108.cell? ⟨w.heap.size + 1, 0, none⟩ = some (.int .i64 h1) := X111.out.cell 0
          have q119 : v108.cell? ⟨w.heap.size + 1, 1, none⟩ = some (.int .i64 d1) := X111.out.cell 1
          have q120 : v108.cell? ⟨w.heap.size + 1, 2, none⟩ = some (.int .i64 (M : Int)) := X111.out.cell 2
          have q121 : v108.cell? ⟨w.heap.size + 1 + 1, 0, none⟩ = some (.int .i64 0) := X112.out.cell 0
          have q122 : v108.cell? ⟨w.heap.size + 1 + 1, 1, none⟩ = some (.int .i64 0) := X112.out.cell 1
          have fz123 : ∀ o, v108.frozen? ⟨w.heap.size + 1 + 1, o, none⟩ = false := fun o => X112.out.free o
          have q124 : v108.cell? ⟨v44.heap.size, 0, none⟩ = some (.int .i64 (N : Int)) := X113.out.cell 0
          have q125 : v108.cell? ⟨v44.heap.size, 1, none⟩ = some (.int .i64 (D : Int)) := X113.out.cell 1
          have q126 : v108.cell? ⟨(v44.alloc (.cells #[.int .i64 (N : Int), .int .i64 (D : Int)] 23)).heap.size, 0, none⟩ = some (.int .i64 (T : Int)) := X114.out.cell 0
          have q127 : v108.cell? ⟨(v44.alloc (.cells #[.int .i64 (N : Int), .int .i64 (D : Int)] 23)).heap.size, 1, none⟩ = some (.int .i64 (M : Int)) := X114.out.cell 1
          have q128 : v108.cell? ⟨(v44.alloc (.cells #[.int .i64 (N : Int), .int .i64 (D : Int)] 23)).heap.size, 2, none⟩ = some (.int .i64 (D : Int)) := X114.out.cell 2
          have q129 : v108.cell? ⟨(v44.alloc (.cells #[.int .i64 (N : Int), .int .i64 (D : Int)] 23)).heap.size, 3, none⟩ = some (.int .i64 (N : Int)) := X114.out.cell 3
          go_wp2_with fail
          exact endRr Try.results53 rfl rfl HR.out X112.out (by omega) B116.out

set_option maxRecDepth 100000 in
set_option maxHeartbeats 4000000 in
theorem rTime_c (ms : List Mh) (h1 d1 k1 n : Int) (v : Value) (w : World) (h : IsTr w w.heap.size v ms) (hl : ms.length ≤ 100) : Calls Try.prog 54 #[v, .agg #[.int .i64 h1, .int .i64 d1, .int .i64 k1], .int .i64 n] w fun e w' => e = .returned (rrV (tiR ms h1 d1 k1 n)) ∧ Below w.heap.size w w' := by
  have HT := Lib.hid h
  have HL := Lib.hid hl
  clear hl
  obtain ⟨s, rfl, A, c, rfl, -, -⟩ := h
  obtain ⟨l, hn⟩ : ∃ n, ms.length = n := ⟨_, rfl⟩
  have HN := Lib.hid hn
  rw [hn] at HT ⊢
  clear hn
  go_enter Try.func54, Try.ntmps54
  go_wp2_with fail
  obtain ⟨W130, hW131⟩ : ∃ X, (((w.alloc (.cells #[.slice A l c] 35)).alloc (.cells #[.int .i64 h1, .int .i64 d1, .int .i64 k1] 57)).alloc (.cells #[.int .i64 0, .int .i64 0] 23)) = X := ⟨_, rfl⟩
  have B132 := Lib.hid (show Below w.heap.size w W130 by rw [← hW131]; exact ((((Below.refl w.heap.size w).alloc (Nat.le_refl _) _).alloc (by first | (simp; done) | (simp; omega)) _).alloc (by first | (simp; done) | (simp; omega)) _))
  have X133 := Lib.hid (show Box W130 (w.heap.size) 35 #[.slice A l c] by rw [← hW131]; exact Box.alloc (Box.alloc (Box.made w 35 #[.slice A l c]) (.cells #[.int .i64 h1, .int .i64 d1, .int .i64 k1] 57)) (.cells #[.int .i64 0, .int .i64 0] 23))
  have X134 := Lib.hid (show Box W130 (w.heap.size + 1) 57 #[.int .i64 h1, .int .i64 d1, .int .i64 k1] by
    have hz := Box.alloc (Box.made (w.alloc (.cells #[.slice A l c] 35)) 57 #[.int .i64 h1, .int .i64 d1, .int .i64 k1]) (.cells #[.int .i64 0, .int .i64 0] 23)
    rw [World.size_alloc] at hz
    rw [← hW131]; exact hz)
  have X135 := Lib.hid (show Box W130 (w.heap.size + 1 + 1) 23 #[.int .i64 0, .int .i64 0] by
    have hz := Box.made ((w.alloc (.cells #[.slice A l c] 35)).alloc (.cells #[.int .i64 h1, .int .i64 d1, .int .i64 k1] 57)) 23 #[.int .i64 0, .int .i64 0]
    rw [World.size_alloc, World.size_alloc] at hz
    rw [← hW131]; exact hz)
  have C136 := Lib.hid (HT.out.later B132.out)
  rw [hW131]
  clear hW131
  have q137 : W130.cell? ⟨w.heap.size, 0, none⟩ = some (.slice A l c) := X133.out.cell 0
  have q138 : W130.cell? ⟨w.heap.size + 1, 0, none⟩ = some (.int .i64 h1) := X134.out.cell 0
  have q139 : W130.cell? ⟨w.heap.size + 1, 1, none⟩ = some (.int .i64 d1) := X134.out.cell 1
  have q140 : W130.cell? ⟨w.heap.size + 1, 2, none⟩ = some (.int .i64 k1) := X134.out.cell 2
  have q141 : W130.cell? ⟨w.heap.size + 1 + 1, 0, none⟩ = some (.int .i64 0) := X135.out.cell 0
  have q142 : W130.cell? ⟨w.heap.size + 1 + 1, 1, none⟩ = some (.int .i64 0) := X135.out.cell 1
  have fz143 : ∀ o, W130.frozen? ⟨w.heap.size + 1 + 1, o, none⟩ = false := fun o => X135.out.free o
  go_wp2_with fail
  refine (rValidTrain_c ms _ _ C136.out HL.out).mono ?_; rintro e v144 ⟨rfl, hb145⟩
  have X146 := Lib.hid (X133.out.later hb145)
  have X147 := Lib.hid (X134.out.later hb145)
  have X148 := Lib.hid (X135.out.later hb145)
  have C149 := Lib.hid (C136.out.later hb145)
  have B150 := Lib.hid (B132.out.trans (hb145.mono B132.out.size))
  clear hb145
  clear q137 q138 q139 q140 q141 q142 fz143
  have q151 : v144.cell? ⟨w.heap.size, 0, none⟩ = some (.slice A l c) := X146.out.cell 0
  have q152 : v144.cell? ⟨w.heap.size + 1, 0, none⟩ = some (.int .i64 h1) := X147.out.cell 0
  have q153 : v144.cell? ⟨w.heap.size + 1, 1, none⟩ = some (.int .i64 d1) := X147.out.cell 1
  have q154 : v144.cell? ⟨w.heap.size + 1, 2, none⟩ = some (.int .i64 k1) := X147.out.cell 2
  have q155 : v144.cell? ⟨w.heap.size + 1 + 1, 0, none⟩ = some (.int .i64 0) := X148.out.cell 0
  have q156 : v144.cell? ⟨w.heap.size + 1 + 1, 1, none⟩ = some (.int .i64 0) := X148.out.cell 1
  have fz157 : ∀ o, v144.frozen? ⟨w.heap.size + 1 + 1, o, none⟩ = false := fun o => X148.out.free o
  cases hv : trB ms
  · have HR := Lib.hid (show tiR ms h1 d1 k1 n = ⟨0, 0, 70⟩ by unfold tiR; rw [hv]; rfl)
    clear hv
    go_wp2_with fail
    exact endRr Try.results54 rfl rfl HR.out X148.out (by omega) B150.out
  · have HV := Lib.hid hv
    clear hv
    go_wp2_with fail
    refine (rvalidFeed_c h1 d1 k1 _).mono ?_; rintro e v158 ⟨rfl, hb159⟩
    have X160 := Lib.hid (X146.out.later hb159)
    have X161 := Lib.hid (X147.out.later hb159)
    have X162 := Lib.hid (X148.out.later hb159)
    have C163 := Lib.hid (C149.out.later hb159)
    have B164 := Lib.hid (B150.out.trans (hb159.mono B150.out.size))
    clear hb159
    clear q151 q152 q153 q154 q155 q156 fz157
    have q165 : v158.cell? ⟨w.heap.size, 0, none⟩ = some (.slice A l c) := X160.out.cell 0
    have q166 : v158.cell? ⟨w.heap.size + 1, 0, none⟩ = some (.int .i64 h1) := X161.out.cell 0
    have q167 : v158.cell? ⟨w.heap.size + 1, 1, none⟩ = some (.int .i64 d1) := X161.out.cell 1
    have q168 : v158.cell? ⟨w.heap.size + 1, 2, none⟩ = some (.int .i64 k1) := X161.out.cell 2
    have q169 : v158.cell? ⟨w.heap.size + 1 + 1, 0, none⟩ = some (.int .i64 0) := X162.out.cell 0
    have q170 : v158.cell? ⟨w.heap.size + 1 + 1, 1, none⟩ = some (.int .i64 0) := X162.out.cell 1
    have fz171 : ∀ o, v158.frozen? ⟨w.heap.size + 1 + 1, o, none⟩ = false := fun o => X162.out.free o
    cases hf : feedB h1 d1 k1
    · have HR := Lib.hid (show tiR ms h1 d1 k1 n = ⟨0, 0, 33⟩ by unfold tiR; rw [HV.out, hf]; rfl)
      clear hf
      go_wp2_with fail
      exact endRr Try.results54 rfl rfl HR.out X162.out (by omega) B164.out
    · have H1 := Lib.hid hf
      clear hf
      go_wp2_with fail
      refine (within_c n 0 1000000 _).mono ?_; rintro e v172 ⟨rfl, rfl⟩
      cases hm : inB n 0 1000000
      · have HR := Lib.hid (show tiR ms h1 d1 k1 n = ⟨0, 0, 1⟩ by unfold tiR; rw [HV.out, H1.out, hm]; rfl)
        clear hm
        go_wp2_with fail
        exact endRr Try.results54 rfl rfl HR.out X162.out (by omega) B164.out
      · have H2 := Lib.hid hm
        clear hm
        obtain ⟨T, rfl⟩ : ∃ T : Nat, n = (T : Int) := ⟨n.toNat, by have := inB_iff.1 H2.out; omega⟩
        obtain ⟨M, rfl⟩ : ∃ M : Nat, k1 = (M : Int) := ⟨k1.toNat, by have := H1.out; unfold feedB at this; rw [Bool.and_eq_true] at this; have := inB_iff.1 this.2; omega⟩
        have HTM := Lib.hid (show T ≤ 1000000 ∧ 0 < M ∧ M ≤ 1000000 by have := inB_iff.1 H2.out; have := H1.out; unfold feedB at this; rw [Bool.and_eq_true] at this; have := inB_iff.1 this.2; omega)
        have HRU := Lib.hid (show tiR ms h1 d1 (M : Int) (T : Int) = if (rtR ms).e = 0 then rOf (T * (rtR ms).d.toNat) (M * (rtR ms).n.toNat) else bad 2 by unfold tiR; rw [HV.out, H1.out, H2.out]; rfl)
        go_wp2_with fail
        refine (rRatioOf_c ms _ _ C163.out HL.out).mono ?_; rintro e v173 ⟨rfl, hb174⟩
        have X175 := Lib.hid (X160.out.later hb174)
        have X176 := Lib.hid (X161.out.later hb174)
        have X177 := Lib.hid (X162.out.later hb174)
        have C178 := Lib.hid (C163.out.later hb174)
        have B179 := Lib.hid (B164.out.trans (hb174.mono B164.out.size))
        clear hb174
        clear q165 q166 q167 q168 q169 q170 fz171
        have q180 : v173.cell? ⟨w.heap.size, 0, none⟩ = some (.slice A l c) := X175.out.cell 0
        have q181 : v173.cell? ⟨w.heap.size + 1, 0, none⟩ = some (.int .i64 h1) := X176.out.cell 0
        have q182 : v173.cell? ⟨w.heap.size + 1, 1, none⟩ = some (.int .i64 d1) := X176.out.cell 1
        have q183 : v173.cell? ⟨w.heap.size + 1, 2, none⟩ = some (.int .i64 (M : Int)) := X176.out.cell 2
        have q184 : v173.cell? ⟨w.heap.size + 1 + 1, 0, none⟩ = some (.int .i64 0) := X177.out.cell 0
        have q185 : v173.cell? ⟨w.heap.size + 1 + 1, 1, none⟩ = some (.int .i64 0) := X177.out.cell 1
        have fz186 : ∀ o, v173.frozen? ⟨w.heap.size + 1 + 1, o, none⟩ = false := fun o => X177.out.free o
        rcases rt_two HV.out with ⟨he, hr⟩ | ⟨he, N, D, hr, n0, n1, p0, p1, hg, his⟩
        · have HR := Lib.hid (show tiR ms h1 d1 (M : Int) (T : Int) = ⟨0, 0, 2⟩ by rw [HRU.out, if_neg he]; rfl)
          rw [hr]
          have e1 : ((2 : Int) != 0) = true := by decide
          clear he hr
          have X187 := Lib.hid (X175.out.alloc (.cells #[.int .i64 0, .int .i64 0] 23))
          have X188 := Lib.hid (X176.out.alloc (.cells #[.int .i64 0, .int .i64 0] 23))
          have X189 := Lib.hid (X177.out.alloc (.cells #[.int .i64 0, .int .i64 0] 23))
          have C190 := Lib.hid (C178.out.later ((Below.refl v173.heap.size v173).alloc (Nat.le_refl _) (.cells #[.int .i64 0, .int .i64 0] 23)))
          have B191 := Lib.hid (B179.out.alloc B179.out.size (.cells #[.int .i64 0, .int .i64 0] 23))
          have X192 := Lib.hid (Box.made v173 23 #[.int .i64 0, .int .i64 0])
          have q193 : (v173.alloc (.cells #[.int .i64 0, .int .i64 0] 23)).cell? ⟨w.heap.size, 0, none⟩ = some (.slice A l c) := X187.out.cell 0
          have q194 : (v173.alloc (.cells #[.int .i64 0, .int .i64 0] 23)).cell? ⟨w.heap.size + 1, 0, none⟩ = some (.int .i64 h1) := X188.out.cell 0
          have q195 : (v173.alloc (.cells #[.int .i64 0, .int .i64 0] 23)).cell? ⟨w.heap.size + 1, 1, none⟩ = some (.int .i64 d1) := X188.out.cell 1
          have q196 : (v173.alloc (.cells #[.int .i64 0, .int .i64 0] 23)).cell? ⟨w.heap.size + 1, 2, none⟩ = some (.int .i64 (M : Int)) := X188.out.cell 2
          have q197 : (v173.alloc (.cells #[.int .i64 0, .int .i64 0] 23)).cell? ⟨w.heap.size + 1 + 1, 0, none⟩ = some (.int .i64 0) := X189.out.cell 0
          have q198 : (v173.alloc (.cells #[.int .i64 0, .int .i64 0] 23)).cell? ⟨w.heap.size + 1 + 1, 1, none⟩ = some (.int .i64 0) := X189.out.cell 1
          have fz199 : ∀ o, (v173.alloc (.cells #[.int .i64 0, .int .i64 0] 23)).frozen? ⟨w.heap.size + 1 + 1, o, none⟩ = false := fun o => X189.out.free o
          have q200 : (v173.alloc (.cells #[.int .i64 0, .int .i64 0] 23)).cell? ⟨v173.heap.size, 0, none⟩ = some (.int .i64 0) := X192.out.cell 0
          have q201 : (v173.alloc (.cells #[.int .i64 0, .int .i64 0] 23)).cell? ⟨v173.heap.size, 1, none⟩ = some (.int .i64 0) := X192.out.cell 1
          go_wp2_with fail
          exact endRr Try.results54 rfl rfl HR.out X189.out (by omega) B191.out
        · have HR := Lib.hid (show tiR ms h1 d1 (M : Int) (T : Int) = rOf (T * D) (M * N) by rw [HRU.out, if_pos he, hr]; rfl)
          have HND := Lib.hid (show 0 < N ∧ N ≤ 1000000000 ∧ 0 < D ∧ D ≤ 1000000000 ∧ N.gcd D = 1 from ⟨n0, n1, p0, p1, hg⟩)
          rw [hr]
          have e1 : ((0 : Int) != 0) = false := by decide
          clear he hr n0 n1 p0 p1 hg his
          have X202 := Lib.hid (X175.out.alloc (.cells #[.int .i64 (N : Int), .int .i64 (D : Int)] 23))
          have X203 := Lib.hid (X176.out.alloc (.cells #[.int .i64 (N : Int), .int .i64 (D : Int)] 23))
          have X204 := Lib.hid (X177.out.alloc (.cells #[.int .i64 (N : Int), .int .i64 (D : Int)] 23))
          have C205 := Lib.hid (C178.out.later ((Below.refl v173.heap.size v173).alloc (Nat.le_refl _) (.cells #[.int .i64 (N : Int), .int .i64 (D : Int)] 23)))
          have B206 := Lib.hid (B179.out.alloc B179.out.size (.cells #[.int .i64 (N : Int), .int .i64 (D : Int)] 23))
          have X207 := Lib.hid (Box.made v173 23 #[.int .i64 (N : Int), .int .i64 (D : Int)])
          have q208 : (v173.alloc (.cells #[.int .i64 (N : Int), .int .i64 (D : Int)] 23)).cell? ⟨w.heap.size, 0, none⟩ = some (.slice A l c) := X202.out.cell 0
          have q209 : (v173.alloc (.cells #[.int .i64 (N : Int), .int .i64 (D : Int)] 23)).cell? ⟨w.heap.size + 1, 0, none⟩ = some (.int .i64 h1) := X203.out.cell 0
          have q210 : (v173.alloc (.cells #[.int .i64 (N : Int), .int .i64 (D : Int)] 23)).cell? ⟨w.heap.size + 1, 1, none⟩ = some (.int .i64 d1) := X203.out.cell 1
          have q211 : (v173.alloc (.cells #[.int .i64 (N : Int), .int .i64 (D : Int)] 23)).cell? ⟨w.heap.size + 1, 2, none⟩ = some (.int .i64 (M : Int)) := X203.out.cell 2
          have q212 : (v173.alloc (.cells #[.int .i64 (N : Int), .int .i64 (D : Int)] 23)).cell? ⟨w.heap.size + 1 + 1, 0, none⟩ = some (.int .i64 0) := X204.out.cell 0
          have q213 : (v173.alloc (.cells #[.int .i64 (N : Int), .int .i64 (D : Int)] 23)).cell? ⟨w.heap.size + 1 + 1, 1, none⟩ = some (.int .i64 0) := X204.out.cell 1
          have fz214 : ∀ o, (v173.alloc (.cells #[.int .i64 (N : Int), .int .i64 (D : Int)] 23)).frozen? ⟨w.heap.size + 1 + 1, o, none⟩ = false := fun o => X204.out.free o
          have q215 : (v173.alloc (.cells #[.int .i64 (N : Int), .int .i64 (D : Int)] 23)).cell? ⟨v173.heap.size, 0, none⟩ = some (.int .i64 (N : Int)) := X207.out.cell 0
          have q216 : (v173.alloc (.cells #[.int .i64 (N : Int), .int .i64 (D : Int)] 23)).cell? ⟨v173.heap.size, 1, none⟩ = some (.int .i64 (D : Int)) := X207.out.cell 1
          go_wp2_with fail
          refine (rReduce_c (T : Int) (M : Int) _ (by have := HTM.out; omega) (by have := HTM.out; omega)).mono ?_; rintro e v217 ⟨rfl, hb218⟩
          have X219 := Lib.hid (X202.out.later hb218)
          have X220 := Lib.hid (X203.out.later hb218)
          have X221 := Lib.hid (X204.out.later hb218)
          have X222 := Lib.hid (X207.out.later hb218)
          have C223 := Lib.hid (C205.out.later hb218)
          have B224 := Lib.hid (B206.out.trans (hb218.mono B206.out.size))
          clear hb218
          clear q208 q209 q210 q211 q212 q213 fz214 q215 q216 q180 q181 q182 q183 q184 q185 fz186
          have q225 : v217.cell? ⟨w.heap.size, 0, none⟩ = some (.slice A l c) := X219.out.cell 0
          have q226 : v217.cell? ⟨w.heap.size + 1, 0, none⟩ = some (.int .i64 h1) := X220.out.cell 0
          have q227 : v217.cell? ⟨w.heap.size + 1, 1, none⟩ = some (.int .i64 d1) := X220.out.cell 1
          have q228 : v217.cell? ⟨w.heap.size + 1, 2, none⟩ = some (.int .i64 (M : Int)) := X220.out.cell 2
          have q229 : v217.cell? ⟨w.heap.size + 1 + 1, 0, none⟩ = some (.int .i64 0) := X221.out.cell 0
          have q230 : v217.cell? ⟨w.heap.size + 1 + 1, 1, none⟩ = some (.int .i64 0) := X221.out.cell 1
          have fz231 : ∀ o, v217.frozen? ⟨w.heap.size + 1 + 1, o, none⟩ = false := fun o => X221.out.free o
          have q232 : v217.cell? ⟨v173.heap.size, 0, none⟩ = some (.int .i64 (N : Int)) := X222.out.cell 0
          have q233 : v217.cell? ⟨v173.heap.size, 1, none⟩ = some (.int .i64 (D : Int)) := X222.out.cell 1
          obtain ⟨a, b, hab, a1, b0, b1, hg, his⟩ := reR_small (N := T) (D := M) HTM.out.2.1 (by have := HTM.out; omega) (by have := HTM.out; omega)
          rw [hab]
          have HTT := Lib.hid (show tmR (a : Int) (b : Int) (D : Int) (N : Int) = rOf (T * D) (M * N) by
            rw [tm_val (rtB_nat a1 b0 b1 hg) (rtB_nat HND.out.2.2.2.1 HND.out.1 HND.out.2.1 (by rw [Nat.gcd_comm]; exact HND.out.2.2.2.2))]
            exact rOf_is (his.mul (Is.self HND.out.1)))
          clear hab a1 b0 b1 hg his
          have X234 := Lib.hid (X219.out.alloc (.cells #[.int .i64 (a : Int), .int .i64 (b : Int)] 23))
          have X235 := Lib.hid (X220.out.alloc (.cells #[.int .i64 (a : Int), .int .i64 (b : Int)] 23))
          have X236 := Lib.hid (X221.out.alloc (.cells #[.int .i64 (a : Int), .int .i64 (b : Int)] 23))
          have X237 := Lib.hid (X222.out.alloc (.cells #[.int .i64 (a : Int), .int .i64 (b : Int)] 23))
          have C238 := Lib.hid (C223.out.later ((Below.refl v217.heap.size v217).alloc (Nat.le_refl _) (.cells #[.int .i64 (a : Int), .int .i64 (b : Int)] 23)))
          have B239 := Lib.hid (B224.out.alloc B224.out.size (.cells #[.int .i64 (a : Int), .int .i64 (b : Int)] 23))
          have X240 := Lib.hid (Box.made v217 23 #[.int .i64 (a : Int), .int .i64 (b : Int)])
          have q241 : (v217.alloc (.cells #[.int .i64 (a : Int), .int .i64 (b : Int)] 23)).cell? ⟨w.heap.size, 0, none⟩ = some (.slice A l c) := X234.out.cell 0
          have q242 : (v217.alloc (.cells #[.int .i64 (a : Int), .int .i64 (b : Int)] 23)).cell? ⟨w.heap.size + 1, 0, none⟩ = some (.int .i64 h1) := X235.out.cell 0
          have q243 : (v217.alloc (.cells #[.int .i64 (a : Int), .int .i64 (b : Int)] 23)).cell? ⟨w.heap.size + 1, 1, none⟩ = some (.int .i64 d1) := X235.out.cell 1
          have q244 : (v217.alloc (.cells #[.int .i64 (a : Int), .int .i64 (b : Int)] 23)).cell? ⟨w.heap.size + 1, 2, none⟩ = some (.int .i64 (M : Int)) := X235.out.cell 2
          have q245 : (v217.alloc (.cells #[.int .i64 (a : Int), .int .i64 (b : Int)] 23)).cell? ⟨w.heap.size + 1 + 1, 0, none⟩ = some (.int .i64 0) := X236.out.cell 0
          have q246 : (v217.alloc (.cells #[.int .i64 (a : Int), .int .i64 (b : Int)] 23)).cell? ⟨w.heap.size + 1 + 1, 1, none⟩ = some (.int .i64 0) := X236.out.cell 1
          have fz247 : ∀ o, (v217.alloc (.cells #[.int .i64 (a : Int), .int .i64 (b : Int)] 23)).frozen? ⟨w.heap.size + 1 + 1, o, none⟩ = false := fun o => X236.out.free o
          have q248 : (v217.alloc (.cells #[.int .i64 (a : Int), .int .i64 (b : Int)] 23)).cell? ⟨v173.heap.size, 0, none⟩ = some (.int .i64 (N : Int)) := X237.out.cell 0
          have q249 : (v217.alloc (.cells #[.int .i64 (a : Int), .int .i64 (b : Int)] 23)).cell? ⟨v173.heap.size, 1, none⟩ = some (.int .i64 (D : Int)) := X237.out.cell 1
          have q250 : (v217.alloc (.cells #[.int .i64 (a : Int), .int .i64 (b : Int)] 23)).cell? ⟨v217.heap.size, 0, none⟩ = some (.int .i64 (a : Int)) := X240.out.cell 0
          have q251 : (v217.alloc (.cells #[.int .i64 (a : Int), .int .i64 (b : Int)] 23)).cell? ⟨v217.heap.size, 1, none⟩ = some (.int .i64 (b : Int)) := X240.out.cell 1
          go_wp2_with fail
          refine (rTimes_c (a : Int) (b : Int) (D : Int) (N : Int) _).mono ?_; rintro e v252 ⟨rfl, hb253⟩
          have X254 := Lib.hid (X234.out.later hb253)
          have X255 := Lib.hid (X235.out.later hb253)
          have X256 := Lib.hid (X236.out.later hb253)
          have X257 := Lib.hid (X237.out.later hb253)
          have X258 := Lib.hid (X240.out.later hb253)
          have C259 := Lib.hid (C238.out.later hb253)
          have B260 := Lib.hid (B239.out.trans (hb253.mono B239.out.size))
          clear hb253
          rw [HTT.out]
          clear q241 q242 q243 q244 q245 q246 fz247 q248 q249 q250 q251 q225 q226 q227 q228 q229 q230 fz231 q232 q233
          have q261 : v252.cell? ⟨w.heap.size, 0, none⟩ = some (.slice A l c) := X254.out.cell 0
          have q262 : v252.cell? ⟨w.heap.size + 1, 0, none⟩ = some (.int .i64 h1) := X255.out.cell 0
          have q263 : v252.cell? ⟨w.heap.size + 1, 1, none⟩ = some (.int .i64 d1) := X255.out.cell 1
          have q264 : v252.cell? ⟨w.heap.size + 1, 2, none⟩ = some (.int .i64 (M : Int)) := X255.out.cell 2
          have q265 : v252.cell? ⟨w.heap.size + 1 + 1, 0, none⟩ = some (.int .i64 0) := X256.out.cell 0
          have q266 : v252.cell? ⟨w.heap.size + 1 + 1, 1, none⟩ = some (.int .i64 0) := X256.out.cell 1
          have fz267 : ∀ o, v252.frozen? ⟨w.heap.size + 1 + 1, o, none⟩ = false := fun o => X256.out.free o
          have q268 : v252.cell? ⟨v173.heap.size, 0, none⟩ = some (.int .i64 (N : Int)) := X257.out.cell 0
          have q269 : v252.cell? ⟨v173.heap.size, 1, none⟩ = some (.int .i64 (D : Int)) := X257.out.cell 1
          have q270 : v252.cell? ⟨v217.heap.size, 0, none⟩ = some (.int .i64 (a : Int)) := X258.out.cell 0
          have q271 : v252.cell? ⟨v217.heap.size, 1, none⟩ = some (.int .i64 (b : Int)) := X258.out.cell 1
          go_wp2_with fail
          exact endRr Try.results54 rfl rfl HR.out X256.out (by omega) B260.out

end Go.Proofs.Ytmmfmanjajefcaa

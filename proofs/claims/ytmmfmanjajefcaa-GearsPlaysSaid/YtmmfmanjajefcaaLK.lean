/- Layer 7: speeds and times, on both sides. -/
import Derived.Test.YtmmfmanjajefcaaLJ
set_option linter.all false
namespace Go.Proofs.Ytmmfmanjajefcaa
open Go.RowKit

theorem prodL_fst_pos {fs : List (Nat × Nat)} (h : ∀ f ∈ fs, 0 < f.1) : 0 < frN fs := prodL_pos fun x hx => by
  obtain ⟨f, hf, rfl⟩ := List.mem_map.1 hx
  exact h f hf
theorem rOf_pos {N D : Nat} (hN : 0 < N) (hD : 0 < D) (h : (rOf N D).e = 0) : 0 < (rOf N D).n.toNat := by
  have hb : lwB N D = true := lw_iff.2 h
  obtain ⟨c1, c2, c3⟩ := lw_ok hD hb
  show 0 < ((lwN N D : Nat) : Int).toNat
  rw [Int.toNat_natCast]
  rcases Nat.eq_zero_or_pos (lwN N D) with e | e
  · rw [e, Nat.zero_mul] at c2
    rcases Nat.mul_eq_zero.1 c2 with e2 | e2
    · omega
    · have := c1.2.1; omega
  · exact e
theorem rOf_bad {N D : Nat} (h : (rOf N D).e ≠ 0) : rOf N D = bad 2 := by
  have hb : lwB N D = false := by
    cases hb : lwB N D
    · rfl
    · exact absurd (lw_iff.1 hb) h
  obtain ⟨e1, e2, e3⟩ := lw_no hb
  unfold rOf bad; rw [e1, e2, e3]; rfl
/-- what the ratio of a valid train is -/
theorem rt_two {ms : List Mh} (hv : trB ms = true) : ((rtR ms).e ≠ 0 ∧ rtR ms = ⟨0, 0, 2⟩) ∨ ((rtR ms).e = 0 ∧ ∃ N D : Nat, rtR ms = ⟨(N : Int), (D : Int), 0⟩ ∧ 0 < N ∧ N ≤ 1000000000 ∧ 0 < D ∧ D ≤ 1000000000 ∧ N.gcd D = 1 ∧ Is N D (frN (ms.map mF)) (frD (ms.map mF))) := by
  have e : rtR ms = rOf (frN (ms.map mF)) (frD (ms.map mF)) := by unfold rtR; rw [hv]; rfl
  obtain ⟨k1, k2, k3, -⟩ := tr_facts hv
  have hp := frPos_ms k3 (by omega)
  have hD := frD_pos hp.1
  have hN := prodL_fst_pos hp.2
  rw [e]
  by_cases h : (rOf (frN (ms.map mF)) (frD (ms.map mF))).e = 0
  · right
    obtain ⟨h1, h2⟩ := rOf_ok hD h
    obtain ⟨⟨a0, a1⟩, ⟨a2, a3⟩, a4⟩ := rtB_iff.1 h1
    have h3 := rOf_pos hN hD h
    generalize rOf (frN (ms.map mF)) (frD (ms.map mF)) = r at *
    obtain ⟨n, d, e⟩ := r
    simp only at *
    exact ⟨h, n.toNat, d.toNat, by rw [h]; congr 1 <;> omega, h3, by omega, by omega, by omega, a4, h2⟩
  · left
    exact ⟨h, rOf_bad h⟩
/-- numbers of which none is great have lowest terms -/
theorem reR_small {N D : Nat} (hD : 0 < D) (hN2 : N ≤ 1000000000) (hD2 : D ≤ 1000000000) : ∃ a b : Nat, reR (N : Int) (D : Int) = ⟨(a : Int), (b : Int), 0⟩ ∧ a ≤ 1000000000 ∧ 0 < b ∧ b ≤ 1000000000 ∧ a.gcd b = 1 ∧ Is a b N D := by
  have e : reR (N : Int) (D : Int) = rOf N D := by unfold reR; rw [if_neg (by omega)]; rfl
  have h0 : (rOf N D).e = 0 := by
    apply lw_iff.1
    unfold lwB mh
    have h1 := Nat.div_le_self N (N.gcd D)
    have h2 := Nat.div_le_self D (N.gcd D)
    rw [decide_eq_true (by omega), decide_eq_true (by omega)]; rfl
  obtain ⟨h1, h2⟩ := rOf_ok hD h0
  obtain ⟨⟨a0, a1⟩, ⟨a2, a3⟩, a4⟩ := rtB_iff.1 h1
  rw [e]
  generalize rOf N D = r at *
  obtain ⟨n, d, e'⟩ := r
  simp only at *
  exact ⟨n.toNat, d.toNat, by rw [h0]; congr 1 <;> omega, by omega, by omega, by omega, a4, h2⟩
theorem rtB_nat {N D : Nat} (hN : N ≤ 1000000000) (hD : 0 < D) (hD2 : D ≤ 1000000000) (hg : N.gcd D = 1) : rtB (N : Int) (D : Int) = true :=
  rtB_iff.2 ⟨by omega, by omega, by simpa using hg⟩

/-- how often the runner turns in a minute -/
def ruR (ms : List Mh) (t m : Int) : Rr := if trB ms then (if inB t 0 1000000 && inB m 1 1000000 then (if (rtR ms).e = 0 then rOf ((rtR ms).n.toNat * t.toNat) ((rtR ms).d.toNat * m.toNat) else bad 2) else bad 1) else bad 70
/-- how often the first shaft turns for so many knocks -/
def tiR (ms : List Mh) (h d k n : Int) : Rr := if trB ms then (if feedB h d k then (if inB n 0 1000000 then (if (rtR ms).e = 0 then rOf (n.toNat * (rtR ms).d.toNat) (k.toNat * (rtR ms).n.toNat) else bad 2) else bad 1) else bad 33) else bad 70

set_option maxRecDepth 100000 in
set_option maxHeartbeats 4000000 in
theorem Runs_c (ms : List Mh) (t m : Int) (v : Value) (w : World) (h : IsTr w w.heap.size v ms) : Calls Try.prog 49 #[v, .int .i64 t, .int .i64 m] w fun e w' => e = .returned (rrV (ruR ms t m)) ∧ Below w.heap.size w w' := by
  have HT := Lib.hid h
  obtain ⟨s, rfl, A, c, rfl, -, -⟩ := h
  obtain ⟨n, hn⟩ : ∃ n, ms.length = n := ⟨_, rfl⟩
  have HN := Lib.hid hn
  rw [hn] at HT ⊢
  clear hn
  go_enter Try.func49, Try.ntmps49
  go_wp2_with fail
  obtain ⟨W1, hW2⟩ : ∃ X, ((w.alloc (.cells #[.slice A n c] 35)).alloc (.cells #[.int .i64 0, .int .i64 0] 23)) = X := ⟨_, rfl⟩
  have B3 := Lib.hid (show Below w.heap.size w W1 by rw [← hW2]; exact (((Below.refl w.heap.size w).alloc (Nat.le_refl _) _).alloc (by first | (simp; done) | (simp; omega)) _))
  have X4 := Lib.hid (show Box W1 (w.heap.size) 35 #[.slice A n c] by rw [← hW2]; exact (Box.made w 35 #[.slice A n c]).alloc _)
  have X5 := Lib.hid (show Box W1 (w.heap.size + 1) 23 #[.int .i64 0, .int .i64 0] by
    have hz := Box.made (w.alloc (.cells #[.slice A n c] 35)) 23 #[.int .i64 0, .int .i64 0]
    rw [World.size_alloc] at hz
    rw [← hW2]; exact hz)
  have C6 := Lib.hid (HT.out.later B3.out)
  rw [hW2]
  clear hW2
  have q7 : W1.cell? ⟨w.heap.size, 0, none⟩ = some (.slice A n c) := X4.out.cell 0
  have q8 : W1.cell? ⟨w.heap.size + 1, 0, none⟩ = some (.int .i64 0) := X5.out.cell 0
  have q9 : W1.cell? ⟨w.heap.size + 1, 1, none⟩ = some (.int .i64 0) := X5.out.cell 1
  have fz10 : ∀ o, W1.frozen? ⟨w.heap.size + 1, o, none⟩ = false := fun o => X5.out.free o
  go_wp2_with fail
  refine (ValidTrain_c ms _ _ C6.out).mono ?_; rintro e v11 ⟨rfl, hb12⟩
  have X13 := Lib.hid (X4.out.later hb12)
  have X14 := Lib.hid (X5.out.later hb12)
  have C15 := Lib.hid (C6.out.later hb12)
  have B16 := Lib.hid (B3.out.trans (hb12.mono B3.out.size))
  clear hb12
  clear q7 q8 q9 fz10
  have q17 : v11.cell? ⟨w.heap.size, 0, none⟩ = some (.slice A n c) := X13.out.cell 0
  have q18 : v11.cell? ⟨w.heap.size + 1, 0, none⟩ = some (.int .i64 0) := X14.out.cell 0
  have q19 : v11.cell? ⟨w.heap.size + 1, 1, none⟩ = some (.int .i64 0) := X14.out.cell 1
  have fz20 : ∀ o, v11.frozen? ⟨w.heap.size + 1, o, none⟩ = false := fun o => X14.out.free o
  cases hv : trB ms
  · have HR := Lib.hid (show ruR ms t m = ⟨0, 0, 70⟩ by unfold ruR; rw [hv]; rfl)
    clear hv
    go_wp2_with fail
    exact endRr Try.results49 rfl rfl HR.out X14.out (by omega) B16.out
  · have HV := Lib.hid hv
    clear hv
    go_wp2_with fail
    refine (isCount_c t _).mono ?_; rintro e v21 ⟨rfl, rfl⟩
    cases ht : inB t 0 1000000
    · have HR := Lib.hid (show ruR ms t m = ⟨0, 0, 1⟩ by unfold ruR; rw [HV.out, ht]; rfl)
      clear ht
      go_wp2_with fail
      exact endRr Try.results49 rfl rfl HR.out X14.out (by omega) B16.out
    · have H1 := Lib.hid ht
      clear ht
      go_wp2_with fail
      refine (fromTo_c m 1 1000000 _).mono ?_; rintro e v22 ⟨rfl, rfl⟩
      cases hm : inB m 1 1000000
      · have HR := Lib.hid (show ruR ms t m = ⟨0, 0, 1⟩ by unfold ruR; rw [HV.out, H1.out, hm]; rfl)
        clear hm
        go_wp2_with fail
        exact endRr Try.results49 rfl rfl HR.out X14.out (by omega) B16.out
      · have H2 := Lib.hid hm
        clear hm
        obtain ⟨T, rfl⟩ : ∃ T : Nat, t = (T : Int) := ⟨t.toNat, by have := inB_iff.1 H1.out; omega⟩
        obtain ⟨M, rfl⟩ : ∃ M : Nat, m = (M : Int) := ⟨m.toNat, by have := inB_iff.1 H2.out; omega⟩
        have HTM := Lib.hid (show T ≤ 1000000 ∧ 0 < M ∧ M ≤ 1000000 by have := inB_iff.1 H1.out; have := inB_iff.1 H2.out; omega)
        have HRU := Lib.hid (show ruR ms (T : Int) (M : Int) = if (rtR ms).e = 0 then rOf ((rtR ms).n.toNat * T) ((rtR ms).d.toNat * M) else bad 2 by unfold ruR; rw [HV.out, H1.out, H2.out]; rfl)
        go_wp2_with fail
        refine (RatioOf_c ms _ _ C15.out).mono ?_; rintro e v23 ⟨rfl, hb24⟩
        have X25 := Lib.hid (X13.out.later hb24)
        have X26 := Lib.hid (X14.out.later hb24)
        have C27 := Lib.hid (C15.out.later hb24)
        have B28 := Lib.hid (B16.out.trans (hb24.mono B16.out.size))
        clear hb24
        clear q17 q18 q19 fz20
        have q29 : v23.cell? ⟨w.heap.size, 0, none⟩ = some (.slice A n c) := X25.out.cell 0
        have q30 : v23.cell? ⟨w.heap.size + 1, 0, none⟩ = some (.int .i64 0) := X26.out.cell 0
        have q31 : v23.cell? ⟨w.heap.size + 1, 1, none⟩ = some (.int .i64 0) := X26.out.cell 1
        have fz32 : ∀ o, v23.frozen? ⟨w.heap.size + 1, o, none⟩ = false := fun o => X26.out.free o
        rcases rt_two HV.out with ⟨he, hr⟩ | ⟨he, N, D, hr, n0, n1, d0, d1, hg, his⟩
        · have HR := Lib.hid (show ruR ms (T : Int) (M : Int) = ⟨0, 0, 2⟩ by rw [HRU.out, if_neg he]; rfl)
          rw [hr]
          have e1 : ((2 : Int) != 0) = true := by decide
          clear he hr
          have X33 := Lib.hid (X25.out.alloc (.cells #[.int .i64 0, .int .i64 0] 23))
          have X34 := Lib.hid (X26.out.alloc (.cells #[.int .i64 0, .int .i64 0] 23))
          have C35 := Lib.hid (C27.out.later ((Below.refl v23.heap.size v23).alloc (Nat.le_refl _) (.cells #[.int .i64 0, .int .i64 0] 23)))
          have B36 := Lib.hid (B28.out.alloc B28.out.size (.cells #[.int .i64 0, .int .i64 0] 23))
          have X37 := Lib.hid (Box.made v23 23 #[.int .i64 0, .int .i64 0])
          have q38 : (v23.alloc (.cells #[.int .i64 0, .int .i64 0] 23)).cell? ⟨w.heap.size, 0, none⟩ = some (.slice A n c) := X33.out.cell 0
          have q39 : (v23.alloc (.cells #[.int .i64 0, .int .i64 0] 23)).cell? ⟨w.heap.size + 1, 0, none⟩ = some (.int .i64 0) := X34.out.cell 0
          have q40 : (v23.alloc (.cells #[.int .i64 0, .int .i64 0] 23)).cell? ⟨w.heap.size + 1, 1, none⟩ = some (.int .i64 0) := X34.out.cell 1
          have fz41 : ∀ o, (v23.alloc (.cells #[.int .i64 0, .int .i64 0] 23)).frozen? ⟨w.heap.size + 1, o, none⟩ = false := fun o => X34.out.free o
          have q42 : (v23.alloc (.cells #[.int .i64 0, .int .i64 0] 23)).cell? ⟨v23.heap.size, 0, none⟩ = some (.int .i64 0) := X37.out.cell 0
          have q43 : (v23.alloc (.cells #[.int .i64 0, .int .i64 0] 23)).cell? ⟨v23.heap.size, 1, none⟩ = some (.int .i64 0) := X37.out.cell 1
          go_wp2_with fail
          exact endRr Try.results49 rfl rfl HR.out X34.out (by omega) B36.out
        · have HR := Lib.hid (show ruR ms (T : Int) (M : Int) = rOf (N * T) (D * M) by rw [HRU.out, if_pos he, hr]; rfl)
          have HND := Lib.hid (show 0 < N ∧ N ≤ 1000000000 ∧ 0 < D ∧ D ≤ 1000000000 ∧ N.gcd D = 1 from ⟨n0, n1, d0, d1, hg⟩)
          rw [hr]
          have e1 : ((0 : Int) != 0) = false := by decide
          clear he hr n0 n1 d0 d1 hg his
          have X44 := Lib.hid (X25.out.alloc (.cells #[.int .i64 (N : Int), .int .i64 (D : Int)] 23))
          have X45 := Lib.hid (X26.out.alloc (.cells #[.int .i64 (N : Int), .int .i64 (D : Int)] 23))
          have C46 := Lib.hid (C27.out.later ((Below.refl v23.heap.size v23).alloc (Nat.le_refl _) (.cells #[.int .i64 (N : Int), .int .i64 (D : Int)] 23)))
          have B47 := Lib.hid (B28.out.alloc B28.out.size (.cells #[.int .i64 (N : Int), .int .i64 (D : Int)] 23))
          have X48 := Lib.hid (Box.made v23 23 #[.int .i64 (N : Int), .int .i64 (D : Int)])
          have q49 : (v23.alloc (.cells #[.int .i64 (N : Int), .int .i64 (D : Int)] 23)).cell? ⟨w.heap.size, 0, none⟩ = some (.slice A n c) := X44.out.cell 0
          have q50 : (v23.alloc (.cells #[.int .i64 (N : Int), .int .i64 (D : Int)] 23)).cell? ⟨w.heap.size + 1, 0, none⟩ = some (.int .i64 0) := X45.out.cell 0
          have q51 : (v23.alloc (.cells #[.int .i64 (N : Int), .int .i64 (D : Int)] 23)).cell? ⟨w.heap.size + 1, 1, none⟩ = some (.int .i64 0) := X45.out.cell 1
          have fz52 : ∀ o, (v23.alloc (.cells #[.int .i64 (N : Int), .int .i64 (D : Int)] 23)).frozen? ⟨w.heap.size + 1, o, none⟩ = false := fun o => X45.out.free o
          have q53 : (v23.alloc (.cells #[.int .i64 (N : Int), .int .i64 (D : Int)] 23)).cell? ⟨v23.heap.size, 0, none⟩ = some (.int .i64 (N : Int)) := X48.out.cell 0
          have q54 : (v23.alloc (.cells #[.int .i64 (N : Int), .int .i64 (D : Int)] 23)).cell? ⟨v23.heap.size, 1, none⟩ = some (.int .i64 (D : Int)) := X48.out.cell 1
          have HF := Lib.hid (fr2 N D T M)
          have HO := Lib.hid (frOk2 (a := N) (b := D) (c := T) (d := M) (by have := HND.out; omega) HND.out.2.2.1 (by have := HND.out; omega) (by have := HTM.out; omega) HTM.out.2.1 (by have := HTM.out; omega))
          have HFR := Lib.hid (frs2 (v23.alloc (.cells #[.int .i64 (N : Int), .int .i64 (D : Int)] 23)) 75 N D T M _ (World.size_alloc _ _))
          have X55 := Lib.hid (X44.out.alloc (.cells #[.int .i64 (N : Int), .int .i64 (D : Int), .int .i64 (T : Int), .int .i64 (M : Int)] 75))
          have X56 := Lib.hid (X45.out.alloc (.cells #[.int .i64 (N : Int), .int .i64 (D : Int), .int .i64 (T : Int), .int .i64 (M : Int)] 75))
          have X57 := Lib.hid (X48.out.alloc (.cells #[.int .i64 (N : Int), .int .i64 (D : Int), .int .i64 (T : Int), .int .i64 (M : Int)] 75))
          have C58 := Lib.hid (C46.out.later ((Below.refl (v23.alloc (.cells #[.int .i64 (N : Int), .int .i64 (D : Int)] 23)).heap.size (v23.alloc (.cells #[.int .i64 (N : Int), .int .i64 (D : Int)] 23))).alloc (Nat.le_refl _) (.cells #[.int .i64 (N : Int), .int .i64 (D : Int), .int .i64 (T : Int), .int .i64 (M : Int)] 75)))
          have B59 := Lib.hid (B47.out.alloc B47.out.size (.cells #[.int .i64 (N : Int), .int .i64 (D : Int), .int .i64 (T : Int), .int .i64 (M : Int)] 75))
          have X60 := Lib.hid (Box.made (v23.alloc (.cells #[.int .i64 (N : Int), .int .i64 (D : Int)] 23)) 75 #[.int .i64 (N : Int), .int .i64 (D : Int), .int .i64 (T : Int), .int .i64 (M : Int)])
          have q61 : ((v23.alloc (.cells #[.int .i64 (N : Int), .int .i64 (D : Int)] 23)).alloc (.cells #[.int .i64 (N : Int), .int .i64 (D : Int), .int .i64 (T : Int), .int .i64 (M : Int)] 75)).cell? ⟨w.heap.size, 0, none⟩ = some (.slice A n c) := X55.out.cell 0
          have q62 : ((v23.alloc (.cells #[.int .i64 (N : Int), .int .i64 (D : Int)] 23)).alloc (.cells #[.int .i64 (N : Int), .int .i64 (D : Int), .int .i64 (T : Int), .int .i64 (M : Int)] 75)).cell? ⟨w.heap.size + 1, 0, none⟩ = some (.int .i64 0) := X56.out.cell 0
          have q63 : ((v23.alloc (.cells #[.int .i64 (N : Int), .int .i64 (D : Int)] 23)).alloc (.cells #[.int .i64 (N : Int), .int .i64 (D : Int), .int .i64 (T : Int), .int .i64 (M : Int)] 75)).cell? ⟨w.heap.size + 1, 1, none⟩ = some (.int .i64 0) := X56.out.cell 1
          have fz64 : ∀ o, ((v23.alloc (.cells #[.int .i64 (N : Int), .int .i64 (D : Int)] 23)).alloc (.cells #[.int .i64 (N : Int), .int .i64 (D : Int), .int .i64 (T : Int), .int .i64 (M : Int)] 75)).frozen? ⟨w.heap.size + 1, o, none⟩ = false := fun o => X56.out.free o
          have q65 : ((v23.alloc (.cells #[.int .i64 (N : Int), .int .i64 (D : Int)] 23)).alloc (.cells #[.int .i64 (N : Int), .int .i64 (D : Int), .int .i64 (T : Int), .int .i64 (M : Int)] 75)).cell? ⟨v23.heap.size, 0, none⟩ = some (.int .i64 (N : Int)) := X57.out.cell 0
          have q66 : ((v23.alloc (.cells #[.int .i64 (N : Int), .int .i64 (D : Int)] 23)).alloc (.cells #[.int .i64 (N : Int), .int .i64 (D : Int), .int .i64 (T : Int), .int .i64 (M : Int)] 75)).cell? ⟨v23.heap.size, 1, none⟩ = some (.int .i64 (D : Int)) := X57.out.cell 1
          have q67 : ((v23.alloc (.cells #[.int .i64 (N : Int), .int .i64 (D : Int)] 23)).alloc (.cells #[.int .i64 (N : Int), .int .i64 (D : Int), .int .i64 (T : Int), .int .i64 (M : Int)] 75)).cell? ⟨(v23.alloc (.cells #[.int .i64 (N : Int), .int .i64 (D : Int)] 23)).heap.size, 0, none⟩ = some (.int .i64 (N : Int)) := X60.out.cell 0
          have q68 : ((v23.alloc (.cells #[.int .i64 (N : Int), .int .i64 (D : Int)] 23)).alloc (.cells #[.int .i64 (N : Int), .int .i64 (D : Int), .int .i64 (T : Int), .int .i64 (M : Int)] 75)).cell? ⟨(v23.alloc (.cells #[.int .i64 (N : Int), .int .i64 (D : Int)] 23)).heap.size, 1, none⟩ = some (.int .i64 (D : Int)) := X60.out.cell 1
          have q69 : ((v23.alloc (.cells #[.int .i64 (N : Int), .int .i64 (D : Int)] 23)).alloc (.cells #[.int .i64 (N : Int), .int .i64 (D : Int), .int .i64 (T : Int), .int .i64 (M : Int)] 75)).cell? ⟨(v23.alloc (.cells #[.int .i64 (N : Int), .int .i64 (D : Int)] 23)).heap.size, 2, none⟩ = some (.int .i64 (T : Int)) := X60.out.cell 2
          have q70 : ((v23.alloc (.cells #[.int .i64 (N : Int), .int .i64 (D : Int)] 23)).alloc (.cells #[.int .i64 (N : Int), .int .i64 (D : Int), .int .i64 (T : Int), .int .i64 (M : Int)] 75)).cell? ⟨(v23.alloc (.cells #[.int .i64 (N : Int), .int .i64 (D : Int)] 23)).heap.size, 3, none⟩ = some (.int .i64 (M : Int)) := X60.out.cell 3
          go_wp2_with fail
          refine (product_c [(N, D), (T, M)] _ _ HFR.out HO.out).mono ?_; rintro e v71 ⟨rfl, hb72⟩
          have X73 := Lib.hid (X55.out.later hb72)
          have X74 := Lib.hid (X56.out.later hb72)
          have X75 := Lib.hid (X57.out.later hb72)
          have X76 := Lib.hid (X60.out.later hb72)
          have C77 := Lib.hid (C58.out.later hb72)
          have B78 := Lib.hid (B59.out.trans (hb72.mono B59.out.size))
          clear hb72
          rw [HF.out.1, HF.out.2]
          clear q61 q62 q63 fz64 q65 q66 q67 q68 q69 q70 q49 q50 q51 fz52 q53 q54 q29 q30 q31 fz32
          have q79 : v71.cell? ⟨w.heap.size, 0, none⟩ = some (.slice A n c) := X73.out.cell 0
          have q80 : v71.cell? ⟨w.heap.size + 1, 0, none⟩ = some (.int .i64 0) := X74.out.cell 0
          have q81 : v71.cell? ⟨w.heap.size + 1, 1, none⟩ = some (.int .i64 0) := X74.out.cell 1
          have fz82 : ∀ o, v71.frozen? ⟨w.heap.size + 1, o, none⟩ = false := fun o => X74.out.free o
          have q83 : v71.cell? ⟨v23.heap.size, 0, none⟩ = some (.int .i64 (N : Int)) := X75.out.cell 0
          have q84 : v71.cell? ⟨v23.heap.size, 1, none⟩ = some (.int .i64 (D : Int)) := X75.out.cell 1
          have q85 : v71.cell? ⟨(v23.alloc (.cells #[.int .i64 (N : Int), .int .i64 (D : Int)] 23)).heap.size, 0, none⟩ = some (.int .i64 (N : Int)) := X76.out.cell 0
          have q86 : v71.cell? ⟨(v23.alloc (.cells #[.int .i64 (N : Int), .int .i64 (D : Int)] 23)).heap.size, 1, none⟩ = some (.int .i64 (D : Int)) := X76.out.cell 1
          have q87 : v71.cell? ⟨(v23.alloc (.cells #[.int .i64 (N : Int), .int .i64 (D : Int)] 23)).heap.size, 2, none⟩ = some (.int .i64 (T : Int)) := X76.out.cell 2
          have q88 : v71.cell? ⟨(v23.alloc (.cells #[.int .i64 (N : Int), .int .i64 (D : Int)] 23)).heap.size, 3, none⟩ = some (.int .i64 (M : Int)) := X76.out.cell 3
          go_wp2_with fail
          exact endRr Try.results49 rfl rfl HR.out X74.out (by omega) B78.out

set_option maxRecDepth 100000 in
set_option maxHeartbeats 4000000 in
theorem rRuns_c (ms : List Mh) (t m : Int) (v : Value) (w : World) (h : IsTr w w.heap.size v ms) (hl : ms.length ≤ 100) : Calls Try.prog 50 #[v, .int .i64 t, .int .i64 m] w fun e w' => e = .returned (rrV (ruR ms t m)) ∧ Below w.heap.size w w' := by
  have HT := Lib.hid h
  have HL := Lib.hid hl
  clear hl
  obtain ⟨s, rfl, A, c, rfl, -, -⟩ := h
  obtain ⟨n, hn⟩ : ∃ n, ms.length = n := ⟨_, rfl⟩
  have HN := Lib.hid hn
  rw [hn] at HT ⊢
  clear hn
  go_enter Try.func50, Try.ntmps50
  go_wp2_with fail
  obtain ⟨W89, hW90⟩ : ∃ X, ((w.alloc (.cells #[.slice A n c] 35)).alloc (.cells #[.int .i64 0, .int .i64 0] 23)) = X := ⟨_, rfl⟩
  have B91 := Lib.hid (show Below w.heap.size w W89 by rw [← hW90]; exact (((Below.refl w.heap.size w).alloc (Nat.le_refl _) _).alloc (by first | (simp; done) | (simp; omega)) _))
  have X92 := Lib.hid (show Box W89 (w.heap.size) 35 #[.slice A n c] by rw [← hW90]; exact (Box.made w 35 #[.slice A n c]).alloc _)
  have X93 := Lib.hid (show Box W89 (w.heap.size + 1) 23 #[.int .i64 0, .int .i64 0] by
    have hz := Box.made (w.alloc (.cells #[.slice A n c] 35)) 23 #[.int .i64 0, .int .i64 0]
    rw [World.size_alloc] at hz
    rw [← hW90]; exact hz)
  have C94 := Lib.hid (HT.out.later B91.out)
  rw [hW90]
  clear hW90
  have q95 : W89.cell? ⟨w.heap.size, 0, none⟩ = some (.slice A n c) := X92.out.cell 0
  have q96 : W89.cell? ⟨w.heap.size + 1, 0, none⟩ = some (.int .i64 0) := X93.out.cell 0
  have q97 : W89.cell? ⟨w.heap.size + 1, 1, none⟩ = some (.int .i64 0) := X93.out.cell 1
  have fz98 : ∀ o, W89.frozen? ⟨w.heap.size + 1, o, none⟩ = false := fun o => X93.out.free o
  go_wp2_with fail
  refine (rValidTrain_c ms _ _ C94.out HL.out).mono ?_; rintro e v99 ⟨rfl, hb100⟩
  have X101 := Lib.hid (X92.out.later hb100)
  have X102 := Lib.hid (X93.out.later hb100)
  have C103 := Lib.hid (C94.out.later hb100)
  have B104 := Lib.hid (B91.out.trans (hb100.mono B91.out.size))
  clear hb100
  clear q95 q96 q97 fz98
  have q105 : v99.cell? ⟨w.heap.size, 0, none⟩ = some (.slice A n c) := X101.out.cell 0
  have q106 : v99.cell? ⟨w.heap.size + 1, 0, none⟩ = some (.int .i64 0) := X102.out.cell 0
  have q107 : v99.cell? ⟨w.heap.size + 1, 1, none⟩ = some (.int .i64 0) := X102.out.cell 1
  have fz108 : ∀ o, v99.frozen? ⟨w.heap.size + 1, o, none⟩ = false := fun o => X102.out.free o
  cases hv : trB ms
  · have HR := Lib.hid (show ruR ms t m = ⟨0, 0, 70⟩ by unfold ruR; rw [hv]; rfl)
    clear hv
    go_wp2_with fail
    exact endRr Try.results50 rfl rfl HR.out X102.out (by omega) B104.out
  · have HV := Lib.hid hv
    clear hv
    go_wp2_with fail
    refine (within_c t 0 1000000 _).mono ?_; rintro e v109 ⟨rfl, rfl⟩
    cases ht : inB t 0 1000000
    · have HR := Lib.hid (show ruR ms t m = ⟨0, 0, 1⟩ by unfold ruR; rw [HV.out, ht]; rfl)
      clear ht
      go_wp2_with fail
      exact endRr Try.results50 rfl rfl HR.out X102.out (by omega) B104.out
    · have H1 := Lib.hid ht
      clear ht
      go_wp2_with fail
      refine (within_c m 1 1000000 _).mono ?_; rintro e v110 ⟨rfl, rfl⟩
      cases hm : inB m 1 1000000
      · have HR := Lib.hid (show ruR ms t m = ⟨0, 0, 1⟩ by unfold ruR; rw [HV.out, H1.out, hm]; rfl)
        clear hm
        go_wp2_with fail
        exact endRr Try.results50 rfl rfl HR.out X102.out (by omega) B104.out
      · have H2 := Lib.hid hm
        clear hm
        obtain ⟨T, rfl⟩ : ∃ T : Nat, t = (T : Int) := ⟨t.toNat, by have := inB_iff.1 H1.out; omega⟩
        obtain ⟨M, rfl⟩ : ∃ M : Nat, m = (M : Int) := ⟨m.toNat, by have := inB_iff.1 H2.out; omega⟩
        have HTM := Lib.hid (show T ≤ 1000000 ∧ 0 < M ∧ M ≤ 1000000 by have := inB_iff.1 H1.out; have := inB_iff.1 H2.out; omega)
        have HRU := Lib.hid (show ruR ms (T : Int) (M : Int) = if (rtR ms).e = 0 then rOf ((rtR ms).n.toNat * T) ((rtR ms).d.toNat * M) else bad 2 by unfold ruR; rw [HV.out, H1.out, H2.out]; rfl)
        go_wp2_with fail
        refine (rRatioOf_c ms _ _ C103.out HL.out).mono ?_; rintro e v111 ⟨rfl, hb112⟩
        have X113 := Lib.hid (X101.out.later hb112)
        have X114 := Lib.hid (X102.out.later hb112)
        have C115 := Lib.hid (C103.out.later hb112)
        have B116 := Lib.hid (B104.out.trans (hb112.mono B104.out.size))
        clear hb112
        clear q105 q106 q107 fz108
        have q117 : v111.cell? ⟨w.heap.size, 0, none⟩ = some (.slice A n c) := X113.out.cell 0
        have q118 : v111.cell? ⟨w.heap.size + 1, 0, none⟩ = some (.int .i64 0) := X114.out.cell 0
        have q119 : v111.cell? ⟨w.heap.size + 1, 1, none⟩ = some (.int .i64 0) := X114.out.cell 1
        have fz120 : ∀ o, v111.frozen? ⟨w.heap.size + 1, o, none⟩ = false := fun o => X114.out.free o
        rcases rt_two HV.out with ⟨he, hr⟩ | ⟨he, N, D, hr, n0, n1, d0, d1, hg, his⟩
        · have HR := Lib.hid (show ruR ms (T : Int) (M : Int) = ⟨0, 0, 2⟩ by rw [HRU.out, if_neg he]; rfl)
          rw [hr]
          have e1 : ((2 : Int) != 0) = true := by decide
          clear he hr
          have X121 := Lib.hid (X113.out.alloc (.cells #[.int .i64 0, .int .i64 0] 23))
          have X122 := Lib.hid (X114.out.alloc (.cells #[.int .i64 0, .int .i64 0] 23))
          have C123 := Lib.hid (C115.out.later ((Below.refl v111.heap.size v111).alloc (Nat.le_refl _) (.cells #[.int .i64 0, .int .i64 0] 23)))
          have B124 := Lib.hid (B116.out.alloc B116.out.size (.cells #[.int .i64 0, .int .i64 0] 23))
          have X125 := Lib.hid (Box.made v111 23 #[.int .i64 0, .int .i64 0])
          have q126 : (v111.alloc (.cells #[.int .i64 0, .int .i64 0] 23)).cell? ⟨w.heap.size, 0, none⟩ = some (.slice A n c) := X121.out.cell 0
          have q127 : (v111.alloc (.cells #[.int .i64 0, .int .i64 0] 23)).cell? ⟨w.heap.size + 1, 0, none⟩ = some (.int .i64 0) := X122.out.cell 0
          have q128 : (v111.alloc (.cells #[.int .i64 0, .int .i64 0] 23)).cell? ⟨w.heap.size + 1, 1, none⟩ = some (.int .i64 0) := X122.out.cell 1
          have fz129 : ∀ o, (v111.alloc (.cells #[.int .i64 0, .int .i64 0] 23)).frozen? ⟨w.heap.size + 1, o, none⟩ = false := fun o => X122.out.free o
          have q130 : (v111.alloc (.cells #[.int .i64 0, .int .i64 0] 23)).cell? ⟨v111.heap.size, 0, none⟩ = some (.int .i64 0) := X125.out.cell 0
          have q131 : (v111.alloc (.cells #[.int .i64 0, .int .i64 0] 23)).cell? ⟨v111.heap.size, 1, none⟩ = some (.int .i64 0) := X125.out.cell 1
          go_wp2_with fail
          exact endRr Try.results50 rfl rfl HR.out X122.out (by omega) B124.out
        · have HR := Lib.hid (show ruR ms (T : Int) (M : Int) = rOf (N * T) (D * M) by rw [HRU.out, if_pos he, hr]; rfl)
          have HND := Lib.hid (show 0 < N ∧ N ≤ 1000000000 ∧ 0 < D ∧ D ≤ 1000000000 ∧ N.gcd D = 1 from ⟨n0, n1, d0, d1, hg⟩)
          rw [hr]
          have e1 : ((0 : Int) != 0) = false := by decide
          clear he hr n0 n1 d0 d1 hg his
          have X132 := Lib.hid (X113.out.alloc (.cells #[.int .i64 (N : Int), .int .i64 (D : Int)] 23))
          have X133 := Lib.hid (X114.out.alloc (.cells #[.int .i64 (N : Int), .int .i64 (D : Int)] 23))
          have C134 := Lib.hid (C115.out.later ((Below.refl v111.heap.size v111).alloc (Nat.le_refl _) (.cells #[.int .i64 (N : Int), .int .i64 (D : Int)] 23)))
          have B135 := Lib.hid (B116.out.alloc B116.out.size (.cells #[.int .i64 (N : Int), .int .i64 (D : Int)] 23))
          have X136 := Lib.hid (Box.made v111 23 #[.int .i64 (N : Int), .int .i64 (D : Int)])
          have q137 : (v111.alloc (.cells #[.int .i64 (N : Int), .int .i64 (D : Int)] 23)).cell? ⟨w.heap.size, 0, none⟩ = some (.slice A n c) := X132.out.cell 0
          have q138 : (v111.alloc (.cells #[.int .i64 (N : Int), .int .i64 (D : Int)] 23)).cell? ⟨w.heap.size + 1, 0, none⟩ = some (.int .i64 0) := X133.out.cell 0
          have q139 : (v111.alloc (.cells #[.int .i64 (N : Int), .int .i64 (D : Int)] 23)).cell? ⟨w.heap.size + 1, 1, none⟩ = some (.int .i64 0) := X133.out.cell 1
          have fz140 : ∀ o, (v111.alloc (.cells #[.int .i64 (N : Int), .int .i64 (D : Int)] 23)).frozen? ⟨w.heap.size + 1, o, none⟩ = false := fun o => X133.out.free o
          have q141 : (v111.alloc (.cells #[.int .i64 (N : Int), .int .i64 (D : Int)] 23)).cell? ⟨v111.heap.size, 0, none⟩ = some (.int .i64 (N : Int)) := X136.out.cell 0
          have q142 : (v111.alloc (.cells #[.int .i64 (N : Int), .int .i64 (D : Int)] 23)).cell? ⟨v111.heap.size, 1, none⟩ = some (.int .i64 (D : Int)) := X136.out.cell 1
          go_wp2_with fail
          refine (rReduce_c (T : Int) (M : Int) _ (by have := HTM.out; omega) (by have := HTM.out; omega)).mono ?_; rintro e v143 ⟨rfl, hb144⟩
          have X145 := Lib.hid (X132.out.later hb144)
          have X146 := Lib.hid (X133.out.later hb144)
          have X147 := Lib.hid (X136.out.later hb144)
          have C148 := Lib.hid (C134.out.later hb144)
          have B149 := Lib.hid (B135.out.trans (hb144.mono B135.out.size))
          clear hb144
          clear q137 q138 q139 fz140 q141 q142 q117 q118 q119 fz120
          have q150 : v143.cell? ⟨w.heap.size, 0, none⟩ = some (.slice A n c) := X145.out.cell 0
          have q151 : v143.cell? ⟨w.heap.size + 1, 0, none⟩ = some (.int .i64 0) := X146.out.cell 0
          have q152 : v143.cell? ⟨w.heap.size + 1, 1, none⟩ = some (.int .i64 0) := X146.out.cell 1
          have fz153 : ∀ o, v143.frozen? ⟨w.heap.size + 1, o, none⟩ = false := fun o => X146.out.free o
          have q154 : v143.cell? ⟨v111.heap.size, 0, none⟩ = some (.int .i64 (N : Int)) := X147.out.cell 0
          have q155 : v143.cell? ⟨v111.heap.size, 1, none⟩ = some (.int .i64 (D : Int)) := X147.out.cell 1
          obtain ⟨a, b, hab, a1, b0, b1, hg, his⟩ := reR_small (N := T) (D := M) HTM.out.2.1 (by have := HTM.out; omega) (by have := HTM.out; omega)
          rw [hab]
          have HTT := Lib.hid (show tmR (N : Int) (D : Int) (a : Int) (b : Int) = rOf (N * T) (D * M) by
            rw [tm_val (rtB_nat HND.out.2.1 HND.out.2.2.1 HND.out.2.2.2.1 HND.out.2.2.2.2) (rtB_nat a1 b0 b1 hg)]
            exact rOf_is ((Is.self HND.out.2.2.1).mul his))
          clear hab a1 b0 b1 hg his
          have X156 := Lib.hid (X145.out.alloc (.cells #[.int .i64 (a : Int), .int .i64 (b : Int)] 23))
          have X157 := Lib.hid (X146.out.alloc (.cells #[.int .i64 (a : Int), .int .i64 (b : Int)] 23))
          have X158 := Lib.hid (X147.out.alloc (.cells #[.int .i64 (a : Int), .int .i64 (b : Int)] 23))
          have C159 := Lib.hid (C148.out.later ((Below.refl v143.heap.size v143).alloc (Nat.le_refl _) (.cells #[.int .i64 (a : Int), .int .i64 (b : Int)] 23)))
          have B160 := Lib.hid (B149.out.alloc B149.out.size (.cells #[.int .i64 (a : Int), .int .i64 (b : Int)] 23))
          have X161 := Lib.hid (Box.made v143 23 #[.int .i64 (a : Int), .int .i64 (b : Int)])
          have q162 : (v143.alloc (.cells #[.int .i64 (a : Int), .int .i64 (b : Int)] 23)).cell? ⟨w.heap.size, 0, none⟩ = some (.slice A n c) := X156.out.cell 0
          have q163 : (v143.alloc (.cells #[.int .i64 (a : Int), .int .i64 (b : Int)] 23)).cell? ⟨w.heap.size + 1, 0, none⟩ = some (.int .i64 0) := X157.out.cell 0
          have q164 : (v143.alloc (.cells #[.int .i64 (a : Int), .int .i64 (b : Int)] 23)).cell? ⟨w.heap.size + 1, 1, none⟩ = some (.int .i64 0) := X157.out.cell 1
          have fz165 : ∀ o, (v143.alloc (.cells #[.int .i64 (a : Int), .int .i64 (b : Int)] 23)).frozen? ⟨w.heap.size + 1, o, none⟩ = false := fun o => X157.out.free o
          have q166 : (v143.alloc (.cells #[.int .i64 (a : Int), .int .i64 (b : Int)] 23)).cell? ⟨v111.heap.size, 0, none⟩ = some (.int .i64 (N : Int)) := X158.out.cell 0
          have q167 : (v143.alloc (.cells #[.int .i64 (a : Int), .int .i64 (b : Int)] 23)).cell? ⟨v111.heap.size, 1, none⟩ = some (.int .i64 (D : Int)) := X158.out.cell 1
          have q168 : (v143.alloc (.cells #[.int .i64 (a : Int), .int .i64 (b : Int)] 23)).cell? ⟨v143.heap.size, 0, none⟩ = some (.int .i64 (a : Int)) := X161.out.cell 0
          have q169 : (v143.alloc (.cells #[.int .i64 (a : Int), .int .i64 (b : Int)] 23)).cell? ⟨v143.heap.size, 1, none⟩ = some (.int .i64 (b : Int)) := X161.out.cell 1
          go_wp2_with fail
          refine (rTimes_c (N : Int) (D : Int) (a : Int) (b : Int) _).mono ?_; rintro e v170 ⟨rfl, hb171⟩
          have X172 := Lib.hid (X156.out.later hb171)
          have X173 := Lib.hid (X157.out.later hb171)
          have X174 := Lib.hid (X158.out.later hb171)
          have X175 := Lib.hid (X161.out.later hb171)
          have C176 := Lib.hid (C159.out.later hb171)
          have B177 := Lib.hid (B160.out.trans (hb171.mono B160.out.size))
          clear hb171
          rw [HTT.out]
          clear q162 q163 q164 fz165 q166 q167 q168 q169 q150 q151 q152 fz153 q154 q155
          have q178 : v170.cell? ⟨w.heap.size, 0, none⟩ = some (.slice A n c) := X172.out.cell 0
          have q179 : v170.cell? ⟨w.heap.size + 1, 0, none⟩ = some (.int .i64 0) := X173.out.cell 0
          have q180 : v170.cell? ⟨w.heap.size + 1, 1, none⟩ = some (.int .i64 0) := X173.out.cell 1
          have fz181 : ∀ o, v170.frozen? ⟨w.heap.size + 1, o, none⟩ = false := fun o => X173.out.free o
          have q182 : v170.cell? ⟨v111.heap.size, 0, none⟩ = some (.int .i64 (N : Int)) := X174.out.cell 0
          have q183 : v170.cell? ⟨v111.heap.size, 1, none⟩ = some (.int .i64 (D : Int)) := X174.out.cell 1
          have q184 : v170.cell? ⟨v143.heap.size, 0, none⟩ = some (.int .i64 (a : Int)) := X175.out.cell 0
          have q185 : v170.cell? ⟨v143.heap.size, 1, none⟩ = some (.int .i64 (b : Int)) := X175.out.cell 1
          go_wp2_with fail
          exact endRr Try.results50 rfl rfl HR.out X173.out (by omega) B177.out

end Go.Proofs.Ytmmfmanjajefcaa

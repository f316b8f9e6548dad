/- Layer 7: the runner of a train. -/
import Derived.Test.YtmmfmanjajefcaaLW
set_option linter.all false
namespace Go.Proofs.Ytmmfmanjajefcaa
open Go.RowKit

/-- the end of a function that hands back a span out of a box of its own -/
theorem endSb {fn : Func} {t u : Nat} {w wr : World} {g : Nat} {a b er : Int} {r : Rr} {tmps : Array Value} (hfn : fn.results = #[.cell t 52, .tmp u]) (ht : tmps[t]? = some (.pointer (some ⟨g, 0, none⟩))) (hu : tmps[u]? = some (.int .i64 er)) (hr : r = ⟨a, b, er⟩)
    (hb : Box wr g 52 #[.int .i64 a, .int .i64 b]) (hbel : Below w.heap.size w wr) :
    bodyPost Try.prog fn (fun e w' => e = .returned (rrV r) ∧ Below w.heap.size w w') Exit.ret { tmps, defers := [] } wr := by
  subst hr
  have q0 : wr.cell? ⟨g, 0, none⟩ = some (.int .i64 a) := hb.cell 0
  have q1 : wr.cell? ⟨g, 1, none⟩ = some (.int .i64 b) := hb.cell 1
  exact bodyPost_ret (v := .tuple #[.agg #[.int .i64 a, .int .i64 b], .int .i64 er]) (by simp [results, hfn, go_sem, ht, hu, q0, q1]) rfl ⟨rfl, hbel⟩
theorem endSr {fn : Func} {t u : Nat} {w wr : World} {g : Nat} {a b er : Int} {r : Rr} {tmps : Array Value} {z0 z1 : Value} (hfn : fn.results = #[.cell t 52, .tmp u]) (ht : tmps[t]? = some (.pointer (some ⟨g, 0, none⟩))) (hu : tmps[u]? = some (.int .i64 er)) (hr : r = ⟨a, b, er⟩)
    (hb : Box wr g 52 #[z0, z1]) (hg : w.heap.size ≤ g) (hbel : Below w.heap.size w wr) :
    bodyPost Try.prog fn (fun e w' => e = .returned (rrV r) ∧ Below w.heap.size w w') Exit.ret { tmps, defers := [] } ((wr.setCell ⟨g, 0, none⟩ (.int .i64 a)).setCell ⟨g, 1, none⟩ (.int .i64 b)) :=
  endSb hfn ht hu hr ((hb.put 0 (.int .i64 a)).put 1 (.int .i64 b)) ((hbel.setCell (p := ⟨g, 0, none⟩) hg _).setCell (p := ⟨g, 1, none⟩) hg _)
/-- the same of a runner -/
theorem endNb {fn : Func} {t u : Nat} {w wr : World} {g : Nat} {a b c d s er : Int} {v : Value} {tmps : Array Value} (hfn : fn.results = #[.cell t 94, .tmp u]) (ht : tmps[t]? = some (.pointer (some ⟨g, 0, none⟩))) (hu : tmps[u]? = some (.int .i64 er)) (hr : v = .tuple #[.agg #[.int .i64 a, .int .i64 b, .int .i64 c, .int .i64 d, .int .i64 s], .int .i64 er])
    (hb : Box wr g 94 #[.int .i64 a, .int .i64 b, .int .i64 c, .int .i64 d, .int .i64 s]) (hbel : Below w.heap.size w wr) :
    bodyPost Try.prog fn (fun e w' => e = .returned v ∧ Below w.heap.size w w') Exit.ret { tmps, defers := [] } wr := by
  subst hr
  have q0 : wr.cell? ⟨g, 0, none⟩ = some (.int .i64 a) := hb.cell 0
  have q1 : wr.cell? ⟨g, 1, none⟩ = some (.int .i64 b) := hb.cell 1
  have q2 : wr.cell? ⟨g, 2, none⟩ = some (.int .i64 c) := hb.cell 2
  have q3 : wr.cell? ⟨g, 3, none⟩ = some (.int .i64 d) := hb.cell 3
  have q4 : wr.cell? ⟨g, 4, none⟩ = some (.int .i64 s) := hb.cell 4
  exact bodyPost_ret (v := .tuple #[.agg #[.int .i64 a, .int .i64 b, .int .i64 c, .int .i64 d, .int .i64 s], .int .i64 er]) (by simp [results, hfn, go_sem, ht, hu, q0, q1, q2, q3, q4]) rfl ⟨rfl, hbel⟩
theorem endNr {fn : Func} {t u : Nat} {w wr : World} {g : Nat} {a b c d s er : Int} {v : Value} {tmps : Array Value} {z0 z1 z2 z3 z4 : Value} (hfn : fn.results = #[.cell t 94, .tmp u]) (ht : tmps[t]? = some (.pointer (some ⟨g, 0, none⟩))) (hu : tmps[u]? = some (.int .i64 er)) (hr : v = .tuple #[.agg #[.int .i64 a, .int .i64 b, .int .i64 c, .int .i64 d, .int .i64 s], .int .i64 er])
    (hb : Box wr g 94 #[z0, z1, z2, z3, z4]) (hg : w.heap.size ≤ g) (hbel : Below w.heap.size w wr) :
    bodyPost Try.prog fn (fun e w' => e = .returned v ∧ Below w.heap.size w w') Exit.ret { tmps, defers := [] } (((((wr.setCell ⟨g, 0, none⟩ (.int .i64 a)).setCell ⟨g, 1, none⟩ (.int .i64 b)).setCell ⟨g, 2, none⟩ (.int .i64 c)).setCell ⟨g, 3, none⟩ (.int .i64 d)).setCell ⟨g, 4, none⟩ (.int .i64 s)) :=
  endNb hfn ht hu hr (((((hb.put 0 (.int .i64 a)).put 1 (.int .i64 b)).put 2 (.int .i64 c)).put 3 (.int .i64 d)).put 4 (.int .i64 s)) (((((hbel.setCell (p := ⟨g, 0, none⟩) hg _).setCell (p := ⟨g, 1, none⟩) hg _).setCell (p := ⟨g, 2, none⟩) hg _).setCell (p := ⟨g, 3, none⟩) hg _).setCell (p := ⟨g, 4, none⟩) hg _)

/-- the play of a train in whole numbers -/
def plN (ms : List Mh) : Nat × Nat := ((playR ms).n.toNat, (playR ms).d.toNat)
theorem plF_two {l : List Mh} : ∀ {n d : Nat}, RtV n d → (l.all mB) = true → ((plF l n d).e ≠ 0 ∧ plF l n d = ⟨0, 0, 2⟩) ∨ ((plF l n d).e = 0 ∧ ∃ a b : Nat, plF l n d = ⟨(a : Int), (b : Int), 0⟩ ∧ RtV a b) := by
  induction l with
  | nil => intro n d h _; exact .inr ⟨rfl, n, d, rfl, h⟩
  | cons m l ih =>
    intro n d h ha
    rw [List.all_cons, Bool.and_eq_true] at ha
    unfold plF
    rcases plS_two h ha.1 with ⟨h1, h2⟩ | ⟨h1, a, b, h2, h3⟩
    · rw [if_neg h1]; exact .inl ⟨by decide, rfl⟩
    · rw [if_pos h1, h2]
      simp only [Int.toNat_natCast]
      exact ih h3 ha.2
theorem play_two {ms : List Mh} (hv : trB ms = true) : ((playR ms).e ≠ 0 ∧ playR ms = ⟨0, 0, 2⟩) ∨ ((playR ms).e = 0 ∧ playR ms = ⟨((plN ms).1 : Int), ((plN ms).2 : Int), 0⟩ ∧ RtV (plN ms).1 (plN ms).2) := by
  have h := plF_two (l := ms) (n := 0) (d := 1) ⟨by omega, by omega, by omega, by decide⟩ (tr_facts hv).2.2.1
  have e : playR ms = plF ms 0 1 := by unfold playR; rw [if_pos hv]
  unfold plN
  rw [← e] at h
  rcases h with h | ⟨h1, a, b, h2, h3⟩
  · exact .inl h
  · right
    rw [h2]
    exact ⟨rfl, rfl, h3⟩
/-- what is wrong with what is asked of a runner first -/
def rnE (ms : List Mh) (s t : Int) : Int := if trB ms then (if inB s 2 96 && inB t 0 1000000 then (if (trnR ms ms.length).e = 0 then (playR ms).e else 2) else 1) else 70
def rnV (ms : List Mh) (s t : Int) : Value := if rnE ms s t = 0 then .tuple #[.agg #[.int .i64 ((shN ms ms.length).1 : Int), .int .i64 ((shN ms ms.length).2 : Int), .int .i64 ((plN ms).1 : Int), .int .i64 ((plN ms).2 : Int), .int .i64 s], .int .i64 0] else .tuple #[.agg #[.int .i64 0, .int .i64 0, .int .i64 0, .int .i64 0, .int .i64 0], .int .i64 (rnE ms s t)]
/-- what stands behind an answer that is no error -/
structure RunOk (ms : List Mh) (s t : Int) (N D n d S T : Nat) : Prop where
  val : trB ms = true
  sec : s = (S : Int)
  tee : t = (T : Int)
  S2 : 2 ≤ S
  S96 : S ≤ 96
  T6 : T ≤ 1000000
  sh : shN ms ms.length = (N, D)
  pl : plN ms = (n, d)
  rt : RtV N D
  rp : RtV n d
  pos : 0 < N
  trn : trnR ms ms.length = ⟨(N : Int), (D : Int), 0⟩
  play : playR ms = ⟨(n : Int), (d : Int), 0⟩
theorem rn_two (ms : List Mh) (s t : Int) : (rnE ms s t ≠ 0 ∧ rnV ms s t = .tuple #[.agg #[.int .i64 0, .int .i64 0, .int .i64 0, .int .i64 0, .int .i64 0], .int .i64 (rnE ms s t)]) ∨ (rnE ms s t = 0 ∧ ∃ N D n d S T : Nat, rnV ms s t = .tuple #[.agg #[.int .i64 (N : Int), .int .i64 (D : Int), .int .i64 (n : Int), .int .i64 (d : Int), .int .i64 (S : Int)], .int .i64 0] ∧ RunOk ms s t N D n d S T) := by
  by_cases he : rnE ms s t = 0
  · right
    refine ⟨he, (shN ms ms.length).1, (shN ms ms.length).2, (plN ms).1, (plN ms).2, s.toNat, t.toNat, ?_⟩
    have e0 := he
    unfold rnE at he
    by_cases hv : trB ms = true
    · rw [if_pos hv] at he
      by_cases hb : (inB s 2 96 && inB t 0 1000000) = true
      · rw [if_pos hb] at he
        rw [Bool.and_eq_true] at hb
        have i1 := inB_iff.1 hb.1
        have i2 := inB_iff.1 hb.2
        rcases trn_two hv ms.length with ⟨h1, -⟩ | ⟨h1, h2, h3, h4, -⟩
        · rw [if_neg h1] at he; exact absurd he (by decide)
        · rw [if_pos h1] at he
          rcases play_two hv with ⟨k1, -⟩ | ⟨-, k2, k3⟩
          · exact absurd he k1
          · exact ⟨by unfold rnV; rw [if_pos e0, show ((s.toNat : Nat) : Int) = s by omega], hv, by omega, by omega, by omega, by omega, by omega, rfl, rfl, h3, k3, h4, h2, k2⟩
      · rw [if_neg hb] at he; exact absurd he (by decide)
    · rw [if_neg hv] at he; exact absurd he (by decide)
  · left
    exact ⟨he, by unfold rnV; rw [if_neg he]⟩
theorem rn_bad {ms : List Mh} {s t : Int} {x : Int} (h : rnE ms s t = x) (hx : x ≠ 0) : rnV ms s t = .tuple #[.agg #[.int .i64 0, .int .i64 0, .int .i64 0, .int .i64 0, .int .i64 0], .int .i64 x] := by
  rcases rn_two ms s t with ⟨-, h2⟩ | ⟨h1, -⟩
  · rw [h2, h]
  · exact absurd (h.symm.trans h1) hx

set_option maxRecDepth 100000 in
set_option maxHeartbeats 4000000 in
theorem runnerOf_c (ms : List Mh) (s t : Int) (v : Value) (w : World) (h : IsTr w w.heap.size v ms) : Calls Try.prog 78 #[v, .int .i64 s, .int .i64 t] w fun e w' => e = .returned (rnV ms s t) ∧ Below w.heap.size w w' := by
  have HT := Lib.hid h
  obtain ⟨sv, rfl, A, c, rfl, -, -⟩ := h
  obtain ⟨l, hn⟩ : ∃ n, ms.length = n := ⟨_, rfl⟩
  have HN := Lib.hid hn
  rw [hn] at HT ⊢
  clear hn
  go_enter Try.func78, Try.ntmps78
  go_wp2_with fail
  obtain ⟨W1, hW2⟩ : ∃ Wzz, ((w.alloc (.cells #[.slice A l c] 35)).alloc (.cells #[.int .i64 0, .int .i64 0, .int .i64 0, .int .i64 0, .int .i64 0] 94)) = Wzz := ⟨_, rfl⟩
  have B3 := Lib.hid (show Below w.heap.size w W1 by rw [← hW2]; exact (((Below.refl w.heap.size w).alloc (Nat.le_refl _) _).alloc (by first | (simp; done) | (simp; omega)) _))
  have X4 := Lib.hid (show Box W1 (w.heap.size) 35 #[.slice A l c] by rw [← hW2]; exact Box.alloc (Box.made w 35 #[.slice A l c]) (.cells #[.int .i64 0, .int .i64 0, .int .i64 0, .int .i64 0, .int .i64 0] 94))
  have X5 := Lib.hid (show Box W1 (w.heap.size + 1) 94 #[.int .i64 0, .int .i64 0, .int .i64 0, .int .i64 0, .int .i64 0] by
    have hz := Box.made (w.alloc (.cells #[.slice A l c] 35)) 94 #[.int .i64 0, .int .i64 0, .int .i64 0, .int .i64 0, .int .i64 0]
    rw [World.size_alloc] at hz
    rw [← hW2]; exact hz)
  have C6 := Lib.hid (HT.out.later B3.out)
  have SZ7 := Lib.hid (show W1.heap.size = w.heap.size + 1 + 1 by rw [← hW2]; simp)
  rw [hW2]
  clear hW2
  have q8 : W1.cell? ⟨w.heap.size, 0, none⟩ = some (.slice A l c) := X4.out.cell 0
  have q9 : W1.cell? ⟨w.heap.size + 1, 0, none⟩ = some (.int .i64 0) := X5.out.cell 0
  have q10 : W1.cell? ⟨w.heap.size + 1, 1, none⟩ = some (.int .i64 0) := X5.out.cell 1
  have q11 : W1.cell? ⟨w.heap.size + 1, 2, none⟩ = some (.int .i64 0) := X5.out.cell 2
  have q12 : W1.cell? ⟨w.heap.size + 1, 3, none⟩ = some (.int .i64 0) := X5.out.cell 3
  have q13 : W1.cell? ⟨w.heap.size + 1, 4, none⟩ = some (.int .i64 0) := X5.out.cell 4
  have fz14 : ∀ o, W1.frozen? ⟨w.heap.size + 1, o, none⟩ = false := fun o => X5.out.free o
  go_wp2_with fail
  refine (ValidTrain_c ms _ _ C6.out).mono ?_; rintro e v15 ⟨rfl, hb16⟩
  have X17 := Lib.hid (X4.out.later hb16)
  have X18 := Lib.hid (X5.out.later hb16)
  have C19 := Lib.hid (C6.out.later hb16)
  have B20 := Lib.hid (B3.out.trans (hb16.mono B3.out.size))
  clear hb16
  clear q8 q9 q10 q11 q12 q13 fz14
  have q21 : v15.cell? ⟨w.heap.size, 0, none⟩ = some (.slice A l c) := X17.out.cell 0
  have q22 : v15.cell? ⟨w.heap.size + 1, 0, none⟩ = some (.int .i64 0) := X18.out.cell 0
  have q23 : v15.cell? ⟨w.heap.size + 1, 1, none⟩ = some (.int .i64 0) := X18.out.cell 1
  have q24 : v15.cell? ⟨w.heap.size + 1, 2, none⟩ = some (.int .i64 0) := X18.out.cell 2
  have q25 : v15.cell? ⟨w.heap.size + 1, 3, none⟩ = some (.int .i64 0) := X18.out.cell 3
  have q26 : v15.cell? ⟨w.heap.size + 1, 4, none⟩ = some (.int .i64 0) := X18.out.cell 4
  have fz27 : ∀ o, v15.frozen? ⟨w.heap.size + 1, o, none⟩ = false := fun o => X18.out.free o
  cases hv : trB ms
  · have HR := Lib.hid (rn_bad (show rnE ms s t = 70 by unfold rnE; rw [hv]; rfl) (by decide))
    clear hv
    go_wp2_with fail
    exact endNr Try.results78 rfl rfl HR.out X18.out (by omega) B20.out
  · have HV := Lib.hid hv
    clear hv
    go_wp2_with fail
    refine (fromTo_c s 2 96 _).mono ?_; rintro e v28 ⟨rfl, rfl⟩
    cases hs : inB s 2 96
    · have HR := Lib.hid (rn_bad (show rnE ms s t = 1 by unfold rnE; rw [HV.out, hs]; rfl) (by decide))
      clear hs
      go_wp2_with fail
      exact endNr Try.results78 rfl rfl HR.out X18.out (by omega) B20.out
    · have H1 := Lib.hid hs
      clear hs
      go_wp2_with fail
      refine (isCount_c t _).mono ?_; rintro e v29 ⟨rfl, rfl⟩
      cases ht : inB t 0 1000000
      · have HR := Lib.hid (rn_bad (show rnE ms s t = 1 by unfold rnE; rw [HV.out, H1.out, ht]; rfl) (by decide))
        clear ht
        go_wp2_with fail
        exact endNr Try.results78 rfl rfl HR.out X18.out (by omega) B20.out
      · have H2 := Lib.hid ht
        clear ht
        have HRU := Lib.hid (show rnE ms s t = if (trnR ms l).e = 0 then (playR ms).e else 2 by unfold rnE; rw [HV.out, H1.out, H2.out, HN.out]; rfl)
        go_wp2_with fail
        refine (turnsOf_c ms l _ _ C19.out HV.out (Nat.le_of_eq HN.out.symm)).mono ?_; rintro e v30 ⟨rfl, hb31⟩
        have X32 := Lib.hid (X17.out.later hb31)
        have X33 := Lib.hid (X18.out.later hb31)
        have C34 := Lib.hid (C19.out.later hb31)
        have B35 := Lib.hid (B20.out.trans (hb31.mono B20.out.size))
        clear hb31
        clear q21 q22 q23 q24 q25 q26 fz27
        have q36 : v30.cell? ⟨w.heap.size, 0, none⟩ = some (.slice A l c) := X32.out.cell 0
        have q37 : v30.cell? ⟨w.heap.size + 1, 0, none⟩ = some (.int .i64 0) := X33.out.cell 0
        have q38 : v30.cell? ⟨w.heap.size + 1, 1, none⟩ = some (.int .i64 0) := X33.out.cell 1
        have q39 : v30.cell? ⟨w.heap.size + 1, 2, none⟩ = some (.int .i64 0) := X33.out.cell 2
        have q40 : v30.cell? ⟨w.heap.size + 1, 3, none⟩ = some (.int .i64 0) := X33.out.cell 3
        have q41 : v30.cell? ⟨w.heap.size + 1, 4, none⟩ = some (.int .i64 0) := X33.out.cell 4
        have fz42 : ∀ o, v30.frozen? ⟨w.heap.size + 1, o, none⟩ = false := fun o => X33.out.free o
        rcases trn_two HV.out l with ⟨he, hr⟩ | ⟨he, hr, hrv, hp, -⟩
        · have HR := Lib.hid (rn_bad (show rnE ms s t = 2 by rw [HRU.out, if_neg he]) (by decide))
          rw [hr]
          have e1 : ((2 : Int) != 0) = true := by decide
          clear he hr
          have X43 := Lib.hid (X32.out.alloc (.cells #[.int .i64 0, .int .i64 0] 23))
          have X44 := Lib.hid (X33.out.alloc (.cells #[.int .i64 0, .int .i64 0] 23))
          have C45 := Lib.hid (C34.out.later ((Below.refl v30.heap.size v30).alloc (Nat.le_refl _) (.cells #[.int .i64 0, .int .i64 0] 23)))
          have B46 := Lib.hid (B35.out.alloc B35.out.size (.cells #[.int .i64 0, .int .i64 0] 23))
          have X47 := Lib.hid (Box.made v30 23 #[.int .i64 0, .int .i64 0])
          have q48 : (v30.alloc (.cells #[.int .i64 0, .int .i64 0] 23)).cell? ⟨w.heap.size, 0, none⟩ = some (.slice A l c) := X43.out.cell 0
          have q49 : (v30.alloc (.cells #[.int .i64 0, .int .i64 0] 23)).cell? ⟨w.heap.size + 1, 0, none⟩ = some (.int .i64 0) := X44.out.cell 0
          have q50 : (v30.alloc (.cells #[.int .i64 0, .int .i64 0] 23)).cell? ⟨w.heap.size + 1, 1, none⟩ = some (.int .i64 0) := X44.out.cell 1
          have q51 : (v30.alloc (.cells #[.int .i64 0, .int .i64 0] 23)).cell? ⟨w.heap.size + 1, 2, none⟩ = some (.int .i64 0) := X44.out.cell 2
          have q52 : (v30.alloc (.cells #[.int .i64 0, .int .i64 0] 23)).cell? ⟨w.heap.size + 1, 3, none⟩ = some (.int .i64 0) := X44.out.cell 3
          have q53 : (v30.alloc (.cells #[.int .i64 0, .int .i64 0] 23)).cell? ⟨w.heap.size + 1, 4, none⟩ = some (.int .i64 0) := X44.out.cell 4
          have fz54 : ∀ o, (v30.alloc (.cells #[.int .i64 0, .int .i64 0] 23)).frozen? ⟨w.heap.size + 1, o, none⟩ = false := fun o => X44.out.free o
          have q55 : (v30.alloc (.cells #[.int .i64 0, .int .i64 0] 23)).cell? ⟨v30.heap.size, 0, none⟩ = some (.int .i64 0) := X47.out.cell 0
          have q56 : (v30.alloc (.cells #[.int .i64 0, .int .i64 0] 23)).cell? ⟨v30.heap.size, 1, none⟩ = some (.int .i64 0) := X47.out.cell 1
          go_wp2_with fail
          exact endNr Try.results78 rfl rfl HR.out X44.out (by omega) B46.out
        · have HR2 := Lib.hid (show rnE ms s t = (playR ms).e by rw [HRU.out, if_pos he])
          rw [hr]
          obtain ⟨N, hN⟩ : ∃ n, (shN ms l).1 = n := ⟨_, rfl⟩
          obtain ⟨D, hD⟩ : ∃ n, (shN ms l).2 = n := ⟨_, rfl⟩
          rw [hN, hD]
          have HND := Lib.hid (And.intro hN hD)
          have e1 : ((0 : Int) != 0) = false := by decide
          clear he hr hrv hp hN hD
          have X57 := Lib.hid (X32.out.alloc (.cells #[.int .i64 (N : Int), .int .i64 (D : Int)] 23))
          have X58 := Lib.hid (X33.out.alloc (.cells #[.int .i64 (N : Int), .int .i64 (D : Int)] 23))
          have C59 := Lib.hid (C34.out.later ((Below.refl v30.heap.size v30).alloc (Nat.le_refl _) (.cells #[.int .i64 (N : Int), .int .i64 (D : Int)] 23)))
          have B60 := Lib.hid (B35.out.alloc B35.out.size (.cells #[.int .i64 (N : Int), .int .i64 (D : Int)] 23))
          have X61 := Lib.hid (Box.made v30 23 #[.int .i64 (N : Int), .int .i64 (D : Int)])
          have q62 : (v30.alloc (.cells #[.int .i64 (N : Int), .int .i64 (D : Int)] 23)).cell? ⟨w.heap.size, 0, none⟩ = some (.slice A l c) := X57.out.cell 0
          have q63 : (v30.alloc (.cells #[.int .i64 (N : Int), .int .i64 (D : Int)] 23)).cell? ⟨w.heap.size + 1, 0, none⟩ = some (.int .i64 0) := X58.out.cell 0
          have q64 : (v30.alloc (.cells #[.int .i64 (N : Int), .int .i64 (D : Int)] 23)).cell? ⟨w.heap.size + 1, 1, none⟩ = some (.int .i64 0) := X58.out.cell 1
          have q65 : (v30.alloc (.cells #[.int .i64 (N : Int), .int .i64 (D : Int)] 23)).cell? ⟨w.heap.size + 1, 2, none⟩ = some (.int .i64 0) := X58.out.cell 2
          have q66 : (v30.alloc (.cells #[.int .i64 (N : Int), .int .i64 (D : Int)] 23)).cell? ⟨w.heap.size + 1, 3, none⟩ = some (.int .i64 0) := X58.out.cell 3
          have q67 : (v30.alloc (.cells #[.int .i64 (N : Int), .int .i64 (D : Int)] 23)).cell? ⟨w.heap.size + 1, 4, none⟩ = some (.int .i64 0) := X58.out.cell 4
          have fz68 : ∀ o, (v30.alloc (.cells #[.int .i64 (N : Int), .int .i64 (D : Int)] 23)).frozen? ⟨w.heap.size + 1, o, none⟩ = false := fun o => X58.out.free o
          have q69 : (v30.alloc (.cells #[.int .i64 (N : Int), .int .i64 (D : Int)] 23)).cell? ⟨v30.heap.size, 0, none⟩ = some (.int .i64 (N : Int)) := X61.out.cell 0
          have q70 : (v30.alloc (.cells #[.int .i64 (N : Int), .int .i64 (D : Int)] 23)).cell? ⟨v30.heap.size, 1, none⟩ = some (.int .i64 (D : Int)) := X61.out.cell 1
          go_wp2_with fail
          refine (Play_c ms _ _ C59.out).mono ?_; rintro e v71 ⟨rfl, hb72⟩
          have X73 := Lib.hid (X57.out.later hb72)
          have X74 := Lib.hid (X58.out.later hb72)
          have X75 := Lib.hid (X61.out.later hb72)
          have C76 := Lib.hid (C59.out.later hb72)
          have B77 := Lib.hid (B60.out.trans (hb72.mono B60.out.size))
          clear hb72
          clear q62 q63 q64 q65 q66 q67 fz68 q69 q70 q36 q37 q38 q39 q40 q41 fz42
          have q78 : v71.cell? ⟨w.heap.size, 0, none⟩ = some (.slice A l c) := X73.out.cell 0
          have q79 : v71.cell? ⟨w.heap.size + 1, 0, none⟩ = some (.int .i64 0) := X74.out.cell 0
          have q80 : v71.cell? ⟨w.heap.size + 1, 1, none⟩ = some (.int .i64 0) := X74.out.cell 1
          have q81 : v71.cell? ⟨w.heap.size + 1, 2, none⟩ = some (.int .i64 0) := X74.out.cell 2
          have q82 : v71.cell? ⟨w.heap.size + 1, 3, none⟩ = some (.int .i64 0) := X74.out.cell 3
          have q83 : v71.cell? ⟨w.heap.size + 1, 4, none⟩ = some (.int .i64 0) := X74.out.cell 4
          have fz84 : ∀ o, v71.frozen? ⟨w.heap.size + 1, o, none⟩ = false := fun o => X74.out.free o
          have q85 : v71.cell? ⟨v30.heap.size, 0, none⟩ = some (.int .i64 (N : Int)) := X75.out.cell 0
          have q86 : v71.cell? ⟨v30.heap.size, 1, none⟩ = some (.int .i64 (D : Int)) := X75.out.cell 1
          rcases play_two HV.out with ⟨he, hr⟩ | ⟨he, hr, hrv⟩
          · have HR := Lib.hid (rn_bad (show rnE ms s t = 2 by rw [HR2.out, hr]) (by decide))
            rw [hr]
            have e2 : ((2 : Int) != 0) = true := by decide
            clear he hr
            have LT87 := Lib.hid X75.out.lt
            have X88 := Lib.hid (X73.out.alloc (.cells #[.int .i64 0, .int .i64 0] 23))
            have X89 := Lib.hid (X74.out.alloc (.cells #[.int .i64 0, .int .i64 0] 23))
            have X90 := Lib.hid (X75.out.alloc (.cells #[.int .i64 0, .int .i64 0] 23))
            have C91 := Lib.hid (C76.out.later ((Below.refl v71.heap.size v71).alloc (Nat.le_refl _) (.cells #[.int .i64 0, .int .i64 0] 23)))
            have B92 := Lib.hid (B77.out.alloc B77.out.size (.cells #[.int .i64 0, .int .i64 0] 23))
            have X93 := Lib.hid (Box.made v71 23 #[.int .i64 0, .int .i64 0])
            have q94 : (v71.alloc (.cells #[.int .i64 0, .int .i64 0] 23)).cell? ⟨w.heap.size, 0, none⟩ = some (.slice A l c) := X88.out.cell 0
            have q95 : (v71.alloc (.cells #[.int .i64 0, .int .i64 0] 23)).cell? ⟨w.heap.size + 1, 0, none⟩ = some (.int .i64 0) := X89.out.cell 0
            have q96 : (v71.alloc (.cells #[.int .i64 0, .int .i64 0] 23)).cell? ⟨w.heap.size + 1, 1, none⟩ = some (.int .i64 0) := X89.out.cell 1
            have q97 : (v71.alloc (.cells #[.int .i64 0, .int .i64 0] 23)).cell? ⟨w.heap.size + 1, 2, none⟩ = some (.int .i64 0) := X89.out.cell 2
            have q98 : (v71.alloc (.cells #[.int .i64 0, .int .i64 0] 23)).cell? ⟨w.heap.size + 1, 3, none⟩ = some (.int .i64 0) := X89.out.cell 3
            have q99 : (v71.alloc (.cells #[.int .i64 0, .int .i64 0] 23)).cell? ⟨w.heap.size + 1, 4, none⟩ = some (.int .i64 0) := X89.out.cell 4
            have fz100 : ∀ o, (v71.alloc (.cells #[.int .i64 0, .int .i64 0] 23)).frozen? ⟨w.heap.size + 1, o, none⟩ = false := fun o => X89.out.free o
            have q101 : (v71.alloc (.cells #[.int .i64 0, .int .i64 0] 23)).cell? ⟨v30.heap.size, 0, none⟩ = some (.int .i64 (N : Int)) := X90.out.cell 0
            have q102 : (v71.alloc (.cells #[.int .i64 0, .int .i64 0] 23)).cell? ⟨v30.heap.size, 1, none⟩ = some (.int .i64 (D : Int)) := X90.out.cell 1
            have q103 : (v71.alloc (.cells #[.int .i64 0, .int .i64 0] 23)).cell? ⟨v71.heap.size, 0, none⟩ = some (.int .i64 0) := X93.out.cell 0
            have q104 : (v71.alloc (.cells #[.int .i64 0, .int .i64 0] 23)).cell? ⟨v71.heap.size, 1, none⟩ = some (.int .i64 0) := X93.out.cell 1
            go_wp2_with fail
            exact endNr Try.results78 rfl rfl HR.out X89.out (by omega) B92.out
          · rw [hr]
            obtain ⟨n, hn⟩ : ∃ n, (plN ms).1 = n := ⟨_, rfl⟩
            obtain ⟨d, hd⟩ : ∃ n, (plN ms).2 = n := ⟨_, rfl⟩
            rw [hn, hd]
            have HR := Lib.hid (show rnV ms s t = .tuple #[.agg #[.int .i64 (N : Int), .int .i64 (D : Int), .int .i64 (n : Int), .int .i64 (d : Int), .int .i64 s], .int .i64 0] by unfold rnV; rw [if_pos (HR2.out.trans he), HN.out, HND.out.1, HND.out.2, hn, hd])
            clear he hr hrv hn hd
            have LT105 := Lib.hid X75.out.lt
            have X106 := Lib.hid (X73.out.alloc (.cells #[.int .i64 (n : Int), .int .i64 (d : Int)] 23))
            have X107 := Lib.hid (X74.out.alloc (.cells #[.int .i64 (n : Int), .int .i64 (d : Int)] 23))
            have X108 := Lib.hid (X75.out.alloc (.cells #[.int .i64 (n : Int), .int .i64 (d : Int)] 23))
            have C109 := Lib.hid (C76.out.later ((Below.refl v71.heap.size v71).alloc (Nat.le_refl _) (.cells #[.int .i64 (n : Int), .int .i64 (d : Int)] 23)))
            have B110 := Lib.hid (B77.out.alloc B77.out.size (.cells #[.int .i64 (n : Int), .int .i64 (d : Int)] 23))
            have X111 := Lib.hid (Box.made v71 23 #[.int .i64 (n : Int), .int .i64 (d : Int)])
            have q112 : (v71.alloc (.cells #[.int .i64 (n : Int), .int .i64 (d : Int)] 23)).cell? ⟨w.heap.size, 0, none⟩ = some (.slice A l c) := X106.out.cell 0
            have q113 : (v71.alloc (.cells #[.int .i64 (n : Int), .int .i64 (d : Int)] 23)).cell? ⟨w.heap.size + 1, 0, none⟩ = some (.int .i64 0) := X107.out.cell 0
            have q114 : (v71.alloc (.cells #[.int .i64 (n : Int), .int .i64 (d : Int)] 23)).cell? ⟨w.heap.size + 1, 1, none⟩ = some (.int .i64 0) := X107.out.cell 1
            have q115 : (v71.alloc (.cells #[.int .i64 (n : Int), .int .i64 (d : Int)] 23)).cell? ⟨w.heap.size + 1, 2, none⟩ = some (.int .i64 0) := X107.out.cell 2
            have q116 : (v71.alloc (.cells #[.int .i64 (n : Int), .int .i64 (d : Int)] 23)).cell? ⟨w.heap.size + 1, 3, none⟩ = some (.int .i64 0) := X107.out.cell 3
            have q117 : (v71.alloc (.cells #[.int .i64 (n : Int), .int .i64 (d : Int)] 23)).cell? ⟨w.heap.size + 1, 4, none⟩ = some (.int .i64 0) := X107.out.cell 4
            have fz118 : ∀ o, (v71.alloc (.cells #[.int .i64 (n : Int), .int .i64 (d : Int)] 23)).frozen? ⟨w.heap.size + 1, o, none⟩ = false := fun o => X107.out.free o
            have q119 : (v71.alloc (.cells #[.int .i64 (n : Int), .int .i64 (d : Int)] 23)).cell? ⟨v30.heap.size, 0, none⟩ = some (.int .i64 (N : Int)) := X108.out.cell 0
            have q120 : (v71.alloc (.cells #[.int .i64 (n : Int), .int .i64 (d : Int)] 23)).cell? ⟨v30.heap.size, 1, none⟩ = some (.int .i64 (D : Int)) := X108.out.cell 1
            have q121 : (v71.alloc (.cells #[.int .i64 (n : Int), .int .i64 (d : Int)] 23)).cell? ⟨v71.heap.size, 0, none⟩ = some (.int .i64 (n : Int)) := X111.out.cell 0
            have q122 : (v71.alloc (.cells #[.int .i64 (n : Int), .int .i64 (d : Int)] 23)).cell? ⟨v71.heap.size, 1, none⟩ = some (.int .i64 (d : Int)) := X111.out.cell 1
            go_wp2_with fail
            exact endNr Try.results78 rfl rfl HR.out X107.out (by omega) B110.out

end Go.Proofs.Ytmmfmanjajefcaa

/- Never of the specification: what it answers, its prices aside. -/
import Derived.Test.YtfafjojoapcliaaS27
import Derived.Test.YtfafjojoapcliaaS23
import Derived.Test.YtfafjojoapcliaaS19
import Derived.Test.YtfafjojoapcliaaS13
set_option linter.all false
namespace Go.Proofs.Ytfafjojoapcliaa
open Go.RowKit

/-- a way back in memory -/
def Nt (W : World) (gb ge ml n nl : Nat) (c : Nat → Nat) : Prop := gb < W.heap.size ∧ ge < W.heap.size ∧ ∀ k, c k < n ∧ ∃ (i : Nat) (tz mz cz : Int) (bz : Bool), W.cell? ⟨gb, c k, none⟩ = some (.int .i64 (i : Int)) ∧ i < ml ∧
  W.cell? ⟨ge, i * 5, none⟩ = some (.int .i64 ((c (k + 1) : Nat) : Int)) ∧ W.cell? ⟨ge, i * 5 + 1, none⟩ = some (.int .i64 tz) ∧ W.cell? ⟨ge, i * 5 + 2, none⟩ = some (.int .i64 mz) ∧ W.cell? ⟨ge, i * 5 + 3, none⟩ = some (.int .i64 cz) ∧ W.cell? ⟨ge, i * 5 + 4, none⟩ = some (.bool bz) ∧ (cz = -1 ∨ ∃ q : Nat, cz = (q : Int) ∧ q < nl)
theorem Nt.below {W W' : World} {B gb ge ml n nl : Nat} {c : Nat → Nat} (h : Nt W gb ge ml n nl c) (hb : Below B W W') (h1 : gb < B) (h2 : ge < B) : Nt W' gb ge ml n nl c := by
  obtain ⟨a, b, h⟩ := h
  refine ⟨Nat.lt_of_lt_of_le a hb.size, Nat.lt_of_lt_of_le b hb.size, fun k => ?_⟩
  obtain ⟨hk, i, tz, mz, cz, bz, e0, hi, e1, e2, e3, e4, e5, hz⟩ := h k
  exact ⟨hk, i, tz, mz, cz, bz, keepd e0 hb h1, hi, keepd e1 hb h2, keepd e2 hb h2, keepd e3 hb h2, keepd e4 hb h2, keepd e5 hb h2, hz⟩
theorem Nt.later {W W' : World} {gb ge ml n nl : Nat} {c : Nat → Nat} (h : Nt W gb ge ml n nl c) (hb : Below W.heap.size W W') : Nt W' gb ge ml n nl c := h.below hb h.1 h.2.1
theorem nt_made {W : World} {t : Tk} (ht : taskB t = true) {gb ge : Nat} {B : List Int} {c : Nat → Nat} (hr : Row W gb B) (hl : B.length = tM t + 1) (hge : ge < W.heap.size) (hE : ∀ k j, k < (edT t).length → j < 5 → W.cell? ⟨ge, k * 5 + j, none⟩ = (reCells (egAt (edT t) k))[j]?)
    (hc : ∀ k, c k < tM t + 1 ∧ ∃ i, i < (edT t).length ∧ nth B (c k) = (i : Int) ∧ (egAt (edT t) i).fr = c (k + 1)) : Nt W gb ge (edT t).length (tM t + 1) t.need.length c := by
  refine ⟨hr.lt, hge, fun k => ?_⟩
  obtain ⟨hk, i, hi, hn, hf⟩ := hc k
  have h0 := hE i 0 hi (by omega)
  have h1 := hE i 1 hi (by omega)
  have h2 := hE i 2 hi (by omega)
  have h3 := hE i 3 hi (by omega)
  have h4 := hE i 4 hi (by omega)
  simp only [reCells, List.getElem?_cons_zero, List.getElem?_cons_succ, Nat.add_zero] at h0 h1 h2 h3 h4
  rw [hf] at h0
  refine ⟨hk, i, _, _, _, _, ?_, hi, h0, h1, h2, h3, h4, ?_⟩
  · rw [← hn]; exact hr.cell (by omega)
  · rcases edT_kinds (egAt_mem hi) with ⟨h, -, -⟩ | ⟨q, hq, h, -⟩
    · exact .inl h
    · exact .inr ⟨q, h, hq⟩
theorem ring_inj2 {c : Nat → Nat} {es : List Eg} {B : List Int} {v n J : Nat} (hc : ∀ k, c k = wbs es B v k) (hr : c (n + J) = c n) (hm : ∀ k, 1 ≤ k → k < J → c (n + k) ≠ c n) : ∀ a b, a < b → b < J → c (n + 1 + a) ≠ c (n + 1 + b) := by
  intro a b hab hbj e
  have e2 : c (n + 1 + a + (J - 1 - b)) = c (n + 1 + b + (J - 1 - b)) := by
    rw [hc, hc, wbs_add, wbs_add _ _ _ (n + 1 + b), ← hc, ← hc, e]
  rw [show n + 1 + b + (J - 1 - b) = n + J by omega, hr] at e2
  exact hm (1 + a + (J - 1 - b)) (by omega) (by omega) (by rw [← e2]; congr 1; omega)
def RNever (t : Tk) (w : World) (e : Ending) (w' : World) : Prop := ∃ A1 n1 c1 A2 n2 c2, e = .returned (.tuple #[.agg #[.slice A1 n1 c1, .slice A2 n2 c2], .int .i64 (nvE t)]) ∧ Below w.heap.size w w'
set_option maxRecDepth 100000 in
set_option maxHeartbeats 8000000 in
theorem rNever_c (t : Tk) (v : Value) (w : World) (ht : IsTask w w.heap.size v t) : Calls Try.prog 19 #[v] w fun e w' => RNever t w e w' := by
  have HT := Lib.hid ht
  obtain ⟨s, rfl, A, c, rfl, hcap, hcell⟩ := ht
  obtain ⟨nl, hnl⟩ : ∃ z, t.need.length = z := ⟨_, rfl⟩
  have HNL := Lib.hid hnl
  rw [hnl] at HT ⊢
  clear hcap hcell hnl
  by_cases htb : taskB t = true
  case neg =>
    have HTB := Lib.hid (show taskB t = false by simpa using htb)
    have HE := Lib.hid (show tkE t = 50 by unfold tkE; rw [HTB.out]; rfl)
    have HNV := Lib.hid (show nvE t = 50 by unfold nvE; rw [HTB.out]; rfl)
    clear htb
    go_enter Try.func19, Try.ntmps19
    go_wp2_with fail
    obtain ⟨W1, hW2⟩ : ∃ Wzz, ((w.alloc (.cells #[.int .i64 t.wide, .slice A nl c] 24)).alloc (.cells #[.slice none 0 0, .slice none 0 0] 35)) = Wzz := ⟨_, rfl⟩
    have B3 := Lib.hid (show Below w.heap.size w W1 by rw [← hW2]; exact (((Below.refl w.heap.size w).alloc (Nat.le_refl _) _).alloc (by first | (simp; done) | (simp; omega)) _))
    have X4 := Lib.hid (show Box W1 (w.heap.size) 24 #[.int .i64 t.wide, .slice A nl c] by rw [← hW2]; exact Box.alloc (Box.made w 24 #[.int .i64 t.wide, .slice A nl c]) (.cells #[.slice none 0 0, .slice none 0 0] 35))
    have X5 := Lib.hid (show Box W1 (w.heap.size + 1) 35 #[.slice none 0 0, .slice none 0 0] by
      have hz := Box.made (w.alloc (.cells #[.int .i64 t.wide, .slice A nl c] 24)) 35 #[.slice none 0 0, .slice none 0 0]
      rw [World.size_alloc] at hz
      rw [← hW2]; exact hz)
    have SZ6 := Lib.hid (show W1.heap.size = w.heap.size + 1 + 1 by rw [← hW2]; simp)
    rw [hW2]
    clear hW2
    have q7 : W1.cell? ⟨w.heap.size, 0, none⟩ = some (.int .i64 t.wide) := X4.out.cell 0
    have q8 : W1.cell? ⟨w.heap.size, 1, none⟩ = some (.slice A nl c) := X4.out.cell 1
    have q9 : W1.cell? ⟨w.heap.size + 1, 0, none⟩ = some (.slice none 0 0) := X5.out.cell 0
    have q10 : W1.cell? ⟨w.heap.size + 1, 1, none⟩ = some (.slice none 0 0) := X5.out.cell 1
    have fz11 : ∀ o, W1.frozen? ⟨w.heap.size + 1, o, none⟩ = false := fun o => X5.out.free o
    go_wp2_with fail
    refine (rCheck_c t _ W1 (HT.out.mono B3.out B3.out.size)).mono ?_; rintro e v12 ⟨rfl, hb13⟩
    have X14 := Lib.hid (X4.out.later hb13)
    have X15 := Lib.hid (X5.out.later hb13)
    have B16 := Lib.hid (B3.out.trans (hb13.mono B3.out.size))
    clear hb13
    rw [HE.out]
    clear q7 q8 q9 q10 fz11
    have q17 : v12.cell? ⟨w.heap.size, 0, none⟩ = some (.int .i64 t.wide) := X14.out.cell 0
    have q18 : v12.cell? ⟨w.heap.size, 1, none⟩ = some (.slice A nl c) := X14.out.cell 1
    have q19 : v12.cell? ⟨w.heap.size + 1, 0, none⟩ = some (.slice none 0 0) := X15.out.cell 0
    have q20 : v12.cell? ⟨w.heap.size + 1, 1, none⟩ = some (.slice none 0 0) := X15.out.cell 1
    have fz21 : ∀ o, v12.frozen? ⟨w.heap.size + 1, o, none⟩ = false := fun o => X15.out.free o
    go_wp2_with fail
    have hbb := ((B16.out.setCell (p := ⟨w.heap.size + 1, 0, none⟩) (Nat.le_succ _) (.slice none 0 0)).setCell (p := ⟨w.heap.size + 1, 1, none⟩) (Nat.le_succ _) (.slice none 0 0))
    refine bodyPost_ret (v := .tuple #[.agg #[.slice none 0 0, .slice none 0 0], .int .i64 50]) (by simp [results, Try.results19, go_sem, *]) rfl ?_
    exact ⟨_, _, _, _, _, _, by rw [HNV.out], hbb⟩
  have HTB := Lib.hid htb
  have AR := Lib.hid (task_parts htb)
  have HE := Lib.hid (show tkE t = 0 by unfold tkE; rw [htb]; rfl)
  have A2 := Lib.hid (show 1 ≤ (edT t).length ∧ (edT t).length ≤ 2000 ∧ tM t ≤ 400 ∧ nl ≤ 400 ∧ (∀ x ∈ edT t, x.fr < tM t + 1 ∧ x.to < tM t + 1) by
    obtain ⟨a1, a2, a3, a4, a5, a6, a7, a8⟩ := task_parts htb
    have e : (edT t).length = tM t + t.need.length * 2 := by unfold edT; rw [edgesOf_len]
    have hnl := HNL.out
    exact ⟨by omega, by omega, by omega, by omega, edgesOf_to t _ _ a4 a3⟩)
  clear htb
  go_enter Try.func19, Try.ntmps19
  go_wp2_with fail
  obtain ⟨W22, hW23⟩ : ∃ Wzz, ((w.alloc (.cells #[.int .i64 t.wide, .slice A nl c] 24)).alloc (.cells #[.slice none 0 0, .slice none 0 0] 35)) = Wzz := ⟨_, rfl⟩
  have B24 := Lib.hid (show Below w.heap.size w W22 by rw [← hW23]; exact (((Below.refl w.heap.size w).alloc (Nat.le_refl _) _).alloc (by first | (simp; done) | (simp; omega)) _))
  have X25 := Lib.hid (show Box W22 (w.heap.size) 24 #[.int .i64 t.wide, .slice A nl c] by rw [← hW23]; exact Box.alloc (Box.made w 24 #[.int .i64 t.wide, .slice A nl c]) (.cells #[.slice none 0 0, .slice none 0 0] 35))
  have X26 := Lib.hid (show Box W22 (w.heap.size + 1) 35 #[.slice none 0 0, .slice none 0 0] by
    have hz := Box.made (w.alloc (.cells #[.int .i64 t.wide, .slice A nl c] 24)) 35 #[.slice none 0 0, .slice none 0 0]
    rw [World.size_alloc] at hz
    rw [← hW23]; exact hz)
  have SZ27 := Lib.hid (show W22.heap.size = w.heap.size + 1 + 1 by rw [← hW23]; simp)
  rw [hW23]
  clear hW23
  have q28 : W22.cell? ⟨w.heap.size, 0, none⟩ = some (.int .i64 t.wide) := X25.out.cell 0
  have q29 : W22.cell? ⟨w.heap.size, 1, none⟩ = some (.slice A nl c) := X25.out.cell 1
  have q30 : W22.cell? ⟨w.heap.size + 1, 0, none⟩ = some (.slice none 0 0) := X26.out.cell 0
  have q31 : W22.cell? ⟨w.heap.size + 1, 1, none⟩ = some (.slice none 0 0) := X26.out.cell 1
  have fz32 : ∀ o, W22.frozen? ⟨w.heap.size + 1, o, none⟩ = false := fun o => X26.out.free o
  go_wp2_with fail
  refine (rCheck_c t _ W22 (HT.out.mono B24.out B24.out.size)).mono ?_; rintro e v33 ⟨rfl, hb34⟩
  have X35 := Lib.hid (X25.out.later hb34)
  have X36 := Lib.hid (X26.out.later hb34)
  have B37 := Lib.hid (B24.out.trans (hb34.mono B24.out.size))
  clear hb34
  rw [HE.out]
  clear q28 q29 q30 q31 fz32
  have q38 : v33.cell? ⟨w.heap.size, 0, none⟩ = some (.int .i64 t.wide) := X35.out.cell 0
  have q39 : v33.cell? ⟨w.heap.size, 1, none⟩ = some (.slice A nl c) := X35.out.cell 1
  have q40 : v33.cell? ⟨w.heap.size + 1, 0, none⟩ = some (.slice none 0 0) := X36.out.cell 0
  have q41 : v33.cell? ⟨w.heap.size + 1, 1, none⟩ = some (.slice none 0 0) := X36.out.cell 1
  have fz42 : ∀ o, v33.frozen? ⟨w.heap.size + 1, o, none⟩ = false := fun o => X36.out.free o
  go_wp2_with fail
  refine (farthest2_c t _ v33 (HT.out.mono B37.out B37.out.size) HTB.out).mono ?_; rintro e v43 ⟨gl, gb, hot, L9, B9, rfl, hrl, hrb, hll, hlb, hb44, hor⟩
  have X45 := Lib.hid (X35.out.later hb44)
  have X46 := Lib.hid (X36.out.later hb44)
  have B47 := Lib.hid (B37.out.trans (hb44.mono B37.out.size))
  clear hb44
  have HRB := Lib.hid hrb
  have HLB := Lib.hid hlb
  clear hrl hrb hll hlb
  clear q38 q39 q40 q41 fz42
  have q48 : v43.cell? ⟨w.heap.size, 0, none⟩ = some (.int .i64 t.wide) := X45.out.cell 0
  have q49 : v43.cell? ⟨w.heap.size, 1, none⟩ = some (.slice A nl c) := X45.out.cell 1
  have q50 : v43.cell? ⟨w.heap.size + 1, 0, none⟩ = some (.slice none 0 0) := X46.out.cell 0
  have q51 : v43.cell? ⟨w.heap.size + 1, 1, none⟩ = some (.slice none 0 0) := X46.out.cell 1
  have fz52 : ∀ o, v43.frozen? ⟨w.heap.size + 1, o, none⟩ = false := fun o => X46.out.free o
  rcases hor with ⟨hf, rfl, hL⟩ | ⟨hf, v0, rfl, hlast, hB⟩
  · have HNV := Lib.hid (show nvE t = 3 by unfold nvE; rw [HTB.out, hf]; rfl)
    clear hf hL
    go_wp2_with fail
    have hbb := ((B47.out.setCell (p := ⟨w.heap.size + 1, 0, none⟩) (Nat.le_succ _) (.slice none 0 0)).setCell (p := ⟨w.heap.size + 1, 1, none⟩) (Nat.le_succ _) (.slice none 0 0))
    refine bodyPost_ret (v := .tuple #[.agg #[.slice none 0 0, .slice none 0 0], .int .i64 3]) (by simp [results, Try.results19, go_sem, *]) rfl ?_
    exact ⟨_, _, _, _, _, _, by rw [HNV.out], hbb⟩
  have HNV := Lib.hid (show nvE t = 0 by unfold nvE; rw [HTB.out, hf]; rfl)
  have hra := ring_all (s0 := fs0 (tM t + 1)) (R := tM t + 2 + 1) A2.out.2.2.2.2 rfl (show (fs0 (tM t + 1)).B.length = tM t + 1 from ngTo_len _ _) (by omega) (by omega) rfl hlast
  rw [← hB] at hra
  obtain ⟨hc0, J, hJ1, hJ2, hJ3, hJ4⟩ := hra
  obtain ⟨cc, hcc⟩ : ∃ f : Nat → Nat, (fun k => wbs (edT t) B9 v0 k) = f := ⟨_, rfl⟩
  have hcv : ∀ k, cc k = wbs (edT t) B9 v0 k := fun k => by rw [← hcc]
  have HC0 := Lib.hid (show cc 0 = v0 from hcv 0)
  have HCC := Lib.hid (show ∀ k, cc k < tM t + 1 ∧ ∃ i, i < (edT t).length ∧ nth B9 (cc k) = (i : Int) ∧ (egAt (edT t) i).fr = cc (k + 1) from fun k => by rw [hcv, hcv]; exact hc0 k)
  have HJ := Lib.hid (show 1 ≤ J ∧ cc (tM t + 1 + J) = cc (tM t + 1) ∧ ∀ k, 1 ≤ k → k < J → cc (tM t + 1 + k) ≠ cc (tM t + 1) from ⟨hJ1, by rw [hcv, hcv]; exact hJ3, fun k h1 h2 => by rw [hcv, hcv]; exact hJ4 k h1 h2⟩)
  have HIN := Lib.hid (show ∀ a b, a < b → b < J → (fun j => cc (tM t + 1 + 1 + j)) a ≠ (fun j => cc (tM t + 1 + 1 + j)) b from ring_inj2 hcv HJ.out.2.1 HJ.out.2.2)
  clear hf hlast hB hc0 hJ1 hJ2 hJ3 hJ4 hcc hcv
  have hz : decide ((v0 : Int) < 0) = false := by simp
  go_wp2_with fail
  refine (redges_c t _ v43 (HT.out.mono B47.out B47.out.size) HTB.out).mono ?_; rintro e v53 ⟨lv, rfl, hre, hb54⟩
  have X55 := Lib.hid (X45.out.later hb54)
  have X56 := Lib.hid (X46.out.later hb54)
  have C57 := Lib.hid (HRB.out.later hb54)
  have B58 := Lib.hid (B47.out.trans (hb54.mono B47.out.size))
  clear hb54
  obtain ⟨ge, cap, rfl, hge1, hge2, hcap, hE⟩ := hre.edge (by have := A2.out; omega)
  have HNT := Lib.hid (nt_made HTB.out C57.out HLB.out hge2 hE HCC.out)
  rw [HNL.out] at HNT
  clear hre hge1 hge2 hcap hE hz
  obtain ⟨ml, hml⟩ : ∃ z, (edT t).length = z := ⟨_, rfl⟩
  rw [hml] at HNT ⊢
  have HML := Lib.hid (show ml ≤ 2000 by rw [← hml]; exact A2.out.2.1)
  clear hml
  clear q48 q49 q50 q51 fz52
  have q59 : v53.cell? ⟨w.heap.size, 0, none⟩ = some (.int .i64 t.wide) := X55.out.cell 0
  have q60 : v53.cell? ⟨w.heap.size, 1, none⟩ = some (.slice A nl c) := X55.out.cell 1
  have q61 : v53.cell? ⟨w.heap.size + 1, 0, none⟩ = some (.slice none 0 0) := X56.out.cell 0
  have q62 : v53.cell? ⟨w.heap.size + 1, 1, none⟩ = some (.slice none 0 0) := X56.out.cell 1
  have fz63 : ∀ o, v53.frozen? ⟨w.heap.size + 1, o, none⟩ = false := fun o => X56.out.free o
  clear q59 q60 q61 q62 fz63
  rw [← HC0.out]
  go_wp2_with fail
  go_loopw [7, 9] (fun hv iv wr => ∃ k : Nat, k ≤ tM t + 1 ∧ iv = .int .i64 (k : Int) ∧ hv = .int .i64 ((cc k : Nat) : Int) ∧ Nt wr gb ge ml (tM t + 1) nl cc ∧ Below w.heap.size w wr ∧ Box wr w.heap.size 24 #[.int .i64 t.wide, .slice A nl c] ∧ Box wr (w.heap.size + 1) 35 #[.slice none 0 0, .slice none 0 0]) (fun _ iv _ => tM t + 2 - (intOf iv).toNat)
  case atStart => exact ⟨0, Nat.zero_le _, rfl, rfl, HNT.out, B58.out, X55.out, X56.out⟩
  case round =>
    clear HNT B58 X55 X56
    obtain ⟨k, hk, rfl, rfl, hN, hb, hX0, hX1⟩ := hrel
    have HR := Lib.hid (⟨hN, hb, hX0, hX1⟩ : Nt wr gb ge ml (tM t + 1) nl cc ∧ Below w.heap.size w wr ∧ Box wr w.heap.size 24 #[.int .i64 t.wide, .slice A nl c] ∧ Box wr (w.heap.size + 1) 35 #[.slice none 0 0, .slice none 0 0])
    have q0 : wr.cell? ⟨w.heap.size, 0, none⟩ = some (.int .i64 t.wide) := hX0.cell 0
    have q1 : wr.cell? ⟨w.heap.size, 1, none⟩ = some (.slice A nl c) := hX0.cell 1
    clear hN hb hX0 hX1
    go_wp2_with fail
    refine (rFirsts_c t _ wr (HT.out.mono HR.out.2.1 HR.out.2.1.size) AR.out.2.2.2.2.2.2.1).mono ?_; rintro e w9 ⟨rfl, hb9⟩
    rw [AR.out.2.1]
    have HR9 := Lib.hid (⟨HR.out.1.later hb9, HR.out.2.1.trans (hb9.mono HR.out.2.1.size), HR.out.2.2.1.later hb9, HR.out.2.2.2.later hb9⟩ : Nt w9 gb ge ml (tM t + 1) nl cc ∧ Below w.heap.size w w9 ∧ Box w9 w.heap.size 24 #[.int .i64 t.wide, .slice A nl c] ∧ Box w9 (w.heap.size + 1) 35 #[.slice none 0 0, .slice none 0 0])
    clear q0 q1 hb9 HR
    by_cases hlt : k ≤ tM t
    · have hd : decide ((k : Int) ≤ (tM t : Int)) = true := decide_eq_true (by omega)
      have HK := Lib.hid hlt
      have hkk : k ≤ 401 := by have := A2.out; omega
      obtain ⟨hck, i, tz, mz, cz, bz, e0, hi, e1, -⟩ := HR9.out.1.2.2 k
      obtain ⟨a, ha⟩ : ∃ z, cc k = z := ⟨_, rfl⟩
      rw [ha] at hck e0 ⊢
      have i0 : (0 : Int) ≤ (a : Int) := by omega
      have i1 : (a : Int) < (tM t : Int) + 1 := by omega
      have i2 : (0 : Int) ≤ (i : Int) := by omega
      have i3 : (i : Int) < (ml : Int) := by omega
      clear hk hlt hck hi ha
      go_wp2_with fail
      go_roundw
      case rel => exact ⟨k + 1, by have := HK.out; omega, by go_num, rfl, HR9.out.1, HR9.out.2.1, HR9.out.2.2.1, HR9.out.2.2.2⟩
      case measure => have := HK.out; simp [intOf]; omega
    · obtain rfl : k = tM t + 1 := by omega
      have hd : decide (((tM t + 1 : Nat) : Int) ≤ (tM t : Int)) = false := decide_eq_false (by omega)
      have hd2 : decide ((tM t : Int) + 1 ≤ (tM t : Int)) = false := decide_eq_false (by omega)
      rw [show ((tM t + 1 : Nat) : Int) = (tM t : Int) + 1 by omega]
      obtain ⟨hck, i, tz, mz, cz, bz, e0, hi, e1, e2, e3, e4, e5, hcz⟩ := HR9.out.1.2.2 (tM t + 1)
      obtain ⟨a, ha⟩ : ∃ z, cc (tM t + 1) = z := ⟨_, rfl⟩
      have HA := Lib.hid ha
      rw [ha] at hck e0 ⊢
      obtain ⟨b9, hb9⟩ : ∃ z, cc (tM t + 1 + 1) = z := ⟨_, rfl⟩
      rw [hb9] at e1
      have HB9 := Lib.hid hb9
      have i0 : (0 : Int) ≤ (a : Int) := by omega
      have i1 : (a : Int) < ((tM t + 1 : Nat) : Int) := by omega
      have i1' : (a : Int) < (tM t : Int) + 1 := by omega
      have i2 : (0 : Int) ≤ (i : Int) := by omega
      have i3 : (i : Int) < (ml : Int) := by omega
      have HE0 := Lib.hid (⟨e0, e1, e2, e3, e4, e5, hcz⟩ : _ ∧ _ ∧ _ ∧ _ ∧ _ ∧ _ ∧ _)
      clear hk hlt hck hi ha hb9 e0 e1 e2 e3 e4 e5 hcz
      go_wp2_with fail
      clear hd hd2
      refine rnever12_c w9 w.heap.size gb ge a i (tM t + 1) ml cap nl (b9 : Int) tz mz cz bz t A c (HT.out.mono HR9.out.2.1 HR9.out.2.1.size) HNL.out HR9.out.2.2.1 HE0.out.1 HE0.out.2.1 HE0.out.2.2.1 HE0.out.2.2.2.1 HE0.out.2.2.2.2.1 HE0.out.2.2.2.2.2.1 HR9.out.1.1 HR9.out.1.2.1 HE0.out.2.2.2.2.2.2 (by have := A2.out; omega) i0 i1 i2 i3 _ _ _ _ _ _ _ _ _ _ _ _ _ _ _ _ _ _ _ _ _ _ _ _ _ _ _ _ _ _ _ _ _ _ _ _ _ _ _ _ _ _ _ _ _ _ _ _ _ _ _ _ _ _ _ _ _ _ _ _ _ _ _ _ _ _ _ _ _ _ _ _ _ _ _ _ _ _ _ (fun p g1 g2 y43 y44 y45 y46 y47 y48 y49 y50 y51 y52 W hpr hbx hn1 hn2 hl1 hl2 hl3 hbW => ?_)
      obtain ⟨b0, hb0⟩ : ∃ z, w9.heap.size = z := ⟨_, rfl⟩
      rw [hb0] at hl1 hl2 hl3 hbW
      have hsz := HR9.out.2.2.2.lt
      rw [hb0] at hsz
      have hgb := HR9.out.1.1
      have hge := HR9.out.1.2.1
      rw [hb0] at hgb hge
      have HG := Lib.hid (⟨hl1, hl2, hl3, hn1, hn2, hgb, hge, hsz⟩ : b0 ≤ g1 ∧ b0 ≤ g2 ∧ b0 ≤ p ∧ p ≠ g1 ∧ p ≠ g2 ∧ gb < b0 ∧ ge < b0 ∧ w.heap.size + 1 < b0)
      have HW := Lib.hid (⟨HR9.out.1.below hbW hgb hge, hpr, hbx, HR9.out.2.1.trans (hbW.mono (by omega)), HR9.out.2.2.2.below hbW hsz⟩ : Nt W gb ge ml (tM t + 1) nl cc ∧ Pr W g1 g2 nl ∧ Box W p 35 #[.slice (some ⟨g1, 0, none⟩) nl nl, .slice (some ⟨g2, 0, none⟩) nl nl] ∧ Below w.heap.size w W ∧ Box W (w.heap.size + 1) 35 #[.slice none 0 0, .slice none 0 0])
      have f0 := keepd HE0.out.1 (hb0 ▸ hbW) HR9.out.1.1
      have f1 := keepd HE0.out.2.1 (hb0 ▸ hbW) HR9.out.1.2.1
      clear hb0 hl1 hl2 hl3 hbW hsz hgb hge hpr hbx hn1 hn2 HE0 HR9
      go_wp2_with fail
      clear f0 f1 i0 i1 i1' i2 i3
      rw [← HB9.out]
      go_loopw [11] (fun iv wr => ∃ j : Nat, j < J ∧ iv = .int .i64 ((cc (tM t + 1 + 1 + j) : Nat) : Int) ∧ Nt wr gb ge ml (tM t + 1) nl cc ∧ Pr wr g1 g2 nl ∧ Box wr p 35 #[.slice (some ⟨g1, 0, none⟩) nl nl, .slice (some ⟨g2, 0, none⟩) nl nl] ∧ Below w.heap.size w wr ∧ Box wr (w.heap.size + 1) 35 #[.slice none 0 0, .slice none 0 0]) (fun iv _ => J - posOf (fun j => cc (tM t + 1 + 1 + j)) J (intOf iv).toNat)
      case atStart => exact ⟨0, by have := HJ.out.1; omega, rfl, HW.out.1, HW.out.2.1, HW.out.2.2.1, HW.out.2.2.2.1, HW.out.2.2.2.2⟩
      case round =>
        clear HW
        obtain ⟨j, hj, rfl, hN, hpr, hbx, hb, hX1⟩ := hrel
        have HR := Lib.hid (⟨hN, hpr, hbx, hb, hX1⟩ : Nt wr gb ge ml (tM t + 1) nl cc ∧ Pr wr g1 g2 nl ∧ Box wr p 35 #[.slice (some ⟨g1, 0, none⟩) nl nl, .slice (some ⟨g2, 0, none⟩) nl nl] ∧ Below w.heap.size w wr ∧ Box wr (w.heap.size + 1) 35 #[.slice none 0 0, .slice none 0 0])
        have HJJ := Lib.hid hj
        clear hN hpr hbx hb hX1
        by_cases hlt : j + 1 < J
        · have hne := HJ.out.2.2 (j + 1) (by omega) hlt
          rw [HA.out, show tM t + 1 + (j + 1) = tM t + 1 + 1 + j by omega] at hne
          obtain ⟨hck, i, tz, mz, cz, bz, e0, hi, e1, e2, e3, e4, e5, hcz⟩ := HR.out.1.2.2 (tM t + 1 + 1 + j)
          obtain ⟨a2, ha2⟩ : ∃ z, cc (tM t + 1 + 1 + j) = z := ⟨_, rfl⟩
          have HA2 := Lib.hid ha2
          rw [ha2] at hck e0 hne ⊢
          obtain ⟨b2, hb2⟩ : ∃ z, cc (tM t + 1 + 1 + j + 1) = z := ⟨_, rfl⟩
          rw [hb2] at e1
          have HB2 := Lib.hid hb2
          have hd : ((a2 : Int) != (a : Int)) = true := by simp; omega
          have i0 : (0 : Int) ≤ (a2 : Int) := by omega
          have i1 : (a2 : Int) < ((tM t + 1 : Nat) : Int) := by omega
          have i1' : (a2 : Int) < (tM t : Int) + 1 := by omega
          have i2 : (0 : Int) ≤ (i : Int) := by omega
          have i3 : (i : Int) < (ml : Int) := by omega
          have HK := Lib.hid hlt
          have HE0 := Lib.hid (⟨e0, e1, e2, e3, e4, e5, hcz⟩ : _ ∧ _ ∧ _ ∧ _ ∧ _ ∧ _ ∧ _)
          clear hj hlt hck hi ha2 hb2 hne e0 e1 e2 e3 e4 e5 hcz
          go_wp2_with fail
          clear hd
          refine rnever16_c wr p g1 g2 gb ge a2 i (tM t + 1) ml cap nl b0 (b2 : Int) tz mz cz bz HR.out.2.1 HR.out.2.2.1 HG.out.2.2.2.1 HG.out.2.2.2.2.1 (by have := HG.out; have := HR.out.2.2.1.lt; omega) HG.out.1 HG.out.2.1 HG.out.2.2.1 HE0.out.1 HE0.out.2.1 HE0.out.2.2.1 HE0.out.2.2.2.1 HE0.out.2.2.2.2.1 HE0.out.2.2.2.2.2.1 HG.out.2.2.2.2.2.1 HG.out.2.2.2.2.2.2.1 HE0.out.2.2.2.2.2.2 (by have := A2.out; omega) i0 i1 i2 i3 _ _ _ _ _ _ _ _ _ _ _ _ _ _ _ _ _ _ _ _ _ _ _ _ _ _ _ _ _ _ _ _ _ _ _ _ _ _ _ _ _ _ _ _ _ _ _ _ _ _ _ _ _ _ _ _ _ _ _ _ _ _ _ _ _ _ _ _ _ _ _ _ _ _ _ _ _ _ _ (fun y72 y73 y74 y75 y76 y77 y78 y79 y80 W2 hpr hbx hbW => ?_)
          have f0 := keepd HE0.out.1 hbW HG.out.2.2.2.2.2.1
          have f1 := keepd HE0.out.2.1 hbW HG.out.2.2.2.2.2.2.1
          have HW := Lib.hid (⟨HR.out.1.below hbW HG.out.2.2.2.2.2.1 HG.out.2.2.2.2.2.2.1, hpr, hbx, HR.out.2.2.2.1.trans (hbW.mono (by have := HG.out; omega)), HR.out.2.2.2.2.below hbW HG.out.2.2.2.2.2.2.2⟩ : Nt W2 gb ge ml (tM t + 1) nl cc ∧ Pr W2 g1 g2 nl ∧ Box W2 p 35 #[.slice (some ⟨g1, 0, none⟩) nl nl, .slice (some ⟨g2, 0, none⟩) nl nl] ∧ Below w.heap.size w W2 ∧ Box W2 (w.heap.size + 1) 35 #[.slice none 0 0, .slice none 0 0])
          clear hpr hbx hbW HE0 HR
          go_wp2_with fail
          go_roundw
          case rel => exact ⟨j + 1, HK.out, by rw [← HB2.out]; rfl, HW.out.1, HW.out.2.1, HW.out.2.2.1, HW.out.2.2.2.1, HW.out.2.2.2.2⟩
          case measure =>
            have e1 := posOf_at (f := fun j => cc (tM t + 1 + 1 + j)) HJJ.out HIN.out
            have e2 := posOf_at (f := fun j => cc (tM t + 1 + 1 + j)) HK.out HIN.out
            try dsimp only at e1 e2
            rw [HA2.out] at e1
            rw [show tM t + 1 + 1 + (j + 1) = tM t + 1 + 1 + j + 1 by omega, HB2.out] at e2
            have := HK.out
            simp [intOf, e1, e2]
            omega
        · obtain rfl : J = j + 1 := by omega
          have e9 := HJ.out.2.1
          rw [HA.out, show tM t + 1 + (j + 1) = tM t + 1 + 1 + j by omega] at e9
          rw [e9]
          have hd : ((a : Int) != (a : Int)) = false := by simp
          have q0 : wr.cell? ⟨p, 0, none⟩ = some (.slice (some ⟨g1, 0, none⟩) nl nl) := HR.out.2.2.1.cell 0
          have q1 : wr.cell? ⟨p, 1, none⟩ = some (.slice (some ⟨g2, 0, none⟩) nl nl) := HR.out.2.2.1.cell 1
          have q2 : wr.cell? ⟨w.heap.size + 1, 0, none⟩ = some (.slice none 0 0) := HR.out.2.2.2.2.cell 0
          have q3 : wr.cell? ⟨w.heap.size + 1, 1, none⟩ = some (.slice none 0 0) := HR.out.2.2.2.2.cell 1
          have q4 : ∀ o, wr.frozen? ⟨w.heap.size + 1, o, none⟩ = false := fun o => HR.out.2.2.2.2.free o
          clear hj hlt e9
          go_wp2_with fail
          have hbb := ((HR.out.2.2.2.1.setCell (p := ⟨w.heap.size + 1, 0, none⟩) (Nat.le_succ _) (.slice (some ⟨g1, 0, none⟩) nl nl)).setCell (p := ⟨w.heap.size + 1, 1, none⟩) (Nat.le_succ _) (.slice (some ⟨g2, 0, none⟩) nl nl))
          refine bodyPost_ret (v := .tuple #[.agg #[.slice (some ⟨g1, 0, none⟩) nl nl, .slice (some ⟨g2, 0, none⟩) nl nl], .int .i64 0]) (by simp [results, Try.results19, go_sem, *]) rfl ?_
          exact ⟨_, _, _, _, _, _, by rw [HNV.out], hbb⟩

end Go.Proofs.Ytfafjojoapcliaa

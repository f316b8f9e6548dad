/- Layer 7: trains one behind the other, and the other way round: mathematics alone. -/
import Derived.Test.YtmmfmanjajefcaaGT
import Derived.Test.YtmmfmanjajefcaaGR0
set_option linter.all false
namespace Go.Proofs.Ytmmfmanjajefcaa
open Go.RowKit

theorem ms_news {w : World} {B n c : Nat} {A : Option Addr} {ms : List Mh} (h : Mss w B (.slice A n c) ms) (hp : 0 < ms.length) : ∃ b off, A = some ⟨b, off, none⟩ ∧ n = ms.length ∧ ms.length ≤ c ∧ b < B ∧ ∀ (j : Nat) (u : Value), (flat3 ms)[j]? = some u → w.cell? ((⟨b, off, none⟩ : Addr).add j) = some u := by
  obtain ⟨A', c', he, hc, h3⟩ := h
  injection he with e1 e2 e3
  subst e1 e2 e3
  obtain ⟨b, off, rfl, hb, hx⟩ := h3 hp
  refine ⟨b, off, rfl, rfl, hc, hb, fun j u hu => ?_⟩
  have hj : j < (flat3 ms).length := (List.getElem?_eq_some_iff.1 hu).1
  rw [flat3_len] at hj
  have ea : (⟨b, off, none⟩ : Addr).add j = ⟨b, off + j, none⟩ := by rcases j with _ | j <;> simp [Addr.add]
  rw [ea]
  have hk : j / 3 < ms.length := by omega
  obtain ⟨a1, a2, a3⟩ := flat3_at ms (j / 3) hk
  obtain ⟨x1, x2, x3⟩ := hx (j / 3) hk
  rcases (show j = j / 3 * 3 ∨ j = j / 3 * 3 + 1 ∨ j = j / 3 * 3 + 2 by omega) with e | e | e
  · rw [← e] at a1 x1; rw [x1, ← a1, hu]
  · rw [← e] at a2; rw [show off + j / 3 * 3 + 1 = off + j by omega] at x2; rw [x2, ← a2, hu]
  · rw [← e] at a3; rw [show off + j / 3 * 3 + 2 = off + j by omega] at x3; rw [x3, ← a3, hu]
theorem news_kept {w w' : World} {b off : Nat} {l : List Value} (h : ∀ (j : Nat) (u : Value), l[j]? = some u → w.cell? ((⟨b, off, none⟩ : Addr).add j) = some u) (hb : Below w.heap.size w w') (hlt : b < w.heap.size) : ∀ (j : Nat) (u : Value), l[j]? = some u → w'.cell? ((⟨b, off, none⟩ : Addr).add j) = some u := by
  intro j u hu
  have ea : (⟨b, off, none⟩ : Addr).add j = ⟨b, off + j, none⟩ := by rcases j with _ | j <;> simp [Addr.add]
  have hz := h j u hu
  rw [ea] at hz ⊢
  exact keepd hz hb hlt
theorem flat3_one (ms : List Mh) : ∀ u ∈ flat3 ms, u.oneCell' = true := by
  induction ms with
  | nil => intro u hu; simp [flat3] at hu
  | cons m l ih =>
    intro u hu
    simp only [flat3, List.mem_cons] at hu
    rcases hu with rfl | rfl | rfl | h
    · rfl
    · rfl
    · rfl
    · exact ih u h
theorem prodL_rev : ∀ l : List Nat, prodL l.reverse = prodL l
  | [] => rfl
  | a :: l => by rw [List.reverse_cons, prodL_append, prodL_rev l]; simp [prodL, Nat.mul_comm]
theorem mesh_sw (m : Mh) : mB (sw m) = mB m := by
  unfold mB meshB sw
  rw [Bool.eq_iff_iff]
  simp only [Bool.and_eq_true, inB_iff]
  omega
theorem bk_fr (ms : List Mh) : frN ((bk ms).map mF) = frD (ms.map mF) ∧ frD ((bk ms).map mF) = frN (ms.map mF) := by
  have e1 : ((bk ms).map mF).map (·.1) = ((ms.map mF).map (·.2)).reverse := by unfold bk; simp [List.map_reverse, List.map_map, Function.comp_def, sw, mF]
  have e2 : ((bk ms).map mF).map (·.2) = ((ms.map mF).map (·.1)).reverse := by unfold bk; simp [List.map_reverse, List.map_map, Function.comp_def, sw, mF]
  constructor
  · show prodL (((bk ms).map mF).map (·.1)) = prodL ((ms.map mF).map (·.2)); rw [e1, prodL_rev]
  · show prodL (((bk ms).map mF).map (·.2)) = prodL ((ms.map mF).map (·.1)); rw [e2, prodL_rev]
theorem bk_tr (ms : List Mh) : trB (bk ms) = trB ms := by
  unfold trB
  rw [bk_len]
  congr 1
  unfold bk
  rw [List.all_reverse, List.all_map]
  congr 1
  funext m
  exact mesh_sw m
theorem rt_three (ms : List Mh) : (trB ms = false ∧ rtR ms = ⟨0, 0, 70⟩) ∨ (trB ms = true ∧ rtR ms = ⟨0, 0, 2⟩) ∨ (trB ms = true ∧ ∃ N D : Nat, rtR ms = ⟨(N : Int), (D : Int), 0⟩ ∧ 0 < N ∧ N ≤ 1000000000 ∧ 0 < D ∧ D ≤ 1000000000 ∧ N.gcd D = 1 ∧ Is N D (frN (ms.map mF)) (frD (ms.map mF))) := by
  cases hv : trB ms
  · left; exact ⟨rfl, by unfold rtR; rw [hv]; rfl⟩
  · right
    rcases rt_two hv with ⟨-, h2⟩ | ⟨-, N, D, h⟩
    · left; exact ⟨rfl, h2⟩
    · right; exact ⟨rfl, N, D, h⟩
theorem rt_back {ms : List Mh} {N D : Nat} (hv : trB ms = true) (hN : 0 < N) (hN2 : N ≤ 1000000000) (hD : 0 < D) (hD2 : D ≤ 1000000000) (hg : N.gcd D = 1) (hi : Is N D (frN (ms.map mF)) (frD (ms.map mF))) : rtR (bk ms) = ⟨(D : Int), (N : Int), 0⟩ := by
  have e : rtR (bk ms) = rOf (frD (ms.map mF)) (frN (ms.map mF)) := by
    unfold rtR; rw [bk_tr, hv, (bk_fr ms).1, (bk_fr ms).2]; rfl
  have hp : 0 < frN (ms.map mF) := by
    obtain ⟨k1, k2, k3, -⟩ := tr_facts hv
    exact prodL_fst_pos (frPos_ms k3 (by omega)).2
  rw [e, ← rOf_is (hi.inv hN hp)]
  exact rOf_cop hN hD2 hN2 (by rw [Nat.gcd_comm]; exact hg)
theorem tr_join {ms us : List Mh} (hv : trB ms = true) (hu : trB us = true) (hl : ms.length + us.length ≤ 16) : trB (ms ++ us) = true := by
  obtain ⟨k1, k2, k3, -⟩ := tr_facts hv
  obtain ⟨j1, j2, j3, -⟩ := tr_facts hu
  unfold trB
  rw [Bool.and_eq_true, inB_iff, List.all_append, k3, j3, List.length_append]
  exact ⟨by omega, rfl⟩
theorem rt_join {ms us : List Mh} {N D M C : Nat} (hv : trB ms = true) (hu : trB us = true) (hl : ms.length + us.length ≤ 16)
    (hN2 : N ≤ 1000000000) (hD : 0 < D) (hD2 : D ≤ 1000000000) (hg : N.gcd D = 1) (hi : Is N D (frN (ms.map mF)) (frD (ms.map mF)))
    (hM2 : M ≤ 1000000000) (hC : 0 < C) (hC2 : C ≤ 1000000000) (hg2 : M.gcd C = 1) (hj : Is M C (frN (us.map mF)) (frD (us.map mF))) : tmR (N : Int) (D : Int) (M : Int) (C : Int) = rtR (ms ++ us) := by
  have e : rtR (ms ++ us) = rOf (frN (ms.map mF) * frN (us.map mF)) (frD (ms.map mF) * frD (us.map mF)) := by
    unfold rtR
    rw [tr_join hv hu hl, if_pos rfl]
    unfold frN frD
    rw [List.map_append, List.map_append, List.map_append, prodL_append, prodL_append]
  rw [e, tm_val (rtB_nat hN2 hD hD2 hg) (rtB_nat hM2 hC hC2 hg2)]
  simp only [Int.toNat_natCast]
  exact rOf_is (hi.mul hj)
end Go.Proofs.Ytmmfmanjajefcaa

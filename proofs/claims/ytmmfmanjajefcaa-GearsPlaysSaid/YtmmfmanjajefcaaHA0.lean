/- Layer 7: standing again after a period: mathematics alone. -/
import Derived.Test.YtmmfmanjajefcaaGR0
set_option linter.all false
namespace Go.Proofs.Ytmmfmanjajefcaa
open Go.RowKit

theorem st_more (T q N z D : Nat) (hD : 0 < D) : (T + D * q) * N * z / D % z = T * N * z / D % z := by
  have e : (T + D * q) * N * z = T * N * z + D * (q * N * z) := by grind
  rw [e, Nat.add_mul_div_left _ _ hD, Nat.add_mul_mod_self_right]
theorem stL_again {ms : List Mh} (hv : trB ms = true) (hok : shOk ms (ms.length + 1)) {T n : Nat} (hn : ∀ s, s < ms.length + 1 → (shN ms s).2 ∣ n) : ∀ {k : Nat}, k ≤ ms.length → stL ms (T + n) k = stL ms T k
  | 0, _ => rfl
  | k + 1, h => by
    unfold stL
    rw [stL_again hv hok hn (by omega)]
    obtain ⟨q1, h1⟩ := hn k (by omega)
    obtain ⟨q2, h2⟩ := hn (k + 1) (by omega)
    have e1 : stA ms (T + n) k = stA ms T k := by
      unfold stA; rw [h1]; exact st_more _ _ _ _ _ (shN_pos ms hv (hok k (by omega))).1
    have e2 : stB ms (T + n) k = stB ms T k := by
      unfold stB; rw [h2]; exact st_more _ _ _ _ _ (shN_pos ms hv (hok (k + 1) (by omega))).1
    rw [e1, e2]
theorem st_zero {ms : List Mh} {t : Int} (h : stE ms t = 0) : trB ms = true ∧ inB t 0 1000000 = true ∧ shOk ms (ms.length + 1) ∧ stV ms t = stL ms t.toNat ms.length := by
  have h' := h
  unfold stE at h
  cases hv : trB ms
  · rw [hv, if_neg (by decide)] at h; exact absurd h (by decide)
  cases ht : inB t 0 1000000
  · rw [hv, ht, if_pos rfl, if_neg (by decide)] at h; exact absurd h (by decide)
  cases hs : shB ms (ms.length + 1)
  · rw [hv, ht, hs, if_pos rfl, if_pos rfl, if_neg (by decide)] at h; exact absurd h (by decide)
  exact ⟨rfl, rfl, shB_iff.1 hs, by unfold stV; rw [if_pos h']⟩
theorem pr_two {ms : List Mh} (hv : trB ms = true) (hok : shOk ms (ms.length + 1)) : prE ms = 2 ∨ (prE ms = 0 ∧ 1 ≤ prV ms ∧ prV ms ≤ 1099511627776 ∧ ∀ s, s < ms.length + 1 → (shN ms s).2 ∣ prV ms) := by
  have hs := shB_iff.2 hok
  cases hp : peL ms (ms.length + 1) with
  | none => left; unfold prE; rw [hv, hs, hp]; rfl
  | some n =>
    right
    have e : prE ms = 0 := by unfold prE; rw [hv, hs, hp]; rfl
    have e2 : prV ms = n := by unfold prV; rw [if_pos e, hp]; rfl
    rw [e2]
    obtain ⟨a, b, c⟩ := peL_bd hv hok hp
    exact ⟨e, a, b, c⟩
theorem st_again {ms : List Mh} {t : Int} (h : stE ms t = 0) (hp : prE ms = 0) (hn : (prV ms : Int) ≤ 1000000 - t) : stE ms (t + (prV ms : Int)) = 0 ∧ stV ms (t + (prV ms : Int)) = stV ms t := by
  obtain ⟨hv, ht, hok, e⟩ := st_zero h
  obtain ⟨t0, t1⟩ := inB_iff.1 ht
  have e2 : stE ms (t + (prV ms : Int)) = 0 := by
    unfold stE
    rw [hv, if_pos rfl, if_pos (inB_iff.2 (by omega)), if_pos (shB_iff.2 hok)]
  refine ⟨e2, ?_⟩
  rcases pr_two hv hok with hx | ⟨-, -, -, hd⟩
  · rw [hx] at hp; exact absurd hp (by decide)
  obtain ⟨-, -, -, e3⟩ := st_zero e2
  rw [e3, e, show (t + (prV ms : Int)).toNat = t.toNat + prV ms by omega]
  exact stL_again hv hok hd (Nat.le_refl _)
theorem sh_first {ms : List Mh} (hv : trB ms = true) : shN ms 0 = (1, drv ms) ∧ (∀ h : 0 < ms.length, shN ms 1 = (1, ms[0].2.1.toNat)) := by
  obtain ⟨k1, k2, k3, k4, k5, h0, k6⟩ := tr_facts hv
  have hm : mB ms[0] = true := List.all_eq_true.1 k3 _ (List.getElem_mem h0)
  obtain ⟨X, Y, Z, a, b, c, x0, x1, y0, y1, z1⟩ := mesh_nat3 hm
  constructor
  · have e : trnR ms 0 = ⟨1, (drv ms : Int), 0⟩ := by
      have : trnR ms 0 = rOf 1 (1 * drv ms) := by unfold trnR; simp [frN, frD, prodL]
      rw [this, Nat.one_mul]
      exact rOf_cop (by omega) (by omega) (by omega) (Nat.gcd_one_left _)
    unfold shN; rw [e]; simp
  · intro h
    have e : trnR ms 1 = ⟨1, (ms[0].2.1.toNat : Int), 0⟩ := by
      have et : ms.take 1 = [ms[0]] := by
        rcases ms with _ | ⟨m, r⟩
        · simp at h0
        · simp
      have : trnR ms 1 = rOf X (Y * drv ms) := by
        unfold trnR
        rw [et]
        simp only [List.map, frN, frD, prodL, mF, a, b, Int.toNat_natCast, Nat.mul_one]
      have ed : drv ms = X := by have h1 := k6.symm.trans a; omega
      rw [this, ed, b]
      simp only [Int.toNat_natCast]
      have : rOf X (Y * X) = rOf 1 Y := rOf_is ⟨Nat.mul_pos y0 x0, y0, by rw [Nat.one_mul, Nat.mul_comm]⟩
      rw [this]
      exact rOf_cop y0 (by omega) (by omega) (Nat.gcd_one_left _)
    unfold shN; rw [e]; show ((1 : Int).toNat, ((ms[0].2.1.toNat : Nat) : Int).toNat) = _; rw [Int.toNat_natCast]; rfl
theorem stL_get {ms : List Mh} {T : Nat} : ∀ {k : Nat}, 0 < k → (stL ms T k).take 2 = [stA ms T 0, stB ms T 0]
  | 1, _ => by simp [stL]
  | k + 2, _ => by
    rw [stL, List.take_append_of_le_length (by rw [stL_len]; omega)]
    exact stL_get (by omega)
theorem st_first {ms : List Mh} {t : Int} (h : stE ms t = 0) : (stV ms t).length = 2 * ms.length ∧ ∃ (X Y : Nat) (h0 : 0 < ms.length), 0 < X ∧ X ≤ 4096 ∧ 0 < Y ∧ Y ≤ 4096 ∧ ms[0].1 = (X : Int) ∧ ms[0].2.1 = (Y : Int) ∧ nth (nats (stV ms t)) 0 = t % (X : Int) ∧ nth (nats (stV ms t)) 1 = t % (Y : Int) := by
  obtain ⟨hv, ht, hok, e⟩ := st_zero h
  obtain ⟨t0, t1⟩ := inB_iff.1 ht
  obtain ⟨k1, k2, k3, k4, k5, h0, k6⟩ := tr_facts hv
  have hm : mB ms[0] = true := List.all_eq_true.1 k3 _ (List.getElem_mem h0)
  obtain ⟨X, Y, Z, a, b, c, x0, x1, y0, y1, z1⟩ := mesh_nat3 hm
  have hl : (stV ms t).length = 2 * ms.length := by rw [e, stL_len]
  refine ⟨hl, X, Y, h0, x0, x1, y0, y1, a, b, ?_⟩
  obtain ⟨T, rfl⟩ := Int.eq_ofNat_of_zero_le t0
  have hA : stA ms T 0 = T % X := by
    have ed : drv ms = X := by have h1 := k6.symm.trans a; omega
    unfold stA; rw [(sh_first hv).1, mfN_at h0, ed]
    simp only [mF, a, Int.toNat_natCast, Nat.mul_one]
    rw [Nat.mul_div_cancel _ x0]
  have hB : stB ms T 0 = T % Y := by
    unfold stB; rw [(sh_first hv).2 h0, mfN_at h0]
    simp only [mF, b, Int.toNat_natCast, Nat.mul_one]
    rw [Nat.mul_div_cancel _ y0]
  have hg := stL_get (ms := ms) (T := T) (k := ms.length) h0
  rw [e, Int.toNat_natCast]
  have hlen := stL_len ms T ms.length
  generalize stL ms T ms.length = l at hg hlen
  rcases l with _ | ⟨p, _ | ⟨q, r⟩⟩
  · simp at hlen; omega
  · simp at hlen; omega
  · simp only [List.take, List.cons.injEq] at hg
    obtain ⟨g1, g2, -⟩ := hg
    rw [nth_nats (by simp), nth_nats (by simp)]
    simp only [List.getElem_cons_zero, List.getElem_cons_succ]
    rw [g1, g2, hA, hB]
    exact ⟨by simp, by simp⟩
end Go.Proofs.Ytmmfmanjajefcaa

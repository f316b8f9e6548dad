/- Layer 7: what greater play changes: mathematics alone. -/
import Derived.Test.YtmmfmanjajefcaaHA0
import Derived.Test.YtmmfmanjajefcaaHJ0
set_option linter.all false
namespace Go.Proofs.Ytmmfmanjajefcaa
open Go.RowKit

theorem le_part {M x y t : Int} (hM : 0 < M) (h0 : 0 ≤ t) (h1 : t < M) : x * M ≤ y * M + t ↔ x ≤ y := by
  constructor
  · intro h
    by_cases hc : x ≤ y
    · exact hc
    · have := Int.mul_le_mul_of_nonneg_right (show y + 1 ≤ x by omega) (show 0 ≤ M by omega)
      rw [Int.add_mul, Int.one_mul] at this
      omega
  · intro h
    have := Int.mul_le_mul_of_nonneg_right h (show 0 ≤ M by omega)
    omega
theorem hm_iff {P S D n d : Nat} (hD : 0 < D) (hd : 0 < d) (x : Int) : x ≤ hmI P S D n d ↔ x * ((D * d : Nat) : Int) ≤ ((P * S * d : Nat) : Int) - ((n * S * D : Nat) : Int) := by
  obtain ⟨A, hA⟩ : ∃ A, P * S = A := ⟨_, rfl⟩
  obtain ⟨B, hB⟩ : ∃ B, n * S = B := ⟨_, rfl⟩
  have e1 := Nat.div_add_mod A D
  have e2 := Nat.div_add_mod B d
  have r1 := Nat.mod_lt A hD
  have r2 := Nat.mod_lt B hd
  unfold hmI
  rw [hA, hB]
  generalize A / D = a at *
  generalize A % D = r at *
  generalize B / d = b at *
  generalize B % d = q at *
  obtain ⟨M, hM⟩ : ∃ M, D * d = M := ⟨_, rfl⟩
  have hM0 : 0 < M := by rw [← hM]; exact Nat.mul_pos hD hd
  have p1 : r * d + d ≤ M := by rw [← hM, ← Nat.succ_mul]; exact Nat.mul_le_mul_right _ r1
  have p2 : q * D + D ≤ M := by rw [← hM, ← Nat.succ_mul, Nat.mul_comm D d]; exact Nat.mul_le_mul_right _ r2
  have k1 : ((A * d : Nat) : Int) = (a : Int) * (M : Int) + ((r * d : Nat) : Int) := by
    have : A * d = a * M + r * d := by rw [← e1, ← hM]; grind
    rw [this]; push_cast; rfl
  have k2 : ((B * D : Nat) : Int) = (b : Int) * (M : Int) + ((q * D : Nat) : Int) := by
    have : B * D = b * M + q * D := by rw [← e2, ← hM]; grind
    rw [this]; push_cast; rfl
  rw [hM, k1, k2]
  obtain ⟨u, hu⟩ : ∃ u, r * d = u := ⟨_, rfl⟩
  obtain ⟨v, hv⟩ : ∃ v, q * D = v := ⟨_, rfl⟩
  rw [hu] at p1
  rw [hv] at p2
  rw [hu, hv]
  clear hu hv k1 k2 e1 e2
  have e3 : (a : Int) * (M : Int) + (u : Int) - ((b : Int) * (M : Int) + (v : Int)) = ((a : Int) - (b : Int)) * (M : Int) + ((u : Int) - (v : Int)) := by rw [Int.sub_mul]; omega
  rw [e3]
  by_cases hc : u < v
  · rw [if_pos hc]
    have e4 : ((a : Int) - (b : Int)) * (M : Int) + ((u : Int) - (v : Int)) = ((a : Int) - (b : Int) - 1) * (M : Int) + ((M : Int) + (u : Int) - (v : Int)) := by rw [Int.sub_mul _ 1, Int.one_mul]; omega
    rw [e4]
    exact (le_part (by omega) (by omega) (by omega)).symm
  · rw [if_neg hc, Int.sub_zero]
    exact (le_part (by omega) (by omega) (by omega)).symm
theorem hm_le {P S D n d n' d' : Nat} (hD : 0 < D) (hd : 0 < d) (hd' : 0 < d') (h : n * d' ≤ n' * d) : hmI P S D n' d' ≤ hmI P S D n d := by
  refine (hm_iff hD hd _).2 ?_
  have h1 := (hm_iff (P := P) (S := S) (n := n') hD hd' (hmI P S D n' d')).1 (Int.le_refl _)
  generalize hmI P S D n' d' = x at *
  refine Int.le_of_mul_le_mul_right (a := (d' : Int)) ?_ (by omega)
  have h2 := Int.mul_le_mul_of_nonneg_right h1 (show (0 : Int) ≤ (d : Int) by omega)
  have h3 : n * S * D * d' ≤ n' * S * D * d := by
    have := Nat.mul_le_mul_right (S * D) h
    have a1 : n * d' * (S * D) = n * S * D * d' := by grind
    have a2 : n' * d * (S * D) = n' * S * D * d := by grind
    rw [a1, a2] at this; exact this
  have a1 : x * ((D * d' : Nat) : Int) * (d : Int) = x * ((D * d : Nat) : Int) * (d' : Int) := by push_cast; grind
  have a2 : (((P * S * d' : Nat) : Int) - ((n' * S * D : Nat) : Int)) * (d : Int) = ((P * S * d * d' : Nat) : Int) - ((n' * S * D * d : Nat) : Int) := by push_cast; grind
  have a3 : (((P * S * d : Nat) : Int) - ((n * S * D : Nat) : Int)) * (d' : Int) = ((P * S * d * d' : Nat) : Int) - ((n * S * D * d' : Nat) : Int) := by push_cast; grind
  rw [a1, a2] at h2
  rw [a3]
  exact Int.le_trans h2 (Int.sub_le_sub_left (Int.ofNat_le.2 h3) _)
theorem hm_hi (P S D n d : Nat) : hmI P S D n d ≤ ((fmN P S D : Nat) : Int) := by
  unfold hmI fmN; generalize P * S / D = a; generalize n * S / d = b; split <;> omega
theorem hm_none {P S D d : Nat} : hmI P S D 0 d = ((fmN P S D : Nat) : Int) := by
  unfold hmI fmN; simp
/-- meshes of which the second ones have as much play at least -/
def PtL : List Mh → List Mh → Prop
  | [], [] => True
  | m :: l, m' :: l' => (m.1 = m'.1 ∧ m.2.1 = m'.2.1 ∧ m.2.2 ≤ m'.2.2) ∧ PtL l l'
  | _, _ => False
theorem Is.trans {a b n d N D : Nat} (h : Is a b n d) (k : Is n d N D) : Is a b N D := by
  obtain ⟨h1, h2, h3⟩ := h
  obtain ⟨k1, k2, k3⟩ := k
  refine ⟨h1, k2, Nat.eq_of_mul_eq_mul_right k1 ?_⟩
  have e1 : a * D * d = a * d * D := by grind
  have e2 : N * b * d = N * d * b := by grind
  rw [e1, h3, e2, ← k3]; grind
theorem plS_is {n d X Y Z a b : Nat} (hv : RtV n d) (hX : 0 < X ∧ X ≤ 4096) (hY : 0 < Y ∧ Y ≤ 4096) (hZ : Z ≤ 1000) (h : plS n d ((X : Int), (Y : Int), (Z : Int)) = ⟨(a : Int), (b : Int), 0⟩) :
    Is a b (n * X * (1000 * Y) + Z * (d * Y)) (d * Y * (1000 * Y)) := by
  obtain ⟨p, q, -, h2, h3, h4⟩ := plS_parts hv hX hY hZ
  rcases h4 with ⟨-, h5⟩ | ⟨a1, b1, -, k2, k3, k4⟩
  · rw [h5] at h; injection h with _ _ h; exact absurd h (by decide)
  · rw [k4] at h
    rcases plR_two k2 h2 with ⟨-, j1⟩ | ⟨-, A, B, j1, j2, j3⟩
    · rw [j1] at h; injection h with _ _ h; exact absurd h (by decide)
    · rw [j1] at h
      injection h with e1 e2 _
      have e1' : A = a := by omega
      have e2' : B = b := by omega
      subst e1' e2'
      exact j3.trans (k3.add h3)
theorem plS_le {n d n' d' a b a' b' : Nat} {m m' : Mh} (hv : RtV n d) (hv' : RtV n' d') (hm : mB m = true) (hm' : mB m' = true) (hp : m.1 = m'.1 ∧ m.2.1 = m'.2.1 ∧ m.2.2 ≤ m'.2.2) (hle : n * d' ≤ n' * d)
    (h : plS n d m = ⟨(a : Int), (b : Int), 0⟩) (h' : plS n' d' m' = ⟨(a' : Int), (b' : Int), 0⟩) : a * b' ≤ a' * b := by
  obtain ⟨x, y, z⟩ := m
  obtain ⟨x', y', z'⟩ := m'
  obtain ⟨X, Y, Z, rfl, rfl, rfl, x0, x1, y0, y1, z1⟩ := mesh_nat3 hm
  obtain ⟨X', Y', Z', rfl, rfl, rfl, -, -, -, -, z1'⟩ := mesh_nat3 hm'
  obtain ⟨p1, p2, p3⟩ := hp
  simp only at p1 p2 p3
  have e1 : X = X' := by omega
  have e2 : Y = Y' := by omega
  have e3 : Z ≤ Z' := by omega
  subst e1 e2
  have i1 := plS_is hv ⟨x0, x1⟩ ⟨y0, y1⟩ z1 h
  have i2 := plS_is hv' ⟨x0, x1⟩ ⟨y0, y1⟩ z1' h'
  have hl := i2.lt i1
  refine Nat.not_lt.1 fun hc => ?_
  have hc2 := hl.1 hc
  have f1 : n * X * (1000 * Y) * (d' * Y * (1000 * Y)) ≤ n' * X * (1000 * Y) * (d * Y * (1000 * Y)) := by
    have := Nat.mul_le_mul_right (X * (1000 * Y) * (Y * (1000 * Y))) hle
    have a1 : n * d' * (X * (1000 * Y) * (Y * (1000 * Y))) = n * X * (1000 * Y) * (d' * Y * (1000 * Y)) := by grind
    have a2 : n' * d * (X * (1000 * Y) * (Y * (1000 * Y))) = n' * X * (1000 * Y) * (d * Y * (1000 * Y)) := by grind
    rw [a1, a2] at this; exact this
  have f2 : Z * (d * Y) * (d' * Y * (1000 * Y)) ≤ Z' * (d' * Y) * (d * Y * (1000 * Y)) := by
    have := Nat.mul_le_mul_right (d * Y * (d' * Y * (1000 * Y))) e3
    have a1 : Z * (d * Y * (d' * Y * (1000 * Y))) = Z * (d * Y) * (d' * Y * (1000 * Y)) := by grind
    have a2 : Z' * (d * Y * (d' * Y * (1000 * Y))) = Z' * (d' * Y) * (d * Y * (1000 * Y)) := by grind
    rw [a1, a2] at this; exact this
  rw [Nat.add_mul, Nat.add_mul] at hc2
  omega
theorem plF_le : ∀ {l l' : List Mh} {n d n' d' a b a' b' : Nat}, RtV n d → RtV n' d' → (l.all mB) = true → (l'.all mB) = true → PtL l l' → n * d' ≤ n' * d → plF l n d = ⟨(a : Int), (b : Int), 0⟩ → plF l' n' d' = ⟨(a' : Int), (b' : Int), 0⟩ → a * b' ≤ a' * b
  | [], [], n, d, n', d', a, b, a', b', _, _, _, _, _, hle, h, h' => by
    unfold plF at h h'
    injection h with e1 e2 _
    injection h' with e3 e4 _
    have f1 : n = a := by omega
    have f2 : d = b := by omega
    have f3 : n' = a' := by omega
    have f4 : d' = b' := by omega
    subst f1 f2 f3 f4
    exact hle
  | m :: l, m' :: l', n, d, n', d', a, b, a', b', hv, hv', hm, hm', hp, hle, h, h' => by
    rw [List.all_cons, Bool.and_eq_true] at hm hm'
    unfold plF at h h'
    rcases plS_two hv hm.1 with ⟨k1, -⟩ | ⟨k1, p, q, k2, k3⟩
    · rw [if_neg k1] at h; injection h with _ _ h; exact absurd h (by decide)
    rcases plS_two hv' hm'.1 with ⟨j1, -⟩ | ⟨j1, p', q', j2, j3⟩
    · rw [if_neg j1] at h'; injection h' with _ _ h'; exact absurd h' (by decide)
    rw [if_pos k1, k2] at h
    rw [if_pos j1, j2] at h'
    simp only [Int.toNat_natCast] at h h'
    exact plF_le k3 j3 hm.2 hm'.2 hp.2 (plS_le hv hv' hm.1 hm'.1 hp.1 hle k2 j2) h h'
/-- a train with more play of one mesh -/
def mo (ms : List Mh) (j : Nat) : List Mh := ms.modify j fun m => (m.1, m.2.1, m.2.2 + 1)
theorem mo_len (ms : List Mh) (j : Nat) : (mo ms j).length = ms.length := by unfold mo; simp
theorem mo_mF : ∀ (ms : List Mh) (j : Nat), (mo ms j).map mF = ms.map mF
  | [], j => by simp [mo]
  | m :: l, 0 => by simp [mo, mF]
  | m :: l, j + 1 => by
    have := mo_mF l j
    unfold mo at this ⊢
    simp [this]
theorem mo_pt : ∀ (ms : List Mh) (j : Nat), PtL ms (mo ms j)
  | [], j => by simp [mo, PtL]
  | m :: l, 0 => by
    unfold mo
    simp only [List.modify_zero_cons]
    refine ⟨⟨rfl, rfl, by simp only; omega⟩, ?_⟩
    have : ∀ l : List Mh, PtL l l := by
      intro l
      induction l with
      | nil => trivial
      | cons a l ih => exact ⟨⟨rfl, rfl, Int.le_refl _⟩, ih⟩
    exact this l
  | m :: l, j + 1 => by
    have := mo_pt l j
    unfold mo at this ⊢
    simp only [List.modify_succ_cons]
    exact ⟨⟨rfl, rfl, Int.le_refl _⟩, this⟩
theorem mo_mB : ∀ {ms : List Mh} {j : Nat}, ms.all mB = true → (∀ h : j < ms.length, ms[j].2.2 ≠ 1000) → (mo ms j).all mB = true
  | [], j, h, _ => by simp [mo]
  | m :: l, 0, h, hz => by
    unfold mo
    rw [List.modify_zero_cons, List.all_cons, Bool.and_eq_true]
    rw [List.all_cons, Bool.and_eq_true] at h
    refine ⟨?_, h.2⟩
    have h0 := hz (by simp)
    simp only [List.getElem_cons_zero] at h0
    have := h.1
    unfold mB meshB at this ⊢
    simp only [Bool.and_eq_true, inB_iff] at this ⊢
    omega
  | m :: l, j + 1, h, hz => by
    rw [List.all_cons, Bool.and_eq_true] at h
    have := mo_mB (ms := l) (j := j) h.2 (fun hj => by have := hz (by simpa using hj); simpa using this)
    unfold mo at this ⊢
    rw [List.modify_succ_cons, List.all_cons, Bool.and_eq_true]
    exact ⟨h.1, this⟩
theorem mo_tr {ms : List Mh} {j : Nat} (hv : trB ms = true) (hz : ∀ h : j < ms.length, ms[j].2.2 ≠ 1000) : trB (mo ms j) = true := by
  have h := hv
  unfold trB at h ⊢
  rw [Bool.and_eq_true] at h ⊢
  rw [mo_len]
  exact ⟨h.1, mo_mB h.2 hz⟩
theorem mo_trn {ms : List Mh} {j : Nat} (hv : trB ms = true) : trnR (mo ms j) (mo ms j).length = trnR ms ms.length := by
  unfold trnR
  have e1 : ((mo ms j).take (mo ms j).length).map mF = (ms.take ms.length).map mF := by rw [List.take_length, List.take_length, mo_mF]
  have e2 : drv (mo ms j) = drv ms := by
    have := mo_mF ms j
    rcases ms with _ | ⟨m, l⟩
    · simp [mo]
    · unfold mo at this ⊢
      rcases j with _ | j
      · simp [drv]
      · simp [drv]
  rw [e1, e2]
theorem rn_zero {ms : List Mh} {s t : Int} (h : rnE ms s t = 0) : ∃ N D n d S T : Nat, RunOk ms s t N D n d S T := by
  rcases rn_two ms s t with ⟨h1, -⟩ | ⟨-, N, D, n, d, S, T, -, h2⟩
  · exact absurd h h1
  · exact ⟨N, D, n, d, S, T, h2⟩
theorem wh_lo_hi {ms : List Mh} {s t : Int} (h : rnE ms s t = 0) : (whR ms s t).n ≤ (whR ms s t).d ∧ (whR ms s t).e = 0 ∧ ∃ n d : Nat, playR ms = ⟨(n : Int), (d : Int), 0⟩ ∧ (n = 0 → (whR ms s t).n = (whR ms s t).d) := by
  obtain ⟨N, D, n, d, S, T, hr⟩ := rn_zero h
  rw [wh_ok h hr]
  refine ⟨hm_hi _ _ _ _ _, rfl, n, d, hr.play, fun h0 => ?_⟩
  subst h0
  exact hm_none
theorem wh_more {ms : List Mh} {s t : Int} {j : Nat} (h : rnE ms s t = 0) (hz : ∀ h : j < ms.length, ms[j].2.2 ≠ 1000) :
    ((whR (mo ms j) s t).e = 2) ∨ ((whR (mo ms j) s t).e = 0 ∧ (whR (mo ms j) s t).n ≤ (whR ms s t).n ∧ (whR (mo ms j) s t).d = (whR ms s t).d) := by
  obtain ⟨N, D, n, d, S, T, hr⟩ := rn_zero h
  have hv2 := mo_tr hr.val hz
  by_cases h2 : rnE (mo ms j) s t = 0
  · right
    obtain ⟨N', D', n', d', S', T', hr'⟩ := rn_zero h2
    rw [wh_ok h hr, wh_ok h2 hr']
    have et := mo_trn (j := j) hr.val
    rw [hr.trn, hr'.trn] at et
    injection et with t1 t2 _
    have g1 : N' = N := by omega
    have g2 : D' = D := by omega
    have g3 : S' = S := by have := hr.sec; have := hr'.sec; omega
    have g4 : T' = T := by have := hr.tee; have := hr'.tee; omega
    subst g1 g2 g3 g4
    refine ⟨rfl, ?_, rfl⟩
    have hp : playR ms = plF ms 0 1 := by unfold playR; rw [if_pos hr.val]
    have hp' : playR (mo ms j) = plF (mo ms j) 0 1 := by unfold playR; rw [if_pos hv2]
    have hle := plF_le (l := ms) (l' := mo ms j) (n := 0) (d := 1) (n' := 0) (d' := 1) ⟨by omega, by omega, by omega, by decide⟩ ⟨by omega, by omega, by omega, by decide⟩ (tr_facts hr.val).2.2.1 (tr_facts hv2).2.2.1 (mo_pt ms j) (by omega) (hp.symm.trans hr.play) (hp'.symm.trans hr'.play)
    exact hm_le hr.rt.2.1 hr.rp.2.1 hr'.rp.2.1 hle
  · left
    rw [wh_bad h2]
    show rnE (mo ms j) s t = 2
    have hb := h
    have hc := h2
    unfold rnE at hb hc ⊢
    rw [hr.val, if_pos rfl] at hb
    rw [hv2, if_pos rfl] at hc ⊢
    by_cases hst : (inB s 2 96 && inB t 0 1000000) = true
    · rw [if_pos hst] at hb hc ⊢
      rw [mo_trn hr.val] at hc ⊢
      by_cases ht : (trnR ms ms.length).e = 0
      · rw [if_pos ht] at hc ⊢
        rcases play_two hv2 with ⟨k1, k2⟩ | ⟨k1, -⟩
        · rw [k2]
        · exact absurd k1 hc
      · rw [if_neg ht]
    · rw [if_neg hst] at hb; exact absurd hb (by decide)
end Go.Proofs.Ytmmfmanjajefcaa

/- Layer 3: which grades are valid, on both sides. -/
import Derived.Test.YtikfiallhmhicaaGreatI0
import Derived.Test.YtikfiallhmhicaaGreatC20
set_option linter.all false
namespace Go.Proofs.YtikfiallhmhicaaGreat
open Go.RowKit


/-- how many of the first numbers are not less than the next one -/
def nrN (l : List Int) : Nat → Int
  | 0 => 0
  | k + 1 => nrN l k + (if nth l (k + 1) ≤ nth l k then 1 else 0)
theorem nrN_nn (l : List Int) : ∀ k, 0 ≤ nrN l k
  | 0 => by simp [nrN]
  | k + 1 => by have := nrN_nn l k; rw [nrN]; split <;> omega
theorem nrN_up (l : List Int) : ∀ k, nrN l k ≤ (k : Int)
  | 0 => by simp [nrN]
  | k + 1 => by have := nrN_up l k; rw [nrN]; split <;> omega
theorem nrN_zero {l : List Int} : ∀ {k : Nat}, nrN l k = 0 ↔ ∀ i, i < k → nth l i < nth l (i + 1)
  | 0 => by simp [nrN]
  | k + 1 => by
    have h1 := nrN_nn l k
    rw [nrN]
    constructor
    · intro h i hi
      have h2 : nrN l k = 0 := by split at h <;> omega
      have h3 : ¬ nth l (k + 1) ≤ nth l k := by intro h4; rw [if_pos h4] at h; omega
      rcases Nat.lt_succ_iff_lt_or_eq.1 hi with h4 | rfl
      · exact nrN_zero.1 h2 i h4
      · omega
    · intro h
      rw [nrN_zero.2 (fun i hi => h i (by omega)), if_neg (by have := h k (by omega); omega)]
      rfl
def gradesB (l : List Int) : Bool := inB l.length 1 8 && decide (nth l 0 = 0) && decide (nrN l (l.length - 1) = 0) && inB (nth l (l.length - 1)) 0 64
def rgAt (l : List Int) (i : Nat) : Bool := decide (nth l (i - 1) < nth l i) && decide (nth l i ≤ 64)
def rgTo (l : List Int) : Nat → Bool
  | 0 => true
  | k + 1 => rgTo l k && (decide (k = 0) || rgAt l k)
theorem rgTo_iff {l : List Int} : ∀ {n : Nat}, rgTo l n = true ↔ ∀ i, 0 < i → i < n → nth l (i - 1) < nth l i ∧ nth l i ≤ 64
  | 0 => by simp [rgTo]
  | n + 1 => by
    rw [rgTo, Bool.and_eq_true, rgTo_iff, Bool.or_eq_true, decide_eq_true_iff]
    unfold rgAt
    rw [Bool.and_eq_true, decide_eq_true_iff, decide_eq_true_iff]
    constructor
    · rintro ⟨h1, h2⟩ i hi hin
      rcases Nat.lt_succ_iff_lt_or_eq.1 hin with h3 | rfl
      · exact h1 i hi h3
      · rcases h2 with h2 | h2
        · omega
        · exact h2
    · intro h
      refine ⟨fun i hi hin => h i hi (by omega), ?_⟩
      rcases Nat.eq_zero_or_pos n with h0 | h0
      · exact .inl h0
      · exact .inr (h n h0 (by omega))
theorem rgTo_false {l : List Int} {k n : Nat} (h : rgAt l k = false) (hk : 0 < k) (hn : k < n) : rgTo l n = false := by
  cases hq : rgTo l n
  · rfl
  · have h1 := rgTo_iff.1 hq k hk hn
    unfold rgAt at h
    rw [Bool.and_eq_false_iff, decide_eq_false_iff_not, decide_eq_false_iff_not] at h
    omega
/-- both ways to say which grades are valid are one -/
theorem grades_ref (l : List Int) : gradesB l = (inB l.length 1 8 && decide (nth l 0 = 0) && rgTo l l.length) := by
  unfold gradesB
  cases h1 : inB l.length 1 8
  · simp
  cases h2 : decide (nth l 0 = 0)
  · simp
  have hl := inB_iff.1 h1
  have h0 : nth l 0 = 0 := of_decide_eq_true h2
  simp only [Bool.true_and]
  rw [Bool.eq_iff_iff, Bool.and_eq_true, decide_eq_true_iff, inB_iff, rgTo_iff, nrN_zero]
  have hmono : (∀ i, i < l.length - 1 → nth l i < nth l (i + 1)) → ∀ d i, i + d < l.length → nth l i + (d : Int) ≤ nth l (i + d) := by
    intro h d
    induction d with
    | zero => intro i _; simp
    | succ d ih =>
      intro i hi
      have h3 := ih i (by omega)
      have h4 := h (i + d) (by omega)
      rw [show i + (d + 1) = i + d + 1 by omega]
      omega
  constructor
  · rintro ⟨ha, hb, hc⟩ i hi hin
    have h3 := ha (i - 1) (by omega)
    rw [show i - 1 + 1 = i by omega] at h3
    have h4 := hmono ha (l.length - 1 - i) i (by omega)
    rw [show i + (l.length - 1 - i) = l.length - 1 by omega] at h4
    exact ⟨h3, by omega⟩
  · intro h
    have ha : ∀ i, i < l.length - 1 → nth l i < nth l (i + 1) := fun i hi => by
      have := (h (i + 1) (by omega) (by omega)).1
      rwa [Nat.add_sub_cancel] at this
    have h4 := hmono ha (l.length - 1) 0 (by omega)
    rw [Nat.zero_add, h0] at h4
    refine ⟨ha, by omega, ?_⟩
    rcases Nat.lt_or_ge 1 l.length with h5 | h5
    · exact (h (l.length - 1) (by omega) (by omega)).2
    · rw [show l.length - 1 = 0 by omega, h0]; omega

section
variable (l : List Int) (v : Value) (w : World)
set_option maxHeartbeats 1000000 in
theorem gnum1_c (h : Ints w w.heap.size v l) : Calls Tryz.prog 37 #[v] w fun e w' => e = .returned (.int .i64 (l.length : Int)) ∧ w = w' := by
  obtain ⟨-, A, c, rfl, -, -⟩ := h
  go_enter Tryz.func37, Tryz.ntmps37
  go_wp2_with fail
  go_ret
  exact ⟨rfl, rfl⟩
set_option maxHeartbeats 1000000 in
theorem gnum2_c (h : Ints w w.heap.size v l) (hp : 0 < l.length) : Calls Tryz.prog 38 #[v] w fun e w' => e = .returned (.int .i64 (nth l 0)) ∧ w = w' := by
  obtain ⟨-, A, c, rfl, -, hc⟩ := h
  obtain ⟨b, off, rfl, hb, hcc⟩ := hc hp
  have y := hcc 0 hp
  rw [Nat.add_zero] at y
  obtain ⟨n, hn⟩ : ∃ n, l.length = n := ⟨_, rfl⟩
  rw [hn] at hp ⊢
  have i1 : (0 : Int) < (n : Int) := by omega
  clear hc hcc hn
  go_enter Tryz.func38, Tryz.ntmps38
  go_wp2_with fail
  go_ret
  exact ⟨rfl, rfl⟩
set_option maxHeartbeats 1000000 in
theorem gnum3_c (h : Ints w w.heap.size v l) (hp : 0 < l.length) (h8 : l.length ≤ 8) : Calls Tryz.prog 40 #[v] w fun e w' => e = .returned (.int .i64 (nth l (l.length - 1))) ∧ w = w' := by
  obtain ⟨-, A, c, rfl, -, hc⟩ := h
  obtain ⟨b, off, rfl, hb, hcc⟩ := hc hp
  obtain ⟨n, hn⟩ : ∃ n, l.length = n := ⟨_, rfl⟩
  rw [hn] at hp hcc h8 ⊢
  obtain ⟨j, rfl⟩ : ∃ j, n = j + 1 := ⟨n - 1, by omega⟩
  have y := hcc j (by omega)
  rw [Nat.add_sub_cancel]
  obtain ⟨m, hm⟩ : ∃ m, j + 1 = m := ⟨_, rfl⟩
  rw [hm] at h8 hp ⊢
  have w1 : IntKind.i64.wrap ((m : Int) - 1) = (j : Int) := by rw [← hm, show (((j + 1 : Nat) : Int)) - 1 = (j : Int) by omega]; exact wrap_id (by omega) (by omega)
  have i0 : (0 : Int) ≤ (j : Int) := Int.natCast_nonneg _
  have i1 : (j : Int) < (m : Int) := by omega
  clear hc hcc hn hm
  go_enter Tryz.func40, Tryz.ntmps40
  go_wp2_with fail
  go_ret
  exact ⟨rfl, rfl⟩
set_option maxRecDepth 100000 in
set_option maxHeartbeats 4000000 in
theorem notRising_c (h : Ints w w.heap.size v l) (hp : 0 < l.length) (h8 : l.length ≤ 8) : Calls Tryz.prog 39 #[v] w fun e w' => e = .returned (.int .i64 (nrN l (l.length - 1))) ∧ Below w.heap.size w w' := by
  obtain ⟨-, A, c, rfl, -, hc⟩ := h
  obtain ⟨b, off, rfl, hb, hcc⟩ := hc hp
  have HC := Lib.hid hcc
  have HBL := Lib.hid hb
  obtain ⟨n, hn⟩ : ∃ n, l.length = n := ⟨_, rfl⟩
  rw [hn] at hp HC h8 ⊢
  obtain ⟨j, rfl⟩ : ∃ j, n = j + 1 := ⟨n - 1, by omega⟩
  rw [Nat.add_sub_cancel]
  obtain ⟨m, hm⟩ : ∃ m, j + 1 = m := ⟨_, rfl⟩
  rw [hm] at h8 hp HC ⊢
  have w1 : IntKind.i64.wrap ((m : Int) - 1) = (j : Int) := by rw [← hm, show (((j + 1 : Nat) : Int)) - 1 = (j : Int) by omega]; exact wrap_id (by omega) (by omega)
  have HM := Lib.hid hm
  clear hc hcc hn hm
  go_enter Tryz.func39, Tryz.ntmps39
  go_wp2_with fail
  go_loopw [3, 8] (fun nv iv wr => ∃ k : Nat, k ≤ j ∧ iv = .int .i64 (k : Int) ∧ nv = .int .i64 (nrN l k) ∧ Below w.heap.size w wr) (fun _ iv _ => j - (intOf iv).toNat)
  case atStart => exact ⟨0, Nat.zero_le _, rfl, rfl, Below.refl _ _⟩
  case round =>
    obtain ⟨k, hk, rfl, rfl, hbr⟩ := hrel
    have HBR := Lib.hid hbr
    clear hbr
    by_cases hlt : k < j
    · have HLT := Lib.hid hlt
      have hdk : decide ((k : Int) < (j : Int)) = true := by simpa using hlt
      have hm8 := HM.out
      have k8 : k ≤ 8 := by omega
      have i0 : (0 : Int) ≤ (k : Int) := Int.natCast_nonneg _
      have i1 : (k : Int) < (m : Int) := by omega
      have i2 : (0 : Int) ≤ (k : Int) + 1 := by omega
      have i3 : (k : Int) + 1 < (m : Int) := by omega
      have y0 := keepd (HC.out k (by omega)) HBR.out HBL.out
      have y1 := keepd (HC.out (k + 1) (by omega)) HBR.out HBL.out
      have HU := Lib.hid (show nrN l (k + 1) = nrN l k + (if nth l (k + 1) ≤ nth l k then 1 else 0) from rfl)
      obtain ⟨x, hx⟩ : ∃ x, nth l k = x := ⟨_, rfl⟩
      obtain ⟨y, hy⟩ : ∃ y, nth l (k + 1) = y := ⟨_, rfl⟩
      have nb1 := nrN_nn l k
      have nb2 := nrN_up l k
      obtain ⟨z, hz⟩ : ∃ z, nrN l k = z := ⟨_, rfl⟩
      have w3 : IntKind.i64.wrap (z + 1) = z + 1 := by rw [← hz]; exact wrap_id (by omega) (by omega)
      rw [hx] at y0 HU
      rw [hy] at y1 HU
      rw [hz] at HU ⊢
      obtain ⟨k1, hk1⟩ : ∃ k1, k + 1 = k1 := ⟨_, rfl⟩
      have hk1' : (k : Int) + 1 = (k1 : Int) := by omega
      rw [hk1] at y1 HU
      have w2 : IntKind.i64.wrap ((k : Int) + 1) = (k1 : Int) := by rw [hk1']; exact wrap_id (by omega) (by omega)
      rw [hk1'] at i2 i3
      have HK1 := Lib.hid (And.intro hk1 hk1')
      clear hx hy hz nb1 nb2 hm8 hk1 hk1' hlt hk
      by_cases hle : y ≤ x
      · have d1 : decide (y ≤ x) = true := decide_eq_true hle
        have HR := Lib.hid (show nrN l k1 = z + 1 by rw [HU.out, if_pos hle])
        clear hle
        go_wp2_with fail
        go_quiet (fail)
        go_wp2_with fail
        go_roundw
        case rel => exact ⟨k1, by have := HLT.out; have := HK1.out.1; omega, by first | rfl | (rw [← HK1.out.2]), by rw [HR.out], HBR.out.trans (below_drewN _ _)⟩
        case measure => have := HLT.out; have := HK1.out.1; simp [intOf]; omega
      · have d1 : decide (y ≤ x) = false := decide_eq_false hle
        have HR := Lib.hid (show nrN l k1 = z by rw [HU.out, if_neg hle, Int.add_zero])
        clear hle
        go_wp2_with fail
        go_quiet (fail)
        go_wp2_with fail
        go_roundw
        case rel => exact ⟨k1, by have := HLT.out; have := HK1.out.1; omega, by first | rfl | (rw [← HK1.out.2]), by rw [HR.out], HBR.out.trans (below_drewN _ _)⟩
        case measure => have := HLT.out; have := HK1.out.1; simp [intOf]; omega
    · obtain rfl : k = j := by omega
      have hdk : decide ((k : Int) < (k : Int)) = false := by simp
      go_wp2_with fail
      go_ret
      exact ⟨rfl, HBR.out⟩
end
end Go.Proofs.YtikfiallhmhicaaGreat

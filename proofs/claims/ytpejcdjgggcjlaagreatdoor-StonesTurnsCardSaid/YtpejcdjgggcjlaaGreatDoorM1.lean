/- The areas of a turned and of a mirrored face, and of all kinds together. -/
import Derived.Test.YtpejcdjgggcjlaaGreatDoorF1
namespace Go.Proofs.YtpejcdjgggcjlaaGreatDoor

/-- a sum over the first numbers -/
def sumN : Nat → (Nat → Int) → Int
  | 0, _ => 0
  | n + 1, g => sumN n g + g n
theorem sumN_congr {n : Nat} {g h : Nat → Int} (e : ∀ i, i < n → g i = h i) : sumN n g = sumN n h := by
  induction n with
  | zero => rfl
  | succ n ih => rw [sumN, sumN, ih (fun i hi => e i (by omega)), e n (by omega)]
theorem sumN_add (n : Nat) (g h : Nat → Int) : sumN n (fun i => g i + h i) = sumN n g + sumN n h := by
  induction n with
  | zero => rfl
  | succ n ih => rw [sumN, sumN, sumN, ih]; omega
/-- one place on -/
theorem sumN_shift (n : Nat) (h : Nat → Int) : sumN n (fun i => h (i + 1)) = sumN n h - h 0 + h n := by
  induction n with
  | zero => simp [sumN]; omega
  | succ n ih => rw [sumN, sumN, ih]; omega
/-- round a ring -/
theorem sumN_rot (S : Nat) (g : Nat → Int) (c : Nat) : sumN S (fun s => g ((s + c) % S)) = sumN S g := by
  induction c with
  | zero => exact sumN_congr fun i hi => by rw [Nat.add_zero, Nat.mod_eq_of_lt hi]
  | succ c ih =>
    have h1 := sumN_shift S (fun s => g ((s + c) % S))
    have e : sumN S (fun s => g ((s + (c + 1)) % S)) = sumN S (fun i => (fun s => g ((s + c) % S)) (i + 1)) := sumN_congr fun i _ => by show g _ = g _; rw [show i + (c + 1) = i + 1 + c by omega]
    rw [e, h1, ih]
    have e2 : (0 + c) % S = (S + c) % S := by rw [Nat.zero_add, Nat.add_mod_left]
    show sumN S g - g ((0 + c) % S) + g ((S + c) % S) = sumN S g
    rw [e2]
    omega
/-- the other way round -/
theorem sumN_rev (S : Nat) (g : Nat → Int) : sumN S (fun s => g (S - 1 - s)) = sumN S g := by
  have key : ∀ n (g : Nat → Int), sumN n g = sumN n (fun s => g (n - 1 - s)) := by
    intro n
    induction n with
    | zero => intro g; rfl
    | succ n ih =>
      intro g
      have h1 := sumN_shift n (fun s => g (n - s))
      have e : sumN n (fun i => (fun s => g (n - s)) (i + 1)) = sumN n (fun s => g (n - 1 - s)) := sumN_congr fun i _ => by show g _ = g _; rw [show n - (i + 1) = n - 1 - i by omega]
      rw [e, ← ih g] at h1
      show sumN n g + g n = sumN n (fun s => g (n + 1 - 1 - s)) + g (n + 1 - 1 - n)
      rw [show n + 1 - 1 = n by omega, show n - n = 0 by omega, h1]
      simp only [Nat.sub_self, Nat.sub_zero]
      omega
  exact (key S g).symm

/-- is it this kind? -/
def isK (a b : Int) : Int := if a = b then 1 else 0
/-- how many cells of a kind a ring has -/
def ringK (f : Fc) (kind : Int) (r : Nat) (S : Nat) : Int := sumN S fun s => isK (nth f.kinds (r * S + s)) kind

theorem areaTo_step (f : Fc) (kind : Int) (n : Nat) : areaTo f kind (n + 1) = areaTo f kind n + isK (nth f.kinds n) kind * (2 * (f.eye + (n : Int) / f.sectors) + 1) := by
  unfold isK
  rw [areaTo]
  split <;> simp
theorem fact (w x y a : Int) : a + w * x + y * w = a + w * (x + y) := by
  rw [Int.mul_add, Int.mul_comm y w]
  omega
theorem areaTo_ring (f : Fc) (kind : Int) (S : Nat) (hS : f.sectors = S) (r s : Nat) (hs : s ≤ S) : areaTo f kind (r * S + s) = areaTo f kind (r * S) + (2 * (f.eye + r) + 1) * sumN s fun s => isK (nth f.kinds (r * S + s)) kind := by
  induction s with
  | zero => simp [sumN]
  | succ s ih =>
    rw [← Nat.add_assoc, areaTo_step, ih (by omega), sumN]
    have e : ((r * S + s : Nat) : Int) / f.sectors = r := by
      rw [hS, ← Int.natCast_ediv, Nat.add_comm, Nat.add_mul_div_right _ _ (by omega), Nat.div_eq_of_lt (by omega), Nat.zero_add]
    rw [e]
    exact fact _ _ _ _
theorem areaTo_rings (f : Fc) (kind : Int) (S : Nat) (hS : f.sectors = S) (R : Nat) : areaTo f kind (R * S) = sumN R fun r => (2 * (f.eye + r) + 1) * ringK f kind r S := by
  induction R with
  | zero => simp [sumN, areaTo]
  | succ R ih =>
    rw [Nat.succ_mul, areaTo_ring f kind S hS R S (Nat.le_refl _), ih, sumN]
    rfl
theorem nth_redL (f : Fc) (S : Nat) (fr : Int → Int) (n i : Nat) (h : i < n) : nth (redL f S fr n) i = kat f (i / S : Nat) (fr (i % S : Nat)) := by
  unfold nth redL
  rw [List.getD_eq_getElem?_getD, List.getElem?_map, List.getElem?_range h]
  rfl
/-- a face that is drawn anew, ring by ring -/
theorem ringK_red (f g : Fc) (kind : Int) (S R r : Nat) (hS : f.sectors = S) (hr : r < R) (fr : Int → Int) (hg : g.kinds = redL f S fr (R * S)) :
    ringK g kind r S = sumN S fun s => isK (nth f.kinds ((r : Int) * S + fr s).toNat) kind := by
  unfold ringK
  refine sumN_congr fun s hs => ?_
  have h1 : r * S + s < R * S := by
    have : (r + 1) * S ≤ R * S := Nat.mul_le_mul_right _ hr
    rw [Nat.succ_mul] at this
    omega
  rw [hg, nth_redL f S fr _ _ h1]
  have e1 : (r * S + s) / S = r := by rw [Nat.add_comm, Nat.add_mul_div_right _ _ (by omega), Nat.div_eq_of_lt hs, Nat.zero_add]
  have e2 : (r * S + s) % S = s := by rw [Nat.add_comm, Nat.add_mul_mod_self_right, Nat.mod_eq_of_lt hs]
  rw [e1, e2]
  unfold kat
  rw [hS]

theorem dims {f : Fc} (hv : validB f = true) : ∃ R S : Nat, f.rings = R ∧ f.sectors = S ∧ 2 ≤ S ∧ S ≤ 96 ∧ 1 ≤ R ∧ R ≤ 24 ∧ f.kinds.length = R * S ∧ f.rings.toNat = R ∧ f.sectors.toNat = S := by
  obtain ⟨⟨-, ⟨a3, a4⟩, a5, a6⟩, hl, -⟩ := validB_iff.1 hv
  obtain ⟨R, hR⟩ := Int.eq_ofNat_of_zero_le (show 0 ≤ f.rings by omega)
  obtain ⟨S, hS⟩ := Int.eq_ofNat_of_zero_le (show 0 ≤ f.sectors by omega)
  refine ⟨R, S, hR, hS, by omega, by omega, by omega, by omega, ?_, by omega, by omega⟩
  rw [hR, hS] at hl
  exact_mod_cast hl
/-- what holds of the kinds of a face that is drawn anew out of a valid one -/
theorem redL_kinds {f : Fc} (hv : validB f = true) (S : Nat) (fr : Int → Int) (hfr : ∀ s : Nat, s < S → 0 ≤ fr s ∧ fr s < f.sectors) (R : Nat) (hR : f.rings = R) (hS : 0 < S) : kindsB (redL f S fr (R * S)) = true := by
  unfold kindsB redL
  rw [List.all_map, List.all_eq_true]
  intro i hi
  rw [List.mem_range] at hi
  have h1 : i / S < R := Nat.div_lt_of_lt_mul (by rw [Nat.mul_comm]; exact hi)
  have h2 : i % S < S := Nat.mod_lt _ hS
  obtain ⟨h3, h4⟩ := hfr _ h2
  have h1' : ((i / S : Nat) : Int) < f.rings := by rw [hR]; exact_mod_cast h1
  obtain ⟨h5, h6⟩ := idx_bd hv (r := ((i / S : Nat) : Int)) (c := fr (i % S : Nat)) (Int.natCast_nonneg _) h1' h3 h4
  have hk := (validB_iff.1 hv).2.2
  unfold kindsB at hk
  rw [List.all_eq_true] at hk
  have h7 : ((((i / S : Nat) : Int) * f.sectors + fr (i % S : Nat)).toNat) < f.kinds.length := by omega
  show inB (kat f _ _) 0 2 = true
  unfold kat nth
  rw [List.getD_eq_getElem?_getD, List.getElem?_eq_getElem h7]
  exact hk _ (List.getElem_mem h7)
theorem valid_red {f : Fc} (hv : validB f = true) (S : Nat) (fr : Int → Int) (hfr : ∀ s : Nat, s < S → 0 ≤ fr s ∧ fr s < f.sectors) (R : Nat) (hR : f.rings = R) (hS : 2 ≤ S) (hS2 : S ≤ 96) :
    validB { eye := f.eye, rings := f.rings, sectors := S, kinds := redL f S fr (R * S) } = true := by
  obtain ⟨⟨h1, h2, -⟩, -, -⟩ := validB_iff.1 hv
  refine validB_iff.2 ⟨⟨h1, h2, by dsimp only; omega⟩, ?_, redL_kinds hv S fr hfr R hR (by omega)⟩
  dsimp only
  rw [redL_len, hR]
  rfl
theorem turnF_valid {f : Fc} (hv : validB f = true) (b : Int) : validB (turnF f b) = true := by
  obtain ⟨R, S, hR, hS, h1, h2, h3, h4, h5, h6, h7⟩ := dims hv
  have e : turnF f b = { eye := f.eye, rings := f.rings, sectors := S, kinds := redL f S (fun i => rnd (i - rnd b f.sectors) f.sectors) (R * S) } := by unfold turnF; rw [h6, h7, hS]
  rw [e]
  exact valid_red hv S _ (fun s _ => rnd_bd (by omega)) R hR h1 h2
theorem mirF_valid {f : Fc} (hv : validB f = true) : validB (mirF f) = true := by
  obtain ⟨R, S, hR, hS, h1, h2, h3, h4, h5, h6, h7⟩ := dims hv
  have e : mirF f = { eye := f.eye, rings := f.rings, sectors := S, kinds := redL f S (fun i => f.sectors - 1 - i) (R * S) } := by unfold mirF; rw [h6, h7, hS]
  rw [e]
  exact valid_red hv S _ (fun s hs => by omega) R hR h1 h2

theorem ckKind_of {f : Fc} (hv : validB f = true) (kind : Int) (h : 0 ≤ kind ∧ kind ≤ 2) : ckKind f kind = 0 := by
  unfold ckKind
  rw [if_pos hv, if_pos (inB_iff.2 h)]
theorem areaOf_rings {f : Fc} (hv : validB f = true) (kind : Int) (h : 0 ≤ kind ∧ kind ≤ 2) (R S : Nat) (hS : f.sectors = S) (hl : f.kinds.length = R * S) :
    areaOf f kind = sumN R fun r => (2 * (f.eye + r) + 1) * ringK f kind r S := by
  unfold areaOf
  rw [if_pos (ckKind_of hv kind h), hl, areaTo_rings f kind S hS R]
/-- turning keeps the areas -/
theorem area_turn {f : Fc} (hv : validB f = true) (b kind : Int) (h : 0 ≤ kind ∧ kind ≤ 2) : areaOf (turnF f b) kind = areaOf f kind := by
  obtain ⟨R, S, hR, hS, h1, h2, h3, h4, h5, h6, h7⟩ := dims hv
  have hk : (turnF f b).kinds = redL f S (fun i => rnd (i - rnd b f.sectors) f.sectors) (R * S) := by unfold turnF; rw [h6, h7]
  rw [areaOf_rings hv kind h R S hS h5, areaOf_rings (turnF_valid hv b) kind h R S hS (by rw [hk, redL_len])]
  refine sumN_congr fun r hr => ?_
  show (2 * (f.eye + r) + 1) * ringK (turnF f b) kind r S = _
  congr 1
  rw [ringK_red f (turnF f b) kind S R r hS hr _ hk]
  obtain ⟨q1, q2⟩ := rnd_bd (a := b) (s := f.sectors) (by omega)
  obtain ⟨c, hc⟩ : ∃ c : Nat, ((c : Int)) = f.sectors - rnd b f.sectors := ⟨(f.sectors - rnd b f.sectors).toNat, by omega⟩
  have e := sumN_rot S (fun s => isK (nth f.kinds (r * S + s)) kind) c
  refine (sumN_congr fun s hs => ?_).trans e
  have e2 : rnd ((s : Int) - rnd b f.sectors) f.sectors = ((s + c) % S : Nat) := by
    unfold rnd at *
    rw [Int.natCast_emod, Int.natCast_add, hc, ← hS]
    rw [show (s : Int) + (f.sectors - b % f.sectors) = (s : Int) - b % f.sectors + f.sectors by omega, Int.add_emod_right]
  rw [e2]
  have e3 : (((r : Nat) : Int) * (S : Int) + (((s + c) % S : Nat) : Int)).toNat = r * S + (s + c) % S := by
    rw [← Int.natCast_mul, ← Int.natCast_add, Int.toNat_natCast]
  rw [e3]
theorem area_mir {f : Fc} (hv : validB f = true) (kind : Int) (h : 0 ≤ kind ∧ kind ≤ 2) : areaOf (mirF f) kind = areaOf f kind := by
  obtain ⟨R, S, hR, hS, h1, h2, h3, h4, h5, h6, h7⟩ := dims hv
  have hk : (mirF f).kinds = redL f S (fun i => f.sectors - 1 - i) (R * S) := by unfold mirF; rw [h6, h7]
  rw [areaOf_rings hv kind h R S hS h5, areaOf_rings (mirF_valid hv) kind h R S hS (by rw [hk, redL_len])]
  refine sumN_congr fun r hr => ?_
  show (2 * (f.eye + r) + 1) * ringK (mirF f) kind r S = _
  congr 1
  rw [ringK_red f (mirF f) kind S R r hS hr _ hk]
  have e := sumN_rev S (fun s => isK (nth f.kinds (r * S + s)) kind)
  refine (sumN_congr fun s hs => ?_).trans e
  have e3 : (((r : Nat) : Int) * (S : Int) + (f.sectors - 1 - (s : Int))).toNat = r * S + (S - 1 - s) := by
    rw [hS, show ((S : Int) - 1 - (s : Int)) = ((S - 1 - s : Nat) : Int) by omega, ← Int.natCast_mul, ← Int.natCast_add, Int.toNat_natCast]
  rw [e3]
/-- all kinds together -/
theorem area_all {f : Fc} (hv : validB f = true) : areaOf f 0 + areaOf f 1 + areaOf f 2 = f.sectors * ((f.eye + f.rings) * (f.eye + f.rings) - f.eye * f.eye) := by
  obtain ⟨R, S, hR, hS, h1, h2, h3, h4, h5, h6, h7⟩ := dims hv
  have hk := (validB_iff.1 hv).2.2
  unfold kindsB at hk
  rw [List.all_eq_true] at hk
  rw [areaOf_rings hv 0 (by omega) R S hS h5, areaOf_rings hv 1 (by omega) R S hS h5, areaOf_rings hv 2 (by omega) R S hS h5, ← sumN_add, ← sumN_add]
  have key : ∀ r, r < R → (2 * (f.eye + r) + 1) * ringK f 0 r S + (2 * (f.eye + r) + 1) * ringK f 1 r S + (2 * (f.eye + r) + 1) * ringK f 2 r S = (2 * (f.eye + (r : Int)) + 1) * S := by
    intro r hr
    rw [← Int.mul_add, ← Int.mul_add]
    congr 1
    unfold ringK
    rw [← sumN_add, ← sumN_add]
    have e : sumN S (fun i => isK (nth f.kinds (r * S + i)) 0 + isK (nth f.kinds (r * S + i)) 1 + isK (nth f.kinds (r * S + i)) 2) = sumN S (fun _ => 1) := by
      refine sumN_congr fun s hs => ?_
      have h8 : r * S + s < f.kinds.length := by
        have : (r + 1) * S ≤ R * S := Nat.mul_le_mul_right _ hr
        rw [Nat.succ_mul] at this
        omega
      have h9 := hk _ (List.getElem_mem h8)
      have h10 : nth f.kinds (r * S + s) = f.kinds[r * S + s] := by simp [nth, h8]
      rw [inB_iff, ← h10] at h9
      unfold isK
      split <;> split <;> split <;> omega
    rw [e]
    clear hk
    have : ∀ n : Nat, sumN n (fun _ => (1 : Int)) = n := by
      intro n
      induction n with
      | zero => rfl
      | succ n ih => rw [sumN, ih]; omega
    exact this S
  rw [sumN_congr key]
  clear key hk h5 h6
  have : ∀ n : Nat, sumN n (fun r => (2 * (f.eye + (r : Int)) + 1) * (S : Int)) = (S : Int) * ((f.eye + n) * (f.eye + n) - f.eye * f.eye) := by
    intro n
    induction n with
    | zero => simp [sumN]
    | succ n ih =>
      rw [sumN, ih]
      have e : ((n + 1 : Nat) : Int) = (n : Int) + 1 := by omega
      rw [e]
      generalize f.eye = a
      generalize (n : Int) = x
      generalize (S : Int) = y
      have e1 : (a + (x + 1)) * (a + (x + 1)) = (a + x) * (a + x) + (2 * (a + x) + 1) := by
        rw [show a + (x + 1) = (a + x) + 1 by omega, Int.add_mul, Int.mul_add]
        omega
      rw [e1, Int.mul_comm (2 * (a + x) + 1) y, ← Int.mul_add]
      congr 1
      omega
  rw [this R, hS, hR]

end Go.Proofs.YtpejcdjgggcjlaaGreatDoor

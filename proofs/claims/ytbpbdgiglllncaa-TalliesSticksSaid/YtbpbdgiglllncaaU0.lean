/- Layer 9: bytes: the check, tallies, what two journals tell: mathematics alone. -/
import Derived.Test.YtbpbdgiglllncaaBase
import Derived.Laws.BytesArg
import Derived.Lib.SlicesS
set_option linter.all false
namespace Go.Proofs.Ytbpbdgiglllncaa
open Go.RowKit

theorem below_drewN {B : Nat} (w : World) (n : Nat) : Below B w (w.drewN n) := by constructor <;> first | rfl | exact Nat.le_refl _ | (intros; rfl)
theorem below_drew {B : Nat} (w : World) : Below B w w.drew := (Below.refl B w).drew
/-- all numbers are bytes -/
def IsBy (xs : List Int) : Prop := ∀ k, 0 ≤ nth xs k ∧ nth xs k ≤ 255
theorem nth_drop (xs : List Int) (d k : Nat) : nth (xs.drop d) k = nth xs (d + k) := by unfold nth; simp [List.getD_eq_getElem?_getD, List.getElem?_drop]
theorem nth_take (xs : List Int) (d k : Nat) (h : k < d) : nth (xs.take d) k = nth xs k := by unfold nth; simp [List.getD_eq_getElem?_getD, List.getElem?_take, h]
theorem nth_out (xs : List Int) (k : Nat) (h : xs.length ≤ k) : nth xs k = 0 := by unfold nth; simp [List.getD_eq_getElem?_getD, List.getElem?_eq_none h]
theorem nth_mem (xs : List Int) (k : Nat) (h : k < xs.length) : nth xs k ∈ xs := by unfold nth; simp [List.getD_eq_getElem?_getD, h]
theorem nth_app1 (xs ys : List Int) (k : Nat) (h : k < xs.length) : nth (xs ++ ys) k = nth xs k := by unfold nth; simp [List.getD_eq_getElem?_getD, List.getElem?_append_left h]
theorem nth_app2 (xs ys : List Int) (k : Nat) : nth (xs ++ ys) (xs.length + k) = nth ys k := by unfold nth; rw [List.getD_eq_getElem?_getD, List.getD_eq_getElem?_getD, List.getElem?_append_right (by omega), Nat.add_sub_cancel_left]
theorem ext_nth {xs ys : List Int} (hl : xs.length = ys.length) (h : ∀ k, k < xs.length → nth xs k = nth ys k) : xs = ys := by
  apply List.ext_getElem hl
  intro k h1 h2
  have := h k h1
  simpa [nth, h1, h2] using this
theorem IsBy.drop {xs : List Int} (h : IsBy xs) (d : Nat) : IsBy (xs.drop d) := fun k => by rw [nth_drop]; exact h _
theorem IsBy.take {xs : List Int} (h : IsBy xs) (d : Nat) : IsBy (xs.take d) := fun k => by
  rcases Nat.lt_or_ge k d with hk | hk
  · rw [nth_take _ _ _ hk]; exact h k
  · rw [nth_out _ _ (by simp; omega)]; omega
theorem isBy_of {xs : List Int} (h : ∀ x ∈ xs, 0 ≤ x ∧ x ≤ 255) : IsBy xs := fun k => by
  rcases Nat.lt_or_ge k xs.length with hk | hk
  · exact h _ (nth_mem _ _ hk)
  · rw [nth_out _ _ hk]; omega
theorem IsBy.all {xs : List Int} (h : IsBy xs) : ∀ x ∈ xs, 0 ≤ x ∧ x ≤ 255 := fun x hx => by
  obtain ⟨k, hk, rfl⟩ := List.getElem_of_mem hx
  have := h k
  simpa [nth, hk] using this
theorem IsBy.app {xs ys : List Int} (h : IsBy xs) (h2 : IsBy ys) : IsBy (xs ++ ys) := isBy_of fun x hx => by
  rcases List.mem_append.1 hx with hx | hx
  · exact h.all x hx
  · exact h2.all x hx

/-- the number in two bytes -/
def pr (xs : List Int) : Int := nth xs 0 + 256 * nth xs 1
theorem pr_bd {xs : List Int} (h : IsBy xs) : 0 ≤ pr xs ∧ pr xs ≤ 65535 := by have := h 0; have := h 1; unfold pr; omega
/-- a number in two bytes -/
def two (n : Int) : List Int := [n % 256, n / 256]
theorem two_len (n : Int) : (two n).length = 2 := rfl
theorem two_by {n : Int} (h0 : 0 ≤ n) (h1 : n ≤ 65535) : IsBy (two n) := isBy_of fun x hx => by simp [two] at hx; omega
theorem pr_two (n : Int) (l : List Int) : pr (two n ++ l) = n := by simp [pr, two, nth]; omega
/-- the check -/
def sumTo (xs : List Int) : Nat → Int
  | 0 => 1
  | k + 1 => sumTo xs k + ((k : Int) + 1) * nth xs k
def chk (xs : List Int) : Int := sumTo xs xs.length % 65521
def rsumTo (xs : List Int) : Nat → Int
  | 0 => 1
  | k + 1 => (rsumTo xs k + ((k : Int) + 1) * nth xs k) % 65521
theorem mulBd {a b A B : Int} (h0 : 0 ≤ a) (h1 : a ≤ A) (h2 : 0 ≤ b) (h3 : b ≤ B) : 0 ≤ a * b ∧ a * b ≤ A * B := ⟨Int.mul_nonneg h0 h2, Int.mul_le_mul h1 h3 h2 (by omega)⟩
theorem sumTo_bd {xs : List Int} (h : IsBy xs) {k : Nat} (hk : k ≤ 8192) : 1 ≤ sumTo xs k ∧ sumTo xs k ≤ 1 + k * 2088960 := by
  induction k with
  | zero => simp [sumTo]
  | succ k ih =>
    have := ih (by omega)
    have hb := h k
    have := mulBd (a := (k : Int) + 1) (b := nth xs k) (A := 8192) (B := 255) (by omega) (by omega) hb.1 hb.2
    rw [sumTo]
    omega
theorem rsumTo_eq (xs : List Int) (k : Nat) : rsumTo xs k = sumTo xs k % 65521 := by
  induction k with
  | zero => rfl
  | succ k ih => rw [rsumTo, sumTo, ih, Int.emod_add_emod]
theorem rsumTo_bd (xs : List Int) (k : Nat) : 0 ≤ rsumTo xs k ∧ rsumTo xs k < 65521 := by rw [rsumTo_eq]; omega
theorem chk_bd (xs : List Int) : 0 ≤ chk xs ∧ chk xs < 65521 := by unfold chk; omega
theorem chk_r (xs : List Int) : rsumTo xs xs.length = chk xs := rsumTo_eq _ _

/-- two journals begin with both halves of a tally -/
def hdL (s : List Int) : List Int := (s.drop 2).take (pr s).toNat
def beg (s f : List Int) : Bool := decide (2 ≤ s.length) && (decide (4 ≤ f.length) && (decide (pr s ≤ 8192) && (decide (pr f = pr s) && (decide (2 + pr s ≤ (s.length : Int)) && decide (pr (f.drop 2) = chk (hdL s))))))
theorem beg_iff {s f : List Int} : beg s f = true ↔ 2 ≤ s.length ∧ 4 ≤ f.length ∧ pr s ≤ 8192 ∧ pr f = pr s ∧ 2 + pr s ≤ (s.length : Int) ∧ pr (f.drop 2) = chk (hdL s) := by simp [beg]
def tell : Nat → List Int → List Int → List (List Int)
  | 0, _, _ => []
  | n + 1, s, f => if beg s f then hdL s :: tell n (s.drop (2 + (pr s).toNat)) (f.drop 4) else []
/-- what two journals tell together -/
def joinL (s f : List Int) : List (List Int) := tell f.length s f
theorem tell_more : ∀ (n m : Nat) (s f : List Int), f.length ≤ n → f.length ≤ m → tell n s f = tell m s f := by
  intro n
  induction n with
  | zero =>
    intro m s f h1 h2
    cases m with
    | zero => rfl
    | succ m =>
      have : beg s f = false := by
        cases hb : beg s f
        · rfl
        · have := (beg_iff.1 hb).2.1; omega
      simp [tell, this]
  | succ n ih =>
    intro m s f h1 h2
    cases m with
    | zero =>
      have : beg s f = false := by
        cases hb : beg s f
        · rfl
        · have := (beg_iff.1 hb).2.1; omega
      simp [tell, this]
    | succ m =>
      simp only [tell]
      cases hb : beg s f
      · rfl
      · have h4 := (beg_iff.1 hb).2.1
        rw [ih m _ _ (by simp; omega) (by simp; omega)]
theorem joinL_eq (s f : List Int) : joinL s f = if beg s f then hdL s :: joinL (s.drop (2 + (pr s).toNat)) (f.drop 4) else [] := by
  unfold joinL
  cases hb : beg s f
  · cases hf : f.length <;> simp [tell, hb]
  · have h4 := (beg_iff.1 hb).2.1
    obtain ⟨n, hn⟩ : ∃ n, f.length = n + 1 := ⟨f.length - 1, by omega⟩
    rw [hn, tell, hb]
    simp only [if_true]
    rw [tell_more n (f.drop 4).length _ _ (by simp; omega) (by simp)]
theorem joinL_go {s f : List Int} (h : beg s f = true) : joinL s f = hdL s :: joinL (s.drop (2 + (pr s).toNat)) (f.drop 4) := by rw [joinL_eq, h]; rfl
theorem joinL_stop {s f : List Int} (h : beg s f = false) : joinL s f = [] := by rw [joinL_eq, h]; rfl
/-- how many bytes of the stock tell a list -/
def sLen : List (List Int) → Int
  | [] => 0
  | b :: l => 2 + b.length + sLen l
theorem sLen_snoc (l : List (List Int)) (b : List Int) : sLen (l ++ [b]) = sLen l + (2 + b.length) := by
  induction l with
  | nil => simp [sLen]
  | cons x l ih => simp only [List.cons_append, sLen, ih]; omega
theorem sLen_nn (l : List (List Int)) : 0 ≤ sLen l := by
  induction l with
  | nil => simp [sLen]
  | cons x l ih => simp only [sLen]; omega
theorem hdL_len {s f : List Int} (h : beg s f = true) (hs : IsBy s) : ((hdL s).length : Int) = pr s := by
  obtain ⟨h1, h2, h3, h4, h5, h6⟩ := beg_iff.1 h
  have := (pr_bd hs).1
  unfold hdL
  simp only [List.length_take, List.length_drop]
  omega
/-- both halves of a tally -/
def stockL (b : List Int) : List Int := two b.length ++ b
def foilL (b : List Int) : List Int := two b.length ++ two (chk b)

/-- the bytes of a string -/
theorem str_inj {xs ys : List Int} (hx : IsBy xs) (hy : IsBy ys) (h : strOfNums xs = strOfNums ys) : xs = ys := by
  have h1 : (xs.map fun n => UInt8.ofNat n.toNat) = ys.map fun n => UInt8.ofNat n.toNat := by
    have := congrArg (fun b : ByteArray => b.data.toList) h
    simpa [strOfNums_data] using this
  have hl : xs.length = ys.length := by simpa using congrArg List.length h1
  refine ext_nth hl fun k hk => ?_
  have hk2 : k < ys.length := by omega
  have e := congrArg (fun l : List UInt8 => l[k]?) h1
  simp only [List.getElem?_map, List.getElem?_eq_getElem hk, List.getElem?_eq_getElem hk2, Option.map_some, Option.some.injEq] at e
  have a1 := hx k
  have a2 := hy k
  have e1 : nth xs k = xs[k] := by simp [nth, hk]
  have e2 : nth ys k = ys[k] := by simp [nth, hk2]
  rw [e1] at a1 ⊢
  rw [e2] at a2 ⊢
  have := congrArg UInt8.toNat e
  simp only [UInt8.toNat_ofNat'] at this
  omega
theorem str_eq {xs ys : List Int} (hx : IsBy xs) (hy : IsBy ys) : ((strOfNums xs).toList == (strOfNums ys).toList) = decide (xs = ys) := by
  by_cases h : xs = ys
  · subst h
    rw [(Lib.bytes_beq_iff _ _).2 rfl]; simp
  · rw [(Lib.bytes_beq_false_iff _ _).2 fun e => h (str_inj hx hy e)]; simp [h]
theorem bor (a b : Int) (h0 : 0 ≤ a) (h1 : a ≤ 255) (h2 : 0 ≤ b) (h3 : b ≤ 255) : bits .or .i64 a (b * 256) = a + 256 * b := by
  obtain ⟨m, rfl⟩ := Int.eq_ofNat_of_zero_le h0
  obtain ⟨n, rfl⟩ := Int.eq_ofNat_of_zero_le h2
  have e1 : (BitVec.ofInt 64 (m : Int) ||| BitVec.ofInt 64 ((n : Int) * 256)).toNat = m + 256 * n := by
    rw [BitVec.toNat_or, BitVec.toNat_ofInt, BitVec.toNat_ofInt]
    have : ((m : Int) % ((2 ^ 64 : Nat) : Int)).toNat = m := by omega
    rw [this]
    have : ((n : Int) * 256 % ((2 ^ 64 : Nat) : Int)).toNat = 2 ^ 8 * n := by omega
    rw [this, Nat.or_comm, ← Nat.two_pow_add_eq_or_of_lt (by omega)]
    omega
  show IntKind.wrap .i64 ((BitVec.ofInt 64 (m : Int) ||| BitVec.ofInt 64 ((n : Int) * 256)).toNat : Int) = _
  rw [e1]
  unfold IntKind.wrap
  simp [IntKind.bits, IntKind.signed]
  omega
end Go.Proofs.Ytbpbdgiglllncaa

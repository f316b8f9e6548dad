/- Layer 9: both halves: tallies one after the other, shorter journals, and journals with one bit inverted: mathematics alone. -/
import Derived.Test.YtbpbdgiglllncaaU3
set_option linter.all false
namespace Go.Proofs.Ytbpbdgiglllncaa

/-- the stocks of a list, one after the other, and the foils -/
def catS (l : List (List Int)) : List Int := l.flatMap stockL
def catF (l : List (List Int)) : List Int := l.flatMap foilL
theorem catS_snoc (l : List (List Int)) (b : List Int) : catS (l ++ [b]) = catS l ++ stockL b := by simp [catS]
theorem catF_snoc (l : List (List Int)) (b : List Int) : catF (l ++ [b]) = catF l ++ foilL b := by simp [catF]
theorem catS_cons (l : List (List Int)) (b : List Int) : catS (b :: l) = stockL b ++ catS l := by simp [catS]
theorem catF_cons (l : List (List Int)) (b : List Int) : catF (b :: l) = foilL b ++ catF l := by simp [catF]
theorem catF_len (l : List (List Int)) : (catF l).length = 4 * l.length := by
  induction l with
  | nil => rfl
  | cons b l ih => rw [catF_cons, List.length_append, ih, foilL_len, List.length_cons]; omega
/-- all parts are bytes, and not too many -/
def Good (m : Nat) (l : List (List Int)) : Prop := ∀ b ∈ l, IsBy b ∧ b.length ≤ m
theorem Good.tail {m : Nat} {b : List Int} {l : List (List Int)} (h : Good m (b :: l)) : Good m l := fun x hx => h x (List.mem_cons_of_mem _ hx)
theorem Good.head {m : Nat} {b : List Int} {l : List (List Int)} (h : Good m (b :: l)) : IsBy b ∧ b.length ≤ m := h b (by simp)
theorem catS_len {m : Nat} {l : List (List Int)} (h : Good m l) : (catS l).length ≤ (m + 2) * l.length := by
  induction l with
  | nil => simp [catS]
  | cons b l ih =>
    rw [catS_cons, List.length_append, stockL_len, List.length_cons]
    have := ih h.tail
    have := h.head.2
    rw [Nat.mul_add]; omega
theorem catS_by {m : Nat} (hm : m ≤ 65535) {l : List (List Int)} (h : Good m l) : IsBy (catS l) := by
  induction l with
  | nil => exact fun k => by simp [catS, nth]
  | cons b l ih => rw [catS_cons]; exact (stockL_by h.head.1 (by have := h.head.2; omega)).app (ih h.tail)
theorem catF_by {m : Nat} (hm : m ≤ 65535) {l : List (List Int)} (h : Good m l) : IsBy (catF l) := by
  induction l with
  | nil => exact fun k => by simp [catF, nth]
  | cons b l ih => rw [catF_cons]; exact (foilL_by (by have := h.head.2; omega)).app (ih h.tail)

theorem pr_app (a b : List Int) (h : 2 ≤ a.length) : pr (a ++ b) = pr a := by unfold pr; rw [nth_app1 _ _ _ (by omega), nth_app1 _ _ _ (by omega)]
theorem pr_stockL (b s : List Int) : pr (stockL b ++ s) = (b.length : Int) := by unfold stockL; rw [List.append_assoc, pr_two]
theorem pr_foilL (b s : List Int) : pr (foilL b ++ s) = (b.length : Int) := by unfold foilL; rw [List.append_assoc, pr_two]
theorem pr_foilL2 (b s : List Int) : pr ((foilL b ++ s).drop 2) = chk b := by
  unfold foilL
  rw [List.append_assoc, show two (b.length : Int) ++ (two (chk b) ++ s) = [(b.length : Int) % 256, (b.length : Int) / 256] ++ (two (chk b) ++ s) from rfl]
  show pr (two (chk b) ++ s) = _
  rw [pr_two]
theorem hdL_stockL (b s : List Int) : hdL (stockL b ++ s) = b := by
  unfold hdL
  rw [pr_stockL]
  unfold stockL
  show (((b ++ s)).take b.length) = b
  simp
theorem beg_stock {b : List Int} (hb : b.length ≤ 8192) (s f : List Int) : beg (stockL b ++ s) (foilL b ++ f) = true := by
  rw [beg_iff]
  refine ⟨by simp [stockL_len]; omega, by simp [foilL_len], ?_, ?_, ?_, ?_⟩
  · rw [pr_stockL]; omega
  · rw [pr_stockL, pr_foilL]
  · rw [pr_stockL, List.length_append, stockL_len]; omega
  · rw [pr_foilL2, hdL_stockL]
theorem joinL_stock {b : List Int} (hb : b.length ≤ 8192) (s f : List Int) : joinL (stockL b ++ s) (foilL b ++ f) = b :: joinL s f := by
  rw [joinL_go (beg_stock hb s f), hdL_stockL, pr_stockL]
  congr 2
  rw [show 2 + ((b.length : Int)).toNat = (stockL b).length by rw [stockL_len]; rfl, List.drop_left]
/-- tallies one after the other, whatever follows them -/
theorem joinL_cat {m : Nat} (hm : m ≤ 8192) {l : List (List Int)} (h : Good m l) (s f : List Int) : joinL (catS l ++ s) (catF l ++ f) = l ++ joinL s f := by
  induction l with
  | nil => rfl
  | cons b l ih =>
    rw [catS_cons, catF_cons, List.append_assoc, List.append_assoc, joinL_stock (by have := h.head.2; omega), ih h.tail]
    rfl
theorem joinL_nil (f : List Int) : joinL [] f = [] := joinL_stop (beg_f0 f) where
  beg_f0 (f : List Int) : beg [] f = false := by cases hb : beg [] f; rfl; have := (beg_iff.1 hb).1; simp at this
theorem joinL_all {m : Nat} (hm : m ≤ 8192) {l : List (List Int)} (h : Good m l) : joinL (catS l) (catF l) = l := by
  have := joinL_cat hm h [] []
  rw [joinL_nil] at this
  simpa using this
theorem sLen_cat (l : List (List Int)) : sLen l = ((catS l).length : Int) := by
  induction l with
  | nil => rfl
  | cons b l ih => rw [catS_cons, List.length_append, stockL_len, sLen, ih]; omega

/-- shorter journals tell a beginning -/
theorem pr_take (s : List Int) (a : Nat) (h : 2 ≤ a) : pr (s.take a) = pr s := by unfold pr; rw [nth_take _ _ _ (by omega), nth_take _ _ _ (by omega)]
theorem joinL_part : ∀ (n : Nat) (s f : List Int) (a b : Nat), f.length ≤ n → IsBy s → joinL (s.take a) (f.take b) <+: joinL s f := by
  intro n
  induction n with
  | zero =>
    intro s f a b h _
    have : f = [] := List.length_eq_zero_iff.1 (by omega)
    subst this
    rw [List.take_nil]
    have h0 : ∀ s : List Int, joinL s [] = [] := fun s => rfl
    rw [h0, h0]
    exact List.prefix_rfl
  | succ n ih =>
    intro s f a b h hs
    cases hb : beg (s.take a) (f.take b) with
    | false => rw [joinL_stop hb]; exact List.nil_prefix
    | true =>
      obtain ⟨h1, h2, h3, h4, h5, h6⟩ := beg_iff.1 hb
      simp only [List.length_take] at h1 h2 h5
      have e1 := pr_take s a (by omega)
      have e2 := pr_take f b (by omega)
      rw [e1] at h3 h4 h5
      rw [e2] at h4
      have hp := (pr_bd hs).1
      have e3 : hdL (s.take a) = hdL s := by
        unfold hdL
        rw [e1, List.drop_take, List.take_take]
        congr 1
        omega
      have e4 : pr ((f.take b).drop 2) = pr (f.drop 2) := by rw [List.drop_take, pr_take _ _ (by omega)]
      have hg : beg s f = true := by
        rw [beg_iff]
        refine ⟨by omega, by omega, h3, h4, by omega, ?_⟩
        rw [← e3, ← h6, e4]
      rw [joinL_go hb, joinL_go hg, e3, e1, List.drop_take, List.drop_take]
      exact List.cons_prefix_cons.2 ⟨rfl, ih _ _ _ _ (by simp; omega) (hs.drop _)⟩

/-- a byte with one bit inverted -/
theorem xor_bit (x j : Nat) (hx : x < 256) (hj : j < 8) : (bits .xor .u8 x (2 ^ j) = x + 2 ^ j ∨ bits .xor .u8 x (2 ^ j) = x - 2 ^ j) ∧ 0 ≤ bits .xor .u8 x (2 ^ j) ∧ bits .xor .u8 x (2 ^ j) ≤ 255 := by
  have : ∀ x : Fin 256, ∀ j : Fin 8, (bits .xor .u8 x (2 ^ (j : Nat)) = x + 2 ^ (j : Nat) ∨ bits .xor .u8 x (2 ^ (j : Nat)) = x - 2 ^ (j : Nat)) ∧ 0 ≤ bits .xor .u8 x (2 ^ (j : Nat)) ∧ bits .xor .u8 x (2 ^ (j : Nat)) ≤ 255 := by decide +kernel
  exact this ⟨x, hx⟩ ⟨j, hj⟩
/-- y is x with one bit inverted -/
def Bit (x y : Int) : Prop := (∃ j : Nat, j < 8 ∧ (y = x + 2 ^ j ∨ y = x - 2 ^ j)) ∧ 0 ≤ y ∧ y ≤ 255
theorem bit_of {x : Int} {j : Nat} (h0 : 0 ≤ x) (h1 : x ≤ 255) (hj : j < 8) : Bit x (bits .xor .u8 x (2 ^ j)) := by
  obtain ⟨n, rfl⟩ := Int.eq_ofNat_of_zero_le h0
  have := xor_bit n j (by omega) hj
  exact ⟨⟨j, hj, this.1⟩, this.2⟩
theorem pow_bd {j : Nat} (hj : j < 8) : (1 : Int) ≤ 2 ^ j ∧ (2 : Int) ^ j ≤ 128 := by
  have : ∀ j : Fin 8, (1 : Int) ≤ 2 ^ (j : Nat) ∧ (2 : Int) ^ (j : Nat) ≤ 128 := by decide
  exact this ⟨j, hj⟩
theorem Bit.ne {x y : Int} (h : Bit x y) : 1 ≤ y - x ∧ y - x ≤ 128 ∨ -128 ≤ y - x ∧ y - x ≤ -1 := by
  obtain ⟨⟨j, hj, h | h⟩, -⟩ := h
  · have := pow_bd hj; left; omega
  · have := pow_bd hj; right; omega
theorem nth_set (xs : List Int) (i k : Nat) (y : Int) : nth (xs.set i y) k = if i = k ∧ k < xs.length then y else nth xs k := by
  unfold nth
  simp only [List.getD_eq_getElem?_getD, List.getElem?_set]
  by_cases h1 : i = k
  · subst h1
    by_cases h2 : i < xs.length
    · simp [h2]
    · simp [h2, List.getElem?_eq_none (by omega : xs.length ≤ i)]
  · simp [h1]
theorem sumTo_set (xs : List Int) (i : Nat) (y : Int) (k : Nat) (hi : i < xs.length) : sumTo (xs.set i y) k = sumTo xs k + if i < k then ((i : Int) + 1) * (y - nth xs i) else 0 := by
  induction k with
  | zero => simp [sumTo]
  | succ k ih =>
    rw [sumTo, sumTo, ih, nth_set]
    by_cases h1 : i = k
    · subst h1
      have e1 : ¬ i < i := Nat.lt_irrefl i
      have e2 : i < i + 1 := Nat.lt_succ_self i
      simp only [e1, e2, hi, if_true, if_false, and_self, Int.mul_sub]
      omega
    · have e1 : ¬ (i = k ∧ k < xs.length) := fun h => h1 h.1
      by_cases h2 : i < k
      · have e2 : i < k + 1 := by omega
        simp only [e1, h2, e2, if_true, if_false]
        omega
      · have e2 : ¬ i < k + 1 := by omega
        simp only [e1, h2, e2, if_false]
        omega
theorem chk_set {b : List Int} (hb : b.length ≤ 300) {i : Nat} (hi : i < b.length) {y : Int} (h : Bit (nth b i) y) : chk (b.set i y) ≠ chk b := by
  unfold chk
  rw [List.length_set, sumTo_set b i y _ hi, if_pos hi]
  intro e
  have hd : ((i : Int) + 1) * (y - nth b i) % 65521 = 0 := by omega
  rcases h.ne with ⟨h1, h2⟩ | ⟨h1, h2⟩
  · have := mulBd (a := (i : Int) + 1) (b := y - nth b i) (A := 300) (B := 128) (by omega) (by omega) (by omega) h2
    have h3 : 0 < ((i : Int) + 1) * (y - nth b i) := Int.mul_pos (by omega) (by omega)
    omega
  · have := mulBd (a := (i : Int) + 1) (b := nth b i - y) (A := 300) (B := 128) (by omega) (by omega) (by omega) (by omega)
    have h3 : 0 < ((i : Int) + 1) * (nth b i - y) := Int.mul_pos (by omega) (by omega)
    have e2 : ((i : Int) + 1) * (nth b i - y) = - (((i : Int) + 1) * (y - nth b i)) := by rw [← Int.mul_neg]; congr 1; omega
    omega
theorem pr_set01 {s : List Int} {i : Nat} (hi : i < 2) (hs : 2 ≤ s.length) {y : Int} (h : Bit (nth s i) y) : pr (s.set i y) ≠ pr s := by
  unfold pr
  rw [nth_set, nth_set]
  have := h.ne
  rcases (by omega : i = 0 ∨ i = 1) with rfl | rfl
  · rw [if_pos ⟨rfl, by omega⟩, if_neg (by omega)]; omega
  · rw [if_neg (by omega), if_pos ⟨rfl, by omega⟩]; omega
theorem beg_stockBit {b : List Int} (hb : b.length ≤ 300) {i : Nat} (hi : i < (stockL b).length) {y : Int} (h : Bit (nth (stockL b) i) y) (s f : List Int) : beg ((stockL b).set i y ++ s) (foilL b ++ f) = false := by
  cases hg : beg ((stockL b).set i y ++ s) (foilL b ++ f)
  · rfl
  · exfalso
    obtain ⟨h1, h2, h3, h4, h5, h6⟩ := beg_iff.1 hg
    have hl : 2 ≤ ((stockL b).set i y).length := by rw [List.length_set, stockL_len]; omega
    rw [pr_app _ _ hl, pr_foilL] at h4
    rcases Nat.lt_or_ge i 2 with h01 | h01
    · have := pr_set01 h01 (by rw [stockL_len]; omega) h
      have e : pr (stockL b) = (b.length : Int) := by have := pr_stockL b []; simpa using this
      rw [e] at this
      exact this h4.symm
    · rw [stockL_len] at hi
      have e : (stockL b).set i y = two b.length ++ b.set (i - 2) y := by
        unfold stockL
        rw [List.set_append_right _ _ (by simpa [two] using h01)]
        rfl
      have e2 : hdL ((stockL b).set i y ++ s) = b.set (i - 2) y := by
        unfold hdL
        rw [pr_app _ _ hl, ← h4, e]
        show ((b.set (i - 2) y ++ s).take b.length) = _
        have : b.length = (b.set (i - 2) y).length := by simp
        rw [this, List.take_left]
      rw [pr_foilL2, e2] at h6
      refine chk_set hb (i := i - 2) (by omega) (y := y) ?_ h6.symm
      have : nth (stockL b) i = nth b (i - 2) := by
        have := nth_app2 (two b.length) b (i - 2)
        unfold stockL
        rw [show (two (b.length : Int)).length + (i - 2) = i by simp [two]; omega] at this
        exact this
      rw [← this]; exact h
theorem beg_foilBit {b : List Int} {i : Nat} (hi : i < 4) {y : Int} (h : Bit (nth (foilL b) i) y) (s f : List Int) : beg (stockL b ++ s) ((foilL b).set i y ++ f) = false := by
  cases hg : beg (stockL b ++ s) ((foilL b).set i y ++ f)
  · rfl
  · exfalso
    obtain ⟨h1, h2, h3, h4, h5, h6⟩ := beg_iff.1 hg
    have hl : 2 ≤ ((foilL b).set i y).length := by rw [List.length_set, foilL_len]; omega
    rw [pr_stockL, pr_app _ _ hl] at h4
    rcases Nat.lt_or_ge i 2 with h01 | h01
    · have := pr_set01 h01 (by rw [foilL_len]; omega) h
      have e : pr (foilL b) = (b.length : Int) := by have := pr_foilL b []; simpa using this
      rw [e] at this
      exact this h4
    · rw [hdL_stockL] at h6
      have e : ((foilL b).set i y ++ f).drop 2 = (two (chk b)).set (i - 2) y ++ f := by
        unfold foilL
        rw [List.set_append_right _ _ (by simpa [two] using h01)]
        rfl
      rw [e, pr_app _ _ (by simp [two])] at h6
      have hn : nth (foilL b) i = nth (two (chk b)) (i - 2) := by
        have := nth_app2 (two b.length) (two (chk b)) (i - 2)
        unfold foilL
        rw [show (two (b.length : Int)).length + (i - 2) = i by simp [two]; omega] at this
        exact this
      rw [hn] at h
      have := pr_set01 (s := two (chk b)) (by omega) (by simp [two]) h
      have e2 : pr (two (chk b)) = chk b := by have := pr_two (chk b) []; simpa using this
      rw [e2] at this
      exact this h6
/-- where a byte of the stocks lies -/
def endsL (l : List (List Int)) (k : Nat) : Int := ((catS (l.take k)).length : Int)
theorem split_at {l : List (List Int)} {k : Nat} (hk : k < l.length) : l = l.take k ++ l[k] :: l.drop (k + 1) := by rw [← List.drop_eq_getElem_cons hk, List.take_append_drop]
theorem catS_app (a b : List (List Int)) : catS (a ++ b) = catS a ++ catS b := by simp [catS]
theorem catF_app (a b : List (List Int)) : catF (a ++ b) = catF a ++ catF b := by simp [catF]
theorem Good.take {m : Nat} {l : List (List Int)} (h : Good m l) (k : Nat) : Good m (l.take k) := fun b hb => h b (List.mem_of_mem_take hb)
theorem ends_step {l : List (List Int)} {k : Nat} (hk : k < l.length) : (catS (l.take (k + 1))).length = (catS (l.take k)).length + (2 + l[k].length) := by
  rw [List.take_succ_eq_append_getElem hk, catS_snoc, List.length_append, stockL_len]
/-- one bit of the stocks inverted: just the tallies ahead are told -/
theorem join_stockBit {l : List (List Int)} (h : Good 300 l) {k i : Nat} (hk : k < l.length) (h1 : (catS (l.take k)).length ≤ i) (h2 : i < (catS (l.take (k + 1))).length) {y : Int} (hy : Bit (nth (catS l) i) y) :
    joinL ((catS l).set i y) (catF l) = l.take k := by
  have hs := ends_step hk
  have hlen : i - (catS (l.take k)).length < (stockL l[k]).length := by rw [stockL_len]; omega
  have e1 : catS l = catS (l.take k) ++ (stockL l[k] ++ catS (l.drop (k + 1))) := by
    conv => lhs; rw [split_at hk]
    rw [catS_app, catS_cons]
  have e2 : catF l = catF (l.take k) ++ (foilL l[k] ++ catF (l.drop (k + 1))) := by
    conv => lhs; rw [split_at hk]
    rw [catF_app, catF_cons]
  have en : nth (catS l) i = nth (stockL l[k]) (i - (catS (l.take k)).length) := by
    rw [e1]
    have := nth_app2 (catS (l.take k)) (stockL l[k] ++ catS (l.drop (k + 1))) (i - (catS (l.take k)).length)
    rw [show (catS (l.take k)).length + (i - (catS (l.take k)).length) = i by omega] at this
    rw [this, nth_app1 _ _ _ hlen]
  have e3 : (catS l).set i y = catS (l.take k) ++ ((stockL l[k]).set (i - (catS (l.take k)).length) y ++ catS (l.drop (k + 1))) := by
    rw [e1, List.set_append_right _ _ h1, List.set_append_left _ _ hlen]
  rw [e3, e2, joinL_cat (by omega) (h.take k), joinL_stop (beg_stockBit (h _ (List.getElem_mem hk)).2 hlen (by rw [← en]; exact hy) _ _), List.append_nil]
/-- one bit of the foils inverted: just the tallies ahead are told -/
theorem join_foilBit {l : List (List Int)} (h : Good 300 l) {i : Nat} (hi : i < 4 * l.length) {y : Int} (hy : Bit (nth (catF l) i) y) :
    joinL (catS l) ((catF l).set i y) = l.take (i / 4) := by
  have hk : i / 4 < l.length := by omega
  have hT : (catF (l.take (i / 4))).length = 4 * (i / 4) := by rw [catF_len, List.length_take]; omega
  have hlen : i - (catF (l.take (i / 4))).length < (foilL l[i / 4]).length := by rw [foilL_len]; omega
  have e1 : catS l = catS (l.take (i / 4)) ++ (stockL l[i / 4] ++ catS (l.drop (i / 4 + 1))) := by
    conv => lhs; rw [split_at hk]
    rw [catS_app, catS_cons]
  have e2 : catF l = catF (l.take (i / 4)) ++ (foilL l[i / 4] ++ catF (l.drop (i / 4 + 1))) := by
    conv => lhs; rw [split_at hk]
    rw [catF_app, catF_cons]
  have en : nth (catF l) i = nth (foilL l[i / 4]) (i - (catF (l.take (i / 4))).length) := by
    rw [e2]
    have := nth_app2 (catF (l.take (i / 4))) (foilL l[i / 4] ++ catF (l.drop (i / 4 + 1))) (i - (catF (l.take (i / 4))).length)
    rw [show (catF (l.take (i / 4))).length + (i - (catF (l.take (i / 4))).length) = i by omega] at this
    rw [this, nth_app1 _ _ _ hlen]
  have e3 : (catF l).set i y = catF (l.take (i / 4)) ++ ((foilL l[i / 4]).set (i - (catF (l.take (i / 4))).length) y ++ catF (l.drop (i / 4 + 1))) := by
    rw [e2, List.set_append_right _ _ (by omega), List.set_append_left _ _ hlen]
  rw [e3, e1, joinL_cat (by omega) (h.take _), joinL_stop (beg_foilBit (by rw [foilL_len] at hlen; exact hlen) (by rw [← en]; exact hy) _ _), List.append_nil]
end Go.Proofs.Ytbpbdgiglllncaa

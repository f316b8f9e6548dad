/- Sums of covers, and of two plans together. -/
import Derived.Test.YtfafjojoapcliaaQ5
namespace Go.Proofs.Ytfafjojoapcliaa
open Go.RowKit

theorem cntB_of {l : List Int} {m : Int} (h : ∀ k, k < l.length → 0 ≤ nth l k ∧ nth l k ≤ m) : cntB l m = true := by
  have key : ∀ k, k ≤ l.length → cntB (l.take k) m = true := by
    intro k
    induction k with
    | zero => intro _; rfl
    | succ k ih => intro hk; rw [cntB_snoc _ _ _ (by omega), ih (by omega), inB_iff.2 (h k (by omega))]; rfl
  have := key _ (Nat.le_refl _)
  rwa [List.take_length] at this
theorem cntB_mono {l : List Int} {m n : Int} (h : cntB l m = true) (h0 : 0 ≤ m) (hn : m ≤ n) : cntB l n = true :=
  cntB_of fun k _ => by have := cntB_nth h k h0; omega

/-- two plans together, as far as it has come -/
def bothTo (a b : List Int) (k : Nat) : List Int := (List.range k).map fun j => nth a j + nth b j
theorem bothTo_len (a b : List Int) (k : Nat) : (bothTo a b k).length = k := by simp [bothTo]
theorem bothTo_snoc (a b : List Int) (k : Nat) : bothTo a b (k + 1) = bothTo a b k ++ [nth a k + nth b k] := by simp [bothTo, List.range_succ]
theorem bothTo_nth (a b : List Int) (k j : Nat) (h : j < k) : nth (bothTo a b k) j = nth a j + nth b j := by
  unfold bothTo
  conv => lhs; unfold nth
  rw [List.getD_eq_getElem?_getD, List.getElem?_map, List.getElem?_range h]; rfl
theorem both_cnt {a b : List Int} (ha : cntB a 50000 = true) (hb : cntB b 50000 = true) (k : Nat) : cntB (bothTo a b k) 100000 = true :=
  cntB_of fun j hj => by
    rw [bothTo_len] at hj
    rw [bothTo_nth _ _ _ _ hj]
    have := cntB_nth ha j (by omega)
    have := cntB_nth hb j (by omega)
    omega
/-- what is told of plans that are within bounds -/
def covE3 (t : Tk) (n : Nat) : Int := if taskB t = true then (if (n : Int) = firsts t then 0 else 52) else 50
theorem covE_len {t : Tk} {p : List Int} (h : cntB p 100000 = true) : covE t p = covE3 t p.length := by
  unfold covE covE3 okPlan
  rw [h]
  simp
theorem cov_cnt {p : List Int} {W n : Nat} (hc : cntB p 100000 = true) (hp : p.length ≤ 400) (hW : 1 ≤ W) (hm : p.length + W = n + 1) : cntB (covL p W n) 40000000 = true :=
  cntB_of fun k hk => by
    rw [covL_len] at hk
    rw [covL_nth _ _ _ _ hk, covAt]
    have h1 := pre_mono hc (by omega) (show k + 1 - W ≤ min (k + 1) p.length by omega)
    have h2 := pre_bd hc (by omega) (min (k + 1) p.length)
    have h3 := pre_bd hc (by omega) (k + 1 - W)
    have h4 : ((min (k + 1) p.length : Nat) : Int) * 100000 ≤ 400 * 100000 := by omega
    omega
theorem cov_both {a b : List Int} {W n k : Nat} (hl : b.length = a.length) (hm : a.length + W = n + 1) (hW : 1 ≤ W) (hk : k < n) :
    nth (covL a W n) k + nth (covL b W n) k = nth (covL (bothTo a b a.length) W n) k := by
  rw [covL_nth _ _ _ _ hk, covL_nth _ _ _ _ hk, covL_nth _ _ _ _ hk]
  unfold covAt
  rw [bothTo_len, hl]
  have e : ∀ j, j ≤ a.length → pre (bothTo a b a.length) j = pre a j + pre b j := fun j hj => pre_add fun i hi => bothTo_nth _ _ _ _ (by omega)
  rw [e _ (by omega), e _ (by omega)]
  omega

theorem news_int (w : World) (x : Int) : ∀ (j : Nat) (u : Value), [Value.int .i64 x][j]? = some u → (w.alloc (.cells #[.int .i64 x] 3)).cell? ((⟨w.heap.size, 0, none⟩ : Addr).add j) = some u := fun j u h => by
  have e := Box.made w 3 #[.int .i64 x]
  rcases j with _ | j
  · exact (e.cell 0).trans h
  · simp at h

end Go.Proofs.Ytfafjojoapcliaa

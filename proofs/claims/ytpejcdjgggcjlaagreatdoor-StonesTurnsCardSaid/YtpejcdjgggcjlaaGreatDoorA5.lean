/- The walks of slices.Compare, cmp.Compare, slices.Equal, Same. -/
import Derived.Test.YtpejcdjgggcjlaaGreatDoorA1
namespace Go.Proofs.YtpejcdjgggcjlaaGreatDoor
open Go.RowKit

/-- how two numbers compare -/
def cmpI (a b : Int) : Int := if a < b then -1 else if b < a then 1 else 0

set_option maxHeartbeats 400000 in
theorem isNaN_c (a : Int) (w : World) : Calls Tryz.prog 91 #[.int .i64 a] w fun e w' => e = .returned (.bool false) ∧ w = w' := by
  have h : (a != a) = false := by simp
  go_enter Tryz.func91, Tryz.ntmps91
  go_wp2
  go_ret
  exact ⟨rfl, rfl⟩

set_option maxHeartbeats 400000 in
theorem cmp_c (a b : Int) (w : World) : Calls Tryz.prog 81 #[.int .i64 a, .int .i64 b] w fun e w' => e = .returned (.int .i64 (cmpI a b)) ∧ w = w' := by
  go_enter Tryz.func81, Tryz.ntmps81
  go_wp2_with fail
  refine (isNaN_c _ _).mono ?_; rintro e w' ⟨rfl, rfl⟩
  go_wp2_with fail
  refine (isNaN_c _ _).mono ?_; rintro e w' ⟨rfl, rfl⟩
  go_wp2_with fail
  · have h : a < b := by assumption
    go_ret
    exact ⟨ret_int (by simp [cmpI, h]), rfl⟩
  · have h : b < a := by assumption
    go_ret
    exact ⟨ret_int (by rw [cmpI, if_neg (by omega), if_pos h]), rfl⟩
  · have h : ¬ b < a := by first | assumption | omega
    have h2 : ¬ a < b := by first | assumption | omega
    go_ret
    exact ⟨ret_int (by rw [cmpI, if_neg h2, if_neg h]), rfl⟩

/-- how two lists compare -/
def cmpL : List Int → List Int → Int
  | [], [] => 0
  | [], _ :: _ => -1
  | _ :: _, [] => 1
  | a :: l, b :: r => if cmpI a b = 0 then cmpL l r else cmpI a b
theorem cmpI_zero {a b : Int} : cmpI a b = 0 ↔ a = b := by
  unfold cmpI; split
  · omega
  · split <;> omega
/-- from a place on -/
def cmpFrom (l r : List Int) (k : Nat) : Int := cmpL (l.drop k) (r.drop k)
theorem nth_get {l : List Int} {k : Nat} (h : k < l.length) : nth l k = l[k] := by simp [nth, h]
theorem cmpFrom_eq {l r : List Int} {k : Nat} (h1 : k < l.length) (h2 : k < r.length) (h : cmpI (nth l k) (nth r k) = 0) : cmpFrom l r k = cmpFrom l r (k + 1) := by
  unfold cmpFrom
  rw [List.drop_eq_getElem_cons h1, List.drop_eq_getElem_cons h2, cmpL, if_pos (by rw [nth_get h1, nth_get h2] at h; exact h)]
theorem cmpFrom_ne {l r : List Int} {k : Nat} (h1 : k < l.length) (h2 : k < r.length) (h : cmpI (nth l k) (nth r k) ≠ 0) : cmpFrom l r k = cmpI (nth l k) (nth r k) := by
  unfold cmpFrom
  rw [nth_get h1, nth_get h2] at h ⊢
  rw [List.drop_eq_getElem_cons h1, List.drop_eq_getElem_cons h2, cmpL, if_neg h]
theorem cmpFrom_long {l r : List Int} {k : Nat} (h1 : k < l.length) (h2 : r.length ≤ k) : cmpFrom l r k = 1 := by
  unfold cmpFrom
  rw [List.drop_eq_getElem_cons h1, List.drop_eq_nil_of_le h2, cmpL]
theorem cmpFrom_short {l r : List Int} {k : Nat} (h1 : l.length ≤ k) (h2 : k < r.length) : cmpFrom l r k = -1 := by
  unfold cmpFrom
  rw [List.drop_eq_getElem_cons h2, List.drop_eq_nil_of_le h1, cmpL]
theorem cmpFrom_end {l r : List Int} {k : Nat} (h1 : l.length ≤ k) (h2 : r.length ≤ k) : cmpFrom l r k = 0 := by
  unfold cmpFrom
  rw [List.drop_eq_nil_of_le h2, List.drop_eq_nil_of_le h1, cmpL]

set_option maxHeartbeats 800000 in
theorem compare_c (l r : List Int) (v u : Value) (w : World) (hl : Ints w w.heap.size v l) (hr : Ints w w.heap.size u r) :
    Calls Tryz.prog 66 #[v, u] w fun e w' => e = .returned (.int .i64 (cmpL l r)) ∧ w = w' := by
  obtain ⟨l1, A, c, rfl, l2, l3⟩ := hl
  obtain ⟨r1, A', c', rfl, r2, r3⟩ := hr
  have H0 := Lib.hid (show cmpL l r = cmpFrom l r 0 by simp [cmpFrom])
  go_enter Tryz.func66, Tryz.ntmps66
  go_wp2_with fail
  go_loop [11] (fun i => ∃ k : Nat, k ≤ l.length ∧ k ≤ r.length ∧ i = .int .i64 k ∧ cmpFrom l r k = cmpFrom l r 0) (fun i => l.length - (intOf i).toNat)
  case atStart => exact ⟨0, Nat.zero_le _, Nat.zero_le _, rfl, rfl⟩
  case round =>
    obtain ⟨k, hk, hk2, rfl, hrel⟩ := hrel
    have HR := Lib.hid hrel
    clear hrel
    by_cases hlt : k < l.length
    · obtain ⟨b, off, rfl, hbB, hcc⟩ := l3 (by omega)
      have hx := hcc k hlt
      clear l3 hcc
      by_cases hlt2 : k < r.length
      · obtain ⟨b', off', rfl, hbB', hcc'⟩ := r3 (by omega)
        have hy := hcc' k hlt2
        clear r3 hcc'
        by_cases hz : cmpI (nth l k) (nth r k) = 0
        · have Hz := Lib.hid (cmpFrom_eq hlt hlt2 hz)
          have hn : (cmpI (nth l k) (nth r k) != 0) = false := by simp [hz]
          clear hz
          go_wp2_with fail
          refine (cmp_c _ _ _).mono ?_; rintro e w' ⟨rfl, rfl⟩
          go_wp2_with fail
          go_round
          case rel => exact ⟨k + 1, by omega, by omega, by go_num, by rw [← Hz.out, HR.out]⟩
          case measure => simp [intOf]; omega
        · have Hz := Lib.hid (cmpFrom_ne hlt hlt2 hz)
          have hn : (cmpI (nth l k) (nth r k) != 0) = true := by simp [hz]
          clear hz
          go_wp2_with fail
          refine (cmp_c _ _ _).mono ?_; rintro e w' ⟨rfl, rfl⟩
          go_wp2_with fail
          go_ret
          exact ⟨ret_int (by rw [H0.out, ← HR.out, Hz.out]), rfl⟩
      · clear r3
        go_wp2_with fail
        go_ret
        exact ⟨ret_int (by rw [H0.out, ← HR.out, cmpFrom_long hlt (by omega)]), rfl⟩
    · clear l3 r3
      by_cases hlt2 : k < r.length
      · have hlr : l.length < r.length := by omega
        go_wp2_with fail
        go_ret
        exact ⟨ret_int (by rw [H0.out, ← HR.out, cmpFrom_short (by omega) hlt2]), rfl⟩
      · have hlr : ¬ l.length < r.length := by omega
        go_wp2_with fail
        go_ret
        exact ⟨ret_int (by rw [H0.out, ← HR.out, cmpFrom_end (by omega) (by omega)]), rfl⟩

/-- two faces are the same -/
def sameB (f g : Fc) : Bool := decide (f.eye = g.eye) && decide (f.rings = g.rings) && decide (f.sectors = g.sectors) && decide (f.kinds = g.kinds)
theorem sameB_iff {f g : Fc} : sameB f g = true ↔ f = g := by
  cases f; cases g; simp [sameB, and_assoc]

end Go.Proofs.YtpejcdjgggcjlaaGreatDoor

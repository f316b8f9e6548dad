/- Layer 7: all sectors at which the runner may stand, as the program has them; whether a list has a number. -/
import Derived.Test.YtmmfmanjajefcaaHS1
set_option linter.all false
namespace Go.Proofs.Ytmmfmanjajefcaa
open Go.RowKit

/-- all sectors at which the runner may stand -/
def mayL (N D n d S : Nat) : List Nat := (List.range S).filter (mayB N D n d S)
def alV (ms : List Mh) (s : Int) : List Nat := if rnE ms s 0 = 0 then mayL (shN ms ms.length).1 (shN ms ms.length).2 (plN ms).1 (plN ms).2 s.toNat else []
def AlPost (w : World) (ms : List Mh) (s : Int) (e : Ending) (w' : World) : Prop := ∃ v, e = .returned (.tuple #[v, .int .i64 (rnE ms s 0)]) ∧ Ints w' w'.heap.size v (nats (alV ms s)) ∧ Below w.heap.size w w'
theorem al_bad {ms : List Mh} {s : Int} (h : rnE ms s 0 ≠ 0) : alV ms s = [] := by unfold alV; rw [if_neg h]
theorem al_ok {ms : List Mh} {s : Int} (h : rnE ms s 0 = 0) {N D n d S T : Nat} (hr : RunOk ms s 0 N D n d S T) : alV ms s = mayL N D n d S := by
  unfold alV
  rw [if_pos h, hr.sh, hr.pl, hr.sec]
  rfl
theorem mayL_len (N D n d S : Nat) : (mayL N D n d S).length ≤ S := filter_len _ _

set_option maxRecDepth 100000 in
set_option maxHeartbeats 8000000 in
theorem All_c (ms : List Mh) (s : Int) (v : Value) (w : World) (h : IsTr w w.heap.size v ms) : Calls Try.prog 47 #[v, .int .i64 s] w (AlPost w ms s) := by
  have HT := Lib.hid h
  obtain ⟨sv, rfl, A, c, rfl, -, -⟩ := h
  obtain ⟨l, hn⟩ : ∃ n, ms.length = n := ⟨_, rfl⟩
  have HN := Lib.hid hn
  rw [hn] at HT ⊢
  clear hn
  go_enter Try.func47, Try.ntmps47
  go_wp2_with fail
  obtain ⟨W1, hW2⟩ : ∃ Wzz, (w.alloc (.cells #[.slice A l c] 35)) = Wzz := ⟨_, rfl⟩
  have B3 := Lib.hid (show Below w.heap.size w W1 by rw [← hW2]; exact ((Below.refl w.heap.size w).alloc (Nat.le_refl _) _))
  have X4 := Lib.hid (show Box W1 (w.heap.size) 35 #[.slice A l c] by rw [← hW2]; exact Box.made w 35 #[.slice A l c])
  have C5 := Lib.hid (HT.out.later B3.out)
  have SZ6 := Lib.hid (show W1.heap.size = w.heap.size + 1 by rw [← hW2]; simp)
  rw [hW2]
  clear hW2
  have q7 : W1.cell? ⟨w.heap.size, 0, none⟩ = some (.slice A l c) := X4.out.cell 0
  go_wp2_with fail
  refine (runnerOf_c ms s 0 _ _ C5.out).mono ?_; rintro e v8 ⟨rfl, hb9⟩
  have X10 := Lib.hid (X4.out.later hb9)
  have C11 := Lib.hid (C5.out.later hb9)
  have B12 := Lib.hid (B3.out.trans (hb9.mono B3.out.size))
  clear hb9
  clear q7
  have q13 : v8.cell? ⟨w.heap.size, 0, none⟩ = some (.slice A l c) := X10.out.cell 0
  rcases rn_two ms s 0 with ⟨he, hr⟩ | ⟨he, N, D, n, d, S, T, hr, hok⟩
  · have HR := Lib.hid (al_bad he)
    have HE := Lib.hid he
    rw [hr]
    obtain ⟨x, hx⟩ : ∃ x, rnE ms s 0 = x := ⟨_, rfl⟩
    have HX := Lib.hid hx
    rw [hx] at HE ⊢
    have e1 : (x != 0) = true := by have := HE.out; simpa using this
    have e2 : (x == 0) = false := by have := HE.out; simpa using this
    have e3 : decide (x = 0) = false := by have := HE.out; simpa using this
    clear he hr hx
    have X14 := Lib.hid (X10.out.alloc (.cells #[.int .i64 0, .int .i64 0, .int .i64 0, .int .i64 0, .int .i64 0] 94))
    have C15 := Lib.hid (C11.out.later ((Below.refl v8.heap.size v8).alloc (Nat.le_refl _) (.cells #[.int .i64 0, .int .i64 0, .int .i64 0, .int .i64 0, .int .i64 0] 94)))
    have B16 := Lib.hid (B12.out.alloc B12.out.size (.cells #[.int .i64 0, .int .i64 0, .int .i64 0, .int .i64 0, .int .i64 0] 94))
    have X17 := Lib.hid (Box.made v8 94 #[.int .i64 0, .int .i64 0, .int .i64 0, .int .i64 0, .int .i64 0])
    have q18 : (v8.alloc (.cells #[.int .i64 0, .int .i64 0, .int .i64 0, .int .i64 0, .int .i64 0] 94)).cell? ⟨w.heap.size, 0, none⟩ = some (.slice A l c) := X14.out.cell 0
    have q19 : (v8.alloc (.cells #[.int .i64 0, .int .i64 0, .int .i64 0, .int .i64 0, .int .i64 0] 94)).cell? ⟨v8.heap.size, 0, none⟩ = some (.int .i64 0) := X17.out.cell 0
    have q20 : (v8.alloc (.cells #[.int .i64 0, .int .i64 0, .int .i64 0, .int .i64 0, .int .i64 0] 94)).cell? ⟨v8.heap.size, 1, none⟩ = some (.int .i64 0) := X17.out.cell 1
    have q21 : (v8.alloc (.cells #[.int .i64 0, .int .i64 0, .int .i64 0, .int .i64 0, .int .i64 0] 94)).cell? ⟨v8.heap.size, 2, none⟩ = some (.int .i64 0) := X17.out.cell 2
    have q22 : (v8.alloc (.cells #[.int .i64 0, .int .i64 0, .int .i64 0, .int .i64 0, .int .i64 0] 94)).cell? ⟨v8.heap.size, 3, none⟩ = some (.int .i64 0) := X17.out.cell 3
    have q23 : (v8.alloc (.cells #[.int .i64 0, .int .i64 0, .int .i64 0, .int .i64 0, .int .i64 0] 94)).cell? ⟨v8.heap.size, 4, none⟩ = some (.int .i64 0) := X17.out.cell 4
    go_wp2_with fail
    go_ret2
    exact ⟨_, by rw [HX.out]; rfl, by rw [HR.out]; exact ints_nil _ _, B16.out⟩
  · have HR := Lib.hid (al_ok he hok)
    have HOK := Lib.hid hok
    have HE := Lib.hid he
    rw [hr]
    have e1 : ((0 : Int) != 0) = false := by decide
    obtain rfl : s = (S : Int) := hok.sec
    have HC := Lib.hid (fun (W : World) (k : Nat) (hk : k < S) => mayStandAt_c k N D n d S W hk HOK.out.S96 HOK.out.rp.1 HOK.out.rt.2.1 HOK.out.rt.2.2.1 HOK.out.rp.2.1 HOK.out.rp.2.2.1)
    have HS96 := Lib.hid hok.S96
    clear he hr hok
    have X24 := Lib.hid (X10.out.alloc (.cells #[.int .i64 (N : Int), .int .i64 (D : Int), .int .i64 (n : Int), .int .i64 (d : Int), .int .i64 (S : Int)] 94))
    have C25 := Lib.hid (C11.out.later ((Below.refl v8.heap.size v8).alloc (Nat.le_refl _) (.cells #[.int .i64 (N : Int), .int .i64 (D : Int), .int .i64 (n : Int), .int .i64 (d : Int), .int .i64 (S : Int)] 94)))
    have B26 := Lib.hid (B12.out.alloc B12.out.size (.cells #[.int .i64 (N : Int), .int .i64 (D : Int), .int .i64 (n : Int), .int .i64 (d : Int), .int .i64 (S : Int)] 94))
    have X27 := Lib.hid (Box.made v8 94 #[.int .i64 (N : Int), .int .i64 (D : Int), .int .i64 (n : Int), .int .i64 (d : Int), .int .i64 (S : Int)])
    have q28 : (v8.alloc (.cells #[.int .i64 (N : Int), .int .i64 (D : Int), .int .i64 (n : Int), .int .i64 (d : Int), .int .i64 (S : Int)] 94)).cell? ⟨w.heap.size, 0, none⟩ = some (.slice A l c) := X24.out.cell 0
    have q29 : (v8.alloc (.cells #[.int .i64 (N : Int), .int .i64 (D : Int), .int .i64 (n : Int), .int .i64 (d : Int), .int .i64 (S : Int)] 94)).cell? ⟨v8.heap.size, 0, none⟩ = some (.int .i64 (N : Int)) := X27.out.cell 0
    have q30 : (v8.alloc (.cells #[.int .i64 (N : Int), .int .i64 (D : Int), .int .i64 (n : Int), .int .i64 (d : Int), .int .i64 (S : Int)] 94)).cell? ⟨v8.heap.size, 1, none⟩ = some (.int .i64 (D : Int)) := X27.out.cell 1
    have q31 : (v8.alloc (.cells #[.int .i64 (N : Int), .int .i64 (D : Int), .int .i64 (n : Int), .int .i64 (d : Int), .int .i64 (S : Int)] 94)).cell? ⟨v8.heap.size, 2, none⟩ = some (.int .i64 (n : Int)) := X27.out.cell 2
    have q32 : (v8.alloc (.cells #[.int .i64 (N : Int), .int .i64 (D : Int), .int .i64 (n : Int), .int .i64 (d : Int), .int .i64 (S : Int)] 94)).cell? ⟨v8.heap.size, 3, none⟩ = some (.int .i64 (d : Int)) := X27.out.cell 3
    have q33 : (v8.alloc (.cells #[.int .i64 (N : Int), .int .i64 (D : Int), .int .i64 (n : Int), .int .i64 (d : Int), .int .i64 (S : Int)] 94)).cell? ⟨v8.heap.size, 4, none⟩ = some (.int .i64 (S : Int)) := X27.out.cell 4
    go_wp2_with fail
    refine (chosen_c S (.agg #[.int .i64 (N : Int), .int .i64 (D : Int), .int .i64 (n : Int), .int .i64 (d : Int), .int .i64 (S : Int)]) (mayB N D n d S) _ HS96.out HC.out).mono ?_; rintro e v34 ⟨lv, rfl, hI, hb35⟩
    have X36 := Lib.hid (X24.out.later hb35)
    have X37 := Lib.hid (X27.out.later hb35)
    have C38 := Lib.hid (C25.out.later hb35)
    have B39 := Lib.hid (B26.out.trans (hb35.mono B26.out.size))
    clear hb35
    obtain ⟨AL, cL, hlv⟩ := own_shape hI
    subst hlv
    have HI := Lib.hid (own_ints hI (Nat.le_trans (mayL_len N D n d S) (by have := HS96.out; omega)))
    clear hI
    clear q28 q29 q30 q31 q32 q33 q13
    have q40 : v34.cell? ⟨w.heap.size, 0, none⟩ = some (.slice A l c) := X36.out.cell 0
    have q41 : v34.cell? ⟨v8.heap.size, 0, none⟩ = some (.int .i64 (N : Int)) := X37.out.cell 0
    have q42 : v34.cell? ⟨v8.heap.size, 1, none⟩ = some (.int .i64 (D : Int)) := X37.out.cell 1
    have q43 : v34.cell? ⟨v8.heap.size, 2, none⟩ = some (.int .i64 (n : Int)) := X37.out.cell 2
    have q44 : v34.cell? ⟨v8.heap.size, 3, none⟩ = some (.int .i64 (d : Int)) := X37.out.cell 3
    have q45 : v34.cell? ⟨v8.heap.size, 4, none⟩ = some (.int .i64 (S : Int)) := X37.out.cell 4
    go_wp2_with fail
    go_ret2
    exact ⟨_, by rw [HE.out]; rfl, by rw [HR.out]; exact HI.out, B39.out⟩

set_option maxRecDepth 100000 in
set_option maxHeartbeats 4000000 in
theorem has_c (xs : List Int) (z : Int) (v : Value) (w : World) (b : Bool) (hb : decide (z ∈ xs) = b) (h : Ints w w.heap.size v xs) (hl : xs.length ≤ 1000) : Calls Try.prog 56 #[v, .int .i64 z] w fun e w' => e = .returned (.bool b) ∧ w = w' := by
  obtain ⟨-, A, c, rfl, hc, hx⟩ := h
  have HB := Lib.hid hb
  have HX := Lib.hid hx
  obtain ⟨l, hn⟩ : ∃ n, xs.length = n := ⟨_, rfl⟩
  have HN := Lib.hid hn
  rw [hn] at hl hc ⊢
  have HL := Lib.hid hl
  clear hb hx hc hl hn
  go_enter Try.func56, Try.ntmps56
  go_wp2_with fail
  go_loopw [5] (fun iv wr => ∃ k : Nat, k ≤ l ∧ iv = .int .i64 (k : Int) ∧ (∀ j, j < k → nth xs j ≠ z) ∧ wr = w) (fun iv _ => l - (intOf iv).toNat)
  case atStart => exact ⟨0, Nat.zero_le _, rfl, fun j hj => by omega, rfl⟩
  case round =>
    obtain ⟨k, hk, rfl, hno, hww⟩ := hrel
    obtain rfl : wr = w := hww
    have HNO := Lib.hid hno
    clear hno
    by_cases hlt : k < l
    · obtain ⟨bb, off, rfl, -, hcell⟩ := HX.out (by have := HN.out; omega)
      have q0 := hcell k (by have := HN.out; omega)
      have HLT := Lib.hid hlt
      have d1 : decide ((k : Int) < (l : Int)) = true := by simpa using hlt
      have d2 : decide (k < l) = true := by simpa using hlt
      have k0 : (0 : Int) ≤ (k : Int) := by omega
      have k1 : (k : Int) < (l : Int) := by omega
      have k3 : k ≤ 1000 := by have := HL.out; omega
      have HIN := Lib.hid (show nth xs k ∈ xs by
        have hkx : k < xs.length := by have := HN.out; omega
        have e : nth xs k = xs[k] := by unfold nth; simp [List.getD_eq_getElem?_getD, List.getElem?_eq_getElem hkx]
        rw [e]; exact List.getElem_mem hkx)
      obtain ⟨y, hy⟩ : ∃ y, nth xs k = y := ⟨_, rfl⟩
      rw [hy] at q0 HIN
      have HY := Lib.hid hy
      clear hcell hk hlt hy
      by_cases hyz : y = z
      · have HT := Lib.hid (show b = true by rw [← HB.out]; subst hyz; simpa using HIN.out)
        have g1 : (y == z) = true := by simpa using hyz
        have g2 : decide (y = z) = true := by simpa using hyz
        clear hyz
        go_wp2_with fail
        go_ret
        exact ⟨ret_bool HT.out.symm, rfl⟩
      · have g1 : (y == z) = false := by simpa using hyz
        have g2 : decide (y = z) = false := by simpa using hyz
        have HYZ := Lib.hid hyz
        clear hyz
        go_wp2_with fail
        go_roundw
        case rel => exact ⟨k + 1, HLT.out, by go_num, fun j hj => by rcases Nat.lt_succ_iff_lt_or_eq.1 hj with h | h; exact HNO.out j h; rw [h, HY.out]; exact HYZ.out, by first | trivial | rfl⟩
        case measure => have := HLT.out; simp [intOf]; omega
    · obtain rfl : k = l := by omega
      have d1 : decide ((k : Int) < (k : Int)) = false := by simp
      have d2 : decide (k < k) = false := by simp
      have HF := Lib.hid (show b = false by
        rw [← HB.out, decide_eq_false_iff_not]
        intro hm
        obtain ⟨j, hj, hjz⟩ := List.mem_iff_getElem.1 hm
        refine HNO.out j (by have := HN.out; omega) ?_
        unfold nth; simp [List.getD_eq_getElem?_getD, List.getElem?_eq_getElem hj, hjz])
      go_wp2_with fail
      go_ret
      exact ⟨ret_bool HF.out.symm, rfl⟩
end Go.Proofs.Ytmmfmanjajefcaa

/- Layer 7: where the runner may stand, as the program has it. -/
import Derived.Test.YtmmfmanjajefcaaLY
set_option linter.all false
namespace Go.Proofs.Ytmmfmanjajefcaa
open Go.RowKit

/-- the sectors at which the runner may stand -/
def spR (N D n d S T : Nat) : Rr := ⟨hmI (T * N) S D n d, ((fmN (T * N) S D : Nat) : Int), 0⟩
def whR (ms : List Mh) (s t : Int) : Rr := if rnE ms s t = 0 then spR (shN ms ms.length).1 (shN ms ms.length).2 (plN ms).1 (plN ms).2 s.toNat t.toNat else ⟨0, 0, rnE ms s t⟩
theorem wh_bad {ms : List Mh} {s t : Int} (h : rnE ms s t ≠ 0) : whR ms s t = ⟨0, 0, rnE ms s t⟩ := by unfold whR; rw [if_neg h]
theorem wh_ok {ms : List Mh} {s t : Int} (h : rnE ms s t = 0) {N D n d S T : Nat} (hr : RunOk ms s t N D n d S T) : whR ms s t = spR N D n d S T := by
  unfold whR
  rw [if_pos h, hr.sh, hr.pl, hr.sec, hr.tee]
  rfl

set_option maxRecDepth 100000 in
set_option maxHeartbeats 4000000 in
theorem Where_c (ms : List Mh) (s t : Int) (v : Value) (w : World) (h : IsTr w w.heap.size v ms) : Calls Try.prog 45 #[v, .int .i64 s, .int .i64 t] w fun e w' => e = .returned (rrV (whR ms s t)) ∧ Below w.heap.size w w' := by
  have HT := Lib.hid h
  obtain ⟨sv, rfl, A, c, rfl, -, -⟩ := h
  obtain ⟨l, hn⟩ : ∃ n, ms.length = n := ⟨_, rfl⟩
  have HN := Lib.hid hn
  rw [hn] at HT ⊢
  clear hn
  go_enter Try.func45, Try.ntmps45
  go_wp2_with fail
  obtain ⟨W1, hW2⟩ : ∃ Wzz, ((w.alloc (.cells #[.slice A l c] 35)).alloc (.cells #[.int .i64 0, .int .i64 0] 52)) = Wzz := ⟨_, rfl⟩
  have B3 := Lib.hid (show Below w.heap.size w W1 by rw [← hW2]; exact (((Below.refl w.heap.size w).alloc (Nat.le_refl _) _).alloc (by first | (simp; done) | (simp; omega)) _))
  have X4 := Lib.hid (show Box W1 (w.heap.size) 35 #[.slice A l c] by rw [← hW2]; exact Box.alloc (Box.made w 35 #[.slice A l c]) (.cells #[.int .i64 0, .int .i64 0] 52))
  have X5 := Lib.hid (show Box W1 (w.heap.size + 1) 52 #[.int .i64 0, .int .i64 0] by
    have hz := Box.made (w.alloc (.cells #[.slice A l c] 35)) 52 #[.int .i64 0, .int .i64 0]
    rw [World.size_alloc] at hz
    rw [← hW2]; exact hz)
  have C6 := Lib.hid (HT.out.later B3.out)
  have SZ7 := Lib.hid (show W1.heap.size = w.heap.size + 1 + 1 by rw [← hW2]; simp)
  rw [hW2]
  clear hW2
  have q8 : W1.cell? ⟨w.heap.size, 0, none⟩ = some (.slice A l c) := X4.out.cell 0
  have q9 : W1.cell? ⟨w.heap.size + 1, 0, none⟩ = some (.int .i64 0) := X5.out.cell 0
  have q10 : W1.cell? ⟨w.heap.size + 1, 1, none⟩ = some (.int .i64 0) := X5.out.cell 1
  have fz11 : ∀ o, W1.frozen? ⟨w.heap.size + 1, o, none⟩ = false := fun o => X5.out.free o
  go_wp2_with fail
  refine (runnerOf_c ms s t _ _ C6.out).mono ?_; rintro e v12 ⟨rfl, hb13⟩
  have X14 := Lib.hid (X4.out.later hb13)
  have X15 := Lib.hid (X5.out.later hb13)
  have C16 := Lib.hid (C6.out.later hb13)
  have B17 := Lib.hid (B3.out.trans (hb13.mono B3.out.size))
  clear hb13
  clear q8 q9 q10 fz11
  have q18 : v12.cell? ⟨w.heap.size, 0, none⟩ = some (.slice A l c) := X14.out.cell 0
  have q19 : v12.cell? ⟨w.heap.size + 1, 0, none⟩ = some (.int .i64 0) := X15.out.cell 0
  have q20 : v12.cell? ⟨w.heap.size + 1, 1, none⟩ = some (.int .i64 0) := X15.out.cell 1
  have fz21 : ∀ o, v12.frozen? ⟨w.heap.size + 1, o, none⟩ = false := fun o => X15.out.free o
  rcases rn_two ms s t with ⟨he, hr⟩ | ⟨he, N, D, n, d, S, T, hr, hok⟩
  · have HR := Lib.hid (wh_bad he)
    have HE := Lib.hid he
    rw [hr]
    obtain ⟨x, hx⟩ : ∃ x, rnE ms s t = x := ⟨_, rfl⟩
    rw [hx] at HR HE ⊢
    have e1 : (x != 0) = true := by have := HE.out; simpa using this
    have e2 : (x == 0) = false := by have := HE.out; simpa using this
    have e3 : decide (x = 0) = false := by have := HE.out; simpa using this
    clear he hr hx
    have X22 := Lib.hid (X14.out.alloc (.cells #[.int .i64 0, .int .i64 0, .int .i64 0, .int .i64 0, .int .i64 0] 94))
    have X23 := Lib.hid (X15.out.alloc (.cells #[.int .i64 0, .int .i64 0, .int .i64 0, .int .i64 0, .int .i64 0] 94))
    have C24 := Lib.hid (C16.out.later ((Below.refl v12.heap.size v12).alloc (Nat.le_refl _) (.cells #[.int .i64 0, .int .i64 0, .int .i64 0, .int .i64 0, .int .i64 0] 94)))
    have B25 := Lib.hid (B17.out.alloc B17.out.size (.cells #[.int .i64 0, .int .i64 0, .int .i64 0, .int .i64 0, .int .i64 0] 94))
    have X26 := Lib.hid (Box.made v12 94 #[.int .i64 0, .int .i64 0, .int .i64 0, .int .i64 0, .int .i64 0])
    have q27 : (v12.alloc (.cells #[.int .i64 0, .int .i64 0, .int .i64 0, .int .i64 0, .int .i64 0] 94)).cell? ⟨w.heap.size, 0, none⟩ = some (.slice A l c) := X22.out.cell 0
    have q28 : (v12.alloc (.cells #[.int .i64 0, .int .i64 0, .int .i64 0, .int .i64 0, .int .i64 0] 94)).cell? ⟨w.heap.size + 1, 0, none⟩ = some (.int .i64 0) := X23.out.cell 0
    have q29 : (v12.alloc (.cells #[.int .i64 0, .int .i64 0, .int .i64 0, .int .i64 0, .int .i64 0] 94)).cell? ⟨w.heap.size + 1, 1, none⟩ = some (.int .i64 0) := X23.out.cell 1
    have fz30 : ∀ o, (v12.alloc (.cells #[.int .i64 0, .int .i64 0, .int .i64 0, .int .i64 0, .int .i64 0] 94)).frozen? ⟨w.heap.size + 1, o, none⟩ = false := fun o => X23.out.free o
    have q31 : (v12.alloc (.cells #[.int .i64 0, .int .i64 0, .int .i64 0, .int .i64 0, .int .i64 0] 94)).cell? ⟨v12.heap.size, 0, none⟩ = some (.int .i64 0) := X26.out.cell 0
    have q32 : (v12.alloc (.cells #[.int .i64 0, .int .i64 0, .int .i64 0, .int .i64 0, .int .i64 0] 94)).cell? ⟨v12.heap.size, 1, none⟩ = some (.int .i64 0) := X26.out.cell 1
    have q33 : (v12.alloc (.cells #[.int .i64 0, .int .i64 0, .int .i64 0, .int .i64 0, .int .i64 0] 94)).cell? ⟨v12.heap.size, 2, none⟩ = some (.int .i64 0) := X26.out.cell 2
    have q34 : (v12.alloc (.cells #[.int .i64 0, .int .i64 0, .int .i64 0, .int .i64 0, .int .i64 0] 94)).cell? ⟨v12.heap.size, 3, none⟩ = some (.int .i64 0) := X26.out.cell 3
    have q35 : (v12.alloc (.cells #[.int .i64 0, .int .i64 0, .int .i64 0, .int .i64 0, .int .i64 0] 94)).cell? ⟨v12.heap.size, 4, none⟩ = some (.int .i64 0) := X26.out.cell 4
    go_wp2_with fail
    exact endSr Try.results45 rfl rfl HR.out X23.out (by omega) B25.out
  · have HR := Lib.hid (wh_ok he hok)
    have HOK := Lib.hid hok
    rw [hr]
    obtain ⟨P, hP⟩ : ∃ P, T * N = P := ⟨_, rfl⟩
    have HP := Lib.hid (show P ≤ 1000000000000000 by rw [← hP]; exact Nat.mul_le_mul hok.T6 hok.rt.1)
    have HRP := Lib.hid (show whR ms (S : Int) (T : Int) = ⟨hmI P S D n d, ((fmN P S D : Nat) : Int), 0⟩ by have := HR.out; rw [hok.sec, hok.tee] at this; rw [this]; unfold spR; rw [hP])
    have m1 : IntKind.i64.wrap ((T : Int) * (N : Int)) = (P : Int) := by rw [show (T : Int) * (N : Int) = ((T * N : Nat) : Int) by simp, hP]; exact wrap_id (by have := HP.out; omega) (by have := HP.out; omega)
    have e1 : ((0 : Int) != 0) = false := by decide
    obtain rfl : s = (S : Int) := hok.sec
    obtain rfl : t = (T : Int) := hok.tee
    clear he hr hok hP
    have X36 := Lib.hid (X14.out.alloc (.cells #[.int .i64 (N : Int), .int .i64 (D : Int), .int .i64 (n : Int), .int .i64 (d : Int), .int .i64 (S : Int)] 94))
    have X37 := Lib.hid (X15.out.alloc (.cells #[.int .i64 (N : Int), .int .i64 (D : Int), .int .i64 (n : Int), .int .i64 (d : Int), .int .i64 (S : Int)] 94))
    have C38 := Lib.hid (C16.out.later ((Below.refl v12.heap.size v12).alloc (Nat.le_refl _) (.cells #[.int .i64 (N : Int), .int .i64 (D : Int), .int .i64 (n : Int), .int .i64 (d : Int), .int .i64 (S : Int)] 94)))
    have B39 := Lib.hid (B17.out.alloc B17.out.size (.cells #[.int .i64 (N : Int), .int .i64 (D : Int), .int .i64 (n : Int), .int .i64 (d : Int), .int .i64 (S : Int)] 94))
    have X40 := Lib.hid (Box.made v12 94 #[.int .i64 (N : Int), .int .i64 (D : Int), .int .i64 (n : Int), .int .i64 (d : Int), .int .i64 (S : Int)])
    have q41 : (v12.alloc (.cells #[.int .i64 (N : Int), .int .i64 (D : Int), .int .i64 (n : Int), .int .i64 (d : Int), .int .i64 (S : Int)] 94)).cell? ⟨w.heap.size, 0, none⟩ = some (.slice A l c) := X36.out.cell 0
    have q42 : (v12.alloc (.cells #[.int .i64 (N : Int), .int .i64 (D : Int), .int .i64 (n : Int), .int .i64 (d : Int), .int .i64 (S : Int)] 94)).cell? ⟨w.heap.size + 1, 0, none⟩ = some (.int .i64 0) := X37.out.cell 0
    have q43 : (v12.alloc (.cells #[.int .i64 (N : Int), .int .i64 (D : Int), .int .i64 (n : Int), .int .i64 (d : Int), .int .i64 (S : Int)] 94)).cell? ⟨w.heap.size + 1, 1, none⟩ = some (.int .i64 0) := X37.out.cell 1
    have fz44 : ∀ o, (v12.alloc (.cells #[.int .i64 (N : Int), .int .i64 (D : Int), .int .i64 (n : Int), .int .i64 (d : Int), .int .i64 (S : Int)] 94)).frozen? ⟨w.heap.size + 1, o, none⟩ = false := fun o => X37.out.free o
    have q45 : (v12.alloc (.cells #[.int .i64 (N : Int), .int .i64 (D : Int), .int .i64 (n : Int), .int .i64 (d : Int), .int .i64 (S : Int)] 94)).cell? ⟨v12.heap.size, 0, none⟩ = some (.int .i64 (N : Int)) := X40.out.cell 0
    have q46 : (v12.alloc (.cells #[.int .i64 (N : Int), .int .i64 (D : Int), .int .i64 (n : Int), .int .i64 (d : Int), .int .i64 (S : Int)] 94)).cell? ⟨v12.heap.size, 1, none⟩ = some (.int .i64 (D : Int)) := X40.out.cell 1
    have q47 : (v12.alloc (.cells #[.int .i64 (N : Int), .int .i64 (D : Int), .int .i64 (n : Int), .int .i64 (d : Int), .int .i64 (S : Int)] 94)).cell? ⟨v12.heap.size, 2, none⟩ = some (.int .i64 (n : Int)) := X40.out.cell 2
    have q48 : (v12.alloc (.cells #[.int .i64 (N : Int), .int .i64 (D : Int), .int .i64 (n : Int), .int .i64 (d : Int), .int .i64 (S : Int)] 94)).cell? ⟨v12.heap.size, 3, none⟩ = some (.int .i64 (d : Int)) := X40.out.cell 3
    have q49 : (v12.alloc (.cells #[.int .i64 (N : Int), .int .i64 (D : Int), .int .i64 (n : Int), .int .i64 (d : Int), .int .i64 (S : Int)] 94)).cell? ⟨v12.heap.size, 4, none⟩ = some (.int .i64 (S : Int)) := X40.out.cell 4
    obtain ⟨lo, hlo⟩ : ∃ x, hmI P S D n d = x := ⟨_, rfl⟩
    obtain ⟨hi, hhi⟩ : ∃ x : Int, ((fmN P S D : Nat) : Int) = x := ⟨_, rfl⟩
    rw [hlo, hhi] at HRP
    have HH := Lib.hid (fun W => hindmost_c P N D n d S W HP.out HOK.out.S96 HOK.out.rp.1 HOK.out.rt.2.1 HOK.out.rt.2.2.1 HOK.out.rp.2.1 HOK.out.rp.2.2.1)
    have HF := Lib.hid (fun W => foremost_c P N D n d S W HP.out HOK.out.S96 HOK.out.rt.2.1)
    rw [hlo] at HH
    rw [hhi] at HF
    clear hlo hhi
    go_wp2_with fail
    refine where5_c P N D n d S _ _ lo hi _ _ _ _ _ _ _ _ _ _ _ _ _ _ _ _ _ _ _ _ _ _ _ _ _ _ _ _ _ _ _ _ _ X40.out X37.out HH.out HF.out ?_
    intro _ _ _ _ _ _ _ W7 X7 B7
    have HX7 := Lib.hid X7
    have HB7 := Lib.hid (show Below w.heap.size w W7 from B39.out.trans (B7 _ (by omega) B39.out.size))
    clear X7 B7
    go_wp2_with fail
    exact endSb Try.results45 rfl rfl HRP.out HX7.out HB7.out

end Go.Proofs.Ytmmfmanjajefcaa

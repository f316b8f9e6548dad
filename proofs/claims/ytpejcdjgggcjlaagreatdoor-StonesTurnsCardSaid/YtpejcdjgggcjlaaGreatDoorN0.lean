/- The specification's small functions: within, Number, Round. -/
import Derived.Test.YtpejcdjgggcjlaaGreatDoorB1
import Derived.Test.YtpejcdjgggcjlaaGreatDoorA3
import Derived.Test.YtpejcdjgggcjlaaGreatDoorC2
import Derived.Test.YtpejcdjgggcjlaaGreatDoorF2
namespace Go.Proofs.YtpejcdjgggcjlaaGreatDoor
open Go.RowKit

set_option maxHeartbeats 400000 in
theorem rwithin_c (n a b : Int) (w : World) :
    Calls Tryz.prog 54 #[.int .i64 n, .int .i64 a, .int .i64 b] w fun e w' => e = .returned (.bool (inB n a b)) ∧ w = w' := by
  go_enter Tryz.func54, Tryz.ntmps54
  go_wp2
  · have h : a ≤ n := by assumption
    go_ret
    exact ⟨by simp [inB, h], rfl⟩
  · have h : ¬ a ≤ n := by first | assumption | omega
    go_ret
    exact ⟨by simp [inB, h], rfl⟩

set_option maxHeartbeats 400000 in
theorem rnumber_c (f : Fc) (s : Value) (r c : Int) (w : World) (h1 : 0 ≤ r) (h2 : r ≤ 24) (h3 : 0 ≤ c) (h4 : c ≤ 96) (h5 : 0 ≤ f.sectors) (h6 : f.sectors ≤ 96) :
    Calls Tryz.prog 50 #[.agg #[.int .i64 f.eye, .int .i64 f.rings, .int .i64 f.sectors, s], .agg #[.int .i64 r, .int .i64 c]] w fun e w' => e = .returned (.int .i64 (r * f.sectors + c)) ∧ Below w.heap.size w w' := by
  obtain ⟨m1, m2⟩ : 0 ≤ r * f.sectors ∧ r * f.sectors ≤ 24 * 96 := mul_bd h1 h5 h2 h6
  go_enter Tryz.func50, Tryz.ntmps50
  go_wp2
  go_ret
  exact ⟨rfl, ((Below.refl _ _).alloc (Nat.le_refl _) _).alloc (by simp) _⟩

set_option maxHeartbeats 400000 in
theorem rround_c (f : Fc) (s : Value) (a : Int) (w : World) (h1 : 1 ≤ f.sectors) (h2 : f.sectors ≤ 96) :
    Calls Tryz.prog 80 #[.agg #[.int .i64 f.eye, .int .i64 f.rings, .int .i64 f.sectors, s], .int .i64 a] w fun e w' => e = .returned (.int .i64 (rnd a f.sectors)) ∧ Below w.heap.size w w' := by
  have h3 : -f.sectors < a.tmod f.sectors := Int.lt_tmod_of_pos a (by omega)
  have h4 : a.tmod f.sectors < f.sectors := Int.tmod_lt_of_pos a (by omega)
  have b0 := Box.made w 24 #[.int .i64 f.eye, .int .i64 f.rings, .int .i64 f.sectors, s]
  have k2 : (w.alloc (.cells #[.int .i64 f.eye, .int .i64 f.rings, .int .i64 f.sectors, s] 24)).cell? ⟨w.heap.size, 2, none⟩ = some (.int .i64 f.sectors) := b0.cell 2
  have hs0 : f.sectors ≠ 0 := by omega
  have w1 := wrap_id (n := a.tmod f.sectors + f.sectors) (by omega) (by omega)
  have h5 : 0 ≤ a.tmod f.sectors + f.sectors := by omega
  have hb : Below w.heap.size w (w.alloc (.cells #[.int .i64 f.eye, .int .i64 f.rings, .int .i64 f.sectors, s] 24)) := (Below.refl _ _).alloc (Nat.le_refl _) _
  go_enter Tryz.func80, Tryz.ntmps80
  go_wp2_with fail
  go_quiet (fail)
  rename_i nq
  have hbn : Below w.heap.size w ((w.alloc (.cells #[.int .i64 f.eye, .int .i64 f.rings, .int .i64 f.sectors, s] 24)).drewN nq) := ⟨hb.os, hb.tape, hb.output, hb.size, hb.block⟩
  go_wp2_with fail
  go_ret
  exact ⟨ret_int (by first | exact rnd_tmod | (rw [Int.tmod_eq_emod_of_nonneg h5]; exact rnd_tmod)), hbn⟩

end Go.Proofs.YtpejcdjgggcjlaaGreatDoor

/- Layer 7: lowest terms, products, sums and comparisons of ratios, as the program has them. -/
import Derived.Test.YtmmfmanjajefcaaL4
set_option linter.all false
namespace Go.Proofs.Ytmmfmanjajefcaa
open Go.RowKit

theorem frs1 (w : World) (t : TypeId) (a b g : Nat) (hg : w.heap.size = g) : Frs (w.alloc (.cells #[.int .i64 (a : Int), .int .i64 (b : Int)] t)) (w.alloc (.cells #[.int .i64 (a : Int), .int .i64 (b : Int)] t)).heap.size (.slice (some ⟨g, 0, none⟩) 1 1) [(a, b)] := by
  subst hg
  have hb := Box.made w t #[.int .i64 (a : Int), .int .i64 (b : Int)]
  refine ⟨_, _, rfl, Nat.le_refl _, fun _ => ⟨w.heap.size, 0, rfl, by simp, fun k hk => ?_⟩⟩
  obtain rfl : k = 0 := by simp at hk; exact hk
  exact ⟨hb.cell 0, hb.cell 1⟩
theorem frs2 (w : World) (t : TypeId) (a b c d g : Nat) (hg : w.heap.size = g) : Frs (w.alloc (.cells #[.int .i64 (a : Int), .int .i64 (b : Int), .int .i64 (c : Int), .int .i64 (d : Int)] t)) (w.alloc (.cells #[.int .i64 (a : Int), .int .i64 (b : Int), .int .i64 (c : Int), .int .i64 (d : Int)] t)).heap.size (.slice (some ⟨g, 0, none⟩) 2 2) [(a, b), (c, d)] := by
  subst hg
  have hb := Box.made w t #[.int .i64 (a : Int), .int .i64 (b : Int), .int .i64 (c : Int), .int .i64 (d : Int)]
  refine ⟨_, _, rfl, Nat.le_refl _, fun _ => ⟨w.heap.size, 0, rfl, by simp, fun k hk => ?_⟩⟩
  have hk' : k = 0 ∨ k = 1 := by simp at hk; omega
  rcases hk' with rfl | rfl
  · exact ⟨hb.cell 0, hb.cell 1⟩
  · exact ⟨hb.cell 2, hb.cell 3⟩
theorem frOk1 {a b : Nat} (h1 : a ≤ 9223372036854775807) (h2 : 0 < b) (h3 : b ≤ 9223372036854775807) : FrOk [(a, b)] :=
  ⟨by simp, fun f hf => by simp at hf; subst hf; exact ⟨h1, h2, h3⟩⟩
theorem frOk2 {a b c d : Nat} (h1 : a ≤ 9223372036854775807) (h2 : 0 < b) (h3 : b ≤ 9223372036854775807) (k1 : c ≤ 9223372036854775807) (k2 : 0 < d) (k3 : d ≤ 9223372036854775807) : FrOk [(a, b), (c, d)] :=
  ⟨by simp, fun f hf => by
    simp at hf
    rcases hf with rfl | rfl
    · exact ⟨h1, h2, h3⟩
    · exact ⟨k1, k2, k3⟩⟩
theorem fr1 (a b : Nat) : frN [(a, b)] = a ∧ frD [(a, b)] = b := by simp [frN, frD, prodL]
theorem fr2 (a b c d : Nat) : frN [(a, b), (c, d)] = a * c ∧ frD [(a, b), (c, d)] = b * d := by simp [frN, frD, prodL]

set_option maxHeartbeats 4000000 in
theorem Reduce_c (n d : Int) (w : World) (hn : n ≤ 9223372036854775807) (hd : d ≤ 9223372036854775807) :
    Calls Try.prog 16 #[.int .i64 n, .int .i64 d] w fun e w' => e = .returned (rrV (reR n d)) ∧ Below w.heap.size w w' := by
  have HB := Lib.hid (And.intro hn hd)
  have HX := Lib.hid (Box.made w 23 #[.int .i64 0, .int .i64 0])
  have HA := Lib.hid (show Below w.heap.size w (w.alloc (.cells #[.int .i64 0, .int .i64 0] 23)) from (Below.refl _ _).alloc (Nat.le_refl _) _)
  clear hn hd
  by_cases h1 : n < 0
  · have e1 : decide (n < 0) = true := by simpa using h1
    have HR := Lib.hid (show reR n d = ⟨0, 0, 1⟩ by unfold reR; rw [if_pos (.inl h1)]; rfl)
    clear h1
    go_enter Try.func16, Try.ntmps16
    go_wp2_with fail
    exact endRb Try.results16 rfl rfl HR.out HX.out HA.out
  have e1 : decide (n < 0) = false := by simpa using h1
  by_cases h2 : d < 1
  · have e2 : decide (d < 1) = true := by simpa using h2
    have HR := Lib.hid (show reR n d = ⟨0, 0, 1⟩ by unfold reR; rw [if_pos (.inr h2)]; rfl)
    clear h1 h2
    go_enter Try.func16, Try.ntmps16
    go_wp2_with fail
    exact endRb Try.results16 rfl rfl HR.out HX.out HA.out
  have e2 : decide (d < 1) = false := by simpa using h2
  obtain ⟨N, rfl⟩ : ∃ N : Nat, n = (N : Int) := ⟨n.toNat, by omega⟩
  obtain ⟨D, rfl⟩ : ∃ D : Nat, d = (D : Int) := ⟨d.toNat, by omega⟩
  have HR := Lib.hid (show reR (N : Int) (D : Int) = rOf N D by unfold reR; rw [if_neg (by omega)]; rfl)
  have HO := Lib.hid (frOk1 (a := N) (b := D) (by have := HB.out; omega) (by omega) (by have := HB.out; omega))
  have HF := Lib.hid (fr1 N D)
  clear h1 h2
  go_enter Try.func16, Try.ntmps16
  go_wp2_with fail
  refine (product_c [(N, D)] _ _ (frs1 (w.alloc (.cells #[.int .i64 0, .int .i64 0] 23)) _ N D (w.heap.size + 1) (by simp)) HO.out).mono ?_; rintro e w1 ⟨rfl, hb1⟩
  rw [HF.out.1, HF.out.2]
  have HX1 := Lib.hid ((HX.out.alloc _).later hb1)
  have HB1 := Lib.hid ((HA.out.alloc HA.out.size _).trans (hb1.mono (by simp; omega)))
  have z0 : w1.cell? ⟨w.heap.size, 0, none⟩ = some (.int .i64 0) := HX1.out.cell 0
  have z1 : w1.cell? ⟨w.heap.size, 1, none⟩ = some (.int .i64 0) := HX1.out.cell 1
  have fz : ∀ o, w1.frozen? ⟨w.heap.size, o, none⟩ = false := fun o => HX1.out.free o
  clear hb1
  go_wp2_with fail
  exact endRr Try.results16 rfl rfl HR.out HX1.out (Nat.le_refl _) HB1.out
end Go.Proofs.Ytmmfmanjajefcaa

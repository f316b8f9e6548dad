/- The walks of Valid and what it calls. -/
import Derived.Test.YtpejcdjgggcjlaaGreatDoorBase
namespace Go.Proofs.YtpejcdjgggcjlaaGreatDoor
open Go.RowKit

set_option maxHeartbeats 400000 in
theorem within_c (n a b : Int) (w : World) :
    Calls Tryz.prog 77 #[.int .i64 n, .int .i64 a, .int .i64 b] w fun e w' => e = .returned (.bool (inB n a b)) ∧ w = w' := by
  go_enter Tryz.func77, Tryz.ntmps77
  go_wp2
  · have h : a ≤ n := by assumption
    go_ret
    exact ⟨by simp [inB, h], rfl⟩
  · have h : ¬ a ≤ n := by first | assumption | omega
    go_ret
    exact ⟨by simp [inB, h], rfl⟩

set_option maxHeartbeats 400000 in
theorem isKind_c (n : Int) (w : World) :
    Calls Tryz.prog 51 #[.int .i64 n] w fun e w' => e = .returned (.bool (inB n 0 2)) ∧ w = w' := by
  go_enter Tryz.func51, Tryz.ntmps51
  go_wp2_with (go_at_call 77; refine (within_c _ _ _ _).mono ?_; rintro e w' ⟨rfl, rfl⟩)
  go_ret
  exact ⟨rfl, rfl⟩

set_option maxHeartbeats 400000 in
theorem sizesFit_c (eye rings sectors : Int) (s : Value) (w : World) :
    Calls Tryz.prog 56 #[.agg #[.int .i64 eye, .int .i64 rings, .int .i64 sectors, s]] w fun e w' => e = .returned (.bool (sizesB eye rings sectors)) ∧ Below w.heap.size w w' := by
  go_enter Tryz.func56, Tryz.ntmps56
  go_wp2_with (go_at_call 77; refine (within_c _ _ _ _).mono ?_; rintro e w' ⟨rfl, rfl⟩)
  all_goals go_ret
  all_goals refine ⟨ret_bool ?_, (Below.refl _ _).alloc (Nat.le_refl _) _⟩
  all_goals simp_all [sizesB]

set_option maxHeartbeats 400000 in
theorem Valid_c (f : Fc) (v : Value) (w : World) (h : IsFace w w.heap.size v f) :
    Calls Tryz.prog 13 #[v] w fun e w' => e = .returned (.bool (validB f)) ∧ Below w.heap.size w w' := by
  obtain ⟨s, rfl, hlen, A, c, rfl, hcap, hcell⟩ := h
  cases hs : sizesB f.eye f.rings f.sectors
  · have hv : validB f = false := by simp [validB, hs]
    have Hv := Lib.hid hv
    clear hv hcell
    go_enter Tryz.func13, Tryz.ntmps13
    go_wp2_with (go_at_call 56; refine (sizesFit_c _ _ _ _ _).mono ?_; rintro e w1 ⟨rfl, hb⟩)
    go_ret
    exact ⟨ret_bool Hv.out.symm, boxed hb⟩
  · obtain ⟨⟨a1, a2⟩, ⟨a3, a4⟩, a5, a6⟩ := sizesB_iff.1 hs
    have hm : 0 ≤ f.rings * f.sectors ∧ f.rings * f.sectors ≤ 24 * 96 := mul_bd (by omega) (by omega) a4 a6
    obtain ⟨m1, m2⟩ := hm
    by_cases hl : (f.kinds.length : Int) = f.rings * f.sectors
    · have hv : validB f = kindsB f.kinds := by simp [validB, hs, hl]
      have Hv := Lib.hid hv
      have hne : ((f.kinds.length : Int) != f.rings * f.sectors) = false := by simp [hl]
      clear hv hl
      go_enter Tryz.func13, Tryz.ntmps13
      go_wp2_with (go_at_call 56; refine (sizesFit_c _ _ _ _ _).mono ?_; rintro e w1 ⟨rfl, hb⟩; obtain ⟨hc, hf⟩ := bcell hb)
      go_loop [22] (fun i => ∃ k : Nat, k ≤ f.kinds.length ∧ i = .int .i64 k ∧ kindsB (f.kinds.take k) = true) (fun i => f.kinds.length - (intOf i).toNat)
      case atStart => exact ⟨0, Nat.zero_le _, rfl, rfl⟩
      case round =>
        obtain ⟨k, hk, rfl, hkk⟩ := hrel
        have Hkk := Lib.hid hkk
        clear hkk
        by_cases hlt : k < f.kinds.length
        · obtain ⟨b, off, rfl, hbB, hcc⟩ := hcell (by omega)
          have hx := hcc k hlt
          have Hs := Lib.hid (kindsB_snoc f.kinds k hlt)
          have Hf := Lib.hid (kindsB_false f.kinds k hlt)
          clear hcc
          cases hb0 : inB (nth f.kinds k) 0 2
          · go_wp2_with (go_at_call 51; refine (isKind_c _ _).mono ?_; rintro e w' ⟨rfl, rfl⟩)
            go_ret
            exact ⟨ret_bool (by rw [Hv.out, Hf.out hb0]), boxed hb⟩
          · go_wp2_with (go_at_call 51; refine (isKind_c _ _).mono ?_; rintro e w' ⟨rfl, rfl⟩)
            go_round
            case rel => exact ⟨k + 1, by omega, by go_num, by rw [Hs.out, Hkk.out, hb0]; rfl⟩
            case measure => simp [intOf]; omega
        · clear hcell
          go_wp2
          go_ret
          have hk' : k = f.kinds.length := by omega
          exact ⟨ret_bool (by rw [Hv.out, ← Hkk.out, hk', List.take_length]), boxed hb⟩
    · have hv : validB f = false := by simp [validB, hl]
      have Hv := Lib.hid hv
      have hne : ((f.kinds.length : Int) != f.rings * f.sectors) = true := by simp [hl]
      clear hv hl hcell
      go_enter Tryz.func13, Tryz.ntmps13
      go_wp2_with (go_at_call 56; refine (sizesFit_c _ _ _ _ _).mono ?_; rintro e w1 ⟨rfl, hb⟩; obtain ⟨hc, hf⟩ := bcell hb)
      go_ret
      exact ⟨ret_bool Hv.out.symm, boxed hb⟩

end Go.Proofs.YtpejcdjgggcjlaaGreatDoor

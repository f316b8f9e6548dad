/- Faces: which are valid, and what the cells of a ring weigh, on both sides. -/
import Derived.Test.YtikfiallhmhicaaGreatC20
namespace Go.Proofs.YtikfiallhmhicaaGreat
open Go.RowKit

set_option maxHeartbeats 400000 in
theorem within_c (n a b : Int) (w : World) :
    Calls Tryz.prog 117 #[.int .i64 n, .int .i64 a, .int .i64 b] w fun e w' => e = .returned (.bool (inB n a b)) ∧ w = w' := by
  go_enter Tryz.func117, Tryz.ntmps117
  go_wp2
  · have h : a ≤ n := by assumption
    go_ret
    exact ⟨by simp [inB, h], rfl⟩
  · have h : ¬ a ≤ n := by first | assumption | omega
    go_ret
    exact ⟨by simp [inB, h], rfl⟩

set_option maxHeartbeats 400000 in
theorem isKind_c (n : Int) (w : World) :
    Calls Tryz.prog 112 #[.int .i64 n] w fun e w' => e = .returned (.bool (inB n 0 2)) ∧ w = w' := by
  go_enter Tryz.func112, Tryz.ntmps112
  go_wp2_with (go_at_call 117; refine (within_c _ _ _ _).mono ?_; rintro e w' ⟨rfl, rfl⟩)
  go_ret
  exact ⟨rfl, rfl⟩

set_option maxHeartbeats 400000 in
theorem sizesFit_c (eye rings sectors : Int) (s : Value) (w : World) :
    Calls Tryz.prog 111 #[.agg #[.int .i64 eye, .int .i64 rings, .int .i64 sectors, s]] w fun e w' => e = .returned (.bool (sizesB eye rings sectors)) ∧ Below w.heap.size w w' := by
  go_enter Tryz.func111, Tryz.ntmps111
  go_wp2_with (go_at_call 117; refine (within_c _ _ _ _).mono ?_; rintro e w' ⟨rfl, rfl⟩)
  all_goals go_ret
  all_goals refine ⟨ret_bool ?_, (Below.refl _ _).alloc (Nat.le_refl _) _⟩
  all_goals simp_all [sizesB]

set_option maxHeartbeats 400000 in
theorem Valid_c (f : Fc) (v : Value) (w : World) (h : IsFace w w.heap.size v f) :
    Calls Tryz.prog 105 #[v] w fun e w' => e = .returned (.bool (validB f)) ∧ Below w.heap.size w w' := by
  obtain ⟨s, rfl, hlen, A, c, rfl, hcap, hcell⟩ := h
  cases hs : sizesB f.eye f.rings f.sectors
  · have hv : validB f = false := by simp [validB, hs]
    have Hv := Lib.hid hv
    clear hv hcell
    go_enter Tryz.func105, Tryz.ntmps105
    go_wp2_with (go_at_call 111; refine (sizesFit_c _ _ _ _ _).mono ?_; rintro e w1 ⟨rfl, hb⟩)
    go_ret
    exact ⟨ret_bool Hv.out.symm, boxed hb⟩
  · obtain ⟨⟨a1, a2⟩, ⟨a3, a4⟩, a5, a6⟩ := sizesB_iff.1 hs
    have hm : 0 ≤ f.rings * f.sectors ∧ f.rings * f.sectors ≤ 24 * 96 := mul_bd (by omega) (by omega) a4 a6
    obtain ⟨m1, m2⟩ := hm
    by_cases hl : (f.kinds.length : Int) = f.rings * f.sectors
    · have hv : validB f = kindsB f.kinds := by simp [validB, hs, hl]
      have Hv := Lib.hid hv
      have hne : ((f.kinds.length : Int) != f.rings * f.sectors) = false := by simp [hl]
      clear hv hl
      go_enter Tryz.func105, Tryz.ntmps105
      go_wp2_with (go_at_call 111; refine (sizesFit_c _ _ _ _ _).mono ?_; rintro e w1 ⟨rfl, hb⟩; obtain ⟨hc, hf⟩ := bcell hb)
      go_loop [22] (fun i => ∃ k : Nat, k ≤ f.kinds.length ∧ i = .int .i64 k ∧ kindsB (f.kinds.take k) = true) (fun i => f.kinds.length - (intOf i).toNat)
      case atStart => exact ⟨0, Nat.zero_le _, rfl, rfl⟩
      case round =>
        obtain ⟨k, hk, rfl, hkk⟩ := hrel
        have Hkk := Lib.hid hkk
        clear hkk
        by_cases hlt : k < f.kinds.length
        · obtain ⟨b, off, rfl, hbB, hcc⟩ := hcell (by omega)
          have hx := hcc k hlt
          have Hs := Lib.hid (kindsB_snoc f.kinds k hlt)
          have Hf := Lib.hid (kindsB_false f.kinds k hlt)
          clear hcc
          cases hb0 : inB (nth f.kinds k) 0 2
          · go_wp2_with (go_at_call 112; refine (isKind_c _ _).mono ?_; rintro e w' ⟨rfl, rfl⟩)
            go_ret
            exact ⟨ret_bool (by rw [Hv.out, Hf.out hb0]), boxed hb⟩
          · go_wp2_with (go_at_call 112; refine (isKind_c _ _).mono ?_; rintro e w' ⟨rfl, rfl⟩)
            go_round
            case rel => exact ⟨k + 1, by omega, by go_num, by rw [Hs.out, Hkk.out, hb0]; rfl⟩
            case measure => simp [intOf]; omega
        · clear hcell
          go_wp2
          go_ret
          have hk' : k = f.kinds.length := by omega
          exact ⟨ret_bool (by rw [Hv.out, ← Hkk.out, hk', List.take_length]), boxed hb⟩
    · have hv : validB f = false := by simp [validB, hl]
      have Hv := Lib.hid hv
      have hne : ((f.kinds.length : Int) != f.rings * f.sectors) = true := by simp [hl]
      clear hv hl hcell
      go_enter Tryz.func105, Tryz.ntmps105
      go_wp2_with (go_at_call 111; refine (sizesFit_c _ _ _ _ _).mono ?_; rintro e w1 ⟨rfl, hb⟩; obtain ⟨hc, hf⟩ := bcell hb)
      go_ret
      exact ⟨ret_bool Hv.out.symm, boxed hb⟩

theorem validB_iff {f : Fc} : validB f = true ↔ ((1 ≤ f.eye ∧ f.eye ≤ 16) ∧ (1 ≤ f.rings ∧ f.rings ≤ 24) ∧ 2 ≤ f.sectors ∧ f.sectors ≤ 96) ∧ (f.kinds.length : Int) = f.rings * f.sectors ∧ kindsB f.kinds = true := by
  unfold validB
  rw [Bool.and_eq_true, Bool.and_eq_true, sizesB_iff, decide_eq_true_iff, and_assoc]


set_option maxHeartbeats 400000 in
theorem qwithin_c (n a b : Int) (w : World) :
    Calls Tryz.prog 90 #[.int .i64 n, .int .i64 a, .int .i64 b] w fun e w' => e = .returned (.bool (inB n a b)) ∧ w = w' := by
  go_enter Tryz.func90, Tryz.ntmps90
  go_wp2
  · have h : a ≤ n := by assumption
    go_ret
    exact ⟨by simp [inB, h], rfl⟩
  · have h : ¬ a ≤ n := by first | assumption | omega
    go_ret
    exact ⟨by simp [inB, h], rfl⟩


set_option maxRecDepth 100000 in
set_option maxHeartbeats 2000000 in
theorem qValid_c (f : Fc) (v : Value) (w : World) (h : IsFace w w.heap.size v f) :
    Calls Tryz.prog 68 #[v] w fun e w' => e = .returned (.bool (validB f)) ∧ Below w.heap.size w w' := by
  obtain ⟨s, rfl, hlen, A, c, rfl, hcap, hcell⟩ := h
  have hB1 : ∀ o : Obj, Below w.heap.size w (w.alloc o) := fun o => (Below.refl _ _).alloc (Nat.le_refl _) o
  cases c1 : inB f.eye 1 16
  · have H := Lib.hid (show validB f = false by simp [validB, sizesB, c1])
    clear hcell
    go_enter Tryz.func68, Tryz.ntmps68
    go_wp2_with (go_at_call 90; refine (qwithin_c _ _ _ _).mono ?_; rintro e w' ⟨rfl, rfl⟩)
    go_ret
    exact ⟨ret_bool H.out.symm, hB1 _⟩
  cases c2 : inB f.rings 1 24
  · have H := Lib.hid (show validB f = false by simp [validB, sizesB, c2])
    clear hcell
    go_enter Tryz.func68, Tryz.ntmps68
    go_wp2_with (go_at_call 90; refine (qwithin_c _ _ _ _).mono ?_; rintro e w' ⟨rfl, rfl⟩)
    go_ret
    exact ⟨ret_bool H.out.symm, hB1 _⟩
  cases c3 : inB f.sectors 2 96
  · have H := Lib.hid (show validB f = false by simp [validB, sizesB, c3])
    clear hcell
    go_enter Tryz.func68, Tryz.ntmps68
    go_wp2_with (go_at_call 90; refine (qwithin_c _ _ _ _).mono ?_; rintro e w' ⟨rfl, rfl⟩)
    go_ret
    exact ⟨ret_bool H.out.symm, hB1 _⟩
  obtain ⟨b1, b2⟩ := inB_iff.1 c2
  obtain ⟨b3, b4⟩ := inB_iff.1 c3
  obtain ⟨m1, m2⟩ : 0 ≤ f.rings * f.sectors ∧ f.rings * f.sectors ≤ 24 * 96 := mul_bd (by omega) (by omega) b2 b4
  by_cases hl : (f.kinds.length : Int) = f.rings * f.sectors
  · have H := Lib.hid (show validB f = kindsB f.kinds by simp [validB, sizesB, c1, c2, c3, hl])
    have hne : ((f.kinds.length : Int) != f.rings * f.sectors) = false := by simp [hl]
    have hl2 : f.kinds.length ≤ 2304 := by omega
    clear hl
    go_enter Tryz.func68, Tryz.ntmps68
    go_wp2_with (go_at_call 90; refine (qwithin_c _ _ _ _).mono ?_; rintro e w' ⟨rfl, rfl⟩)
    go_loopw [3] (fun i wr => ∃ k : Nat, k ≤ f.kinds.length ∧ i = .int .i64 (k : Int) ∧ kindsB (f.kinds.take k) = true ∧ Below (w.heap.size + 1) (w.alloc (.cells #[.int .i64 f.eye, .int .i64 f.rings, .int .i64 f.sectors, .slice A f.kinds.length c] 28)) wr) (fun i _ => f.kinds.length - (intOf i).toNat)
    case atStart => exact ⟨0, Nat.zero_le _, rfl, rfl, Below.refl _ _⟩
    case round =>
      obtain ⟨k, hk, rfl, hall, hbr⟩ := hrel
      have Hall := Lib.hid hall
      clear hall
      have hsz := hbr.size
      rw [World.size_alloc] at hsz
      have hbx := (Box.made w 28 #[.int .i64 f.eye, .int .i64 f.rings, .int .i64 f.sectors, .slice A f.kinds.length c]).below hbr (by omega)
      have hbw : Below w.heap.size w wr := (hB1 _).trans (hbr.mono (by omega))
      have g3 : wr.cell? ⟨w.heap.size, 3, none⟩ = some (.slice A f.kinds.length c) := hbx.cell 3
      by_cases hlt : k < f.kinds.length
      · obtain ⟨b, off, rfl, hbB, hcc⟩ := hcell (by omega)
        have hx := keepd (hcc k hlt) hbw hbB
        have hdk : decide ((k : Int) < (f.kinds.length : Int)) = true := by simpa using hlt
        have i0 : (0 : Int) ≤ (k : Int) := Int.natCast_nonneg _
        have i1 : (k : Int) < (f.kinds.length : Int) := by omega
        have Hs := Lib.hid (kindsB_snoc f.kinds k hlt)
        have Hf := Lib.hid (kindsB_false f.kinds k hlt)
        clear hcell hcc
        cases hb0 : inB (nth f.kinds k) 0 2
        · go_wp2_with (go_at_call 90; refine (qwithin_c _ _ _ _).mono ?_; rintro e w' ⟨rfl, rfl⟩)
          go_ret
          exact ⟨ret_bool (by rw [H.out, Hf.out hb0]), hbw⟩
        · go_wp2_with (go_at_call 90; refine (qwithin_c _ _ _ _).mono ?_; rintro e w' ⟨rfl, rfl⟩)
          go_roundw
          case rel => exact ⟨k + 1, by omega, by go_num, by rw [Hs.out, Hall.out, hb0]; rfl, hbr⟩
          case measure => simp [intOf]; omega
      · obtain rfl : k = f.kinds.length := by omega
        have hdk : decide ((f.kinds.length : Int) < (f.kinds.length : Int)) = false := by simp
        clear hcell
        go_wp2_with fail
        go_ret
        exact ⟨ret_bool (by rw [H.out, ← Hall.out, List.take_length]), hbw⟩
  · have H := Lib.hid (show validB f = false by simp [validB, hl])
    have hne : ((f.kinds.length : Int) != f.rings * f.sectors) = true := by simp [hl]
    clear hcell hl
    go_enter Tryz.func68, Tryz.ntmps68
    go_wp2_with (go_at_call 90; refine (qwithin_c _ _ _ _).mono ?_; rintro e w' ⟨rfl, rfl⟩)
    go_ret
    exact ⟨ret_bool H.out.symm, hB1 _⟩

end Go.Proofs.YtikfiallhmhicaaGreat

/- The walks of Area and what it calls. -/
import Derived.Test.YtpejcdjgggcjlaaGreatDoorA1
namespace Go.Proofs.YtpejcdjgggcjlaaGreatDoor
open Go.RowKit

/-- what checkKind tells -/
def ckKind (f : Fc) (kind : Int) : Int := if validB f = true then (if inB kind 0 2 = true then 0 else 1) else 10

set_option maxHeartbeats 400000 in
theorem checkKind_c (f : Fc) (v : Value) (kind : Int) (w : World) (h : IsFace w w.heap.size v f) :
    Calls Tryz.prog 60 #[v, .int .i64 kind] w fun e w' => e = .returned (.int .i64 (ckKind f kind)) ∧ Below w.heap.size w w' := by
  have hF := h
  obtain ⟨s, rfl, hI⟩ := h
  clear hI
  cases hv : validB f <;> cases hk : inB kind 0 2
  all_goals
    go_enter Tryz.func60, Tryz.ntmps60
    go_wp2_with (first | (go_at_call 13; refine (Valid_c f _ _ (hF.box _)).mono ?_; rintro e w1 ⟨rfl, hb⟩; obtain ⟨hc, hf⟩ := bcell hb) | (go_at_call 51; refine (isKind_c _ _).mono ?_; rintro e w' ⟨rfl, rfl⟩))
    go_ret
    exact ⟨ret_int (by simp [ckKind, hv, hk]), boxed hb⟩

set_option maxHeartbeats 400000 in
theorem weight_c (f : Fc) (s : Value) (ring : Int) (w : World) (h1 : 0 ≤ f.eye) (h2 : f.eye ≤ 16) (h3 : 0 ≤ ring) (h4 : ring ≤ 24) :
    Calls Tryz.prog 61 #[.agg #[.int .i64 f.eye, .int .i64 f.rings, .int .i64 f.sectors, s], .int .i64 ring] w fun e w' => e = .returned (.int .i64 (2 * (f.eye + ring) + 1)) ∧ Below w.heap.size w w' := by
  go_enter Tryz.func61, Tryz.ntmps61
  go_wp2
  go_ret
  exact ⟨rfl, (Below.refl _ _).alloc (Nat.le_refl _) _⟩

/-- the area of the first cells that have a kind -/
def areaTo (f : Fc) (kind : Int) : Nat → Int
  | 0 => 0
  | k + 1 => areaTo f kind k + if nth f.kinds k = kind then 2 * (f.eye + (k : Int) / f.sectors) + 1 else 0
theorem areaTo_hit {f : Fc} {kind : Int} {k : Nat} (h : (nth f.kinds k == kind) = true) : areaTo f kind (k + 1) = areaTo f kind k + (2 * (f.eye + (k : Int) / f.sectors) + 1) := by
  rw [areaTo, if_pos (by simpa using h)]
theorem areaTo_miss {f : Fc} {kind : Int} {k : Nat} (h : (nth f.kinds k == kind) = false) : areaTo f kind (k + 1) = areaTo f kind k := by
  rw [areaTo, if_neg (by simpa using h)]; omega
theorem areaTo_bd {f : Fc} (kind : Int) (k : Nat) (h0 : 1 ≤ f.eye) (h1 : f.eye ≤ 16) (h2 : 2 ≤ f.sectors) (hk : (k : Int) ≤ f.rings * f.sectors) (h3 : f.rings ≤ 24) : 0 ≤ areaTo f kind k ∧ areaTo f kind k ≤ 81 * k := by
  induction k with
  | zero => simp [areaTo]
  | succ k ih =>
    have ih := ih (by omega)
    have h4 : (k : Int) / f.sectors < f.rings := Int.ediv_lt_of_lt_mul (by omega) (by omega)
    have h5 : 0 ≤ (k : Int) / f.sectors := Int.ediv_nonneg (by omega) (by omega)
    rw [areaTo]
    split <;> omega
/-- what Area tells -/
def areaOf (f : Fc) (kind : Int) : Int := if ckKind f kind = 0 then areaTo f kind f.kinds.length else 0

theorem validB_iff {f : Fc} : validB f = true ↔ ((1 ≤ f.eye ∧ f.eye ≤ 16) ∧ (1 ≤ f.rings ∧ f.rings ≤ 24) ∧ 2 ≤ f.sectors ∧ f.sectors ≤ 96) ∧ (f.kinds.length : Int) = f.rings * f.sectors ∧ kindsB f.kinds = true := by
  unfold validB
  rw [Bool.and_eq_true, Bool.and_eq_true, sizesB_iff, decide_eq_true_iff, and_assoc]
theorem ckKind_ok {f : Fc} {kind : Int} (h : ckKind f kind = 0) : validB f = true ∧ inB kind 0 2 = true := by
  unfold ckKind at h
  split at h
  · split at h
    · exact ⟨by assumption, by assumption⟩
    · omega
  · omega

set_option maxHeartbeats 1000000 in
theorem Area_c (f : Fc) (v : Value) (kind : Int) (w : World) (h : IsFace w w.heap.size v f) :
    Calls Tryz.prog 26 #[v, .int .i64 kind] w fun e w' => e = .returned (.tuple #[.int .i64 (areaOf f kind), .int .i64 (ckKind f kind)]) ∧ Below w.heap.size w w' := by
  have hF := h
  obtain ⟨s, rfl, hI⟩ := h
  by_cases h0 : ckKind f kind = 0
  · have hne : (ckKind f kind != 0) = false := by simp [h0]
    obtain ⟨hlen, A, c, rfl, hcap, hcell⟩ := hI
    obtain ⟨hv, -⟩ := ckKind_ok h0
    obtain ⟨⟨⟨a1, a2⟩, ⟨a3, a4⟩, a5, a6⟩, hl, -⟩ := validB_iff.1 hv
    obtain ⟨m1, m2⟩ : 0 ≤ f.rings * f.sectors ∧ f.rings * f.sectors ≤ 24 * 96 := mul_bd (by omega) (by omega) a4 a6
    have hl2 : (f.kinds.length : Int) ≤ f.rings * f.sectors := by omega
    have Hspec := Lib.hid (show areaOf f kind = areaTo f kind f.kinds.length by simp [areaOf, h0])
    have H0 := Lib.hid h0
    clear h0 hl hv
    go_enter Tryz.func26, Tryz.ntmps26
    go_wp2_with (go_at_call 60; refine (checkKind_c f _ _ _ (hF.box _)).mono ?_; rintro e w1 ⟨rfl, hb⟩; obtain ⟨hc, hf⟩ := bcell hb)
    clear hc hf
    go_loopw [7, 19] (fun area i wr => ∃ k : Nat, k ≤ f.kinds.length ∧ i = .int .i64 k ∧ area = .int .i64 (areaTo f kind k) ∧ Below w1.heap.size w1 wr) (fun _ i _ => f.kinds.length - (intOf i).toNat)
    case atStart => exact ⟨0, Nat.zero_le _, rfl, rfl, Below.refl _ _⟩
    case round =>
      obtain ⟨k, hk, rfl, rfl, hbr⟩ := hrel
      have hbr' := chain hb hbr
      obtain ⟨hc, hf⟩ := bcell hbr'
      obtain ⟨b1, b2⟩ := areaTo_bd kind k a1 a2 a5 (by omega) a4
      by_cases hlt : k < f.kinds.length
      · obtain ⟨b, off, rfl, hbB, hcc⟩ := hcell (by omega)
        have hx := hcc k hlt
        have h4 : (k : Int) / f.sectors < f.rings := Int.ediv_lt_of_lt_mul (by omega) (by omega)
        have h5 : 0 ≤ (k : Int) / f.sectors := Int.ediv_nonneg (by omega) (by omega)
        clear hcell hcc
        cases hk0 : (nth f.kinds k == kind)
        · have Hm := Lib.hid (areaTo_miss hk0)
          go_wp2
          go_roundw
          case rel => exact ⟨k + 1, by omega, by go_num, by rw [Hm.out], hbr⟩
          case measure => simp [intOf]; omega
        · have Hm := Lib.hid (areaTo_hit hk0)
          go_wp2_with fail
          have hs0 : ¬ f.sectors = 0 := by omega
          have hq := wrap_quo (a := (k : Int)) (b := f.sectors) (by omega) (by omega) (by omega)
          have hsum : IntKind.i64.wrap (areaTo f kind k + (2 * (f.eye + (k : Int) / f.sectors) + 1)) = areaTo f kind k + (2 * (f.eye + (k : Int) / f.sectors) + 1) := wrap_id (by omega) (by omega)
          have hBw : w.heap.size < wr.heap.size := by have := hbr'.size; simp at this; omega
          go_region_held3 (fun W => W.cell? ⟨w.heap.size, 0, none⟩ = some (.int .i64 f.eye) ∧ W.cell? ⟨w.heap.size, 1, none⟩ = some (.int .i64 f.rings) ∧ W.cell? ⟨w.heap.size, 2, none⟩ = some (.int .i64 f.sectors) ∧ W.cell? ⟨w.heap.size, 3, none⟩ = some (.slice (some ⟨b, off, none⟩) f.kinds.length c) ∧ Below wr.heap.size wr W) (first | (refine ⟨?_, ?_, ?_, ?_, (Below.refl _ _).drew⟩ <;> go_keep) | exact keep4 hBw (by assumption) (by assumption)) (first | (go_at_call 61; refine (weight_c f _ _ _ (by omega) (by omega) (by omega) (by omega)).mono ?_; rintro e w2 ⟨rfl, hb2⟩))
          clear hq hsum
          go_wp2
          go_roundw
          case rel => exact ⟨k + 1, by omega, by go_num, by rw [Hm.out], hbr.trans ((‹_ ∧ _ ∧ _ ∧ _ ∧ Below wr.heap.size wr _›).2.2.2.2.mono hbr.size)⟩
          case measure => simp [intOf]; omega
      · have hk' : k = f.kinds.length := by omega
        subst hk'
        clear hcell
        go_wp2
        go_ret2
        exact ⟨by rw [Hspec.out, H0.out]; rfl, boxed hbr'⟩
  · have hne : (ckKind f kind != 0) = true := by simp [h0]
    have Hs := Lib.hid (show areaOf f kind = 0 by simp [areaOf, h0])
    clear h0 hI
    go_enter Tryz.func26, Tryz.ntmps26
    go_wp2_with (go_at_call 60; refine (checkKind_c f _ _ _ (hF.box _)).mono ?_; rintro e w1 ⟨rfl, hb⟩; obtain ⟨hc, hf⟩ := bcell hb)
    go_ret2
    exact ⟨by rw [Hs.out]; rfl, boxed hb⟩

end Go.Proofs.YtpejcdjgggcjlaaGreatDoor

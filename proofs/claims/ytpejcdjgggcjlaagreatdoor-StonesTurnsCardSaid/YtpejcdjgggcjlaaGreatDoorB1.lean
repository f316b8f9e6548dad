/- The walks of ValidPattern and what it calls; floorDiv, isFurrow. -/
import Derived.Test.YtpejcdjgggcjlaaGreatDoorA2
namespace Go.Proofs.YtpejcdjgggcjlaaGreatDoor
open Go.RowKit

/-- a furrow of a pattern -/
structure Fw where
  at_ : Int
  from_ : Int
  lean : Int
  leans : Int
  steep : Int
  feather : Int
/-- a pattern -/
structure Pt where
  eye : Int
  rings : Int
  harps : Int
  wide : Int
  fs : List Fw
/-- the furrow at a place -/
def fwAt (l : List Fw) (k : Nat) : Fw := l.getD k ⟨0, 0, 0, 0, 0, 0⟩
/-- a furrow as a value -/
def fwV (x : Fw) : Value := .agg #[.int .i64 x.at_, .int .i64 x.from_, .int .i64 x.lean, .int .i64 x.leans, .int .i64 x.steep, .int .i64 x.feather]
/-- a slice of furrows in memory, below block B -/
def Furs (w : World) (B : Nat) (v : Value) (l : List Fw) : Prop :=
  l.length * 48 ≤ 140737488351232 ∧ ∃ A c, v = .slice A l.length c ∧ l.length ≤ c ∧
    (0 < l.length → ∃ b off, A = some ⟨b, off, none⟩ ∧ b < B ∧ ∀ k, k < l.length →
      w.cell? ⟨b, off + k * 6, none⟩ = some (.int .i64 (fwAt l k).at_) ∧ w.cell? ⟨b, off + k * 6 + 1, none⟩ = some (.int .i64 (fwAt l k).from_) ∧ w.cell? ⟨b, off + k * 6 + 2, none⟩ = some (.int .i64 (fwAt l k).lean) ∧
      w.cell? ⟨b, off + k * 6 + 3, none⟩ = some (.int .i64 (fwAt l k).leans) ∧ w.cell? ⟨b, off + k * 6 + 4, none⟩ = some (.int .i64 (fwAt l k).steep) ∧ w.cell? ⟨b, off + k * 6 + 5, none⟩ = some (.int .i64 (fwAt l k).feather) ∧
      (fwAt l k).steep ≤ 9223372036854775807)
/-- a pattern as a value -/
def IsPt (w : World) (B : Nat) (v : Value) (p : Pt) : Prop :=
  ∃ s, v = .agg #[.int .i64 p.eye, .int .i64 p.rings, .int .i64 p.harps, .int .i64 p.wide, s] ∧ Furs w B s p.fs
theorem Furs.mono {w w' : World} {B B' : Nat} {v : Value} {l : List Fw} (h : Furs w B v l) (hb : Below B w w') (hB : B ≤ B') : Furs w' B' v l := by
  obtain ⟨h1, A, c, rfl, h2, h3⟩ := h
  refine ⟨h1, A, c, rfl, h2, fun hp => ?_⟩
  obtain ⟨b, off, rfl, hlt, hc⟩ := h3 hp
  refine ⟨b, off, rfl, by omega, fun k hk => ?_⟩
  obtain ⟨c0, c1, c2, c3, c4, c5, c6⟩ := hc k hk
  exact ⟨keepd c0 hb hlt, keepd c1 hb hlt, keepd c2 hb hlt, keepd c3 hb hlt, keepd c4 hb hlt, keepd c5 hb hlt, c6⟩
theorem IsPt.mono {w w' : World} {B B' : Nat} {v : Value} {p : Pt} (h : IsPt w B v p) (hb : Below B w w') (hB : B ≤ B') : IsPt w' B' v p := by
  obtain ⟨s, rfl, hi⟩ := h
  exact ⟨s, rfl, hi.mono hb hB⟩
theorem IsPt.box {w : World} {v : Value} {p : Pt} (h : IsPt w w.heap.size v p) (o : Obj) : IsPt (w.alloc o) (w.alloc o).heap.size v p := h.mono ((Below.refl _ _).alloc (Nat.le_refl _) _) (by simp)

/-- a furrow fits a pattern -/
def furB (rings wide : Int) (x : Fw) : Bool := inB x.at_ 0 (wide - 1) && inB x.from_ 0 (rings - 1) && inB x.lean (-96) 96 && inB x.leans 1 96 && (decide (1 ≤ x.steep) && inB x.feather 0 (wide - 1 - x.steep))
/-- a pattern is valid -/
def patB (p : Pt) : Bool := inB p.eye 1 16 && inB p.rings 1 24 && inB p.harps 1 96 && inB p.wide 1 96 && inB (p.harps * p.wide) 2 96 && decide (p.fs.length ≤ 16) && p.fs.all (furB p.rings p.wide)

set_option maxHeartbeats 400000 in
theorem isFurrow_c (n : Int) (w : World) : Calls Tryz.prog 85 #[.int .i64 n] w fun e w' => e = .returned (.bool (n != 0)) ∧ w = w' := by
  go_enter Tryz.func85, Tryz.ntmps85
  go_wp2_with fail
  go_ret
  exact ⟨rfl, rfl⟩

/-- the greatest integer that is not greater -/
def flr (a b : Int) : Int := a / b
theorem flr_neg {a b : Int} (hb : 1 ≤ b) (h : a.tmod b < 0) : a.tdiv b - 1 = flr a b := by
  have hd := Int.tdiv_eq_ediv (a := a) (b := b)
  unfold flr
  rw [hd]
  split
  · rename_i h0
    rcases h0 with h0 | h0
    · have := Int.tmod_nonneg b h0; omega
    · have := Int.tmod_eq_zero_of_dvd h0; omega
  · rw [Int.sign_eq_one_of_pos (by omega)]; omega
theorem flr_pos {a b : Int} (h : ¬ a.tmod b < 0) : a.tdiv b = flr a b := by
  have hd := Int.tdiv_eq_ediv (a := a) (b := b)
  unfold flr
  rw [hd]
  split
  · omega
  · rename_i h0
    exfalso
    have h1 : a < 0 := by omega
    have h2 : ¬ b ∣ a := fun h => h0 (.inr h)
    have h3 : a.tmod b ≠ 0 := fun h => h2 (Int.dvd_of_tmod_eq_zero h)
    have h4 : (-a).tmod b = - a.tmod b := Int.neg_tmod ..
    have h5 : 0 ≤ (-a).tmod b := Int.tmod_nonneg b (by omega)
    omega

set_option maxHeartbeats 400000 in
theorem floorDiv_c (a b : Int) (w : World) (hb : 1 ≤ b) (h1 : -100000 ≤ a) (h2 : a ≤ 100000) : Calls Tryz.prog 84 #[.int .i64 a, .int .i64 b] w fun e w' => e = .returned (.int .i64 (flr a b)) ∧ w = w' := by
  have hq1 : -100000 ≤ a.tdiv b := by
    have := Int.natAbs_tdiv_le_natAbs a b; omega
  have hq2 : a.tdiv b ≤ 100000 := by
    have := Int.natAbs_tdiv_le_natAbs a b; omega
  by_cases hm : a.tmod b < 0
  · have H := Lib.hid (flr_neg hb hm)
    go_enter Tryz.func84, Tryz.ntmps84
    go_wp2_with fail
    go_ret
    exact ⟨ret_int H.out, rfl⟩
  · have H := Lib.hid (flr_pos hm)
    go_enter Tryz.func84, Tryz.ntmps84
    go_wp2_with fail
    go_ret
    exact ⟨ret_int H.out, rfl⟩

set_option maxHeartbeats 800000 in
theorem validFurrow_c (p : Pt) (s : Value) (x : Fw) (w : World) (h1 : 1 ≤ p.rings) (h2 : p.rings ≤ 24) (h3 : 1 ≤ p.wide) (h4 : p.wide ≤ 96) (h5 : x.steep ≤ 9223372036854775807) :
    Calls Tryz.prog 83 #[.agg #[.int .i64 p.eye, .int .i64 p.rings, .int .i64 p.harps, .int .i64 p.wide, s], .agg #[.int .i64 x.at_, .int .i64 x.from_, .int .i64 x.lean, .int .i64 x.leans, .int .i64 x.steep, .int .i64 x.feather]] w
      fun e w' => e = .returned (.bool (furB p.rings p.wide x)) ∧ Below w.heap.size w w' := by
  cases c1 : inB x.at_ 0 (p.wide - 1)
  · have H := Lib.hid (show furB p.rings p.wide x = false by simp [furB, c1])
    go_enter Tryz.func83, Tryz.ntmps83
    go_wp2_with (go_at_call 77; refine (within_c _ _ _ _).mono ?_; rintro e w' ⟨rfl, rfl⟩)
    go_ret
    exact ⟨ret_bool H.out.symm, ((Below.refl _ _).alloc (Nat.le_refl _) _).alloc (by simp) _⟩
  cases c2 : inB x.from_ 0 (p.rings - 1)
  · have H := Lib.hid (show furB p.rings p.wide x = false by simp [furB, c2])
    go_enter Tryz.func83, Tryz.ntmps83
    go_wp2_with (go_at_call 77; refine (within_c _ _ _ _).mono ?_; rintro e w' ⟨rfl, rfl⟩)
    go_ret
    exact ⟨ret_bool H.out.symm, ((Below.refl _ _).alloc (Nat.le_refl _) _).alloc (by simp) _⟩
  cases c3 : inB x.lean (-96) 96
  · have H := Lib.hid (show furB p.rings p.wide x = false by simp [furB, c3])
    go_enter Tryz.func83, Tryz.ntmps83
    go_wp2_with (go_at_call 77; refine (within_c _ _ _ _).mono ?_; rintro e w' ⟨rfl, rfl⟩)
    go_ret
    exact ⟨ret_bool H.out.symm, ((Below.refl _ _).alloc (Nat.le_refl _) _).alloc (by simp) _⟩
  cases c4 : inB x.leans 1 96
  · have H := Lib.hid (show furB p.rings p.wide x = false by simp [furB, c4])
    go_enter Tryz.func83, Tryz.ntmps83
    go_wp2_with (go_at_call 77; refine (within_c _ _ _ _).mono ?_; rintro e w' ⟨rfl, rfl⟩)
    go_ret
    exact ⟨ret_bool H.out.symm, ((Below.refl _ _).alloc (Nat.le_refl _) _).alloc (by simp) _⟩
  by_cases c5 : 1 ≤ x.steep
  · have H := Lib.hid (show furB p.rings p.wide x = inB x.feather 0 (p.wide - 1 - x.steep) by simp [furB, c1, c2, c3, c4, c5])
    go_enter Tryz.func83, Tryz.ntmps83
    go_wp2_with (go_at_call 77; refine (within_c _ _ _ _).mono ?_; rintro e w' ⟨rfl, rfl⟩)
    go_ret
    exact ⟨ret_bool H.out.symm, ((Below.refl _ _).alloc (Nat.le_refl _) _).alloc (by simp) _⟩
  · have H := Lib.hid (show furB p.rings p.wide x = false by simp [furB, c5])
    go_enter Tryz.func83, Tryz.ntmps83
    go_wp2_with (go_at_call 77; refine (within_c _ _ _ _).mono ?_; rintro e w' ⟨rfl, rfl⟩)
    go_ret
    exact ⟨ret_bool H.out.symm, ((Below.refl _ _).alloc (Nat.le_refl _) _).alloc (by simp) _⟩

end Go.Proofs.YtpejcdjgggcjlaaGreatDoor

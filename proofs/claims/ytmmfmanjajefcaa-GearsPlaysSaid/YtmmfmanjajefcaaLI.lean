/- Layer 7: the bell, on both sides; when teeth meet, as the specification has it. -/
import Derived.Test.YtmmfmanjajefcaaLH
set_option linter.all false
namespace Go.Proofs.Ytmmfmanjajefcaa
open Go.RowKit

/-- the knock behind which a bell rings -/
def riE (m h d k : Int) : Int := if feedB h d k then (if m < 1 then 72 else 0) else 33
def riV (m h d k : Int) : Int := if feedB h d k then (if m < 1 then 0 else if h < m then 0 else (h - m) / d + 1) else 0
set_option maxRecDepth 100000 in
set_option maxHeartbeats 4000000 in
theorem Rings_c (m h d k : Int) (w : World) : Calls Try.prog 51 #[.agg #[.int .i64 m], .agg #[.int .i64 h, .int .i64 d, .int .i64 k]] w fun e w' => e = .returned (.tuple #[.int .i64 (riV m h d k), .int .i64 (riE m h d k)]) ∧ Below w.heap.size w w' := by
  have HE := Lib.hid (show riE m h d k = if feedB h d k then (if m < 1 then 72 else 0) else 33 from rfl)
  have HV := Lib.hid (show riV m h d k = if feedB h d k then (if m < 1 then 0 else if h < m then 0 else (h - m) / d + 1) else 0 from rfl)
  go_enter Try.func51, Try.ntmps51
  go_wp2_with fail
  obtain ⟨W1, hW2⟩ : ∃ X, ((w.alloc (.cells #[.int .i64 m] 59)).alloc (.cells #[.int .i64 h, .int .i64 d, .int .i64 k] 57)) = X := ⟨_, rfl⟩
  have B3 := Lib.hid (show Below w.heap.size w W1 by rw [← hW2]; exact (((Below.refl w.heap.size w).alloc (Nat.le_refl _) _).alloc (by first | (simp; done) | (simp; omega)) _))
  have X4 := Lib.hid (show Box W1 (w.heap.size) 59 #[.int .i64 m] by rw [← hW2]; exact (Box.made w 59 #[.int .i64 m]).alloc _)
  have X5 := Lib.hid (show Box W1 (w.heap.size + 1) 57 #[.int .i64 h, .int .i64 d, .int .i64 k] by
    have hz := Box.made (w.alloc (.cells #[.int .i64 m] 59)) 57 #[.int .i64 h, .int .i64 d, .int .i64 k]
    rw [World.size_alloc] at hz
    rw [← hW2]; exact hz)
  rw [hW2]
  clear hW2
  have q6 : W1.cell? ⟨w.heap.size, 0, none⟩ = some (.int .i64 m) := X4.out.cell 0
  have q7 : W1.cell? ⟨w.heap.size + 1, 0, none⟩ = some (.int .i64 h) := X5.out.cell 0
  have q8 : W1.cell? ⟨w.heap.size + 1, 1, none⟩ = some (.int .i64 d) := X5.out.cell 1
  have q9 : W1.cell? ⟨w.heap.size + 1, 2, none⟩ = some (.int .i64 k) := X5.out.cell 2
  go_wp2_with fail
  refine (isFeed_c h d k _).mono ?_; rintro e v10 ⟨rfl, hb11⟩
  have X12 := Lib.hid (X4.out.later hb11)
  have X13 := Lib.hid (X5.out.later hb11)
  have B14 := Lib.hid (B3.out.trans (hb11.mono B3.out.size))
  clear hb11
  clear q6 q7 q8 q9
  have q15 : v10.cell? ⟨w.heap.size, 0, none⟩ = some (.int .i64 m) := X12.out.cell 0
  have q16 : v10.cell? ⟨w.heap.size + 1, 0, none⟩ = some (.int .i64 h) := X13.out.cell 0
  have q17 : v10.cell? ⟨w.heap.size + 1, 1, none⟩ = some (.int .i64 d) := X13.out.cell 1
  have q18 : v10.cell? ⟨w.heap.size + 1, 2, none⟩ = some (.int .i64 k) := X13.out.cell 2
  cases hf : feedB h d k
  · have HR := Lib.hid (show riV m h d k = 0 ∧ riE m h d k = 33 by rw [HV.out, HE.out, hf]; exact ⟨rfl, rfl⟩)
    clear hf
    go_wp2_with fail
    go_ret2
    exact ⟨by rw [HR.out.1, HR.out.2]; rfl, B14.out⟩
  · have HF := Lib.hid hf
    clear hf
    by_cases hm : m < 1
    · have d1 : decide (m < 1) = true := decide_eq_true hm
      have HR := Lib.hid (show riV m h d k = 0 ∧ riE m h d k = 72 by rw [HV.out, HE.out, HF.out, if_pos rfl, if_pos rfl, if_pos hm, if_pos hm]; exact ⟨rfl, rfl⟩)
      clear hm
      go_wp2_with fail
      go_ret2
      exact ⟨by rw [HR.out.1, HR.out.2]; rfl, B14.out⟩
    · have d1 : decide (m < 1) = false := decide_eq_false hm
      by_cases hh : h < m
      · have d2 : decide (h < m) = true := decide_eq_true hh
        have HR := Lib.hid (show riV m h d k = 0 ∧ riE m h d k = 0 by rw [HV.out, HE.out, HF.out, if_pos rfl, if_pos rfl, if_neg hm, if_neg hm, if_pos hh]; exact ⟨rfl, rfl⟩)
        clear hm hh
        go_wp2_with fail
        go_ret2
        exact ⟨by rw [HR.out.1, HR.out.2]; rfl, B14.out⟩
      · have d2 : decide (h < m) = false := decide_eq_false hh
        have HR := Lib.hid (show riV m h d k = (h - m) / d + 1 ∧ riE m h d k = 0 by rw [HV.out, HE.out, HF.out, if_pos rfl, if_pos rfl, if_neg hm, if_neg hm, if_neg hh]; exact ⟨rfl, rfl⟩)
        have hfb := HF.out
        unfold feedB at hfb
        rw [Bool.and_eq_true, Bool.and_eq_true] at hfb
        have i1 := inB_iff.1 hfb.1.1
        have i2 := inB_iff.1 hfb.1.2
        obtain ⟨x, hx⟩ : ∃ x : Nat, h - m = (x : Int) := ⟨(h - m).toNat, by omega⟩
        obtain ⟨D, rfl⟩ : ∃ D : Nat, d = (D : Int) := ⟨d.toNat, by omega⟩
        have hxb : x ≤ 1000000 := by omega
        obtain ⟨q, hq⟩ : ∃ q, x / D = q := ⟨_, rfl⟩
        have qb : q ≤ x := by rw [← hq]; exact Nat.div_le_self _ _
        have ws : IntKind.i64.wrap (h - m) = (x : Int) := by rw [hx]; exact wrap_id (by omega) (by omega)
        have qx : (x : Int) / (D : Int) = (q : Int) := by rw [← hq]; simp
        rw [hx, qx] at HR
        have wq : IntKind.i64.wrap (q : Int) = (q : Int) := wrap_id (by omega) (by omega)
        have wa : IntKind.i64.wrap ((q : Int) + 1) = (q : Int) + 1 := wrap_id (by omega) (by omega)
        have z0 : decide ((D : Int) = 0) = false := decide_eq_false (by omega)
        have z1 : decide (D = 0) = false := decide_eq_false (by omega)
        have d0 : (0 : Int) < (D : Int) := by omega
        clear hfb i1 i2 hm hh qb hq hxb hx
        go_wp2_with fail
        go_ret2
        exact ⟨by rw [HR.out.1, HR.out.2]; rfl, B14.out⟩

set_option maxRecDepth 100000 in
set_option maxHeartbeats 4000000 in
theorem rRings_c (m h d k : Int) (w : World) : Calls Try.prog 52 #[.agg #[.int .i64 m], .agg #[.int .i64 h, .int .i64 d, .int .i64 k]] w fun e w' => e = .returned (.tuple #[.int .i64 (riV m h d k), .int .i64 (riE m h d k)]) ∧ Below w.heap.size w w' := by
  have HE := Lib.hid (show riE m h d k = if feedB h d k then (if m < 1 then 72 else 0) else 33 from rfl)
  have HV := Lib.hid (show riV m h d k = if feedB h d k then (if m < 1 then 0 else if h < m then 0 else (h - m) / d + 1) else 0 from rfl)
  go_enter Try.func52, Try.ntmps52
  go_wp2_with fail
  obtain ⟨W19, hW20⟩ : ∃ X, ((w.alloc (.cells #[.int .i64 m] 59)).alloc (.cells #[.int .i64 h, .int .i64 d, .int .i64 k] 57)) = X := ⟨_, rfl⟩
  have B21 := Lib.hid (show Below w.heap.size w W19 by rw [← hW20]; exact (((Below.refl w.heap.size w).alloc (Nat.le_refl _) _).alloc (by first | (simp; done) | (simp; omega)) _))
  have X22 := Lib.hid (show Box W19 (w.heap.size) 59 #[.int .i64 m] by rw [← hW20]; exact (Box.made w 59 #[.int .i64 m]).alloc _)
  have X23 := Lib.hid (show Box W19 (w.heap.size + 1) 57 #[.int .i64 h, .int .i64 d, .int .i64 k] by
    have hz := Box.made (w.alloc (.cells #[.int .i64 m] 59)) 57 #[.int .i64 h, .int .i64 d, .int .i64 k]
    rw [World.size_alloc] at hz
    rw [← hW20]; exact hz)
  rw [hW20]
  clear hW20
  have q24 : W19.cell? ⟨w.heap.size, 0, none⟩ = some (.int .i64 m) := X22.out.cell 0
  have q25 : W19.cell? ⟨w.heap.size + 1, 0, none⟩ = some (.int .i64 h) := X23.out.cell 0
  have q26 : W19.cell? ⟨w.heap.size + 1, 1, none⟩ = some (.int .i64 d) := X23.out.cell 1
  have q27 : W19.cell? ⟨w.heap.size + 1, 2, none⟩ = some (.int .i64 k) := X23.out.cell 2
  go_wp2_with fail
  refine (rvalidFeed_c h d k _).mono ?_; rintro e v28 ⟨rfl, hb29⟩
  have X30 := Lib.hid (X22.out.later hb29)
  have X31 := Lib.hid (X23.out.later hb29)
  have B32 := Lib.hid (B21.out.trans (hb29.mono B21.out.size))
  clear hb29
  clear q24 q25 q26 q27
  have q33 : v28.cell? ⟨w.heap.size, 0, none⟩ = some (.int .i64 m) := X30.out.cell 0
  have q34 : v28.cell? ⟨w.heap.size + 1, 0, none⟩ = some (.int .i64 h) := X31.out.cell 0
  have q35 : v28.cell? ⟨w.heap.size + 1, 1, none⟩ = some (.int .i64 d) := X31.out.cell 1
  have q36 : v28.cell? ⟨w.heap.size + 1, 2, none⟩ = some (.int .i64 k) := X31.out.cell 2
  cases hf : feedB h d k
  · have HR := Lib.hid (show riV m h d k = 0 ∧ riE m h d k = 33 by rw [HV.out, HE.out, hf]; exact ⟨rfl, rfl⟩)
    clear hf
    go_wp2_with fail
    go_ret2
    exact ⟨by rw [HR.out.1, HR.out.2]; rfl, B32.out⟩
  · have HF := Lib.hid hf
    clear hf
    by_cases hm : m < 1
    · have d1 : decide (m < 1) = true := decide_eq_true hm
      have HR := Lib.hid (show riV m h d k = 0 ∧ riE m h d k = 72 by rw [HV.out, HE.out, HF.out, if_pos rfl, if_pos rfl, if_pos hm, if_pos hm]; exact ⟨rfl, rfl⟩)
      clear hm
      go_wp2_with fail
      go_ret2
      exact ⟨by rw [HR.out.1, HR.out.2]; rfl, B32.out⟩
    · have d1 : decide (m < 1) = false := decide_eq_false hm
      by_cases hh : h < m
      · have d2 : decide (h < m) = true := decide_eq_true hh
        have HR := Lib.hid (show riV m h d k = 0 ∧ riE m h d k = 0 by rw [HV.out, HE.out, HF.out, if_pos rfl, if_pos rfl, if_neg hm, if_neg hm, if_pos hh]; exact ⟨rfl, rfl⟩)
        clear hm hh
        go_wp2_with fail
        go_ret2
        exact ⟨by rw [HR.out.1, HR.out.2]; rfl, B32.out⟩
      · have d2 : decide (h < m) = false := decide_eq_false hh
        have HR := Lib.hid (show riV m h d k = (h - m) / d + 1 ∧ riE m h d k = 0 by rw [HV.out, HE.out, HF.out, if_pos rfl, if_pos rfl, if_neg hm, if_neg hm, if_neg hh]; exact ⟨rfl, rfl⟩)
        have hfb := HF.out
        unfold feedB at hfb
        rw [Bool.and_eq_true, Bool.and_eq_true] at hfb
        have i1 := inB_iff.1 hfb.1.1
        have i2 := inB_iff.1 hfb.1.2
        obtain ⟨x, hx⟩ : ∃ x : Nat, h - m = (x : Int) := ⟨(h - m).toNat, by omega⟩
        obtain ⟨D, rfl⟩ : ∃ D : Nat, d = (D : Int) := ⟨d.toNat, by omega⟩
        have hxb : x ≤ 1000000 := by omega
        obtain ⟨q, hq⟩ : ∃ q, x / D = q := ⟨_, rfl⟩
        have qb : q ≤ x := by rw [← hq]; exact Nat.div_le_self _ _
        have ws : IntKind.i64.wrap (h - m) = (x : Int) := by rw [hx]; exact wrap_id (by omega) (by omega)
        have qx : (x : Int) / (D : Int) = (q : Int) := by rw [← hq]; simp
        rw [hx, qx] at HR
        have wq : IntKind.i64.wrap (q : Int) = (q : Int) := wrap_id (by omega) (by omega)
        have wa : IntKind.i64.wrap ((q : Int) + 1) = (q : Int) + 1 := wrap_id (by omega) (by omega)
        have z0 : decide ((D : Int) = 0) = false := decide_eq_false (by omega)
        have z1 : decide (D = 0) = false := decide_eq_false (by omega)
        have d0 : (0 : Int) < (D : Int) := by omega
        clear hfb i1 i2 hm hh qb hq hxb hx
        go_wp2_with fail
        go_ret2
        exact ⟨by rw [HR.out.1, HR.out.2]; rfl, B32.out⟩

end Go.Proofs.Ytmmfmanjajefcaa

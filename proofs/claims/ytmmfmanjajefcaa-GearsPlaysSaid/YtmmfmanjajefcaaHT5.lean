/- Layer 7: all sectors, as the specification has them: the walk. -/
import Derived.Test.YtmmfmanjajefcaaHT4
set_option linter.all false
namespace Go.Proofs.Ytmmfmanjajefcaa
open Go.RowKit

/-- what stands between the rounds -/
structure AS (w wr : World) (b N D n d S : Nat) (f : Nat → Bool) : Prop where
  r : Box wr b 23 #[.int .i64 (N : Int), .int .i64 (D : Int)]
  p : Box wr (b + 1) 23 #[.int .i64 (n : Int), .int .i64 (d : Int)]
  row : BRow wr (b + 1 + 1) S f
  bel : Below w.heap.size w wr
  lt : w.heap.size ≤ b
theorem AS.put {w wr : World} {b N D n d S : Nat} {f : Nat → Bool} (h : AS w wr b N D n d S f) (k : Nat) : AS w (wr.setCell ⟨b + 1 + 1, k, none⟩ (.bool true)) b N D n d S (upf f k) :=
  ⟨h.r.far (p := ⟨b + 1 + 1, k, none⟩) (show b ≠ b + 1 + 1 by omega) _, h.p.far (p := ⟨b + 1 + 1, k, none⟩) (show b + 1 ≠ b + 1 + 1 by omega) _, h.row.put k, h.bel.setCell (p := ⟨b + 1 + 1, k, none⟩) (show w.heap.size ≤ b + 1 + 1 by have := h.lt; omega) _, h.lt⟩
theorem AS.later {w wr w' : World} {b N D n d S : Nat} {f : Nat → Bool} (h : AS w wr b N D n d S f) (hb : Below wr.heap.size wr w') : AS w w' b N D n d S f :=
  ⟨h.r.later hb, h.p.later hb, h.row.later hb, h.bel.trans (hb.mono h.bel.size), h.lt⟩
theorem AS.alloc {w wr : World} {b N D n d S : Nat} {f : Nat → Bool} (h : AS w wr b N D n d S f) (o : Obj) : AS w (wr.alloc o) b N D n d S f := h.later ((Below.refl _ _).alloc (Nat.le_refl _) _)
theorem AS.size {w wr : World} {b N D n d S : Nat} {f : Nat → Bool} (h : AS w wr b N D n d S f) : b + 1 + 1 + 1 ≤ wr.heap.size := h.row.lt
theorem AS.grown {w wr w' : World} {b N D n d S : Nat} {f : Nat → Bool} (h : AS w wr b N D n d S f) {row : Option Nat} (hg : wr.grownBy w' row) (hr : ∀ q, row = some q → b + 1 + 1 + 1 ≤ q) : AS w w' b N D n d S f :=
  ⟨h.r.grown hg (fun e => by have := hr _ e; omega), h.p.grown hg (fun e => by have := hr _ e; omega), Box.grown (w := wr) (t := 4) h.row hg (fun e => by have := hr _ e; omega), h.bel.grown hg h.bel.size (fun q e => by have := hr q e; have := h.lt; omega), h.lt⟩
theorem upf_iff {f : Nat → Bool} {k i : Nat} : upf f k i = true ↔ (f i = true ∨ i = k) := by
  unfold upf
  by_cases h : i = k
  · rw [if_pos h]; simp [h]
  · rw [if_neg h]; simp [h]

theorem wh_bd2 {ms : List Mh} {s t : Int} (h : rnE ms s t = 0) : -1000000000000 ≤ (whR ms s t).n ∧ (whR ms s t).n ≤ (whR ms s t).d ∧ (whR ms s t).d ≤ 100000000000000000 := by
  obtain ⟨N, D, n, d, S, T, hr⟩ := rn_zero h
  rw [wh_ok h hr]
  have h1 := hm_hi (T * N) S D n d
  have h2 : n * S / d ≤ 96000000000 := Nat.le_trans (Nat.div_le_self _ _) (Nat.le_trans (Nat.mul_le_mul hr.rp.1 hr.S96) (by decide))
  have h3 : fmN (T * N) S D ≤ 96000000000000000 := by
    unfold fmN
    exact Nat.le_trans (Nat.div_le_self _ _) (Nat.le_trans (Nat.mul_le_mul (Nat.mul_le_mul hr.T6 hr.rt.1) hr.S96) (by decide))
  have h4 : -96000000001 ≤ hmI (T * N) S D n d := by
    unfold hmI
    generalize n * S / d = b at *
    generalize T * N * S / D = a
    split <;> omega
  show -1000000000000 ≤ hmI (T * N) S D n d ∧ hmI (T * N) S D n d ≤ ((fmN (T * N) S D : Nat) : Int) ∧ ((fmN (T * N) S D : Nat) : Int) ≤ 100000000000000000
  omega

set_option maxRecDepth 100000 in
set_option maxHeartbeats 8000000 in
theorem rAll_c (ms : List Mh) (s : Int) (v : Value) (w : World) (h : IsTr w w.heap.size v ms) (hl : ms.length ≤ 100) : Calls Try.prog 48 #[v, .int .i64 s] w (AlPost w ms s) := by
  have HT := Lib.hid h
  have HL := Lib.hid hl
  clear hl
  obtain ⟨sv, rfl, A, c, rfl, -, -⟩ := h
  obtain ⟨l, hn⟩ : ∃ n, ms.length = n := ⟨_, rfl⟩
  have HN := Lib.hid hn
  rw [hn] at HT ⊢
  clear hn
  go_enter Try.func48, Try.ntmps48
  go_wp2_with fail
  obtain ⟨W1, hW2⟩ : ∃ Wzz, (w.alloc (.cells #[.slice A l c] 35)) = Wzz := ⟨_, rfl⟩
  have B3 := Lib.hid (show Below w.heap.size w W1 by rw [← hW2]; exact ((Below.refl w.heap.size w).alloc (Nat.le_refl _) _))
  have X4 := Lib.hid (show Box W1 (w.heap.size) 35 #[.slice A l c] by rw [← hW2]; exact Box.made w 35 #[.slice A l c])
  have C5 := Lib.hid (HT.out.later B3.out)
  have SZ6 := Lib.hid (show W1.heap.size = w.heap.size + 1 by rw [← hW2]; simp)
  rw [hW2]
  clear hW2
  have q7 : W1.cell? ⟨w.heap.size, 0, none⟩ = some (.slice A l c) := X4.out.cell 0
  go_wp2_with fail
  refine (rValidTrain_c ms _ _ C5.out HL.out).mono ?_; rintro e v8 ⟨rfl, hb9⟩
  have X10 := Lib.hid (X4.out.later hb9)
  have C11 := Lib.hid (C5.out.later hb9)
  have B12 := Lib.hid (B3.out.trans (hb9.mono B3.out.size))
  clear hb9
  clear q7
  have q13 : v8.cell? ⟨w.heap.size, 0, none⟩ = some (.slice A l c) := X10.out.cell 0
  cases hv : trB ms
  · have HX := Lib.hid (show rnE ms s 0 = 70 by unfold rnE; rw [hv]; rfl)
    have HR := Lib.hid (al_bad (ms := ms) (s := s) (by rw [HX.out]; decide))
    clear hv
    go_wp2_with fail
    go_ret2
    exact ⟨_, by rw [HX.out]; rfl, by rw [HR.out]; exact ints_nil _ _, B12.out⟩
  · have HV := Lib.hid hv
    clear hv
    go_wp2_with fail
    refine (rrunner_c ms s _ _ C11.out HV.out HL.out).mono ?_; rintro e v14 ⟨hpost, hb15⟩
    have X16 := Lib.hid (X10.out.later hb15)
    have C17 := Lib.hid (C11.out.later hb15)
    have B18 := Lib.hid (B12.out.trans (hb15.mono B12.out.size))
    clear hb15
    clear q13
    have q19 : v14.cell? ⟨w.heap.size, 0, none⟩ = some (.slice A l c) := X16.out.cell 0
    rcases hpost with ⟨h1, rfl⟩ | ⟨h1, N, D, n, d, S, hr, rfl⟩
    · obtain ⟨x, hx⟩ : ∃ x, rnE ms s 0 = x := ⟨_, rfl⟩
      have HR := Lib.hid (al_bad h1)
      have HX := Lib.hid hx
      rw [hx] at h1 ⊢
      have e1 : (x != 0) = true := by simpa using h1
      have e2 : (x == 0) = false := by simpa using h1
      have e3 : decide (x = 0) = false := by simpa using h1
      clear h1 hx
      have X20 := Lib.hid (X16.out.alloc (.cells #[.int .i64 0, .int .i64 0] 23))
      have C21 := Lib.hid (C17.out.later ((Below.refl v14.heap.size v14).alloc (Nat.le_refl _) (.cells #[.int .i64 0, .int .i64 0] 23)))
      have B22 := Lib.hid (B18.out.alloc B18.out.size (.cells #[.int .i64 0, .int .i64 0] 23))
      have X23 := Lib.hid (Box.made v14 23 #[.int .i64 0, .int .i64 0])
      have q24 : (v14.alloc (.cells #[.int .i64 0, .int .i64 0] 23)).cell? ⟨w.heap.size, 0, none⟩ = some (.slice A l c) := X20.out.cell 0
      have q25 : (v14.alloc (.cells #[.int .i64 0, .int .i64 0] 23)).cell? ⟨v14.heap.size, 0, none⟩ = some (.int .i64 0) := X23.out.cell 0
      have q26 : (v14.alloc (.cells #[.int .i64 0, .int .i64 0] 23)).cell? ⟨v14.heap.size, 1, none⟩ = some (.int .i64 0) := X23.out.cell 1
      have X27 := Lib.hid (X20.out.alloc (.cells #[.int .i64 0, .int .i64 0] 23))
      have X28 := Lib.hid (X23.out.alloc (.cells #[.int .i64 0, .int .i64 0] 23))
      have C29 := Lib.hid (C21.out.later ((Below.refl (v14.alloc (.cells #[.int .i64 0, .int .i64 0] 23)).heap.size (v14.alloc (.cells #[.int .i64 0, .int .i64 0] 23))).alloc (Nat.le_refl _) (.cells #[.int .i64 0, .int .i64 0] 23)))
      have B30 := Lib.hid (B22.out.alloc B22.out.size (.cells #[.int .i64 0, .int .i64 0] 23))
      have X31 := Lib.hid (Box.made (v14.alloc (.cells #[.int .i64 0, .int .i64 0] 23)) 23 #[.int .i64 0, .int .i64 0])
      have q32 : ((v14.alloc (.cells #[.int .i64 0, .int .i64 0] 23)).alloc (.cells #[.int .i64 0, .int .i64 0] 23)).cell? ⟨w.heap.size, 0, none⟩ = some (.slice A l c) := X27.out.cell 0
      have q33 : ((v14.alloc (.cells #[.int .i64 0, .int .i64 0] 23)).alloc (.cells #[.int .i64 0, .int .i64 0] 23)).cell? ⟨v14.heap.size, 0, none⟩ = some (.int .i64 0) := X28.out.cell 0
      have q34 : ((v14.alloc (.cells #[.int .i64 0, .int .i64 0] 23)).alloc (.cells #[.int .i64 0, .int .i64 0] 23)).cell? ⟨v14.heap.size, 1, none⟩ = some (.int .i64 0) := X28.out.cell 1
      have q35 : ((v14.alloc (.cells #[.int .i64 0, .int .i64 0] 23)).alloc (.cells #[.int .i64 0, .int .i64 0] 23)).cell? ⟨(v14.alloc (.cells #[.int .i64 0, .int .i64 0] 23)).heap.size, 0, none⟩ = some (.int .i64 0) := X31.out.cell 0
      have q36 : ((v14.alloc (.cells #[.int .i64 0, .int .i64 0] 23)).alloc (.cells #[.int .i64 0, .int .i64 0] 23)).cell? ⟨(v14.alloc (.cells #[.int .i64 0, .int .i64 0] 23)).heap.size, 1, none⟩ = some (.int .i64 0) := X31.out.cell 1
      go_wp2_with fail
      go_ret2
      exact ⟨_, by rw [HX.out]; rfl, by rw [HR.out]; exact ints_nil _ _, B30.out⟩
    · have HOK := Lib.hid hr
      have HX := Lib.hid h1
      have HR := Lib.hid (al_ok h1 hr)
      obtain rfl : s = (S : Int) := hr.sec
      have HS := Lib.hid (And.intro hr.S2 hr.S96)
      have HDD := Lib.hid (And.intro hr.rt.2.1 hr.rt.2.2.1)
      have HMI := Lib.hid (fun z (hz : z < S) => may_iff (n := n) (z := z) hr.rt.2.1 hr.rp.2.1 (show 0 < S by have := hr.S2; omega) hr.rt.2.2.2 hz)
      have HMA := Lib.hid (fun z (hz : z < S) (h : S ≤ D) => may_all (N := N) (n := n) (z := z) hr.rt.2.1 hr.rp.2.1 (show 0 < S by have := hr.S2; omega) h hz)
      have HSP := Lib.hid (fun (m : Nat) (W : World) (hm : m ≤ 96) => span_c N D n d S m W hr.rt.1 (by omega) hr.S96 hr.rp.1 hr.rt.2.1 hr.rt.2.2.1 hr.rp.2.1 hr.rp.2.2.1)
      have HLB := Lib.hid (fun (m : Nat) (hm : m ≤ 96) => show -1000000000000 ≤ hmI (m * N) S D n d ∧ hmI (m * N) S D n d ≤ ((fmN (m * N) S D : Nat) : Int) ∧ ((fmN (m * N) S D : Nat) : Int) ≤ 100000000000000000 by
        obtain ⟨T, hT, hrt⟩ := run_at hr (t := (m : Int)) (by omega) (by omega)
        obtain rfl : m = T := by omega
        have h0 : rnE ms (S : Int) (m : Int) = 0 := rn_more h1 (inB_iff.2 (by omega))
        have := wh_bd2 h0
        rw [wh_ok h0 hrt] at this
        exact this)
      have n1 : ((0 : Int) != 0) = false := by decide
      have hmk := fun X => mkBools X S (by have := hr.S96; omega)
      have s96 : S ≤ 96 := hr.S96
      clear h1 hr
      have HLV := Lib.hid (Nat.le_of_lt X16.out.lt)
      have X37 := Lib.hid (X16.out.alloc (.cells #[.int .i64 (N : Int), .int .i64 (D : Int)] 23))
      have C38 := Lib.hid (C17.out.later ((Below.refl v14.heap.size v14).alloc (Nat.le_refl _) (.cells #[.int .i64 (N : Int), .int .i64 (D : Int)] 23)))
      have B39 := Lib.hid (B18.out.alloc B18.out.size (.cells #[.int .i64 (N : Int), .int .i64 (D : Int)] 23))
      have X40 := Lib.hid (Box.made v14 23 #[.int .i64 (N : Int), .int .i64 (D : Int)])
      have q41 : (v14.alloc (.cells #[.int .i64 (N : Int), .int .i64 (D : Int)] 23)).cell? ⟨w.heap.size, 0, none⟩ = some (.slice A l c) := X37.out.cell 0
      have q42 : (v14.alloc (.cells #[.int .i64 (N : Int), .int .i64 (D : Int)] 23)).cell? ⟨v14.heap.size, 0, none⟩ = some (.int .i64 (N : Int)) := X40.out.cell 0
      have q43 : (v14.alloc (.cells #[.int .i64 (N : Int), .int .i64 (D : Int)] 23)).cell? ⟨v14.heap.size, 1, none⟩ = some (.int .i64 (D : Int)) := X40.out.cell 1
      have X44 := Lib.hid (X37.out.alloc (.cells #[.int .i64 (n : Int), .int .i64 (d : Int)] 23))
      have X45 := Lib.hid (X40.out.alloc (.cells #[.int .i64 (n : Int), .int .i64 (d : Int)] 23))
      have C46 := Lib.hid (C38.out.later ((Below.refl (v14.alloc (.cells #[.int .i64 (N : Int), .int .i64 (D : Int)] 23)).heap.size (v14.alloc (.cells #[.int .i64 (N : Int), .int .i64 (D : Int)] 23))).alloc (Nat.le_refl _) (.cells #[.int .i64 (n : Int), .int .i64 (d : Int)] 23)))
      have B47 := Lib.hid (B39.out.alloc B39.out.size (.cells #[.int .i64 (n : Int), .int .i64 (d : Int)] 23))
      have X48 := Lib.hid (Box.made (v14.alloc (.cells #[.int .i64 (N : Int), .int .i64 (D : Int)] 23)) 23 #[.int .i64 (n : Int), .int .i64 (d : Int)])
      have q49 : ((v14.alloc (.cells #[.int .i64 (N : Int), .int .i64 (D : Int)] 23)).alloc (.cells #[.int .i64 (n : Int), .int .i64 (d : Int)] 23)).cell? ⟨w.heap.size, 0, none⟩ = some (.slice A l c) := X44.out.cell 0
      have q50 : ((v14.alloc (.cells #[.int .i64 (N : Int), .int .i64 (D : Int)] 23)).alloc (.cells #[.int .i64 (n : Int), .int .i64 (d : Int)] 23)).cell? ⟨v14.heap.size, 0, none⟩ = some (.int .i64 (N : Int)) := X45.out.cell 0
      have q51 : ((v14.alloc (.cells #[.int .i64 (N : Int), .int .i64 (D : Int)] 23)).alloc (.cells #[.int .i64 (n : Int), .int .i64 (d : Int)] 23)).cell? ⟨v14.heap.size, 1, none⟩ = some (.int .i64 (D : Int)) := X45.out.cell 1
      have q52 : ((v14.alloc (.cells #[.int .i64 (N : Int), .int .i64 (D : Int)] 23)).alloc (.cells #[.int .i64 (n : Int), .int .i64 (d : Int)] 23)).cell? ⟨(v14.alloc (.cells #[.int .i64 (N : Int), .int .i64 (D : Int)] 23)).heap.size, 0, none⟩ = some (.int .i64 (n : Int)) := X48.out.cell 0
      have q53 : ((v14.alloc (.cells #[.int .i64 (N : Int), .int .i64 (D : Int)] 23)).alloc (.cells #[.int .i64 (n : Int), .int .i64 (d : Int)] 23)).cell? ⟨(v14.alloc (.cells #[.int .i64 (N : Int), .int .i64 (D : Int)] 23)).heap.size, 1, none⟩ = some (.int .i64 (d : Int)) := X48.out.cell 1
      obtain ⟨i0, hi, hz0, hz1, hz2⟩ : ∃ i, Try.prog.info? 3 = some i ∧ i.zero = some (.int .i64 0) ∧ i.size = 1 ∧ i.bytes = 8 := ⟨_, rfl, rfl, rfl, rfl⟩
      go_wp2_with fail
      have hs1 : ((v14.alloc (.cells #[.int .i64 (N : Int), .int .i64 (D : Int)] 23)).alloc (.cells #[.int .i64 (n : Int), .int .i64 (d : Int)] 23)).heap.size = v14.heap.size + 1 + 1 := by rw [World.size_alloc, World.size_alloc]
      have hs2 : (v14.alloc (.cells #[.int .i64 (N : Int), .int .i64 (D : Int)] 23)).heap.size = v14.heap.size + 1 := World.size_alloc _ _
      have HAS := Lib.hid (show AS w (((v14.alloc (.cells #[.int .i64 (N : Int), .int .i64 (D : Int)] 23)).alloc (.cells #[.int .i64 (n : Int), .int .i64 (d : Int)] 23)).alloc (.cells (Array.replicate S (.bool false)) 4)) v14.heap.size N D n d S (fun _ => false) from ⟨X45.out.alloc _, by have := X48.out.alloc (.cells (Array.replicate S (.bool false)) 4); rw [hs2] at this; exact this, by have := BRow.made ((v14.alloc (.cells #[.int .i64 (N : Int), .int .i64 (D : Int)] 23)).alloc (.cells #[.int .i64 (n : Int), .int .i64 (d : Int)] 23)) S; rw [hs1] at this; exact this, B47.out.alloc B47.out.size _, HLV.out⟩)
      clear hs1 hs2 hmk n1 s96
      by_cases hSD : S ≤ D
      · have HSD := Lib.hid hSD
        have e1 : decide ((S : Int) ≤ (D : Int)) = true := by simpa using hSD
        have e2 : decide (S ≤ D) = true := by simpa using hSD
        have e3 : decide ((D : Int) < (S : Int)) = false := decide_eq_false (by omega)
        have e4 : decide (D < S) = false := decide_eq_false (by omega)
        clear hSD
        go_loopw [10] (fun iv wr => ∃ (k : Nat) (f : Nat → Bool), k ≤ S ∧ iv = .int .i64 (k : Int) ∧ (∀ i, i < k → f i = true) ∧ AS w wr v14.heap.size N D n d S f) (fun iv _ => S - (intOf iv).toNat)
        case atStart => exact ⟨0, _, Nat.zero_le _, rfl, fun i hi => by omega, HAS.out⟩
        case round =>
          obtain ⟨k, f, hk, rfl, hf, hs⟩ := hrel
          have HFF := Lib.hid hf
          have HA := Lib.hid hs
          clear hf hs
          have r1 : wr.cell? ⟨v14.heap.size, 1, none⟩ = some (.int .i64 (D : Int)) := HA.out.r.cell 1
          by_cases hlt : k < S
          · have HLT := Lib.hid hlt
            have d1 : decide ((k : Int) < (S : Int)) = true := by simpa using hlt
            have d2 : decide (k < S) = true := by simpa using hlt
            have k0 : (0 : Int) ≤ (k : Int) := by omega
            have k1 : (k : Int) < (S : Int) := by omega
            have k96 : k ≤ 96 := by have := HS.out; omega
            have c0 := HA.out.row.cell hlt
            have c1 := HA.out.row.free k
            clear hk hlt
            go_wp2_with fail
            go_roundw
            case rel => exact ⟨k + 1, upf f k, HLT.out, by go_num, fun i hi => by rw [upf_iff]; rcases Nat.lt_succ_iff_lt_or_eq.1 hi with h | h; exact .inl (HFF.out i h); exact .inr h, HA.out.put k⟩
            case measure => have := HLT.out; simp [intOf]; omega
          · obtain rfl : S = k := by omega
            have d1 : decide ((S : Int) < (S : Int)) = false := by simp
            have d2 : decide (S < S) = false := by simp
            have HF := Lib.hid (show ∀ i, i < S → f i = mayB N D n d S i from fun i hi => by rw [HFF.out i hi, HMA.out i hi HSD.out])
            have HAS1 := HA
            clear HAS
            go_wp2_with fail
            go_loopw [11] (fun iv wr => iv = .int .i64 0 ∧ AS w wr v14.heap.size N D n d S f) (fun iv _ => 0)
            case atStart => exact ⟨rfl, HAS1.out⟩
            case round =>
              obtain ⟨rfl, hs⟩ := hrel
              have HAS := Lib.hid hs
              clear hs HAS1 HA
              have r1 : wr.cell? ⟨v14.heap.size, 1, none⟩ = some (.int .i64 (D : Int)) := HAS.out.r.cell 1
              have g1 : decide ((0 : Int) < (D : Int)) = true := decide_eq_true (by have := HDD.out; omega)
              have g2 : decide (0 < D) = true := decide_eq_true (by have := HDD.out; omega)
              go_wp2_with fail
              go_loopw [14, 15] (fun lv kv wr => ∃ k : Nat, k ≤ S ∧ kv = .int .i64 (k : Int) ∧ wr.ownsRow (v14.heap.size + 1 + 1 + 1) 3 1 lv ((List.range k).filter (mayB N D n d S)).length (ints (nats ((List.range k).filter (mayB N D n d S)))) ∧ AS w wr v14.heap.size N D n d S f) (fun _ kv _ => S - (intOf kv).toNat)
              case atStart => exact ⟨0, Nat.zero_le _, rfl, World.ownsRow_nil _ _ _ _, HAS.out⟩
              case round =>
                obtain ⟨k, hk, rfl, ho, hs⟩ := hrel
                have HO := Lib.hid ho
                have HA := Lib.hid hs
                clear ho hs
                by_cases hlt : k < S
                · have HLT := Lib.hid hlt
                  have d1 : decide ((k : Int) < (S : Int)) = true := by simpa using hlt
                  have d2 : decide (k < S) = true := by simpa using hlt
                  have k0 : (0 : Int) ≤ (k : Int) := by omega
                  have k1 : (k : Int) < (S : Int) := by omega
                  have k96 : k ≤ 96 := by have := HS.out; omega
                  have c0 := HA.out.row.cell hlt
                  rw [HF.out k hlt] at c0
                  have HFS := Lib.hid (filter_snoc (mayB N D n d S) k)
                  have HFL := Lib.hid (filter_len (mayB N D n d S) k)
                  obtain ⟨L, hL⟩ : ∃ L, (List.range k).filter (mayB N D n d S) = L := ⟨_, rfl⟩
                  rw [hL] at HO HFS HFL
                  clear hL hk hlt
                  obtain ⟨bk, hbk⟩ : ∃ x, mayB N D n d S k = x := ⟨_, rfl⟩
                  rw [hbk] at c0 HFS
                  clear hbk
                  cases bk
                  · have HRR := Lib.hid (show (List.range (k + 1)).filter (mayB N D n d S) = L by rw [HFS.out]; simp)
                    go_wp2_with fail
                    go_roundw
                    case rel => exact ⟨k + 1, HLT.out, by go_num, by rw [HRR.out]; exact HO.out, HA.out⟩
                    case measure => have := HLT.out; simp [intOf]; omega
                  · have HRR := Lib.hid (show (List.range (k + 1)).filter (mayB N D n d S) = L ++ [k] by rw [HFS.out]; simp)
                    have HO2 := Lib.hid (show (wr.alloc (.cells #[.int .i64 (k : Int)] 3)).ownsRow (v14.heap.size + 1 + 1 + 1) 3 1 u14 L.length (ints (nats L)) from HO.out.alloc _)
                    have HN1 := Lib.hid (news_box (W := wr.alloc (.cells #[.int .i64 (k : Int)] 3)) (cs := [.int .i64 (k : Int)]) (Box.made wr 3 #[.int .i64 (k : Int)]))
                    have HL1 := Lib.hid (show L.length + 1 ≤ maxLen ∧ (L.length + 1) * 8 ≤ 140737488355328 by have := HFL.out; unfold maxLen; omega)
                    have HA2 := Lib.hid (HA.out.alloc (.cells #[.int .i64 (k : Int)] 3))
                    go_wp2_with (first
                      | (at_builtin; refine wpList_append_own_at _ rfl _ _ 45 rfl (v14.heap.size + 1 + 1 + 1) 3 i0 (.int .i64 0) 1 8 Try.underlying45 hi hz0 hz1 hz2 rfl (by decide) u14 _ _ rfl HO2.out ⟨wr.heap.size, 0, none⟩ 1 1 [.int .i64 (k : Int)] rfl rfl HN1.out (one_cell _) HL1.out.1 HL1.out.2 HA2.out.size ?_; intro v7 w7 hown7 hgrow7 _ _; have HO7 := Lib.hid hown7; have HA7 := Lib.hid (HA2.out.grown hgrow7 (fun q e => (HO2.out.lt q e).1)); clear hown7 hgrow7)
                      | fail)
                    go_roundw
                    case rel => exact ⟨k + 1, HLT.out, by go_num, by rw [HRR.out, nats_snoc, ints_snoc, List.length_append]; exact HO7.out, HA7.out⟩
                    case measure => have := HLT.out; simp [intOf]; omega
                · obtain rfl : S = k := by omega
                  have d1 : decide ((S : Int) < (S : Int)) = false := by simp
                  have d2 : decide (S < S) = false := by simp
                  obtain ⟨AL, cL, hlv⟩ := own_shape HO.out
                  subst hlv
                  go_wp2_with fail
                  go_ret2
                  exact ⟨_, by rw [HX.out]; rfl, by rw [HR.out]; exact own_ints HO.out (by have := mayL_len N D n d S; have := HS.out; omega), HA.out.bel⟩
      · have HSD := Lib.hid (show D < S by omega)
        have e1 : decide ((S : Int) ≤ (D : Int)) = false := decide_eq_false (by omega)
        have e2 : decide (S ≤ D) = false := by simpa using hSD
        have e3 : decide ((D : Int) < (S : Int)) = true := decide_eq_true (by omega)
        have e4 : decide (D < S) = true := decide_eq_true (by omega)
        clear hSD
        go_loopw [10] (fun iv wr => iv = .int .i64 0 ∧ AS w wr v14.heap.size N D n d S (fun _ => false)) (fun iv _ => 0)
        case atStart => exact ⟨rfl, HAS.out⟩
        case round =>
          obtain ⟨rfl, hs⟩ := hrel
          have HA := Lib.hid hs
          clear hs HAS
          have r1 : wr.cell? ⟨v14.heap.size, 1, none⟩ = some (.int .i64 (D : Int)) := HA.out.r.cell 1
          have g1 : decide ((0 : Int) < (S : Int)) = true := decide_eq_true (by have := HS.out; omega)
          have g2 : decide (0 < S) = true := decide_eq_true (by have := HS.out; omega)
          go_wp2_with fail
          go_loopw [11] (fun iv wr => ∃ (m : Nat) (f : Nat → Bool), m ≤ D ∧ iv = .int .i64 (m : Int) ∧ (∀ i, i < S → (f i = true ↔ ∃ m', m' < m ∧ Hit N D n d S m' S i)) ∧ AS w wr v14.heap.size N D n d S f) (fun iv _ => D - (intOf iv).toNat)
          case atStart => exact ⟨0, _, Nat.zero_le _, rfl, fun i hi => ⟨fun h => by simp at h, fun ⟨m', h, _⟩ => by omega⟩, HA.out⟩
          case round =>
            clear HA r1 g1 g2
            obtain ⟨m, f, hm, rfl, hf, hs⟩ := hrel
            have HFF := Lib.hid hf
            have HA := Lib.hid hs
            clear hf hs
            have r0 : wr.cell? ⟨v14.heap.size, 0, none⟩ = some (.int .i64 (N : Int)) := HA.out.r.cell 0
            have r1 : wr.cell? ⟨v14.heap.size, 1, none⟩ = some (.int .i64 (D : Int)) := HA.out.r.cell 1
            have p0 : wr.cell? ⟨v14.heap.size + 1, 0, none⟩ = some (.int .i64 (n : Int)) := HA.out.p.cell 0
            have p1 : wr.cell? ⟨v14.heap.size + 1, 1, none⟩ = some (.int .i64 (d : Int)) := HA.out.p.cell 1
            by_cases hlt : m < D
            · have HLT := Lib.hid hlt
              have d1 : decide ((m : Int) < (D : Int)) = true := by simpa using hlt
              have d2 : decide (m < D) = true := by simpa using hlt
              have m96 : m ≤ 96 := by have := HS.out; have := HSD.out; omega
              have HB9 := Lib.hid (HLB.out m m96)
              have HSPM := Lib.hid (fun W => HSP.out m W m96)
              have HHN := Lib.hid (fun (K i : Nat) => hit_next (N := N) (D := D) (n := n) (d := d) (S := S) (m := m) (K := K) (i := i))
              have HHS := Lib.hid (fun (K i : Nat) => hit_stop (N := N) (D := D) (n := n) (d := d) (S := S) (m := m) (K := K) (i := i))
              obtain ⟨lo, hlo⟩ : ∃ x, hmI (m * N) S D n d = x := ⟨_, rfl⟩
              obtain ⟨hi9, hhi⟩ : ∃ x : Int, ((fmN (m * N) S D : Nat) : Int) = x := ⟨_, rfl⟩
              rw [hlo, hhi] at HB9 HSPM HHN HHS
              clear hm hlt hlo hhi
              go_wp2_with fail
              refine (HSPM.out _).mono ?_; rintro e v9 ⟨rfl, hb9⟩
              have HA1 := Lib.hid ((HA.out.later hb9).alloc (.cells #[.int .i64 lo, .int .i64 hi9] 52))
              have HXS := Lib.hid (Box.made v9 52 #[.int .i64 lo, .int .i64 hi9])
              have HGX := Lib.hid (HA.out.later hb9).size
              clear hb9 r0 r1 p0 p1
              go_wp2_with fail
              go_loopw [13] (fun jv wx => ∃ (k : Nat) (g : Nat → Bool), k ≤ S ∧ jv = .int .i64 (k : Int) ∧ (∀ i, i < S → (g i = true ↔ (f i = true ∨ Hit N D n d S m k i))) ∧ AS w wx v14.heap.size N D n d S g ∧ Box wx v9.heap.size 52 #[.int .i64 lo, .int .i64 hi9]) (fun jv _ => S - (intOf jv).toNat)
              case atStart => exact ⟨0, f, Nat.zero_le _, rfl, fun i hi => ⟨fun h => .inl h, fun h => by rcases h with h | ⟨j, hj, _⟩; exact h; omega⟩, HA1.out, HXS.out⟩
              case round =>
                clear HA1 HXS
                obtain ⟨k, g, hk, rfl, hg, hs, hx⟩ := hrel
                have HG := Lib.hid hg
                have HA := Lib.hid hs
                have HX9 := Lib.hid hx
                clear hg hs hx
                have x0 : wr.cell? ⟨v9.heap.size, 0, none⟩ = some (.int .i64 lo) := HX9.out.cell 0
                have x1 : wr.cell? ⟨v9.heap.size, 1, none⟩ = some (.int .i64 hi9) := HX9.out.cell 1
                obtain ⟨a, ha⟩ : ∃ a, lo + (k : Int) = a := ⟨_, rfl⟩
                have wa : IntKind.i64.wrap (lo + (k : Int)) = a := by rw [ha]; exact wrap_id (by have := HB9.out; omega) (by have := HS.out; have := HB9.out; omega)
                by_cases hc : k < S ∧ a ≤ hi9
                · have HC := Lib.hid hc
                  have d3 : decide ((k : Int) < (S : Int)) = true := decide_eq_true (by omega)
                  have d4 : decide (k < S) = true := decide_eq_true hc.1
                  have d5 : decide (a ≤ hi9) = true := decide_eq_true hc.2
                  obtain ⟨q1, q2, q3⟩ := tmod_emod (x := a) (S := S) (by have := HS.out; omega)
                  obtain ⟨r, hr⟩ : ∃ r, a.tmod (S : Int) = r := ⟨_, rfl⟩
                  rw [hr] at q1 q2 q3
                  have wr1 : IntKind.i64.wrap r = r := wrap_id (by have := HS.out; omega) (by have := HS.out; omega)
                  obtain ⟨gg, hgg⟩ : ∃ g, r + (S : Int) = g := ⟨_, rfl⟩
                  rw [hgg] at q3
                  have wg : IntKind.i64.wrap (r + (S : Int)) = gg := by rw [hgg]; exact wrap_id (by have := HS.out; omega) (by have := HS.out; omega)
                  have g0 : 0 ≤ gg := by omega
                  have z0 : 0 ≤ a % (S : Int) := Int.emod_nonneg a (show (S : Int) ≠ 0 by have := HS.out; omega)
                  have z1 : a % (S : Int) < (S : Int) := Int.emod_lt_of_pos a (show (0 : Int) < (S : Int) by have := HS.out; omega)
                  obtain ⟨z, hz⟩ := Int.eq_ofNat_of_zero_le z0
                  have HZ := Lib.hid hz
                  rw [hz] at q3 z1
                  have q4 : gg.tmod (S : Int) = (z : Int) := by rw [Int.tmod_eq_emod_of_nonneg g0]; exact q3
                  have wz : IntKind.i64.wrap (z : Int) = (z : Int) := wrap_id (by omega) (by have := HS.out; omega)
                  have s0 : (0 : Int) < (S : Int) := by have := HS.out; omega
                  have s1 : decide ((S : Int) = 0) = false := by simp; have := HS.out; omega
                  have s2 : decide (S = 0) = false := by simp; have := HS.out; omega
                  have zS : z < S := by omega
                  have k2 : (0 : Int) ≤ (z : Int) := by omega
                  have k3 : (z : Int) < (S : Int) := by omega
                  have k96 : k ≤ 96 := by have := HS.out; omega
                  have c0 := HA.out.row.cell zS
                  have c1 := HA.out.row.free z
                  have HAA := Lib.hid ha
                  clear hk hc ha hgg hz q1 q2 z0 z1
                  go_wp2_with fail
                  clear hr wr1 wg q3 q4 wz
                  go_roundw
                  case rel => exact ⟨k + 1, upf g z, HC.out.1, by go_num, fun i hi => by rw [upf_iff, HG.out i hi, HHN.out k i (by rw [HAA.out]; exact HC.out.2), HAA.out, HZ.out]; constructor; rintro ((h | h) | h); exact .inl h; exact .inr (.inl h); exact .inr (.inr (by rw [h])); rintro (h | h | h); exact .inl (.inl h); exact .inl (.inr h); exact .inr (Int.ofNat.inj h).symm, HA.out.put z, HX9.out.far (p := ⟨v14.heap.size + 1 + 1, z, none⟩) (show v9.heap.size ≠ v14.heap.size + 1 + 1 by have := HGX.out; omega) _⟩
                  case measure => have := HC.out.1; simp [intOf]; omega
                · have HST := Lib.hid (fun i => HHS.out k i hk (fun h => hc ⟨h.1, by rw [← ha]; exact h.2⟩))
                  have HN9 := Lib.hid (show ∀ i, i < S → (g i = true ↔ ∃ m', m' < m + 1 ∧ Hit N D n d S m' S i) from fun i hi => by
                    rw [HG.out i hi, HFF.out i hi, HST.out i]
                    constructor
                    · rintro (⟨m', h1, h2⟩ | h)
                      · exact ⟨m', by omega, h2⟩
                      · exact ⟨m, by omega, h⟩
                    · rintro ⟨m', h1, h2⟩
                      rcases Nat.lt_succ_iff_lt_or_eq.1 h1 with h3 | h3
                      · exact .inl ⟨m', h3, h2⟩
                      · subst h3; exact .inr h2)
                  by_cases hkS : k < S
                  · have d3 : decide ((k : Int) < (S : Int)) = true := decide_eq_true (by omega)
                    have d4 : decide (k < S) = true := decide_eq_true hkS
                    have d5 : decide (a ≤ hi9) = false := decide_eq_false (fun h => hc ⟨hkS, h⟩)
                    clear hk hc ha hkS
                    go_wp2_with fail
                    go_roundw
                    case rel => exact ⟨m + 1, g, HLT.out, by go_num, HN9.out, HA.out⟩
                    case measure => have := HLT.out; simp [intOf]; omega
                  · have d3 : decide ((k : Int) < (S : Int)) = false := decide_eq_false (by omega)
                    have d4 : decide (k < S) = false := decide_eq_false hkS
                    clear hk hc ha hkS
                    go_wp2_with fail
                    go_roundw
                    case rel => exact ⟨m + 1, g, HLT.out, by go_num, HN9.out, HA.out⟩
                    case measure => have := HLT.out; simp [intOf]; omega
            · obtain rfl : D = m := by omega
              have d1 : decide ((D : Int) < (D : Int)) = false := by simp
              have d2 : decide (D < D) = false := by simp
              have HF := Lib.hid (show ∀ i, i < S → f i = mayB N D n d S i from fun i hi => by
                rw [Bool.eq_iff_iff, HFF.out i hi, HMI.out i hi])
              have HAS := HA
              clear HA hm hlt
              go_wp2_with fail
              go_loopw [14, 15] (fun lv kv wr => ∃ k : Nat, k ≤ S ∧ kv = .int .i64 (k : Int) ∧ wr.ownsRow (v14.heap.size + 1 + 1 + 1) 3 1 lv ((List.range k).filter (mayB N D n d S)).length (ints (nats ((List.range k).filter (mayB N D n d S)))) ∧ AS w wr v14.heap.size N D n d S f) (fun _ kv _ => S - (intOf kv).toNat)
              case atStart => exact ⟨0, Nat.zero_le _, rfl, World.ownsRow_nil _ _ _ _, HAS.out⟩
              case round =>
                obtain ⟨k, hk, rfl, ho, hs⟩ := hrel
                have HO := Lib.hid ho
                have HA := Lib.hid hs
                clear ho hs
                by_cases hlt : k < S
                · have HLT := Lib.hid hlt
                  have d1 : decide ((k : Int) < (S : Int)) = true := by simpa using hlt
                  have d2 : decide (k < S) = true := by simpa using hlt
                  have k0 : (0 : Int) ≤ (k : Int) := by omega
                  have k1 : (k : Int) < (S : Int) := by omega
                  have k96 : k ≤ 96 := by have := HS.out; omega
                  have c0 := HA.out.row.cell hlt
                  rw [HF.out k hlt] at c0
                  have HFS := Lib.hid (filter_snoc (mayB N D n d S) k)
                  have HFL := Lib.hid (filter_len (mayB N D n d S) k)
                  obtain ⟨L, hL⟩ : ∃ L, (List.range k).filter (mayB N D n d S) = L := ⟨_, rfl⟩
                  rw [hL] at HO HFS HFL
                  clear hL hk hlt
                  obtain ⟨bk, hbk⟩ : ∃ x, mayB N D n d S k = x := ⟨_, rfl⟩
                  rw [hbk] at c0 HFS
                  clear hbk
                  cases bk
                  · have HRR := Lib.hid (show (List.range (k + 1)).filter (mayB N D n d S) = L by rw [HFS.out]; simp)
                    go_wp2_with fail
                    go_roundw
                    case rel => exact ⟨k + 1, HLT.out, by go_num, by rw [HRR.out]; exact HO.out, HA.out⟩
                    case measure => have := HLT.out; simp [intOf]; omega
                  · have HRR := Lib.hid (show (List.range (k + 1)).filter (mayB N D n d S) = L ++ [k] by rw [HFS.out]; simp)
                    have HO2 := Lib.hid (show (wr.alloc (.cells #[.int .i64 (k : Int)] 3)).ownsRow (v14.heap.size + 1 + 1 + 1) 3 1 u14 L.length (ints (nats L)) from HO.out.alloc _)
                    have HN1 := Lib.hid (news_box (W := wr.alloc (.cells #[.int .i64 (k : Int)] 3)) (cs := [.int .i64 (k : Int)]) (Box.made wr 3 #[.int .i64 (k : Int)]))
                    have HL1 := Lib.hid (show L.length + 1 ≤ maxLen ∧ (L.length + 1) * 8 ≤ 140737488355328 by have := HFL.out; unfold maxLen; omega)
                    have HA2 := Lib.hid (HA.out.alloc (.cells #[.int .i64 (k : Int)] 3))
                    go_wp2_with (first
                      | (at_builtin; refine wpList_append_own_at _ rfl _ _ 45 rfl (v14.heap.size + 1 + 1 + 1) 3 i0 (.int .i64 0) 1 8 Try.underlying45 hi hz0 hz1 hz2 rfl (by decide) u14 _ _ rfl HO2.out ⟨wr.heap.size, 0, none⟩ 1 1 [.int .i64 (k : Int)] rfl rfl HN1.out (one_cell _) HL1.out.1 HL1.out.2 HA2.out.size ?_; intro v7 w7 hown7 hgrow7 _ _; have HO7 := Lib.hid hown7; have HA7 := Lib.hid (HA2.out.grown hgrow7 (fun q e => (HO2.out.lt q e).1)); clear hown7 hgrow7)
                      | fail)
                    go_roundw
                    case rel => exact ⟨k + 1, HLT.out, by go_num, by rw [HRR.out, nats_snoc, ints_snoc, List.length_append]; exact HO7.out, HA7.out⟩
                    case measure => have := HLT.out; simp [intOf]; omega
                · obtain rfl : S = k := by omega
                  have d1 : decide ((S : Int) < (S : Int)) = false := by simp
                  have d2 : decide (S < S) = false := by simp
                  obtain ⟨AL, cL, hlv⟩ := own_shape HO.out
                  subst hlv
                  go_wp2_with fail
                  go_ret2
                  exact ⟨_, by rw [HX.out]; rfl, by rw [HR.out]; exact own_ints HO.out (by have := mayL_len N D n d S; have := HS.out; omega), HA.out.bel⟩

end Go.Proofs.Ytmmfmanjajefcaa

/- Layer 7: all sectors at which the runner may stand, as the program has them. -/
import Derived.Test.YtmmfmanjajefcaaHP0
set_option linter.all false
namespace Go.Proofs.Ytmmfmanjajefcaa
open Go.RowKit

/-- the parts at which the runner lags least, if it stands at a sector; and whether it may -/
def clP (k D S : Nat) : Nat := (k * D + S - 1) / S
def mayB (N D n d S k : Nat) : Bool := decide (hmI (clP k D S) S D n d ≤ (k : Int))
set_option maxRecDepth 100000 in
set_option maxHeartbeats 4000000 in
theorem mayStandAt_c (k N D n d S : Nat) (w : World) (hk : k < S) (hS : S ≤ 96) (hn : n ≤ 1000000000) (hD : 0 < D) (hD2 : D ≤ 1000000000) (hd : 0 < d) (hd2 : d ≤ 1000000000) : Calls Try.prog 84 #[.agg #[.int .i64 (N : Int), .int .i64 (D : Int), .int .i64 (n : Int), .int .i64 (d : Int), .int .i64 (S : Int)], .int .i64 (k : Int)] w fun e w' => e = .returned (.bool (mayB N D n d S k)) ∧ Below w.heap.size w w' := by
  obtain ⟨p, hp⟩ : ∃ p, k * D = p := ⟨_, rfl⟩
  have hp2 : p ≤ 96000000000 := by rw [← hp]; exact Nat.le_trans (Nat.mul_le_mul (show k ≤ 96 by omega) hD2) (by decide)
  obtain ⟨q, hq⟩ : ∃ q, (p + S - 1) / S = q := ⟨_, rfl⟩
  have hq2 : q ≤ 96000000200 := by rw [← hq]; exact Nat.le_trans (Nat.div_le_self _ _) (by omega)
  obtain ⟨h, hh⟩ : ∃ h, hmI q S D n d = h := ⟨_, rfl⟩
  have HM := Lib.hid (show mayB N D n d S k = decide (h ≤ (k : Int)) by unfold mayB clP; rw [hp, hq, hh])
  have HH := Lib.hid (fun W => hindmost_c q N D n d S W (by omega) (by omega) hn hD hD2 hd hd2)
  rw [hh] at HH
  have m1 : IntKind.i64.wrap ((k : Int) * (D : Int)) = (p : Int) := by rw [show (k : Int) * (D : Int) = ((k * D : Nat) : Int) by simp, hp]; exact wrap_id (by omega) (by omega)
  obtain ⟨a, ha⟩ : ∃ a, p + S = a := ⟨_, rfl⟩
  obtain ⟨b, hb⟩ : ∃ b, a - 1 = b := ⟨_, rfl⟩
  have w2 : IntKind.i64.wrap ((p : Int) + (S : Int)) = (a : Int) := by rw [show (p : Int) + (S : Int) = (a : Int) by omega]; exact wrap_id (by omega) (by omega)
  have w3 : IntKind.i64.wrap ((a : Int) - 1) = (b : Int) := by rw [show (a : Int) - 1 = (b : Int) by omega]; exact wrap_id (by omega) (by omega)
  have w4 : (b : Int) / (S : Int) = (q : Int) := by rw [← hq, show p + S - 1 = b by omega]; simp
  have w5 : IntKind.i64.wrap (q : Int) = (q : Int) := wrap_id (by omega) (by omega)
  have s0 : (0 : Int) < (S : Int) := by omega
  have s1 : decide ((S : Int) = 0) = false := by simp; omega
  have s2 : decide (S = 0) = false := by simp; omega
  have s3 : (0 : Int) ≤ (b : Int) := by omega
  have HF := Lib.hid (And.intro m1 (And.intro w2 (And.intro w3 (And.intro w4 (And.intro w5 (And.intro s0 (And.intro s1 (And.intro s2 s3))))))))
  clear hk hS hn hD hD2 hd hd2 hp hp2 hq hq2 hh m1 w2 w3 w4 w5 s0 s1 s2 s3 ha hb
  rw [HM.out]
  go_enter Try.func84, Try.ntmps84
  iterate 12 (first | go_values | go_skip | go_guarded | go_step)
  obtain ⟨W1, hW2⟩ : ∃ Wzz, (w.alloc (.cells #[.int .i64 (N : Int), .int .i64 (D : Int), .int .i64 (n : Int), .int .i64 (d : Int), .int .i64 (S : Int)] 94)) = Wzz := ⟨_, rfl⟩
  have B3 := Lib.hid (show Below w.heap.size w W1 by rw [← hW2]; exact ((Below.refl w.heap.size w).alloc (Nat.le_refl _) _))
  have X4 := Lib.hid (show Box W1 (w.heap.size) 94 #[.int .i64 (N : Int), .int .i64 (D : Int), .int .i64 (n : Int), .int .i64 (d : Int), .int .i64 (S : Int)] by rw [← hW2]; exact Box.made w 94 #[.int .i64 (N : Int), .int .i64 (D : Int), .int .i64 (n : Int), .int .i64 (d : Int), .int .i64 (S : Int)])
  rw [hW2]
  clear hW2
  have q6 : W1.cell? ⟨w.heap.size, 0, none⟩ = some (.int .i64 (N : Int)) := X4.out.cell 0
  have q7 : W1.cell? ⟨w.heap.size, 1, none⟩ = some (.int .i64 (D : Int)) := X4.out.cell 1
  have q8 : W1.cell? ⟨w.heap.size, 2, none⟩ = some (.int .i64 (n : Int)) := X4.out.cell 2
  have q9 : W1.cell? ⟨w.heap.size, 3, none⟩ = some (.int .i64 (d : Int)) := X4.out.cell 3
  have q10 : W1.cell? ⟨w.heap.size, 4, none⟩ = some (.int .i64 (S : Int)) := X4.out.cell 4
  obtain ⟨m1, w2, w3, w4, w5, s0, s1, s2, s3⟩ := HF.out
  go_wp2_with fail
  clear m1 w2 w3 w4 w5 s0 s1 s2 s3
  refine (HH.out _).mono ?_; rintro e v1 ⟨rfl, hb1⟩
  have HB1 := Lib.hid (B3.out.trans (hb1.mono B3.out.size))
  clear q6 q7 q8 q9 q10 hb1
  go_wp2_with fail
  go_ret
  exact ⟨rfl, HB1.out⟩

theorem own_below {w w' : World} {base : Nat} {e : TypeId} {size : Nat} {v : Value} {n : Nat} {xs : List Value} (h : w.ownsRow base e size v n xs) (hb : Below w.heap.size w w') : w'.ownsRow base e size v n xs := by
  refine ⟨h.1, ?_⟩
  rcases h.2 with ⟨h1, h2⟩ | ⟨ge, cap, cur, h3, h4, h5, h6, h7, h8, h9⟩
  · left; exact ⟨h1, h2⟩
  · right; exact ⟨ge, cap, cur, h3, h4, Box.later (w := w) (t := e) h5 hb, h6, h7, h8, h9⟩
theorem filter_snoc (p : Nat → Bool) (k : Nat) : (List.range (k + 1)).filter p = (List.range k).filter p ++ (if p k then [k] else []) := by
  rw [List.range_succ, List.filter_append]
  cases h : p k <;> simp [h]
theorem filter_len (p : Nat → Bool) (k : Nat) : ((List.range k).filter p).length ≤ k := by
  have := List.length_filter_le p (List.range k)
  simpa using this

set_option maxRecDepth 100000 in
set_option maxHeartbeats 4000000 in
theorem chosen_c (S : Nat) (rv : Value) (p : Nat → Bool) (w : World) (hS : S ≤ 96) (hc : ∀ (W : World) (k : Nat), k < S → Calls Try.prog 84 #[rv, .int .i64 (k : Int)] W fun e w' => e = .returned (.bool (p k)) ∧ Below W.heap.size W w') :
    Calls Try.prog 83 #[.int .i64 (S : Int), .func (.func 84) #[rv] #[]] w fun e w' => ∃ v, e = .returned v ∧ w'.ownsRow w.heap.size 3 1 v ((List.range S).filter p).length (ints (nats ((List.range S).filter p))) ∧ Below w.heap.size w w' := by
  have HC := Lib.hid hc
  have HS := Lib.hid hS
  obtain ⟨i0, hi, hz0, hz1, hz2⟩ : ∃ i, Try.prog.info? 3 = some i ∧ i.zero = some (.int .i64 0) ∧ i.size = 1 ∧ i.bytes = 8 := ⟨_, rfl, rfl, rfl, rfl⟩
  clear hc hS
  go_enter Try.func83, Try.ntmps83
  go_wp2_with fail
  go_loopw [5, 8] (fun lv kv wr => ∃ k : Nat, k ≤ S ∧ kv = .int .i64 (k : Int) ∧ wr.ownsRow w.heap.size 3 1 lv ((List.range k).filter p).length (ints (nats ((List.range k).filter p))) ∧ Below w.heap.size w wr) (fun _ kv _ => S - (intOf kv).toNat)
  case atStart => exact ⟨0, Nat.zero_le _, rfl, World.ownsRow_nil _ _ _ _, Below.refl _ _⟩
  case round =>
    obtain ⟨k, hk, rfl, ho, hb⟩ := hrel
    have HO := Lib.hid ho
    have HB := Lib.hid hb
    clear ho hb
    by_cases hlt : k < S
    · have HLT := Lib.hid hlt
      have d1 : decide ((k : Int) < (S : Int)) = true := by simpa using hlt
      have d2 : decide (k < S) = true := by simpa using hlt
      have k96 : k ≤ 96 := by have := HS.out; omega
      have HFS := Lib.hid (filter_snoc p k)
      have HFL := Lib.hid (filter_len p k)
      obtain ⟨L, hL⟩ : ∃ L, (List.range k).filter p = L := ⟨_, rfl⟩
      rw [hL] at HO HFS HFL
      clear hL hk hlt
      go_wp2_with fail
      refine (HC.out _ k HLT.out).mono ?_; rintro e v1 ⟨rfl, hb1⟩
      have HO1 := Lib.hid (show v1.ownsRow w.heap.size 3 1 u5 L.length (ints (nats L)) from own_below HO.out hb1)
      have HB1 := Lib.hid (HB.out.trans (hb1.mono HB.out.size))
      clear hb1
      cases hpk : p k
      · have HR := Lib.hid (show (List.range (k + 1)).filter p = L by rw [HFS.out, hpk]; simp)
        clear hpk
        go_wp2_with fail
        go_roundw
        case rel => exact ⟨k + 1, HLT.out, by go_num, by rw [HR.out]; exact HO1.out, HB1.out⟩
        case measure => have := HLT.out; simp [intOf]; omega
      · have HR := Lib.hid (show (List.range (k + 1)).filter p = L ++ [k] by rw [HFS.out, hpk]; simp)
        clear hpk
        have HO2 := Lib.hid (show (v1.alloc (.cells #[.int .i64 (k : Int)] 3)).ownsRow w.heap.size 3 1 u5 L.length (ints (nats L)) from HO1.out.alloc _)
        have HN1 := Lib.hid (news_box (W := v1.alloc (.cells #[.int .i64 (k : Int)] 3)) (cs := [.int .i64 (k : Int)]) (Box.made v1 3 #[.int .i64 (k : Int)]))
        have HL1 := Lib.hid (show L.length + 1 ≤ maxLen ∧ (L.length + 1) * 8 ≤ 140737488355328 by have := HFL.out; unfold maxLen; omega)
        have HB2 := Lib.hid (HB1.out.alloc HB1.out.size (.cells #[.int .i64 (k : Int)] 3))
        go_wp2_with (first
          | (at_builtin; refine wpList_append_own_at _ rfl _ _ 45 rfl w.heap.size 3 i0 (.int .i64 0) 1 8 Try.underlying45 hi hz0 hz1 hz2 rfl (by decide) u5 _ _ rfl HO2.out ⟨v1.heap.size, 0, none⟩ 1 1 [.int .i64 (k : Int)] rfl rfl HN1.out (one_cell _) HL1.out.1 HL1.out.2 HB2.out.size ?_; intro v7 w7 hown7 hgrow7 _ _; have HO7 := Lib.hid hown7; have HB7 := Lib.hid (HB2.out.grown hgrow7 HB2.out.size (fun q e => (HO2.out.lt q e).1)); clear hown7 hgrow7)
          | fail)
        go_roundw
        case rel => exact ⟨k + 1, HLT.out, by go_num, by rw [HR.out, nats_snoc, ints_snoc, List.length_append]; exact HO7.out, HB7.out⟩
        case measure => have := HLT.out; simp [intOf]; omega
    · obtain rfl : k = S := by omega
      have d1 : decide ((k : Int) < (k : Int)) = false := by simp
      have d2 : decide (k < k) = false := by simp
      go_wp2_with fail
      go_ret
      exact ⟨_, rfl, HO.out, HB.out⟩
end Go.Proofs.Ytmmfmanjajefcaa

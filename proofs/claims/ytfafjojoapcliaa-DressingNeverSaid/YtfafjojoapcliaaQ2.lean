/- Small functions of plans: whether all numbers are within bounds, sums, how many first cells there are. -/
import Derived.Test.YtfafjojoapcliaaQ1
namespace Go.Proofs.Ytfafjojoapcliaa
open Go.RowKit

set_option maxHeartbeats 1000000 in
theorem allWithin_c (l : List Int) (most : Int) (v : Value) (w : World) (h : Ints w w.heap.size v l) :
    Calls Try.prog 49 #[v, .int .i64 most] w fun e w' => e = .returned (.bool (cntB l most)) ∧ w = w' := by
  obtain ⟨_, A, c, rfl, hcap, hcell⟩ := h
  go_enter Try.func49, Try.ntmps49
  go_wp2_with fail
  go_loopw [9] (fun i wr => ∃ k : Nat, k ≤ l.length ∧ i = .int .i64 (k : Int) ∧ cntB (l.take k) most = true ∧ w = wr) (fun i _ => l.length - (intOf i).toNat)
  case atStart => exact ⟨0, Nat.zero_le _, rfl, rfl, rfl⟩
  case round =>
    obtain ⟨k, hk, rfl, hall, rfl⟩ := hrel
    have Hall := Lib.hid hall
    clear hall
    by_cases hlt : k < l.length
    · obtain ⟨b, off, rfl, hbB, hcc⟩ := hcell (by omega)
      have q0 := hcc k hlt
      have hd : decide ((k : Int) < (l.length : Int)) = true := by simpa using hlt
      have Hs := Lib.hid (cntB_snoc l most k hlt)
      have Hf := Lib.hid (cntB_false l most k hlt)
      clear hcell hcc
      by_cases c1 : nth l k < 0
      · have d1 : decide (nth l k < 0) = true := by simpa using c1
        have Hn := Lib.hid (Hf.out (by rw [inB_not]; omega))
        go_wp2_with fail
        go_ret
        exact ⟨ret_bool Hn.out.symm, rfl⟩
      have d1 : decide (nth l k < 0) = false := by simpa using c1
      by_cases c2 : most < nth l k
      · have d2 : decide (most < nth l k) = true := by simpa using c2
        have Hn := Lib.hid (Hf.out (by rw [inB_not]; omega))
        go_wp2_with fail
        go_ret
        exact ⟨ret_bool Hn.out.symm, rfl⟩
      have d2 : decide (most < nth l k) = false := by simpa using c2
      have Hy := Lib.hid (show inB (nth l k) 0 most = true by rw [inB_iff]; omega)
      go_wp2_with fail
      go_roundw
      case rel => exact ⟨k + 1, by omega, by go_num, by rw [Hs.out, Hall.out, Hy.out]; rfl, trivial⟩
      case measure => simp [intOf]; omega
    · obtain rfl : k = l.length := by omega
      have hd : decide ((l.length : Int) < (l.length : Int)) = false := by simp
      have Hy := Lib.hid (show cntB l most = true by rw [← Hall.out, List.take_length])
      clear hcell
      go_wp2_with fail
      go_ret
      exact ⟨ret_bool Hy.out.symm, rfl⟩

set_option maxHeartbeats 2000000 in
theorem sums_c (l : List Int) (most : Int) (v : Value) (w : World) (h : Ints w w.heap.size v l) (hl : l.length ≤ 1000) (hm : 0 ≤ most) (hm2 : most ≤ 1000000000) (hc : cntB l most = true) :
    Calls Try.prog 50 #[v] w fun e w' => e = .returned (.slice (some ⟨w.heap.size, 0, none⟩) (l.length + 1) (l.length + 1)) ∧ Row w' w.heap.size (sumsL l) ∧ Below w.heap.size w w' := by
  obtain ⟨_, A, c, rfl, hcap, hcell⟩ := h
  have hmk := mkInts1 w l.length (by omega)
  have hw1 : IntKind.i64.wrap ((l.length : Int) + 1) = (l.length : Int) + 1 := wrap_id (by omega) (by omega)
  have Hc := Lib.hid hc
  clear hc
  go_enter Try.func50, Try.ntmps50
  go_wp2_with fail
  go_loopw [12] (fun i wr => ∃ k : Nat, k ≤ l.length ∧ i = .int .i64 (k : Int) ∧ Row wr w.heap.size (sumsTo l k) ∧ Below w.heap.size w wr) (fun i _ => l.length - (intOf i).toNat)
  case atStart => exact ⟨0, Nat.zero_le _, rfl, Row.made _ _, (Below.refl _ _).alloc (Nat.le_refl _) _⟩
  case round =>
    clear hmk
    obtain ⟨k, hk, rfl, hrow, hbr⟩ := hrel
    by_cases hlt : k < l.length
    · obtain ⟨b, off, rfl, hbB, hcc⟩ := hcell (by omega)
      have x0 := keepd (hcc k hlt) hbr hbB
      have hd : decide ((k : Int) < (l.length : Int)) = true := by simpa using hlt
      have r0 : wr.cell? ⟨w.heap.size, k, none⟩ = some (.int .i64 (pre l k)) := by
        rw [hrow.cell (by rw [sumsTo_len]; omega), sumsTo_nth l k k hk (Nat.le_refl _)]
      have r1 : wr.cell? ⟨w.heap.size, k + 1, none⟩ = some (.int .i64 (nth (sumsTo l k) (k + 1))) := hrow.cell (by rw [sumsTo_len]; omega)
      have r2 := hrow.free (k + 1)
      have i0 : (0 : Int) ≤ (k : Int) + 1 := by omega
      have i1 : (k : Int) + 1 < (l.length : Int) + 1 := by omega
      have i2 : ((k : Int) + 1).toNat = k + 1 := by omega
      have w1 : IntKind.i64.wrap ((k : Int) + 1) = (k : Int) + 1 := wrap_id (by omega) (by omega)
      have b1 := (pre_bd Hc.out hm (k + 1))
      have b2 : ((k + 1 : Nat) : Int) * most ≤ 1000 * 1000000000 := (mul_bd (a := ((k + 1 : Nat) : Int)) (b := most) (m := 1000) (n := 1000000000) (by omega) hm (by omega) hm2).2
      have w2 : IntKind.i64.wrap (pre l k + nth l k) = pre l k + nth l k := wrap_id (by rw [pre] at b1; omega) (by rw [pre] at b1; omega)
      have Hput := Lib.hid (hrow.put (k + 1) (pre l k + nth l k))
      have Hset := Lib.hid (show (sumsTo l k).set (k + 1) (pre l k + nth l k) = sumsTo l (k + 1) by rw [sumsTo, sumsTo_nth l k k hk (Nat.le_refl _)])
      clear hcell hcc b1 b2
      go_wp2_with fail
      go_roundw
      case rel => exact ⟨k + 1, by omega, by go_num, by rw [← Hset.out]; exact Hput.out, hbr.setCell (Nat.le_refl _) _⟩
      case measure => simp [intOf]; omega
    · obtain rfl : k = l.length := by omega
      have hd : decide ((l.length : Int) < (l.length : Int)) = false := by simp
      clear hcell
      go_wp2_with fail
      go_ret
      exact ⟨rfl, hrow, hbr⟩

set_option maxHeartbeats 1000000 in
theorem rsum_c (l : List Int) (most : Int) (v : Value) (w : World) (h : Ints w w.heap.size v l) (hl : l.length ≤ 1000) (hm : 0 ≤ most) (hm2 : most ≤ 1000000000) (hc : cntB l most = true) :
    Calls Try.prog 32 #[v] w fun e w' => e = .returned (.int .i64 (pre l l.length)) ∧ w = w' := by
  obtain ⟨_, A, c, rfl, hcap, hcell⟩ := h
  have Hc := Lib.hid hc
  clear hc
  go_enter Try.func32, Try.ntmps32
  go_wp2_with fail
  go_loopw [3, 4] (fun s i wr => ∃ k : Nat, k ≤ l.length ∧ s = .int .i64 (pre l k) ∧ i = .int .i64 (k : Int) ∧ w = wr) (fun _ i _ => l.length - (intOf i).toNat)
  case atStart => exact ⟨0, Nat.zero_le _, rfl, rfl, rfl⟩
  case round =>
    obtain ⟨k, hk, rfl, rfl, rfl⟩ := hrel
    by_cases hlt : k < l.length
    · obtain ⟨b, off, rfl, hbB, hcc⟩ := hcell (by omega)
      have q0 := hcc k hlt
      have hd : decide ((k : Int) < (l.length : Int)) = true := by simpa using hlt
      have b1 := (pre_bd Hc.out hm (k + 1))
      have b2 : ((k + 1 : Nat) : Int) * most ≤ 1000 * 1000000000 := (mul_bd (a := ((k + 1 : Nat) : Int)) (b := most) (m := 1000) (n := 1000000000) (by omega) hm (by omega) hm2).2
      have w2 : IntKind.i64.wrap (pre l k + nth l k) = pre l k + nth l k := wrap_id (by rw [pre] at b1; omega) (by rw [pre] at b1; omega)
      clear hcell hcc b1 b2
      go_wp2_with fail
      go_roundw
      case rel => exact ⟨k + 1, by omega, by rw [pre], by go_num, trivial⟩
      case measure => simp [intOf]; omega
    · obtain rfl : k = l.length := by omega
      have hd : decide ((l.length : Int) < (l.length : Int)) = false := by simp
      clear hcell
      go_wp2_with fail
      go_ret
      exact ⟨rfl, rfl⟩

set_option maxHeartbeats 1000000 in
theorem counts_c (l : List Int) (n : Int) (v : Value) (w : World) (h : Ints w w.heap.size v l) :
    Calls Try.prog 62 #[v, .int .i64 n] w fun e w' => e = .returned (.bool (decide ((l.length : Int) = n) && cntB l 100000)) ∧ w = w' := by
  obtain ⟨_, A, c, rfl, hcap, hcell⟩ := h
  by_cases hn : (l.length : Int) = n
  case neg =>
    have hne : ((l.length : Int) != n) = true := by simp [hn]
    have H := Lib.hid (show (decide ((l.length : Int) = n) && cntB l 100000) = false by simp [hn])
    clear hn hcell
    go_enter Try.func62, Try.ntmps62
    go_wp2_with fail
    go_ret
    exact ⟨ret_bool H.out.symm, rfl⟩
  subst hn
  have hne : ((l.length : Int) != (l.length : Int)) = false := by simp
  have H := Lib.hid (show (decide ((l.length : Int) = (l.length : Int)) && cntB l 100000) = cntB l 100000 by simp)
  go_enter Try.func62, Try.ntmps62
  go_wp2_with fail
  go_loopw [5] (fun i wr => ∃ k : Nat, k ≤ l.length ∧ i = .int .i64 (k : Int) ∧ cntB (l.take k) 100000 = true ∧ w = wr) (fun i _ => l.length - (intOf i).toNat)
  case atStart => exact ⟨0, Nat.zero_le _, rfl, rfl, rfl⟩
  case round =>
    obtain ⟨k, hk, rfl, hall, rfl⟩ := hrel
    have Hall := Lib.hid hall
    clear hall
    by_cases hlt : k < l.length
    · obtain ⟨b, off, rfl, hbB, hcc⟩ := hcell (by omega)
      have q0 := hcc k hlt
      have hd : decide ((k : Int) < (l.length : Int)) = true := by simpa using hlt
      have Hs := Lib.hid (cntB_snoc l 100000 k hlt)
      have Hf := Lib.hid (cntB_false l 100000 k hlt)
      clear hcell hcc
      cases hq : inB (nth l k) 0 100000
      · have Hn := Lib.hid (Hf.out hq)
        have Hq := Lib.hid hq
        clear hq
        go_wp2_with fail
        refine (rwithin_b _ _ _ false Hq.out _).mono ?_; rintro e w' ⟨rfl, rfl⟩
        go_wp2_with fail
        go_ret
        exact ⟨ret_bool (by rw [H.out, Hn.out]), rfl⟩
      · have Hq := Lib.hid hq
        clear hq
        go_wp2_with fail
        refine (rwithin_b _ _ _ true Hq.out _).mono ?_; rintro e w' ⟨rfl, rfl⟩
        go_wp2_with fail
        go_roundw
        case rel => exact ⟨k + 1, by omega, by go_num, by rw [Hs.out, Hall.out, Hq.out]; rfl, trivial⟩
        case measure => simp [intOf]; omega
    · obtain rfl : k = l.length := by omega
      have hd : decide ((l.length : Int) < (l.length : Int)) = false := by simp
      have Hy := Lib.hid (show cntB l 100000 = true by rw [← Hall.out, List.take_length])
      clear hcell
      go_wp2_with fail
      go_ret
      exact ⟨ret_bool (by rw [H.out, Hy.out]), rfl⟩

/-- how many first cells a task has -/
def firsts (t : Tk) : Int := (t.need.length : Int) - t.wide + 1

set_option maxHeartbeats 1000000 in
theorem firstCells_c (t : Tk) (v : Value) (w : World) (h : IsTask w w.heap.size v t) (hs : szB t = true) :
    Calls Try.prog 31 #[v] w fun e w' => e = .returned (.int .i64 (firsts t)) ∧ Below w.heap.size w w' := by
  obtain ⟨s, rfl, A, c, rfl, hcap, hcell⟩ := h
  rw [szB_iff] at hs
  have hB1 : ∀ o : Obj, Below w.heap.size w (w.alloc o) := fun o => (Below.refl _ _).alloc (Nat.le_refl _) o
  have w1 : IntKind.i64.wrap ((t.need.length : Int) - t.wide) = (t.need.length : Int) - t.wide := wrap_id (by omega) (by omega)
  have w2 : IntKind.i64.wrap ((t.need.length : Int) - t.wide + 1) = (t.need.length : Int) - t.wide + 1 := wrap_id (by omega) (by omega)
  clear hcell hs
  go_enter Try.func31, Try.ntmps31
  go_wp2_with fail
  go_ret
  exact ⟨rfl, hB1 _⟩

set_option maxHeartbeats 1000000 in
theorem rFirsts_c (t : Tk) (v : Value) (w : World) (h : IsTask w w.heap.size v t) (hs : szB t = true) :
    Calls Try.prog 45 #[v] w fun e w' => e = .returned (.int .i64 (firsts t)) ∧ Below w.heap.size w w' := by
  obtain ⟨s, rfl, A, c, rfl, hcap, hcell⟩ := h
  rw [szB_iff] at hs
  have hB1 : ∀ o : Obj, Below w.heap.size w (w.alloc o) := fun o => (Below.refl _ _).alloc (Nat.le_refl _) o
  have w1 : IntKind.i64.wrap ((t.need.length : Int) - t.wide) = (t.need.length : Int) - t.wide := wrap_id (by omega) (by omega)
  have w2 : IntKind.i64.wrap ((t.need.length : Int) - t.wide + 1) = (t.need.length : Int) - t.wide + 1 := wrap_id (by omega) (by omega)
  clear hcell hs
  go_enter Try.func45, Try.ntmps45
  go_wp2_with fail
  go_ret
  exact ⟨rfl, hB1 _⟩

end Go.Proofs.Ytfafjojoapcliaa

/- Layer 6, base: lists of numbers and of truth values in memory. -/
import Derived.Test.YtcajlbedbecmoaaBase
import Derived.Laws.MakeOwn
namespace Go.Proofs.Ytcajlbedbecmoaa
open Go.RowKit

theorem Ints.later {w w1 : World} {v : Value} {l : List Int} (h : Ints w w.heap.size v l) (hb : Below w.heap.size w w1) : Ints w1 w1.heap.size v l := h.mono hb hb.size
def allB (l : List Int) (a b : Int) : Bool := l.all fun x => inB x a b
theorem allB_snoc (l : List Int) (a b : Int) (k : Nat) (h : k < l.length) : allB (l.take (k + 1)) a b = (allB (l.take k) a b && inB (nth l k) a b) := by
  unfold allB nth
  rw [List.take_succ_eq_append_getElem h, List.all_append]
  simp [h]
theorem allB_false (l : List Int) (a b : Int) (k : Nat) (h : k < l.length) (hf : inB (nth l k) a b = false) : allB l a b = false := by
  unfold allB nth at *
  rw [List.all_eq_false]
  exact ⟨l[k], List.getElem_mem h, by simpa [h] using hf⟩
theorem allB_nth {l : List Int} {a b : Int} (h : allB l a b = true) {k : Nat} (hk : k < l.length) : a ≤ nth l k ∧ nth l k ≤ b := by
  cases hq : inB (nth l k) a b
  · rw [allB_false l a b k hk hq] at h; cases h
  · exact inB_iff.1 hq
theorem nth_take (l : List Int) (j k : Nat) (h : j < k) : nth (l.take k) j = nth l j := by
  unfold nth
  rw [List.getD_eq_getElem?_getD, List.getD_eq_getElem?_getD, List.getElem?_take_of_lt h]
theorem nth_mem {l : List Int} {k : Nat} (h : k < l.length) : nth l k ∈ l := by
  unfold nth
  rw [List.getD_eq_getElem?_getD, List.getElem?_eq_getElem h]
  exact List.getElem_mem h
theorem mem_nth {l : List Int} {x : Int} (h : x ∈ l) : ∃ k, k < l.length ∧ nth l k = x := by
  obtain ⟨k, hk, rfl⟩ := List.getElem_of_mem h
  exact ⟨k, hk, by unfold nth; rw [List.getD_eq_getElem?_getD, List.getElem?_eq_getElem hk]; rfl⟩

/-! ### truth values -/
def bls (l : List Bool) : List Value := l.map Value.bool
def nthb (l : List Bool) (k : Nat) : Bool := l.getD k false
theorem bls_len (l : List Bool) : (bls l).length = l.length := by simp [bls]
theorem bls_at (l : List Bool) (k : Nat) (h : k < l.length) : (bls l)[k]? = some (.bool (nthb l k)) := by
  unfold bls nthb
  rw [List.getElem?_map, List.getD_eq_getElem?_getD, List.getElem?_eq_getElem h]
  rfl
theorem bls_snoc (l : List Bool) (x : Bool) : bls (l ++ [x]) = bls l ++ [.bool x] := by simp [bls]
/-- a slice of truth values in memory, below block B -/
def Bs (w : World) (B : Nat) (v : Value) (xs : List Bool) : Prop :=
  ∃ A c, v = .slice A xs.length c ∧ xs.length ≤ c ∧ (0 < xs.length → ∃ b off, A = some ⟨b, off, none⟩ ∧ b < B ∧ ∀ k, k < xs.length → w.cell? ⟨b, off + k, none⟩ = some (.bool (nthb xs k)))
theorem Bs.mono {w w' : World} {B B' : Nat} {v : Value} {xs : List Bool} (h : Bs w B v xs) (hb : Below B w w') (hB : B ≤ B') : Bs w' B' v xs := by
  obtain ⟨A, c, rfl, h2, h3⟩ := h
  refine ⟨A, c, rfl, h2, fun hp => ?_⟩
  obtain ⟨b, off, rfl, hlt, hc⟩ := h3 hp
  exact ⟨b, off, rfl, by omega, fun k hk => (hb.cell (p := ⟨b, off + k, none⟩) hlt).trans (hc k hk)⟩
theorem Bs.later {w w1 : World} {v : Value} {l : List Bool} (h : Bs w w.heap.size v l) (hb : Below w.heap.size w w1) : Bs w1 w1.heap.size v l := h.mono hb hb.size
theorem Bs.nil (w : World) (B : Nat) : Bs w B (.slice none 0 0) [] := ⟨none, 0, rfl, Nat.le_refl _, fun h => by simp at h⟩

/-- a row of truth values that a call has made itself -/
def RowB (w : World) (g : Nat) (l : List Bool) : Prop := Box w g 4 (bls l).toArray
theorem RowB.cell {w : World} {g : Nat} {l : List Bool} (h : RowB w g l) {k : Nat} (hk : k < l.length) : w.cell? ⟨g, k, none⟩ = some (.bool (nthb l k)) := by
  have hc := Box.cell (w := w) (t := 4) h k
  rw [hc, List.getElem?_toArray, bls_at l k hk]
theorem RowB.free {w : World} {g : Nat} {l : List Bool} (h : RowB w g l) (k : Nat) : w.frozen? ⟨g, k, none⟩ = false := Box.free (w := w) (t := 4) h k
theorem RowB.lt {w : World} {g : Nat} {l : List Bool} (h : RowB w g l) : g < w.heap.size := Box.lt (w := w) (t := 4) h
theorem RowB.put {w : World} {g : Nat} {l : List Bool} (h : RowB w g l) (k : Nat) (x : Bool) : RowB (w.setCell ⟨g, k, none⟩ (.bool x)) g (l.set k x) := by
  have e := Box.put (w := w) (t := 4) h k (.bool x)
  rw [List.setIfInBounds_toArray] at e
  unfold RowB
  rw [show bls (l.set k x) = (bls l).set k (.bool x) by unfold bls; rw [List.map_set]]
  exact e
theorem RowB.made (w : World) (n : Nat) : RowB (w.alloc (.cells (Array.replicate n (.bool false)) 4)) w.heap.size (List.replicate n false) := by
  have e := Box.made w 4 (Array.replicate n (.bool false))
  unfold RowB
  rw [show (bls (List.replicate n false)).toArray = Array.replicate n (Value.bool false) by simp [bls]]
  exact e
theorem RowB.below {w w' : World} {g B : Nat} {l : List Bool} (h : RowB w g l) (hb : Below B w w') (hg : g < B) : RowB w' g l := Box.below (w := w) (t := 4) h hb hg
theorem RowB.bs {w : World} {g c B : Nat} {l : List Bool} (h : RowB w g l) (hB : w.heap.size ≤ B) (hc : l.length ≤ c) : Bs w B (.slice (some ⟨g, 0, none⟩) l.length c) l :=
  ⟨_, _, rfl, hc, fun _ => ⟨g, 0, rfl, Nat.lt_of_lt_of_le h.lt hB, fun k hk => by rw [Nat.zero_add]; exact h.cell hk⟩⟩
set_option maxRecDepth 100000 in
theorem mkBools (w : World) (n : Nat) (hn : n ≤ 100000000) : (Instr.makeSlice 62 (.int .i64 (n : Int)) (.int .i64 (n : Int))).run Try.prog w = .ok (.slice (some ⟨w.heap.size, 0, none⟩) n n) (w.alloc (.cells (Array.replicate n (Value.bool false)) 4)) := by
  obtain ⟨i0, hi, hz0, hz1, hz2⟩ : ∃ i, Try.prog.info? 4 = some i ∧ i.zero = some (.bool false) ∧ i.size = 1 ∧ i.bytes = 1 := ⟨_, rfl, rfl, rfl, rfl⟩
  have hr := run_make (P := Try.prog) w 62 4 i0 (.bool false) Try.underlying62 hi hz0 .i64 .i64 n n (by omega) (Int.le_refl _) (by rw [hz2]; omega) (by omega)
  simp only [Int.toNat_natCast] at hr
  rw [hr, hz1]
  have e : madeCells (Value.bool false).cells (n * 1) = Array.replicate n (Value.bool false) := by
    apply Array.toList_inj.1
    rw [Nat.mul_one]
    exact (toList_madeCells_one _ n).trans (by simp)
  rw [e]
/-- what the call itself owns is a slice of truth values -/
theorem bools_own {w : World} {base B : Nat} {e : TypeId} {v : Value} {l : List Bool} (h : w.ownsRow base e 1 v l.length (bls l)) (hB : w.heap.size ≤ B) : Bs w B v l := by
  obtain ⟨h1, h2⟩ := h
  rcases h2 with ⟨rfl, h2⟩ | ⟨g, cap, cur, rfl, h4, h5, h6, h7, h8, h9⟩
  · exact ⟨none, 0, by rw [h2], by omega, fun h => by omega⟩
  · refine ⟨_, _, rfl, h6, fun hp => ⟨g, 0, rfl, Nat.lt_of_lt_of_le (Box.lt (w := w) (t := e) h5) hB, fun k hk => ?_⟩⟩
    have hc := Box.cell (w := w) (t := e) h5 k
    rw [Nat.zero_add, hc]
    have e1 := bls_at l k hk
    rw [← h9, List.getElem?_take_of_lt (by omega)] at e1
    simpa using e1

set_option maxHeartbeats 1000000 in
theorem isFromTo_c (n a b : Int) (w : World) :
    Calls Try.prog 56 #[.int .i64 n, .int .i64 a, .int .i64 b] w fun e w' => e = .returned (.bool (inB n a b)) ∧ w = w' := by
  by_cases h1 : a ≤ n
  · have H := Lib.hid (show inB n a b = decide (n ≤ b) by simp [inB, h1])
    have e1 : decide (a ≤ n) = true := by simpa using h1
    go_enter Try.func56, Try.ntmps56
    go_wp2
    go_ret
    exact ⟨ret_bool H.out.symm, rfl⟩
  · have H := Lib.hid (show inB n a b = false by simp [inB, h1])
    have e1 : decide (a ≤ n) = false := by simpa using h1
    go_enter Try.func56, Try.ntmps56
    go_wp2
    go_ret
    exact ⟨ret_bool H.out.symm, rfl⟩
theorem isFromTo_b (n a b : Int) (r : Bool) (h : inB n a b = r) (w : World) : Calls Try.prog 56 #[.int .i64 n, .int .i64 a, .int .i64 b] w fun e w' => e = .returned (.bool r) ∧ w = w' :=
  (isFromTo_c n a b w).mono fun _ _ ⟨h1, h2⟩ => ⟨h1.trans (ret_bool h), h2⟩
set_option maxHeartbeats 1000000 in
theorem rwithin_c (n a b : Int) (w : World) :
    Calls Try.prog 58 #[.int .i64 n, .int .i64 a, .int .i64 b] w fun e w' => e = .returned (.bool (inB n a b)) ∧ w = w' := by
  by_cases h1 : a ≤ n
  · have H := Lib.hid (show inB n a b = decide (n ≤ b) by simp [inB, h1])
    have e1 : decide (a ≤ n) = true := by simpa using h1
    go_enter Try.func58, Try.ntmps58
    go_wp2
    go_ret
    exact ⟨ret_bool H.out.symm, rfl⟩
  · have H := Lib.hid (show inB n a b = false by simp [inB, h1])
    have e1 : decide (a ≤ n) = false := by simpa using h1
    go_enter Try.func58, Try.ntmps58
    go_wp2
    go_ret
    exact ⟨ret_bool H.out.symm, rfl⟩
theorem rwithin_b (n a b : Int) (r : Bool) (h : inB n a b = r) (w : World) : Calls Try.prog 58 #[.int .i64 n, .int .i64 a, .int .i64 b] w fun e w' => e = .returned (.bool r) ∧ w = w' :=
  (rwithin_c n a b w).mono fun _ _ ⟨h1, h2⟩ => ⟨h1.trans (ret_bool h), h2⟩

set_option maxHeartbeats 1000000 in
theorem allFromTo_c (l : List Int) (a b : Int) (v : Value) (w : World) (h : Ints w w.heap.size v l) :
    Calls Try.prog 99 #[v, .int .i64 a, .int .i64 b] w fun e w' => e = .returned (.bool (allB l a b)) ∧ w = w' := by
  obtain ⟨_, A, c, rfl, hcap, hcell⟩ := h
  go_enter Try.func99, Try.ntmps99
  go_wp2_with fail
  go_loopw [11] (fun i wr => ∃ k : Nat, k ≤ l.length ∧ i = .int .i64 (k : Int) ∧ allB (l.take k) a b = true ∧ w = wr) (fun i _ => l.length - (intOf i).toNat)
  case atStart => exact ⟨0, Nat.zero_le _, rfl, rfl, rfl⟩
  case round =>
    obtain ⟨k, hk, rfl, hall, rfl⟩ := hrel
    have Hall := Lib.hid hall
    clear hall
    by_cases hlt : k < l.length
    · obtain ⟨b0, off, rfl, hbB, hcc⟩ := hcell (by omega)
      have q0 := hcc k hlt
      have hd : decide ((k : Int) < (l.length : Int)) = true := by simpa using hlt
      have Hs := Lib.hid (allB_snoc l a b k hlt)
      have Hf := Lib.hid (allB_false l a b k hlt)
      clear hcell hcc
      cases hq : inB (nth l k) a b
      · have Hn := Lib.hid (Hf.out hq)
        have Hq := Lib.hid hq
        clear hq
        go_wp2_with fail
        refine (isFromTo_b _ _ _ _ Hq.out _).mono ?_; rintro e w' ⟨rfl, rfl⟩
        go_wp2_with fail
        go_ret
        exact ⟨ret_bool Hn.out.symm, rfl⟩
      · have Hq := Lib.hid hq
        clear hq
        go_wp2_with fail
        refine (isFromTo_b _ _ _ _ Hq.out _).mono ?_; rintro e w' ⟨rfl, rfl⟩
        go_wp2_with fail
        go_roundw
        case rel => exact ⟨k + 1, by omega, by go_num, by rw [Hs.out, Hall.out, Hq.out]; rfl, trivial⟩
        case measure => simp [intOf]; omega
    · obtain rfl : k = l.length := by omega
      have hd : decide ((l.length : Int) < (l.length : Int)) = false := by simp
      have Hy := Lib.hid (show allB l a b = true by rw [← Hall.out, List.take_length])
      clear hcell
      go_wp2_with fail
      go_ret
      exact ⟨ret_bool Hy.out.symm, rfl⟩

end Go.Proofs.Ytcajlbedbecmoaa

/- Layer 7: the fractions of a train's wheels, as the program has them. -/
import Derived.Test.YtmmfmanjajefcaaL8
set_option linter.all false
namespace Go.Proofs.Ytmmfmanjajefcaa
open Go.RowKit

/-- fractions as cells -/
def flat : List (Nat × Nat) → List Value
  | [] => []
  | (a, b) :: l => .int .i64 (a : Int) :: .int .i64 (b : Int) :: flat l
theorem flat_len : ∀ fs : List (Nat × Nat), (flat fs).length = fs.length * 2
  | [] => rfl
  | (a, b) :: l => by simp only [flat, List.length_cons, flat_len l]; omega
theorem flat_at : ∀ (fs : List (Nat × Nat)) (k : Nat) (h : k < fs.length), (flat fs)[k * 2]? = some (.int .i64 ((fs[k].1 : Nat) : Int)) ∧ (flat fs)[k * 2 + 1]? = some (.int .i64 ((fs[k].2 : Nat) : Int))
  | (a, b) :: l, 0, h => ⟨rfl, rfl⟩
  | (a, b) :: l, k + 1, h => by
    have := flat_at l k (by simpa using h)
    rw [show (k + 1) * 2 = k * 2 + 1 + 1 by omega]
    simpa [flat] using this
theorem flat_snoc : ∀ (fs : List (Nat × Nat)) (a b : Nat), flat (fs ++ [(a, b)]) = flat fs ++ [.int .i64 (a : Int), .int .i64 (b : Int)]
  | [], a, b => rfl
  | (x, y) :: l, a, b => by simp only [List.cons_append, flat, flat_snoc l]
theorem flat_of {fs : List (Nat × Nat)} {cs : Array Value} (hs : cs.size = fs.length * 2) (h : ∀ k (hk : k < fs.length), cs[k * 2]? = some (.int .i64 ((fs[k].1 : Nat) : Int)) ∧ cs[k * 2 + 1]? = some (.int .i64 ((fs[k].2 : Nat) : Int))) : cs.toList = flat fs := by
  apply List.ext_getElem?
  intro j
  rw [Array.getElem?_toList]
  by_cases hj : j < fs.length * 2
  · obtain ⟨k, hk⟩ : ∃ k, j = k * 2 ∨ j = k * 2 + 1 := ⟨j / 2, by omega⟩
    have hkl : k < fs.length := by omega
    have p := flat_at fs k hkl
    have q := h k hkl
    rcases hk with rfl | rfl
    · rw [p.1, q.1]
    · rw [p.2, q.2]
  · rw [Array.getElem?_eq_none (by omega), List.getElem?_eq_none (by rw [flat_len]; omega)]

def zrow (n : Nat) : Array Value := madeCells (Value.agg #[.int .i64 0, .int .i64 0]).cells (n * 2)
theorem zrow_size (n : Nat) : (zrow n).size = n * 2 := by unfold zrow madeCells; simp
theorem zrow_at (n j : Nat) (h : j < n * 2) : (zrow n)[j]? = some (.int .i64 0) := by
  unfold zrow madeCells
  have hc : (Value.agg #[.int .i64 0, .int .i64 0]).cells = #[.int .i64 0, .int .i64 0] := rfl
  rw [hc]
  rcases Nat.mod_two_eq_zero_or_one j with e | e <;> simp [h, e]
set_option maxRecDepth 100000 in
theorem mkFrs (w : World) (n : Nat) (hn : n ≤ 10000) : (Instr.makeSlice 79 (.int .i64 (n : Int)) (.int .i64 (n : Int))).run Try.prog w = .ok (.slice (some ⟨w.heap.size, 0, none⟩) n n) (w.alloc (.cells (zrow n) 75)) := by
  obtain ⟨i0, hi, hz0, hz1, hz2⟩ : ∃ i, Try.prog.info? 75 = some i ∧ i.zero = some (.agg #[.int .i64 0, .int .i64 0]) ∧ i.size = 2 ∧ i.bytes = 16 := ⟨_, rfl, rfl, rfl, rfl⟩
  have hr := run_make (P := Try.prog) w 79 75 i0 (.agg #[.int .i64 0, .int .i64 0]) Try.underlying79 hi hz0 .i64 .i64 n n (by omega) (Int.le_refl _) (by rw [hz2]; omega) (by omega)
  simp only [Int.toNat_natCast] at hr
  rw [hr, hz1]
  rfl

def mF (m : Mh) : Nat × Nat := (m.1.toNat, m.2.1.toNat)
/-- cells that are filled so far -/
def Fill (cs : Array Value) (fs : List (Nat × Nat)) (k : Nat) : Prop := cs.size = fs.length * 2 ∧ ∀ i (hi : i < fs.length), i < k → cs[i * 2]? = some (.int .i64 ((fs[i].1 : Nat) : Int)) ∧ cs[i * 2 + 1]? = some (.int .i64 ((fs[i].2 : Nat) : Int))
theorem Fill.next {cs : Array Value} {fs : List (Nat × Nat)} {k : Nat} (h : Fill cs fs k) (hk : k < fs.length) : Fill ((cs.setIfInBounds (k * 2) (.int .i64 ((fs[k].1 : Nat) : Int))).setIfInBounds (k * 2 + 1) (.int .i64 ((fs[k].2 : Nat) : Int))) fs (k + 1) := by
  refine ⟨by simp [h.1], fun i hi hik => ?_⟩
  by_cases e : i = k
  · subst e
    constructor
    · rw [Array.getElem?_setIfInBounds_ne (by omega), Array.getElem?_setIfInBounds_self_of_lt (by rw [h.1]; omega)]
    · rw [Array.getElem?_setIfInBounds_self_of_lt (by rw [Array.size_setIfInBounds, h.1]; omega)]
  · have := h.2 i hi (by omega)
    constructor
    · rw [Array.getElem?_setIfInBounds_ne (by omega), Array.getElem?_setIfInBounds_ne (by omega)]; exact this.1
    · rw [Array.getElem?_setIfInBounds_ne (by omega), Array.getElem?_setIfInBounds_ne (by omega)]; exact this.2

/-- fractions in a block by itself -/
def FrB (w : World) (g : Nat) (fs : List (Nat × Nat)) : Prop := Box w g 75 (flat fs).toArray
theorem FrB.later {w w' : World} {g : Nat} {fs : List (Nat × Nat)} (h : FrB w g fs) (hb : Below w.heap.size w w') : FrB w' g fs := Box.later (w := w) (t := 75) h hb
theorem FrB.lt {w : World} {g : Nat} {fs : List (Nat × Nat)} (h : FrB w g fs) : g < w.heap.size := Box.lt (w := w) (t := 75) h
theorem FrB.frs {w : World} {g c : Nat} {fs : List (Nat × Nat)} (h : FrB w g fs) (hc : fs.length ≤ c) : Frs w w.heap.size (.slice (some ⟨g, 0, none⟩) fs.length c) fs :=
  ⟨_, _, rfl, hc, fun _ => ⟨g, 0, rfl, h.lt, fun k hk => by
    have p := flat_at fs k hk
    have c0 := Box.cell (w := w) (t := 75) h (k * 2)
    have c1 := Box.cell (w := w) (t := 75) h (k * 2 + 1)
    rw [List.getElem?_toArray] at c0 c1
    rw [Nat.zero_add]
    exact ⟨c0.trans p.1, c1.trans p.2⟩⟩⟩

def WhPost (w : World) (fs : List (Nat × Nat)) (e : Ending) (w' : World) : Prop := ∃ g, e = .returned (.slice (some ⟨g, 0, none⟩) fs.length fs.length) ∧ FrB w' g fs ∧ w.heap.size ≤ g ∧ Below w.heap.size w w'

set_option maxRecDepth 100000 in
set_option maxHeartbeats 4000000 in
theorem wheels_c (ms : List Mh) (v : Value) (w : World) (h : Mss w w.heap.size v ms) (hl : ms.length ≤ 100) (hv : ms.all mB = true) : Calls Try.prog 66 #[v] w (WhPost w (ms.map mF)) := by
  obtain ⟨A, c, rfl, hcap, hcell⟩ := h
  have HC := Lib.hid hcell
  have HV := Lib.hid (List.all_eq_true.1 hv)
  clear hcell hcap hv
  obtain ⟨n, hn⟩ : ∃ n, ms.length = n := ⟨_, rfl⟩
  have HN := Lib.hid hn
  have HFL := Lib.hid (show (ms.map mF).length = n by rw [List.length_map, hn])
  rw [hn] at hl ⊢
  clear hn
  have hmk := mkFrs w n (by omega)
  have HB0 := Lib.hid (show Below w.heap.size w (w.alloc (.cells (zrow n) 75)) from (Below.refl _ _).alloc (Nat.le_refl _) _)
  have HX0 := Lib.hid (Box.made w 75 (zrow n))
  go_enter Try.func66, Try.ntmps66
  go_wp2_with fail
  go_loopw [11] (fun kv wr => ∃ (k : Nat) (cs : Array Value), k ≤ n ∧ kv = .int .i64 (k : Int) ∧ Fill cs (ms.map mF) k ∧ Below w.heap.size w wr ∧ Box wr w.heap.size 75 cs) (fun kv _ => n - (intOf kv).toNat)
  case atStart => exact ⟨0, zrow n, Nat.zero_le _, rfl, ⟨by rw [zrow_size, HFL.out], fun _ _ h => by omega⟩, HB0.out, HX0.out⟩
  case round =>
    clear hmk
    obtain ⟨k, cs, hk, rfl, hall, hbr, hbx⟩ := hrel
    have HA := Lib.hid hall
    have HR := Lib.hid hbr
    have HX := Lib.hid hbx
    clear hall hbr hbx
    by_cases hlt : k < n
    · have hkf : k < ms.length := by rw [HN.out]; exact hlt
      obtain ⟨b, off, rfl, hbB, hcc⟩ := HC.out (by omega)
      obtain ⟨y0, y1, y2⟩ := hcc k hkf
      have HM := Lib.hid (HV.out _ (List.getElem_mem hkf))
      have HFk := Lib.hid (show ∀ (hh : k < (ms.map mF).length), (ms.map mF)[k] = mF ms[k] by intro hh; simp)
      obtain ⟨m, hm⟩ : ∃ m, ms[k] = m := ⟨_, rfl⟩
      rw [hm] at y0 y1 y2 HM HFk
      obtain ⟨x, y, z⟩ := m
      have hb3 : meshB x y z = true := HM.out
      unfold meshB at hb3
      rw [Bool.and_eq_true, Bool.and_eq_true] at hb3
      have i1 := inB_iff.1 hb3.1.1
      have i2 := inB_iff.1 hb3.1.2
      obtain ⟨X, rfl⟩ : ∃ X : Nat, x = (X : Int) := ⟨x.toNat, by omega⟩
      obtain ⟨Y, rfl⟩ : ∃ Y : Nat, y = (Y : Int) := ⟨y.toNat, by omega⟩
      have q0 := keepd y0 HR.out hbB
      have q1 := keepd y1 HR.out hbB
      have q2 := keepd y2 HR.out hbB
      have d1 : decide ((k : Int) < (n : Int)) = true := by simpa using hlt
      have d2 : decide (k < n) = true := by simpa using hlt
      have HK := Lib.hid hkf
      clear hcc y0 y1 y2 hm hb3 i1 i2 HM
      dsimp only at q0 q1 q2
      have HNX := Lib.hid (HA.out.next (by rw [HFL.out]; exact hlt))
      have HE := Lib.hid (show ((ms.map mF)[k]'(by rw [HFL.out]; exact hlt)).1 = X ∧ ((ms.map mF)[k]'(by rw [HFL.out]; exact hlt)).2 = Y by rw [HFk.out]; exact ⟨rfl, rfl⟩)
      rw [HE.out.1, HE.out.2] at HNX
      have hsz := HX.out.lt
      obtain ⟨v0, c0⟩ : ∃ v, wr.cell? ⟨w.heap.size, k * 2, none⟩ = some v := by
        rw [HX.out.cell]
        exact ⟨_, Array.getElem?_eq_getElem (by rw [HA.out.1, HFL.out]; omega)⟩
      obtain ⟨v1, c1⟩ : ∃ v, wr.cell? ⟨w.heap.size, k * 2 + 1, none⟩ = some v := by
        rw [HX.out.cell]
        exact ⟨_, Array.getElem?_eq_getElem (by rw [HA.out.1, HFL.out]; omega)⟩
      have fz : ∀ o, wr.frozen? ⟨w.heap.size, o, none⟩ = false := fun o => HX.out.free o
      have i0 : (0 : Int) ≤ (k : Int) := by omega
      have i1 : (k : Int) < (n : Int) := by omega
      have hkf2 : k ≤ 100 := by omega
      have HXF := Lib.hid (((HX.out.put (k * 2) (.int .i64 (X : Int))).put (k * 2 + 1) (.int .i64 (Y : Int))).alloc (.cells #[.int .i64 (X : Int), .int .i64 (Y : Int), .int .i64 z] 37))
      have HBF := Lib.hid (show Below w.heap.size w (((wr.setCell ⟨w.heap.size, k * 2, none⟩ (.int .i64 (X : Int))).setCell ⟨w.heap.size, k * 2 + 1, none⟩ (.int .i64 (Y : Int))).alloc (.cells #[.int .i64 (X : Int), .int .i64 (Y : Int), .int .i64 z] 37)) from
        ((HR.out.setCell (p := ⟨w.heap.size, k * 2, none⟩) (Nat.le_refl _) _).setCell (p := ⟨w.heap.size, k * 2 + 1, none⟩) (Nat.le_refl _) _).alloc (by simp; omega) _)
      go_wp2_with fail
      refine ⟨⟨k + 1, _, by omega, by go_num, HNX.out, HBF.out, HXF.out⟩, ?_⟩
      simp [intOf]; omega
    · obtain rfl : k = n := by omega
      have d1 : decide ((k : Int) < (k : Int)) = false := by simp
      have d2 : decide (k < k) = false := by simp
      have HZ := Lib.hid (show FrB wr w.heap.size (ms.map mF) by
        have := flat_of HA.out.1 (fun i hi => HA.out.2 i hi (by rw [HFL.out] at hi; exact hi))
        unfold FrB
        rw [← this]
        exact HX.out)
      go_wp2_with fail
      go_ret
      exact ⟨w.heap.size, by rw [HFL.out]; rfl, HZ.out, Nat.le_refl _, HR.out⟩
end Go.Proofs.Ytmmfmanjajefcaa

/- Layer 6: Red walked. -/
import Derived.Test.YtcajlbedbecmoaaY1
namespace Go.Proofs.Ytcajlbedbecmoaa
open Go.RowKit

/-- the height of a cell that is named -/
def hAt (hs cs : List Int) (k : Nat) : Int := nth hs (nth cs k).toNat
/-- the greatest height of the first cells -/
def mxTo (hs cs : List Int) : Nat → Int
  | 0 => hAt hs cs 0
  | k + 1 => max (mxTo hs cs k) (hAt hs cs k)
def mxA (hs cs : List Int) : Int := mxTo hs cs cs.length
def redAt (hs cs : List Int) (tol : Int) (k : Nat) : Bool := decide (mxA hs cs - tol ≤ hAt hs cs k)
/-- what is red, as far as it has come -/
def redTo (hs cs : List Int) (tol : Int) (k : Nat) : List Bool := (List.range cs.length).map fun i => decide (i < k) && redAt hs cs tol i
def redOk (hs cs : List Int) (tol : Int) : Bool := allB hs (-1000000000) 1000000000 && diffB cs hs.length && decide (0 < cs.length) && inB tol 0 1000000000
def redE (hs cs : List Int) (tol : Int) : Int := if redOk hs cs tol = true then 0 else 1
def redL (hs cs : List Int) (tol : Int) : List Bool := if redOk hs cs tol = true then (List.range cs.length).map (redAt hs cs tol) else []
theorem redTo_len (hs cs : List Int) (tol : Int) (k : Nat) : (redTo hs cs tol k).length = cs.length := by simp [redTo]
theorem redTo_zero (hs cs : List Int) (tol : Int) : redTo hs cs tol 0 = List.replicate cs.length false := by
  unfold redTo
  simp only [Nat.not_lt_zero, decide_false, Bool.false_and]
  rw [List.map_const', List.length_range]
theorem redTo_all (hs cs : List Int) (tol : Int) : redTo hs cs tol cs.length = (List.range cs.length).map (redAt hs cs tol) := by
  unfold redTo
  apply List.map_congr_left
  intro i hi
  have : i < cs.length := by simpa using hi
  simp [this]
theorem redTo_put (hs cs : List Int) (tol : Int) (k : Nat) (hk : k < cs.length) : (redTo hs cs tol k).set k (redAt hs cs tol k) = redTo hs cs tol (k + 1) := by
  apply List.ext_getElem?
  intro i
  unfold redTo
  rw [List.getElem?_set]
  by_cases hi : i < cs.length
  · rw [List.getElem?_map, List.getElem?_map, List.getElem?_range hi]
    by_cases hki : k = i
    · subst hki; simp [hi]
    · have e : (i < k) = (i < k + 1) := by apply propext; omega
      simp [hki, e]
  · have : k ≠ i := by omega
    simp [hi, this]
theorem mxTo_bd {hs cs : List Int} (hh : allB hs (-1000000000) 1000000000 = true) (hc : diffB cs hs.length = true) (h0 : 0 < cs.length) : ∀ k, k ≤ cs.length → -1000000000 ≤ mxTo hs cs k ∧ mxTo hs cs k ≤ 1000000000 := by
  have ha : ∀ k, k < cs.length → -1000000000 ≤ hAt hs cs k ∧ hAt hs cs k ≤ 1000000000 := fun k hk => by
    have := diffB_at hc hk
    exact allB_nth hh (by omega)
  intro k
  induction k with
  | zero => intro _; exact ha 0 h0
  | succ k ih =>
    intro hk
    have h1 := ih (by omega)
    have h2 := ha k (by omega)
    unfold mxTo
    omega

set_option maxHeartbeats 4000000 in
theorem Red_c (hs cs : List Int) (tol : Int) (v u : Value) (w : World) (h : Ints w w.heap.size v hs) (h' : Ints w w.heap.size u cs) (hn : hs.length ≤ 1000) (hn' : cs.length ≤ 1000) :
    Calls Try.prog 46 #[v, u, .int .i64 tol] w fun e w' => ∃ r, e = .returned (.tuple #[r, .int .i64 (redE hs cs tol)]) ∧ Bs w' w'.heap.size r (redL hs cs tol) ∧ Below w.heap.size w w' := by
  have bad : redOk hs cs tol = false → redE hs cs tol = 1 ∧ redL hs cs tol = [] := fun hb => by unfold redE redL; rw [hb]; exact ⟨rfl, rfl⟩
  have hv := h
  have hu := h'
  obtain ⟨_, A, c, rfl, hcap, hcell⟩ := h
  obtain ⟨_, A', c', rfl, hcap', hcell'⟩ := h'
  cases g1 : allB hs (-1000000000) 1000000000
  · have H := Lib.hid (bad (by unfold redOk; rw [g1]; rfl))
    have G1 := Lib.hid (g1 ▸ allFromTo_c hs (-1000000000) 1000000000 _ w hv)
    clear g1 bad hcell hcell' hv hu
    go_enter Try.func46, Try.ntmps46
    go_wp2_with fail
    refine G1.out.mono ?_; rintro e w' ⟨rfl, rfl⟩
    go_wp2_with fail
    go_ret2
    exact ⟨.slice none 0 0, by rw [H.out.1]; rfl, by rw [H.out.2]; exact Bs.nil _ _, Below.refl _ _⟩
  cases g2 : diffB cs hs.length
  · have H := Lib.hid (bad (by unfold redOk; rw [g2]; simp))
    have G1 := Lib.hid (g1 ▸ allFromTo_c hs (-1000000000) 1000000000 _ w hv)
    have G2 := Lib.hid (g2 ▸ areDifferent_c cs hs.length _ w hu (by omega))
    clear g1 g2 bad hcell hcell' hv hu
    go_enter Try.func46, Try.ntmps46
    go_wp2_with fail
    refine G1.out.mono ?_; rintro e w' ⟨rfl, rfl⟩
    go_wp2_with fail
    refine G2.out.mono ?_; rintro e w1 ⟨rfl, hb1⟩
    go_wp2_with fail
    go_ret2
    exact ⟨.slice none 0 0, by rw [H.out.1]; rfl, by rw [H.out.2]; exact Bs.nil _ _, hb1⟩
  by_cases g3 : 0 < cs.length
  case neg =>
    have H := Lib.hid (bad (by unfold redOk; simp [g3]))
    have G1 := Lib.hid (g1 ▸ allFromTo_c hs (-1000000000) 1000000000 _ w hv)
    have G2 := Lib.hid (g2 ▸ areDifferent_c cs hs.length _ w hu (by omega))
    have z0 : cs.length = 0 := by omega
    have e0 : ((cs.length : Int) == 0) = true := by rw [z0]; rfl
    have e0' : decide ((cs.length : Int) = 0) = true := by rw [z0]; rfl
    clear z0
    clear g1 g2 bad hcell hcell' hv hu g3
    go_enter Try.func46, Try.ntmps46
    go_wp2_with fail
    refine G1.out.mono ?_; rintro e w' ⟨rfl, rfl⟩
    go_wp2_with fail
    refine G2.out.mono ?_; rintro e w1 ⟨rfl, hb1⟩
    go_wp2_with fail
    go_ret2
    exact ⟨.slice none 0 0, by rw [H.out.1]; rfl, by rw [H.out.2]; exact Bs.nil _ _, hb1⟩
  have e0' : decide ((cs.length : Int) = 0) = false := decide_eq_false (by omega)
  have e0 : ((cs.length : Int) == 0) = false := e0'
  cases g4 : inB tol 0 1000000000
  · have H := Lib.hid (bad (by unfold redOk; rw [g4]; simp))
    have G1 := Lib.hid (g1 ▸ allFromTo_c hs (-1000000000) 1000000000 _ w hv)
    have G2 := Lib.hid (g2 ▸ areDifferent_c cs hs.length _ w hu (by omega))
    have G4 := Lib.hid g4
    clear g1 g2 bad hcell hcell' hv hu g3 g4
    go_enter Try.func46, Try.ntmps46
    go_wp2_with fail
    refine G1.out.mono ?_; rintro e w' ⟨rfl, rfl⟩
    go_wp2_with fail
    refine G2.out.mono ?_; rintro e w1 ⟨rfl, hb1⟩
    go_wp2_with fail
    refine (isFromTo_b _ _ _ _ G4.out _).mono ?_; rintro e w' ⟨rfl, rfl⟩
    go_wp2_with fail
    go_ret2
    exact ⟨.slice none 0 0, by rw [H.out.1]; rfl, by rw [H.out.2]; exact Bs.nil _ _, hb1⟩
  have hok : redOk hs cs tol = true := by unfold redOk; rw [g1, g2, g4]; simp [g3]
  have H := Lib.hid (show redE hs cs tol = 0 ∧ redL hs cs tol = (List.range cs.length).map (redAt hs cs tol) from by unfold redE redL; rw [hok]; exact ⟨rfl, rfl⟩)
  have G1 := Lib.hid (g1 ▸ allFromTo_c hs (-1000000000) 1000000000 _ w hv)
  have G2 := Lib.hid (g2 ▸ areDifferent_c cs hs.length _ w hu (by omega))
  have G4 := Lib.hid g4
  have BD := Lib.hid (mxTo_bd g1 g2 g3)
  have DF := Lib.hid (show ∀ k, k < cs.length → 0 ≤ nth cs k ∧ nth cs k < (hs.length : Int) from fun k hk => diffB_at g2 hk)
  have TB := Lib.hid (inB_iff.1 g4)
  have L3 := Lib.hid g3
  have LN := Lib.hid (show hs.length ≤ 1000 ∧ cs.length ≤ 1000 from ⟨hn, hn'⟩)
  obtain ⟨b', off', rfl, hbB', hcc'⟩ := hcell' g3
  have hh0 : 0 < hs.length := by have := diffB_at g2 g3; omega
  obtain ⟨b, off, rfl, hbB, hcc⟩ := hcell hh0
  have CC := Lib.hid hcc
  have CC' := Lib.hid hcc'
  -- the cell of a cell, in whatever world that keeps
  have CELL := Lib.hid (show ∀ (W : World) (k : Nat), Below w.heap.size w W → k < cs.length → ∃ j : Nat, W.cell? ⟨b', off' + k, none⟩ = some (.int .i64 (j : Int)) ∧ j < hs.length ∧ W.cell? ⟨b, off + j, none⟩ = some (.int .i64 (hAt hs cs k)) from fun W k hb hk => by
    have hd := DF.out k hk
    refine ⟨(nth cs k).toNat, ?_, by omega, ?_⟩
    · rw [keepd (CC'.out k hk) hb hbB', show (((nth cs k).toNat : Nat) : Int) = nth cs k by omega]
    · exact keepd (CC.out _ (by omega)) hb hbB)
  clear g1 g2 bad hcell hcell' hv hu g3 g4 hok hcc hcc' hn hn' hh0
  go_enter Try.func46, Try.ntmps46
  go_wp2_with fail
  refine G1.out.mono ?_; rintro e w' ⟨rfl, rfl⟩
  go_wp2_with fail
  refine G2.out.mono ?_; rintro e w1 ⟨rfl, hb1⟩
  go_wp2_with fail
  refine (isFromTo_b _ _ _ _ G4.out _).mono ?_; rintro e w' ⟨rfl, rfl⟩
  obtain ⟨j, c0, c1, c2⟩ := CELL.out w1 0 hb1 L3.out
  rw [Nat.add_zero] at c0
  have l0 : (0 : Int) < (cs.length : Int) := by have := L3.out; omega
  have j0 : (0 : Int) ≤ (j : Int) := by omega
  have j1 : (j : Int) < (hs.length : Int) := by omega
  have C1 := Lib.hid c1
  clear c1
  go_wp2_with fail
  clear c0 c2 j0 j1 l0 C1
  go_loopw [8, 42] (fun m i wr => ∃ k : Nat, k ≤ cs.length ∧ m = .int .i64 (mxTo hs cs k) ∧ i = .int .i64 (k : Int) ∧ w1 = wr) (fun _ i _ => cs.length - (intOf i).toNat)
  case atStart => exact ⟨0, Nat.zero_le _, rfl, rfl, rfl⟩
  case round =>
    obtain ⟨k, hk, rfl, rfl, rfl⟩ := hrel
    by_cases hlt : k < cs.length
    · have hd : decide ((k : Int) < (cs.length : Int)) = true := by simpa using hlt
      obtain ⟨j, c0, c1, c2⟩ := CELL.out _ k hb1 hlt
      have j0 : (0 : Int) ≤ (j : Int) := by omega
      have j1 : (j : Int) < (hs.length : Int) := by omega
      have C1 := Lib.hid c1
      have HM := Lib.hid (show mxTo hs cs (k + 1) = max (mxTo hs cs k) (hAt hs cs k) from rfl)
      have K400 : k ≤ 1000 := by have := LN.out; omega
      have HLT := Lib.hid hlt
      clear c1
      go_wp2_with fail
      go_roundw
      case rel => exact ⟨k + 1, HLT.out, by rw [HM.out]; congr 1; split <;> omega, by go_num, trivial⟩
      case measure => have := HLT.out; simp [intOf]; omega
    · obtain rfl : k = cs.length := by omega
      have hd : decide ((cs.length : Int) < (cs.length : Int)) = false := by simp
      have hmk := mkBools w1 cs.length (by have := LN.out; omega)
      have HM := Lib.hid (show mxTo hs cs cs.length = mxA hs cs from rfl)
      have hbd := BD.out cs.length (Nat.le_refl _)
      have hws : IntKind.i64.wrap (mxA hs cs - tol) = mxA hs cs - tol := by rw [HM.out] at hbd; have := TB.out; exact wrap_id (by omega) (by omega)
      have HB1 := Lib.hid hb1
      clear hbd hk hb1
      rw [HM.out]
      go_wp2_with fail
      go_loopw [58] (fun i wr => ∃ k : Nat, k ≤ cs.length ∧ i = .int .i64 (k : Int) ∧ RowB wr w1.heap.size (redTo hs cs tol k) ∧ Below w1.heap.size w1 wr) (fun i _ => cs.length - (intOf i).toNat)
      case atStart => exact ⟨0, Nat.zero_le _, rfl, by rw [redTo_zero]; exact RowB.made _ _, (Below.refl _ _).alloc (Nat.le_refl _) _⟩
      case round =>
        clear hmk hd
        obtain ⟨k, hk, rfl, hrow, hbr⟩ := hrel
        have HBR := Lib.hid hbr
        have HROW := Lib.hid hrow
        by_cases hlt : k < cs.length
        · have hd : decide ((k : Int) < (cs.length : Int)) = true := by simpa using hlt
          obtain ⟨j, c0, c1, c2⟩ := CELL.out wr k (HB1.out.trans (hbr.mono HB1.out.size)) hlt
          have j0 : (0 : Int) ≤ (j : Int) := by omega
          have j1 : (j : Int) < (hs.length : Int) := by omega
          have r0 := hrow.cell (k := k) (by rw [redTo_len]; exact hlt)
          have r1 := hrow.free k
          have HLT := Lib.hid hlt
          have K400 : k ≤ 1000 := by have := LN.out; omega
          have k0 : (0 : Int) ≤ (k : Int) := by omega
          have k1 : (k : Int) < (cs.length : Int) := by omega
          have HP := Lib.hid (hrow.put k (redAt hs cs tol k))
          have HR := Lib.hid (show redAt hs cs tol k = decide (mxA hs cs - tol ≤ hAt hs cs k) from rfl)
          have HS := Lib.hid (redTo_put hs cs tol k hlt)
          clear c1 hrow hbr hk hlt
          go_wp2_with fail
          go_roundw
          case rel => exact ⟨k + 1, HLT.out, by go_num, by rw [← HS.out]; exact HP.out, HBR.out.setCell (Nat.le_refl _) _⟩
          case measure => have := HLT.out; simp [intOf]; omega
        · obtain rfl : k = cs.length := by omega
          have hd : decide ((cs.length : Int) < (cs.length : Int)) = false := by simp
          clear hrow hbr
          go_wp2_with fail
          go_ret2
          have HROW' := HROW.out
          rw [redTo_all] at HROW'
          refine ⟨.slice (some ⟨w1.heap.size, 0, none⟩) cs.length cs.length, by rw [H.out.1]; rfl, ?_, HB1.out.trans (HBR.out.mono HB1.out.size)⟩
          rw [H.out.2]
          have hl : ((List.range cs.length).map (redAt hs cs tol)).length = cs.length := by simp
          have := HROW'.bs (B := wr.heap.size) (c := cs.length) (Nat.le_refl _) (by rw [hl]; exact Nat.le_refl _)
          rw [hl] at this
          exact this

end Go.Proofs.Ytcajlbedbecmoaa

/- Layer 6: which cells a straight edge reddens, as specified; lists of truth values compared. -/
import Derived.Test.YtcajlbedbecmoaaY2
namespace Go.Proofs.Ytcajlbedbecmoaa
open Go.RowKit

theorem news_cells (w : World) (e : TypeId) (l : List Value) : ∀ (j : Nat) (u : Value), l[j]? = some u → (w.alloc (.cells l.toArray e)).cell? ((⟨w.heap.size, 0, none⟩ : Addr).add j) = some u := fun j u h => by
  have hb := Box.made w e l.toArray
  have hc := Box.cell (w := w.alloc (.cells l.toArray e)) (t := e) hb j
  have e2 : (⟨w.heap.size, 0, none⟩ : Addr).add j = ⟨w.heap.size, j, none⟩ := by rcases j with _ | j <;> simp [Addr.add]
  rw [e2, hc]
  simpa using h

/-- the first cells, red or not -/
def redP (hs cs : List Int) (tol : Int) (k : Nat) : List Bool := (List.range k).map (redAt hs cs tol)
theorem redP_snoc (hs cs : List Int) (tol : Int) (k : Nat) : redP hs cs tol (k + 1) = redP hs cs tol k ++ [redAt hs cs tol k] := by simp [redP, List.range_succ]
theorem redP_len (hs cs : List Int) (tol : Int) (k : Nat) : (redP hs cs tol k).length = k := by simp [redP]

set_option maxRecDepth 100000 in
set_option maxHeartbeats 8000000 in
theorem rRed_c (hs cs : List Int) (tol : Int) (v u : Value) (w : World) (h : Ints w w.heap.size v hs) (h' : Ints w w.heap.size u cs) (hn : hs.length ≤ 1000) (hn' : cs.length ≤ 1000) :
    Calls Try.prog 47 #[v, u, .int .i64 tol] w fun e w' => ∃ r, e = .returned (.tuple #[r, .int .i64 (redE hs cs tol)]) ∧ Bs w' w'.heap.size r (redL hs cs tol) ∧ Below w.heap.size w w' := by
  have bad : redOk hs cs tol = false → redE hs cs tol = 1 ∧ redL hs cs tol = [] := fun hb => by unfold redE redL; rw [hb]; exact ⟨rfl, rfl⟩
  obtain ⟨_, A, c, rfl, hcap, hcell⟩ := h
  obtain ⟨_, A', c', rfl, hcap', hcell'⟩ := h'
  obtain ⟨i0, hi, hz0, hz1, hz2⟩ : ∃ i, Try.prog.info? 4 = some i ∧ i.zero = some (.bool false) ∧ i.size = 1 ∧ i.bytes = 1 := ⟨_, rfl, rfl, rfl, rfl⟩
  by_cases g3 : 0 < cs.length
  case neg =>
    have H := Lib.hid (bad (by unfold redOk; simp [g3]))
    have z0 : cs.length = 0 := by omega
    have e0 : ((cs.length : Int) == 0) = true := by rw [z0]; rfl
    have e0' : decide ((cs.length : Int) = 0) = true := by rw [z0]; rfl
    clear z0 bad hcell hcell' g3 hi hz0 hz1 hz2
    go_enter Try.func47, Try.ntmps47
    go_wp2_with fail
    go_ret2
    exact ⟨.slice none 0 0, by rw [H.out.1]; rfl, by rw [H.out.2]; exact Bs.nil _ _, Below.refl _ _⟩
  have e0' : decide ((cs.length : Int) = 0) = false := decide_eq_false (by omega)
  have e0 : ((cs.length : Int) == 0) = false := e0'
  cases g4 : inB tol 0 1000000000
  · have H := Lib.hid (bad (by unfold redOk; rw [g4]; simp))
    have G4 := Lib.hid g4
    clear bad hcell hcell' g3 g4 hi hz0 hz1 hz2
    go_enter Try.func47, Try.ntmps47
    go_wp2_with fail
    refine (rwithin_b _ _ _ _ G4.out _).mono ?_; rintro e w' ⟨rfl, rfl⟩
    go_wp2_with fail
    go_ret2
    exact ⟨.slice none 0 0, by rw [H.out.1]; rfl, by rw [H.out.2]; exact Bs.nil _ _, Below.refl _ _⟩
  have G4 := Lib.hid g4
  have TB := Lib.hid (inB_iff.1 g4)
  have L3 := Lib.hid g3
  have LN := Lib.hid (show hs.length ≤ 1000 ∧ cs.length ≤ 1000 from ⟨hn, hn'⟩)
  have BAD := Lib.hid bad
  have HC := Lib.hid hcell
  obtain ⟨b', off', rfl, hbB', hcc'⟩ := hcell' g3
  have CC' := Lib.hid hcc'
  clear g3 g4 bad hcell hcell' hcc' hn hn'
  go_enter Try.func47, Try.ntmps47
  go_wp2_with fail
  refine (rwithin_b _ _ _ _ G4.out _).mono ?_; rintro e w' ⟨rfl, rfl⟩
  go_wp2_with fail
  go_loopw [8] (fun i wr => ∃ k : Nat, k ≤ hs.length ∧ i = .int .i64 (k : Int) ∧ allB (hs.take k) (-1000000000) 1000000000 = true ∧ w = wr) (fun i _ => hs.length - (intOf i).toNat)
  case atStart => exact ⟨0, Nat.zero_le _, rfl, rfl, rfl⟩
  case round =>
    obtain ⟨k, hk, rfl, hall, rfl⟩ := hrel
    have Hall := Lib.hid hall
    clear hall
    by_cases hlt : k < hs.length
    · obtain ⟨b0, off, rfl, hbB, hcc⟩ := HC.out (by omega)
      have q0 := hcc k hlt
      have hd : decide ((k : Int) < (hs.length : Int)) = true := by simpa using hlt
      have Hs := Lib.hid (allB_snoc hs (-1000000000) 1000000000 k hlt)
      have Hf := Lib.hid (allB_false hs (-1000000000) 1000000000 k hlt)
      have HLT := Lib.hid hlt
      have K : k ≤ 1000 := by have := LN.out; omega
      have k0 : (0 : Int) ≤ (k : Int) := by omega
      clear hcc hlt hk
      cases hq : inB (nth hs k) (-1000000000) 1000000000
      · have H := Lib.hid (BAD.out (by unfold redOk; rw [Hf.out hq]; rfl))
        have Hq := Lib.hid hq
        clear hq
        go_wp2_with fail
        refine (rwithin_b _ _ _ _ Hq.out _).mono ?_; rintro e w' ⟨rfl, rfl⟩
        go_wp2_with fail
        go_ret2
        exact ⟨.slice none 0 0, by rw [H.out.1]; rfl, by rw [H.out.2]; exact Bs.nil _ _, Below.refl _ _⟩
      · have Hq := Lib.hid hq
        clear hq
        go_wp2_with fail
        refine (rwithin_b _ _ _ _ Hq.out _).mono ?_; rintro e w' ⟨rfl, rfl⟩
        go_wp2_with fail
        go_roundw
        case rel => exact ⟨k + 1, HLT.out, by go_num, by rw [Hs.out, Hall.out, Hq.out]; rfl, trivial⟩
        case measure => have := HLT.out; simp [intOf]; omega
    · obtain rfl : k = hs.length := by omega
      have hd : decide ((hs.length : Int) < (hs.length : Int)) = false := by simp
      have A1 := Lib.hid (show allB hs (-1000000000) 1000000000 = true by have := Hall.out; rwa [List.take_length] at this)
      have hmk := mkBools w hs.length (by have := LN.out; omega)
      have hw1 : IntKind.i64.wrap ((hs.length : Int) - 1) = (hs.length : Int) - 1 := by have := LN.out; exact wrap_id (by omega) (by omega)
      clear hk
      go_wp2_with fail
      clear hd
      go_loopw [10] (fun i wr => ∃ k : Nat, k ≤ cs.length ∧ i = .int .i64 (k : Int) ∧ diffTo cs hs.length k = true ∧ RowB wr w.heap.size (seenTo cs hs.length k) ∧ Below w.heap.size w wr) (fun i _ => cs.length - (intOf i).toNat)
      case atStart => exact ⟨0, Nat.zero_le _, rfl, rfl, by rw [seenTo_zero]; exact RowB.made _ _, (Below.refl _ _).alloc (Nat.le_refl _) _⟩
      case round =>
        clear hmk
        obtain ⟨k, hk, rfl, hall, hrow, hbr⟩ := hrel
        have Hall := Lib.hid hall
        have Hrow := Lib.hid hrow
        have Hbr := Lib.hid hbr
        clear hall
        by_cases hlt : k < cs.length
        · have q0 := keepd (CC'.out k hlt) hbr hbB'
          have hd : decide ((k : Int) < (cs.length : Int)) = true := by simpa using hlt
          have Hs := Lib.hid (diffTo_succ cs hs.length k)
          have Hf := Lib.hid (diffB_false cs hs.length k hlt)
          have HLT := Lib.hid hlt
          have K : k ≤ 1000 := by have := LN.out; omega
          have k0 : (0 : Int) ≤ (k : Int) := by omega
          cases hq : inB (nth cs k) 0 ((hs.length : Int) - 1)
          · have H := Lib.hid (BAD.out (by unfold redOk; rw [Hf.out (by unfold okAt; rw [hq]; rfl)]; simp))
            have Hq := Lib.hid hq
            clear hq hrow hbr hk hlt
            go_wp2_with fail
            refine (rwithin_b _ _ _ _ Hq.out _).mono ?_; rintro e w' ⟨rfl, rfl⟩
            go_wp2_with fail
            go_ret2
            exact ⟨.slice none 0 0, by rw [H.out.1]; rfl, by rw [H.out.2]; exact Bs.nil _ _, Hbr.out⟩
          · have hr := inB_iff.1 hq
            obtain ⟨j, hj⟩ : ∃ j : Nat, nth cs k = (j : Int) := ⟨(nth cs k).toNat, by omega⟩
            have hjn : j < hs.length := by omega
            have HS1 := Lib.hid (seenTo_put cs hs.length k j hlt hj)
            have Hq := Lib.hid (show inB ((j : Int)) 0 ((hs.length : Int) - 1) = true by rw [← hj]; exact hq)
            have Hok := Lib.hid (show okAt cs hs.length k = !decide ((j : Int) ∈ cs.take k) by unfold okAt; rw [hq, hj]; rfl)
            have r0 : wr.cell? ⟨w.heap.size, j, none⟩ = some (.bool (decide ((j : Int) ∈ cs.take k))) := by rw [hrow.cell (by rw [seenTo_len]; exact hjn), seenTo_at cs hs.length k j hjn]
            have r1 := hrow.free j
            have j0 : (0 : Int) ≤ (j : Int) := by omega
            have j1 : (j : Int) < (hs.length : Int) := by omega
            rw [hj] at q0
            clear hq hrow hbr hr hj hk hlt hjn
            cases hm : decide ((j : Int) ∈ cs.take k)
            · have Hm := Lib.hid hm
              rw [hm] at r0
              have Hput := Lib.hid (Hrow.out.put j true)
              clear hm
              go_wp2_with fail
              refine (rwithin_b _ _ _ _ Hq.out _).mono ?_; rintro e w' ⟨rfl, rfl⟩
              go_wp2_with fail
              go_roundw
              case rel => exact ⟨k + 1, HLT.out, by go_num, by rw [Hs.out, Hall.out, Hok.out, Hm.out]; rfl, by rw [← HS1.out]; exact Hput.out, Hbr.out.setCell (Nat.le_refl _) _⟩
              case measure => have := HLT.out; simp [intOf]; omega
            · have H := Lib.hid (BAD.out (by unfold redOk; rw [Hf.out (by rw [Hok.out, hm]; rfl)]; simp))
              rw [hm] at r0
              clear hm
              go_wp2_with fail
              refine (rwithin_b _ _ _ _ Hq.out _).mono ?_; rintro e w' ⟨rfl, rfl⟩
              go_wp2_with fail
              go_ret2
              exact ⟨.slice none 0 0, by rw [H.out.1]; rfl, by rw [H.out.2]; exact Bs.nil _ _, Hbr.out⟩
        · obtain rfl : k = cs.length := by omega
          have hd : decide ((cs.length : Int) < (cs.length : Int)) = false := by simp
          have A2 := Lib.hid (show diffB cs hs.length = true from Hall.out)
          have hok : redOk hs cs tol = true := by unfold redOk; rw [A1.out, A2.out, G4.out]; simp [L3.out]
          have H := Lib.hid (show redE hs cs tol = 0 ∧ redL hs cs tol = redP hs cs tol cs.length from by unfold redE redL redP; rw [hok]; exact ⟨rfl, rfl⟩)
          have BD := Lib.hid (mxTo_bd A1.out A2.out L3.out)
          have hh0 : 0 < hs.length := by have := diffB_at A2.out L3.out; omega
          obtain ⟨b, off, rfl, hbB, hcc⟩ := HC.out hh0
          have CC := Lib.hid hcc
          have CELL := Lib.hid (show ∀ (W : World) (k : Nat), Below w.heap.size w W → k < cs.length → ∃ j : Nat, W.cell? ⟨b', off' + k, none⟩ = some (.int .i64 (j : Int)) ∧ j < hs.length ∧ W.cell? ⟨b, off + j, none⟩ = some (.int .i64 (hAt hs cs k)) from fun W k hb hk => by
            have hd := diffB_at A2.out hk
            refine ⟨(nth cs k).toNat, ?_, by omega, ?_⟩
            · rw [keepd (CC'.out k hk) hb hbB', show (((nth cs k).toNat : Nat) : Int) = nth cs k by omega]
            · exact keepd (CC.out _ (by omega)) hb hbB)
          obtain ⟨j, c0, c1, c2⟩ := CELL.out wr 0 hbr L3.out
          rw [Nat.add_zero] at c0
          have l0 : (0 : Int) < (cs.length : Int) := by have := L3.out; omega
          have j0 : (0 : Int) ≤ (j : Int) := by omega
          have j1 : (j : Int) < (hs.length : Int) := by omega
          clear hok hh0 hcc c1 hrow hk HC BAD hbr
          go_wp2_with fail
          clear c0 c2 j0 j1 l0 hd
          go_loopw [11, 12] (fun m i wq => ∃ k : Nat, k ≤ cs.length ∧ m = .int .i64 (mxTo hs cs k) ∧ i = .int .i64 (k : Int) ∧ wr = wq) (fun _ i _ => cs.length - (intOf i).toNat)
          case atStart => exact ⟨0, Nat.zero_le _, rfl, rfl, rfl⟩
          case round =>
            obtain ⟨k, hk, rfl, rfl, rfl⟩ := hrel
            by_cases hlt : k < cs.length
            · have hd : decide ((k : Int) < (cs.length : Int)) = true := by simpa using hlt
              obtain ⟨j, c0, c1, c2⟩ := CELL.out _ k Hbr.out hlt
              have j0 : (0 : Int) ≤ (j : Int) := by omega
              have j1 : (j : Int) < (hs.length : Int) := by omega
              have HM := Lib.hid (show mxTo hs cs (k + 1) = max (mxTo hs cs k) (hAt hs cs k) from rfl)
              have K400 : k ≤ 1000 := by have := LN.out; omega
              have k0 : (0 : Int) ≤ (k : Int) := by omega
              have HLT := Lib.hid hlt
              clear c1 hk hlt
              go_wp2_with fail
              go_roundw
              case rel => exact ⟨k + 1, HLT.out, by rw [HM.out]; congr 1; split <;> omega, by go_num, trivial⟩
              case measure => have := HLT.out; simp [intOf]; omega
            · obtain rfl : k = cs.length := by omega
              have hd : decide ((cs.length : Int) < (cs.length : Int)) = false := by simp
              have HM := Lib.hid (show mxTo hs cs cs.length = mxA hs cs from rfl)
              have hbd := BD.out cs.length (Nat.le_refl _)
              have hws : IntKind.i64.wrap (mxA hs cs - tol) = mxA hs cs - tol := by rw [HM.out] at hbd; have := TB.out; exact wrap_id (by omega) (by omega)
              clear hbd hk
              rw [HM.out]
              go_wp2_with fail
              clear hd
              rename World => w3
              go_loopw [13, 14] (fun lw i wr => ∃ k : Nat, k ≤ cs.length ∧ i = .int .i64 (k : Int) ∧ wr.ownsRow w3.heap.size 4 1 lw k (bls (redP hs cs tol k)) ∧ Below w3.heap.size w3 wr) (fun _ i _ => cs.length - (intOf i).toNat)
              case atStart => exact ⟨0, Nat.zero_le _, rfl, World.ownsRow_nil _ _ _ _, Below.refl _ _⟩
              case round =>
                obtain ⟨k, hk, rfl, hown, hbr⟩ := hrel
                have HBR := Lib.hid hbr
                have HOW := Lib.hid hown
                by_cases hlt : k < cs.length
                · have hd : decide ((k : Int) < (cs.length : Int)) = true := by simpa using hlt
                  obtain ⟨j, c0, c1, c2⟩ := CELL.out wr k (Hbr.out.trans (hbr.mono Hbr.out.size)) hlt
                  have j0 : (0 : Int) ≤ (j : Int) := by omega
                  have j1 : (j : Int) < (hs.length : Int) := by omega
                  have K400 : k ≤ 1000 := by have := LN.out; omega
                  have k0 : (0 : Int) ≤ (k : Int) := by omega
                  have k1 : (k : Int) < (cs.length : Int) := by omega
                  have HLT := Lib.hid hlt
                  have HR := Lib.hid (show bls (redP hs cs tol (k + 1)) = bls (redP hs cs tol k) ++ [.bool (decide (mxA hs cs - tol ≤ hAt hs cs k))] by rw [redP_snoc, bls_snoc]; rfl)
                  generalize hAt hs cs k = x at *
                  have hnews := news_cells wr 4 [.bool (decide (mxA hs cs - tol ≤ x))]
                  have h1c : ∀ u ∈ [Value.bool (decide (mxA hs cs - tol ≤ x))], u.oneCell' = true := by intro u hu; simp at hu; subst hu; rfl
                  have hk1' : k + 1 ≤ maxLen := by unfold maxLen; omega
                  have hk2' : (k + 1) * 1 ≤ 140737488355328 := by omega
                  have hk3' : w3.heap.size ≤ (wr.alloc (.cells #[.bool (decide (mxA hs cs - tol ≤ x))] 4)).heap.size := by have := hbr.size; simp; omega
                  have ho6 := hown.alloc (.cells #[.bool (decide (mxA hs cs - tol ≤ x))] 4)
                  clear hown hbr hk hlt c1
                  go_wp2_with (first
                    | (at_builtin; refine wpList_append_own_at _ rfl _ _ 62 rfl w3.heap.size 4 i0 (.bool false) 1 1 Try.underlying62 hi hz0 hz1 hz2 rfl (by decide) u13 _ _ rfl ho6 ⟨wr.heap.size, 0, none⟩ 1 1 [.bool (decide (mxA hs cs - tol ≤ x))] rfl rfl hnews h1c hk1' hk2' hk3' ?_; intro v' w7 hown7 hgrow7 _ _))
                  have HF := Lib.hid (show w7.ownsRow w3.heap.size 4 1 v' (k + 1) (bls (redP hs cs tol (k + 1))) ∧ Below w3.heap.size w3 w7 from ⟨by rw [HR.out]; exact hown7, (HBR.out.alloc HBR.out.size _).grown hgrow7 hk3' (fun q e => (ho6.lt q e).1)⟩)
                  clear hown7 hgrow7
                  go_wp2_with fail
                  go_roundw
                  case rel => exact ⟨k + 1, HLT.out, by go_num, HF.out.1, HF.out.2⟩
                  case measure => have := HLT.out; simp [intOf]; omega
                · obtain rfl : k = cs.length := by omega
                  have hd : decide ((cs.length : Int) < (cs.length : Int)) = false := by simp
                  clear hown hbr hk
                  go_wp2_with fail
                  go_ret2
                  refine ⟨u13, by rw [H.out.1]; rfl, ?_, Hbr.out.trans (HBR.out.mono Hbr.out.size)⟩
                  rw [H.out.2]
                  have := HOW.out
                  rw [show cs.length = (redP hs cs tol cs.length).length from (redP_len _ _ _ _).symm] at this
                  rw [redP_len] at this
                  refine bools_own (base := w3.heap.size) (e := 4) ?_ (Nat.le_refl _)
                  rw [redP_len]
                  exact HOW.out

end Go.Proofs.Ytcajlbedbecmoaa

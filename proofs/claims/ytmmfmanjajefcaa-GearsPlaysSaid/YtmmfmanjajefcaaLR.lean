/- Layer 7: where the wheels stand, as the program has it. -/
import Derived.Test.YtmmfmanjajefcaaLQ
set_option linter.all false
namespace Go.Proofs.Ytmmfmanjajefcaa
open Go.RowKit

def shB (ms : List Mh) (k : Nat) : Bool := (List.range k).all fun s => decide ((trnR ms s).e = 0)
theorem shB_iff {ms : List Mh} {k : Nat} : shB ms k = true ↔ shOk ms k := by
  unfold shB shOk
  rw [List.all_eq_true]
  simp only [List.mem_range, decide_eq_true_eq]
/-- the teeth of a mesh's wheels -/
def mfN (ms : List Mh) (i : Nat) : Nat × Nat := (ms.map mF).getD i (1, 1)
theorem mfN_at {ms : List Mh} {i : Nat} (h : i < ms.length) : mfN ms i = mF ms[i] := by
  unfold mfN
  rw [List.getD_eq_getElem?_getD, List.getElem?_map, List.getElem?_eq_getElem h]; rfl
/-- at which tooth the wheels of a mesh stand -/
def stA (ms : List Mh) (T i : Nat) : Nat := T * (shN ms i).1 * (mfN ms i).1 / (shN ms i).2 % (mfN ms i).1
def stB (ms : List Mh) (T i : Nat) : Nat := T * (shN ms (i + 1)).1 * (mfN ms i).2 / (shN ms (i + 1)).2 % (mfN ms i).2
def stL (ms : List Mh) (T : Nat) : Nat → List Nat
  | 0 => []
  | k + 1 => stL ms T k ++ [stA ms T k, stB ms T k]
theorem stL_len (ms : List Mh) (T : Nat) : ∀ k, (stL ms T k).length = 2 * k
  | 0 => rfl
  | k + 1 => by rw [stL, List.length_append, stL_len ms T k]; simp; omega
def stE (ms : List Mh) (t : Int) : Int := if trB ms then (if inB t 0 1000000 then (if shB ms (ms.length + 1) then 0 else 2) else 1) else 70
def stV (ms : List Mh) (t : Int) : List Nat := if stE ms t = 0 then stL ms t.toNat ms.length else []
def StPost (w : World) (ms : List Mh) (t : Int) (e : Ending) (w' : World) : Prop := ∃ v, e = .returned (.tuple #[v, .int .i64 (stE ms t)]) ∧ Ints w' w'.heap.size v (nats (stV ms t)) ∧ Below w.heap.size w w'
theorem ints_nil (w : World) (B : Nat) : Ints w B (.slice none 0 0) (nats []) := ⟨by simp [nats], none, 0, rfl, by simp [nats], fun h => by simp [nats] at h⟩
theorem st_bad {ms : List Mh} {t : Int} (h : stE ms t ≠ 0) : stV ms t = [] := by unfold stV; rw [if_neg h]
theorem frs_at {w : World} {B : Nat} {v : Value} {fs : List (Nat × Nat)} (h : Frs w B v fs) (hp : 0 < fs.length) : ∃ b off c, v = .slice (some ⟨b, off, none⟩) fs.length c ∧ fs.length ≤ c ∧ b < B ∧ ∀ k (hk : k < fs.length), w.cell? ⟨b, off + k * 2, none⟩ = some (.int .i64 ((fs[k].1 : Nat) : Int)) ∧ w.cell? ⟨b, off + k * 2 + 1, none⟩ = some (.int .i64 ((fs[k].2 : Nat) : Int)) := by
  obtain ⟨A, c, rfl, h2, h3⟩ := h
  obtain ⟨b, off, rfl, hb, hc⟩ := h3 hp
  exact ⟨b, off, c, rfl, h2, hb, hc⟩

set_option maxRecDepth 100000 in
set_option maxHeartbeats 4000000 in
theorem Stands_c (ms : List Mh) (t : Int) (v : Value) (w : World) (h : IsTr w w.heap.size v ms) : Calls Try.prog 38 #[v, .int .i64 t] w (StPost w ms t) := by
  have HT := Lib.hid h
  obtain ⟨s, rfl, A, c, rfl, hcap, hcell⟩ := h
  have HC := Lib.hid hcell
  obtain ⟨l, hn⟩ : ∃ n, ms.length = n := ⟨_, rfl⟩
  have HN := Lib.hid hn
  rw [hn] at HT ⊢
  clear hn hcell hcap
  go_enter Try.func38, Try.ntmps38
  go_wp2_with fail
  obtain ⟨W1, hW2⟩ : ∃ Wzz, (w.alloc (.cells #[.slice A l c] 35)) = Wzz := ⟨_, rfl⟩
  have B3 := Lib.hid (show Below w.heap.size w W1 by rw [← hW2]; exact ((Below.refl w.heap.size w).alloc (Nat.le_refl _) _))
  have X4 := Lib.hid (show Box W1 (w.heap.size) 35 #[.slice A l c] by rw [← hW2]; exact Box.made w 35 #[.slice A l c])
  have C5 := Lib.hid (HT.out.later B3.out)
  have SZ6 := Lib.hid (show W1.heap.size = w.heap.size + 1 by rw [← hW2]; simp)
  rw [hW2]
  clear hW2
  have q7 : W1.cell? ⟨w.heap.size, 0, none⟩ = some (.slice A l c) := X4.out.cell 0
  go_wp2_with fail
  refine (ValidTrain_c ms _ _ C5.out).mono ?_; rintro e v16 ⟨rfl, hb17⟩
  have X18 := Lib.hid (X4.out.later hb17)
  have C19 := Lib.hid (C5.out.later hb17)
  have B20 := Lib.hid (B3.out.trans (hb17.mono B3.out.size))
  clear hb17
  clear q7
  have q21 : v16.cell? ⟨w.heap.size, 0, none⟩ = some (.slice A l c) := X18.out.cell 0
  cases hv : trB ms
  · have HE := Lib.hid (show stE ms t = 70 by unfold stE; rw [hv]; rfl)
    have HZ := Lib.hid (st_bad (ms := ms) (t := t) (by rw [HE.out]; decide))
    clear hv
    go_wp2_with fail
    go_ret2
    exact ⟨_, by rw [HE.out]; rfl, by rw [HZ.out]; exact ints_nil _ _, B20.out⟩
  · have HV := Lib.hid hv
    have HFC := Lib.hid (tr_facts hv)
    have HL16 := Lib.hid (show l ≤ 16 by rw [← HN.out]; exact HFC.out.2.1)
    clear hv
    go_wp2_with fail
    refine (isCount_c t _).mono ?_; rintro e v22 ⟨rfl, rfl⟩
    cases ht : inB t 0 1000000
    · have HE := Lib.hid (show stE ms t = 1 by unfold stE; rw [HV.out, ht]; rfl)
      have HZ := Lib.hid (st_bad (ms := ms) (t := t) (by rw [HE.out]; decide))
      clear ht
      go_wp2_with fail
      go_ret2
      exact ⟨_, by rw [HE.out]; rfl, by rw [HZ.out]; exact ints_nil _ _, B20.out⟩
    · have HT1 := Lib.hid ht
      clear ht
      obtain ⟨T, rfl⟩ : ∃ T : Nat, t = (T : Int) := ⟨t.toNat, by have := inB_iff.1 HT1.out; omega⟩
      have HTT := Lib.hid (show T ≤ 1000000 by have := inB_iff.1 HT1.out; omega)
      have HSH := Lib.hid (shafts_c ms _ _ C19.out HV.out)
      go_wp2_with fail
      refine (HSH.out).mono ?_; rintro e v23 ⟨hsh, hb24⟩
      have X25 := Lib.hid (X18.out.later hb24)
      have C26 := Lib.hid (C19.out.later hb24)
      have B27 := Lib.hid (B20.out.trans (hb24.mono B20.out.size))
      clear hb24
      have HBSZ := Lib.hid B27.out
      rw [HN.out] at hsh
      clear q21
      have q28 : v23.cell? ⟨w.heap.size, 0, none⟩ = some (.slice A l c) := X25.out.cell 0
      rcases hsh with ⟨hok, sv, rfl, hfr⟩ | ⟨hno, rfl⟩
      · have HOK := Lib.hid hok
        obtain ⟨gs, off, sc, rfl, hsc, hgs, hcc⟩ := frs_at hfr (by rw [shL_len]; omega)
        rw [shL_len]
        have HF0 := Lib.hid hcc
        have e1 : ((0 : Int) != 0) = false := by decide
        obtain ⟨BB, hBB⟩ : ∃ BB, v23.heap.size = BB := ⟨_, rfl⟩
        have HGB := Lib.hid (show gs < BB by rw [← hBB]; exact hgs)
        have HWB := Lib.hid (show w.heap.size < BB by rw [← hBB]; exact X25.out.lt)
        have HBS0 := Lib.hid (Nat.le_of_eq hBB.symm)
        clear hok hfr hsc hgs hcc hBB
        go_wp2_with fail
        go_loopw [8, 28] (fun lv kv wr => ∃ k : Nat, k ≤ l ∧ kv = .int .i64 (k : Int) ∧ wr.ownsRow BB 3 1 lv (2 * k) (ints (nats (stL ms T k))) ∧ (∀ i (hi : i < (shL ms (l + 1)).length), wr.cell? ⟨gs, off + i * 2, none⟩ = some (.int .i64 (((shL ms (l + 1))[i].1 : Nat) : Int)) ∧ wr.cell? ⟨gs, off + i * 2 + 1, none⟩ = some (.int .i64 (((shL ms (l + 1))[i].2 : Nat) : Int))) ∧ Box wr w.heap.size 35 #[.slice A l c] ∧ Below w.heap.size w wr ∧ BB ≤ wr.heap.size) (fun _ kv _ => l - (intOf kv).toNat)
        case atStart => exact ⟨0, Nat.zero_le _, rfl, World.ownsRow_nil _ _ _ _, HF0.out, X25.out, B27.out, HBS0.out⟩
        case round =>
          obtain ⟨k, hk, rfl, hown, hfr, hbt, hbel, hsz⟩ := hrel
          have HO := Lib.hid hown
          have Hf := Lib.hid hfr
          have Xt := Lib.hid hbt
          have Bl := Lib.hid hbel
          have HSZ := Lib.hid hsz
          clear hown hfr hbt hbel hsz
          have q8 : wr.cell? ⟨w.heap.size, 0, none⟩ = some (.slice A l c) := Xt.out.cell 0
          by_cases hlt : k < l
          · have hkf : k < ms.length := by rw [HN.out]; exact hlt
            obtain ⟨gb, goff, rfl, hbB, hcc⟩ := HC.out (by omega)
            obtain ⟨y0, y1, y2⟩ := hcc k hkf
            have HM := Lib.hid (List.all_eq_true.1 HFC.out.2.2.1 _ (List.getElem_mem hkf))
            have HMF := Lib.hid (mfN_at hkf)
            obtain ⟨m, hm⟩ : ∃ m, ms[k] = m := ⟨_, rfl⟩
            rw [hm] at y0 y1 y2 HM HMF
            obtain ⟨x, y, z⟩ := m
            obtain ⟨X, Y, Z, rfl, rfl, rfl, x0, x1, yy0, yy1, z1⟩ := mesh_nat3 HM.out
            have HXY := Lib.hid (show (0 < X ∧ X ≤ 4096) ∧ (0 < Y ∧ Y ≤ 4096) from ⟨⟨x0, x1⟩, ⟨yy0, yy1⟩⟩)
            have q0 := keepd y0 Bl.out hbB
            have q1 := keepd y1 Bl.out hbB
            have q2 := keepd y2 Bl.out hbB
            have d1 : decide ((k : Int) < (l : Int)) = true := by simpa using hlt
            have d2 : decide (k < l) = true := by simpa using hlt
            have HLT := Lib.hid hlt
            have L16 : l ≤ 16 := HL16.out
            have k0 : (0 : Int) ≤ (k : Int) := by omega
            have k1 : (k : Int) < (l : Int) := by omega
            obtain ⟨n1, hn1⟩ : ∃ n, (shN ms k).1 = n := ⟨_, rfl⟩
            obtain ⟨e1, he1⟩ : ∃ n, (shN ms k).2 = n := ⟨_, rfl⟩
            obtain ⟨n2, hn2⟩ : ∃ n, (shN ms (k + 1)).1 = n := ⟨_, rfl⟩
            obtain ⟨e2, he2⟩ : ∃ n, (shN ms (k + 1)).2 = n := ⟨_, rfl⟩
            have r1 := trn_two HV.out k
            have r2 := trn_two HV.out (k + 1)
            have v1 : RtV n1 e1 := by
              rcases r1 with ⟨h, -⟩ | ⟨-, -, h, -⟩
              · exact absurd (HOK.out k (by omega)) h
              · rw [hn1, he1] at h; exact h
            have v2 : RtV n2 e2 := by
              rcases r2 with ⟨h, -⟩ | ⟨-, -, h, -⟩
              · exact absurd (HOK.out (k + 1) (by omega)) h
              · rw [hn2, he2] at h; exact h
            have HV12 := Lib.hid (And.intro v1 v2)
            have f1 := Hf.out k (by rw [shL_len]; omega)
            have f2 := Hf.out (k + 1) (by rw [shL_len]; omega)
            rw [shL_at, hn1, he1] at f1
            rw [shL_at, hn2, he2] at f2
            have HA := Lib.hid (show T * n1 * X / e1 % X = stA ms T k by unfold stA; rw [HMF.out, hn1, he1]; rfl)
            have HB' := Lib.hid (show T * n2 * Y / e2 % Y = stB ms T k by unfold stB; rw [HMF.out, hn2, he2]; rfl)
            have HF1 := Lib.hid f1
            have HF2 := Lib.hid f2
            have HSN := Lib.hid (show stL ms T (k + 1) = stL ms T k ++ [stA ms T k, stB ms T k] from rfl)
            obtain ⟨va, hva⟩ : ∃ x, stA ms T k = x := ⟨_, rfl⟩
            obtain ⟨vb, hvb⟩ : ∃ x, stB ms T k = x := ⟨_, rfl⟩
            rw [hva] at HA HSN
            rw [hvb] at HB' HSN
            clear hcc y0 y1 y2 hm x0 x1 yy0 yy1 z1 r1 r2 v1 v2 f1 f2 hn1 he1 hn2 he2 hva hvb hlt hkf
            dsimp only at q0 q1 q2
            have X9 := Lib.hid (Xt.out.alloc (.cells #[.int .i64 (X : Int), .int .i64 (Y : Int), .int .i64 (Z : Int)] 37))
            have B10 := Lib.hid (Bl.out.alloc Bl.out.size (.cells #[.int .i64 (X : Int), .int .i64 (Y : Int), .int .i64 (Z : Int)] 37))
            have X11 := Lib.hid (Box.made wr 37 #[.int .i64 (X : Int), .int .i64 (Y : Int), .int .i64 (Z : Int)])
            have q12 : (wr.alloc (.cells #[.int .i64 (X : Int), .int .i64 (Y : Int), .int .i64 (Z : Int)] 37)).cell? ⟨w.heap.size, 0, none⟩ = some (.slice (some ⟨gb, goff, none⟩) l c) := X9.out.cell 0
            have q13 : (wr.alloc (.cells #[.int .i64 (X : Int), .int .i64 (Y : Int), .int .i64 (Z : Int)] 37)).cell? ⟨wr.heap.size, 0, none⟩ = some (.int .i64 (X : Int)) := X11.out.cell 0
            have q14 : (wr.alloc (.cells #[.int .i64 (X : Int), .int .i64 (Y : Int), .int .i64 (Z : Int)] 37)).cell? ⟨wr.heap.size, 1, none⟩ = some (.int .i64 (Y : Int)) := X11.out.cell 1
            have q15 : (wr.alloc (.cells #[.int .i64 (X : Int), .int .i64 (Y : Int), .int .i64 (Z : Int)] 37)).cell? ⟨wr.heap.size, 2, none⟩ = some (.int .i64 (Z : Int)) := X11.out.cell 2
            go_wp2_with fail
            have HMS := Lib.hid (show wr.heap.size < (wr.alloc (.cells #[.int .i64 (X : Int), .int .i64 (Y : Int), .int .i64 (Z : Int)] 37)).heap.size by rw [World.size_alloc]; omega)
            have HGS := Lib.hid (show gs < wr.heap.size by have := HSZ.out; have := HGB.out; omega)
            have HOA := Lib.hid (HO.out.alloc (.cells #[.int .i64 (X : Int), .int .i64 (Y : Int), .int .i64 (Z : Int)] 37))
            refine stands12_c X Y n1 e1 n2 e2 T k l sc gs off wr.heap.size BB (2 * k) va vb u8 (ints (nats (stL ms T k))) (wr.alloc (.cells #[.int .i64 (X : Int), .int .i64 (Y : Int), .int .i64 (Z : Int)] 37)) _ _ _ _ _ _ _ _ _ _ _ _ _ _ _ _ _ _ _ _ _ _ _ _ _ _ _ _ _ _ _ _ _ _ _ _ _ _ _ _ _ _ _ _ _ _ _ _ _ _ _ ⟨X11.out.cell 0, X11.out.cell 1, HMS.out⟩ ⟨keepd HF1.out.1 ((Below.refl _ _).alloc (Nat.le_refl _) _) HGS.out, keepd HF1.out.2 ((Below.refl _ _).alloc (Nat.le_refl _) _) HGS.out, keepd HF2.out.1 ((Below.refl _ _).alloc (Nat.le_refl _) _) HGS.out, keepd HF2.out.2 ((Below.refl _ _).alloc (Nat.le_refl _) _) HGS.out, Nat.lt_trans HGS.out HMS.out⟩ HOA.out (by have := HMS.out; have := HSZ.out; omega) (fun g hg => by have := (HO.out.lt g hg).2; omega) (fun g hg => by have := (HO.out.lt g hg).1; have := HGB.out; omega) (by omega) HLT.out (by omega) HXY.out.1 HXY.out.2 HV12.out.1 HV12.out.2 HTT.out HA.out HB'.out ?_
            intro lv2 _ _ _ _ _ _ _ _ _ _ _ _ _ _ _ _ _ _ _ _ W7 hown7 hb7
            have HF7 := Lib.hid (show W7.ownsRow BB 3 1 lv2 (2 * (k + 1)) (ints (nats (stL ms T (k + 1)))) by
              rw [HSN.out, show nats (stL ms T k ++ [va, vb]) = nats (stL ms T k) ++ [(va : Int), (vb : Int)] by simp [nats], show ints (nats (stL ms T k) ++ [(va : Int), (vb : Int)]) = ints (nats (stL ms T k)) ++ [.int .i64 (va : Int), .int .i64 (vb : Int)] by simp [ints]]
              exact hown7)
            have HBB7 := Lib.hid (show Below BB (wr.alloc (.cells #[.int .i64 (X : Int), .int .i64 (Y : Int), .int .i64 (Z : Int)] 37)) W7 from hb7 BB (Nat.le_refl _))
            have HX7 := Lib.hid (show Box W7 w.heap.size 35 #[.slice (some ⟨gb, goff, none⟩) l c] from X9.out.below HBB7.out HWB.out)
            have HB7 := Lib.hid (show Below w.heap.size w W7 from B10.out.trans (HBB7.out.mono (Nat.le_of_lt HWB.out)))
            have HFR7 := Lib.hid (show ∀ i (hi : i < (shL ms (l + 1)).length), W7.cell? ⟨gs, off + i * 2, none⟩ = some (.int .i64 (((shL ms (l + 1))[i].1 : Nat) : Int)) ∧ W7.cell? ⟨gs, off + i * 2 + 1, none⟩ = some (.int .i64 (((shL ms (l + 1))[i].2 : Nat) : Int)) from fun i hi => ⟨keepd (keepd (Hf.out i hi).1 ((Below.refl _ _).alloc (Nat.le_refl _) _) HGS.out) HBB7.out HGB.out, keepd (keepd (Hf.out i hi).2 ((Below.refl _ _).alloc (Nat.le_refl _) _) HGS.out) HBB7.out HGB.out⟩)
            have HS7 := Lib.hid (show BB ≤ W7.heap.size by have := HBB7.out.size; have := HMS.out; have := HSZ.out; omega)
            clear hown7 hb7
            go_wp2_with fail
            go_roundw
            case rel => exact ⟨k + 1, by have := HLT.out; omega, by go_num, HF7.out, HFR7.out, HX7.out, HB7.out, HS7.out⟩
            case measure => have := HLT.out; simp [intOf]; omega
          · obtain rfl : k = l := by omega
            have d1 : decide ((k : Int) < (k : Int)) = false := by simp
            have d2 : decide (k < k) = false := by simp
            have HE := Lib.hid (show stE ms (T : Int) = 0 by unfold stE; rw [HV.out, HT1.out, HN.out, shB_iff.2 HOK.out]; rfl)
            have HZ := Lib.hid (show stV ms (T : Int) = stL ms T k by unfold stV; rw [HE.out, if_pos rfl, HN.out]; rfl)
            have HI := Lib.hid (own_ints (show OwnI wr BB u8 (stL ms T k) by unfold OwnI; rw [stL_len]; exact HO.out) (by rw [stL_len]; have := HL16.out; omega))
            go_wp2_with fail
            go_ret2
            exact ⟨_, by rw [HE.out]; rfl, by rw [HZ.out]; exact HI.out, Bl.out⟩
        
      · have HE := Lib.hid (show stE ms (T : Int) = 2 by unfold stE; rw [HV.out, HT1.out, HN.out, show shB ms (l + 1) = false by cases hs : shB ms (l + 1); rfl; exact absurd (shB_iff.1 hs) hno]; rfl)
        have HZ := Lib.hid (st_bad (ms := ms) (t := (T : Int)) (by rw [HE.out]; decide))
        have e1 : ((2 : Int) != 0) = true := by decide
        clear hno
        go_wp2_with fail
        go_ret2
        exact ⟨_, by rw [HE.out]; rfl, by rw [HZ.out]; exact ints_nil _ _, B27.out⟩

end Go.Proofs.Ytmmfmanjajefcaa

/- Layer 9: both halves of many tallies, one after the other, and where each one ends: the law's own function. -/
import Derived.Test.YthmiokcfkdpphaaUC
set_option linter.all false
namespace Go.Proofs.Ythmiokcfkdpphaa
open Go.RowKit

theorem ByL.good {w : World} {B : Nat} {v : Value} {l : List (List Int)} (h : ByL w B v l) (hl : longB l = false) : Good 300 l := by
  intro b hb
  obtain ⟨k, hk, rfl⟩ := List.getElem_of_mem hb
  obtain ⟨h1, A, c, rfl, h2, h3⟩ := h
  obtain ⟨b', off, rfl, hlt, hc⟩ := h3 (by omega)
  obtain ⟨s, hs, hm⟩ := hc k hk
  have e : nthB l k = l[k] := by simp [nthB, hk]
  rw [← e]
  exact ⟨hm.by, longB_all hl hk⟩
set_option maxRecDepth 100000 in
set_option maxHeartbeats 8000000 in
theorem halves_c (l : List (List Int)) (v : Value) (w : World) (hl : ByL w w.heap.size v l) (hn : l.length ≤ 30) (hlong : longB l = false) :
    Calls Try.prog 20 #[v] w fun e w' => ∃ sv fv ev, e = .returned (.tuple #[sv, fv, ev, .bool true]) ∧ Own3 w' w.heap.size sv fv ev (catS l) (catF l) (endsList l) ∧ Below w.heap.size w w' := by
  have HG := Lib.hid (hl.good hlong)
  obtain ⟨l1, A, c, rfl, l2, l3⟩ := hl
  have L3 := Lib.hid l3
  have HLO := Lib.hid hlong
  obtain ⟨n, hln⟩ : ∃ z, l.length = z := ⟨_, rfl⟩
  have HLN := Lib.hid hln
  rw [hln] at L3 hn ⊢
  have H0 : Own3 (w.alloc (.cells #[.int .i64 0] 3)) w.heap.size (.slice none 0 0) (.slice none 0 0) (.slice (some ⟨w.heap.size, 0, none⟩) 1 1) [] [] [0] :=
    ⟨own_nil _ _, own_nil _ _, World.ownsRow_lit (base := w.heap.size) (e := 3) (size := 1) w #[.int .i64 0] 1 (Nat.le_refl _) (by unfold maxLen; omega) rfl, (fun g e => (by cases e)), (fun g e => (by cases e)), (fun g e => (by cases e))⟩
  have HH0 := Lib.hid H0
  have HB0 := Lib.hid ((Below.refl w.heap.size w).alloc (Nat.le_refl _) (.cells #[.int .i64 0] 3))
  clear hln l1 l2 l3 hlong H0
  go_enter Try.func20, Try.ntmps20
  go_wp2_with fail
  go_loopw [6, 7, 8, 9] (fun sv fv ev i wr => ∃ k : Nat, k ≤ n ∧ i = .int .i64 (k : Int) ∧ Own3 wr w.heap.size sv fv ev (catS (l.take k)) (catF (l.take k)) (endsList (l.take k)) ∧ Below w.heap.size w wr) (fun _ _ _ i _ => n - (intOf i).toNat)
  case atStart => exact ⟨0, Nat.zero_le _, rfl, HH0.out, HB0.out⟩
  case round =>
    clear HH0 HB0
    obtain ⟨k, hk, rfl, ho, hbr⟩ := hrel
    have HO := Lib.hid ho
    have HB := Lib.hid hbr
    clear ho
    by_cases hlt : k < n
    · obtain ⟨b, off, rfl, hbB, hcc⟩ := L3.out (by omega)
      obtain ⟨s1, hx, hs1⟩ := hcc k hlt
      have hx := keepd hx hbr hbB
      have hi1 : (0 : Int) ≤ (k : Int) := by omega
      have hi2 : (k : Int) < (n : Int) := by omega
      have hdl : decide ((k : Int) < (n : Int)) = true := by simpa using hlt
      have HL := Lib.hid hlt
      have HS1 := Lib.hid hs1
      have hkl : k < l.length := by have := HLN.out; omega
      have HTK := Lib.hid (show l.take (k + 1) = l.take k ++ [nthB l k] by rw [List.take_succ_eq_append_getElem hkl]; simp [nthB, hkl])
      have HES := Lib.hid (endsList_snoc l k hkl)
      have HM := Lib.hid (longB_all HLO.out hkl)
      have HCL := Lib.hid (catS_len (HG.out.take (k + 1)))
      have HCL0 := Lib.hid (catS_len (HG.out.take k))
      have hcf : (catF (l.take k)).length ≤ 120 := by rw [catF_len, List.length_take]; omega
      have HCF := Lib.hid hcf
      obtain ⟨A1, c1, rfl, -⟩ := hs1.shape
      clear hcc hs1 hbr hlt hkl hcf
      go_wp2_with fail
      refine (Notch_c (nthB l k) _ wr (HS1.out.mono HB.out HB.out.size) (by have := HM.out; omega)).mono ?_; rintro e w1 ⟨sn, fn, rfl, n1, n2, -, fr2, hb1⟩
      have N2 := Lib.hid n2
      have FR2 := Lib.hid (show ∀ g, fn.ownBlock = some g → some g ≠ u6.ownBlock from fun g hg e => by have := fr2 g hg; have := (HO.out.1.lt g e.symm).2; omega)
      have HB1 := Lib.hid (HB.out.trans (hb1.mono HB.out.size))
      have HO1 := Lib.hid (HO.out.later hb1)
      have o1 := HO1.out.1
      have HS1s := Lib.hid HB1.out.size
      have HLT1 := Lib.hid (fun k hk => (o1.lt k hk).1)
      have HSM1 := Lib.hid (show (catS (l.take k)).length + (stockL (nthB l k)).length ≤ 1099511627776 by
        have h1 := HCL0.out; rw [List.length_take] at h1
        have h2 : (300 + 2) * min k l.length ≤ 302 * 30 := Nat.mul_le_mul (Nat.le_refl _) (by have := HL.out; omega)
        rw [stockL_len]; have := HM.out; omega)
      have HSM2 := Lib.hid (show (catF (l.take k)).length + (foilL (nthB l k)).length ≤ 1099511627776 by rw [foilL_len]; have := HCF.out; omega)
      have HSM3 := Lib.hid (show (endsList (l.take k)).length ≤ 1099511627776 by rw [endsList_len, List.length_take]; omega)
      clear n2 hb1 fr2 HO HB
      go_wp2_with (first
        | (at_builtin; refine wpList_bytes rfl _ _ rfl w.heap.size u6 (catS (l.take k)) rfl o1 _ (stockL (nthB l k)) rfl n1 HSM1.out HS1s.out ?_
           intro v2 w2 hown2 hgrow2 hnw2
           have o2 := HO1.out.up1 hown2 hgrow2 hnw2
           have hsh2 := own_shape hown2
           have hb2 := HB1.out.grown hgrow2 HS1s.out HLT1.out
           have n2 : Bys w2 w2.heap.size fn (foilL (nthB l k)) := N2.out.grown hgrow2 (Nat.le_refl _) hgrow2.size FR2.out
           obtain ⟨A2, c2, rfl⟩ := hsh2
           obtain ⟨m2, hm2⟩ : ∃ z, (catS (l.take k) ++ stockL (nthB l k)).length = z := ⟨_, rfl⟩
           have HM2 := Lib.hid hm2
           rw [hm2] at o2 ⊢
           have HO2 := Lib.hid o2
           have of2 := o2.2.1
           have HB2 := Lib.hid hb2
           have HS2s := Lib.hid hb2.size
           have HLT2 := Lib.hid (fun k hk => (of2.lt k hk).1)
           clear hown2 hgrow2 hnw2 hb2 o1 n1 o2 hm2)
        | (at_builtin; refine wpList_bytes rfl _ _ rfl w.heap.size u7 (catF (l.take k)) rfl of2 _ (foilL (nthB l k)) rfl n2 HSM2.out HS2s.out ?_
           intro v3 w3 hown3 hgrow3 hnw3
           have o3 := HO2.out.up2 hown3 hgrow3 hnw3
           have hb3 := HB2.out.grown hgrow3 HS2s.out HLT2.out
           obtain ⟨v4, w4, hr4, hown4, hgrow4, hnw4⟩ := app_int w3 w.heap.size 26 u8 (endsList (l.take k)) o3.2.2.1 (m2 : Int) HSM3.out hb3.size
           have HR4 := Lib.hid hr4
           have o4 := (o3.later ((Below.refl w3.heap.size w3).alloc (Nat.le_refl _) (.cells #[.int .i64 (m2 : Int)] 3))).up3 hown4 hgrow4 hnw4
           have HO4 := Lib.hid o4
           have HB4 := Lib.hid ((hb3.alloc hb3.size (.cells #[.int .i64 (m2 : Int)] 3)).grown hgrow4 (by rw [World.size_alloc]; have := hb3.size; omega) (fun k e => (o3.2.2.1.lt k e).1))
           clear hown3 hgrow3 hnw3 o3 hb3 hr4 hown4 hgrow4 hnw4 o4 of2 n2)
        | (at_builtin; refine wpList_app 26 _ _ rfl rfl rfl rfl HR4.out ?_))
      go_roundw
      case rel =>
        refine ⟨k + 1, by have := HL.out; omega, by go_num, ?_, HB4.out⟩
        have h4 := HO4.out
        have e1 : catS (l.take (k + 1)) = catS (l.take k) ++ stockL (nthB l k) := by rw [HTK.out, catS_snoc]
        have e2 : catF (l.take (k + 1)) = catF (l.take k) ++ foilL (nthB l k) := by rw [HTK.out, catF_snoc]
        have e3 := HES.out
        rw [e1, HM2.out] at e3
        rw [e1, e2, e3]
        exact h4
      case measure => have := HL.out; simp [intOf]; omega
    · obtain rfl : k = n := by omega
      have hdl : decide ((k : Int) < (k : Int)) = false := by simp
      have HTE := Lib.hid (show l.take k = l by rw [← HLN.out, List.take_length])
      clear hlt hbr
      go_wp2_with fail
      refine bodyPost_ret (v := .tuple #[u6, u7, u8, .bool true]) (by simp [results, Try.results20, go_sem]) rfl ?_
      have h := HO.out
      rw [HTE.out] at h
      exact ⟨_, _, _, rfl, h, HB.out⟩
end Go.Proofs.Ythmiokcfkdpphaa

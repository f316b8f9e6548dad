/- Layer 7: the ratio of a train and the turns of its shafts, as the program has them. -/
import Derived.Test.YtmmfmanjajefcaaLA
set_option linter.all false
namespace Go.Proofs.Ytmmfmanjajefcaa
open Go.RowKit

def rtR (ms : List Mh) : Rr := if trB ms then rOf (frN (ms.map mF)) (frD (ms.map mF)) else bad 70
/-- the teeth of the first driver -/
def drv (ms : List Mh) : Nat := (ms.headD (1, 1, 0)).1.toNat
def trnR (ms : List Mh) (s : Nat) : Rr := rOf (frN ((ms.take s).map mF)) (frD ((ms.take s).map mF) * drv ms)
theorem tr_facts {ms : List Mh} (h : trB ms = true) : 1 ≤ ms.length ∧ ms.length ≤ 16 ∧ ms.all mB = true ∧ 1 ≤ drv ms ∧ drv ms ≤ 4096 ∧ ∃ (h0 : 0 < ms.length), ms[0].1 = (drv ms : Int) := by
  unfold trB at h
  rw [Bool.and_eq_true] at h
  have hl := inB_iff.1 h.1
  have h0 : 0 < ms.length := by omega
  have hb := List.all_eq_true.1 h.2 ms[0] (List.getElem_mem h0)
  unfold mB meshB at hb
  rw [Bool.and_eq_true, Bool.and_eq_true] at hb
  have i1 := inB_iff.1 hb.1.1
  have e : drv ms = ms[0].1.toNat := by
    unfold drv
    cases ms with
    | nil => simp at h0
    | cons m l => rfl
  rw [e]
  refine ⟨by omega, by omega, h.2, by omega, by omega, h0, by omega⟩

set_option maxRecDepth 100000 in
set_option maxHeartbeats 4000000 in
theorem RatioOf_c (ms : List Mh) (v : Value) (w : World) (h : IsTr w w.heap.size v ms) : Calls Try.prog 28 #[v] w fun e w' => e = .returned (rrV (rtR ms)) ∧ Below w.heap.size w w' := by
  have HT := Lib.hid h
  obtain ⟨s, rfl, A, c, rfl, -, -⟩ := h
  obtain ⟨n, hn⟩ : ∃ n, ms.length = n := ⟨_, rfl⟩
  rw [hn] at HT ⊢
  have HN := Lib.hid hn
  clear hn
  have b2 := Box.made (w.alloc (.cells #[.slice A n c] 35)) 23 #[.int .i64 0, .int .i64 0]
  rw [World.size_alloc] at b2
  have HX := Lib.hid b2
  have HB := Lib.hid (Box.alloc (Box.made w 35 #[.slice A n c]) (.cells #[.int .i64 0, .int .i64 0] 23))
  have HA := Lib.hid (((Below.refl w.heap.size w).alloc (Nat.le_refl _) (.cells #[.slice A n c] 35)).alloc (by simp) (.cells #[.int .i64 0, .int .i64 0] 23))
  have HT0 := Lib.hid (HT.out.mono HA.out (by simp; omega : w.heap.size ≤ ((w.alloc (.cells #[.slice A n c] 35)).alloc (.cells #[.int .i64 0, .int .i64 0] 23)).heap.size))
  clear b2
  cases hv : trB ms
  · have HR := Lib.hid (show rtR ms = ⟨0, 0, 70⟩ by unfold rtR; rw [hv]; rfl)
    go_enter Try.func28, Try.ntmps28
    go_wp2_with fail
    refine (ValidTrain_c ms _ _ HT0.out).mono ?_; rintro e w1 ⟨rfl, hb1⟩
    rw [hv]
    have X1 := Lib.hid (HX.out.later hb1)
    have B1 := Lib.hid (HA.out.trans (hb1.mono (by simp; omega)))
    have z0 : w1.cell? ⟨w.heap.size + 1, 0, none⟩ = some (.int .i64 0) := X1.out.cell 0
    have z1 : w1.cell? ⟨w.heap.size + 1, 1, none⟩ = some (.int .i64 0) := X1.out.cell 1
    have fz : ∀ o, w1.frozen? ⟨w.heap.size + 1, o, none⟩ = false := fun o => X1.out.free o
    clear hb1 hv
    go_wp2_with fail
    exact endRr Try.results28 rfl rfl HR.out X1.out (by omega) B1.out
  have HV := Lib.hid hv
  have HFC := Lib.hid (tr_facts hv)
  obtain ⟨fs, hfs⟩ : ∃ fs, ms.map mF = fs := ⟨_, rfl⟩
  obtain ⟨r, hr⟩ : ∃ r, rOf (frN fs) (frD fs) = r := ⟨_, rfl⟩
  have HR := Lib.hid (show rtR ms = r by unfold rtR; rw [hv, hfs, hr]; rfl)
  have HWC := Lib.hid (show ∀ W V, Mss W W.heap.size V ms → Calls Try.prog 66 #[V] W (WhPost W fs) from fun W V hW => by
    rw [← hfs]; exact wheels_c ms _ W hW (by have := HFC.out.2.1; omega) HFC.out.2.2.1)
  have HPC := Lib.hid (show ∀ W V, Frs W W.heap.size V fs → Calls Try.prog 59 #[V] W (fun e w' => e = .returned (rrV r) ∧ Below W.heap.size W w') from fun W V hW => by
    have h := product_c _ V W hW (by rw [← hfs]; exact frOk_ms HFC.out.2.2.1 (by have := HFC.out.2.1; omega))
    rw [hr] at h
    exact h)
  clear hv hfs hr
  go_enter Try.func28, Try.ntmps28
  go_wp2_with fail
  refine (ValidTrain_c ms _ _ HT0.out).mono ?_; rintro e w1 ⟨rfl, hb1⟩
  rw [HV.out]
  have X1 := Lib.hid (HX.out.later hb1)
  have B1 := Lib.hid (HA.out.trans (hb1.mono (by simp; omega)))
  have T1 := Lib.hid (show Mss w1 w1.heap.size (.slice A n c) ms by obtain ⟨s, he, hs⟩ := HT0.out.later hb1; cases he; exact hs)
  have t0 : w1.cell? ⟨w.heap.size, 0, none⟩ = some (.slice A n c) := (HB.out.later hb1).cell 0
  clear hb1
  go_wp2_with fail
  refine (HWC.out w1 _ T1.out).mono ?_; rintro e w2 ⟨g, rfl, hg, hgs, hb2⟩
  have X2 := Lib.hid (X1.out.later hb2)
  have B2 := Lib.hid (B1.out.trans (hb2.mono B1.out.size))
  have F2 := Lib.hid (hg.frs (Nat.le_refl _))
  clear hg hgs hb2 t0
  go_wp2_with fail
  refine (HPC.out w2 _ F2.out).mono ?_; rintro e w3 ⟨rfl, hb3⟩
  have X3 := Lib.hid (X2.out.later hb3)
  have B3 := Lib.hid (B2.out.trans (hb3.mono B2.out.size))
  have z0 : w3.cell? ⟨w.heap.size + 1, 0, none⟩ = some (.int .i64 0) := X3.out.cell 0
  have z1 : w3.cell? ⟨w.heap.size + 1, 1, none⟩ = some (.int .i64 0) := X3.out.cell 1
  have fz : ∀ o, w3.frozen? ⟨w.heap.size + 1, o, none⟩ = false := fun o => X3.out.free o
  clear hb3
  go_wp2_with fail
  exact endRr Try.results28 rfl rfl HR.out X3.out (by omega) B3.out

set_option maxRecDepth 100000 in
set_option maxHeartbeats 4000000 in
theorem turnsOf_c (ms : List Mh) (s : Nat) (v : Value) (w : World) (h : IsTr w w.heap.size v ms) (hv : trB ms = true) (hs : s ≤ ms.length) : Calls Try.prog 95 #[v, .int .i64 (s : Int)] w fun e w' => e = .returned (rrV (trnR ms s)) ∧ Below w.heap.size w w' := by
  have HT := Lib.hid h
  obtain ⟨sv, rfl, A, c, rfl, hcap, hcell⟩ := h
  obtain ⟨k1, k2, k3, k4, k5, k6, k7⟩ := tr_facts hv
  obtain ⟨b, off, rfl, hbB, hcc⟩ := hcell k6
  obtain ⟨y0, y1, y2⟩ := hcc 0 k6
  rw [k7] at y0
  obtain ⟨n, hn⟩ : ∃ n, ms.length = n := ⟨_, rfl⟩
  obtain ⟨D, hD⟩ : ∃ D, drv ms = D := ⟨_, rfl⟩
  have HR := Lib.hid (show trnR ms s = rOf (frN ((ms.take s).map mF)) (frD ((ms.take s).map mF) * D) by unfold trnR; rw [hD])
  rw [hD] at y0 k4 k5
  have HN := Lib.hid hn
  rw [hn] at HT hs hcap k1 k2
  have HC := Lib.hid hcap
  have HK := Lib.hid k3
  have HDD := Lib.hid (And.intro k4 k5)
  have n0 : (0 : Int) < (n : Int) := by omega
  have n00 : 0 < n := by omega
  have HSN := Lib.hid (And.intro hs k2)
  rw [hn]
  clear hcell hcc y1 y2 k3 k6 k7 hn hD hv hcap
  have b2 := Box.made (w.alloc (.cells #[.slice (some ⟨b, off, none⟩) n c] 35)) 23 #[.int .i64 0, .int .i64 0]
  rw [World.size_alloc] at b2
  have HX := Lib.hid b2
  have HB := Lib.hid (Box.alloc (Box.made w 35 #[.slice (some ⟨b, off, none⟩) n c]) (.cells #[.int .i64 0, .int .i64 0] 23))
  have HA := Lib.hid (((Below.refl w.heap.size w).alloc (Nat.le_refl _) (.cells #[.slice (some ⟨b, off, none⟩) n c] 35)).alloc (by simp) (.cells #[.int .i64 0, .int .i64 0] 23))
  have y0' : w.cell? ⟨b, off, none⟩ = some (.int .i64 (D : Int)) := by simpa using y0
  clear b2 y0
  go_enter Try.func95, Try.ntmps95
  go_wp2_with fail
  obtain ⟨W0, hW0⟩ : ∃ W, ((w.alloc (.cells #[.slice (some ⟨b, off, none⟩) n c] 35)).alloc (.cells #[.int .i64 0, .int .i64 0] 23)) = W := ⟨_, rfl⟩
  have hsz : W0.heap.size = w.heap.size + 1 + 1 := by rw [← hW0]; simp
  rw [hW0] at HX HB HA
  have bF := Box.made W0 75 #[.int .i64 1, .int .i64 (D : Int)]
  rw [hsz] at bF
  have HM := Lib.hid (show Mss (W0.alloc (.cells #[.int .i64 1, .int .i64 (D : Int)] 75)) (W0.alloc (.cells #[.int .i64 1, .int .i64 (D : Int)] 75)).heap.size (.slice (some ⟨b, off, none⟩) n c) ms by
    obtain ⟨s, he, hs⟩ := HT.out.mono (HA.out.alloc HA.out.size (.cells #[.int .i64 1, .int .i64 (D : Int)] 75)) (by rw [World.size_alloc, hsz]; omega : w.heap.size ≤ (W0.alloc (.cells #[.int .i64 1, .int .i64 (D : Int)] 75)).heap.size)
    cases he; exact hs)
  obtain ⟨r, hr⟩ : ∃ r, rOf (frN ((ms.take s).map mF)) (frD ((ms.take s).map mF) * D) = r := ⟨_, rfl⟩
  rw [hr] at HR
  rw [hW0]
  refine turns2_c ms _ r _ n c s w.heap.size (w.heap.size + 1) (w.heap.size + 1 + 1) D _ _ _ _ _ _ _ _ _ _ _ _ _ _ _ _ _ _ _ _ _ _ HM.out HN.out HSN.out.2 HSN.out.1 HC.out HK.out HDD.out rfl hr (HB.out.alloc _) (HX.out.alloc _) bF ?_
  intro _ _ _ _ _ _ _ _ _ _ _ W hX hB
  have HBF := Lib.hid (show Below w.heap.size w W from (HA.out.alloc HA.out.size _).trans (hB _ (by omega) (by rw [World.size_alloc, hsz]; omega)))
  have HXF := Lib.hid hX
  clear hX hB bF hsz hr hW0
  go_wp2_with fail
  exact endRb Try.results95 rfl rfl HR.out HXF.out HBF.out
end Go.Proofs.Ytmmfmanjajefcaa

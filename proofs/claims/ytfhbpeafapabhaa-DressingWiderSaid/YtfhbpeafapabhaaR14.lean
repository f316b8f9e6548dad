/- DressingFewest: the law. -/
import Derived.Test.YtfhbpeafapabhaaR13
import Derived.Test.YtfhbpeafapabhaaQ9
import Derived.Test.YtfhbpeafapabhaaW3
namespace Go.Proofs.Ytfhbpeafapabhaa
open Go.RowKit

set_option maxHeartbeats 4000000 in
theorem before_c (l r : List Int) (v u : Value) (w : World) (hl : Ints w w.heap.size v l) (hr : Ints w w.heap.size u r) :
    Calls Try.prog 57 #[v, u] w fun e w' => ∃ q : Bool, e = .returned (.bool q) ∧ (q = true → ∃ i, i < l.length ∧ (∀ j, j < i → nth l j = nth r j) ∧ nth l i < nth r i) ∧ Below w.heap.size w w' := by
  obtain ⟨l1, A, c, rfl, l2, l3⟩ := hl
  obtain ⟨r1, A', c', rfl, r2, r3⟩ := hr
  go_enter Try.func57, Try.ntmps57
  go_wp2_with fail
  go_loopw [5] (fun i wr => ∃ k : Nat, k ≤ l.length ∧ i = .int .i64 (k : Int) ∧ (∀ j, j < k → nth l j = nth r j) ∧ Below w.heap.size w wr) (fun i _ => l.length - (intOf i).toNat)
  case atStart => exact ⟨0, Nat.zero_le _, rfl, fun j h => by omega, Below.refl _ _⟩
  case round =>
    obtain ⟨k, hk, rfl, htk, hbr⟩ := hrel
    have Htk := Lib.hid htk
    have HB := Lib.hid hbr
    clear htk
    by_cases hlt : k < l.length
    · by_cases hlt2 : k < r.length
      · obtain ⟨b, off, rfl, hbB, hcc⟩ := l3 (by omega)
        obtain ⟨b', off', rfl, hbB', hcc'⟩ := r3 (by omega)
        have hx := keepd (hcc k hlt) hbr hbB
        have hy := keepd (hcc' k hlt2) hbr hbB'
        have hi1 : (0 : Int) ≤ (k : Int) := by omega
        have hi2 : (k : Int) < (l.length : Int) := by omega
        have hi3 : (k : Int) < (r.length : Int) := by omega
        have hdl : decide ((k : Int) < (l.length : Int)) = true := by simpa using hlt
        have hdr : decide ((k : Int) < (r.length : Int)) = true := by simpa using hlt2
        have hdl2 : decide (k < l.length) = true := by simpa using hlt
        have hdr2 : decide (k < r.length) = true := by simpa using hlt2
        have Hbd := Lib.hid (show ∀ nq, Below w.heap.size w (wr.drewN nq) from fun nq => ⟨hbr.os, hbr.tape, hbr.output, hbr.size, hbr.block⟩)
        have Hbd2 := Lib.hid (show ∀ nq nr, Below w.heap.size w ((wr.drewN nq).drewN nr) from fun nq nr => ⟨hbr.os, hbr.tape, hbr.output, hbr.size, hbr.block⟩)
        have HL := Lib.hid (show k < l.length ∧ l.length * 8 ≤ 140737488351232 from ⟨hlt, l1⟩)
        have hk9 : k ≤ 17592186044416 := by omega
        have HE := Lib.hid (show nth l k = nth r k → ∀ j, j < k + 1 → nth l j = nth r j from fun hz j hj => by
          by_cases e : j = k
          · subst e; exact hz
          · exact Htk.out j (by omega))
        have HN := Lib.hid (show nth l k < nth r k → ∃ i, i < l.length ∧ (∀ j, j < i → nth l j = nth r j) ∧ nth l i < nth r i from fun hz => ⟨k, HL.out.1, Htk.out, hz⟩)
        clear l3 r3 hcc hcc' hlt2 hbr hlt hk
        generalize hgx : nth l k = x at *
        generalize hgy : nth r k = y at *
        clear hgx hgy
        by_cases hz : x = y
        · have hne : (x != y) = false := by simp [hz]
          have Hs := Lib.hid (HE.out hz)
          clear hz
          go_wp2_with fail
          go_quiet (fail)
          go_wp2_with fail
          go_roundw
          case rel => exact ⟨k + 1, by have := HL.out; omega, by go_num, Hs.out, Hbd.out _⟩
          case measure => have := HL.out; simp [intOf]; omega
        · have hne : (x != y) = true := by simp [hz]
          clear hz
          by_cases hs : x < y
          · have hds : decide (x < y) = true := by simpa using hs
            have Hs := Lib.hid (HN.out hs)
            clear hs
            go_wp2_with fail
            go_quiet (fail)
            generalize nq = n1 at *
            go_wp2_with fail
            go_quiet (fail)
            go_wp2_with fail
            go_ret
            exact ⟨true, rfl, fun _ => Hs.out, Hbd2.out _ _⟩
          · have hds : decide (x < y) = false := by simpa using hs
            clear hs
            go_wp2_with fail
            go_quiet (fail)
            generalize nq = n1 at *
            go_wp2_with fail
            go_quiet (fail)
            go_wp2_with fail
            go_ret
            exact ⟨false, rfl, fun h => (Bool.noConfusion h), Hbd2.out _ _⟩
      · have hdl : decide ((k : Int) < (l.length : Int)) = true := by simpa using hlt
        have hdr : decide ((k : Int) < (r.length : Int)) = false := by simpa using hlt2
        have hdl2 : decide (k < l.length) = true := by simpa using hlt
        have hdr2 : decide (k < r.length) = false := by simpa using hlt2
        clear l3 r3 hbr hlt hlt2 hk
        go_wp2_with fail
        go_ret
        exact ⟨false, rfl, fun h => (Bool.noConfusion h), HB.out⟩
    · obtain rfl : k = l.length := by omega
      have hdl : decide ((l.length : Int) < (l.length : Int)) = false := by simp
      clear l3 r3 hbr hlt hk
      go_wp2_with fail
      go_ret
      exact ⟨false, rfl, fun h => (Bool.noConfusion h), HB.out⟩

theorem Does_e (t : Tk) (p : List Int) (E : Int) (hE : doesE t p = E) (v u : Value) (w : World) (h : IsTask w w.heap.size v t) (hp : Ints w w.heap.size u p) :
    Calls Try.prog 28 #[v, u] w fun e w' => e = .returned (.int .i64 E) ∧ Below w.heap.size w w' := by
  have := Does_c t p v u w h hp
  rwa [hE] at this
theorem Fewest_e (t : Tk) (n E : Int) (hn : fwV t = n) (hE : stE t = E) (v : Value) (w : World) (h : IsTask w w.heap.size v t) : Calls Try.prog 30 #[v] w (Ret2 w n E) := by
  have := Fewest_c t v w h
  rwa [hn, hE] at this
theorem Plan_e (t : Tk) (l : List Int) (E : Int) (hn : plR t = l) (hE : stE t = E) (v : Value) (w : World) (h : IsTask w w.heap.size v t) : Calls Try.prog 32 #[v] w (RetL w l E) := by
  have := Plan_c t v w h
  rwa [hn, hE] at this

set_option maxRecDepth 100000 in
set_option maxHeartbeats 16000000 in
theorem DressingFewest_c (t : Tk) (p : List Int) (v u : Value) (w : World) (h : IsTask w w.heap.size v t) (hp : Ints w w.heap.size u p) :
    Calls Try.prog 10 #[v, u] w fun e w' => e = .returned (.bool true) ∧ Below w.heap.size w w' := by
  have HT := Lib.hid h
  have HP := Lib.hid hp
  obtain ⟨s, rfl, A, c, rfl, hcap, hcell⟩ := h
  obtain ⟨hl, A', c', rfl, hcap', hcell'⟩ := hp
  have HB := Lib.hid (Box.made w 24 #[.int .i64 t.wide, .slice A t.need.length c])
  clear hcap hcell hcap' hcell' hl
  go_enter Try.func10, Try.ntmps10
  go_wp2_with fail
  refine (awake_c _).mono ?_; rintro e w1 ⟨rfl, hb1⟩
  have B1 : Below w.heap.size w w1 := boxed hb1
  have H1 := Lib.hid (show Below w.heap.size w w1 ∧ Box w1 w.heap.size 24 #[.int .i64 t.wide, .slice A t.need.length c] from ⟨B1, HB.out.later hb1⟩)
  have k0 : w1.cell? ⟨w.heap.size, 0, none⟩ = some (.int .i64 t.wide) := H1.out.2.cell 0
  have k1 : w1.cell? ⟨w.heap.size, 1, none⟩ = some (.slice A t.need.length c) := H1.out.2.cell 1
  clear B1 hb1
  go_wp2_with fail
  refine (short_c t _ _ (HT.out.mono H1.out.1 H1.out.1.size)).mono ?_; rintro e w2 ⟨rfl, hb2⟩
  have H2 := Lib.hid (show Below w.heap.size w w2 ∧ Box w2 w.heap.size 24 #[.int .i64 t.wide, .slice A t.need.length c] from ⟨H1.out.1.trans (hb2.mono H1.out.1.size), H1.out.2.later hb2⟩)
  clear k0 k1 hb2
  cases hsh : shortB t
  · clear hsh
    go_wp2_with fail
    go_ret
    exact ⟨rfl, H2.out.1⟩
  clear hsh
  by_cases h1 : p.length ≤ 1000
  case neg =>
    have d1 : decide ((1000 : Int) < (p.length : Int)) = true := by simp; omega
    have d2 : decide (1000 < p.length) = true := by simp; omega
    clear h1
    go_wp2_with fail
    go_ret
    exact ⟨rfl, H2.out.1⟩
  have d1 : decide ((1000 : Int) < (p.length : Int)) = false := by simp; omega
  have d2 : decide (1000 < p.length) = false := by simp; omega
  clear h1
  have k0 : w2.cell? ⟨w.heap.size, 0, none⟩ = some (.int .i64 t.wide) := H2.out.2.cell 0
  have k1 : w2.cell? ⟨w.heap.size, 1, none⟩ = some (.slice A t.need.length c) := H2.out.2.cell 1
  go_wp2_with fail
  clear d1 d2 k0 k1
  obtain ⟨n, hn⟩ : ∃ n, fwV t = n := ⟨_, rfl⟩
  obtain ⟨E, hE⟩ : ∃ E, stE t = E := ⟨_, rfl⟩
  obtain ⟨D, hD⟩ : ∃ D, doesE t p = D := ⟨_, rfl⟩
  obtain ⟨own, hown⟩ : ∃ l, plR t = l := ⟨_, rfl⟩
  obtain ⟨tv, htv⟩ : ∃ x, totV p = x := ⟨_, rfl⟩
  obtain ⟨te, hte⟩ : ∃ x, totE p = x := ⟨_, rfl⟩
  have HV := Lib.hid (⟨hn, hE, hD, hown, htv, hte⟩ : fwV t = n ∧ stE t = E ∧ doesE t p = D ∧ plR t = own ∧ totV p = tv ∧ totE p = te)
  have HX := Lib.hid (show (E ≠ 0 → D ≠ 0) ∧ (E = 0 → totV own = n ∧ totE own = 0 ∧ doesE t own = 0) ∧ (D = 0 → te = 0 ∧ n ≤ tv) by
    subst hn hE hD hown htv hte
    exact ⟨fun h1 h2 => h1 (does_least h2).1, fun h1 => ⟨by rw [(does_total (plR_does h1)).2, plR_pre h1 (Nat.le_refl _)]; unfold fwV; rw [if_pos h1], (does_total (plR_does h1)).1, plR_does h1⟩, fun h1 => ⟨(does_total h1).1, does_min h1⟩⟩)
  have HNB := Lib.hid (show D = 0 → ¬ ∃ i, i < p.length ∧ (∀ j, j < i → nth p j = nth own j) ∧ nth p i < nth own i by
    subst hD hown
    rintro h1 ⟨i, h2, h3, h4⟩
    exact no_before h1 h2 h3 h4)
  clear hn hE hD hown htv hte
  refine (Fewest_e t n E HV.out.1 HV.out.2.1 _ _ (HT.out.mono H2.out.1 H2.out.1.size)).mono ?_; rintro e w3 ⟨rfl, hb3⟩
  have H3 := Lib.hid (show Below w.heap.size w w3 ∧ Box w3 w.heap.size 24 #[.int .i64 t.wide, .slice A t.need.length c] from ⟨H2.out.1.trans (hb3.mono H2.out.1.size), H2.out.2.later hb3⟩)
  have k0 : w3.cell? ⟨w.heap.size, 0, none⟩ = some (.int .i64 t.wide) := H3.out.2.cell 0
  have k1 : w3.cell? ⟨w.heap.size, 1, none⟩ = some (.slice A t.need.length c) := H3.out.2.cell 1
  clear hb3
  go_wp2_with fail
  clear k0 k1
  refine (Plan_e t own E HV.out.2.2.2.1 HV.out.2.1 _ _ (HT.out.mono H3.out.1 H3.out.1.size)).mono ?_; rintro e w4 ⟨s4, rfl, hs4, hb4⟩
  have H4 := Lib.hid (show Below w.heap.size w w4 ∧ Box w4 w.heap.size 24 #[.int .i64 t.wide, .slice A t.need.length c] ∧ Ints w4 w4.heap.size s4 own from ⟨H3.out.1.trans (hb4.mono H3.out.1.size), H3.out.2.later hb4, hs4⟩)
  have k0 : w4.cell? ⟨w.heap.size, 0, none⟩ = some (.int .i64 t.wide) := H4.out.2.1.cell 0
  have k1 : w4.cell? ⟨w.heap.size, 1, none⟩ = some (.slice A t.need.length c) := H4.out.2.1.cell 1
  clear hb4 hs4
  go_wp2_with fail
  clear k0 k1
  refine (Does_e t p D HV.out.2.2.1 _ _ _ (HT.out.mono H4.out.1 H4.out.1.size) (HP.out.mono H4.out.1 H4.out.1.size)).mono ?_; rintro e w5 ⟨rfl, hb5⟩
  have H5 := Lib.hid (show Below w.heap.size w w5 ∧ Box w5 w.heap.size 24 #[.int .i64 t.wide, .slice A t.need.length c] ∧ Ints w5 w5.heap.size s4 own from ⟨H4.out.1.trans (hb5.mono H4.out.1.size), H4.out.2.1.later hb5, H4.out.2.2.later hb5⟩)
  clear hb5
  by_cases hE0 : E = 0
  case neg =>
    have z1 : (E != 0) = true := by simpa using hE0
    have z2 : (D == 0) = false := by simpa using HX.out.1 hE0
    clear hE0
    go_wp2_with fail
    go_ret
    exact ⟨rfl, H5.out.1⟩
  subst hE0
  have HW := Lib.hid (HX.out.2.1 rfl)
  by_cases hD0 : D = 0
  case neg =>
    have z2 : (D == 0) = false := by simpa using hD0
    clear hD0
    go_wp2_with fail
    refine (Total_e own n 0 HW.out.1 HW.out.2.1 _ _ H5.out.2.2).mono ?_; rintro e w6 ⟨rfl, hb6⟩
    have H6 := Lib.hid (show Below w.heap.size w w6 ∧ Box w6 w.heap.size 24 #[.int .i64 t.wide, .slice A t.need.length c] ∧ Ints w6 w6.heap.size s4 own from ⟨H5.out.1.trans (hb6.mono H5.out.1.size), H5.out.2.1.later hb6, H5.out.2.2.later hb6⟩)
    have k0 : w6.cell? ⟨w.heap.size, 0, none⟩ = some (.int .i64 t.wide) := H6.out.2.1.cell 0
    have k1 : w6.cell? ⟨w.heap.size, 1, none⟩ = some (.slice A t.need.length c) := H6.out.2.1.cell 1
    clear hb6
    go_wp2_with fail
    clear k0 k1
    refine (Does_e t own 0 HW.out.2.2 _ _ _ (HT.out.mono H6.out.1 H6.out.1.size) H6.out.2.2).mono ?_; rintro e w7 ⟨rfl, hb7⟩
    have H7 := Lib.hid (H6.out.1.trans (hb7.mono H6.out.1.size))
    clear hb7
    go_wp2_with fail
    refine (Total_e p tv te HV.out.2.2.2.2.1 HV.out.2.2.2.2.2 _ _ (HP.out.mono H7.out H7.out.size)).mono ?_; rintro e w8 ⟨rfl, hb8⟩
    have H8 := Lib.hid (H7.out.trans (hb8.mono H7.out.size))
    clear hb8
    go_wp2_with fail
    go_ret
    exact ⟨rfl, H8.out⟩
  subst hD0
  have HY := Lib.hid (HX.out.2.2 rfl)
  have HNB2 := Lib.hid (HNB.out rfl)
  clear HNB HX
  obtain rfl : te = 0 := HY.out.1
  go_wp2_with fail
  refine (Total_e own n 0 HW.out.1 HW.out.2.1 _ _ H5.out.2.2).mono ?_; rintro e w6 ⟨rfl, hb6⟩
  have H6 := Lib.hid (show Below w.heap.size w w6 ∧ Box w6 w.heap.size 24 #[.int .i64 t.wide, .slice A t.need.length c] ∧ Ints w6 w6.heap.size s4 own from ⟨H5.out.1.trans (hb6.mono H5.out.1.size), H5.out.2.1.later hb6, H5.out.2.2.later hb6⟩)
  have k0 : w6.cell? ⟨w.heap.size, 0, none⟩ = some (.int .i64 t.wide) := H6.out.2.1.cell 0
  have k1 : w6.cell? ⟨w.heap.size, 1, none⟩ = some (.slice A t.need.length c) := H6.out.2.1.cell 1
  clear hb6
  go_wp2_with fail
  clear k0 k1
  refine (Does_e t own 0 HW.out.2.2 _ _ _ (HT.out.mono H6.out.1 H6.out.1.size) H6.out.2.2).mono ?_; rintro e w7 ⟨rfl, hb7⟩
  have H7 := Lib.hid (show Below w.heap.size w w7 ∧ Ints w7 w7.heap.size s4 own from ⟨H6.out.1.trans (hb7.mono H6.out.1.size), H6.out.2.2.later hb7⟩)
  clear hb7
  go_wp2_with fail
  refine (Total_e p tv 0 HV.out.2.2.2.2.1 HV.out.2.2.2.2.2 _ _ (HP.out.mono H7.out.1 H7.out.1.size)).mono ?_; rintro e w8 ⟨rfl, hb8⟩
  have H8 := Lib.hid (show Below w.heap.size w w8 ∧ Ints w8 w8.heap.size s4 own from ⟨H7.out.1.trans (hb8.mono H7.out.1.size), H7.out.2.later hb8⟩)
  clear hb8
  by_cases hgt : n < tv
  · have z1 : decide (n < tv) = true := by simpa using hgt
    clear hgt
    go_wp2_with fail
    go_ret
    exact ⟨rfl, H8.out.1⟩
  · obtain rfl : n = tv := by have := HY.out.2; omega
    have z1 : decide (n < n) = false := by simp
    clear hgt
    go_wp2_with fail
    refine (before_c p own _ _ _ (HP.out.mono H8.out.1 H8.out.1.size) H8.out.2).mono ?_; rintro e w9 ⟨q, rfl, hq, hb9⟩
    have H9 := Lib.hid (H8.out.1.trans (hb9.mono H8.out.1.size))
    obtain rfl : q = false := by
      cases q
      · rfl
      · exact absurd (hq rfl) HNB2.out
    clear hb9 hq
    go_wp2_with fail
    go_ret
    exact ⟨rfl, H9.out⟩

end Go.Proofs.Ytfhbpeafapabhaa

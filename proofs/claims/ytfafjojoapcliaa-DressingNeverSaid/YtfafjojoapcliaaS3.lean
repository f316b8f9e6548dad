/- The value of prices, and which prices prove: the program's side. -/
import Derived.Test.YtfafjojoapcliaaS2
namespace Go.Proofs.Ytfafjojoapcliaa
open Go.RowKit

set_option maxRecDepth 100000 in
set_option maxHeartbeats 8000000 in
theorem value_c (t : Tk) (l h : List Int) (v u : Value) (w : World) (ht : IsTask w w.heap.size v t) (hx : IsPrices w w.heap.size u l h) (htb : taskB t = true) (hxo : xOk t.need.length l h = true) :
    Calls Try.prog 38 #[v, u] w fun e w' => e = .returned (.int .i64 (valTo t.need l h t.need.length)) ∧ Below w.heap.size w w' := by
  obtain ⟨s, rfl, A, c, rfl, hcap, hcell⟩ := ht
  obtain ⟨s1, s2, rfl, hl, hh⟩ := hx
  obtain ⟨-, A1, c1, rfl, -, hcl⟩ := hl
  obtain ⟨-, A2, c2, rfl, -, hch⟩ := hh
  have HC := Lib.hid hcell
  have HCL := Lib.hid hcl
  have HCH := Lib.hid hch
  have hxp := xOk_iff.1 hxo
  have tp := task_parts htb
  have AR := Lib.hid (show l.length = t.need.length ∧ h.length = t.need.length ∧ cntB l 100000 = true ∧ cntB h 100000 = true ∧ t.need.length ≤ 400 ∧ t.need.all okP = true from ⟨hxp.1, hxp.2.1, hxp.2.2.1, hxp.2.2.2, tp.2.2.2.2.2.1, tp.2.2.2.2.2.2.2⟩)
  have HB := Lib.hid (show Below w.heap.size w ((w.alloc (.cells #[.int .i64 t.wide, .slice A t.need.length c] 24)).alloc (.cells #[.slice A1 l.length c1, .slice A2 h.length c2] 35)) ∧ Box ((w.alloc (.cells #[.int .i64 t.wide, .slice A t.need.length c] 24)).alloc (.cells #[.slice A1 l.length c1, .slice A2 h.length c2] 35)) (w.heap.size + 1) 35 #[.slice A1 l.length c1, .slice A2 h.length c2] from
    ⟨((Below.refl _ _).alloc (Nat.le_refl _) _).alloc (by simp) _, by have e := Box.made (w.alloc (.cells #[.int .i64 t.wide, .slice A t.need.length c] 24)) 35 #[.slice A1 l.length c1, .slice A2 h.length c2]; rw [World.size_alloc] at e; exact e⟩)
  clear hcap hcell htb hxo hxp tp hcl hch
  go_enter Try.func38, Try.ntmps38
  go_wp2_with fail
  go_loopw [5, 11] (fun sv kv wr => ∃ k : Nat, k ≤ t.need.length ∧ kv = .int .i64 (k : Int) ∧ sv = .int .i64 (valTo t.need l h k) ∧ Below w.heap.size w wr ∧ Box wr (w.heap.size + 1) 35 #[.slice A1 l.length c1, .slice A2 h.length c2]) (fun _ kv _ => t.need.length - (intOf kv).toNat)
  case atStart => exact ⟨0, Nat.zero_le _, rfl, rfl, HB.out.1, HB.out.2⟩
  case round =>
    obtain ⟨k, hk, rfl, rfl, hbr, hbx⟩ := hrel
    have HBR := Lib.hid (⟨hbr, hbx⟩ : Below w.heap.size w wr ∧ Box wr (w.heap.size + 1) 35 #[.slice A1 l.length c1, .slice A2 h.length c2])
    by_cases hlt : k < t.need.length
    · have hd : decide ((k : Int) < (t.need.length : Int)) = true := by simpa using hlt
      obtain ⟨b, off, rfl, hbB, hcc⟩ := HC.out (by omega)
      obtain ⟨b1, off1, rfl, hbB1, hcc1⟩ := HCL.out (by have := AR.out; omega)
      obtain ⟨b2, off2, rfl, hbB2, hcc2⟩ := HCH.out (by have := AR.out; omega)
      obtain ⟨y0, y1⟩ := hcc k hlt
      have q0 := keepd y0 hbr hbB
      have q1 := keepd y1 hbr hbB
      have p1 := keepd (hcc1 k (by have := AR.out; omega)) hbr hbB1
      have p2 := keepd (hcc2 k (by have := AR.out; omega)) hbr hbB2
      have ll1 : b1 < wr.heap.size := by have := hbr.size; omega
      have ll2 : b2 < wr.heap.size := by have := hbr.size; omega
      have p1' : ∀ o : Obj, (wr.alloc o).cell? ⟨b1, off1 + k, none⟩ = some (.int .i64 (nth l k)) := fun o => keepd p1 ((Below.refl _ _).alloc (Nat.le_refl _) o) ll1
      have p2' : ∀ o : Obj, (wr.alloc o).cell? ⟨b2, off2 + k, none⟩ = some (.int .i64 (nth h k)) := fun o => keepd p2 ((Below.refl _ _).alloc (Nat.le_refl _) o) ll2
      have k0 : ∀ o : Obj, (wr.alloc o).cell? ⟨w.heap.size + 1, 0, none⟩ = some (.slice (some ⟨b1, off1, none⟩) l.length c1) := fun o => (hbx.alloc o).cell 0
      have k1 : ∀ o : Obj, (wr.alloc o).cell? ⟨w.heap.size + 1, 1, none⟩ = some (.slice (some ⟨b2, off2, none⟩) h.length c2) := fun o => (hbx.alloc o).cell 1
      have i0 : (0 : Int) ≤ (k : Int) := by omega
      have i1 : (k : Int) < (t.need.length : Int) := by omega
      have i2 : (k : Int) < (l.length : Int) := by have := AR.out; omega
      have i3 : (k : Int) < (h.length : Int) := by have := AR.out; omega
      have i7 : k ≤ 400 := by have := AR.out; omega
      have hv := valTo_bd AR.out.2.2.2.2.2 AR.out.2.2.1 AR.out.2.2.2.1 k (by omega)
      have h2 := okP_bd AR.out.2.2.2.2.2 hlt
      have h3 := cntB_nth AR.out.2.2.1 k (by omega)
      have h4 := cntB_nth AR.out.2.2.2.1 k (by omega)
      have h5 := prod_bd (a := (nthP t.need k).1) (b := nth l k) (by omega) (by omega) h3.1 h3.2
      have h6 := prod_bd (a := (nthP t.need k).2) (b := nth h k) (by omega) (by omega) h4.1 h4.2
      have hk4 : ((k : Nat) : Int) * 10000000000 ≤ 4000000000000 := by omega
      have HS := Lib.hid (show valTo t.need l h (k + 1) = valTo t.need l h k + ((nthP t.need k).1 * nth l k - (nthP t.need k).2 * nth h k) from rfl)
      have HK := Lib.hid hlt
      have hne : w.heap.size + 1 ≠ wr.heap.size := by have := hbx.lt; omega
      clear hbr hbx hlt hk hcc hcc1 hcc2 y0 y1 p1 p2 h2 h3 h4 hbB hbB1 hbB2
      generalize valTo t.need l h k = vt at *
      generalize (nthP t.need k).1 = lo at *
      generalize (nthP t.need k).2 = hi at *
      generalize nth l k = lk at *
      generalize nth h k = hk at *
      have w1 : IntKind.i64.wrap (lo * lk) = lo * lk := wrap_id (by omega) (by omega)
      have w2 : IntKind.i64.wrap (hi * hk) = hi * hk := wrap_id (by omega) (by omega)
      have w3 : IntKind.i64.wrap (lo * lk - hi * hk) = lo * lk - hi * hk := wrap_id (by omega) (by omega)
      have w4 : IntKind.i64.wrap (vt + (lo * lk - hi * hk)) = vt + (lo * lk - hi * hk) := wrap_id (by omega) (by omega)
      clear hv h5 h6 hk4
      go_wp2_with fail
      go_quiet (fail)
      generalize nq = n1 at *
      go_wp2_with fail
      go_roundw
      case rel =>
        have h0 := (Below.refl wr.heap.size wr).alloc (Nat.le_refl _) (.cells #[.int .i64 lo, .int .i64 hi] 49)
        have hb : Below wr.heap.size wr ((wr.alloc (.cells #[.int .i64 lo, .int .i64 hi] 49)).drewN n1) := ⟨h0.os, h0.tape, h0.output, h0.size, h0.block⟩
        exact ⟨k + 1, by have := HK.out; omega, by go_num, by rw [HS.out], HBR.out.1.trans (hb.mono HBR.out.1.size), HBR.out.2.later hb⟩
      case measure => have := HK.out; simp [intOf]; omega
    · obtain rfl : k = t.need.length := by omega
      have hd : decide ((t.need.length : Int) < (t.need.length : Int)) = false := by simp
      clear hbr hbx hlt hk
      go_wp2_with fail
      go_ret
      exact ⟨rfl, HBR.out.1⟩

/-- what the check of prices tells -/
def cpE (t : Tk) (l h : List Int) : Int := if taskB t = true then (if xOk t.need.length l h = true ∧ gainTo l h (tW t) 1 (tM t) = true then 0 else 53) else 50
def cpV (t : Tk) (l h : List Int) : Int := if cpE t l h = 0 then valTo t.need l h t.need.length else 0
def cnE (t : Tk) (l h : List Int) : Int := if taskB t = true then (if xOk t.need.length l h = true ∧ gainTo l h (tW t) 0 (tM t) = true ∧ 0 < valTo t.need l h t.need.length then 0 else 53) else 50

section
variable (t : Tk) (l h : List Int) (w : World)
theorem arePrices_b (b : Bool) (hb : xOk t.need.length l h = b) (v u : Value) (ht : IsTask w w.heap.size v t) (hx : IsPrices w w.heap.size u l h) : Calls Try.prog 36 #[v, u] w fun e w' => e = .returned (.bool b) ∧ Below w.heap.size w w' := by
  have := arePrices_c t l h v u w ht hx
  rwa [hb] at this
theorem gainAtMost_b (most : Int) (b : Bool) (hb : gainTo l h (tW t) most (tM t) = b) (v u : Value) (ht : IsTask w w.heap.size v t) (hx : IsPrices w w.heap.size u l h) (htb : taskB t = true) (hxo : xOk t.need.length l h = true) : Calls Try.prog 37 #[v, u, .int .i64 most] w fun e w' => e = .returned (.bool b) ∧ Below w.heap.size w w' := by
  have := gainAtMost_c t l h most v u w ht hx htb hxo
  rwa [hb] at this
end

set_option maxRecDepth 100000 in
set_option maxHeartbeats 8000000 in
theorem CheckPrices_c (t : Tk) (l h : List Int) (v u : Value) (w : World) (ht : IsTask w w.heap.size v t) (hx : IsPrices w w.heap.size u l h) :
    Calls Try.prog 15 #[v, u] w (Ret2 w (cpV t l h) (cpE t l h)) := by
  have HT := Lib.hid ht
  have HXP := Lib.hid hx
  obtain ⟨s, rfl, A, c, rfl, hcap, hcell⟩ := ht
  obtain ⟨s1, s2, rfl, hl, hh⟩ := hx
  obtain ⟨-, A1, c1, rfl, -, -⟩ := hl
  obtain ⟨-, A2, c2, rfl, -, -⟩ := hh
  have HB := Lib.hid (show Below w.heap.size w ((w.alloc (.cells #[.int .i64 t.wide, .slice A t.need.length c] 24)).alloc (.cells #[.slice A1 l.length c1, .slice A2 h.length c2] 35)) ∧ Box ((w.alloc (.cells #[.int .i64 t.wide, .slice A t.need.length c] 24)).alloc (.cells #[.slice A1 l.length c1, .slice A2 h.length c2] 35)) w.heap.size 24 #[.int .i64 t.wide, .slice A t.need.length c] ∧ Box ((w.alloc (.cells #[.int .i64 t.wide, .slice A t.need.length c] 24)).alloc (.cells #[.slice A1 l.length c1, .slice A2 h.length c2] 35)) (w.heap.size + 1) 35 #[.slice A1 l.length c1, .slice A2 h.length c2] from
    ⟨((Below.refl _ _).alloc (Nat.le_refl _) _).alloc (by simp) _, (Box.made w _ _).alloc _, by have e := Box.made (w.alloc (.cells #[.int .i64 t.wide, .slice A t.need.length c] 24)) 35 #[.slice A1 l.length c1, .slice A2 h.length c2]; rw [World.size_alloc] at e; exact e⟩)
  clear hcap hcell
  have HE := Lib.hid (show cpE t l h = (if taskB t = true then (if xOk t.need.length l h = true ∧ gainTo l h (tW t) 1 (tM t) = true then 0 else 53) else 50) ∧ cpV t l h = if cpE t l h = 0 then valTo t.need l h t.need.length else 0 from ⟨rfl, rfl⟩)
  cases h1 : taskB t
  · have HV := Lib.hid (show cpV t l h = 0 ∧ cpE t l h = 50 ∧ tkE t = 50 by
      have e1 : cpE t l h = 50 := by rw [HE.out.1, h1]; rfl
      exact ⟨by rw [HE.out.2, e1]; rfl, e1, by unfold tkE; rw [h1]; rfl⟩)
    clear h1
    go_enter Try.func15, Try.ntmps15
    go_wp2_with fail
    refine (Check_c t _ _ (HT.out.mono HB.out.1 HB.out.1.size)).mono ?_; rintro e w1 ⟨rfl, hb1⟩
    rw [HV.out.2.2]
    go_wp2_with fail
    go_ret2
    exact ⟨by rw [HV.out.1, HV.out.2.1]; rfl, HB.out.1.trans (hb1.mono HB.out.1.size)⟩
  have HTK := Lib.hid (show tkE t = 0 by unfold tkE; rw [h1]; rfl)
  have HTB := Lib.hid h1
  cases h2 : xOk t.need.length l h
  · have HV := Lib.hid (show cpV t l h = 0 ∧ cpE t l h = 53 by
      have e1 : cpE t l h = 53 := by rw [HE.out.1, h1, h2]; rfl
      exact ⟨by rw [HE.out.2, e1]; rfl, e1⟩)
    have HXO := Lib.hid h2
    clear h1 h2
    go_enter Try.func15, Try.ntmps15
    go_wp2_with fail
    refine (Check_c t _ _ (HT.out.mono HB.out.1 HB.out.1.size)).mono ?_; rintro e w1 ⟨rfl, hb1⟩
    rw [HTK.out]
    have H1 := Lib.hid (show Below w.heap.size w w1 ∧ Box w1 w.heap.size 24 #[.int .i64 t.wide, .slice A t.need.length c] ∧ Box w1 (w.heap.size + 1) 35 #[.slice A1 l.length c1, .slice A2 h.length c2] from ⟨HB.out.1.trans (hb1.mono HB.out.1.size), HB.out.2.1.later hb1, HB.out.2.2.later hb1⟩)
    have k0 : w1.cell? ⟨w.heap.size, 0, none⟩ = some (.int .i64 t.wide) := H1.out.2.1.cell 0
    have k1 : w1.cell? ⟨w.heap.size, 1, none⟩ = some (.slice A t.need.length c) := H1.out.2.1.cell 1
    have k2 : w1.cell? ⟨w.heap.size + 1, 0, none⟩ = some (.slice A1 l.length c1) := H1.out.2.2.cell 0
    have k3 : w1.cell? ⟨w.heap.size + 1, 1, none⟩ = some (.slice A2 h.length c2) := H1.out.2.2.cell 1
    clear hb1
    go_wp2_with fail
    clear k0 k1 k2 k3
    refine (arePrices_b t l h w1 false HXO.out _ _ (HT.out.mono H1.out.1 H1.out.1.size) (HXP.out.mono H1.out.1 H1.out.1.size)).mono ?_; rintro e w2 ⟨rfl, hb2⟩
    have H2 := Lib.hid (H1.out.1.trans (hb2.mono H1.out.1.size))
    clear hb2
    go_wp2_with fail
    go_ret2
    exact ⟨by rw [HV.out.1, HV.out.2]; rfl, H2.out⟩
  have HXO := Lib.hid h2
  obtain ⟨q, hq⟩ : ∃ q, gainTo l h (tW t) 1 (tM t) = q := ⟨_, rfl⟩
  have HQ := Lib.hid hq
  have HV := Lib.hid (show (q = false → cpV t l h = 0 ∧ cpE t l h = 53) ∧ (q = true → cpV t l h = valTo t.need l h t.need.length ∧ cpE t l h = 0) by
    rw [h1, h2, hq] at HE
    refine ⟨fun e => ?_, fun e => ?_⟩
    · subst e
      have e1 : cpE t l h = 53 := by rw [HE.out.1]; rfl
      exact ⟨by rw [HE.out.2, e1]; rfl, e1⟩
    · subst e
      have e1 : cpE t l h = 0 := by rw [HE.out.1]; rfl
      exact ⟨by rw [HE.out.2, e1]; rfl, e1⟩)
  clear h1 h2 hq HE
  go_enter Try.func15, Try.ntmps15
  go_wp2_with fail
  refine (Check_c t _ _ (HT.out.mono HB.out.1 HB.out.1.size)).mono ?_; rintro e w1 ⟨rfl, hb1⟩
  rw [HTK.out]
  have H1 := Lib.hid (show Below w.heap.size w w1 ∧ Box w1 w.heap.size 24 #[.int .i64 t.wide, .slice A t.need.length c] ∧ Box w1 (w.heap.size + 1) 35 #[.slice A1 l.length c1, .slice A2 h.length c2] from ⟨HB.out.1.trans (hb1.mono HB.out.1.size), HB.out.2.1.later hb1, HB.out.2.2.later hb1⟩)
  have k0 : w1.cell? ⟨w.heap.size, 0, none⟩ = some (.int .i64 t.wide) := H1.out.2.1.cell 0
  have k1 : w1.cell? ⟨w.heap.size, 1, none⟩ = some (.slice A t.need.length c) := H1.out.2.1.cell 1
  have k2 : w1.cell? ⟨w.heap.size + 1, 0, none⟩ = some (.slice A1 l.length c1) := H1.out.2.2.cell 0
  have k3 : w1.cell? ⟨w.heap.size + 1, 1, none⟩ = some (.slice A2 h.length c2) := H1.out.2.2.cell 1
  clear hb1
  go_wp2_with fail
  clear k0 k1 k2 k3
  refine (arePrices_b t l h w1 true HXO.out _ _ (HT.out.mono H1.out.1 H1.out.1.size) (HXP.out.mono H1.out.1 H1.out.1.size)).mono ?_; rintro e w2 ⟨rfl, hb2⟩
  have H2 := Lib.hid (show Below w.heap.size w w2 ∧ Box w2 w.heap.size 24 #[.int .i64 t.wide, .slice A t.need.length c] ∧ Box w2 (w.heap.size + 1) 35 #[.slice A1 l.length c1, .slice A2 h.length c2] from ⟨H1.out.1.trans (hb2.mono H1.out.1.size), H1.out.2.1.later hb2, H1.out.2.2.later hb2⟩)
  have k0 : w2.cell? ⟨w.heap.size, 0, none⟩ = some (.int .i64 t.wide) := H2.out.2.1.cell 0
  have k1 : w2.cell? ⟨w.heap.size, 1, none⟩ = some (.slice A t.need.length c) := H2.out.2.1.cell 1
  have k2 : w2.cell? ⟨w.heap.size + 1, 0, none⟩ = some (.slice A1 l.length c1) := H2.out.2.2.cell 0
  have k3 : w2.cell? ⟨w.heap.size + 1, 1, none⟩ = some (.slice A2 h.length c2) := H2.out.2.2.cell 1
  clear hb2
  go_wp2_with fail
  clear k0 k1 k2 k3
  refine (gainAtMost_b t l h w2 1 q HQ.out _ _ (HT.out.mono H2.out.1 H2.out.1.size) (HXP.out.mono H2.out.1 H2.out.1.size) HTB.out HXO.out).mono ?_; rintro e w3 ⟨rfl, hb3⟩
  have H3 := Lib.hid (show Below w.heap.size w w3 ∧ Box w3 w.heap.size 24 #[.int .i64 t.wide, .slice A t.need.length c] ∧ Box w3 (w.heap.size + 1) 35 #[.slice A1 l.length c1, .slice A2 h.length c2] from ⟨H2.out.1.trans (hb3.mono H2.out.1.size), H2.out.2.1.later hb3, H2.out.2.2.later hb3⟩)
  clear hb3
  cases q
  · have HV2 := Lib.hid (HV.out.1 rfl)
    clear HV
    go_wp2_with fail
    go_ret2
    exact ⟨by rw [HV2.out.1, HV2.out.2]; rfl, H3.out.1⟩
  · have HV2 := Lib.hid (HV.out.2 rfl)
    clear HV
    have k0 : w3.cell? ⟨w.heap.size, 0, none⟩ = some (.int .i64 t.wide) := H3.out.2.1.cell 0
    have k1 : w3.cell? ⟨w.heap.size, 1, none⟩ = some (.slice A t.need.length c) := H3.out.2.1.cell 1
    have k2 : w3.cell? ⟨w.heap.size + 1, 0, none⟩ = some (.slice A1 l.length c1) := H3.out.2.2.cell 0
    have k3 : w3.cell? ⟨w.heap.size + 1, 1, none⟩ = some (.slice A2 h.length c2) := H3.out.2.2.cell 1
    go_wp2_with fail
    refine (value_c t l h _ _ w3 (HT.out.mono H3.out.1 H3.out.1.size) (HXP.out.mono H3.out.1 H3.out.1.size) HTB.out HXO.out).mono ?_; rintro e w4 ⟨rfl, hb4⟩
    have H4 := Lib.hid (H3.out.1.trans (hb4.mono H3.out.1.size))
    clear hb4 k0 k1 k2 k3
    go_wp2_with fail
    go_ret2
    exact ⟨by rw [HV2.out.1, HV2.out.2]; rfl, H4.out⟩

end Go.Proofs.Ytfafjojoapcliaa

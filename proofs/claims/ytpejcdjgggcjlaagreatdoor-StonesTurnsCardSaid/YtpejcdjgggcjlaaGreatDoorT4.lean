/- The specification's less. The specification's Turn and Normal. The specification's Turns. The specification's Period. -/
import Derived.Test.YtpejcdjgggcjlaaGreatDoorN0
import Derived.Test.YtpejcdjgggcjlaaGreatDoorA5
import Derived.Test.YtpejcdjgggcjlaaGreatDoorT2
import Derived.Test.YtpejcdjgggcjlaaGreatDoorA8
import Derived.Test.YtpejcdjgggcjlaaGreatDoorM2
import Derived.Test.YtpejcdjgggcjlaaGreatDoorJ7
import Derived.Test.YtpejcdjgggcjlaaGreatDoorF4
namespace Go.Proofs.YtpejcdjgggcjlaaGreatDoor
open Go.RowKit

theorem cmpI_neg {a b : Int} (h : a ≠ b) : decide (cmpI a b < 0) = decide (a < b) := by
  unfold cmpI
  by_cases h1 : a < b
  · rw [if_pos h1]; simp [h1]
  · rw [if_neg h1, if_pos (by omega)]; simp [h1]

set_option maxRecDepth 100000 in
set_option maxHeartbeats 2000000 in
theorem less_c (l r : List Int) (v u : Value) (w : World) (hl : Ints w w.heap.size v l) (hr : Ints w w.heap.size u r) (hn : l.length = r.length) :
    Calls Tryz.prog 67 #[v, u] w fun e w' => e = .returned (.bool (decide (cmpL l r < 0))) ∧ Below w.heap.size w w' := by
  obtain ⟨l1, A, c, rfl, l2, l3⟩ := hl
  obtain ⟨r1, A', c', rfl, r2, r3⟩ := hr
  have H0 := Lib.hid (show cmpL l r = cmpFrom l r 0 by simp [cmpFrom])
  have Hn := Lib.hid hn
  clear hn
  go_enter Tryz.func67, Tryz.ntmps67
  go_wp2_with fail
  go_loopw [5] (fun i wr => ∃ k : Nat, k ≤ l.length ∧ i = .int .i64 (k : Int) ∧ cmpFrom l r k = cmpFrom l r 0 ∧ Below w.heap.size w wr) (fun i _ => l.length - (intOf i).toNat)
  case atStart => exact ⟨0, Nat.zero_le _, rfl, rfl, Below.refl _ _⟩
  case round =>
    obtain ⟨k, hk, rfl, hrel, hbr⟩ := hrel
    have HR := Lib.hid hrel
    clear hrel
    by_cases hlt : k < l.length
    · have hlt2 : k < r.length := by have := Hn.out; omega
      obtain ⟨b, off, rfl, hbB, hcc⟩ := l3 (by omega)
      obtain ⟨b', off', rfl, hbB', hcc'⟩ := r3 (by omega)
      have hx := keepd (hcc k hlt) hbr hbB
      have hy := keepd (hcc' k hlt2) hbr hbB'
      have hd : decide ((k : Int) < (l.length : Int)) = true := by rw [decide_eq_true_iff]; omega
      have i0 : (0 : Int) ≤ (k : Int) := Int.natCast_nonneg _
      have i1 : (k : Int) < (l.length : Int) := by omega
      have i2 : (k : Int) < (r.length : Int) := by omega
      have Hlt := Lib.hid (show k + 1 ≤ l.length ∧ l.length - (k + 1) < l.length - k by omega)
      clear l3 r3 hcc hcc'
      by_cases hz : nth l k = nth r k
      · have hne : (nth l k != nth r k) = false := by simp [hz]
        have Hz := Lib.hid (cmpFrom_eq hlt hlt2 (cmpI_zero.2 hz))
        clear hz
        go_wp2_with fail
        go_quiet (fail)
        rename_i nq
        have hbn : Below w.heap.size w (wr.drewN nq) := ⟨hbr.os, hbr.tape, hbr.output, hbr.size, hbr.block⟩
        clear hbr
        go_wp2_with fail
        go_roundw
        case rel => exact ⟨k + 1, Hlt.out.1, by go_num, by rw [← Hz.out, HR.out], hbn⟩
        case measure => have := Hlt.out; simp [intOf]; omega
      · have hne : (nth l k != nth r k) = true := by simp [hz]
        have Hz := Lib.hid (show decide (cmpL l r < 0) = decide (nth l k < nth r k) by
          rw [H0.out, ← HR.out, cmpFrom_ne hlt hlt2 (fun h => hz (cmpI_zero.1 h)), cmpI_neg hz])
        clear hz
        go_wp2_with fail
        go_quiet (fail)
        rename_i nq
        have hbn : Below w.heap.size w (wr.drewN nq) := ⟨hbr.os, hbr.tape, hbr.output, hbr.size, hbr.block⟩
        have hx2 : (wr.drewN nq).cell? ⟨b, off + k, none⟩ = some (.int .i64 (nth l k)) := hx
        have hy2 : (wr.drewN nq).cell? ⟨b', off' + k, none⟩ = some (.int .i64 (nth r k)) := hy
        clear hbr hx hy
        generalize wr.drewN nq = wq at *
        go_wp2_with fail
        go_quiet (fail)
        have hbn2 : Below w.heap.size w (wq.drewN nq) := ⟨hbn.os, hbn.tape, hbn.output, hbn.size, hbn.block⟩
        clear hbn
        go_wp2_with fail
        go_ret
        exact ⟨ret_bool Hz.out.symm, hbn2⟩
    · obtain rfl : k = l.length := by omega
      have hd : decide ((l.length : Int) < (l.length : Int)) = false := by simp
      have Hz := Lib.hid (show decide (cmpL l r < 0) = false by
        rw [H0.out, ← HR.out, cmpFrom_end (Nat.le_refl _) (by have := Hn.out; omega)]; rfl)
      clear l3 r3
      go_wp2_with fail
      go_ret
      exact ⟨ret_bool Hz.out.symm, hbr⟩

end Go.Proofs.YtpejcdjgggcjlaaGreatDoor

namespace Go.Proofs.YtpejcdjgggcjlaaGreatDoor
open Go.RowKit

set_option maxRecDepth 100000 in
set_option maxHeartbeats 800000 in
theorem rTurn_c (f : Fc) (v : Value) (by_ : Int) (w : World) (h : IsFace w w.heap.size v f) :
    Calls Tryz.prog 29 #[v, .int .i64 by_] w (RetFaceE w (if validB f = true then turnF f by_ else zF) (if validB f = true then 0 else 10)) := by
  have hF := h
  obtain ⟨s, rfl, hlen, A, cp, rfl, hcap, hcell⟩ := h
  clear hcell
  have hr := resBox w (.cells #[.int .i64 f.eye, .int .i64 f.rings, .int .i64 f.sectors, .slice A f.kinds.length cp] 24)
  cases hv : validB f
  · go_enter Tryz.func29, Tryz.ntmps29
    go_wp2_with fail
    refine (rValid_c f _ _ ((hF.box _).box _)).mono ?_; rintro e w1 ⟨rfl, hb⟩
    have hbx := hr.later hb
    have hbw : Below w.heap.size w w1 := boxed (boxed hb)
    have h0 : w1.cell? ⟨w.heap.size + 1, 0, none⟩ = some (.int .i64 0) := hbx.cell 0
    have hf0 := hbx.free 0
    have h1 : w1.cell? ⟨w.heap.size + 1, 1, none⟩ = some (.int .i64 0) := hbx.cell 1
    have hf1 := hbx.free 1
    have h2 : w1.cell? ⟨w.heap.size + 1, 2, none⟩ = some (.int .i64 0) := hbx.cell 2
    have hf2 := hbx.free 2
    have h3 : w1.cell? ⟨w.heap.size + 1, 3, none⟩ = some (.slice none 0 0) := hbx.cell 3
    have hf3 := hbx.free 3
    clear hb
    go_wp2_with fail
    exact endPutE (G := zF) (lo := w.heap.size + 2) Tryz.results29 rfl rfl hbx (zF_ints _ _ _) (NewS.none_ _ _ _) (by omega) (by omega) hbw
  · have hv2 : (validB f) = true := hv
    go_enter Tryz.func29, Tryz.ntmps29
    go_wp2_with fail
    refine (rValid_c f _ _ ((hF.box _).box _)).mono ?_; rintro e w1 ⟨rfl, hb⟩
    have hbx := hr.later hb
    have hbw : Below w.heap.size w w1 := boxed (boxed hb)
    have hb0 := (faceBox w f (.slice A f.kinds.length cp) (.cells #[.int .i64 0, .int .i64 0, .int .i64 0, .slice none 0 0] 24)).later hb
    have k0 : w1.cell? ⟨w.heap.size, 0, none⟩ = some (.int .i64 f.eye) := hb0.cell 0
    have k1 : w1.cell? ⟨w.heap.size, 1, none⟩ = some (.int .i64 f.rings) := hb0.cell 1
    have k2 : w1.cell? ⟨w.heap.size, 2, none⟩ = some (.int .i64 f.sectors) := hb0.cell 2
    have k3 : w1.cell? ⟨w.heap.size, 3, none⟩ = some (.slice A f.kinds.length cp) := hb0.cell 3
    clear hb
    go_wp2_with fail
    refine (rturned_c f _ _ _ (hF.mono hbw hbw.size) hv).mono ?_; rintro e w2 ⟨A2, n2, c2, rfl, hI, hN, hb2⟩
    have hbx2 := hbx.later hb2
    have hbw2 := hbw.trans (hb2.mono hbw.size)
    have hs1 := hbx.lt
    clear k0 k1 k2 k3
    have h0 : w2.cell? ⟨w.heap.size + 1, 0, none⟩ = some (.int .i64 0) := hbx2.cell 0
    have hf0 := hbx2.free 0
    have h1 : w2.cell? ⟨w.heap.size + 1, 1, none⟩ = some (.int .i64 0) := hbx2.cell 1
    have hf1 := hbx2.free 1
    have h2 : w2.cell? ⟨w.heap.size + 1, 2, none⟩ = some (.int .i64 0) := hbx2.cell 2
    have hf2 := hbx2.free 2
    have h3 : w2.cell? ⟨w.heap.size + 1, 3, none⟩ = some (.slice none 0 0) := hbx2.cell 3
    have hf3 := hbx2.free 3
    clear hb2
    go_wp2_with fail
    exact endPutE (G := turnF f by_) Tryz.results29 rfl rfl hbx2 hI hN hs1 (by omega) hbw2

theorem bestTo_len {f : Fc} (hv : validB f = true) (k : Nat) : (bestTo f k).length = f.kinds.length := by
  induction k with
  | zero => exact turn_len hv 0
  | succ k ih =>
    rw [bestTo]
    split
    · exact turn_len hv _
    · exact ih

set_option maxRecDepth 100000 in
set_option maxHeartbeats 1600000 in
theorem rNormal_c (f : Fc) (v : Value) (w : World) (h : IsFace w w.heap.size v f) :
    Calls Tryz.prog 33 #[v] w (RetFaceE w (if validB f = true then normF f else zF) (if validB f = true then 0 else 10)) := by
  have hF := h
  obtain ⟨s, rfl, hlen, A, cp, rfl, hcap, hcell⟩ := h
  clear hcell
  have hr := resBox w (.cells #[.int .i64 f.eye, .int .i64 f.rings, .int .i64 f.sectors, .slice A f.kinds.length cp] 24)
  cases hv : validB f
  · go_enter Tryz.func33, Tryz.ntmps33
    go_wp2_with fail
    refine (rValid_c f _ _ ((hF.box _).box _)).mono ?_; rintro e w1 ⟨rfl, hb⟩
    have hbx := hr.later hb
    have hbw : Below w.heap.size w w1 := boxed (boxed hb)
    have h0 : w1.cell? ⟨w.heap.size + 1, 0, none⟩ = some (.int .i64 0) := hbx.cell 0
    have hf0 := hbx.free 0
    have h1 : w1.cell? ⟨w.heap.size + 1, 1, none⟩ = some (.int .i64 0) := hbx.cell 1
    have hf1 := hbx.free 1
    have h2 : w1.cell? ⟨w.heap.size + 1, 2, none⟩ = some (.int .i64 0) := hbx.cell 2
    have hf2 := hbx.free 2
    have h3 : w1.cell? ⟨w.heap.size + 1, 3, none⟩ = some (.slice none 0 0) := hbx.cell 3
    have hf3 := hbx.free 3
    clear hb
    go_wp2_with fail
    exact endPutE (G := zF) (lo := w.heap.size + 2) Tryz.results33 rfl rfl hbx (zF_ints _ _ _) (NewS.none_ _ _ _) (by omega) (by omega) hbw
  · obtain ⟨⟨⟨a1, a2⟩, ⟨a3, a4⟩, a5, a6⟩, hl, -⟩ := validB_iff.1 hv
    have hl6 : f.kinds.length ≤ 2304 := (len_val hv).2.2
    have hl0 : 0 < f.kinds.length := by
      have : 1 * 2 ≤ f.rings * f.sectors := Int.mul_le_mul a3 a5 (by omega) (by omega)
      omega
    clear hl
    go_enter Tryz.func33, Tryz.ntmps33
    go_wp2_with fail
    refine (rValid_c f _ _ ((hF.box _).box _)).mono ?_; rintro e w1 ⟨rfl, hb⟩
    have hbx := hr.later hb
    have hbw : Below w.heap.size w w1 := boxed (boxed hb)
    have hb0 := (faceBox w f (.slice A f.kinds.length cp) (.cells #[.int .i64 0, .int .i64 0, .int .i64 0, .slice none 0 0] 24)).later hb
    have k0 : w1.cell? ⟨w.heap.size, 0, none⟩ = some (.int .i64 f.eye) := hb0.cell 0
    have k1 : w1.cell? ⟨w.heap.size, 1, none⟩ = some (.int .i64 f.rings) := hb0.cell 1
    have k2 : w1.cell? ⟨w.heap.size, 2, none⟩ = some (.int .i64 f.sectors) := hb0.cell 2
    have k3 : w1.cell? ⟨w.heap.size, 3, none⟩ = some (.slice A f.kinds.length cp) := hb0.cell 3
    clear hb
    go_wp2_with fail
    refine (rCopied_c f _ w1 (hF.mono hbw hbw.size) hl0 (by omega)).mono ?_; rintro e w2 ⟨A2, c2, rfl, hown, hb2⟩
    have hI : Ints w2 w2.heap.size (.slice A2 f.kinds.length c2) (turnF f 0).kinds := by rw [turn_zero hv]; exact ints_own hown (Nat.le_refl _) (by omega)
    have hN : NewS w1.heap.size (.slice A2 f.kinds.length c2) := NewS.own hown
    clear hown
    have hbx2 := hbx.later hb2
    have hb02 := hb0.later hb2
    have hbw2 := hbw.trans (hb2.mono hbw.size)
    have hs1 := hbx.lt
    clear k0 k1 k2 k3 hb2
    go_wp2_with fail
    obtain ⟨W, hW⟩ : ∃ W : World, W = w2.alloc (.cells #[.int .i64 f.eye, .int .i64 f.rings, .int .i64 f.sectors, .slice A2 f.kinds.length c2] 24) := ⟨_, rfl⟩
    have hst : NormSt w W f (.slice A f.kinds.length cp) w2.heap.size (bestTo f 0) (.slice A2 f.kinds.length c2) := by
      subst hW
      have hl2 := hbx2.lt
      exact ⟨hb02.alloc _, hbx2.alloc _, Box.made _ _ _, hl2, hI.box _, hN.mono hs1, hbw2.alloc hbw2.size _⟩
    have hg0 : w2.heap.size < w2.heap.size + 1 := by omega
    generalize w2.heap.size = g0 at *
    subst hW
    go_loopw [5] (fun i wr => ∃ (k : Nat) (s : Value), (k : Int) + 1 ≤ f.sectors ∧ i = .int .i64 ((k : Int) + 1) ∧ NormSt w wr f (.slice A f.kinds.length cp) g0 (bestTo f k) s) (fun i _ => f.sectors.toNat - (intOf i).toNat)
    case atStart => exact ⟨0, _, by omega, rfl, hst⟩
    case round =>
      clear hst
      obtain ⟨k, s, hk, rfl, hst⟩ := hrel
      have k0 : wr.cell? ⟨w.heap.size, 0, none⟩ = some (.int .i64 f.eye) := hst.b0.cell 0
      have k1 : wr.cell? ⟨w.heap.size, 1, none⟩ = some (.int .i64 f.rings) := hst.b0.cell 1
      have k2 : wr.cell? ⟨w.heap.size, 2, none⟩ = some (.int .i64 f.sectors) := hst.b0.cell 2
      have k3 : wr.cell? ⟨w.heap.size, 3, none⟩ = some (.slice A f.kinds.length cp) := hst.b0.cell 3
      by_cases hlt : (k : Int) + 1 < f.sectors
      · go_wp2_with fail
        refine (rturned_c f _ _ _ (hF.mono hst.bel hst.bel.size) hv).mono ?_; rintro e w3 ⟨A3, n3, c3, rfl, hI3, hN3, hb3⟩
        have e0 := hst.b0.later hb3
        have e1 := hst.b1.later hb3
        have e2 := hst.b2.later hb3
        have ei := hst.hi.mono hb3 hb3.size
        have ebel := hst.bel.trans (hb3.mono hst.bel.size)
        have hl2 := hst.b2.lt
        obtain ⟨N, hN4⟩ : ∃ N : Obj, N = .cells #[.int .i64 f.eye, .int .i64 f.rings, .int .i64 f.sectors, .slice A3 n3 c3] 24 := ⟨_, rfl⟩
        have q0 : (w3.alloc (.cells #[.int .i64 f.eye, .int .i64 f.rings, .int .i64 f.sectors, .slice A3 n3 c3] 24)).cell? ⟨g0, 0, none⟩ = some (.int .i64 f.eye) := (e2.alloc _).cell 0
        have q1 : (w3.alloc (.cells #[.int .i64 f.eye, .int .i64 f.rings, .int .i64 f.sectors, .slice A3 n3 c3] 24)).cell? ⟨g0, 1, none⟩ = some (.int .i64 f.rings) := (e2.alloc _).cell 1
        have q2 : (w3.alloc (.cells #[.int .i64 f.eye, .int .i64 f.rings, .int .i64 f.sectors, .slice A3 n3 c3] 24)).cell? ⟨g0, 2, none⟩ = some (.int .i64 f.sectors) := (e2.alloc _).cell 2
        have q3 : (w3.alloc (.cells #[.int .i64 f.eye, .int .i64 f.rings, .int .i64 f.sectors, .slice A3 n3 c3] 24)).cell? ⟨g0, 3, none⟩ = some s := (e2.alloc _).cell 3
        have z0 := (e2.alloc (.cells #[.int .i64 f.eye, .int .i64 f.rings, .int .i64 f.sectors, .slice A3 n3 c3] 24)).free 0
        have z1 := (e2.alloc (.cells #[.int .i64 f.eye, .int .i64 f.rings, .int .i64 f.sectors, .slice A3 n3 c3] 24)).free 1
        have z2 := (e2.alloc (.cells #[.int .i64 f.eye, .int .i64 f.rings, .int .i64 f.sectors, .slice A3 n3 c3] 24)).free 2
        have z3 := (e2.alloc (.cells #[.int .i64 f.eye, .int .i64 f.rings, .int .i64 f.sectors, .slice A3 n3 c3] 24)).free 3
        clear hN4 N
        by_cases hcm : cmpL (turnF f ((k : Int) + 1)).kinds (bestTo f k) < 0
        · have Hb := Lib.hid (show bestTo f (k + 1) = (turnF f ((k : Int) + 1)).kinds by rw [bestTo, if_pos hcm])
          go_wp2_with fail
          refine (less_c _ _ _ _ _ (hI3.box _) (ei.box _) (by rw [turn_len hv, bestTo_len hv])).mono ?_; rintro e w5 ⟨rfl, hb5⟩
          have x5 := (Box.made w3 24 #[.int .i64 f.eye, .int .i64 f.rings, .int .i64 f.sectors, .slice A3 n3 c3]).later hb5
          have e05 := (e0.alloc (.cells #[.int .i64 f.eye, .int .i64 f.rings, .int .i64 f.sectors, .slice A3 n3 c3] 24)).later hb5
          have e15 := (e1.alloc (.cells #[.int .i64 f.eye, .int .i64 f.rings, .int .i64 f.sectors, .slice A3 n3 c3] 24)).later hb5
          have e25 := (e2.alloc (.cells #[.int .i64 f.eye, .int .i64 f.rings, .int .i64 f.sectors, .slice A3 n3 c3] 24)).later hb5
          have hI35 := (hI3.box (.cells #[.int .i64 f.eye, .int .i64 f.rings, .int .i64 f.sectors, .slice A3 n3 c3] 24)).mono hb5 hb5.size
          have ei5 := (ei.box (.cells #[.int .i64 f.eye, .int .i64 f.rings, .int .i64 f.sectors, .slice A3 n3 c3] 24)).mono hb5 hb5.size
          have ebel5 := chain (ebel.alloc ebel.size (.cells #[.int .i64 f.eye, .int .i64 f.rings, .int .i64 f.sectors, .slice A3 n3 c3] 24)) hb5
          clear q0 q1 q2 q3 z0 z1 z2 z3 e0 e1 e2 hI3 ei ebel hb5
          have x0 : w5.cell? ⟨w3.heap.size, 0, none⟩ = some (.int .i64 f.eye) := x5.cell 0
          have x1 : w5.cell? ⟨w3.heap.size, 1, none⟩ = some (.int .i64 f.rings) := x5.cell 1
          have x2 : w5.cell? ⟨w3.heap.size, 2, none⟩ = some (.int .i64 f.sectors) := x5.cell 2
          have x3 : w5.cell? ⟨w3.heap.size, 3, none⟩ = some (.slice A3 n3 c3) := x5.cell 3
          have q0 : w5.cell? ⟨g0, 0, none⟩ = some (.int .i64 f.eye) := e25.cell 0
          have q1 : w5.cell? ⟨g0, 1, none⟩ = some (.int .i64 f.rings) := e25.cell 1
          have q2 : w5.cell? ⟨g0, 2, none⟩ = some (.int .i64 f.sectors) := e25.cell 2
          have q3 : w5.cell? ⟨g0, 3, none⟩ = some s := e25.cell 3
          have z0 := e25.free 0
          have z1 := e25.free 1
          have z2 := e25.free 2
          have z3 := e25.free 3
          go_wp2_with fail
          go_roundw
          case rel =>
            refine ⟨k + 1, .slice A3 n3 c3, by omega, by go_num, ?_⟩
            rw [Hb.out]
            exact ⟨putF_far (G := f) e05 (by have := hst.hg; omega), putF_far (G := f) e15 (by have := hst.hg; omega), putF_box (G := f) e25, hst.hg, (putF_ints (G := f) hI35 hN3 hl2).more (by simp [World.setCell]), hN3.mono (by have := hst.hg; omega), putF_below (G := f) ebel5 (by have := hst.hg; omega)⟩
          case measure => simp [intOf]; omega
        · have Hb := Lib.hid (show bestTo f (k + 1) = bestTo f k by rw [bestTo, if_neg hcm])
          go_wp2_with fail
          refine (less_c _ _ _ _ _ (hI3.box _) (ei.box _) (by rw [turn_len hv, bestTo_len hv])).mono ?_; rintro e w5 ⟨rfl, hb5⟩
          have x5 := (Box.made w3 24 #[.int .i64 f.eye, .int .i64 f.rings, .int .i64 f.sectors, .slice A3 n3 c3]).later hb5
          have e05 := (e0.alloc (.cells #[.int .i64 f.eye, .int .i64 f.rings, .int .i64 f.sectors, .slice A3 n3 c3] 24)).later hb5
          have e15 := (e1.alloc (.cells #[.int .i64 f.eye, .int .i64 f.rings, .int .i64 f.sectors, .slice A3 n3 c3] 24)).later hb5
          have e25 := (e2.alloc (.cells #[.int .i64 f.eye, .int .i64 f.rings, .int .i64 f.sectors, .slice A3 n3 c3] 24)).later hb5
          have hI35 := (hI3.box (.cells #[.int .i64 f.eye, .int .i64 f.rings, .int .i64 f.sectors, .slice A3 n3 c3] 24)).mono hb5 hb5.size
          have ei5 := (ei.box (.cells #[.int .i64 f.eye, .int .i64 f.rings, .int .i64 f.sectors, .slice A3 n3 c3] 24)).mono hb5 hb5.size
          have ebel5 := chain (ebel.alloc ebel.size (.cells #[.int .i64 f.eye, .int .i64 f.rings, .int .i64 f.sectors, .slice A3 n3 c3] 24)) hb5
          clear q0 q1 q2 q3 z0 z1 z2 z3 e0 e1 e2 hI3 ei ebel hb5
          have x0 : w5.cell? ⟨w3.heap.size, 0, none⟩ = some (.int .i64 f.eye) := x5.cell 0
          have x1 : w5.cell? ⟨w3.heap.size, 1, none⟩ = some (.int .i64 f.rings) := x5.cell 1
          have x2 : w5.cell? ⟨w3.heap.size, 2, none⟩ = some (.int .i64 f.sectors) := x5.cell 2
          have x3 : w5.cell? ⟨w3.heap.size, 3, none⟩ = some (.slice A3 n3 c3) := x5.cell 3
          have q0 : w5.cell? ⟨g0, 0, none⟩ = some (.int .i64 f.eye) := e25.cell 0
          have q1 : w5.cell? ⟨g0, 1, none⟩ = some (.int .i64 f.rings) := e25.cell 1
          have q2 : w5.cell? ⟨g0, 2, none⟩ = some (.int .i64 f.sectors) := e25.cell 2
          have q3 : w5.cell? ⟨g0, 3, none⟩ = some s := e25.cell 3
          have z0 := e25.free 0
          have z1 := e25.free 1
          have z2 := e25.free 2
          have z3 := e25.free 3
          go_wp2_with fail
          go_roundw
          case rel =>
            refine ⟨k + 1, s, by omega, by go_num, ?_⟩
            rw [Hb.out]
            exact ⟨e05, e15, e25, hst.hg, ei5, hst.hn, ebel5⟩
          case measure => simp [intOf]; omega
      · obtain ⟨A4, n4, hs4⟩ : ∃ A c, s = .slice A (bestTo f k).length c := by obtain ⟨_, A4, c4, rfl, _⟩ := hst.hi; exact ⟨A4, c4, rfl⟩
        subst hs4
        have Hk := Lib.hid (show (normF f).kinds = bestTo f k by unfold normF; rw [show f.sectors.toNat - 1 = k by omega])
        have q0 : wr.cell? ⟨g0, 0, none⟩ = some (.int .i64 f.eye) := hst.b2.cell 0
        have q1 : wr.cell? ⟨g0, 1, none⟩ = some (.int .i64 f.rings) := hst.b2.cell 1
        have q2 : wr.cell? ⟨g0, 2, none⟩ = some (.int .i64 f.sectors) := hst.b2.cell 2
        have q3 : wr.cell? ⟨g0, 3, none⟩ = some (.slice A4 (bestTo f k).length n4) := hst.b2.cell 3
        have hb1 := hst.b1
        have h0 : wr.cell? ⟨w.heap.size + 1, 0, none⟩ = some (.int .i64 0) := hb1.cell 0
        have hf0 := hb1.free 0
        have h1 : wr.cell? ⟨w.heap.size + 1, 1, none⟩ = some (.int .i64 0) := hb1.cell 1
        have hf1 := hb1.free 1
        have h2 : wr.cell? ⟨w.heap.size + 1, 2, none⟩ = some (.int .i64 0) := hb1.cell 2
        have hf2 := hb1.free 2
        have h3 : wr.cell? ⟨w.heap.size + 1, 3, none⟩ = some (.slice none 0 0) := hb1.cell 3
        have hf3 := hb1.free 3
        go_wp2_with fail
        exact endPutE (G := normF f) (lo := w.heap.size + 2) Tryz.results33 rfl rfl hb1 (by rw [Hk.out]; exact hst.hi) hst.hn (by omega) (by omega) hst.bel

end Go.Proofs.YtpejcdjgggcjlaaGreatDoor

namespace Go.Proofs.YtpejcdjgggcjlaaGreatDoor
open Go.RowKit

set_option maxRecDepth 100000 in
set_option maxHeartbeats 4000000 in
theorem rTurns_c (f g : Fc) (v u : Value) (w : World) (hf : IsFace w w.heap.size v f) (hg : IsFace w w.heap.size u g) :
    Calls Tryz.prog 35 #[v, u] w (RetIntsE w (if (validB f && validB g) = true then turnsN f g f.sectors.toNat else []) (if (validB f && validB g) = true then 0 else 10)) := by
  have hF := hf
  have hG := hg
  obtain ⟨s, rfl, hlen, A, cp, rfl, hcap, hcell⟩ := hf
  obtain ⟨s', rfl, hlen', A', cp', rfl, hcap', hcell'⟩ := hg
  clear hcell hcell'
  have b0 := faceBox w f (.slice A f.kinds.length cp) (.cells #[.int .i64 g.eye, .int .i64 g.rings, .int .i64 g.sectors, .slice A' g.kinds.length cp'] 24)
  have b1 := Box.made (w.alloc (.cells #[.int .i64 f.eye, .int .i64 f.rings, .int .i64 f.sectors, .slice A f.kinds.length cp] 24)) 24 #[.int .i64 g.eye, .int .i64 g.rings, .int .i64 g.sectors, .slice A' g.kinds.length cp']
  rw [World.size_alloc] at b1
  have hb0 : Below w.heap.size w ((w.alloc (.cells #[.int .i64 f.eye, .int .i64 f.rings, .int .i64 f.sectors, .slice A f.kinds.length cp] 24)).alloc (.cells #[.int .i64 g.eye, .int .i64 g.rings, .int .i64 g.sectors, .slice A' g.kinds.length cp'] 24)) := ((Below.refl _ _).alloc (Nat.le_refl _) _).alloc (by simp) _
  have Hb0 := Lib.hid hb0
  clear hb0
  cases hv : validB f
  · go_enter Tryz.func35, Tryz.ntmps35
    go_wp2_with fail
    refine (rValid_c f _ _ ((hF.box _).box _)).mono ?_; rintro e w1 ⟨rfl, hb1⟩
    rw [hv]
    have hw1 := chain Hb0.out hb1
    clear hb1
    go_wp2_with fail
    go_ret2
    exact ⟨none, 0, 0, rfl, zF_ints _ _ _, NewS.none_ _ _ _, hw1⟩
  cases hvg : validB g
  · go_enter Tryz.func35, Tryz.ntmps35
    go_wp2_with fail
    refine (rValid_c f _ _ ((hF.box _).box _)).mono ?_; rintro e w1 ⟨rfl, hb1⟩
    rw [hv]
    have hw1 := chain Hb0.out hb1
    have b2 := b1.later hb1
    clear hb1
    have k0 : w1.cell? ⟨w.heap.size + 1, 0, none⟩ = some (.int .i64 g.eye) := b2.cell 0
    have k1 : w1.cell? ⟨w.heap.size + 1, 1, none⟩ = some (.int .i64 g.rings) := b2.cell 1
    have k2 : w1.cell? ⟨w.heap.size + 1, 2, none⟩ = some (.int .i64 g.sectors) := b2.cell 2
    have k3 : w1.cell? ⟨w.heap.size + 1, 3, none⟩ = some (.slice A' g.kinds.length cp') := b2.cell 3
    go_wp2_with fail
    refine (rValid_c g _ _ (hG.mono hw1 hw1.size)).mono ?_; rintro e w2 ⟨rfl, hb2⟩
    rw [hvg]
    have hw2 := chain hw1 hb2
    clear hb2
    go_wp2_with fail
    go_ret2
    exact ⟨none, 0, 0, rfl, zF_ints _ _ _, NewS.none_ _ _ _, hw2⟩
  obtain ⟨R, S, hR, hS, s1, s2, -, -, -, -, s7⟩ := dims hv
  have HS := Lib.hid hS
  have H2 := Lib.hid s2
  have H7 := Lib.hid s7
  clear s1 s2 s7 hR hS R
  go_enter Tryz.func35, Tryz.ntmps35
  go_wp2_with fail
  refine (rValid_c f _ _ ((hF.box _).box _)).mono ?_; rintro e w1 ⟨rfl, hb1⟩
  rw [hv]
  have hw1 := chain Hb0.out hb1
  have b2 := b1.later hb1
  have b3 := b0.later hb1
  clear hb1 b0 b1
  have k0 : w1.cell? ⟨w.heap.size + 1, 0, none⟩ = some (.int .i64 g.eye) := b2.cell 0
  have k1 : w1.cell? ⟨w.heap.size + 1, 1, none⟩ = some (.int .i64 g.rings) := b2.cell 1
  have k2 : w1.cell? ⟨w.heap.size + 1, 2, none⟩ = some (.int .i64 g.sectors) := b2.cell 2
  have k3 : w1.cell? ⟨w.heap.size + 1, 3, none⟩ = some (.slice A' g.kinds.length cp') := b2.cell 3
  go_wp2_with fail
  refine (rValid_c g _ _ (hG.mono hw1 hw1.size)).mono ?_; rintro e w2 ⟨rfl, hb2⟩
  rw [hvg]
  have hst0 : TrSt w w2 f g (.slice A f.kinds.length cp) (.slice A' g.kinds.length cp') [] (.slice none 0 0) := ⟨b3.later hb2, b2.later hb2, World.ownsRow_nil _ _ _ _, chain hw1 hb2⟩
  clear hb2 b2 b3 hw1 k0 k1 k2 k3
  go_wp2_with fail
  go_loopw [6, 7] (fun tv i wr => ∃ k : Nat, k ≤ S ∧ i = .int .i64 (k : Int) ∧ TrSt w wr f g (.slice A f.kinds.length cp) (.slice A' g.kinds.length cp') (turnsN f g k) tv) (fun _ i _ => S - (intOf i).toNat)
  case atStart => exact ⟨0, Nat.zero_le _, rfl, hst0⟩
  case round =>
    clear hst0
    obtain ⟨k, hk, rfl, hst⟩ := hrel
    have hlt0 := hst.b1.lt
    by_cases hlt : k < S
    · have Hlt := Lib.hid (show k + 1 ≤ S ∧ S - (k + 1) < S - k by omega)
      have hk96 : k ≤ 96 := by have := H2.out; omega
      have hd : decide ((k : Int) < f.sectors) = true := by rw [decide_eq_true_iff, HS.out]; omega
      have hFr := hF.mono hst.bel hst.bel.size
      have hGr := hG.mono hst.bel hst.bel.size
      have hdr : Below wr.heap.size wr wr.drew := (Below.refl _ _).drew
      have hFd := hFr.mono hdr hdr.size
      have hGd := hGr.mono hdr hdr.size
      clear hdr
      cases hs : sameB (turnF f k) g
      · have Hs := Lib.hid (turnsN_no hs)
        have k0 : wr.cell? ⟨w.heap.size, 0, none⟩ = some (.int .i64 f.eye) := hst.b0.cell 0
        have k1 : wr.cell? ⟨w.heap.size, 1, none⟩ = some (.int .i64 f.rings) := hst.b0.cell 1
        have k2 : wr.cell? ⟨w.heap.size, 2, none⟩ = some (.int .i64 f.sectors) := hst.b0.cell 2
        have k3 : wr.cell? ⟨w.heap.size, 3, none⟩ = some (.slice A f.kinds.length cp) := hst.b0.cell 3
        have k4 : wr.cell? ⟨w.heap.size + 1, 0, none⟩ = some (.int .i64 g.eye) := hst.b1.cell 0
        have k5 : wr.cell? ⟨w.heap.size + 1, 1, none⟩ = some (.int .i64 g.rings) := hst.b1.cell 1
        have k6 : wr.cell? ⟨w.heap.size + 1, 2, none⟩ = some (.int .i64 g.sectors) := hst.b1.cell 2
        have k7 : wr.cell? ⟨w.heap.size + 1, 3, none⟩ = some (.slice A' g.kinds.length cp') := hst.b1.cell 3
        go_wp2_with fail
        go_region_held3 (fun W => W.cell? ⟨(w.heap.size), 0, none⟩ = some (.int .i64 f.eye) ∧ W.cell? ⟨(w.heap.size), 1, none⟩ = some (.int .i64 f.rings) ∧ W.cell? ⟨(w.heap.size), 2, none⟩ = some (.int .i64 f.sectors) ∧ W.cell? ⟨(w.heap.size), 3, none⟩ = some (.slice A f.kinds.length cp) ∧ W.cell? ⟨(w.heap.size + 1), 0, none⟩ = some (.int .i64 g.eye) ∧ W.cell? ⟨(w.heap.size + 1), 1, none⟩ = some (.int .i64 g.rings) ∧ W.cell? ⟨(w.heap.size + 1), 2, none⟩ = some (.int .i64 g.sectors) ∧ W.cell? ⟨(w.heap.size + 1), 3, none⟩ = some (.slice A' g.kinds.length cp') ∧ Below wr.heap.size wr W ∧ wr.heap.size ≤ W.heap.size) (first | assumption | (refine ⟨?_, ?_, ?_, ?_, ?_, ?_, ?_, ?_, (Below.refl _ _).drew, by first | (simp; done) | (simp; omega) | omega⟩ <;> go_keep) | (obtain ⟨x0, x1, x2, x3, x4, x5, x6, x7, xb, xs⟩ := ‹_ ∧ _›; first | exact ⟨keepd x0 (Below.alloc (Below.refl (wr.heap.size) _) xs _) (by omega), keepd x1 (Below.alloc (Below.refl (wr.heap.size) _) xs _) (by omega), keepd x2 (Below.alloc (Below.refl (wr.heap.size) _) xs _) (by omega), keepd x3 (Below.alloc (Below.refl (wr.heap.size) _) xs _) (by omega), keepd x4 (Below.alloc (Below.refl (wr.heap.size) _) xs _) (by omega), keepd x5 (Below.alloc (Below.refl (wr.heap.size) _) xs _) (by omega), keepd x6 (Below.alloc (Below.refl (wr.heap.size) _) xs _) (by omega), keepd x7 (Below.alloc (Below.refl (wr.heap.size) _) xs _) (by omega), Below.trans xb (Below.mono (Below.alloc (Below.refl (wr.heap.size) _) xs _) (by omega)), Nat.le_trans xs (Below.size (Below.alloc (Below.refl (wr.heap.size) _) xs _))⟩ | exact ⟨keepd x0 (Below.mono (B' := wr.heap.size) (by assumption) xs) (by omega), keepd x1 (Below.mono (B' := wr.heap.size) (by assumption) xs) (by omega), keepd x2 (Below.mono (B' := wr.heap.size) (by assumption) xs) (by omega), keepd x3 (Below.mono (B' := wr.heap.size) (by assumption) xs) (by omega), keepd x4 (Below.mono (B' := wr.heap.size) (by assumption) xs) (by omega), keepd x5 (Below.mono (B' := wr.heap.size) (by assumption) xs) (by omega), keepd x6 (Below.mono (B' := wr.heap.size) (by assumption) xs) (by omega), keepd x7 (Below.mono (B' := wr.heap.size) (by assumption) xs) (by omega), Below.trans xb (Below.mono (Below.mono (B' := wr.heap.size) (by assumption) xs) (by omega)), Nat.le_trans xs (Below.size (Below.mono (B' := wr.heap.size) (by assumption) xs))⟩ | exact ⟨keepd x0 (hgst) (by omega), keepd x1 (hgst) (by omega), keepd x2 (hgst) (by omega), keepd x3 (hgst) (by omega), keepd x4 (hgst) (by omega), keepd x5 (hgst) (by omega), keepd x6 (hgst) (by omega), keepd x7 (hgst) (by omega), Below.trans xb (Below.mono (hgst) (by omega)), Nat.le_trans xs (Below.size (hgst))⟩ | exact ⟨keepd x0 (Below.setCell (Below.refl (wr.heap.size) _) (by first | (simp; done) | (simp; omega)) _) (by omega), keepd x1 (Below.setCell (Below.refl (wr.heap.size) _) (by first | (simp; done) | (simp; omega)) _) (by omega), keepd x2 (Below.setCell (Below.refl (wr.heap.size) _) (by first | (simp; done) | (simp; omega)) _) (by omega), keepd x3 (Below.setCell (Below.refl (wr.heap.size) _) (by first | (simp; done) | (simp; omega)) _) (by omega), keepd x4 (Below.setCell (Below.refl (wr.heap.size) _) (by first | (simp; done) | (simp; omega)) _) (by omega), keepd x5 (Below.setCell (Below.refl (wr.heap.size) _) (by first | (simp; done) | (simp; omega)) _) (by omega), keepd x6 (Below.setCell (Below.refl (wr.heap.size) _) (by first | (simp; done) | (simp; omega)) _) (by omega), keepd x7 (Below.setCell (Below.refl (wr.heap.size) _) (by first | (simp; done) | (simp; omega)) _) (by omega), Below.trans xb (Below.mono (Below.setCell (Below.refl (wr.heap.size) _) (by first | (simp; done) | (simp; omega)) _) (by omega)), Nat.le_trans xs (Below.size (Below.setCell (Below.refl (wr.heap.size) _) (by first | (simp; done) | (simp; omega)) _))⟩ | exact ⟨keepd x0 (Below.setCell (Below.setCell (Below.setCell (Below.setCell (Below.refl (wr.heap.size) _) (by first | (simp; done) | (simp; omega)) _) (by first | (simp; done) | (simp; omega)) _) (by first | (simp; done) | (simp; omega)) _) (by first | (simp; done) | (simp; omega)) _) (by omega), keepd x1 (Below.setCell (Below.setCell (Below.setCell (Below.setCell (Below.refl (wr.heap.size) _) (by first | (simp; done) | (simp; omega)) _) (by first | (simp; done) | (simp; omega)) _) (by first | (simp; done) | (simp; omega)) _) (by first | (simp; done) | (simp; omega)) _) (by omega), keepd x2 (Below.setCell (Below.setCell (Below.setCell (Below.setCell (Below.refl (wr.heap.size) _) (by first | (simp; done) | (simp; omega)) _) (by first | (simp; done) | (simp; omega)) _) (by first | (simp; done) | (simp; omega)) _) (by first | (simp; done) | (simp; omega)) _) (by omega), keepd x3 (Below.setCell (Below.setCell (Below.setCell (Below.setCell (Below.refl (wr.heap.size) _) (by first | (simp; done) | (simp; omega)) _) (by first | (simp; done) | (simp; omega)) _) (by first | (simp; done) | (simp; omega)) _) (by first | (simp; done) | (simp; omega)) _) (by omega), keepd x4 (Below.setCell (Below.setCell (Below.setCell (Below.setCell (Below.refl (wr.heap.size) _) (by first | (simp; done) | (simp; omega)) _) (by first | (simp; done) | (simp; omega)) _) (by first | (simp; done) | (simp; omega)) _) (by first | (simp; done) | (simp; omega)) _) (by omega), keepd x5 (Below.setCell (Below.setCell (Below.setCell (Below.setCell (Below.refl (wr.heap.size) _) (by first | (simp; done) | (simp; omega)) _) (by first | (simp; done) | (simp; omega)) _) (by first | (simp; done) | (simp; omega)) _) (by first | (simp; done) | (simp; omega)) _) (by omega), keepd x6 (Below.setCell (Below.setCell (Below.setCell (Below.setCell (Below.refl (wr.heap.size) _) (by first | (simp; done) | (simp; omega)) _) (by first | (simp; done) | (simp; omega)) _) (by first | (simp; done) | (simp; omega)) _) (by first | (simp; done) | (simp; omega)) _) (by omega), keepd x7 (Below.setCell (Below.setCell (Below.setCell (Below.setCell (Below.refl (wr.heap.size) _) (by first | (simp; done) | (simp; omega)) _) (by first | (simp; done) | (simp; omega)) _) (by first | (simp; done) | (simp; omega)) _) (by first | (simp; done) | (simp; omega)) _) (by omega), Below.trans xb (Below.mono (Below.setCell (Below.setCell (Below.setCell (Below.setCell (Below.refl (wr.heap.size) _) (by first | (simp; done) | (simp; omega)) _) (by first | (simp; done) | (simp; omega)) _) (by first | (simp; done) | (simp; omega)) _) (by first | (simp; done) | (simp; omega)) _) (by omega)), Nat.le_trans xs (Below.size (Below.setCell (Below.setCell (Below.setCell (Below.setCell (Below.refl (wr.heap.size) _) (by first | (simp; done) | (simp; omega)) _) (by first | (simp; done) | (simp; omega)) _) (by first | (simp; done) | (simp; omega)) _) (by first | (simp; done) | (simp; omega)) _))⟩)) (first | (go_at_call 63; refine (rturned_c f _ k wr.drew hFd hv).mono ?_; rintro e w2 ⟨A2, n2, c2, rfl, hI2, -, hbq⟩; have HI2 := fun (_ : Unit) => hI2; clear hI2; have hG2 := hGd.mono hbq hbq.size) | (go_at_call 16; refine (rSame_c (turnF f k) g _ _ _ (IsFace.mk (HI2 ())) hG2).mono ?_; rw [hs]; rintro e w3 ⟨rfl, hbq3⟩))
        obtain ⟨-, -, -, -, -, -, -, -, xb, -⟩ := ‹_ ∧ _›
        have hst2 := hst.later xb
        clear xb HI2 hG2 hFd hGd hFr hGr k0 k1 k2 k3 k4 k5 k6 k7
        go_wp2_with fail
        go_roundw
        case rel => exact ⟨k + 1, Hlt.out.1, by go_num, by rw [Hs.out]; exact hst2⟩
        case measure => have := Hlt.out; simp [intOf]; omega
      · have Hs := Lib.hid (turnsN_yes hs)
        have k0 : wr.cell? ⟨w.heap.size, 0, none⟩ = some (.int .i64 f.eye) := hst.b0.cell 0
        have k1 : wr.cell? ⟨w.heap.size, 1, none⟩ = some (.int .i64 f.rings) := hst.b0.cell 1
        have k2 : wr.cell? ⟨w.heap.size, 2, none⟩ = some (.int .i64 f.sectors) := hst.b0.cell 2
        have k3 : wr.cell? ⟨w.heap.size, 3, none⟩ = some (.slice A f.kinds.length cp) := hst.b0.cell 3
        have k4 : wr.cell? ⟨w.heap.size + 1, 0, none⟩ = some (.int .i64 g.eye) := hst.b1.cell 0
        have k5 : wr.cell? ⟨w.heap.size + 1, 1, none⟩ = some (.int .i64 g.rings) := hst.b1.cell 1
        have k6 : wr.cell? ⟨w.heap.size + 1, 2, none⟩ = some (.int .i64 g.sectors) := hst.b1.cell 2
        have k7 : wr.cell? ⟨w.heap.size + 1, 3, none⟩ = some (.slice A' g.kinds.length cp') := hst.b1.cell 3
        go_wp2_with fail
        go_region_held3 (fun W => W.cell? ⟨(w.heap.size), 0, none⟩ = some (.int .i64 f.eye) ∧ W.cell? ⟨(w.heap.size), 1, none⟩ = some (.int .i64 f.rings) ∧ W.cell? ⟨(w.heap.size), 2, none⟩ = some (.int .i64 f.sectors) ∧ W.cell? ⟨(w.heap.size), 3, none⟩ = some (.slice A f.kinds.length cp) ∧ W.cell? ⟨(w.heap.size + 1), 0, none⟩ = some (.int .i64 g.eye) ∧ W.cell? ⟨(w.heap.size + 1), 1, none⟩ = some (.int .i64 g.rings) ∧ W.cell? ⟨(w.heap.size + 1), 2, none⟩ = some (.int .i64 g.sectors) ∧ W.cell? ⟨(w.heap.size + 1), 3, none⟩ = some (.slice A' g.kinds.length cp') ∧ Below wr.heap.size wr W ∧ wr.heap.size ≤ W.heap.size) (first | assumption | (refine ⟨?_, ?_, ?_, ?_, ?_, ?_, ?_, ?_, (Below.refl _ _).drew, by first | (simp; done) | (simp; omega) | omega⟩ <;> go_keep) | (obtain ⟨x0, x1, x2, x3, x4, x5, x6, x7, xb, xs⟩ := ‹_ ∧ _›; first | exact ⟨keepd x0 (Below.alloc (Below.refl (wr.heap.size) _) xs _) (by omega), keepd x1 (Below.alloc (Below.refl (wr.heap.size) _) xs _) (by omega), keepd x2 (Below.alloc (Below.refl (wr.heap.size) _) xs _) (by omega), keepd x3 (Below.alloc (Below.refl (wr.heap.size) _) xs _) (by omega), keepd x4 (Below.alloc (Below.refl (wr.heap.size) _) xs _) (by omega), keepd x5 (Below.alloc (Below.refl (wr.heap.size) _) xs _) (by omega), keepd x6 (Below.alloc (Below.refl (wr.heap.size) _) xs _) (by omega), keepd x7 (Below.alloc (Below.refl (wr.heap.size) _) xs _) (by omega), Below.trans xb (Below.mono (Below.alloc (Below.refl (wr.heap.size) _) xs _) (by omega)), Nat.le_trans xs (Below.size (Below.alloc (Below.refl (wr.heap.size) _) xs _))⟩ | exact ⟨keepd x0 (Below.mono (B' := wr.heap.size) (by assumption) xs) (by omega), keepd x1 (Below.mono (B' := wr.heap.size) (by assumption) xs) (by omega), keepd x2 (Below.mono (B' := wr.heap.size) (by assumption) xs) (by omega), keepd x3 (Below.mono (B' := wr.heap.size) (by assumption) xs) (by omega), keepd x4 (Below.mono (B' := wr.heap.size) (by assumption) xs) (by omega), keepd x5 (Below.mono (B' := wr.heap.size) (by assumption) xs) (by omega), keepd x6 (Below.mono (B' := wr.heap.size) (by assumption) xs) (by omega), keepd x7 (Below.mono (B' := wr.heap.size) (by assumption) xs) (by omega), Below.trans xb (Below.mono (Below.mono (B' := wr.heap.size) (by assumption) xs) (by omega)), Nat.le_trans xs (Below.size (Below.mono (B' := wr.heap.size) (by assumption) xs))⟩ | exact ⟨keepd x0 (hgst) (by omega), keepd x1 (hgst) (by omega), keepd x2 (hgst) (by omega), keepd x3 (hgst) (by omega), keepd x4 (hgst) (by omega), keepd x5 (hgst) (by omega), keepd x6 (hgst) (by omega), keepd x7 (hgst) (by omega), Below.trans xb (Below.mono (hgst) (by omega)), Nat.le_trans xs (Below.size (hgst))⟩ | exact ⟨keepd x0 (Below.setCell (Below.refl (wr.heap.size) _) (by first | (simp; done) | (simp; omega)) _) (by omega), keepd x1 (Below.setCell (Below.refl (wr.heap.size) _) (by first | (simp; done) | (simp; omega)) _) (by omega), keepd x2 (Below.setCell (Below.refl (wr.heap.size) _) (by first | (simp; done) | (simp; omega)) _) (by omega), keepd x3 (Below.setCell (Below.refl (wr.heap.size) _) (by first | (simp; done) | (simp; omega)) _) (by omega), keepd x4 (Below.setCell (Below.refl (wr.heap.size) _) (by first | (simp; done) | (simp; omega)) _) (by omega), keepd x5 (Below.setCell (Below.refl (wr.heap.size) _) (by first | (simp; done) | (simp; omega)) _) (by omega), keepd x6 (Below.setCell (Below.refl (wr.heap.size) _) (by first | (simp; done) | (simp; omega)) _) (by omega), keepd x7 (Below.setCell (Below.refl (wr.heap.size) _) (by first | (simp; done) | (simp; omega)) _) (by omega), Below.trans xb (Below.mono (Below.setCell (Below.refl (wr.heap.size) _) (by first | (simp; done) | (simp; omega)) _) (by omega)), Nat.le_trans xs (Below.size (Below.setCell (Below.refl (wr.heap.size) _) (by first | (simp; done) | (simp; omega)) _))⟩ | exact ⟨keepd x0 (Below.setCell (Below.setCell (Below.setCell (Below.setCell (Below.refl (wr.heap.size) _) (by first | (simp; done) | (simp; omega)) _) (by first | (simp; done) | (simp; omega)) _) (by first | (simp; done) | (simp; omega)) _) (by first | (simp; done) | (simp; omega)) _) (by omega), keepd x1 (Below.setCell (Below.setCell (Below.setCell (Below.setCell (Below.refl (wr.heap.size) _) (by first | (simp; done) | (simp; omega)) _) (by first | (simp; done) | (simp; omega)) _) (by first | (simp; done) | (simp; omega)) _) (by first | (simp; done) | (simp; omega)) _) (by omega), keepd x2 (Below.setCell (Below.setCell (Below.setCell (Below.setCell (Below.refl (wr.heap.size) _) (by first | (simp; done) | (simp; omega)) _) (by first | (simp; done) | (simp; omega)) _) (by first | (simp; done) | (simp; omega)) _) (by first | (simp; done) | (simp; omega)) _) (by omega), keepd x3 (Below.setCell (Below.setCell (Below.setCell (Below.setCell (Below.refl (wr.heap.size) _) (by first | (simp; done) | (simp; omega)) _) (by first | (simp; done) | (simp; omega)) _) (by first | (simp; done) | (simp; omega)) _) (by first | (simp; done) | (simp; omega)) _) (by omega), keepd x4 (Below.setCell (Below.setCell (Below.setCell (Below.setCell (Below.refl (wr.heap.size) _) (by first | (simp; done) | (simp; omega)) _) (by first | (simp; done) | (simp; omega)) _) (by first | (simp; done) | (simp; omega)) _) (by first | (simp; done) | (simp; omega)) _) (by omega), keepd x5 (Below.setCell (Below.setCell (Below.setCell (Below.setCell (Below.refl (wr.heap.size) _) (by first | (simp; done) | (simp; omega)) _) (by first | (simp; done) | (simp; omega)) _) (by first | (simp; done) | (simp; omega)) _) (by first | (simp; done) | (simp; omega)) _) (by omega), keepd x6 (Below.setCell (Below.setCell (Below.setCell (Below.setCell (Below.refl (wr.heap.size) _) (by first | (simp; done) | (simp; omega)) _) (by first | (simp; done) | (simp; omega)) _) (by first | (simp; done) | (simp; omega)) _) (by first | (simp; done) | (simp; omega)) _) (by omega), keepd x7 (Below.setCell (Below.setCell (Below.setCell (Below.setCell (Below.refl (wr.heap.size) _) (by first | (simp; done) | (simp; omega)) _) (by first | (simp; done) | (simp; omega)) _) (by first | (simp; done) | (simp; omega)) _) (by first | (simp; done) | (simp; omega)) _) (by omega), Below.trans xb (Below.mono (Below.setCell (Below.setCell (Below.setCell (Below.setCell (Below.refl (wr.heap.size) _) (by first | (simp; done) | (simp; omega)) _) (by first | (simp; done) | (simp; omega)) _) (by first | (simp; done) | (simp; omega)) _) (by first | (simp; done) | (simp; omega)) _) (by omega)), Nat.le_trans xs (Below.size (Below.setCell (Below.setCell (Below.setCell (Below.setCell (Below.refl (wr.heap.size) _) (by first | (simp; done) | (simp; omega)) _) (by first | (simp; done) | (simp; omega)) _) (by first | (simp; done) | (simp; omega)) _) (by first | (simp; done) | (simp; omega)) _))⟩)) (first | (go_at_call 63; refine (rturned_c f _ k wr.drew hFd hv).mono ?_; rintro e w2 ⟨A2, n2, c2, rfl, hI2, -, hbq⟩; have HI2 := fun (_ : Unit) => hI2; clear hI2; have hG2 := hGd.mono hbq hbq.size) | (go_at_call 16; refine (rSame_c (turnF f k) g _ _ _ (IsFace.mk (HI2 ())) hG2).mono ?_; rw [hs]; rintro e w3 ⟨rfl, hbq3⟩))
        obtain ⟨-, -, -, -, -, -, -, -, xb, -⟩ := ‹_ ∧ _›
        have hst2 := hst.later xb
        clear xb HI2 hG2 hFd hGd hFr hGr k0 k1 k2 k3 k4 k5 k6 k7
        have hlen := turnsN_len f g k
        have hs2 := hst2.b1.lt
        obtain ⟨W, hW⟩ : ∃ W : World, W = w3 := ⟨_, rfl⟩
        obtain ⟨i0, hi, hz0, hz1, hz2⟩ := info_parts Tryz.infoInt
        have hk1 : (turnsN f g k).length + 1 ≤ maxLen := by have := H2.out; have := Hlt.out.1; unfold maxLen; omega
        have hk2 : ((turnsN f g k).length + 1) * 8 ≤ 140737488355328 := by have := H2.out; have := Hlt.out.1; omega
        have hk3 : w.heap.size + 2 ≤ (w3.alloc (.cells #[.int .i64 (k : Int)] 3)).heap.size := by simp; omega
        have ho6 := hst2.own.alloc (.cells #[.int .i64 (k : Int)] 3)
        have hnews : ∀ (j : Nat) (u : Value), [Value.int .i64 (k : Int)][j]? = some u → (w3.alloc (.cells #[.int .i64 (k : Int)] 3)).cell? ((⟨w3.heap.size, 0, none⟩ : Addr).add j) = some u := fun j u h => by
          have e := Box.made w3 3 #[.int .i64 (k : Int)]
          rcases j with _ | j
          · exact (e.cell 0).trans h
          · simp at h
        have Hlen := Lib.hid hlen
        have Hs2 := Lib.hid hs2
        clear hlen hs2 hW
        go_wp2_with (first
          | (at_builtin; refine wpList_append_own_at _ rfl _ _ 22 rfl (w.heap.size + 2) 3 i0 (.int .i64 0) 1 8 Tryz.underlying22 hi hz0 hz1 hz2 rfl (by decide) u6 _ _ rfl ho6 ⟨w3.heap.size, 0, none⟩ 1 1 [.int .i64 (k : Int)] rfl rfl hnews (one_cell _) hk1 hk2 hk3 ?_; intro v' w7 hown7 hgrow7 _ _))
        have hs7 := hgrow7.size
        simp only [World.size_alloc] at hs7
        go_roundw
        case rel => 
          refine ⟨k + 1, Hlt.out.1, by go_num, ?_⟩
          rw [Hs.out]
          refine ⟨?_, ?_, ?_, ?_⟩
          · exact (hst2.b0.alloc _).grown hgrow7 (own_far2 ho6 (by omega))
          · exact (hst2.b1.alloc _).grown hgrow7 (own_far2 ho6 (by omega))
          · rw [List.length_append, ints_snoc]; exact hown7
          · exact (hst2.bel.alloc (by have := Hs2.out; omega) _).grown hgrow7 (by have := Hs2.out; simp; omega) (fun q e => by have := (ho6.lt q e).1; omega)
        case measure => have := Hlt.out; simp [intOf]; omega
    · obtain rfl : k = S := by omega
      have k2 : wr.cell? ⟨w.heap.size, 2, none⟩ = some (.int .i64 f.sectors) := hst.b0.cell 2
      have hd : decide ((k : Int) < f.sectors) = false := by rw [decide_eq_false_iff_not, HS.out]; omega
      obtain ⟨oA, oc, rfl⟩ := own_shape hst.own
      have hnew := NewS.own hst.own
      have hlen := turnsN_len f g k
      have hin := ints_own hst.own (Nat.le_refl _) (by have := H2.out; omega)
      go_wp2_with fail
      go_ret2
      exact ⟨_, _, _, rfl, by rw [H7.out]; exact hin, hnew.mono (by omega), hst.bel⟩

end Go.Proofs.YtpejcdjgggcjlaaGreatDoor

namespace Go.Proofs.YtpejcdjgggcjlaaGreatDoor
open Go.RowKit

/-- the period that is told -/
def perOf (f : Fc) : Int := if validB f = true then ((perN f : Nat) : Int) else 0
/-- what is wrong with a face -/
def ckFace (f : Fc) : Int := if validB f = true then 0 else 10

set_option maxRecDepth 100000 in
set_option maxHeartbeats 4000000 in
theorem rPeriod_c (f : Fc) (v : Value) (w : World) (h : IsFace w w.heap.size v f) :
    Calls Tryz.prog 37 #[v] w fun e w' => e = .returned (.tuple #[.int .i64 (perOf f), .int .i64 (ckFace f)]) ∧ Below w.heap.size w w' := by
  have hF := h
  obtain ⟨s, rfl, hlen, A, cp, rfl, hcap, hcell⟩ := h
  clear hcell
  have b0 := Box.made w 24 #[.int .i64 f.eye, .int .i64 f.rings, .int .i64 f.sectors, .slice A f.kinds.length cp]
  cases hv : validB f
  · have Hp := Lib.hid (show perOf f = 0 by simp [perOf, hv])
    have Hk := Lib.hid (show ckFace f = 10 by simp [ckFace, hv])
    go_enter Tryz.func37, Tryz.ntmps37
    go_wp2_with fail
    refine (rValid_c f _ _ (hF.box _)).mono ?_; rintro e w1 ⟨rfl, hb⟩
    have hbw : Below w.heap.size w w1 := boxed hb
    rw [hv]
    go_wp2_with fail
    go_ret2
    exact ⟨by rw [Hp.out, Hk.out]; rfl, hbw⟩
  have Hp := Lib.hid (show perOf f = ((perN f : Nat) : Int) by simp [perOf, hv])
  have Hk := Lib.hid (show ckFace f = 0 by simp [ckFace, hv])
  obtain ⟨⟨⟨a1, a2⟩, ⟨a3, a4⟩, a5, a6⟩, -, -⟩ := validB_iff.1 hv
  go_enter Tryz.func37, Tryz.ntmps37
  go_wp2_with fail
  refine (rValid_c f _ _ (hF.box _)).mono ?_; rintro e w1 ⟨rfl, hb⟩
  have hbw : Below w.heap.size w w1 := boxed hb
  have b1 := b0.later hb
  rw [hv]
  go_wp2_with fail
  clear hb b0
  go_loopw [4] (fun i wr => ∃ k : Nat, 1 ≤ k ∧ (k : Int) ≤ f.sectors ∧ i = .int .i64 (k : Int) ∧ (∀ q : Nat, 1 ≤ q → q < k → turnF f q ≠ f) ∧ Box wr w.heap.size 24 #[.int .i64 f.eye, .int .i64 f.rings, .int .i64 f.sectors, .slice A f.kinds.length cp] ∧ Below w.heap.size w wr)
    (fun i _ => f.sectors.toNat - (intOf i).toNat)
  case atStart => exact ⟨1, Nat.le_refl _, by omega, rfl, fun q h1 h2 => by omega, b1, hbw⟩
  case round =>
    clear b1 hbw
    obtain ⟨k, hk1, hk2, rfl, hno, hb0, hbr⟩ := hrel
    have Hno := Lib.hid hno
    clear hno
    have hlt0 := hb0.lt
    have hFr := hF.mono hbr hbr.size
    cases hs : sameB (turnF f k) f
    · have hlt : (k : Int) < f.sectors := by
        rcases Int.lt_or_le (k : Int) f.sectors with h | h
        · exact h
        · have e : (k : Int) = f.sectors := by omega
          rw [e, turn_all hv, sameB_iff.2 rfl] at hs
          cases hs
      have Hno2 := Lib.hid (show ∀ q : Nat, 1 ≤ q → q < k + 1 → turnF f q ≠ f by
        intro q h1 h2 h3
        by_cases e : q = k
        · subst e
          rw [sameB_iff.2 h3] at hs
          cases hs
        · exact Hno.out q h1 (by omega) h3)
      have k0 : wr.cell? ⟨w.heap.size, 0, none⟩ = some (.int .i64 f.eye) := hb0.cell 0
      have k1 : wr.cell? ⟨w.heap.size, 1, none⟩ = some (.int .i64 f.rings) := hb0.cell 1
      have k2 : wr.cell? ⟨w.heap.size, 2, none⟩ = some (.int .i64 f.sectors) := hb0.cell 2
      have k3 : wr.cell? ⟨w.heap.size, 3, none⟩ = some (.slice A f.kinds.length cp) := hb0.cell 3
      have hdr : Below wr.heap.size wr wr.drew := (Below.refl _ _).drew
      have hFd := hFr.mono hdr hdr.size
      clear hdr
      go_wp2_with fail
      go_region_held3 (fun W => W.cell? ⟨(w.heap.size), 0, none⟩ = some (.int .i64 f.eye) ∧ W.cell? ⟨(w.heap.size), 1, none⟩ = some (.int .i64 f.rings) ∧ W.cell? ⟨(w.heap.size), 2, none⟩ = some (.int .i64 f.sectors) ∧ W.cell? ⟨(w.heap.size), 3, none⟩ = some (.slice A f.kinds.length cp) ∧ Below wr.heap.size wr W ∧ wr.heap.size ≤ W.heap.size) (first | assumption | (refine ⟨?_, ?_, ?_, ?_, (Below.refl _ _).drew, by first | (simp; done) | (simp; omega) | omega⟩ <;> go_keep) | (obtain ⟨x0, x1, x2, x3, xb, xs⟩ := ‹_ ∧ _›; first | exact ⟨keepd x0 (Below.alloc (Below.refl (wr.heap.size) _) xs _) (by omega), keepd x1 (Below.alloc (Below.refl (wr.heap.size) _) xs _) (by omega), keepd x2 (Below.alloc (Below.refl (wr.heap.size) _) xs _) (by omega), keepd x3 (Below.alloc (Below.refl (wr.heap.size) _) xs _) (by omega), Below.trans xb (Below.mono (Below.alloc (Below.refl (wr.heap.size) _) xs _) (by omega)), Nat.le_trans xs (Below.size (Below.alloc (Below.refl (wr.heap.size) _) xs _))⟩ | exact ⟨keepd x0 (Below.mono (B' := wr.heap.size) (by assumption) xs) (by omega), keepd x1 (Below.mono (B' := wr.heap.size) (by assumption) xs) (by omega), keepd x2 (Below.mono (B' := wr.heap.size) (by assumption) xs) (by omega), keepd x3 (Below.mono (B' := wr.heap.size) (by assumption) xs) (by omega), Below.trans xb (Below.mono (Below.mono (B' := wr.heap.size) (by assumption) xs) (by omega)), Nat.le_trans xs (Below.size (Below.mono (B' := wr.heap.size) (by assumption) xs))⟩ | exact ⟨keepd x0 (hgst) (by omega), keepd x1 (hgst) (by omega), keepd x2 (hgst) (by omega), keepd x3 (hgst) (by omega), Below.trans xb (Below.mono (hgst) (by omega)), Nat.le_trans xs (Below.size (hgst))⟩ | exact ⟨keepd x0 (Below.setCell (Below.refl (wr.heap.size) _) (by first | (simp; done) | (simp; omega)) _) (by omega), keepd x1 (Below.setCell (Below.refl (wr.heap.size) _) (by first | (simp; done) | (simp; omega)) _) (by omega), keepd x2 (Below.setCell (Below.refl (wr.heap.size) _) (by first | (simp; done) | (simp; omega)) _) (by omega), keepd x3 (Below.setCell (Below.refl (wr.heap.size) _) (by first | (simp; done) | (simp; omega)) _) (by omega), Below.trans xb (Below.mono (Below.setCell (Below.refl (wr.heap.size) _) (by first | (simp; done) | (simp; omega)) _) (by omega)), Nat.le_trans xs (Below.size (Below.setCell (Below.refl (wr.heap.size) _) (by first | (simp; done) | (simp; omega)) _))⟩ | exact ⟨keepd x0 (Below.setCell (Below.setCell (Below.setCell (Below.setCell (Below.refl (wr.heap.size) _) (by first | (simp; done) | (simp; omega)) _) (by first | (simp; done) | (simp; omega)) _) (by first | (simp; done) | (simp; omega)) _) (by first | (simp; done) | (simp; omega)) _) (by omega), keepd x1 (Below.setCell (Below.setCell (Below.setCell (Below.setCell (Below.refl (wr.heap.size) _) (by first | (simp; done) | (simp; omega)) _) (by first | (simp; done) | (simp; omega)) _) (by first | (simp; done) | (simp; omega)) _) (by first | (simp; done) | (simp; omega)) _) (by omega), keepd x2 (Below.setCell (Below.setCell (Below.setCell (Below.setCell (Below.refl (wr.heap.size) _) (by first | (simp; done) | (simp; omega)) _) (by first | (simp; done) | (simp; omega)) _) (by first | (simp; done) | (simp; omega)) _) (by first | (simp; done) | (simp; omega)) _) (by omega), keepd x3 (Below.setCell (Below.setCell (Below.setCell (Below.setCell (Below.refl (wr.heap.size) _) (by first | (simp; done) | (simp; omega)) _) (by first | (simp; done) | (simp; omega)) _) (by first | (simp; done) | (simp; omega)) _) (by first | (simp; done) | (simp; omega)) _) (by omega), Below.trans xb (Below.mono (Below.setCell (Below.setCell (Below.setCell (Below.setCell (Below.refl (wr.heap.size) _) (by first | (simp; done) | (simp; omega)) _) (by first | (simp; done) | (simp; omega)) _) (by first | (simp; done) | (simp; omega)) _) (by first | (simp; done) | (simp; omega)) _) (by omega)), Nat.le_trans xs (Below.size (Below.setCell (Below.setCell (Below.setCell (Below.setCell (Below.refl (wr.heap.size) _) (by first | (simp; done) | (simp; omega)) _) (by first | (simp; done) | (simp; omega)) _) (by first | (simp; done) | (simp; omega)) _) (by first | (simp; done) | (simp; omega)) _))⟩)) (first | (go_at_call 63; refine (rturned_c f _ k wr.drew hFd hv).mono ?_; rintro e w2 ⟨A2, n2, c2, rfl, hI2, -, hbq⟩; have HI2 := fun (_ : Unit) => hI2; clear hI2; have hF2 := hFd.mono hbq hbq.size) | (go_at_call 16; refine (rSame_c (turnF f k) f _ _ _ (IsFace.mk (HI2 ())) hF2).mono ?_; rw [hs]; rintro e w3 ⟨rfl, hbq3⟩))
      obtain ⟨-, -, -, -, xb, -⟩ := ‹_ ∧ _›
      have hbn := hbr.trans (xb.mono (by omega))
      have b3 := hb0.below xb hlt0
      clear xb HI2 hF2 hFd hFr
      go_wp2_with fail
      go_roundw
      case rel => exact ⟨k + 1, by omega, by omega, by go_num, Hno2.out, b3, hbn⟩
      case measure => simp [intOf]; omega
    · have hper : IsPer f k := ⟨hk1, hk2, .inr (sameB_iff.1 hs), Hno.out⟩
      have Hper := Lib.hid hper
      clear hper
      have k0 : wr.cell? ⟨w.heap.size, 0, none⟩ = some (.int .i64 f.eye) := hb0.cell 0
      have k1 : wr.cell? ⟨w.heap.size, 1, none⟩ = some (.int .i64 f.rings) := hb0.cell 1
      have k2 : wr.cell? ⟨w.heap.size, 2, none⟩ = some (.int .i64 f.sectors) := hb0.cell 2
      have k3 : wr.cell? ⟨w.heap.size, 3, none⟩ = some (.slice A f.kinds.length cp) := hb0.cell 3
      have hdr : Below wr.heap.size wr wr.drew := (Below.refl _ _).drew
      have hFd := hFr.mono hdr hdr.size
      clear hdr
      go_wp2_with fail
      go_region_held3 (fun W => W.cell? ⟨(w.heap.size), 0, none⟩ = some (.int .i64 f.eye) ∧ W.cell? ⟨(w.heap.size), 1, none⟩ = some (.int .i64 f.rings) ∧ W.cell? ⟨(w.heap.size), 2, none⟩ = some (.int .i64 f.sectors) ∧ W.cell? ⟨(w.heap.size), 3, none⟩ = some (.slice A f.kinds.length cp) ∧ Below wr.heap.size wr W ∧ wr.heap.size ≤ W.heap.size) (first | assumption | (refine ⟨?_, ?_, ?_, ?_, (Below.refl _ _).drew, by first | (simp; done) | (simp; omega) | omega⟩ <;> go_keep) | (obtain ⟨x0, x1, x2, x3, xb, xs⟩ := ‹_ ∧ _›; first | exact ⟨keepd x0 (Below.alloc (Below.refl (wr.heap.size) _) xs _) (by omega), keepd x1 (Below.alloc (Below.refl (wr.heap.size) _) xs _) (by omega), keepd x2 (Below.alloc (Below.refl (wr.heap.size) _) xs _) (by omega), keepd x3 (Below.alloc (Below.refl (wr.heap.size) _) xs _) (by omega), Below.trans xb (Below.mono (Below.alloc (Below.refl (wr.heap.size) _) xs _) (by omega)), Nat.le_trans xs (Below.size (Below.alloc (Below.refl (wr.heap.size) _) xs _))⟩ | exact ⟨keepd x0 (Below.mono (B' := wr.heap.size) (by assumption) xs) (by omega), keepd x1 (Below.mono (B' := wr.heap.size) (by assumption) xs) (by omega), keepd x2 (Below.mono (B' := wr.heap.size) (by assumption) xs) (by omega), keepd x3 (Below.mono (B' := wr.heap.size) (by assumption) xs) (by omega), Below.trans xb (Below.mono (Below.mono (B' := wr.heap.size) (by assumption) xs) (by omega)), Nat.le_trans xs (Below.size (Below.mono (B' := wr.heap.size) (by assumption) xs))⟩ | exact ⟨keepd x0 (hgst) (by omega), keepd x1 (hgst) (by omega), keepd x2 (hgst) (by omega), keepd x3 (hgst) (by omega), Below.trans xb (Below.mono (hgst) (by omega)), Nat.le_trans xs (Below.size (hgst))⟩ | exact ⟨keepd x0 (Below.setCell (Below.refl (wr.heap.size) _) (by first | (simp; done) | (simp; omega)) _) (by omega), keepd x1 (Below.setCell (Below.refl (wr.heap.size) _) (by first | (simp; done) | (simp; omega)) _) (by omega), keepd x2 (Below.setCell (Below.refl (wr.heap.size) _) (by first | (simp; done) | (simp; omega)) _) (by omega), keepd x3 (Below.setCell (Below.refl (wr.heap.size) _) (by first | (simp; done) | (simp; omega)) _) (by omega), Below.trans xb (Below.mono (Below.setCell (Below.refl (wr.heap.size) _) (by first | (simp; done) | (simp; omega)) _) (by omega)), Nat.le_trans xs (Below.size (Below.setCell (Below.refl (wr.heap.size) _) (by first | (simp; done) | (simp; omega)) _))⟩ | exact ⟨keepd x0 (Below.setCell (Below.setCell (Below.setCell (Below.setCell (Below.refl (wr.heap.size) _) (by first | (simp; done) | (simp; omega)) _) (by first | (simp; done) | (simp; omega)) _) (by first | (simp; done) | (simp; omega)) _) (by first | (simp; done) | (simp; omega)) _) (by omega), keepd x1 (Below.setCell (Below.setCell (Below.setCell (Below.setCell (Below.refl (wr.heap.size) _) (by first | (simp; done) | (simp; omega)) _) (by first | (simp; done) | (simp; omega)) _) (by first | (simp; done) | (simp; omega)) _) (by first | (simp; done) | (simp; omega)) _) (by omega), keepd x2 (Below.setCell (Below.setCell (Below.setCell (Below.setCell (Below.refl (wr.heap.size) _) (by first | (simp; done) | (simp; omega)) _) (by first | (simp; done) | (simp; omega)) _) (by first | (simp; done) | (simp; omega)) _) (by first | (simp; done) | (simp; omega)) _) (by omega), keepd x3 (Below.setCell (Below.setCell (Below.setCell (Below.setCell (Below.refl (wr.heap.size) _) (by first | (simp; done) | (simp; omega)) _) (by first | (simp; done) | (simp; omega)) _) (by first | (simp; done) | (simp; omega)) _) (by first | (simp; done) | (simp; omega)) _) (by omega), Below.trans xb (Below.mono (Below.setCell (Below.setCell (Below.setCell (Below.setCell (Below.refl (wr.heap.size) _) (by first | (simp; done) | (simp; omega)) _) (by first | (simp; done) | (simp; omega)) _) (by first | (simp; done) | (simp; omega)) _) (by first | (simp; done) | (simp; omega)) _) (by omega)), Nat.le_trans xs (Below.size (Below.setCell (Below.setCell (Below.setCell (Below.setCell (Below.refl (wr.heap.size) _) (by first | (simp; done) | (simp; omega)) _) (by first | (simp; done) | (simp; omega)) _) (by first | (simp; done) | (simp; omega)) _) (by first | (simp; done) | (simp; omega)) _))⟩)) (first | (go_at_call 63; refine (rturned_c f _ k wr.drew hFd hv).mono ?_; rintro e w2 ⟨A2, n2, c2, rfl, hI2, -, hbq⟩; have HI2 := fun (_ : Unit) => hI2; clear hI2; have hF2 := hFd.mono hbq hbq.size) | (go_at_call 16; refine (rSame_c (turnF f k) f _ _ _ (IsFace.mk (HI2 ())) hF2).mono ?_; rw [hs]; rintro e w3 ⟨rfl, hbq3⟩))
      obtain ⟨-, -, -, -, xb, -⟩ := ‹_ ∧ _›
      have hbn := hbr.trans (xb.mono (by omega))
      clear xb HI2 hF2 hFd hFr
      have Hu := Lib.hid (Hper.out.uniq (perN_is hv))
      go_wp2_with fail
      go_ret2
      exact ⟨by rw [Hp.out, Hk.out, ← Hu.out]; rfl, hbn⟩

end Go.Proofs.YtpejcdjgggcjlaaGreatDoor

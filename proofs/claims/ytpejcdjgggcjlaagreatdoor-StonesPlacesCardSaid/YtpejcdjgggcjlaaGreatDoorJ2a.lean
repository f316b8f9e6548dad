/- The specification's Area. -/
import Derived.Test.YtpejcdjgggcjlaaGreatDoorJ2
namespace Go.Proofs.YtpejcdjgggcjlaaGreatDoor
open Go.RowKit

set_option maxRecDepth 100000 in
set_option maxHeartbeats 2000000 in
theorem rArea_c (f : Fc) (v : Value) (kind : Int) (w : World) (h : IsFace w w.heap.size v f) :
    Calls Tryz.prog 27 #[v, .int .i64 kind] w fun e w' => e = .returned (.tuple #[.int .i64 (areaOf f kind), .int .i64 (ckKind f kind)]) ∧ Below w.heap.size w w' := by
  have hF := h
  obtain ⟨s, rfl, hI⟩ := h
  clear hI
  have b0 := Box.made w 24 #[.int .i64 f.eye, .int .i64 f.rings, .int .i64 f.sectors, s]
  by_cases h0 : ckKind f kind = 0
  · have hne : (ckKind f kind != 0) = false := by simp [h0]
    obtain ⟨hv, -⟩ := ckKind_ok h0
    have He := Lib.hid h0
    have Hc : kcOf f kind = kindCells f kind f.kinds.length := by simp [kcOf, He.out]
    have Ha := Lib.hid (show areaOf f kind = ringSum f (kindCells f kind f.kinds.length) by rw [ringSum_kind]; simp [areaOf, h0])
    obtain ⟨⟨⟨a1, a2⟩, ⟨a3, a4⟩, a5, a6⟩, hl, -⟩ := validB_iff.1 hv
    have hl6 : f.kinds.length ≤ 2304 := (len_val hv).2.2
    have hbd := ringSum_bd (f := f) (kind := kind) a5 (by omega) a4
    have hln := kindCells_len f kind f.kinds.length
    have hln2 : (kindCells f kind f.kinds.length).length ≤ 2304 := by omega
    have hto := ringSum_to a1 a2 hbd
    clear h0 hl hln
    go_enter Tryz.func27, Tryz.ntmps27
    go_wp2_with fail
    refine (rCells_c f _ kind _ (hF.box _)).mono ?_; rintro e w1 ⟨lv, rfl, hC, hb⟩
    rw [Hc] at hC
    clear Hc
    generalize kindCells f kind f.kinds.length = L at *
    obtain ⟨LA, lc, rfl, hlc, hlcell⟩ := hC
    have b1 := b0.later hb
    have hbw := boxed hb
    clear b0 hb
    go_wp2_with fail
    go_loopw [8, 9] (fun n i wr => ∃ k : Nat, k ≤ L.length ∧ i = .int .i64 (k : Int) ∧ n = .int .i64 (ringSum f (L.take k)) ∧ Below w1.heap.size w1 wr) (fun _ i _ => L.length - (intOf i).toNat)
    case atStart => exact ⟨0, Nat.zero_le _, rfl, rfl, Below.refl _ _⟩
    case round =>
      obtain ⟨k, hk, rfl, rfl, hbr⟩ := hrel
      have i0 : (0 : Int) ≤ (k : Int) := Int.natCast_nonneg _
      by_cases hlt : k < L.length
      · obtain ⟨b, off, rfl, hbB, hcc⟩ := hlcell (by omega)
        obtain ⟨hx, hy⟩ := hcc k hlt
        have hx := keepd hx hbr hbB
        have hy := keepd hy hbr hbB
        have b2 := b1.later hbr
        have g0 : wr.cell? ⟨w.heap.size, 0, none⟩ = some (.int .i64 f.eye) := b2.cell 0
        have hd : decide ((k : Int) < (L.length : Int)) = true := by simpa using hlt
        have i1 : (k : Int) < (L.length : Int) := by omega
        obtain ⟨t1, t2⟩ := hto k hk
        obtain ⟨y1, y2⟩ := hbd k hlt
        have Hs := Lib.hid (ringSum_take (f := f) hlt)
        have Hlt := Lib.hid (show k + 1 ≤ L.length ∧ L.length - (k + 1) < L.length - k by omega)
        clear hcc hlcell hto hbd
        generalize cth L k = x at *
        obtain ⟨x1, x2⟩ := x
        dsimp only at *
        have hs1 : IntKind.i64.wrap (f.eye + x1) = f.eye + x1 := wrap_id (by omega) (by omega)
        have hs2 : IntKind.i64.wrap (2 * (f.eye + x1)) = 2 * (f.eye + x1) := wrap_id (by omega) (by omega)
        have hs3 : IntKind.i64.wrap (2 * (f.eye + x1) + 1) = 2 * (f.eye + x1) + 1 := wrap_id (by omega) (by omega)
        have hs4 : IntKind.i64.wrap (ringSum f (L.take k) + (2 * (f.eye + x1) + 1)) = ringSum f (L.take k) + (2 * (f.eye + x1) + 1) := wrap_id (by omega) (by omega)
        go_wp2_with fail
        go_quiet (fail)
        rename_i nq
        have hbn : Below w1.heap.size w1 (wr.drewN nq) := ⟨hbr.os, hbr.tape, hbr.output, hbr.size, hbr.block⟩
        clear hs1 hs2 hs3 hs4 hbr
        go_wp2_with fail
        go_roundw
        case rel => exact ⟨k + 1, Hlt.out.1, by go_num, by rw [Hs.out], hbn⟩
        case measure => have := Hlt.out; simp [intOf]; omega
      · obtain rfl : k = L.length := by omega
        have hd : decide ((L.length : Int) < (L.length : Int)) = false := by simp
        rw [List.take_length] at *
        clear hlcell
        go_wp2_with fail
        go_ret2
        exact ⟨by rw [Ha.out, He.out]; rfl, chain hbw hbr⟩
  · have hne : (ckKind f kind != 0) = true := by simpa using h0
    have Ha := Lib.hid (show areaOf f kind = 0 by simp [areaOf, h0])
    clear h0
    go_enter Tryz.func27, Tryz.ntmps27
    go_wp2_with fail
    refine (rCells_c f _ kind _ (hF.box _)).mono ?_; rintro e w1 ⟨lv, rfl, hC, hb⟩
    go_wp2_with fail
    go_ret2
    exact ⟨by rw [Ha.out]; rfl, boxed hb⟩

end Go.Proofs.YtpejcdjgggcjlaaGreatDoor

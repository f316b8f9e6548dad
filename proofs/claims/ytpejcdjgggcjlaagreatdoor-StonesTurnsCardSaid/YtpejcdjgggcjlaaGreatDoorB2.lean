/- The walk of ValidPattern. -/
import Derived.Test.YtpejcdjgggcjlaaGreatDoorB1
namespace Go.Proofs.YtpejcdjgggcjlaaGreatDoor
open Go.RowKit

theorem allF_snoc {l : List Fw} {q : Fw → Bool} {k : Nat} (h : k < l.length) : (l.take (k + 1)).all q = ((l.take k).all q && q (fwAt l k)) := by
  rw [List.take_succ_eq_append_getElem h, List.all_append]
  simp [fwAt, h]
theorem allF_false {l : List Fw} {q : Fw → Bool} {k : Nat} (h : k < l.length) (hf : q (fwAt l k) = false) : l.all q = false := by
  rw [List.all_eq_false]
  exact ⟨l[k], List.getElem_mem h, by simpa [fwAt, h] using hf⟩

set_option maxRecDepth 100000 in
set_option maxHeartbeats 1600000 in
theorem ValidPattern_c (p : Pt) (v : Value) (w : World) (h : IsPt w w.heap.size v p) :
    Calls Tryz.prog 71 #[v] w fun e w' => e = .returned (.bool (patB p)) ∧ Below w.heap.size w w' := by
  obtain ⟨s, rfl, hlen, A, c, rfl, hcap, hcell⟩ := h
  have hB1 : ∀ o : Obj, Below w.heap.size w (w.alloc o) := fun o => (Below.refl _ _).alloc (Nat.le_refl _) o
  cases c1 : inB p.eye 1 16
  · have H := Lib.hid (show patB p = false by simp [patB, c1])
    clear hcell
    go_enter Tryz.func71, Tryz.ntmps71
    go_wp2_with (go_at_call 77; refine (within_c _ _ _ _).mono ?_; rintro e w' ⟨rfl, rfl⟩)
    go_ret
    exact ⟨ret_bool H.out.symm, hB1 _⟩
  cases c2 : inB p.rings 1 24
  · have H := Lib.hid (show patB p = false by simp [patB, c2])
    clear hcell
    go_enter Tryz.func71, Tryz.ntmps71
    go_wp2_with (go_at_call 77; refine (within_c _ _ _ _).mono ?_; rintro e w' ⟨rfl, rfl⟩)
    go_ret
    exact ⟨ret_bool H.out.symm, hB1 _⟩
  cases c3 : inB p.harps 1 96
  · have H := Lib.hid (show patB p = false by simp [patB, c3])
    clear hcell
    go_enter Tryz.func71, Tryz.ntmps71
    go_wp2_with (go_at_call 77; refine (within_c _ _ _ _).mono ?_; rintro e w' ⟨rfl, rfl⟩)
    go_ret
    exact ⟨ret_bool H.out.symm, hB1 _⟩
  cases c4 : inB p.wide 1 96
  · have H := Lib.hid (show patB p = false by simp [patB, c4])
    clear hcell
    go_enter Tryz.func71, Tryz.ntmps71
    go_wp2_with (go_at_call 77; refine (within_c _ _ _ _).mono ?_; rintro e w' ⟨rfl, rfl⟩)
    go_ret
    exact ⟨ret_bool H.out.symm, hB1 _⟩
  obtain ⟨b1, b2⟩ := inB_iff.1 c2
  obtain ⟨b3, b4⟩ := inB_iff.1 c3
  obtain ⟨b5, b6⟩ := inB_iff.1 c4
  obtain ⟨m1, m2⟩ : 0 ≤ p.harps * p.wide ∧ p.harps * p.wide ≤ 96 * 96 := mul_bd (by omega) (by omega) b4 b6
  cases c5 : inB (p.harps * p.wide) 2 96
  · have H := Lib.hid (show patB p = false by simp [patB, c5])
    clear hcell
    go_enter Tryz.func71, Tryz.ntmps71
    go_wp2_with (go_at_call 77; refine (within_c _ _ _ _).mono ?_; rintro e w' ⟨rfl, rfl⟩)
    go_ret
    exact ⟨ret_bool H.out.symm, hB1 _⟩
  by_cases c6 : p.fs.length ≤ 16
  · have H := Lib.hid (show patB p = p.fs.all (furB p.rings p.wide) by simp [patB, c1, c2, c3, c4, c5, c6])
    go_enter Tryz.func71, Tryz.ntmps71
    go_wp2_with (go_at_call 77; refine (within_c _ _ _ _).mono ?_; rintro e w' ⟨rfl, rfl⟩)
    go_loopw [41] (fun i wr => ∃ k : Nat, k ≤ p.fs.length ∧ i = .int .i64 k ∧ (p.fs.take k).all (furB p.rings p.wide) = true ∧ Below (w.heap.size + 1) (w.alloc (.cells #[.int .i64 p.eye, .int .i64 p.rings, .int .i64 p.harps, .int .i64 p.wide, .slice A p.fs.length c] 62)) wr) (fun i _ => p.fs.length - (intOf i).toNat)
    case atStart => exact ⟨0, Nat.zero_le _, rfl, rfl, Below.refl _ _⟩
    case round =>
      obtain ⟨k, hk, rfl, hall, hbr⟩ := hrel
      have Hall := Lib.hid hall
      clear hall
      have hsz := hbr.size
      rw [World.size_alloc] at hsz
      have hbx := (Box.made w 62 #[.int .i64 p.eye, .int .i64 p.rings, .int .i64 p.harps, .int .i64 p.wide, .slice A p.fs.length c]).below hbr (by omega)
      have hbw : Below w.heap.size w wr := (hB1 _).trans (hbr.mono (by omega))
      by_cases hlt : k < p.fs.length
      · obtain ⟨b, off, rfl, hbB, hcc⟩ := hcell (by omega)
        obtain ⟨y0, y1, y2, y3, y4, y5, y6⟩ := hcc k hlt
        have q0 := keepd y0 hbw hbB
        have q1 := keepd y1 hbw hbB
        have q2 := keepd y2 hbw hbB
        have q3 := keepd y3 hbw hbB
        have q4 := keepd y4 hbw hbB
        have q5 := keepd y5 hbw hbB
        have k0 : ∀ o : Obj, (wr.alloc o).cell? ⟨w.heap.size, 0, none⟩ = some (.int .i64 p.eye) := fun o => (hbx.alloc o).cell 0
        have k1 : ∀ o : Obj, (wr.alloc o).cell? ⟨w.heap.size, 1, none⟩ = some (.int .i64 p.rings) := fun o => (hbx.alloc o).cell 1
        have k2 : ∀ o : Obj, (wr.alloc o).cell? ⟨w.heap.size, 2, none⟩ = some (.int .i64 p.harps) := fun o => (hbx.alloc o).cell 2
        have k3 : ∀ o : Obj, (wr.alloc o).cell? ⟨w.heap.size, 3, none⟩ = some (.int .i64 p.wide) := fun o => (hbx.alloc o).cell 3
        have k4 : ∀ o : Obj, (wr.alloc o).cell? ⟨w.heap.size, 4, none⟩ = some (.slice (some ⟨b, off, none⟩) p.fs.length c) := fun o => (hbx.alloc o).cell 4
        clear hcell hcc y0 y1 y2 y3 y4 y5
        cases hq : furB p.rings p.wide (fwAt p.fs k)
        · have Hf := Lib.hid (allF_false hlt hq)
          go_wp2_with fail
          refine (validFurrow_c p _ (fwAt p.fs k) _ b1 b2 b5 b6 y6).mono ?_; rintro e w2 ⟨rfl, hb2⟩
          go_wp2_with fail
          go_ret
          exact ⟨ret_bool (by rw [H.out, Hf.out]), hbw.trans ((boxed hb2).mono hbw.size)⟩
        · have Hf := Lib.hid (allF_snoc (q := furB p.rings p.wide) hlt)
          go_wp2_with fail
          refine (validFurrow_c p _ (fwAt p.fs k) _ b1 b2 b5 b6 y6).mono ?_; rintro e w2 ⟨rfl, hb2⟩
          go_wp2_with fail
          go_roundw
          case rel => exact ⟨k + 1, by omega, by go_num, by rw [Hf.out, Hall.out, hq]; rfl, hbr.trans ((boxed hb2).mono hsz)⟩
          case measure => simp [intOf]; omega
      · obtain rfl : k = p.fs.length := by omega
        clear hcell
        go_wp2_with fail
        go_ret
        exact ⟨ret_bool (by rw [H.out, ← Hall.out, List.take_length]), hbw⟩
  · have H := Lib.hid (show patB p = false by simp [patB, c6])
    clear hcell
    go_enter Tryz.func71, Tryz.ntmps71
    go_wp2_with (go_at_call 77; refine (within_c _ _ _ _).mono ?_; rintro e w' ⟨rfl, rfl⟩)
    go_ret
    exact ⟨ret_bool H.out.symm, hB1 _⟩

end Go.Proofs.YtpejcdjgggcjlaaGreatDoor

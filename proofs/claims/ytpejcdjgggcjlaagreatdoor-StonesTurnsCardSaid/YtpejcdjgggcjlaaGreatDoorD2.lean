/- The walks of redrawn over the closure of Harp. -/
import Derived.Test.YtpejcdjgggcjlaaGreatDoorA4
namespace Go.Proofs.YtpejcdjgggcjlaaGreatDoor
open Go.RowKit

set_option maxHeartbeats 400000 in
theorem harp1_c (sec : Int) (w : World) : Calls Tryz.prog 69 #[.int .i64 sec] w fun e w' => e = .returned (.int .i64 sec) ∧ w = w' := by
  go_enter Tryz.func69, Tryz.ntmps69
  go_wp2_with fail
  go_ret
  exact ⟨rfl, rfl⟩

set_option maxRecDepth 100000 in
set_option maxHeartbeats 2000000 in
theorem redrawnH_c (f : Fc) (v : Value) (S : Nat) (w : World) (h : IsFace w w.heap.size v f) (hv : validB f = true) (hS1 : 1 ≤ S) (hS2 : (S : Int) ≤ f.sectors) :
    Calls Tryz.prog 64 #[v, .int .i64 S, .func (.func 69) #[] #[]] w
      (RetFace w { eye := f.eye, rings := f.rings, sectors := S, kinds := redL f S (fun i => i) (f.rings.toNat * S) }) := by
  have hF := h
  obtain ⟨s, rfl, hlen, A, cp, rfl, hcap, hcell⟩ := h
  obtain ⟨⟨⟨a1, a2⟩, ⟨a3, a4⟩, a5, a6⟩, hl, -⟩ := validB_iff.1 hv
  clear hcell hl
  obtain ⟨R, hR⟩ := Int.eq_ofNat_of_zero_le (show 0 ≤ f.rings by omega)
  have HR := Lib.hid hR
  have hR3 : (R : Int) ≤ f.rings := by omega
  have hR4 : f.rings ≤ (R : Int) := by omega
  have hR1 : 1 ≤ R := by omega
  have hR2 : R ≤ 24 := by omega
  clear hR
  obtain ⟨i0, hi, hz0, hz1, hz2⟩ := info_parts Tryz.infoInt
  go_enter Tryz.func64, Tryz.ntmps64
  go_wp2_with fail
  go_loopw [18] (fun i wr => ∃ (k : Nat) (gv : Value), k ≤ R ∧ i = .int .i64 k ∧ RedSt w wr f S (.slice A f.kinds.length cp) (redL f S (fun i => i) (k * S)) gv) (fun i _ => R - (intOf i).toNat)
  case atStart =>
    refine ⟨0, .slice none 0 0, Nat.zero_le _, rfl, ?_⟩
    rw [Nat.zero_mul]
    have e0 := Box.made w 24 #[.int .i64 f.eye, .int .i64 f.rings, .int .i64 f.sectors, .slice A f.kinds.length cp]
    have e1 := Box.made (w.alloc (.cells #[.int .i64 f.eye, .int .i64 f.rings, .int .i64 f.sectors, .slice A f.kinds.length cp] 24)) 24 #[.int .i64 0, .int .i64 0, .int .i64 0, .slice none 0 0]
    rw [World.size_alloc] at e1
    have e2 := Box.made ((w.alloc (.cells #[.int .i64 f.eye, .int .i64 f.rings, .int .i64 f.sectors, .slice A f.kinds.length cp] 24)).alloc (.cells #[.int .i64 0, .int .i64 0, .int .i64 0, .slice none 0 0] 24)) 24 #[.int .i64 f.eye, .int .i64 f.rings, .int .i64 S, .slice none 0 0]
    rw [World.size_alloc, World.size_alloc] at e2
    exact ⟨(e0.alloc _).alloc _, e1.alloc _, e2, World.ownsRow_nil _ _ _ _, (((Below.refl _ _).alloc (Nat.le_refl _) _).alloc (by simp) _).alloc (by simp; omega) _⟩
  case round =>
    obtain ⟨k, gv, hk, rfl, hst⟩ := hrel
    have h01 : wr.cell? ⟨w.heap.size, 1, none⟩ = some (.int .i64 f.rings) := hst.b0.cell 1
    by_cases hlt : k < R
    · have hdk : decide ((k : Int) < f.rings) = true := by rw [decide_eq_true_iff]; omega
      go_wp2_with fail
      clear h01
      obtain ⟨wo, rfl⟩ : ∃ wo : World, wo = wr := ⟨_, rfl⟩
      go_loopw [22] (fun j wx => ∃ (m : Nat) (gv : Value), m ≤ S ∧ j = .int .i64 m ∧ RedSt w wx f S (.slice A f.kinds.length cp) (redL f S (fun i => i) (k * S + m)) gv) (fun j _ => S - (intOf j).toNat)
      case atStart => exact ⟨0, gv, Nat.zero_le _, rfl, hst⟩
      case round =>
        clear hst gv
        obtain ⟨m, gv, hm, rfl, hst⟩ := hrel
        by_cases hmt : m < S
        · have hdm : decide ((m : Int) < (S : Int)) = true := by rw [decide_eq_true_iff]; omega
          have h00 : wr.cell? ⟨w.heap.size, 0, none⟩ = some (.int .i64 f.eye) := hst.b0.cell 0
          have h01 : wr.cell? ⟨w.heap.size, 1, none⟩ = some (.int .i64 f.rings) := hst.b0.cell 1
          have h02 : wr.cell? ⟨w.heap.size, 2, none⟩ = some (.int .i64 f.sectors) := hst.b0.cell 2
          have h03 : wr.cell? ⟨w.heap.size, 3, none⟩ = some (.slice A f.kinds.length cp) := hst.b0.cell 3
          have h23 : wr.cell? ⟨w.heap.size + 1 + 1, 3, none⟩ = some gv := hst.b2.cell 3
          have hFr : IsFace wr wr.heap.size (.agg #[.int .i64 f.eye, .int .i64 f.rings, .int .i64 f.sectors, .slice A f.kinds.length cp]) f := hF.mono hst.bel hst.bel.size
          obtain ⟨r1, r2⟩ : 0 ≤ (m : Int) ∧ (m : Int) < f.sectors := by omega
          have h2s := hst.b2.lt
          have hmS : k * S + m < 24 * 96 := by
            have : k * S + S ≤ R * S := by rw [← Nat.succ_mul]; exact Nat.mul_le_mul_right _ hlt
            have : R * S ≤ 24 * 96 := Nat.mul_le_mul hR2 (by omega)
            omega
          have hln : (redL f S (fun i => i) (k * S + m)).length = k * S + m := redL_len _ _ _ _
          have Hln := Lib.hid hln
          clear hln
          go_wp2_with fail
          go_region_law (first
            | (go_simp; go_at_call 69; (refine (harp1_c (m : Int) wr.drew).mono ?_; rintro e w' ⟨rfl, rfl⟩; dsimp only))
            | (go_simp; go_at_call 48; refine (kindAt_c f (.agg #[.int .i64 f.eye, .int .i64 f.rings, .int .i64 f.sectors, .slice A f.kinds.length cp]) (k : Int) (m : Int) wr.drew hFr hv (by omega) (by omega) r1 r2).mono ?_; rintro e w2 ⟨rfl, hb2⟩; have hb2 := Below.trans ((Below.refl wr.heap.size wr).drew) hb2; have h23b := keepd h23 hb2 h2s; have hst2 := hst.b2.later hb2; have h2s2 := hst2.lt; have hown2 := own_later hst.own hb2; dsimp only)
            | (refine step_append_lies _ rfl (.tmp 26) (.tmp 34) 22 rfl (w.heap.size + 1 + 1 + 1) 3 i0 (.int .i64 0) 1 8 Tryz.underlying22 hi hz0 hz1 hz2 rfl (by decide) gv _ _ rfl (hown2.alloc _) ⟨w2.heap.size, 0, none⟩ 1 1 [.int .i64 (kat f k (m : Int))] rfl rfl (cell_one_new _ _ _) (one_cell _) (by decide) (by rw [Hln.out]; unfold maxLen; omega) (by rw [Hln.out]; omega) (by simp; omega) (w2.heap.size + 1) (by simp) ?_; intro gg cap w4 hown4 hgrow hat hlt4; have hst4 := (hst2.alloc (.cells #[.int .i64 (kat f k (m : Int))] 3)).grown hgrow (own_ne hst.own); have c24 : w4.cell? ⟨w.heap.size + 1 + 1, 3, none⟩ = some gv := hst4.cell 3; have f24 := hst4.free 3))
          all_goals
            have hnew := hst.step hb2 hgrow hown4
            have Hrow := Lib.hid (redL_step (f := f) (fr := fun i => i) (k := k) hmt)
            go_wp2
            go_roundw
            case rel => exact ⟨m + 1, _, by omega, by go_num, by rw [Hrow.out]; exact hnew⟩
            case measure => simp [intOf]; omega
        · obtain rfl : m = S := by omega
          have hdm : decide ((m : Int) < (m : Int)) = false := by simp
          go_wp2
          go_roundw
          case rel => exact ⟨k + 1, gv, by omega, by go_num, by rw [Nat.succ_mul]; exact hst⟩
          case measure => simp [intOf]; omega
    · obtain rfl : k = R := by omega
      have hdk : decide ((k : Int) < f.rings) = false := by rw [decide_eq_false_iff_not]; omega
      obtain ⟨A', c', rfl⟩ := own_shape hst.own
      have h20 : wr.cell? ⟨w.heap.size + 1 + 1, 0, none⟩ = some (.int .i64 f.eye) := hst.b2.cell 0
      have h21 : wr.cell? ⟨w.heap.size + 1 + 1, 1, none⟩ = some (.int .i64 f.rings) := hst.b2.cell 1
      have h22 : wr.cell? ⟨w.heap.size + 1 + 1, 2, none⟩ = some (.int .i64 S) := hst.b2.cell 2
      have h23 := hst.b2.cell 3
      simp only [List.getElem?_toArray, List.getElem?_cons_succ, List.getElem?_cons_zero] at h23
      have h10 : wr.cell? ⟨w.heap.size + 1, 0, none⟩ = some (.int .i64 0) := hst.b1.cell 0
      have h11 : wr.cell? ⟨w.heap.size + 1, 1, none⟩ = some (.int .i64 0) := hst.b1.cell 1
      have h12 : wr.cell? ⟨w.heap.size + 1, 2, none⟩ = some (.int .i64 0) := hst.b1.cell 2
      have h13 : wr.cell? ⟨w.heap.size + 1, 3, none⟩ = some (.slice none 0 0) := hst.b1.cell 3
      have f10 := hst.b1.free 0
      have f11 := hst.b1.free 1
      have f12 := hst.b1.free 2
      have f13 := hst.b1.free 3
      go_wp2
      exact redEnd hst rfl HR.out (by omega) (by omega)

theorem redrawnH (f : Fc) (v : Value) (m : Int) (w : World) (h : IsFace w w.heap.size v f) (hv : validB f = true) (hS1 : 1 ≤ m) (hS2 : m ≤ f.sectors) :
    Calls Tryz.prog 64 #[v, .int .i64 m, .func (.func 69) #[] #[]] w
      (RetFace w { eye := f.eye, rings := f.rings, sectors := m, kinds := redL f m.toNat (fun i => i) (f.rings.toNat * m.toNat) }) := by
  obtain ⟨S, rfl⟩ := Int.eq_ofNat_of_zero_le (show 0 ≤ m by omega)
  exact redrawnH_c f v S w h hv (by omega) hS2

end Go.Proofs.YtpejcdjgggcjlaaGreatDoor

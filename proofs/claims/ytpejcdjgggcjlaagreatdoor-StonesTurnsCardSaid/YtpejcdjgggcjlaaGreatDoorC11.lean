/- The walks of Regions, sample and SameLists. -/
import Derived.Test.YtpejcdjgggcjlaaGreatDoorC10
import Derived.Test.YtpejcdjgggcjlaaGreatDoorC2
namespace Go.Proofs.YtpejcdjgggcjlaaGreatDoor
open Go.RowKit

/-- a list of lists and an error come back -/
def RetLists (w : World) (rows : List (List Int)) (er : Int) (e : Ending) (w' : World) : Prop := ∃ A n c, e = .returned (.tuple #[.slice A n c, .int .i64 er]) ∧ Lists w' w'.heap.size (.slice A n c) rows ∧ Below w.heap.size w w'
set_option maxRecDepth 100000 in
set_option maxHeartbeats 1000000 in
theorem Regions_c (f : Fc) (v : Value) (w : World) (h : IsFace w w.heap.size v f) :
    Calls Tryz.prog 43 #[v] w (RetLists w (if validB f = true then regL f else []) (if validB f = true then 0 else 10)) := by
  have hF := h
  obtain ⟨s, rfl, hlen, A, cp, rfl, hcap, hcell⟩ := h
  clear hcell
  cases hv : validB f
  · go_enter Tryz.func43, Tryz.ntmps43
    go_wp2_with fail
    refine (Valid_c f _ _ (hF.box _)).mono ?_; rintro e w1 ⟨rfl, hb⟩
    have hbw : Below w.heap.size w w1 := boxed hb
    rw [hv]
    go_wp2_with fail
    go_ret2
    exact ⟨_, _, _, rfl, Lists.nil_ _ _, hbw⟩
  · go_enter Tryz.func43, Tryz.ntmps43
    go_wp2_with fail
    refine (Valid_c f _ _ (hF.box _)).mono ?_; rintro e w1 ⟨rfl, hb⟩
    have hbw : Below w.heap.size w w1 := boxed hb
    have b1 := (Box.made w 24 #[.int .i64 f.eye, .int .i64 f.rings, .int .i64 f.sectors, .slice A f.kinds.length cp]).later hb
    have k0 : w1.cell? ⟨w.heap.size, 0, none⟩ = some (.int .i64 f.eye) := b1.cell 0
    have k1 : w1.cell? ⟨w.heap.size, 1, none⟩ = some (.int .i64 f.rings) := b1.cell 1
    have k2 : w1.cell? ⟨w.heap.size, 2, none⟩ = some (.int .i64 f.sectors) := b1.cell 2
    have k3 : w1.cell? ⟨w.heap.size, 3, none⟩ = some (.slice A f.kinds.length cp) := b1.cell 3
    rw [hv]
    go_wp2_with fail
    refine (regions_c f A _ cp w1 (hF.mono hbw hbw.size) hv).mono ?_
    rintro e w2 ⟨A', n, c', rfl, hL, hb2⟩
    clear k0 k1 k2 k3
    go_wp2_with fail
    go_ret2
    exact ⟨_, _, _, rfl, by simpa using hL, hbw.trans (hb2.mono hbw.size)⟩

/-- the face of the examples -/
def sampF : Fc := { eye := 1, rings := 2, sectors := 4, kinds := [0, 1, 0, 0, 0, 1, 2, 0] }
set_option maxRecDepth 100000 in
set_option maxHeartbeats 1000000 in
theorem sample_c (w : World) : Calls Tryz.prog 42 #[] w (RetFace w sampF) := by
  go_enter Tryz.func42, Tryz.ntmps42
  go_wp2_with fail
  have b1 := Box.made (w.alloc (.cells #[.int .i64 1, .int .i64 2, .int .i64 4, .slice (some ⟨w.heap.size + 1, 0, none⟩) 8 8] 24)) 3 #[.int .i64 0, .int .i64 1, .int .i64 0, .int .i64 0, .int .i64 0, .int .i64 1, .int .i64 2, .int .i64 0]
  rw [World.size_alloc] at b1
  refine endFace (G := sampF) Tryz.results42 rfl ((Box.made _ _ _).alloc _) ?_ ?_ (((Below.refl _ _).alloc (Nat.le_refl _) _).alloc (by simp) _)
  · refine ⟨by decide, _, 8, rfl, by decide, fun _ => ⟨_, 0, rfl, by simp, fun k hk => ?_⟩⟩
    rw [Nat.zero_add]
    refine (b1.cell k).trans ?_
    have hk : k < 8 := hk
    rcases k with _ | _ | _ | _ | _ | _ | _ | _ | k <;> first | rfl | omega
  · intro ad n c e
    cases e
    simp

set_option maxRecDepth 100000 in
set_option maxHeartbeats 1000000 in
theorem sameLists_c (l r : List (List Int)) (v u : Value) (w : World) (hl : Lists w w.heap.size v l) (hr : Lists w w.heap.size u r) :
    Calls Tryz.prog 46 #[v, u] w fun e w' => e = .returned (.bool (decide (l = r))) ∧ Below w.heap.size w w' := by
  obtain ⟨l1, A, c, rfl, l2, l3⟩ := hl
  obtain ⟨r1, A', c', rfl, r2, r3⟩ := hr
  by_cases hn : l.length = r.length
  · have hd : ((l.length : Int) != (r.length : Int)) = false := by simp [hn]
    have Hn := Lib.hid hn
    clear hn
    go_enter Tryz.func46, Tryz.ntmps46
    go_wp2_with fail
    go_loopw [5] (fun i wr => ∃ k : Nat, k ≤ l.length ∧ i = .int .i64 (k : Int) ∧ l.take k = r.take k ∧ Below w.heap.size w wr) (fun i _ => l.length - (intOf i).toNat)
    case atStart => exact ⟨0, Nat.zero_le _, rfl, rfl, Below.refl _ _⟩
    case round =>
      obtain ⟨k, hk, rfl, htk, hbr⟩ := hrel
      have Htk := Lib.hid htk
      clear htk
      by_cases hlt : k < l.length
      · have hlt2 : k < r.length := by have := Hn.out; omega
        obtain ⟨b, off, rfl, hbB, hcc⟩ := l3 (by omega)
        obtain ⟨b', off', rfl, hbB', hcc'⟩ := r3 (by omega)
        obtain ⟨s1, q1, i1⟩ := hcc k hlt
        obtain ⟨s2, q2, i2⟩ := hcc' k hlt2
        have hx := keepd q1 hbr hbB
        have hy := keepd q2 hbr hbB'
        have hsz := hbr.size
        have hi1 : (0 : Int) ≤ (k : Int) := by omega
        have hi2 : (k : Int) < (l.length : Int) := by omega
        have hi3 : (k : Int) < (r.length : Int) := by omega
        have hcall := fun W (hb : Below w.heap.size w W) => sameInts_c (l.getD k []) (r.getD k []) s1 s2 W (i1.mono hb hb.size) (i2.mono hb hb.size)
        clear l3 r3 hcc hcc' q1 q2 i1 i2
        have e1 : l.getD k [] = l[k] := by simp [hlt]
        have e2 : r.getD k [] = r[k] := by simp [hlt2]
        rw [e1, e2] at hcall
        have Hs := Lib.hid (show (l.take (k + 1) = r.take (k + 1)) ↔ l[k] = r[k] by
          rw [List.take_succ_eq_append_getElem hlt, List.take_succ_eq_append_getElem hlt2, Htk.out]
          exact ⟨fun h => List.singleton_inj.1 (List.append_cancel_left h), fun h => by rw [h]⟩)
        clear e1 e2
        cases hz : decide (l[k] = r[k])
        · have Hz := Lib.hid (show decide (l = r) = false by
            rw [decide_eq_false_iff_not] at hz ⊢
            intro h
            subst h
            exact hz rfl)
          go_wp2_with fail
          go_region_held3 (fun W => W.cell? ⟨b, off + k, none⟩ = some (s1) ∧ W.cell? ⟨b', off' + k, none⟩ = some (s2) ∧ Below wr.heap.size wr W ∧ wr.heap.size ≤ W.heap.size) (first | assumption | (refine ⟨?_, ?_, (Below.refl _ _).drew, by first | (simp; done) | (simp; omega) | omega⟩ <;> go_keep) | (obtain ⟨x0, x1, xb, xs⟩ := ‹_ ∧ _›; first | exact ⟨keepd x0 (Below.alloc (Below.refl (wr.heap.size) _) xs _) (by omega), keepd x1 (Below.alloc (Below.refl (wr.heap.size) _) xs _) (by omega), Below.trans xb (Below.mono (Below.alloc (Below.refl (wr.heap.size) _) xs _) (by omega)), Nat.le_trans xs (Below.size (Below.alloc (Below.refl (wr.heap.size) _) xs _))⟩ | exact ⟨keepd x0 (Below.mono (B' := wr.heap.size) (by assumption) xs) (by omega), keepd x1 (Below.mono (B' := wr.heap.size) (by assumption) xs) (by omega), Below.trans xb (Below.mono (Below.mono (B' := wr.heap.size) (by assumption) xs) (by omega)), Nat.le_trans xs (Below.size (Below.mono (B' := wr.heap.size) (by assumption) xs))⟩ | exact ⟨keepd x0 (hgst) (by omega), keepd x1 (hgst) (by omega), Below.trans xb (Below.mono (hgst) (by omega)), Nat.le_trans xs (Below.size (hgst))⟩ | exact ⟨keepd x0 (Below.setCell (Below.refl (wr.heap.size) _) (by first | (simp; done) | (simp; omega)) _) (by omega), keepd x1 (Below.setCell (Below.refl (wr.heap.size) _) (by first | (simp; done) | (simp; omega)) _) (by omega), Below.trans xb (Below.mono (Below.setCell (Below.refl (wr.heap.size) _) (by first | (simp; done) | (simp; omega)) _) (by omega)), Nat.le_trans xs (Below.size (Below.setCell (Below.refl (wr.heap.size) _) (by first | (simp; done) | (simp; omega)) _))⟩ | exact ⟨keepd x0 (Below.setCell (Below.setCell (Below.setCell (Below.setCell (Below.refl (wr.heap.size) _) (by first | (simp; done) | (simp; omega)) _) (by first | (simp; done) | (simp; omega)) _) (by first | (simp; done) | (simp; omega)) _) (by first | (simp; done) | (simp; omega)) _) (by omega), keepd x1 (Below.setCell (Below.setCell (Below.setCell (Below.setCell (Below.refl (wr.heap.size) _) (by first | (simp; done) | (simp; omega)) _) (by first | (simp; done) | (simp; omega)) _) (by first | (simp; done) | (simp; omega)) _) (by first | (simp; done) | (simp; omega)) _) (by omega), Below.trans xb (Below.mono (Below.setCell (Below.setCell (Below.setCell (Below.setCell (Below.refl (wr.heap.size) _) (by first | (simp; done) | (simp; omega)) _) (by first | (simp; done) | (simp; omega)) _) (by first | (simp; done) | (simp; omega)) _) (by first | (simp; done) | (simp; omega)) _) (by omega)), Nat.le_trans xs (Below.size (Below.setCell (Below.setCell (Below.setCell (Below.setCell (Below.refl (wr.heap.size) _) (by first | (simp; done) | (simp; omega)) _) (by first | (simp; done) | (simp; omega)) _) (by first | (simp; done) | (simp; omega)) _) (by first | (simp; done) | (simp; omega)) _))⟩)) (first | (go_at_call 40; refine (hcall wr.drew hbr.drew).mono ?_; rw [hz]; rintro e w' ⟨rfl, hbq⟩))
          obtain ⟨-, -, xb, -⟩ := ‹_ ∧ _›
          have hbn := hbr.trans (xb.mono hsz)
          clear xb
          go_wp2_with fail
          go_ret
          exact ⟨ret_bool Hz.out.symm, hbn⟩
        · have Hz := Lib.hid (Hs.out.2 (of_decide_eq_true hz))
          go_wp2_with fail
          go_region_held3 (fun W => W.cell? ⟨b, off + k, none⟩ = some (s1) ∧ W.cell? ⟨b', off' + k, none⟩ = some (s2) ∧ Below wr.heap.size wr W ∧ wr.heap.size ≤ W.heap.size) (first | assumption | (refine ⟨?_, ?_, (Below.refl _ _).drew, by first | (simp; done) | (simp; omega) | omega⟩ <;> go_keep) | (obtain ⟨x0, x1, xb, xs⟩ := ‹_ ∧ _›; first | exact ⟨keepd x0 (Below.alloc (Below.refl (wr.heap.size) _) xs _) (by omega), keepd x1 (Below.alloc (Below.refl (wr.heap.size) _) xs _) (by omega), Below.trans xb (Below.mono (Below.alloc (Below.refl (wr.heap.size) _) xs _) (by omega)), Nat.le_trans xs (Below.size (Below.alloc (Below.refl (wr.heap.size) _) xs _))⟩ | exact ⟨keepd x0 (Below.mono (B' := wr.heap.size) (by assumption) xs) (by omega), keepd x1 (Below.mono (B' := wr.heap.size) (by assumption) xs) (by omega), Below.trans xb (Below.mono (Below.mono (B' := wr.heap.size) (by assumption) xs) (by omega)), Nat.le_trans xs (Below.size (Below.mono (B' := wr.heap.size) (by assumption) xs))⟩ | exact ⟨keepd x0 (hgst) (by omega), keepd x1 (hgst) (by omega), Below.trans xb (Below.mono (hgst) (by omega)), Nat.le_trans xs (Below.size (hgst))⟩ | exact ⟨keepd x0 (Below.setCell (Below.refl (wr.heap.size) _) (by first | (simp; done) | (simp; omega)) _) (by omega), keepd x1 (Below.setCell (Below.refl (wr.heap.size) _) (by first | (simp; done) | (simp; omega)) _) (by omega), Below.trans xb (Below.mono (Below.setCell (Below.refl (wr.heap.size) _) (by first | (simp; done) | (simp; omega)) _) (by omega)), Nat.le_trans xs (Below.size (Below.setCell (Below.refl (wr.heap.size) _) (by first | (simp; done) | (simp; omega)) _))⟩ | exact ⟨keepd x0 (Below.setCell (Below.setCell (Below.setCell (Below.setCell (Below.refl (wr.heap.size) _) (by first | (simp; done) | (simp; omega)) _) (by first | (simp; done) | (simp; omega)) _) (by first | (simp; done) | (simp; omega)) _) (by first | (simp; done) | (simp; omega)) _) (by omega), keepd x1 (Below.setCell (Below.setCell (Below.setCell (Below.setCell (Below.refl (wr.heap.size) _) (by first | (simp; done) | (simp; omega)) _) (by first | (simp; done) | (simp; omega)) _) (by first | (simp; done) | (simp; omega)) _) (by first | (simp; done) | (simp; omega)) _) (by omega), Below.trans xb (Below.mono (Below.setCell (Below.setCell (Below.setCell (Below.setCell (Below.refl (wr.heap.size) _) (by first | (simp; done) | (simp; omega)) _) (by first | (simp; done) | (simp; omega)) _) (by first | (simp; done) | (simp; omega)) _) (by first | (simp; done) | (simp; omega)) _) (by omega)), Nat.le_trans xs (Below.size (Below.setCell (Below.setCell (Below.setCell (Below.setCell (Below.refl (wr.heap.size) _) (by first | (simp; done) | (simp; omega)) _) (by first | (simp; done) | (simp; omega)) _) (by first | (simp; done) | (simp; omega)) _) (by first | (simp; done) | (simp; omega)) _))⟩)) (first | (go_at_call 40; refine (hcall wr.drew hbr.drew).mono ?_; rw [hz]; rintro e w' ⟨rfl, hbq⟩))
          obtain ⟨-, -, xb, -⟩ := ‹_ ∧ _›
          have hbn := hbr.trans (xb.mono hsz)
          clear xb
          go_wp2_with fail
          go_roundw
          case rel => exact ⟨k + 1, by omega, by go_num, Hz.out, hbn⟩
          case measure => simp [intOf]; omega
      · obtain rfl : k = l.length := by omega
        have Hs := Lib.hid (show decide (l = r) = true by
          rw [decide_eq_true_iff]
          have := Htk.out
          rwa [List.take_length, Hn.out, List.take_length] at this)
        clear l3 r3
        go_wp2_with fail
        go_ret
        exact ⟨ret_bool Hs.out.symm, hbr⟩
  · have hd : ((l.length : Int) != (r.length : Int)) = true := by simp; omega
    have Hs := Lib.hid (show decide (l = r) = false by rw [decide_eq_false_iff_not]; intro h; exact hn (by rw [h]))
    clear hn l3 r3
    go_enter Tryz.func46, Tryz.ntmps46
    go_wp2_with fail
    go_ret
    exact ⟨ret_bool Hs.out.symm, Below.refl _ _⟩

end Go.Proofs.YtpejcdjgggcjlaaGreatDoor

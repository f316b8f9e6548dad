/- The walks of period, Period and Harp. -/
import Derived.Test.YtpejcdjgggcjlaaGreatDoorF2
import Derived.Test.YtpejcdjgggcjlaaGreatDoorA7
import Derived.Test.YtpejcdjgggcjlaaGreatDoorD2
namespace Go.Proofs.YtpejcdjgggcjlaaGreatDoor
open Go.RowKit

/-- the least turn that changes nothing -/
def IsPer (f : Fc) (p : Nat) : Prop := 1 ≤ p ∧ (p : Int) ≤ f.sectors ∧ ((p : Int) = f.sectors ∨ turnF f p = f) ∧ ∀ q : Nat, 1 ≤ q → q < p → turnF f q ≠ f
theorem IsPer.uniq {f : Fc} {p q : Nat} (hp : IsPer f p) (hq : IsPer f q) : p = q := by
  obtain ⟨p1, p2, p3, p4⟩ := hp
  obtain ⟨q1, q2, q3, q4⟩ := hq
  rcases Nat.lt_trichotomy p q with h | h | h
  · rcases p3 with p3 | p3
    · omega
    · exact absurd p3 (q4 p p1 h)
  · exact h
  · rcases q3 with q3 | q3
    · omega
    · exact absurd q3 (p4 q q1 h)

def perGo (f : Fc) : Nat → Nat → Nat
  | 0, k => k
  | n + 1, k => if sameB (turnF f (k : Int)) f = true then k else perGo f n (k + 1)
def perN (f : Fc) : Nat := perGo f (f.sectors.toNat - 1) 1
theorem perGo_is (f : Fc) : ∀ n k : Nat, ((k + n : Nat) : Int) = f.sectors → 1 ≤ k → (∀ q : Nat, 1 ≤ q → q < k → turnF f q ≠ f) → IsPer f (perGo f n k)
  | 0, k, h1, h2, h3 => ⟨h2, by show (k : Int) ≤ _; omega, .inl (by show (k : Int) = _; omega), h3⟩
  | n + 1, k, h1, h2, h3 => by
    unfold perGo
    split
    · rename_i h4
      exact ⟨h2, by omega, .inr (sameB_iff.1 h4), h3⟩
    · rename_i h4
      refine perGo_is f n (k + 1) (by omega) (by omega) fun q h5 h6 h7 => ?_
      by_cases e : q = k
      · subst e
        exact h4 (sameB_iff.2 h7)
      · exact h3 q h5 (by omega) h7
theorem perN_is {f : Fc} (hv : validB f = true) : IsPer f (perN f) := by
  obtain ⟨⟨-, -, a5, a6⟩, -, -⟩ := validB_iff.1 hv
  exact perGo_is f _ _ (by omega) (Nat.le_refl _) (fun q h1 h2 => by omega)

set_option maxRecDepth 100000 in
set_option maxHeartbeats 1600000 in
theorem period_c (f : Fc) (v : Value) (w : World) (h : IsFace w w.heap.size v f) (hv : validB f = true) :
    Calls Tryz.prog 68 #[v] w fun e w' => e = .returned (.int .i64 (perN f : Nat)) ∧ Below w.heap.size w w' := by
  have hF := h
  obtain ⟨s, rfl, hlen, A, cp, rfl, hcap, hcell⟩ := h
  clear hcell
  obtain ⟨⟨⟨a1, a2⟩, ⟨a3, a4⟩, a5, a6⟩, -, -⟩ := validB_iff.1 hv
  have b0 := Box.made w 24 #[.int .i64 f.eye, .int .i64 f.rings, .int .i64 f.sectors, .slice A f.kinds.length cp]
  go_enter Tryz.func68, Tryz.ntmps68
  go_wp2_with fail
  go_loopw [3] (fun i wr => ∃ k : Nat, 1 ≤ k ∧ (k : Int) ≤ f.sectors ∧ i = .int .i64 (k : Int) ∧ (∀ q : Nat, 1 ≤ q → q < k → turnF f q ≠ f) ∧ Box wr w.heap.size 24 #[.int .i64 f.eye, .int .i64 f.rings, .int .i64 f.sectors, .slice A f.kinds.length cp] ∧ Below w.heap.size w wr)
    (fun i _ => f.sectors.toNat - (intOf i).toNat)
  case atStart => exact ⟨1, Nat.le_refl _, by omega, rfl, fun q h1 h2 => by omega, b0, (Below.refl _ _).alloc (Nat.le_refl _) _⟩
  case round =>
    clear b0
    obtain ⟨k, hk1, hk2, rfl, hno, hb0, hbr⟩ := hrel
    have Hno := Lib.hid hno
    clear hno
    have hlt0 := hb0.lt
    by_cases hlt : (k : Int) < f.sectors
    · have hFr := hF.mono hbr hbr.size
      cases hs : sameB (turnF f k) f
      · have Hno2 := Lib.hid (show ∀ q : Nat, 1 ≤ q → q < k + 1 → turnF f q ≠ f by
          intro q h1 h2 h3
          by_cases e : q = k
          · subst e
            rw [sameB_iff.2 h3] at hs
            cases hs
          · exact Hno.out q h1 (by omega) h3)
        have k0 : wr.cell? ⟨w.heap.size, 0, none⟩ = some (.int .i64 f.eye) := hb0.cell 0
        have k1 : wr.cell? ⟨w.heap.size, 1, none⟩ = some (.int .i64 f.rings) := hb0.cell 1
        have k2 : wr.cell? ⟨w.heap.size, 2, none⟩ = some (.int .i64 f.sectors) := hb0.cell 2
        have k3 : wr.cell? ⟨w.heap.size, 3, none⟩ = some (.slice A f.kinds.length cp) := hb0.cell 3
        have hdr : Below wr.heap.size wr wr.drew := (Below.refl _ _).drew
        have hFd := hFr.mono hdr hdr.size
        clear hdr
        go_wp2_with fail
        go_region_held3 (fun W => W.cell? ⟨(w.heap.size), 0, none⟩ = some (.int .i64 f.eye) ∧ W.cell? ⟨(w.heap.size), 1, none⟩ = some (.int .i64 f.rings) ∧ W.cell? ⟨(w.heap.size), 2, none⟩ = some (.int .i64 f.sectors) ∧ W.cell? ⟨(w.heap.size), 3, none⟩ = some (.slice A f.kinds.length cp) ∧ Below wr.heap.size wr W ∧ wr.heap.size ≤ W.heap.size) (first | assumption | (refine ⟨?_, ?_, ?_, ?_, (Below.refl _ _).drew, by first | (simp; done) | (simp; omega) | omega⟩ <;> go_keep) | (obtain ⟨x0, x1, x2, x3, xb, xs⟩ := ‹_ ∧ _›; first | exact ⟨keepd x0 (Below.alloc (Below.refl (wr.heap.size) _) xs _) (by omega), keepd x1 (Below.alloc (Below.refl (wr.heap.size) _) xs _) (by omega), keepd x2 (Below.alloc (Below.refl (wr.heap.size) _) xs _) (by omega), keepd x3 (Below.alloc (Below.refl (wr.heap.size) _) xs _) (by omega), Below.trans xb (Below.mono (Below.alloc (Below.refl (wr.heap.size) _) xs _) (by omega)), Nat.le_trans xs (Below.size (Below.alloc (Below.refl (wr.heap.size) _) xs _))⟩ | exact ⟨keepd x0 (Below.mono (B' := wr.heap.size) (by assumption) xs) (by omega), keepd x1 (Below.mono (B' := wr.heap.size) (by assumption) xs) (by omega), keepd x2 (Below.mono (B' := wr.heap.size) (by assumption) xs) (by omega), keepd x3 (Below.mono (B' := wr.heap.size) (by assumption) xs) (by omega), Below.trans xb (Below.mono (Below.mono (B' := wr.heap.size) (by assumption) xs) (by omega)), Nat.le_trans xs (Below.size (Below.mono (B' := wr.heap.size) (by assumption) xs))⟩ | exact ⟨keepd x0 (hgst) (by omega), keepd x1 (hgst) (by omega), keepd x2 (hgst) (by omega), keepd x3 (hgst) (by omega), Below.trans xb (Below.mono (hgst) (by omega)), Nat.le_trans xs (Below.size (hgst))⟩ | exact ⟨keepd x0 (Below.setCell (Below.refl (wr.heap.size) _) (by first | (simp; done) | (simp; omega)) _) (by omega), keepd x1 (Below.setCell (Below.refl (wr.heap.size) _) (by first | (simp; done) | (simp; omega)) _) (by omega), keepd x2 (Below.setCell (Below.refl (wr.heap.size) _) (by first | (simp; done) | (simp; omega)) _) (by omega), keepd x3 (Below.setCell (Below.refl (wr.heap.size) _) (by first | (simp; done) | (simp; omega)) _) (by omega), Below.trans xb (Below.mono (Below.setCell (Below.refl (wr.heap.size) _) (by first | (simp; done) | (simp; omega)) _) (by omega)), Nat.le_trans xs (Below.size (Below.setCell (Below.refl (wr.heap.size) _) (by first | (simp; done) | (simp; omega)) _))⟩ | exact ⟨keepd x0 (Below.setCell (Below.setCell (Below.setCell (Below.setCell (Below.refl (wr.heap.size) _) (by first | (simp; done) | (simp; omega)) _) (by first | (simp; done) | (simp; omega)) _) (by first | (simp; done) | (simp; omega)) _) (by first | (simp; done) | (simp; omega)) _) (by omega), keepd x1 (Below.setCell (Below.setCell (Below.setCell (Below.setCell (Below.refl (wr.heap.size) _) (by first | (simp; done) | (simp; omega)) _) (by first | (simp; done) | (simp; omega)) _) (by first | (simp; done) | (simp; omega)) _) (by first | (simp; done) | (simp; omega)) _) (by omega), keepd x2 (Below.setCell (Below.setCell (Below.setCell (Below.setCell (Below.refl (wr.heap.size) _) (by first | (simp; done) | (simp; omega)) _) (by first | (simp; done) | (simp; omega)) _) (by first | (simp; done) | (simp; omega)) _) (by first | (simp; done) | (simp; omega)) _) (by omega), keepd x3 (Below.setCell (Below.setCell (Below.setCell (Below.setCell (Below.refl (wr.heap.size) _) (by first | (simp; done) | (simp; omega)) _) (by first | (simp; done) | (simp; omega)) _) (by first | (simp; done) | (simp; omega)) _) (by first | (simp; done) | (simp; omega)) _) (by omega), Below.trans xb (Below.mono (Below.setCell (Below.setCell (Below.setCell (Below.setCell (Below.refl (wr.heap.size) _) (by first | (simp; done) | (simp; omega)) _) (by first | (simp; done) | (simp; omega)) _) (by first | (simp; done) | (simp; omega)) _) (by first | (simp; done) | (simp; omega)) _) (by omega)), Nat.le_trans xs (Below.size (Below.setCell (Below.setCell (Below.setCell (Below.setCell (Below.refl (wr.heap.size) _) (by first | (simp; done) | (simp; omega)) _) (by first | (simp; done) | (simp; omega)) _) (by first | (simp; done) | (simp; omega)) _) (by first | (simp; done) | (simp; omega)) _))⟩)) (first | (go_at_call 62; refine (turned_c f _ k wr.drew hFd hv).mono ?_; rintro e w2 ⟨A2, n2, c2, rfl, hI2, -, hbq⟩; have HI2 := fun (_ : Unit) => hI2; clear hI2; have hF2 := hFd.mono hbq hbq.size) | (go_at_call 15; refine (Same_c (turnF f k) f _ _ _ (IsFace.mk (HI2 ())) hF2).mono ?_; rw [hs]; rintro e w3 ⟨rfl, hbq3⟩))
        obtain ⟨-, -, -, -, xb, -⟩ := ‹_ ∧ _›
        have hbn := hbr.trans (xb.mono (by omega))
        have b3 := hb0.below xb hlt0
        clear xb HI2 hF2 hFd hFr
        go_wp2_with fail
        go_roundw
        case rel => exact ⟨k + 1, by omega, by omega, by go_num, Hno2.out, b3, hbn⟩
        case measure => simp [intOf]; omega
      · have hper : IsPer f k := ⟨hk1, hk2, .inr (sameB_iff.1 hs), Hno.out⟩
        have Hper := Lib.hid hper
        clear hper
        have k0 : wr.cell? ⟨w.heap.size, 0, none⟩ = some (.int .i64 f.eye) := hb0.cell 0
        have k1 : wr.cell? ⟨w.heap.size, 1, none⟩ = some (.int .i64 f.rings) := hb0.cell 1
        have k2 : wr.cell? ⟨w.heap.size, 2, none⟩ = some (.int .i64 f.sectors) := hb0.cell 2
        have k3 : wr.cell? ⟨w.heap.size, 3, none⟩ = some (.slice A f.kinds.length cp) := hb0.cell 3
        have hdr : Below wr.heap.size wr wr.drew := (Below.refl _ _).drew
        have hFd := hFr.mono hdr hdr.size
        clear hdr
        go_wp2_with fail
        go_region_held3 (fun W => W.cell? ⟨(w.heap.size), 0, none⟩ = some (.int .i64 f.eye) ∧ W.cell? ⟨(w.heap.size), 1, none⟩ = some (.int .i64 f.rings) ∧ W.cell? ⟨(w.heap.size), 2, none⟩ = some (.int .i64 f.sectors) ∧ W.cell? ⟨(w.heap.size), 3, none⟩ = some (.slice A f.kinds.length cp) ∧ Below wr.heap.size wr W ∧ wr.heap.size ≤ W.heap.size) (first | assumption | (refine ⟨?_, ?_, ?_, ?_, (Below.refl _ _).drew, by first | (simp; done) | (simp; omega) | omega⟩ <;> go_keep) | (obtain ⟨x0, x1, x2, x3, xb, xs⟩ := ‹_ ∧ _›; first | exact ⟨keepd x0 (Below.alloc (Below.refl (wr.heap.size) _) xs _) (by omega), keepd x1 (Below.alloc (Below.refl (wr.heap.size) _) xs _) (by omega), keepd x2 (Below.alloc (Below.refl (wr.heap.size) _) xs _) (by omega), keepd x3 (Below.alloc (Below.refl (wr.heap.size) _) xs _) (by omega), Below.trans xb (Below.mono (Below.alloc (Below.refl (wr.heap.size) _) xs _) (by omega)), Nat.le_trans xs (Below.size (Below.alloc (Below.refl (wr.heap.size) _) xs _))⟩ | exact ⟨keepd x0 (Below.mono (B' := wr.heap.size) (by assumption) xs) (by omega), keepd x1 (Below.mono (B' := wr.heap.size) (by assumption) xs) (by omega), keepd x2 (Below.mono (B' := wr.heap.size) (by assumption) xs) (by omega), keepd x3 (Below.mono (B' := wr.heap.size) (by assumption) xs) (by omega), Below.trans xb (Below.mono (Below.mono (B' := wr.heap.size) (by assumption) xs) (by omega)), Nat.le_trans xs (Below.size (Below.mono (B' := wr.heap.size) (by assumption) xs))⟩ | exact ⟨keepd x0 (hgst) (by omega), keepd x1 (hgst) (by omega), keepd x2 (hgst) (by omega), keepd x3 (hgst) (by omega), Below.trans xb (Below.mono (hgst) (by omega)), Nat.le_trans xs (Below.size (hgst))⟩ | exact ⟨keepd x0 (Below.setCell (Below.refl (wr.heap.size) _) (by first | (simp; done) | (simp; omega)) _) (by omega), keepd x1 (Below.setCell (Below.refl (wr.heap.size) _) (by first | (simp; done) | (simp; omega)) _) (by omega), keepd x2 (Below.setCell (Below.refl (wr.heap.size) _) (by first | (simp; done) | (simp; omega)) _) (by omega), keepd x3 (Below.setCell (Below.refl (wr.heap.size) _) (by first | (simp; done) | (simp; omega)) _) (by omega), Below.trans xb (Below.mono (Below.setCell (Below.refl (wr.heap.size) _) (by first | (simp; done) | (simp; omega)) _) (by omega)), Nat.le_trans xs (Below.size (Below.setCell (Below.refl (wr.heap.size) _) (by first | (simp; done) | (simp; omega)) _))⟩ | exact ⟨keepd x0 (Below.setCell (Below.setCell (Below.setCell (Below.setCell (Below.refl (wr.heap.size) _) (by first | (simp; done) | (simp; omega)) _) (by first | (simp; done) | (simp; omega)) _) (by first | (simp; done) | (simp; omega)) _) (by first | (simp; done) | (simp; omega)) _) (by omega), keepd x1 (Below.setCell (Below.setCell (Below.setCell (Below.setCell (Below.refl (wr.heap.size) _) (by first | (simp; done) | (simp; omega)) _) (by first | (simp; done) | (simp; omega)) _) (by first | (simp; done) | (simp; omega)) _) (by first | (simp; done) | (simp; omega)) _) (by omega), keepd x2 (Below.setCell (Below.setCell (Below.setCell (Below.setCell (Below.refl (wr.heap.size) _) (by first | (simp; done) | (simp; omega)) _) (by first | (simp; done) | (simp; omega)) _) (by first | (simp; done) | (simp; omega)) _) (by first | (simp; done) | (simp; omega)) _) (by omega), keepd x3 (Below.setCell (Below.setCell (Below.setCell (Below.setCell (Below.refl (wr.heap.size) _) (by first | (simp; done) | (simp; omega)) _) (by first | (simp; done) | (simp; omega)) _) (by first | (simp; done) | (simp; omega)) _) (by first | (simp; done) | (simp; omega)) _) (by omega), Below.trans xb (Below.mono (Below.setCell (Below.setCell (Below.setCell (Below.setCell (Below.refl (wr.heap.size) _) (by first | (simp; done) | (simp; omega)) _) (by first | (simp; done) | (simp; omega)) _) (by first | (simp; done) | (simp; omega)) _) (by first | (simp; done) | (simp; omega)) _) (by omega)), Nat.le_trans xs (Below.size (Below.setCell (Below.setCell (Below.setCell (Below.setCell (Below.refl (wr.heap.size) _) (by first | (simp; done) | (simp; omega)) _) (by first | (simp; done) | (simp; omega)) _) (by first | (simp; done) | (simp; omega)) _) (by first | (simp; done) | (simp; omega)) _))⟩)) (first | (go_at_call 62; refine (turned_c f _ k wr.drew hFd hv).mono ?_; rintro e w2 ⟨A2, n2, c2, rfl, hI2, -, hbq⟩; have HI2 := fun (_ : Unit) => hI2; clear hI2; have hF2 := hFd.mono hbq hbq.size) | (go_at_call 15; refine (Same_c (turnF f k) f _ _ _ (IsFace.mk (HI2 ())) hF2).mono ?_; rw [hs]; rintro e w3 ⟨rfl, hbq3⟩))
        obtain ⟨-, -, -, -, xb, -⟩ := ‹_ ∧ _›
        have hbn := hbr.trans (xb.mono (by omega))
        clear xb HI2 hF2 hFd hFr
        go_wp2_with fail
        go_ret
        exact ⟨ret_int (by rw [Hper.out.uniq (perN_is hv)]), hbn⟩
    · obtain Hk := Lib.hid (show (k : Int) = f.sectors by omega)
      have hper : IsPer f k := ⟨hk1, hk2, .inl Hk.out, Hno.out⟩
      have Hper := Lib.hid hper
      clear hper
      have hd : decide ((k : Int) < f.sectors) = false := by simpa using hlt
      have k2 : wr.cell? ⟨w.heap.size, 2, none⟩ = some (.int .i64 f.sectors) := hb0.cell 2
      clear hlt
      go_wp2_with fail
      go_quiet (fail)
      rename_i nq
      go_wp2_with fail
      go_ret
      exact ⟨ret_int (by rw [Hper.out.uniq (perN_is hv)]), hbr.trans ⟨rfl, rfl, rfl, Nat.le_refl _, fun _ _ => rfl⟩⟩

theorem Period_c (f : Fc) (v : Value) (w : World) (h : IsFace w w.heap.size v f) :
    Calls Tryz.prog 36 #[v] w fun e w' => e = .returned (.tuple #[.int .i64 (if validB f = true then (perN f : Nat) else 0), .int .i64 (if validB f = true then 0 else 10)]) ∧ Below w.heap.size w w' := by
  have hF := h
  obtain ⟨s, rfl, hlen, A, cp, rfl, hcap, hcell⟩ := h
  clear hcell
  cases hv : validB f
  · go_enter Tryz.func36, Tryz.ntmps36
    go_wp2_with fail
    refine (Valid_c f _ _ (hF.box _)).mono ?_; rintro e w1 ⟨rfl, hb⟩
    have hbw : Below w.heap.size w w1 := boxed hb
    rw [hv]
    go_wp2_with fail
    go_ret2
    exact ⟨rfl, hbw⟩
  · go_enter Tryz.func36, Tryz.ntmps36
    go_wp2_with fail
    refine (Valid_c f _ _ (hF.box _)).mono ?_; rintro e w1 ⟨rfl, hb⟩
    have hbw : Below w.heap.size w w1 := boxed hb
    have b1 := (Box.made w 24 #[.int .i64 f.eye, .int .i64 f.rings, .int .i64 f.sectors, .slice A f.kinds.length cp]).later hb
    have k0 : w1.cell? ⟨w.heap.size, 0, none⟩ = some (.int .i64 f.eye) := b1.cell 0
    have k1 : w1.cell? ⟨w.heap.size, 1, none⟩ = some (.int .i64 f.rings) := b1.cell 1
    have k2 : w1.cell? ⟨w.heap.size, 2, none⟩ = some (.int .i64 f.sectors) := b1.cell 2
    have k3 : w1.cell? ⟨w.heap.size, 3, none⟩ = some (.slice A f.kinds.length cp) := b1.cell 3
    rw [hv]
    go_wp2_with fail
    refine (period_c f _ w1 (hF.mono hbw hbw.size) hv).mono ?_
    rintro e w2 ⟨rfl, hb2⟩
    clear k0 k1 k2 k3
    go_wp2_with fail
    go_ret2
    exact ⟨rfl, chain hbw hb2⟩

/-- the face that has only the sectors that repeat -/
def harpF (f : Fc) (m : Int) : Fc := { eye := f.eye, rings := f.rings, sectors := m, kinds := redL f m.toNat (fun i => i) (f.rings.toNat * m.toNat) }

set_option maxRecDepth 100000 in
set_option maxHeartbeats 800000 in
theorem Harp_c (f : Fc) (v : Value) (w : World) (h : IsFace w w.heap.size v f) :
    Calls Tryz.prog 38 #[v] w (RetFaceE w (if validB f = true then harpF f (max (perN f : Nat) 2) else zF) (if validB f = true then 0 else 10)) := by
  have hF := h
  obtain ⟨s, rfl, hlen, A, cp, rfl, hcap, hcell⟩ := h
  clear hcell
  have hr := resBox w (.cells #[.int .i64 f.eye, .int .i64 f.rings, .int .i64 f.sectors, .slice A f.kinds.length cp] 24)
  cases hv : validB f
  · go_enter Tryz.func38, Tryz.ntmps38
    go_wp2_with fail
    refine (Valid_c f _ _ ((hF.box _).box _)).mono ?_; rintro e w1 ⟨rfl, hb⟩
    have hbx := hr.later hb
    have hbw : Below w.heap.size w w1 := boxed (boxed hb)
    have h0 : w1.cell? ⟨w.heap.size + 1, 0, none⟩ = some (.int .i64 0) := hbx.cell 0
    have hf0 := hbx.free 0
    have h1 : w1.cell? ⟨w.heap.size + 1, 1, none⟩ = some (.int .i64 0) := hbx.cell 1
    have hf1 := hbx.free 1
    have h2 : w1.cell? ⟨w.heap.size + 1, 2, none⟩ = some (.int .i64 0) := hbx.cell 2
    have hf2 := hbx.free 2
    have h3 : w1.cell? ⟨w.heap.size + 1, 3, none⟩ = some (.slice none 0 0) := hbx.cell 3
    have hf3 := hbx.free 3
    clear hb
    go_wp2_with fail
    exact endPutE (G := zF) (lo := w.heap.size + 2) Tryz.results38 rfl rfl hbx (zF_ints _ _ _) (NewS.none_ _ _ _) (by omega) (by omega) hbw
  · obtain ⟨⟨⟨a1, a2⟩, ⟨a3, a4⟩, a5, a6⟩, -, -⟩ := validB_iff.1 hv
    have hper := (perN_is hv).2.1
    have hpm : 2 ≤ max ((perN f : Nat) : Int) 2 ∧ max ((perN f : Nat) : Int) 2 ≤ f.sectors := by omega
    obtain ⟨m, hm⟩ : ∃ m : Int, m = max ((perN f : Nat) : Int) 2 := ⟨_, rfl⟩
    rw [← hm]
    have Hm := Lib.hid hm
    clear hm
    obtain ⟨hpm1, hpm2⟩ := hpm
    have hmm : 2 ≤ m ∧ m ≤ f.sectors := by rw [Hm.out]; exact ⟨hpm1, hpm2⟩
    obtain ⟨hm1, hm2⟩ := hmm
    clear hpm1 hpm2
    go_enter Tryz.func38, Tryz.ntmps38
    go_wp2_with fail
    refine (Valid_c f _ _ ((hF.box _).box _)).mono ?_; rintro e w1 ⟨rfl, hb⟩
    have hbx := hr.later hb
    have hbw : Below w.heap.size w w1 := boxed (boxed hb)
    have hb0 := (faceBox w f (.slice A f.kinds.length cp) (.cells #[.int .i64 0, .int .i64 0, .int .i64 0, .slice none 0 0] 24)).later hb
    have k0 : w1.cell? ⟨w.heap.size, 0, none⟩ = some (.int .i64 f.eye) := hb0.cell 0
    have k1 : w1.cell? ⟨w.heap.size, 1, none⟩ = some (.int .i64 f.rings) := hb0.cell 1
    have k2 : w1.cell? ⟨w.heap.size, 2, none⟩ = some (.int .i64 f.sectors) := hb0.cell 2
    have k3 : w1.cell? ⟨w.heap.size, 3, none⟩ = some (.slice A f.kinds.length cp) := hb0.cell 3
    clear hb
    go_wp2_with fail
    refine (period_c f _ w1 (hF.mono hbw hbw.size) hv).mono ?_
    rintro e w2 ⟨rfl, hb2⟩
    have hbx2 := hbx.later hb2
    have hb02 := hb0.later hb2
    have hbw2 := chain hbw hb2
    clear k0 k1 k2 k3 hb2
    have k0 : w2.cell? ⟨w.heap.size, 0, none⟩ = some (.int .i64 f.eye) := hb02.cell 0
    have k1 : w2.cell? ⟨w.heap.size, 1, none⟩ = some (.int .i64 f.rings) := hb02.cell 1
    have k2 : w2.cell? ⟨w.heap.size, 2, none⟩ = some (.int .i64 f.sectors) := hb02.cell 2
    have k3 : w2.cell? ⟨w.heap.size, 3, none⟩ = some (.slice A f.kinds.length cp) := hb02.cell 3
    go_wp2_with fail
    · have e : m = 2 := by have := Hm.out; omega
      subst e
      refine (redrawnH f _ _ w2 (hF.mono hbw2 hbw2.size) hv (by omega) (by omega)).mono ?_; rintro e w3 ⟨A3, n3, c3, rfl, hI, hN, hb3⟩
      have hbx3 := hbx2.later hb3
      have hbw3 := chain hbw2 hb3
      have hs1 := hbx2.lt
      clear k0 k1 k2 k3
      have h0 : w3.cell? ⟨w.heap.size + 1, 0, none⟩ = some (.int .i64 0) := hbx3.cell 0
      have hf0 := hbx3.free 0
      have h1 : w3.cell? ⟨w.heap.size + 1, 1, none⟩ = some (.int .i64 0) := hbx3.cell 1
      have hf1 := hbx3.free 1
      have h2 : w3.cell? ⟨w.heap.size + 1, 2, none⟩ = some (.int .i64 0) := hbx3.cell 2
      have hf2 := hbx3.free 2
      have h3 : w3.cell? ⟨w.heap.size + 1, 3, none⟩ = some (.slice none 0 0) := hbx3.cell 3
      have hf3 := hbx3.free 3
      clear hb3
      go_wp2_with fail
      exact endPutE (G := harpF f _) Tryz.results38 rfl rfl hbx3 hI hN hs1 (by omega) hbw3
    · have e : m = ((perN f : Nat) : Int) := by have := Hm.out; omega
      subst e
      refine (redrawnH f _ _ w2 (hF.mono hbw2 hbw2.size) hv (by omega) (by omega)).mono ?_; rintro e w3 ⟨A3, n3, c3, rfl, hI, hN, hb3⟩
      have hbx3 := hbx2.later hb3
      have hbw3 := chain hbw2 hb3
      have hs1 := hbx2.lt
      clear k0 k1 k2 k3
      have h0 : w3.cell? ⟨w.heap.size + 1, 0, none⟩ = some (.int .i64 0) := hbx3.cell 0
      have hf0 := hbx3.free 0
      have h1 : w3.cell? ⟨w.heap.size + 1, 1, none⟩ = some (.int .i64 0) := hbx3.cell 1
      have hf1 := hbx3.free 1
      have h2 : w3.cell? ⟨w.heap.size + 1, 2, none⟩ = some (.int .i64 0) := hbx3.cell 2
      have hf2 := hbx3.free 2
      have h3 : w3.cell? ⟨w.heap.size + 1, 3, none⟩ = some (.slice none 0 0) := hbx3.cell 3
      have hf3 := hbx3.free 3
      clear hb3
      go_wp2_with fail
      exact endPutE (G := harpF f _) Tryz.results38 rfl rfl hbx3 hI hN hs1 (by omega) hbw3

end Go.Proofs.YtpejcdjgggcjlaaGreatDoor

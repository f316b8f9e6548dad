/- The walk of Turns. -/
import Derived.Test.YtpejcdjgggcjlaaGreatDoorF3
import Derived.Test.YtpejcdjgggcjlaaGreatDoorM1
import Derived.Maps.OwnIn
namespace Go.Proofs.YtpejcdjgggcjlaaGreatDoor
open Go.RowKit

/-- by which of the first numbers the one face is turned to be the other one -/
def turnsN (f g : Fc) (n : Nat) : List Int := ((List.range n).filter fun k => sameB (turnF f (k : Nat)) g).map fun k => ((k : Nat) : Int)
theorem turnsN_yes {f g : Fc} {n : Nat} (h : sameB (turnF f (n : Nat)) g = true) : turnsN f g (n + 1) = turnsN f g n ++ [(n : Int)] := by
  simp [turnsN, List.range_succ, h]
theorem turnsN_no {f g : Fc} {n : Nat} (h : sameB (turnF f (n : Nat)) g = false) : turnsN f g (n + 1) = turnsN f g n := by
  simp [turnsN, List.range_succ, h]
theorem turnsN_len (f g : Fc) (n : Nat) : (turnsN f g n).length ≤ n := by
  unfold turnsN
  rw [List.length_map]
  exact Nat.le_trans (List.length_filter_le _ _) (by simp)

/-- a list of numbers and an error come back, the list in new memory -/
def RetIntsE (w : World) (l : List Int) (er : Int) (e : Ending) (w' : World) : Prop := ∃ A n c, e = .returned (.tuple #[.slice A n c, .int .i64 er]) ∧ Ints w' w'.heap.size (.slice A n c) l ∧ NewS w.heap.size (.slice A n c) ∧ Below w.heap.size w w'

/-- what memory looks like while the turns are looked for -/
structure TrSt (w wr : World) (f g : Fc) (s s' : Value) (L : List Int) (tv : Value) : Prop where
  b0 : Box wr w.heap.size 24 #[.int .i64 f.eye, .int .i64 f.rings, .int .i64 f.sectors, s]
  b1 : Box wr (w.heap.size + 1) 24 #[.int .i64 g.eye, .int .i64 g.rings, .int .i64 g.sectors, s']
  own : wr.ownsRow (w.heap.size + 2) 3 1 tv L.length (ints L)
  bel : Below w.heap.size w wr
theorem TrSt.later {w wr W : World} {f g : Fc} {s s' : Value} {L : List Int} {tv : Value} (h : TrSt w wr f g s s' L tv) (hb : Below wr.heap.size wr W) : TrSt w W f g s s' L tv :=
  ⟨h.b0.later hb, h.b1.later hb, own_later h.own hb, chain h.bel hb⟩

set_option maxRecDepth 100000 in
set_option maxHeartbeats 4000000 in
theorem Turns_c (f g : Fc) (v u : Value) (w : World) (hf : IsFace w w.heap.size v f) (hg : IsFace w w.heap.size u g) :
    Calls Tryz.prog 34 #[v, u] w (RetIntsE w (if (validB f && validB g) = true then turnsN f g f.sectors.toNat else []) (if (validB f && validB g) = true then 0 else 10)) := by
  have hF := hf
  have hG := hg
  obtain ⟨s, rfl, hlen, A, cp, rfl, hcap, hcell⟩ := hf
  obtain ⟨s', rfl, hlen', A', cp', rfl, hcap', hcell'⟩ := hg
  clear hcell hcell'
  have b0 := faceBox w f (.slice A f.kinds.length cp) (.cells #[.int .i64 g.eye, .int .i64 g.rings, .int .i64 g.sectors, .slice A' g.kinds.length cp'] 24)
  have b1 := Box.made (w.alloc (.cells #[.int .i64 f.eye, .int .i64 f.rings, .int .i64 f.sectors, .slice A f.kinds.length cp] 24)) 24 #[.int .i64 g.eye, .int .i64 g.rings, .int .i64 g.sectors, .slice A' g.kinds.length cp']
  rw [World.size_alloc] at b1
  have hb0 : Below w.heap.size w ((w.alloc (.cells #[.int .i64 f.eye, .int .i64 f.rings, .int .i64 f.sectors, .slice A f.kinds.length cp] 24)).alloc (.cells #[.int .i64 g.eye, .int .i64 g.rings, .int .i64 g.sectors, .slice A' g.kinds.length cp'] 24)) := ((Below.refl _ _).alloc (Nat.le_refl _) _).alloc (by simp) _
  have Hb0 := Lib.hid hb0
  clear hb0
  cases hv : validB f
  · go_enter Tryz.func34, Tryz.ntmps34
    go_wp2_with fail
    refine (Valid_c f _ _ ((hF.box _).box _)).mono ?_; rintro e w1 ⟨rfl, hb1⟩
    rw [hv]
    have hw1 := chain Hb0.out hb1
    clear hb1
    go_wp2_with fail
    go_ret2
    exact ⟨none, 0, 0, rfl, zF_ints _ _ _, NewS.none_ _ _ _, hw1⟩
  cases hvg : validB g
  · go_enter Tryz.func34, Tryz.ntmps34
    go_wp2_with fail
    refine (Valid_c f _ _ ((hF.box _).box _)).mono ?_; rintro e w1 ⟨rfl, hb1⟩
    rw [hv]
    have hw1 := chain Hb0.out hb1
    have b2 := b1.later hb1
    clear hb1
    have k0 : w1.cell? ⟨w.heap.size + 1, 0, none⟩ = some (.int .i64 g.eye) := b2.cell 0
    have k1 : w1.cell? ⟨w.heap.size + 1, 1, none⟩ = some (.int .i64 g.rings) := b2.cell 1
    have k2 : w1.cell? ⟨w.heap.size + 1, 2, none⟩ = some (.int .i64 g.sectors) := b2.cell 2
    have k3 : w1.cell? ⟨w.heap.size + 1, 3, none⟩ = some (.slice A' g.kinds.length cp') := b2.cell 3
    go_wp2_with fail
    refine (Valid_c g _ _ (hG.mono hw1 hw1.size)).mono ?_; rintro e w2 ⟨rfl, hb2⟩
    rw [hvg]
    have hw2 := chain hw1 hb2
    clear hb2
    go_wp2_with fail
    go_ret2
    exact ⟨none, 0, 0, rfl, zF_ints _ _ _, NewS.none_ _ _ _, hw2⟩
  obtain ⟨R, S, hR, hS, s1, s2, -, -, -, -, s7⟩ := dims hv
  have HS := Lib.hid hS
  have H2 := Lib.hid s2
  have H7 := Lib.hid s7
  clear s1 s2 s7 hR hS R
  go_enter Tryz.func34, Tryz.ntmps34
  go_wp2_with fail
  refine (Valid_c f _ _ ((hF.box _).box _)).mono ?_; rintro e w1 ⟨rfl, hb1⟩
  rw [hv]
  have hw1 := chain Hb0.out hb1
  have b2 := b1.later hb1
  have b3 := b0.later hb1
  clear hb1 b0 b1
  have k0 : w1.cell? ⟨w.heap.size + 1, 0, none⟩ = some (.int .i64 g.eye) := b2.cell 0
  have k1 : w1.cell? ⟨w.heap.size + 1, 1, none⟩ = some (.int .i64 g.rings) := b2.cell 1
  have k2 : w1.cell? ⟨w.heap.size + 1, 2, none⟩ = some (.int .i64 g.sectors) := b2.cell 2
  have k3 : w1.cell? ⟨w.heap.size + 1, 3, none⟩ = some (.slice A' g.kinds.length cp') := b2.cell 3
  go_wp2_with fail
  refine (Valid_c g _ _ (hG.mono hw1 hw1.size)).mono ?_; rintro e w2 ⟨rfl, hb2⟩
  rw [hvg]
  have hst0 : TrSt w w2 f g (.slice A f.kinds.length cp) (.slice A' g.kinds.length cp') [] (.slice none 0 0) := ⟨b3.later hb2, b2.later hb2, World.ownsRow_nil _ _ _ _, chain hw1 hb2⟩
  clear hb2 b2 b3 hw1 k0 k1 k2 k3
  have k2 : w2.cell? ⟨w.heap.size, 2, none⟩ = some (.int .i64 f.sectors) := hst0.b0.cell 2
  go_wp2_with fail
  clear k2
  go_loopw [6, 18] (fun tv i wr => ∃ k : Nat, k ≤ S ∧ i = .int .i64 (k : Int) ∧ TrSt w wr f g (.slice A f.kinds.length cp) (.slice A' g.kinds.length cp') (turnsN f g k) tv) (fun _ i _ => S - (intOf i).toNat)
  case atStart => exact ⟨0, Nat.zero_le _, rfl, hst0⟩
  case round =>
    clear hst0
    obtain ⟨k, hk, rfl, hst⟩ := hrel
    have hlt0 := hst.b1.lt
    by_cases hlt : k < S
    · have Hlt := Lib.hid (show k + 1 ≤ S ∧ S - (k + 1) < S - k by omega)
      have hk96 : k ≤ 96 := by have := H2.out; omega
      have hd : decide ((k : Int) < f.sectors) = true := by rw [decide_eq_true_iff, HS.out]; omega
      have hFr := hF.mono hst.bel hst.bel.size
      have hGr := hG.mono hst.bel hst.bel.size
      have hdr : Below wr.heap.size wr wr.drew := (Below.refl _ _).drew
      have hFd := hFr.mono hdr hdr.size
      have hGd := hGr.mono hdr hdr.size
      clear hdr
      cases hs : sameB (turnF f k) g
      · have Hs := Lib.hid (turnsN_no hs)
        have k0 : wr.cell? ⟨w.heap.size, 0, none⟩ = some (.int .i64 f.eye) := hst.b0.cell 0
        have k1 : wr.cell? ⟨w.heap.size, 1, none⟩ = some (.int .i64 f.rings) := hst.b0.cell 1
        have k2 : wr.cell? ⟨w.heap.size, 2, none⟩ = some (.int .i64 f.sectors) := hst.b0.cell 2
        have k3 : wr.cell? ⟨w.heap.size, 3, none⟩ = some (.slice A f.kinds.length cp) := hst.b0.cell 3
        have k4 : wr.cell? ⟨w.heap.size + 1, 0, none⟩ = some (.int .i64 g.eye) := hst.b1.cell 0
        have k5 : wr.cell? ⟨w.heap.size + 1, 1, none⟩ = some (.int .i64 g.rings) := hst.b1.cell 1
        have k6 : wr.cell? ⟨w.heap.size + 1, 2, none⟩ = some (.int .i64 g.sectors) := hst.b1.cell 2
        have k7 : wr.cell? ⟨w.heap.size + 1, 3, none⟩ = some (.slice A' g.kinds.length cp') := hst.b1.cell 3
        go_wp2_with fail
        go_region_held3 (fun W => W.cell? ⟨(w.heap.size), 0, none⟩ = some (.int .i64 f.eye) ∧ W.cell? ⟨(w.heap.size), 1, none⟩ = some (.int .i64 f.rings) ∧ W.cell? ⟨(w.heap.size), 2, none⟩ = some (.int .i64 f.sectors) ∧ W.cell? ⟨(w.heap.size), 3, none⟩ = some (.slice A f.kinds.length cp) ∧ W.cell? ⟨(w.heap.size + 1), 0, none⟩ = some (.int .i64 g.eye) ∧ W.cell? ⟨(w.heap.size + 1), 1, none⟩ = some (.int .i64 g.rings) ∧ W.cell? ⟨(w.heap.size + 1), 2, none⟩ = some (.int .i64 g.sectors) ∧ W.cell? ⟨(w.heap.size + 1), 3, none⟩ = some (.slice A' g.kinds.length cp') ∧ Below wr.heap.size wr W ∧ wr.heap.size ≤ W.heap.size) (first | assumption | (refine ⟨?_, ?_, ?_, ?_, ?_, ?_, ?_, ?_, (Below.refl _ _).drew, by first | (simp; done) | (simp; omega) | omega⟩ <;> go_keep) | (obtain ⟨x0, x1, x2, x3, x4, x5, x6, x7, xb, xs⟩ := ‹_ ∧ _›; first | exact ⟨keepd x0 (Below.alloc (Below.refl (wr.heap.size) _) xs _) (by omega), keepd x1 (Below.alloc (Below.refl (wr.heap.size) _) xs _) (by omega), keepd x2 (Below.alloc (Below.refl (wr.heap.size) _) xs _) (by omega), keepd x3 (Below.alloc (Below.refl (wr.heap.size) _) xs _) (by omega), keepd x4 (Below.alloc (Below.refl (wr.heap.size) _) xs _) (by omega), keepd x5 (Below.alloc (Below.refl (wr.heap.size) _) xs _) (by omega), keepd x6 (Below.alloc (Below.refl (wr.heap.size) _) xs _) (by omega), keepd x7 (Below.alloc (Below.refl (wr.heap.size) _) xs _) (by omega), Below.trans xb (Below.mono (Below.alloc (Below.refl (wr.heap.size) _) xs _) (by omega)), Nat.le_trans xs (Below.size (Below.alloc (Below.refl (wr.heap.size) _) xs _))⟩ | exact ⟨keepd x0 (Below.mono (B' := wr.heap.size) (by assumption) xs) (by omega), keepd x1 (Below.mono (B' := wr.heap.size) (by assumption) xs) (by omega), keepd x2 (Below.mono (B' := wr.heap.size) (by assumption) xs) (by omega), keepd x3 (Below.mono (B' := wr.heap.size) (by assumption) xs) (by omega), keepd x4 (Below.mono (B' := wr.heap.size) (by assumption) xs) (by omega), keepd x5 (Below.mono (B' := wr.heap.size) (by assumption) xs) (by omega), keepd x6 (Below.mono (B' := wr.heap.size) (by assumption) xs) (by omega), keepd x7 (Below.mono (B' := wr.heap.size) (by assumption) xs) (by omega), Below.trans xb (Below.mono (Below.mono (B' := wr.heap.size) (by assumption) xs) (by omega)), Nat.le_trans xs (Below.size (Below.mono (B' := wr.heap.size) (by assumption) xs))⟩ | exact ⟨keepd x0 (hgst) (by omega), keepd x1 (hgst) (by omega), keepd x2 (hgst) (by omega), keepd x3 (hgst) (by omega), keepd x4 (hgst) (by omega), keepd x5 (hgst) (by omega), keepd x6 (hgst) (by omega), keepd x7 (hgst) (by omega), Below.trans xb (Below.mono (hgst) (by omega)), Nat.le_trans xs (Below.size (hgst))⟩ | exact ⟨keepd x0 (Below.setCell (Below.refl (wr.heap.size) _) (by first | (simp; done) | (simp; omega)) _) (by omega), keepd x1 (Below.setCell (Below.refl (wr.heap.size) _) (by first | (simp; done) | (simp; omega)) _) (by omega), keepd x2 (Below.setCell (Below.refl (wr.heap.size) _) (by first | (simp; done) | (simp; omega)) _) (by omega), keepd x3 (Below.setCell (Below.refl (wr.heap.size) _) (by first | (simp; done) | (simp; omega)) _) (by omega), keepd x4 (Below.setCell (Below.refl (wr.heap.size) _) (by first | (simp; done) | (simp; omega)) _) (by omega), keepd x5 (Below.setCell (Below.refl (wr.heap.size) _) (by first | (simp; done) | (simp; omega)) _) (by omega), keepd x6 (Below.setCell (Below.refl (wr.heap.size) _) (by first | (simp; done) | (simp; omega)) _) (by omega), keepd x7 (Below.setCell (Below.refl (wr.heap.size) _) (by first | (simp; done) | (simp; omega)) _) (by omega), Below.trans xb (Below.mono (Below.setCell (Below.refl (wr.heap.size) _) (by first | (simp; done) | (simp; omega)) _) (by omega)), Nat.le_trans xs (Below.size (Below.setCell (Below.refl (wr.heap.size) _) (by first | (simp; done) | (simp; omega)) _))⟩ | exact ⟨keepd x0 (Below.setCell (Below.setCell (Below.setCell (Below.setCell (Below.refl (wr.heap.size) _) (by first | (simp; done) | (simp; omega)) _) (by first | (simp; done) | (simp; omega)) _) (by first | (simp; done) | (simp; omega)) _) (by first | (simp; done) | (simp; omega)) _) (by omega), keepd x1 (Below.setCell (Below.setCell (Below.setCell (Below.setCell (Below.refl (wr.heap.size) _) (by first | (simp; done) | (simp; omega)) _) (by first | (simp; done) | (simp; omega)) _) (by first | (simp; done) | (simp; omega)) _) (by first | (simp; done) | (simp; omega)) _) (by omega), keepd x2 (Below.setCell (Below.setCell (Below.setCell (Below.setCell (Below.refl (wr.heap.size) _) (by first | (simp; done) | (simp; omega)) _) (by first | (simp; done) | (simp; omega)) _) (by first | (simp; done) | (simp; omega)) _) (by first | (simp; done) | (simp; omega)) _) (by omega), keepd x3 (Below.setCell (Below.setCell (Below.setCell (Below.setCell (Below.refl (wr.heap.size) _) (by first | (simp; done) | (simp; omega)) _) (by first | (simp; done) | (simp; omega)) _) (by first | (simp; done) | (simp; omega)) _) (by first | (simp; done) | (simp; omega)) _) (by omega), keepd x4 (Below.setCell (Below.setCell (Below.setCell (Below.setCell (Below.refl (wr.heap.size) _) (by first | (simp; done) | (simp; omega)) _) (by first | (simp; done) | (simp; omega)) _) (by first | (simp; done) | (simp; omega)) _) (by first | (simp; done) | (simp; omega)) _) (by omega), keepd x5 (Below.setCell (Below.setCell (Below.setCell (Below.setCell (Below.refl (wr.heap.size) _) (by first | (simp; done) | (simp; omega)) _) (by first | (simp; done) | (simp; omega)) _) (by first | (simp; done) | (simp; omega)) _) (by first | (simp; done) | (simp; omega)) _) (by omega), keepd x6 (Below.setCell (Below.setCell (Below.setCell (Below.setCell (Below.refl (wr.heap.size) _) (by first | (simp; done) | (simp; omega)) _) (by first | (simp; done) | (simp; omega)) _) (by first | (simp; done) | (simp; omega)) _) (by first | (simp; done) | (simp; omega)) _) (by omega), keepd x7 (Below.setCell (Below.setCell (Below.setCell (Below.setCell (Below.refl (wr.heap.size) _) (by first | (simp; done) | (simp; omega)) _) (by first | (simp; done) | (simp; omega)) _) (by first | (simp; done) | (simp; omega)) _) (by first | (simp; done) | (simp; omega)) _) (by omega), Below.trans xb (Below.mono (Below.setCell (Below.setCell (Below.setCell (Below.setCell (Below.refl (wr.heap.size) _) (by first | (simp; done) | (simp; omega)) _) (by first | (simp; done) | (simp; omega)) _) (by first | (simp; done) | (simp; omega)) _) (by first | (simp; done) | (simp; omega)) _) (by omega)), Nat.le_trans xs (Below.size (Below.setCell (Below.setCell (Below.setCell (Below.setCell (Below.refl (wr.heap.size) _) (by first | (simp; done) | (simp; omega)) _) (by first | (simp; done) | (simp; omega)) _) (by first | (simp; done) | (simp; omega)) _) (by first | (simp; done) | (simp; omega)) _))⟩)) (first | (go_at_call 62; refine (turned_c f _ k wr.drew hFd hv).mono ?_; rintro e w2 ⟨A2, n2, c2, rfl, hI2, -, hbq⟩; have HI2 := fun (_ : Unit) => hI2; clear hI2; have hG2 := hGd.mono hbq hbq.size) | (go_at_call 15; refine (Same_c (turnF f k) g _ _ _ (IsFace.mk (HI2 ())) hG2).mono ?_; rw [hs]; rintro e w3 ⟨rfl, hbq3⟩))
        obtain ⟨-, -, -, -, -, -, -, -, xb, -⟩ := ‹_ ∧ _›
        have hst2 := hst.later xb
        clear xb HI2 hG2 hFd hGd hFr hGr k0 k1 k2 k3 k4 k5 k6 k7
        go_wp2_with fail
        go_roundw
        case rel => exact ⟨k + 1, Hlt.out.1, by go_num, by rw [Hs.out]; exact hst2⟩
        case measure => have := Hlt.out; simp [intOf]; omega
      · have Hs := Lib.hid (turnsN_yes hs)
        have k0 : wr.cell? ⟨w.heap.size, 0, none⟩ = some (.int .i64 f.eye) := hst.b0.cell 0
        have k1 : wr.cell? ⟨w.heap.size, 1, none⟩ = some (.int .i64 f.rings) := hst.b0.cell 1
        have k2 : wr.cell? ⟨w.heap.size, 2, none⟩ = some (.int .i64 f.sectors) := hst.b0.cell 2
        have k3 : wr.cell? ⟨w.heap.size, 3, none⟩ = some (.slice A f.kinds.length cp) := hst.b0.cell 3
        have k4 : wr.cell? ⟨w.heap.size + 1, 0, none⟩ = some (.int .i64 g.eye) := hst.b1.cell 0
        have k5 : wr.cell? ⟨w.heap.size + 1, 1, none⟩ = some (.int .i64 g.rings) := hst.b1.cell 1
        have k6 : wr.cell? ⟨w.heap.size + 1, 2, none⟩ = some (.int .i64 g.sectors) := hst.b1.cell 2
        have k7 : wr.cell? ⟨w.heap.size + 1, 3, none⟩ = some (.slice A' g.kinds.length cp') := hst.b1.cell 3
        go_wp2_with fail
        go_region_held3 (fun W => W.cell? ⟨(w.heap.size), 0, none⟩ = some (.int .i64 f.eye) ∧ W.cell? ⟨(w.heap.size), 1, none⟩ = some (.int .i64 f.rings) ∧ W.cell? ⟨(w.heap.size), 2, none⟩ = some (.int .i64 f.sectors) ∧ W.cell? ⟨(w.heap.size), 3, none⟩ = some (.slice A f.kinds.length cp) ∧ W.cell? ⟨(w.heap.size + 1), 0, none⟩ = some (.int .i64 g.eye) ∧ W.cell? ⟨(w.heap.size + 1), 1, none⟩ = some (.int .i64 g.rings) ∧ W.cell? ⟨(w.heap.size + 1), 2, none⟩ = some (.int .i64 g.sectors) ∧ W.cell? ⟨(w.heap.size + 1), 3, none⟩ = some (.slice A' g.kinds.length cp') ∧ Below wr.heap.size wr W ∧ wr.heap.size ≤ W.heap.size) (first | assumption | (refine ⟨?_, ?_, ?_, ?_, ?_, ?_, ?_, ?_, (Below.refl _ _).drew, by first | (simp; done) | (simp; omega) | omega⟩ <;> go_keep) | (obtain ⟨x0, x1, x2, x3, x4, x5, x6, x7, xb, xs⟩ := ‹_ ∧ _›; first | exact ⟨keepd x0 (Below.alloc (Below.refl (wr.heap.size) _) xs _) (by omega), keepd x1 (Below.alloc (Below.refl (wr.heap.size) _) xs _) (by omega), keepd x2 (Below.alloc (Below.refl (wr.heap.size) _) xs _) (by omega), keepd x3 (Below.alloc (Below.refl (wr.heap.size) _) xs _) (by omega), keepd x4 (Below.alloc (Below.refl (wr.heap.size) _) xs _) (by omega), keepd x5 (Below.alloc (Below.refl (wr.heap.size) _) xs _) (by omega), keepd x6 (Below.alloc (Below.refl (wr.heap.size) _) xs _) (by omega), keepd x7 (Below.alloc (Below.refl (wr.heap.size) _) xs _) (by omega), Below.trans xb (Below.mono (Below.alloc (Below.refl (wr.heap.size) _) xs _) (by omega)), Nat.le_trans xs (Below.size (Below.alloc (Below.refl (wr.heap.size) _) xs _))⟩ | exact ⟨keepd x0 (Below.mono (B' := wr.heap.size) (by assumption) xs) (by omega), keepd x1 (Below.mono (B' := wr.heap.size) (by assumption) xs) (by omega), keepd x2 (Below.mono (B' := wr.heap.size) (by assumption) xs) (by omega), keepd x3 (Below.mono (B' := wr.heap.size) (by assumption) xs) (by omega), keepd x4 (Below.mono (B' := wr.heap.size) (by assumption) xs) (by omega), keepd x5 (Below.mono (B' := wr.heap.size) (by assumption) xs) (by omega), keepd x6 (Below.mono (B' := wr.heap.size) (by assumption) xs) (by omega), keepd x7 (Below.mono (B' := wr.heap.size) (by assumption) xs) (by omega), Below.trans xb (Below.mono (Below.mono (B' := wr.heap.size) (by assumption) xs) (by omega)), Nat.le_trans xs (Below.size (Below.mono (B' := wr.heap.size) (by assumption) xs))⟩ | exact ⟨keepd x0 (hgst) (by omega), keepd x1 (hgst) (by omega), keepd x2 (hgst) (by omega), keepd x3 (hgst) (by omega), keepd x4 (hgst) (by omega), keepd x5 (hgst) (by omega), keepd x6 (hgst) (by omega), keepd x7 (hgst) (by omega), Below.trans xb (Below.mono (hgst) (by omega)), Nat.le_trans xs (Below.size (hgst))⟩ | exact ⟨keepd x0 (Below.setCell (Below.refl (wr.heap.size) _) (by first | (simp; done) | (simp; omega)) _) (by omega), keepd x1 (Below.setCell (Below.refl (wr.heap.size) _) (by first | (simp; done) | (simp; omega)) _) (by omega), keepd x2 (Below.setCell (Below.refl (wr.heap.size) _) (by first | (simp; done) | (simp; omega)) _) (by omega), keepd x3 (Below.setCell (Below.refl (wr.heap.size) _) (by first | (simp; done) | (simp; omega)) _) (by omega), keepd x4 (Below.setCell (Below.refl (wr.heap.size) _) (by first | (simp; done) | (simp; omega)) _) (by omega), keepd x5 (Below.setCell (Below.refl (wr.heap.size) _) (by first | (simp; done) | (simp; omega)) _) (by omega), keepd x6 (Below.setCell (Below.refl (wr.heap.size) _) (by first | (simp; done) | (simp; omega)) _) (by omega), keepd x7 (Below.setCell (Below.refl (wr.heap.size) _) (by first | (simp; done) | (simp; omega)) _) (by omega), Below.trans xb (Below.mono (Below.setCell (Below.refl (wr.heap.size) _) (by first | (simp; done) | (simp; omega)) _) (by omega)), Nat.le_trans xs (Below.size (Below.setCell (Below.refl (wr.heap.size) _) (by first | (simp; done) | (simp; omega)) _))⟩ | exact ⟨keepd x0 (Below.setCell (Below.setCell (Below.setCell (Below.setCell (Below.refl (wr.heap.size) _) (by first | (simp; done) | (simp; omega)) _) (by first | (simp; done) | (simp; omega)) _) (by first | (simp; done) | (simp; omega)) _) (by first | (simp; done) | (simp; omega)) _) (by omega), keepd x1 (Below.setCell (Below.setCell (Below.setCell (Below.setCell (Below.refl (wr.heap.size) _) (by first | (simp; done) | (simp; omega)) _) (by first | (simp; done) | (simp; omega)) _) (by first | (simp; done) | (simp; omega)) _) (by first | (simp; done) | (simp; omega)) _) (by omega), keepd x2 (Below.setCell (Below.setCell (Below.setCell (Below.setCell (Below.refl (wr.heap.size) _) (by first | (simp; done) | (simp; omega)) _) (by first | (simp; done) | (simp; omega)) _) (by first | (simp; done) | (simp; omega)) _) (by first | (simp; done) | (simp; omega)) _) (by omega), keepd x3 (Below.setCell (Below.setCell (Below.setCell (Below.setCell (Below.refl (wr.heap.size) _) (by first | (simp; done) | (simp; omega)) _) (by first | (simp; done) | (simp; omega)) _) (by first | (simp; done) | (simp; omega)) _) (by first | (simp; done) | (simp; omega)) _) (by omega), keepd x4 (Below.setCell (Below.setCell (Below.setCell (Below.setCell (Below.refl (wr.heap.size) _) (by first | (simp; done) | (simp; omega)) _) (by first | (simp; done) | (simp; omega)) _) (by first | (simp; done) | (simp; omega)) _) (by first | (simp; done) | (simp; omega)) _) (by omega), keepd x5 (Below.setCell (Below.setCell (Below.setCell (Below.setCell (Below.refl (wr.heap.size) _) (by first | (simp; done) | (simp; omega)) _) (by first | (simp; done) | (simp; omega)) _) (by first | (simp; done) | (simp; omega)) _) (by first | (simp; done) | (simp; omega)) _) (by omega), keepd x6 (Below.setCell (Below.setCell (Below.setCell (Below.setCell (Below.refl (wr.heap.size) _) (by first | (simp; done) | (simp; omega)) _) (by first | (simp; done) | (simp; omega)) _) (by first | (simp; done) | (simp; omega)) _) (by first | (simp; done) | (simp; omega)) _) (by omega), keepd x7 (Below.setCell (Below.setCell (Below.setCell (Below.setCell (Below.refl (wr.heap.size) _) (by first | (simp; done) | (simp; omega)) _) (by first | (simp; done) | (simp; omega)) _) (by first | (simp; done) | (simp; omega)) _) (by first | (simp; done) | (simp; omega)) _) (by omega), Below.trans xb (Below.mono (Below.setCell (Below.setCell (Below.setCell (Below.setCell (Below.refl (wr.heap.size) _) (by first | (simp; done) | (simp; omega)) _) (by first | (simp; done) | (simp; omega)) _) (by first | (simp; done) | (simp; omega)) _) (by first | (simp; done) | (simp; omega)) _) (by omega)), Nat.le_trans xs (Below.size (Below.setCell (Below.setCell (Below.setCell (Below.setCell (Below.refl (wr.heap.size) _) (by first | (simp; done) | (simp; omega)) _) (by first | (simp; done) | (simp; omega)) _) (by first | (simp; done) | (simp; omega)) _) (by first | (simp; done) | (simp; omega)) _))⟩)) (first | (go_at_call 62; refine (turned_c f _ k wr.drew hFd hv).mono ?_; rintro e w2 ⟨A2, n2, c2, rfl, hI2, -, hbq⟩; have HI2 := fun (_ : Unit) => hI2; clear hI2; have hG2 := hGd.mono hbq hbq.size) | (go_at_call 15; refine (Same_c (turnF f k) g _ _ _ (IsFace.mk (HI2 ())) hG2).mono ?_; rw [hs]; rintro e w3 ⟨rfl, hbq3⟩))
        obtain ⟨-, -, -, -, -, -, -, -, xb, -⟩ := ‹_ ∧ _›
        have hst2 := hst.later xb
        clear xb HI2 hG2 hFd hGd hFr hGr k0 k1 k2 k3 k4 k5 k6 k7
        have hlen := turnsN_len f g k
        have hs2 := hst2.b1.lt
        obtain ⟨W, hW⟩ : ∃ W : World, W = w3 := ⟨_, rfl⟩
        obtain ⟨i0, hi, hz0, hz1, hz2⟩ := info_parts Tryz.infoInt
        have hk1 : (turnsN f g k).length + 1 ≤ maxLen := by have := H2.out; have := Hlt.out.1; unfold maxLen; omega
        have hk2 : ((turnsN f g k).length + 1) * 8 ≤ 140737488355328 := by have := H2.out; have := Hlt.out.1; omega
        have hk3 : w.heap.size + 2 ≤ (w3.alloc (.cells #[.int .i64 (k : Int)] 3)).heap.size := by simp; omega
        have ho6 := hst2.own.alloc (.cells #[.int .i64 (k : Int)] 3)
        have hnews : ∀ (j : Nat) (u : Value), [Value.int .i64 (k : Int)][j]? = some u → (w3.alloc (.cells #[.int .i64 (k : Int)] 3)).cell? ((⟨w3.heap.size, 0, none⟩ : Addr).add j) = some u := fun j u h => by
          have e := Box.made w3 3 #[.int .i64 (k : Int)]
          rcases j with _ | j
          · exact (e.cell 0).trans h
          · simp at h
        have Hlen := Lib.hid hlen
        have Hs2 := Lib.hid hs2
        clear hlen hs2 hW
        go_wp2_with (first
          | (at_builtin; refine wpList_append_own_at _ rfl _ _ 22 rfl (w.heap.size + 2) 3 i0 (.int .i64 0) 1 8 Tryz.underlying22 hi hz0 hz1 hz2 rfl (by decide) u6 _ _ rfl ho6 ⟨w3.heap.size, 0, none⟩ 1 1 [.int .i64 (k : Int)] rfl rfl hnews (one_cell _) hk1 hk2 hk3 ?_; intro v' w7 hown7 hgrow7 _ _))
        have hs7 := hgrow7.size
        simp only [World.size_alloc] at hs7
        go_roundw
        case rel => 
          refine ⟨k + 1, Hlt.out.1, by go_num, ?_⟩
          rw [Hs.out]
          refine ⟨?_, ?_, ?_, ?_⟩
          · exact (hst2.b0.alloc _).grown hgrow7 (own_far2 ho6 (by omega))
          · exact (hst2.b1.alloc _).grown hgrow7 (own_far2 ho6 (by omega))
          · rw [List.length_append, ints_snoc]; exact hown7
          · exact (hst2.bel.alloc (by have := Hs2.out; omega) _).grown hgrow7 (by have := Hs2.out; simp; omega) (fun q e => by have := (ho6.lt q e).1; omega)
        case measure => have := Hlt.out; simp [intOf]; omega
    · obtain rfl : k = S := by omega
      have hd : decide ((k : Int) < f.sectors) = false := by rw [decide_eq_false_iff_not, HS.out]; omega
      obtain ⟨oA, oc, rfl⟩ := own_shape hst.own
      have hnew := NewS.own hst.own
      have hlen := turnsN_len f g k
      have hin := ints_own hst.own (Nat.le_refl _) (by have := H2.out; omega)
      go_wp2_with fail
      go_ret2
      exact ⟨_, _, _, rfl, by rw [H7.out]; exact hin, hnew.mono (by omega), hst.bel⟩

end Go.Proofs.YtpejcdjgggcjlaaGreatDoor

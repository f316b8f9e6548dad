/- The specification's Has, asked, Index, At, CellOf, Same. -/
import Derived.Test.YtpejcdjgggcjlaaGreatDoorJ4
namespace Go.Proofs.YtpejcdjgggcjlaaGreatDoor
open Go.RowKit

theorem inF_iff {f : Fc} {r c : Int} : (inB r 0 (f.rings - 1) && inB c 0 (f.sectors - 1)) = true ↔ InF f (r, c) := by
  rw [Bool.and_eq_true, inB_iff, inB_iff]
  unfold InF
  dsimp only
  omega

set_option maxRecDepth 100000 in
set_option maxHeartbeats 1000000 in
theorem rHas_c (f : Fc) (s : Value) (r c : Int) (w : World) (h1 : 1 ≤ f.rings) (h2 : f.rings ≤ 24) (h3 : 1 ≤ f.sectors) (h4 : f.sectors ≤ 96) :
    Calls Tryz.prog 76 #[.agg #[.int .i64 f.eye, .int .i64 f.rings, .int .i64 f.sectors, s], .agg #[.int .i64 r, .int .i64 c]] w fun e w' => e = .returned (.bool (inB r 0 (f.rings - 1) && inB c 0 (f.sectors - 1))) ∧ Below w.heap.size w w' := by
  have h0 := FcSt.made w f s r c
  have k1 := h0.b0.cell 1
  have k2 := h0.b0.cell 2
  have k4 := h0.b1.cell 0
  have k5 := h0.b1.cell 1
  cases c1 : inB r 0 (f.rings - 1)
  · go_enter Tryz.func76, Tryz.ntmps76
    go_wp2_with (go_at_call 54; refine (rwithin_c _ _ _ _).mono ?_; rintro e w' ⟨rfl, rfl⟩)
    go_ret
    exact ⟨by simp, h0.bel⟩
  · go_enter Tryz.func76, Tryz.ntmps76
    go_wp2_with (go_at_call 54; refine (rwithin_c _ _ _ _).mono ?_; rintro e w' ⟨rfl, rfl⟩)
    go_ret
    exact ⟨by simp, h0.bel⟩

set_option maxRecDepth 100000 in
set_option maxHeartbeats 1000000 in
theorem rAsked_c (f : Fc) (v : Value) (r c : Int) (w : World) (h : IsFace w w.heap.size v f) :
    Calls Tryz.prog 49 #[v, .agg #[.int .i64 r, .int .i64 c]] w fun e w' => e = .returned (.int .i64 (ckCell f r c)) ∧ Below w.heap.size w w' := by
  have hF := h
  obtain ⟨s, rfl, hI⟩ := h
  clear hI
  have h0 := FcSt.made w f s r c
  have hF0 := hF.mono h0.bel h0.bel.size
  cases hv : validB f
  · have He := Lib.hid (show ckCell f r c = 10 by simp [ckCell, hv])
    go_enter Tryz.func49, Tryz.ntmps49
    go_wp2_with fail
    refine (rValid_c f _ _ hF0).mono ?_; rintro e w1 ⟨rfl, hb⟩
    rw [hv]
    have hbw := chain h0.bel hb
    go_wp2_with fail
    go_ret
    exact ⟨ret_int He.out.symm, hbw⟩
  obtain ⟨⟨⟨a1, a2⟩, ⟨a3, a4⟩, a5, a6⟩, -, -⟩ := validB_iff.1 hv
  cases hk : (inB r 0 (f.rings - 1) && inB c 0 (f.sectors - 1))
  · have He := Lib.hid (show ckCell f r c = 3 by simp only [ckCell, hv, if_true]; rw [if_neg (fun h => by rw [inF_iff.2 h] at hk; cases hk)])
    go_enter Tryz.func49, Tryz.ntmps49
    go_wp2_with fail
    refine (rValid_c f _ _ hF0).mono ?_; rintro e w1 ⟨rfl, hb⟩
    rw [hv]
    have h1 := h0.later hb
    clear h0 hF0 hb
    have k0 : w1.cell? ⟨w.heap.size, 0, none⟩ = some (.int .i64 f.eye) := h1.b0.cell 0
    have k1 : w1.cell? ⟨w.heap.size, 1, none⟩ = some (.int .i64 f.rings) := h1.b0.cell 1
    have k2 : w1.cell? ⟨w.heap.size, 2, none⟩ = some (.int .i64 f.sectors) := h1.b0.cell 2
    have k3 : w1.cell? ⟨w.heap.size, 3, none⟩ = some s := h1.b0.cell 3
    have k4 : w1.cell? ⟨w.heap.size + 1, 0, none⟩ = some (.int .i64 r) := h1.b1.cell 0
    have k5 : w1.cell? ⟨w.heap.size + 1, 1, none⟩ = some (.int .i64 c) := h1.b1.cell 1
    go_wp2_with fail
    refine (rHas_c f s r c w1 (by omega) (by omega) (by omega) (by omega)).mono ?_; rintro e w2 ⟨rfl, hb2⟩
    rw [hk]
    go_wp2_with fail
    go_ret
    exact ⟨ret_int He.out.symm, chain h1.bel hb2⟩
  · have He := Lib.hid (show ckCell f r c = 0 by simp only [ckCell, hv, if_true]; rw [if_pos (inF_iff.1 hk)])
    go_enter Tryz.func49, Tryz.ntmps49
    go_wp2_with fail
    refine (rValid_c f _ _ hF0).mono ?_; rintro e w1 ⟨rfl, hb⟩
    rw [hv]
    have h1 := h0.later hb
    clear h0 hF0 hb
    have k0 : w1.cell? ⟨w.heap.size, 0, none⟩ = some (.int .i64 f.eye) := h1.b0.cell 0
    have k1 : w1.cell? ⟨w.heap.size, 1, none⟩ = some (.int .i64 f.rings) := h1.b0.cell 1
    have k2 : w1.cell? ⟨w.heap.size, 2, none⟩ = some (.int .i64 f.sectors) := h1.b0.cell 2
    have k3 : w1.cell? ⟨w.heap.size, 3, none⟩ = some s := h1.b0.cell 3
    have k4 : w1.cell? ⟨w.heap.size + 1, 0, none⟩ = some (.int .i64 r) := h1.b1.cell 0
    have k5 : w1.cell? ⟨w.heap.size + 1, 1, none⟩ = some (.int .i64 c) := h1.b1.cell 1
    go_wp2_with fail
    refine (rHas_c f s r c w1 (by omega) (by omega) (by omega) (by omega)).mono ?_; rintro e w2 ⟨rfl, hb2⟩
    rw [hk]
    go_wp2_with fail
    go_ret
    exact ⟨ret_int He.out.symm, chain h1.bel hb2⟩

set_option maxRecDepth 100000 in
set_option maxHeartbeats 1000000 in
theorem rIndex_c (f : Fc) (v : Value) (r c : Int) (w : World) (h : IsFace w w.heap.size v f) :
    Calls Tryz.prog 18 #[v, .agg #[.int .i64 r, .int .i64 c]] w fun e w' => e = .returned (.tuple #[.int .i64 (idxOf f r c), .int .i64 (ckCell f r c)]) ∧ Below w.heap.size w w' := by
  have hF := h
  obtain ⟨s, rfl, hI⟩ := h
  clear hI
  have h0 := FcSt.made w f s r c
  have hF0 := hF.mono h0.bel h0.bel.size
  by_cases hk : ckCell f r c = 0
  · obtain ⟨hv, i1, i2, i3, i4⟩ := ckCell_ok hk
    dsimp only at i1 i2 i3 i4
    obtain ⟨⟨⟨a1, a2⟩, ⟨a3, a4⟩, a5, a6⟩, -, -⟩ := validB_iff.1 hv
    have hd : (ckCell f r c != 0) = false := by simp [hk]
    have Hi := Lib.hid (show idxOf f r c = r * f.sectors + c by simp [idxOf, hk])
    have Hk := Lib.hid hk
    clear hk hv
    go_enter Tryz.func18, Tryz.ntmps18
    go_wp2_with fail
    refine (rAsked_c f _ r c _ hF0).mono ?_; rintro e w1 ⟨rfl, hb1⟩
    have h1 := h0.later hb1
    clear h0 hF0 hb1
    have k0 : w1.cell? ⟨w.heap.size, 0, none⟩ = some (.int .i64 f.eye) := h1.b0.cell 0
    have k1 : w1.cell? ⟨w.heap.size, 1, none⟩ = some (.int .i64 f.rings) := h1.b0.cell 1
    have k2 : w1.cell? ⟨w.heap.size, 2, none⟩ = some (.int .i64 f.sectors) := h1.b0.cell 2
    have k3 : w1.cell? ⟨w.heap.size, 3, none⟩ = some s := h1.b0.cell 3
    have k4 : w1.cell? ⟨w.heap.size + 1, 0, none⟩ = some (.int .i64 r) := h1.b1.cell 0
    have k5 : w1.cell? ⟨w.heap.size + 1, 1, none⟩ = some (.int .i64 c) := h1.b1.cell 1
    go_wp2_with fail
    refine (rnumber_c f s r c w1 (by omega) (by omega) (by omega) (by omega) (by omega) (by omega)).mono ?_; rintro e w2 ⟨rfl, hb2⟩
    go_wp2_with fail
    go_ret2
    exact ⟨by rw [Hi.out, Hk.out]; rfl, chain h1.bel hb2⟩
  · have hd : (ckCell f r c != 0) = true := by simpa using hk
    have Hi := Lib.hid (show idxOf f r c = 0 by simp [idxOf, hk])
    clear hk
    go_enter Tryz.func18, Tryz.ntmps18
    go_wp2_with fail
    refine (rAsked_c f _ r c _ hF0).mono ?_; rintro e w1 ⟨rfl, hb1⟩
    have hbw := chain h0.bel hb1
    go_wp2_with fail
    go_ret2
    exact ⟨by rw [Hi.out]; rfl, hbw⟩


set_option maxRecDepth 100000 in
set_option maxHeartbeats 2000000 in
theorem rAt_c (f : Fc) (v : Value) (r c : Int) (w : World) (h : IsFace w w.heap.size v f) :
    Calls Tryz.prog 10 #[v, .agg #[.int .i64 r, .int .i64 c]] w fun e w' => e = .returned (.tuple #[.int .i64 (atOf f r c), .int .i64 (ckCell f r c)]) ∧ Below w.heap.size w w' := by
  have hF := h
  obtain ⟨s, rfl, hlen, A, cp, rfl, hcap, hcell⟩ := h
  have h0 := FcSt.made w f (.slice A f.kinds.length cp) r c
  have hF0 := hF.mono h0.bel h0.bel.size
  by_cases hk : ckCell f r c = 0
  · obtain ⟨hv, x1, x2, x3, x4⟩ := ckCell_ok hk
    dsimp only at x1 x2 x3 x4
    obtain ⟨i1, i2⟩ := idx_bd hv x1 x2 x3 x4
    obtain ⟨⟨⟨a1, a2⟩, ⟨a3, a4⟩, a5, a6⟩, -, -⟩ := validB_iff.1 hv
    obtain ⟨b, off, rfl, hbB, hcc⟩ := hcell (by omega)
    obtain ⟨n, hn⟩ := Int.eq_ofNat_of_zero_le i1
    have hx := hcc n (by omega)
    have hd : (ckCell f r c != 0) = false := by simp [hk]
    have Hi := Lib.hid (show atOf f r c = nth f.kinds n by simp only [atOf, hk, if_true]; unfold kat; rw [hn]; rfl)
    have hi1 : (0 : Int) ≤ (n : Int) := by omega
    have hi2 : (n : Int) < (f.kinds.length : Int) := by omega
    have Hn := Lib.hid hn
    have Hk := Lib.hid hk
    clear hk hv hcell hcc hn i1 i2
    go_enter Tryz.func10, Tryz.ntmps10
    go_wp2_with fail
    refine (rAsked_c f _ r c _ hF0).mono ?_; rintro e w1 ⟨rfl, hb1⟩
    have h1 := h0.later hb1
    clear h0 hF0 hb1
    have k0 : w1.cell? ⟨w.heap.size, 0, none⟩ = some (.int .i64 f.eye) := h1.b0.cell 0
    have k1 : w1.cell? ⟨w.heap.size, 1, none⟩ = some (.int .i64 f.rings) := h1.b0.cell 1
    have k2 : w1.cell? ⟨w.heap.size, 2, none⟩ = some (.int .i64 f.sectors) := h1.b0.cell 2
    have k3 : w1.cell? ⟨w.heap.size, 3, none⟩ = some (.slice (some ⟨b, off, none⟩) f.kinds.length cp) := h1.b0.cell 3
    have k4 : w1.cell? ⟨w.heap.size + 1, 0, none⟩ = some (.int .i64 r) := h1.b1.cell 0
    have k5 : w1.cell? ⟨w.heap.size + 1, 1, none⟩ = some (.int .i64 c) := h1.b1.cell 1
    have kx := keepd hx h1.bel hbB
    have hs1 := h1.b1.lt
    have hbel := h1.bel
    clear hx h1
    go_wp2_with fail
    go_region_held3 (fun W => W.cell? ⟨(w.heap.size), 0, none⟩ = some (.int .i64 f.eye) ∧ W.cell? ⟨(w.heap.size), 1, none⟩ = some (.int .i64 f.rings) ∧ W.cell? ⟨(w.heap.size), 2, none⟩ = some (.int .i64 f.sectors) ∧ W.cell? ⟨(w.heap.size), 3, none⟩ = some (.slice (some ⟨b, off, none⟩) f.kinds.length cp) ∧ W.cell? ⟨(w.heap.size + 1), 0, none⟩ = some (.int .i64 r) ∧ W.cell? ⟨(w.heap.size + 1), 1, none⟩ = some (.int .i64 c) ∧ W.cell? ⟨b, off + n, none⟩ = some (.int .i64 (nth f.kinds n)) ∧ Below w1.heap.size w1 W ∧ w1.heap.size ≤ W.heap.size) (first | assumption | (refine ⟨?_, ?_, ?_, ?_, ?_, ?_, ?_, (Below.refl _ _).drew, by first | (simp; done) | (simp; omega) | omega⟩ <;> go_keep) | (obtain ⟨x0, x1, x2, x3, x4, x5, x6, xb, xs⟩ := ‹_ ∧ _›; first | exact ⟨keepd x0 (Below.alloc (Below.refl (w1.heap.size) _) xs _) (by omega), keepd x1 (Below.alloc (Below.refl (w1.heap.size) _) xs _) (by omega), keepd x2 (Below.alloc (Below.refl (w1.heap.size) _) xs _) (by omega), keepd x3 (Below.alloc (Below.refl (w1.heap.size) _) xs _) (by omega), keepd x4 (Below.alloc (Below.refl (w1.heap.size) _) xs _) (by omega), keepd x5 (Below.alloc (Below.refl (w1.heap.size) _) xs _) (by omega), keepd x6 (Below.alloc (Below.refl (w1.heap.size) _) xs _) (by omega), Below.trans xb (Below.mono (Below.alloc (Below.refl (w1.heap.size) _) xs _) (by omega)), Nat.le_trans xs (Below.size (Below.alloc (Below.refl (w1.heap.size) _) xs _))⟩ | exact ⟨keepd x0 (Below.mono (B' := w1.heap.size) (by assumption) xs) (by omega), keepd x1 (Below.mono (B' := w1.heap.size) (by assumption) xs) (by omega), keepd x2 (Below.mono (B' := w1.heap.size) (by assumption) xs) (by omega), keepd x3 (Below.mono (B' := w1.heap.size) (by assumption) xs) (by omega), keepd x4 (Below.mono (B' := w1.heap.size) (by assumption) xs) (by omega), keepd x5 (Below.mono (B' := w1.heap.size) (by assumption) xs) (by omega), keepd x6 (Below.mono (B' := w1.heap.size) (by assumption) xs) (by omega), Below.trans xb (Below.mono (Below.mono (B' := w1.heap.size) (by assumption) xs) (by omega)), Nat.le_trans xs (Below.size (Below.mono (B' := w1.heap.size) (by assumption) xs))⟩ | exact ⟨keepd x0 (hgst) (by omega), keepd x1 (hgst) (by omega), keepd x2 (hgst) (by omega), keepd x3 (hgst) (by omega), keepd x4 (hgst) (by omega), keepd x5 (hgst) (by omega), keepd x6 (hgst) (by omega), Below.trans xb (Below.mono (hgst) (by omega)), Nat.le_trans xs (Below.size (hgst))⟩ | exact ⟨keepd x0 (Below.setCell (Below.refl (w1.heap.size) _) (by first | (simp; done) | (simp; omega)) _) (by omega), keepd x1 (Below.setCell (Below.refl (w1.heap.size) _) (by first | (simp; done) | (simp; omega)) _) (by omega), keepd x2 (Below.setCell (Below.refl (w1.heap.size) _) (by first | (simp; done) | (simp; omega)) _) (by omega), keepd x3 (Below.setCell (Below.refl (w1.heap.size) _) (by first | (simp; done) | (simp; omega)) _) (by omega), keepd x4 (Below.setCell (Below.refl (w1.heap.size) _) (by first | (simp; done) | (simp; omega)) _) (by omega), keepd x5 (Below.setCell (Below.refl (w1.heap.size) _) (by first | (simp; done) | (simp; omega)) _) (by omega), keepd x6 (Below.setCell (Below.refl (w1.heap.size) _) (by first | (simp; done) | (simp; omega)) _) (by omega), Below.trans xb (Below.mono (Below.setCell (Below.refl (w1.heap.size) _) (by first | (simp; done) | (simp; omega)) _) (by omega)), Nat.le_trans xs (Below.size (Below.setCell (Below.refl (w1.heap.size) _) (by first | (simp; done) | (simp; omega)) _))⟩ | exact ⟨keepd x0 (Below.setCell (Below.setCell (Below.setCell (Below.setCell (Below.refl (w1.heap.size) _) (by first | (simp; done) | (simp; omega)) _) (by first | (simp; done) | (simp; omega)) _) (by first | (simp; done) | (simp; omega)) _) (by first | (simp; done) | (simp; omega)) _) (by omega), keepd x1 (Below.setCell (Below.setCell (Below.setCell (Below.setCell (Below.refl (w1.heap.size) _) (by first | (simp; done) | (simp; omega)) _) (by first | (simp; done) | (simp; omega)) _) (by first | (simp; done) | (simp; omega)) _) (by first | (simp; done) | (simp; omega)) _) (by omega), keepd x2 (Below.setCell (Below.setCell (Below.setCell (Below.setCell (Below.refl (w1.heap.size) _) (by first | (simp; done) | (simp; omega)) _) (by first | (simp; done) | (simp; omega)) _) (by first | (simp; done) | (simp; omega)) _) (by first | (simp; done) | (simp; omega)) _) (by omega), keepd x3 (Below.setCell (Below.setCell (Below.setCell (Below.setCell (Below.refl (w1.heap.size) _) (by first | (simp; done) | (simp; omega)) _) (by first | (simp; done) | (simp; omega)) _) (by first | (simp; done) | (simp; omega)) _) (by first | (simp; done) | (simp; omega)) _) (by omega), keepd x4 (Below.setCell (Below.setCell (Below.setCell (Below.setCell (Below.refl (w1.heap.size) _) (by first | (simp; done) | (simp; omega)) _) (by first | (simp; done) | (simp; omega)) _) (by first | (simp; done) | (simp; omega)) _) (by first | (simp; done) | (simp; omega)) _) (by omega), keepd x5 (Below.setCell (Below.setCell (Below.setCell (Below.setCell (Below.refl (w1.heap.size) _) (by first | (simp; done) | (simp; omega)) _) (by first | (simp; done) | (simp; omega)) _) (by first | (simp; done) | (simp; omega)) _) (by first | (simp; done) | (simp; omega)) _) (by omega), keepd x6 (Below.setCell (Below.setCell (Below.setCell (Below.setCell (Below.refl (w1.heap.size) _) (by first | (simp; done) | (simp; omega)) _) (by first | (simp; done) | (simp; omega)) _) (by first | (simp; done) | (simp; omega)) _) (by first | (simp; done) | (simp; omega)) _) (by omega), Below.trans xb (Below.mono (Below.setCell (Below.setCell (Below.setCell (Below.setCell (Below.refl (w1.heap.size) _) (by first | (simp; done) | (simp; omega)) _) (by first | (simp; done) | (simp; omega)) _) (by first | (simp; done) | (simp; omega)) _) (by first | (simp; done) | (simp; omega)) _) (by omega)), Nat.le_trans xs (Below.size (Below.setCell (Below.setCell (Below.setCell (Below.setCell (Below.refl (w1.heap.size) _) (by first | (simp; done) | (simp; omega)) _) (by first | (simp; done) | (simp; omega)) _) (by first | (simp; done) | (simp; omega)) _) (by first | (simp; done) | (simp; omega)) _))⟩)) (first | (go_at_call 50; refine (rnumber_c f _ _ _ _ (by omega) (by omega) (by omega) (by omega) (by omega) (by omega)).mono ?_; rintro e w2 ⟨rfl, hb2⟩; rw [Hn.out]))
    obtain ⟨-, -, -, -, -, -, -, xb, -⟩ := ‹_ ∧ _›
    have hbw := chain hbel xb
    clear xb
    go_wp2_with fail
    go_ret2
    exact ⟨by rw [Hi.out, Hk.out]; rfl, hbw⟩
  · have hd : (ckCell f r c != 0) = true := by simpa using hk
    have Hi := Lib.hid (show atOf f r c = 0 by simp [atOf, hk])
    clear hk hcell
    go_enter Tryz.func10, Tryz.ntmps10
    go_wp2_with fail
    refine (rAsked_c f _ r c _ hF0).mono ?_; rintro e w1 ⟨rfl, hb1⟩
    have hbw := chain h0.bel hb1
    go_wp2_with fail
    go_ret2
    exact ⟨by rw [Hi.out]; rfl, hbw⟩

set_option maxRecDepth 100000 in
set_option maxHeartbeats 1000000 in
theorem rCellOf_c (f : Fc) (v : Value) (i : Int) (w : World) (h : IsFace w w.heap.size v f) :
    Calls Tryz.prog 20 #[v, .int .i64 i] w fun e w' => e = .returned (.tuple #[.agg #[.int .i64 (celOf f i).1, .int .i64 (celOf f i).2], .int .i64 (ckIdx f i)]) ∧ Below w.heap.size w w' := by
  have hF := h
  obtain ⟨s, rfl, hlen, A, cp, rfl, hcap, hcell⟩ := h
  clear hcell
  have b0 := faceBox w f (.slice A f.kinds.length cp) (.cells #[.int .i64 0, .int .i64 0] 26)
  have hr := resCel w (.cells #[.int .i64 f.eye, .int .i64 f.rings, .int .i64 f.sectors, .slice A f.kinds.length cp] 24)
  cases hv : validB f
  · have Hi := Lib.hid (show ckIdx f i = 10 by simp [ckIdx, hv])
    have Hc := Lib.hid (show celOf f i = (0, 0) by simp [celOf, Hi.out])
    go_enter Tryz.func20, Tryz.ntmps20
    go_wp2_with fail
    refine (rValid_c f _ _ ((hF.box _).box _)).mono ?_; rintro e w1 ⟨rfl, hb⟩
    rw [hv]
    have hbx := hr.later hb
    have z0 : w1.cell? ⟨w.heap.size + 1, 0, none⟩ = some (.int .i64 0) := hbx.cell 0
    have z1 : w1.cell? ⟨w.heap.size + 1, 1, none⟩ = some (.int .i64 0) := hbx.cell 1
    have y0 := hbx.free 0
    have y1 := hbx.free 1
    have hbw : Below w.heap.size w w1 := boxed (boxed hb)
    go_wp2_with fail
    rw [Hc.out, Hi.out]
    exact endCelE Tryz.results20 rfl rfl hbx (by omega) hbw
  obtain ⟨⟨⟨a1, a2⟩, ⟨a3, a4⟩, a5, a6⟩, -, -⟩ := validB_iff.1 hv
  have hl6 : f.kinds.length ≤ 2304 := (len_val hv).2.2
  cases hk : inB i 0 ((f.kinds.length : Int) - 1)
  · have Hi := Lib.hid (show ckIdx f i = 3 by simp only [ckIdx, hv, if_true]; rw [inB_not] at hk; rw [if_neg (by omega)])
    have Hc := Lib.hid (show celOf f i = (0, 0) by simp [celOf, Hi.out])
    go_enter Tryz.func20, Tryz.ntmps20
    go_wp2_with fail
    refine (rValid_c f _ _ ((hF.box _).box _)).mono ?_; rintro e w1 ⟨rfl, hb⟩
    rw [hv]
    have k3 : w1.cell? ⟨w.heap.size, 3, none⟩ = some (.slice A f.kinds.length cp) := (b0.later hb).cell 3
    have hbx := hr.later hb
    have z0 : w1.cell? ⟨w.heap.size + 1, 0, none⟩ = some (.int .i64 0) := hbx.cell 0
    have z1 : w1.cell? ⟨w.heap.size + 1, 1, none⟩ = some (.int .i64 0) := hbx.cell 1
    have y0 := hbx.free 0
    have y1 := hbx.free 1
    have hbw : Below w.heap.size w w1 := boxed (boxed hb)
    go_wp2_with (go_at_call 54; refine (rwithin_c _ _ _ _).mono ?_; rintro e w' ⟨rfl, rfl⟩)
    rw [Hc.out, Hi.out]
    exact endCelE Tryz.results20 rfl rfl hbx (by omega) hbw
  · obtain ⟨x1, x2⟩ := inB_iff.1 hk
    have Hi := Lib.hid (show ckIdx f i = 0 by simp only [ckIdx, hv, if_true]; rw [if_pos (by omega)])
    have Hc := Lib.hid (show celOf f i = (i / f.sectors, i % f.sectors) by simp [celOf, Hi.out])
    go_enter Tryz.func20, Tryz.ntmps20
    go_wp2_with fail
    refine (rValid_c f _ _ ((hF.box _).box _)).mono ?_; rintro e w1 ⟨rfl, hb⟩
    rw [hv]
    have b1 := b0.later hb
    have hb1 := hr.later hb
    have k0 : w1.cell? ⟨w.heap.size, 0, none⟩ = some (.int .i64 f.eye) := b1.cell 0
    have k1 : w1.cell? ⟨w.heap.size, 1, none⟩ = some (.int .i64 f.rings) := b1.cell 1
    have k2 : w1.cell? ⟨w.heap.size, 2, none⟩ = some (.int .i64 f.sectors) := b1.cell 2
    have k3 : w1.cell? ⟨w.heap.size, 3, none⟩ = some (.slice A f.kinds.length cp) := b1.cell 3
    have hbw1 : Below w.heap.size w w1 := boxed (boxed hb)
    go_wp2_with (go_at_call 54; refine (rwithin_c _ _ _ _).mono ?_; rintro e w' ⟨rfl, rfl⟩)
    refine (rPlace_c f _ i w1 (by omega) (by omega) (by omega) (by omega)).mono ?_; rintro e w2 ⟨rfl, hb2⟩
    have hbx := hb1.later hb2
    have z0 : w2.cell? ⟨w.heap.size + 1, 0, none⟩ = some (.int .i64 0) := hbx.cell 0
    have z1 : w2.cell? ⟨w.heap.size + 1, 1, none⟩ = some (.int .i64 0) := hbx.cell 1
    have y0 := hbx.free 0
    have y1 := hbx.free 1
    have hbw := chain hbw1 hb2
    clear k0 k1 k2 k3
    go_wp2_with fail
    rw [Hc.out, Hi.out]
    exact endCelE Tryz.results20 rfl rfl hbx (by omega) hbw

set_option maxHeartbeats 800000 in
theorem rSame_c (f g : Fc) (v u : Value) (w : World) (hf : IsFace w w.heap.size v f) (hg : IsFace w w.heap.size u g) :
    Calls Tryz.prog 16 #[v, u] w fun e w' => e = .returned (.bool (sameB f g)) ∧ Below w.heap.size w w' := by
  obtain ⟨s, rfl, hi⟩ := hf
  obtain ⟨s', rfl, hi'⟩ := hg
  obtain ⟨A, c, rfl⟩ : ∃ A c, s = .slice A f.kinds.length c := by obtain ⟨_, A4, c4, rfl, _⟩ := hi; exact ⟨A4, c4, rfl⟩
  obtain ⟨A', c', rfl⟩ : ∃ A c, s' = .slice A g.kinds.length c := by obtain ⟨_, A4, c4, rfl, _⟩ := hi'; exact ⟨A4, c4, rfl⟩
  have hb2 : Below w.heap.size w ((w.alloc (.cells #[.int .i64 f.eye, .int .i64 f.rings, .int .i64 f.sectors, .slice A f.kinds.length c] 24)).alloc (.cells #[.int .i64 g.eye, .int .i64 g.rings, .int .i64 g.sectors, .slice A' g.kinds.length c'] 24)) :=
    ((Below.refl _ _).alloc (Nat.le_refl _) _).alloc (by simp) _
  have Hb2 := Lib.hid hb2
  clear hb2
  cases h1 : (f.eye == g.eye)
  · have Hs := Lib.hid (show sameB f g = false by unfold sameB; simp at h1; simp [h1])
    go_enter Tryz.func16, Tryz.ntmps16
    go_wp2_with fail
    go_ret
    exact ⟨ret_bool Hs.out.symm, Hb2.out⟩
  cases h2 : (f.rings == g.rings)
  · have Hs := Lib.hid (show sameB f g = false by unfold sameB; simp at h2; simp [h2])
    go_enter Tryz.func16, Tryz.ntmps16
    go_wp2_with fail
    go_ret
    exact ⟨ret_bool Hs.out.symm, Hb2.out⟩
  cases h3 : (f.sectors == g.sectors)
  · have Hs := Lib.hid (show sameB f g = false by unfold sameB; simp at h3; simp [h3])
    go_enter Tryz.func16, Tryz.ntmps16
    go_wp2_with fail
    go_ret
    exact ⟨ret_bool Hs.out.symm, Hb2.out⟩
  have Hs := Lib.hid (show sameB f g = decide (f.kinds = g.kinds) by unfold sameB; simp at h1 h2 h3; simp [h1, h2, h3])
  go_enter Tryz.func16, Tryz.ntmps16
  go_wp2_with fail
  refine (sameInts_c f.kinds g.kinds _ _ _ (hi.mono Hb2.out Hb2.out.size) (hi'.mono Hb2.out Hb2.out.size)).mono ?_
  rintro e w1 ⟨rfl, hb⟩
  go_wp2_with fail
  go_ret
  exact ⟨ret_bool Hs.out.symm, chain Hb2.out hb⟩

end Go.Proofs.YtpejcdjgggcjlaaGreatDoor

/- The walks of Turn and what it calls. -/
import Derived.Test.YtpejcdjgggcjlaaGreatDoorA2
namespace Go.Proofs.YtpejcdjgggcjlaaGreatDoor
open Go.RowKit

/-- a sector as one comes out who goes round -/
def rnd (a s : Int) : Int := a % s
theorem rnd_bd {a s : Int} (h : 1 ≤ s) : 0 ≤ rnd a s ∧ rnd a s < s := ⟨Int.emod_nonneg _ (by omega), Int.emod_lt_of_pos _ (by omega)⟩
theorem rnd_tmod {a s : Int} : (a.tmod s + s) % s = rnd a s := by
  unfold rnd
  rw [Int.add_emod_right, Int.tmod_def, Int.sub_mul_emod_self_left]

set_option maxHeartbeats 400000 in
theorem round_c (a s : Int) (w : World) (h1 : 1 ≤ s) (h2 : s ≤ 96) :
    Calls Tryz.prog 78 #[.int .i64 a, .int .i64 s] w fun e w' => e = .returned (.int .i64 (rnd a s)) ∧ w = w' := by
  have h3 : -s < a.tmod s := Int.lt_tmod_of_pos a (by omega)
  have h4 : a.tmod s < s := Int.tmod_lt_of_pos a (by omega)
  go_enter Tryz.func78, Tryz.ntmps78
  go_wp2
  go_ret
  exact ⟨ret_int rnd_tmod, rfl⟩

set_option maxHeartbeats 400000 in
theorem indexOf_c (f : Fc) (s : Value) (r c : Int) (w : World) (h1 : 0 ≤ r) (h2 : r ≤ 24) (h3 : 0 ≤ c) (h4 : c ≤ 96) (h5 : 0 ≤ f.sectors) (h6 : f.sectors ≤ 96) :
    Calls Tryz.prog 53 #[.agg #[.int .i64 f.eye, .int .i64 f.rings, .int .i64 f.sectors, s], .agg #[.int .i64 r, .int .i64 c]] w fun e w' => e = .returned (.int .i64 (r * f.sectors + c)) ∧ Below w.heap.size w w' := by
  obtain ⟨m1, m2⟩ : 0 ≤ r * f.sectors ∧ r * f.sectors ≤ 24 * 96 := mul_bd h1 h5 h2 h6
  go_enter Tryz.func53, Tryz.ntmps53
  go_wp2
  go_ret
  exact ⟨rfl, ((Below.refl _ _).alloc (Nat.le_refl _) _).alloc (by simp) _⟩

/-- the kind of a cell -/
def kat (f : Fc) (r c : Int) : Int := nth f.kinds (r * f.sectors + c).toNat
theorem idx_bd {f : Fc} {r c : Int} (hv : validB f = true) (h1 : 0 ≤ r) (h2 : r < f.rings) (h3 : 0 ≤ c) (h4 : c < f.sectors) : 0 ≤ r * f.sectors + c ∧ r * f.sectors + c < f.kinds.length := by
  obtain ⟨⟨⟨a1, a2⟩, ⟨a3, a4⟩, a5, a6⟩, hl, -⟩ := validB_iff.1 hv
  have m1 : 0 ≤ r * f.sectors := Int.mul_nonneg h1 (by omega)
  have m2 : r * f.sectors ≤ (f.rings - 1) * f.sectors := Int.mul_le_mul_of_nonneg_right (by omega) (by omega)
  have m3 : (f.rings - 1) * f.sectors = f.rings * f.sectors - f.sectors := by rw [Int.sub_mul]; omega
  omega

set_option maxHeartbeats 400000 in
theorem kindAt_c (f : Fc) (v : Value) (r c : Int) (w : World) (h : IsFace w w.heap.size v f) (hv : validB f = true) (h1 : 0 ≤ r) (h2 : r < f.rings) (h3 : 0 ≤ c) (h4 : c < f.sectors) :
    Calls Tryz.prog 48 #[v, .agg #[.int .i64 r, .int .i64 c]] w fun e w' => e = .returned (.int .i64 (kat f r c)) ∧ Below w.heap.size w w' := by
  obtain ⟨s, rfl, hlen, A, cp, rfl, hcap, hcell⟩ := h
  obtain ⟨i1, i2⟩ := idx_bd hv h1 h2 h3 h4
  obtain ⟨⟨⟨a1, a2⟩, ⟨a3, a4⟩, a5, a6⟩, -, -⟩ := validB_iff.1 hv
  obtain ⟨b, off, rfl, hbB, hcc⟩ := hcell (by omega)
  obtain ⟨n, hn⟩ := Int.eq_ofNat_of_zero_le i1
  have hx := hcc n (by omega)
  have Hk := Lib.hid (show kat f r c = nth f.kinds n by unfold kat; rw [hn]; rfl)
  have hi1 : (0 : Int) ≤ (n : Int) := by omega
  have hi2 : (n : Int) < (f.kinds.length : Int) := by omega
  have Hn := Lib.hid hn
  clear hcell hcc hn hv
  go_enter Tryz.func48, Tryz.ntmps48
  go_wp2_with fail
  go_region_held3 (fun W => W.cell? ⟨(w.heap.size), 0, none⟩ = some (.int .i64 f.eye) ∧ W.cell? ⟨(w.heap.size), 1, none⟩ = some (.int .i64 f.rings) ∧ W.cell? ⟨(w.heap.size), 2, none⟩ = some (.int .i64 f.sectors) ∧ W.cell? ⟨(w.heap.size), 3, none⟩ = some (.slice (some ⟨b, off, none⟩) f.kinds.length cp) ∧ W.cell? ⟨(w.heap.size + 1), 0, none⟩ = some (.int .i64 r) ∧ W.cell? ⟨(w.heap.size + 1), 1, none⟩ = some (.int .i64 c) ∧ W.cell? ⟨b, off + n, none⟩ = some (.int .i64 (nth f.kinds n)) ∧ Below w.heap.size w W ∧ w.heap.size + 2 ≤ W.heap.size) (first | assumption | (refine ⟨?_, ?_, ?_, ?_, ?_, ?_, ?_, (((Below.refl _ _).alloc (Nat.le_refl _) _).alloc (by simp) _).drew, by first | (simp; done) | (simp; omega) | omega⟩ <;> go_keep) | (obtain ⟨x0, x1, x2, x3, x4, x5, x6, xb, xs⟩ := ‹_ ∧ _›; first | exact ⟨keepd x0 (Below.alloc (Below.refl (w.heap.size + 2) _) xs _) (by omega), keepd x1 (Below.alloc (Below.refl (w.heap.size + 2) _) xs _) (by omega), keepd x2 (Below.alloc (Below.refl (w.heap.size + 2) _) xs _) (by omega), keepd x3 (Below.alloc (Below.refl (w.heap.size + 2) _) xs _) (by omega), keepd x4 (Below.alloc (Below.refl (w.heap.size + 2) _) xs _) (by omega), keepd x5 (Below.alloc (Below.refl (w.heap.size + 2) _) xs _) (by omega), keepd x6 (Below.alloc (Below.refl (w.heap.size + 2) _) xs _) (by omega), Below.trans xb (Below.mono (Below.alloc (Below.refl (w.heap.size + 2) _) xs _) (by omega)), Nat.le_trans xs (Below.size (Below.alloc (Below.refl (w.heap.size + 2) _) xs _))⟩ | exact ⟨keepd x0 (Below.mono (B' := w.heap.size + 2) (by assumption) xs) (by omega), keepd x1 (Below.mono (B' := w.heap.size + 2) (by assumption) xs) (by omega), keepd x2 (Below.mono (B' := w.heap.size + 2) (by assumption) xs) (by omega), keepd x3 (Below.mono (B' := w.heap.size + 2) (by assumption) xs) (by omega), keepd x4 (Below.mono (B' := w.heap.size + 2) (by assumption) xs) (by omega), keepd x5 (Below.mono (B' := w.heap.size + 2) (by assumption) xs) (by omega), keepd x6 (Below.mono (B' := w.heap.size + 2) (by assumption) xs) (by omega), Below.trans xb (Below.mono (Below.mono (B' := w.heap.size + 2) (by assumption) xs) (by omega)), Nat.le_trans xs (Below.size (Below.mono (B' := w.heap.size + 2) (by assumption) xs))⟩ | exact ⟨keepd x0 (hgst) (by omega), keepd x1 (hgst) (by omega), keepd x2 (hgst) (by omega), keepd x3 (hgst) (by omega), keepd x4 (hgst) (by omega), keepd x5 (hgst) (by omega), keepd x6 (hgst) (by omega), Below.trans xb (Below.mono (hgst) (by omega)), Nat.le_trans xs (Below.size (hgst))⟩ | exact ⟨keepd x0 (Below.setCell (Below.refl (w.heap.size + 2) _) (by first | (simp; done) | (simp; omega)) _) (by omega), keepd x1 (Below.setCell (Below.refl (w.heap.size + 2) _) (by first | (simp; done) | (simp; omega)) _) (by omega), keepd x2 (Below.setCell (Below.refl (w.heap.size + 2) _) (by first | (simp; done) | (simp; omega)) _) (by omega), keepd x3 (Below.setCell (Below.refl (w.heap.size + 2) _) (by first | (simp; done) | (simp; omega)) _) (by omega), keepd x4 (Below.setCell (Below.refl (w.heap.size + 2) _) (by first | (simp; done) | (simp; omega)) _) (by omega), keepd x5 (Below.setCell (Below.refl (w.heap.size + 2) _) (by first | (simp; done) | (simp; omega)) _) (by omega), keepd x6 (Below.setCell (Below.refl (w.heap.size + 2) _) (by first | (simp; done) | (simp; omega)) _) (by omega), Below.trans xb (Below.mono (Below.setCell (Below.refl (w.heap.size + 2) _) (by first | (simp; done) | (simp; omega)) _) (by omega)), Nat.le_trans xs (Below.size (Below.setCell (Below.refl (w.heap.size + 2) _) (by first | (simp; done) | (simp; omega)) _))⟩ | exact ⟨keepd x0 (Below.setCell (Below.setCell (Below.setCell (Below.setCell (Below.refl (w.heap.size + 2) _) (by first | (simp; done) | (simp; omega)) _) (by first | (simp; done) | (simp; omega)) _) (by first | (simp; done) | (simp; omega)) _) (by first | (simp; done) | (simp; omega)) _) (by omega), keepd x1 (Below.setCell (Below.setCell (Below.setCell (Below.setCell (Below.refl (w.heap.size + 2) _) (by first | (simp; done) | (simp; omega)) _) (by first | (simp; done) | (simp; omega)) _) (by first | (simp; done) | (simp; omega)) _) (by first | (simp; done) | (simp; omega)) _) (by omega), keepd x2 (Below.setCell (Below.setCell (Below.setCell (Below.setCell (Below.refl (w.heap.size + 2) _) (by first | (simp; done) | (simp; omega)) _) (by first | (simp; done) | (simp; omega)) _) (by first | (simp; done) | (simp; omega)) _) (by first | (simp; done) | (simp; omega)) _) (by omega), keepd x3 (Below.setCell (Below.setCell (Below.setCell (Below.setCell (Below.refl (w.heap.size + 2) _) (by first | (simp; done) | (simp; omega)) _) (by first | (simp; done) | (simp; omega)) _) (by first | (simp; done) | (simp; omega)) _) (by first | (simp; done) | (simp; omega)) _) (by omega), keepd x4 (Below.setCell (Below.setCell (Below.setCell (Below.setCell (Below.refl (w.heap.size + 2) _) (by first | (simp; done) | (simp; omega)) _) (by first | (simp; done) | (simp; omega)) _) (by first | (simp; done) | (simp; omega)) _) (by first | (simp; done) | (simp; omega)) _) (by omega), keepd x5 (Below.setCell (Below.setCell (Below.setCell (Below.setCell (Below.refl (w.heap.size + 2) _) (by first | (simp; done) | (simp; omega)) _) (by first | (simp; done) | (simp; omega)) _) (by first | (simp; done) | (simp; omega)) _) (by first | (simp; done) | (simp; omega)) _) (by omega), keepd x6 (Below.setCell (Below.setCell (Below.setCell (Below.setCell (Below.refl (w.heap.size + 2) _) (by first | (simp; done) | (simp; omega)) _) (by first | (simp; done) | (simp; omega)) _) (by first | (simp; done) | (simp; omega)) _) (by first | (simp; done) | (simp; omega)) _) (by omega), Below.trans xb (Below.mono (Below.setCell (Below.setCell (Below.setCell (Below.setCell (Below.refl (w.heap.size + 2) _) (by first | (simp; done) | (simp; omega)) _) (by first | (simp; done) | (simp; omega)) _) (by first | (simp; done) | (simp; omega)) _) (by first | (simp; done) | (simp; omega)) _) (by omega)), Nat.le_trans xs (Below.size (Below.setCell (Below.setCell (Below.setCell (Below.setCell (Below.refl (w.heap.size + 2) _) (by first | (simp; done) | (simp; omega)) _) (by first | (simp; done) | (simp; omega)) _) (by first | (simp; done) | (simp; omega)) _) (by first | (simp; done) | (simp; omega)) _))⟩)) (first | (go_at_call 53; refine (indexOf_c f _ _ _ _ (by omega) (by omega) (by omega) (by omega) (by omega) (by omega)).mono ?_; rintro e w2 ⟨rfl, hb2⟩; rw [Hn.out]))
  go_wp2
  go_ret
  obtain ⟨-, -, -, -, -, -, -, xb, -⟩ := ‹_ ∧ _›
  exact ⟨ret_int Hk.out.symm, xb⟩

set_option maxHeartbeats 400000 in
theorem turned1_c (sec back sectors : Int) (bb bf : Nat) (w : World) (h1 : 0 ≤ sec) (h2 : sec ≤ 96) (h3 : 0 ≤ back) (h4 : back ≤ 96) (h5 : 1 ≤ sectors) (h6 : sectors ≤ 96)
    (hb : w.cell? ⟨bb, 0, none⟩ = some (.int .i64 back)) (hf : w.cell? ⟨bf, 2, none⟩ = some (.int .i64 sectors)) :
    Calls Tryz.prog 79 #[.int .i64 sec, .pointer (some ⟨bb, 0, none⟩), .pointer (some ⟨bf, 0, none⟩)] w fun e w' => e = .returned (.int .i64 (rnd (sec - back) sectors)) ∧ w = w' := by
  go_enter Tryz.func79, Tryz.ntmps79
  go_wp2_with (go_at_call 78; refine (round_c _ _ _ (by omega) (by omega)).mono ?_; rintro e w' ⟨rfl, rfl⟩)
  go_ret
  exact ⟨rfl, rfl⟩

end Go.Proofs.YtpejcdjgggcjlaaGreatDoor

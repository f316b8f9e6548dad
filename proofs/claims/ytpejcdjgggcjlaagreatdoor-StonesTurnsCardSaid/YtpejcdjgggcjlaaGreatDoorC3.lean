/- The walk of neighbours: what it hands back is an iterator over four places. -/
import Derived.Test.YtpejcdjgggcjlaaGreatDoorA3
namespace Go.Proofs.YtpejcdjgggcjlaaGreatDoor
open Go.RowKit

/-- an iterator over the neighbours of a cell, in memory: the four places, and the face -/
def NearAt (w : World) (lo : Nat) (f : Fc) (r c : Int) (v : Value) : Prop :=
  ∃ bn bf s, v = .func (.func 105) #[] #[.pointer (some ⟨bn, 0, none⟩), .pointer (some ⟨bf, 0, none⟩)] ∧ lo ≤ bn ∧ lo ≤ bf ∧
    Box w bn 117 #[.int .i64 (r - 1), .int .i64 c, .int .i64 r, .int .i64 (min (rnd (c - 1) f.sectors) (rnd (c + 1) f.sectors)), .int .i64 r, .int .i64 (max (rnd (c - 1) f.sectors) (rnd (c + 1) f.sectors)), .int .i64 (r + 1), .int .i64 c] ∧
    Box w bf 24 #[.int .i64 f.eye, .int .i64 f.rings, .int .i64 f.sectors, s]

set_option maxRecDepth 100000 in
set_option maxHeartbeats 800000 in
theorem neighbours_c (f : Fc) (A : Option Addr) (n cp : Nat) (r c : Int) (w : World) (h1 : 0 ≤ r) (h2 : r ≤ 24) (h3 : 0 ≤ c) (h4 : c ≤ 96) (h5 : 1 ≤ f.sectors) (h6 : f.sectors ≤ 96) :
    Calls Tryz.prog 99 #[.agg #[.int .i64 f.eye, .int .i64 f.rings, .int .i64 f.sectors, .slice A n cp], .agg #[.int .i64 r, .int .i64 c]] w
      fun e w' => ∃ v, e = .returned v ∧ NearAt w' w.heap.size f r c v ∧ Below w.heap.size w w' := by
  have w1 := wrap_id (n := c - 1) (by omega) (by omega)
  have w2 := wrap_id (n := c + 1) (by omega) (by omega)
  obtain ⟨b1, b2⟩ := rnd_bd (a := c - 1) (s := f.sectors) h5
  obtain ⟨b3, b4⟩ := rnd_bd (a := c + 1) (s := f.sectors) h5
  have hclose : ∀ (x y : Int), x = min (rnd (c - 1) f.sectors) (rnd (c + 1) f.sectors) → y = max (rnd (c - 1) f.sectors) (rnd (c + 1) f.sectors) →
      NearAt (((w.alloc (.cells #[.int .i64 f.eye, .int .i64 f.rings, .int .i64 f.sectors, .slice A n cp] 24)).alloc (.cells #[.int .i64 r, .int .i64 c] 26)).alloc (.cells #[.int .i64 (r - 1), .int .i64 c, .int .i64 r, .int .i64 x, .int .i64 r, .int .i64 y, .int .i64 (r + 1), .int .i64 c] 117)).drew w.heap.size f r c
        (.func (.func 105) #[] #[.pointer (some ⟨w.heap.size + 1 + 1, 0, none⟩), .pointer (some ⟨w.heap.size, 0, none⟩)]) := by
    rintro x y rfl rfl
    have e := Box.made ((w.alloc (.cells #[.int .i64 f.eye, .int .i64 f.rings, .int .i64 f.sectors, .slice A n cp] 24)).alloc (.cells #[.int .i64 r, .int .i64 c] 26)) 117 #[.int .i64 (r - 1), .int .i64 c, .int .i64 r, .int .i64 (min (rnd (c - 1) f.sectors) (rnd (c + 1) f.sectors)), .int .i64 r, .int .i64 (max (rnd (c - 1) f.sectors) (rnd (c + 1) f.sectors)), .int .i64 (r + 1), .int .i64 c]
    rw [World.size_alloc, World.size_alloc] at e
    exact ⟨_, _, _, rfl, by omega, Nat.le_refl _, e, ((Box.made _ _ _).alloc _).alloc _⟩
  have Hclose := Lib.hid hclose
  clear hclose
  go_enter Tryz.func99, Tryz.ntmps99
  go_wp2_with fail
  go_region_held3 (fun W => W.cell? ⟨(w.heap.size), 2, none⟩ = some (.int .i64 f.sectors) ∧ W.cell? ⟨(w.heap.size + 1), 1, none⟩ = some (.int .i64 c) ∧ Below w.heap.size w W ∧ w.heap.size + 2 ≤ W.heap.size) (first | assumption | (refine ⟨?_, ?_, (((Below.refl _ _).alloc (Nat.le_refl _) _).alloc (by simp) _).drew, by first | (simp; done) | (simp; omega) | omega⟩ <;> go_keep) | (obtain ⟨x0, x1, xb, xs⟩ := ‹_ ∧ _›; first | exact ⟨keepd x0 (Below.alloc (Below.refl (w.heap.size + 2) _) xs _) (by omega), keepd x1 (Below.alloc (Below.refl (w.heap.size + 2) _) xs _) (by omega), Below.trans xb (Below.mono (Below.alloc (Below.refl (w.heap.size + 2) _) xs _) (by omega)), Nat.le_trans xs (Below.size (Below.alloc (Below.refl (w.heap.size + 2) _) xs _))⟩ | exact ⟨keepd x0 (Below.mono (B' := w.heap.size + 2) (by assumption) xs) (by omega), keepd x1 (Below.mono (B' := w.heap.size + 2) (by assumption) xs) (by omega), Below.trans xb (Below.mono (Below.mono (B' := w.heap.size + 2) (by assumption) xs) (by omega)), Nat.le_trans xs (Below.size (Below.mono (B' := w.heap.size + 2) (by assumption) xs))⟩ | exact ⟨keepd x0 (hgst) (by omega), keepd x1 (hgst) (by omega), Below.trans xb (Below.mono (hgst) (by omega)), Nat.le_trans xs (Below.size (hgst))⟩ | exact ⟨keepd x0 (Below.setCell (Below.refl (w.heap.size + 2) _) (by first | (simp; done) | (simp; omega)) _) (by omega), keepd x1 (Below.setCell (Below.refl (w.heap.size + 2) _) (by first | (simp; done) | (simp; omega)) _) (by omega), Below.trans xb (Below.mono (Below.setCell (Below.refl (w.heap.size + 2) _) (by first | (simp; done) | (simp; omega)) _) (by omega)), Nat.le_trans xs (Below.size (Below.setCell (Below.refl (w.heap.size + 2) _) (by first | (simp; done) | (simp; omega)) _))⟩ | exact ⟨keepd x0 (Below.setCell (Below.setCell (Below.setCell (Below.setCell (Below.refl (w.heap.size + 2) _) (by first | (simp; done) | (simp; omega)) _) (by first | (simp; done) | (simp; omega)) _) (by first | (simp; done) | (simp; omega)) _) (by first | (simp; done) | (simp; omega)) _) (by omega), keepd x1 (Below.setCell (Below.setCell (Below.setCell (Below.setCell (Below.refl (w.heap.size + 2) _) (by first | (simp; done) | (simp; omega)) _) (by first | (simp; done) | (simp; omega)) _) (by first | (simp; done) | (simp; omega)) _) (by first | (simp; done) | (simp; omega)) _) (by omega), Below.trans xb (Below.mono (Below.setCell (Below.setCell (Below.setCell (Below.setCell (Below.refl (w.heap.size + 2) _) (by first | (simp; done) | (simp; omega)) _) (by first | (simp; done) | (simp; omega)) _) (by first | (simp; done) | (simp; omega)) _) (by first | (simp; done) | (simp; omega)) _) (by omega)), Nat.le_trans xs (Below.size (Below.setCell (Below.setCell (Below.setCell (Below.setCell (Below.refl (w.heap.size + 2) _) (by first | (simp; done) | (simp; omega)) _) (by first | (simp; done) | (simp; omega)) _) (by first | (simp; done) | (simp; omega)) _) (by first | (simp; done) | (simp; omega)) _))⟩)) (first | (go_at_call 78; refine (round_c _ _ _ h5 h6).mono ?_; rintro e w' ⟨rfl, rfl⟩))
  clear w1 w2
  rcases Int.lt_trichotomy (rnd (c - 1) f.sectors) (rnd (c + 1) f.sectors) with hc | hc | hc
  all_goals
    go_wp2_with fail
    go_ret
    exact ⟨_, rfl, Hclose.out _ _ (by omega) (by omega), ((((Below.refl _ _).alloc (Nat.le_refl _) _).alloc (by simp) _).alloc (by simp; omega) _).drew⟩

end Go.Proofs.YtpejcdjgggcjlaaGreatDoor

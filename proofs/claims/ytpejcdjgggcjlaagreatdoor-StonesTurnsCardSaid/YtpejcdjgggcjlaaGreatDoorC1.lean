/- The walk of cellAt. -/
import Derived.Test.YtpejcdjgggcjlaaGreatDoorA4
namespace Go.Proofs.YtpejcdjgggcjlaaGreatDoor
open Go.RowKit

theorem wrap_rem {a b : Int} (hb : 1 ≤ b) (h1 : b ≤ 96) : IntKind.i64.wrap (a % b) = a % b := by
  have h2 := Int.emod_nonneg a (show b ≠ 0 by omega)
  have h3 := Int.emod_lt_of_pos a (show 0 < b by omega)
  exact wrap_id (by omega) (by omega)
set_option maxRecDepth 100000 in
set_option maxHeartbeats 800000 in
theorem cellAt_c (f : Fc) (A : Option Addr) (n c : Nat) (i : Int) (w : World) (h1 : 0 ≤ i) (h2 : i ≤ 1000000) (h3 : 1 ≤ f.sectors) (h4 : f.sectors ≤ 96) :
    Calls Tryz.prog 58 #[.agg #[.int .i64 f.eye, .int .i64 f.rings, .int .i64 f.sectors, .slice A n c], .int .i64 i] w fun e w' => e = .returned (.agg #[.int .i64 (i / f.sectors), .int .i64 (i % f.sectors)]) ∧ Below w.heap.size w w' := by
  have hs0 : ¬ f.sectors = 0 := by omega
  have hq := wrap_quo (a := i) (b := f.sectors) h1 (by omega) h3
  have hr := wrap_rem (a := i) (b := f.sectors) h3 h4
  go_enter Tryz.func58, Tryz.ntmps58
  go_wp2_with fail
  go_region_held3 (fun W => W.cell? ⟨(w.heap.size), 2, none⟩ = some (.int .i64 f.sectors) ∧ Below w.heap.size w W ∧ w.heap.size + 1 ≤ W.heap.size) (first | assumption | (refine ⟨?_, (((Below.refl _ _).alloc (Nat.le_refl _) _).alloc (by simp) _).drew, by first | (simp; done) | (simp; omega) | omega⟩ <;> go_keep) | (obtain ⟨x0, xb, xs⟩ := ‹_ ∧ _›; first | exact ⟨keepd x0 (Below.alloc (Below.refl (w.heap.size + 1) _) xs _) (by omega), Below.trans xb (Below.mono (Below.alloc (Below.refl (w.heap.size + 1) _) xs _) (by omega)), Nat.le_trans xs (Below.size (Below.alloc (Below.refl (w.heap.size + 1) _) xs _))⟩ | exact ⟨keepd x0 (Below.mono (B' := w.heap.size + 1) (by assumption) xs) (by omega), Below.trans xb (Below.mono (Below.mono (B' := w.heap.size + 1) (by assumption) xs) (by omega)), Nat.le_trans xs (Below.size (Below.mono (B' := w.heap.size + 1) (by assumption) xs))⟩ | exact ⟨keepd x0 (hgst) (by omega), Below.trans xb (Below.mono (hgst) (by omega)), Nat.le_trans xs (Below.size (hgst))⟩ | exact ⟨keepd x0 (Below.setCell (Below.refl (w.heap.size + 1) _) (by first | (simp; done) | (simp; omega)) _) (by omega), Below.trans xb (Below.mono (Below.setCell (Below.refl (w.heap.size + 1) _) (by first | (simp; done) | (simp; omega)) _) (by omega)), Nat.le_trans xs (Below.size (Below.setCell (Below.refl (w.heap.size + 1) _) (by first | (simp; done) | (simp; omega)) _))⟩ | exact ⟨keepd x0 (Below.setCell (Below.setCell (Below.setCell (Below.setCell (Below.refl (w.heap.size + 1) _) (by first | (simp; done) | (simp; omega)) _) (by first | (simp; done) | (simp; omega)) _) (by first | (simp; done) | (simp; omega)) _) (by first | (simp; done) | (simp; omega)) _) (by omega), Below.trans xb (Below.mono (Below.setCell (Below.setCell (Below.setCell (Below.setCell (Below.refl (w.heap.size + 1) _) (by first | (simp; done) | (simp; omega)) _) (by first | (simp; done) | (simp; omega)) _) (by first | (simp; done) | (simp; omega)) _) (by first | (simp; done) | (simp; omega)) _) (by omega)), Nat.le_trans xs (Below.size (Below.setCell (Below.setCell (Below.setCell (Below.setCell (Below.refl (w.heap.size + 1) _) (by first | (simp; done) | (simp; omega)) _) (by first | (simp; done) | (simp; omega)) _) (by first | (simp; done) | (simp; omega)) _) (by first | (simp; done) | (simp; omega)) _))⟩)) (first |fail)
  go_wp2_with fail
  have e1 : IntKind.i64.wrap (i.tdiv f.sectors) = i / f.sectors := by rw [Int.tdiv_eq_ediv_of_nonneg h1]; exact hq
  have e2 : i.tmod f.sectors = i % f.sectors := Int.tmod_eq_emod_of_nonneg h1
  rw [e1, e2]
  exact bodyPost_ret (v := .agg #[.int .i64 (i / f.sectors), .int .i64 (i % f.sectors)]) (by simp [results, Tryz.results58, go_sem]) rfl ⟨rfl, (((Below.refl _ _).alloc (Nat.le_refl _) _).alloc (by simp) _).drew⟩

end Go.Proofs.YtpejcdjgggcjlaaGreatDoor

/- Which strokes cover a cell. -/
import Derived.Test.YtfafjojoapcliaaQ2
namespace Go.Proofs.Ytfafjojoapcliaa
open Go.RowKit

set_option maxHeartbeats 4000000 in
theorem strokesOver_c (t : Tk) (i : Nat) (v : Value) (w : World) (h : IsTask w w.heap.size v t) (hs : szB t = true) (hi : i < t.need.length) (fr to : Int) (hfr : (if 0 < (i : Int) - t.wide + 1 then (i : Int) - t.wide + 1 else 0) = fr) (hto : (if firsts t < (i : Int) + 1 then firsts t else (i : Int) + 1) = to) :
    Calls Try.prog 64 #[v, .int .i64 (i : Int)] w fun e w' => e = .returned (.tuple #[.int .i64 fr, .int .i64 to]) ∧ Below w.heap.size w w' := by
  have hT := h
  obtain ⟨s, rfl, A, c, rfl, hcap, hcell⟩ := h
  have Hs := Lib.hid hs
  rw [szB_iff] at hs
  have HT : ∀ o : Obj, IsTask (w.alloc o).drew (w.alloc o).drew.heap.size (.agg #[.int .i64 t.wide, .slice A t.need.length c]) t := fun o => hT.mono (((Below.refl _ _).alloc (Nat.le_refl _) o).drew) (by simp)
  have HT2 := Lib.hid HT
  clear HT hT
  have w1 : IntKind.i64.wrap ((i : Int) - t.wide) = (i : Int) - t.wide := wrap_id (by omega) (by omega)
  have w2 : IntKind.i64.wrap ((i : Int) - t.wide + 1) = (i : Int) - t.wide + 1 := wrap_id (by omega) (by omega)
  have w3 : IntKind.i64.wrap ((i : Int) + 1) = (i : Int) + 1 := wrap_id (by omega) (by omega)
  clear hcell hs hi
  go_enter Try.func64, Try.ntmps64
  go_wp2_with fail
  go_region_held3 (fun W => W.cell? ⟨(w.heap.size), 0, none⟩ = some (.int .i64 t.wide) ∧ W.cell? ⟨(w.heap.size), 1, none⟩ = some (.slice A t.need.length c) ∧ Below w.heap.size w W ∧ w.heap.size + 1 ≤ W.heap.size) (first | assumption | (refine ⟨?_, ?_, ((Below.refl _ _).alloc (Nat.le_refl _) _).drew, by first | (simp; done) | (simp; omega) | omega⟩ <;> go_keep) | (obtain ⟨x0, x1, xb, xs⟩ := ‹_ ∧ _›; first | exact ⟨keepd x0 (Below.alloc (Below.refl (w.heap.size + 1) _) xs _) (by omega), keepd x1 (Below.alloc (Below.refl (w.heap.size + 1) _) xs _) (by omega), Below.trans xb (Below.mono (Below.alloc (Below.refl (w.heap.size + 1) _) xs _) (by omega)), Nat.le_trans xs (Below.size (Below.alloc (Below.refl (w.heap.size + 1) _) xs _))⟩ | exact ⟨keepd x0 (Below.mono (B' := w.heap.size + 1) (by assumption) xs) (by omega), keepd x1 (Below.mono (B' := w.heap.size + 1) (by assumption) xs) (by omega), Below.trans xb (Below.mono (Below.mono (B' := w.heap.size + 1) (by assumption) xs) (by omega)), Nat.le_trans xs (Below.size (Below.mono (B' := w.heap.size + 1) (by assumption) xs))⟩ | exact ⟨keepd x0 (hgst) (by omega), keepd x1 (hgst) (by omega), Below.trans xb (Below.mono (hgst) (by omega)), Nat.le_trans xs (Below.size (hgst))⟩ | exact ⟨keepd x0 (Below.setCell (Below.refl (w.heap.size + 1) _) (by first | (simp; done) | (simp; omega)) _) (by omega), keepd x1 (Below.setCell (Below.refl (w.heap.size + 1) _) (by first | (simp; done) | (simp; omega)) _) (by omega), Below.trans xb (Below.mono (Below.setCell (Below.refl (w.heap.size + 1) _) (by first | (simp; done) | (simp; omega)) _) (by omega)), Nat.le_trans xs (Below.size (Below.setCell (Below.refl (w.heap.size + 1) _) (by first | (simp; done) | (simp; omega)) _))⟩ | exact ⟨keepd x0 (Below.setCell (Below.setCell (Below.setCell (Below.setCell (Below.refl (w.heap.size + 1) _) (by first | (simp; done) | (simp; omega)) _) (by first | (simp; done) | (simp; omega)) _) (by first | (simp; done) | (simp; omega)) _) (by first | (simp; done) | (simp; omega)) _) (by omega), keepd x1 (Below.setCell (Below.setCell (Below.setCell (Below.setCell (Below.refl (w.heap.size + 1) _) (by first | (simp; done) | (simp; omega)) _) (by first | (simp; done) | (simp; omega)) _) (by first | (simp; done) | (simp; omega)) _) (by first | (simp; done) | (simp; omega)) _) (by omega), Below.trans xb (Below.mono (Below.setCell (Below.setCell (Below.setCell (Below.setCell (Below.refl (w.heap.size + 1) _) (by first | (simp; done) | (simp; omega)) _) (by first | (simp; done) | (simp; omega)) _) (by first | (simp; done) | (simp; omega)) _) (by first | (simp; done) | (simp; omega)) _) (by omega)), Nat.le_trans xs (Below.size (Below.setCell (Below.setCell (Below.setCell (Below.setCell (Below.refl (w.heap.size + 1) _) (by first | (simp; done) | (simp; omega)) _) (by first | (simp; done) | (simp; omega)) _) (by first | (simp; done) | (simp; omega)) _) (by first | (simp; done) | (simp; omega)) _))⟩)) (first | (go_at_call 31; refine (firstCells_c t _ _ (HT2.out _) Hs.out).mono ?_; rintro e w2 ⟨rfl, hbq⟩))
  all_goals
    obtain ⟨-, -, xb, -⟩ := ‹_ ∧ _ ∧ _ ∧ _›
    go_wp2_with fail
    go_ret2
    exact ⟨rfl, xb⟩

/-- the cells that have the strokes of a task's plan: how many there are -/
theorem firsts_nat {t : Tk} (hs : szB t = true) : ∃ W m : Nat, t.wide = (W : Int) ∧ firsts t = (m : Int) ∧ 1 ≤ W ∧ m + W = t.need.length + 1 ∧ 1 ≤ m ∧ t.need.length ≤ 400 := by
  rw [szB_iff] at hs
  exact ⟨t.wide.toNat, (firsts t).toNat, by omega, by unfold firsts; omega, by omega, by unfold firsts; omega, by unfold firsts; omega, by omega⟩
theorem strokesOver_n (t : Tk) (i W m : Nat) (hW : t.wide = (W : Int)) (hm : firsts t = (m : Int)) (v : Value) (w : World) (h : IsTask w w.heap.size v t) (hs : szB t = true) (hi : i < t.need.length) :
    Calls Try.prog 64 #[v, .int .i64 (i : Int)] w fun e w' => e = .returned (.tuple #[.int .i64 ((i + 1 - W : Nat) : Int), .int .i64 ((min (i + 1) m : Nat) : Int)]) ∧ Below w.heap.size w w' :=
  strokesOver_c t i v w h hs hi _ _ (by rw [hW]; split <;> omega) (by rw [hm]; split <;> omega)

def okPlan (t : Tk) (p : List Int) : Bool := decide ((p.length : Int) = firsts t) && cntB p 100000
/-- the number that is told of a task and a plan -/
def covE (t : Tk) (p : List Int) : Int := if taskB t = true then (if okPlan t p = true then 0 else 52) else 50
def covR (t : Tk) (p : List Int) : List Int := if taskB t = true ∧ okPlan t p = true then covL p t.wide.toNat t.need.length else []
/-- a list of numbers comes back, and an error's number -/
def RetL (w : World) (l : List Int) (n : Int) (e : Ending) (w' : World) : Prop := ∃ s, e = .returned (.tuple #[s, .int .i64 n]) ∧ Ints w' w'.heap.size s l ∧ Below w.heap.size w w'
theorem ints_nil (w : World) (B : Nat) : Ints w B (.slice none 0 0) [] := ⟨by simp, none, 0, rfl, Nat.le_refl _, fun h => by simp at h⟩
theorem covE_task {t : Tk} {p : List Int} (h : taskB t = false) : covE t p = 50 ∧ covR t p = [] ∧ tkE t = 50 := by
  unfold covE covR tkE; rw [h]; simp
theorem covE_plan {t : Tk} {p : List Int} (h : taskB t = true) (hp : okPlan t p = false) : covE t p = 52 ∧ covR t p = [] ∧ tkE t = 0 := by
  unfold covE covR tkE; rw [h, hp]; simp
theorem covE_ok {t : Tk} {p : List Int} (h : taskB t = true) (hp : okPlan t p = true) : covE t p = 0 ∧ covR t p = covL p t.wide.toNat t.need.length ∧ tkE t = 0 := by
  unfold covE covR tkE; rw [h, hp]; simp
theorem taskB_sz {t : Tk} (h : taskB t = true) : szB t = true := by unfold taskB at h; simp at h; exact h.1


end Go.Proofs.Ytfafjojoapcliaa

/- The walk of cutFurrow. -/
import Derived.Test.YtpejcdjgggcjlaaGreatDoorB2
import Derived.Test.YtpejcdjgggcjlaaGreatDoorA4
namespace Go.Proofs.YtpejcdjgggcjlaaGreatDoor
open Go.RowKit

/-- a cell that is land gets a kind -/
def paint (l : List Int) (i : Nat) (kd : Int) : List Int := if nth l i = 0 then l.set i kd else l
/-- the first cells of a furrow in a ring -/
def cutRow (S : Int) (x : Fw) (r b : Int) (l : List Int) : Nat → List Int
  | 0 => l
  | n + 1 => paint (cutRow S x r b l n) (r * S + rnd (b + n) S).toNat (if x.steep ≤ (n : Int) then 2 else 1)
/-- where a furrow begins in a ring -/
def begin_ (R : Int) (x : Fw) (start r : Int) : Int := start + x.at_ + flr ((R - 1 - r) * x.lean) x.leans
/-- the first rings of a furrow -/
def cutTo (R S : Int) (x : Fw) (start : Int) (l : List Int) : Nat → List Int
  | 0 => l
  | k + 1 => cutRow S x (x.from_ + k) (begin_ R x start (x.from_ + k)) (cutTo R S x start l k) (x.steep + x.feather).toNat
/-- a furrow is cut -/
def cutF (R S : Int) (x : Fw) (start : Int) (l : List Int) : List Int := cutTo R S x start l (R - x.from_).toNat
theorem paint_len (l : List Int) (i : Nat) (kd : Int) : (paint l i kd).length = l.length := by unfold paint; split <;> simp
theorem cutRow_len (S : Int) (x : Fw) (r b : Int) (l : List Int) (n : Nat) : (cutRow S x r b l n).length = l.length := by
  induction n with
  | zero => rfl
  | succ n ih => rw [cutRow, paint_len, ih]
theorem cutTo_len (R S : Int) (x : Fw) (start : Int) (l : List Int) (n : Nat) : (cutTo R S x start l n).length = l.length := by
  induction n with
  | zero => rfl
  | succ n ih => rw [cutTo, cutRow_len, ih]
theorem nth_set (l : List Int) (i : Nat) (x : Int) (h : i < l.length) : nth (l.set i x) i = x := by simp [nth, h]
theorem ints_set (l : List Int) (i : Nat) (x : Int) : ints (l.set i x) = (ints l).set i (.int .i64 x) := by simp [ints, List.map_set]

theorem gb_later {a w w' : World} {row : Option Nat} (h : a.grownBy w row) (hb : Below w.heap.size w w') : a.grownBy w' row :=
  ⟨hb.os.trans h.os, hb.tape.trans h.tape, hb.output.trans h.output, Nat.le_trans h.size hb.size, fun i hi hn => (hb.block i (Nat.lt_of_lt_of_le hi h.size)).trans (h.block i hi hn)⟩
theorem gb_put {a w : World} {g i : Nat} (h : a.grownBy w (some g)) (u : Value) : a.grownBy (w.setCell ⟨g, i, none⟩ u) (some g) :=
  ⟨h.os, h.tape, h.output, by simpa [World.setCell] using h.size, fun j hj hn => (Below.heap_setCell w _ u j (fun e => hn (by rw [e]))).trans (h.block j hj hn)⟩

/-- what memory looks like while a furrow is cut -/
structure CutSt (w wr : World) (eye R S : Int) (x : Fw) (g base n cap : Nat) (l : List Int) : Prop where
  b0 : Box wr w.heap.size 24 #[.int .i64 eye, .int .i64 R, .int .i64 S, .slice (some ⟨g, 0, none⟩) n cap]
  b1 : Box wr (w.heap.size + 1) 59 #[.int .i64 x.at_, .int .i64 x.from_, .int .i64 x.lean, .int .i64 x.leans, .int .i64 x.steep, .int .i64 x.feather]
  own : wr.ownsRow base 3 1 (.slice (some ⟨g, 0, none⟩) n cap) n (ints l)
  gr : w.grownBy wr (some g)
  hg : g < w.heap.size
theorem CutSt.later {w wr W : World} {eye R S : Int} {x : Fw} {g base n cap : Nat} {l : List Int} (h : CutSt w wr eye R S x g base n cap l) (hb : Below wr.heap.size wr W) : CutSt w W eye R S x g base n cap l :=
  ⟨h.b0.later hb, h.b1.later hb, own_later h.own hb, gb_later h.gr hb, h.hg⟩
theorem CutSt.put {w wr : World} {eye R S : Int} {x : Fw} {g base n cap : Nat} {l : List Int} (h : CutSt w wr eye R S x g base n cap l) (i : Nat) (u : Int) : CutSt w (wr.setCell ⟨g, i, none⟩ (.int .i64 u)) eye R S x g base n cap (l.set i u) := by
  have hg := h.hg
  refine ⟨h.b0.far (by simp; omega) _, h.b1.far (by simp; omega) _, ?_, gb_put h.gr _, h.hg⟩
  rw [ints_set]
  exact (h.own.stored i _).1
theorem CutSt.cell {w wr : World} {eye R S : Int} {x : Fw} {g base n cap : Nat} {l : List Int} (h : CutSt w wr eye R S x g base n cap l) (i : Nat) (hi : i < n) (hl : l.length = n) : wr.cell? ⟨g, i, none⟩ = some (.int .i64 (nth l i)) := by
  rw [h.own.cellAt i (by omega)]
  unfold ints nth
  rw [List.getElem?_map, List.getD_eq_getElem?_getD, List.getElem?_eq_getElem (by omega)]
  rfl

/-- a furrow that fits a pattern has small numbers -/
theorem furB_bd {R W : Int} {x : Fw} (h : furB R W x = true) (hW : W ≤ 96) : (0 ≤ x.at_ ∧ x.at_ ≤ 95) ∧ (0 ≤ x.from_ ∧ x.from_ ≤ R - 1) ∧ (-96 ≤ x.lean ∧ x.lean ≤ 96) ∧ (1 ≤ x.leans ∧ x.leans ≤ 96) ∧ 1 ≤ x.steep ∧ 0 ≤ x.feather ∧ x.steep + x.feather ≤ 95 := by
  unfold furB at h
  simp only [Bool.and_eq_true, inB_iff, decide_eq_true_iff] at h
  omega
theorem mul_bd2 {a b : Int} (h1 : 0 ≤ a) (h2 : a ≤ 23) (h3 : -96 ≤ b) (h4 : b ≤ 96) : -2208 ≤ a * b ∧ a * b ≤ 2208 := by
  have e1 : a * b ≤ a * 96 := Int.mul_le_mul_of_nonneg_left h4 h1
  have e2 : a * (-96) ≤ a * b := Int.mul_le_mul_of_nonneg_left h3 h1
  omega
theorem flr_bd {a b : Int} (h1 : -2208 ≤ a) (h2 : a ≤ 2208) (hb : 1 ≤ b) : -2208 ≤ flr a b ∧ flr a b ≤ 2208 := by
  unfold flr
  constructor
  · exact Int.le_ediv_of_mul_le (by omega) (by have : -2208 * b ≤ -2208 * 1 := by omega
                                               omega)
  · have := Int.ediv_le_ediv (by omega : 0 < b) h2
    have h3 : (2208 : Int) / b ≤ 2208 := Int.ediv_le_self _ (by omega)
    omega

set_option maxRecDepth 100000 in
set_option maxHeartbeats 4000000 in
theorem cutFurrow_c (eye R S W : Int) (x : Fw) (start : Int) (g base n cap : Nat) (l : List Int) (w : World) (hR1 : 1 ≤ R) (hR2 : R ≤ 24) (hS1 : 1 ≤ S) (hS2 : S ≤ 96) (hW : W ≤ 96) (hx : furB R W x = true)
    (hs1 : 0 ≤ start) (hs2 : start ≤ 9216) (hown : w.ownsRow base 3 1 (.slice (some ⟨g, 0, none⟩) n cap) n (ints l)) (hg : g < w.heap.size) (hn : (n : Int) = R * S) (hl : l.length = n) :
    Calls Tryz.prog 72 #[.agg #[.int .i64 eye, .int .i64 R, .int .i64 S, .slice (some ⟨g, 0, none⟩) n cap], .agg #[.int .i64 x.at_, .int .i64 x.from_, .int .i64 x.lean, .int .i64 x.leans, .int .i64 x.steep, .int .i64 x.feather], .int .i64 start] w
      fun e w' => e = .returned (.tuple #[]) ∧ w'.ownsRow base 3 1 (.slice (some ⟨g, 0, none⟩) n cap) n (ints (cutF R S x start l)) ∧ w.grownBy w' (some g) := by
  obtain ⟨⟨a1, a2⟩, ⟨a3, a4⟩, ⟨a5, a6⟩, ⟨a7, a8⟩, a9, a10, a11⟩ := furB_bd hx hW
  obtain ⟨K, hK⟩ := Int.eq_ofNat_of_zero_le (show 0 ≤ R - x.from_ by omega)
  have HK := Lib.hid (show cutF R S x start l = cutTo R S x start l K by unfold cutF; rw [hK]; rfl)
  have hK1 : (K : Int) ≤ R - x.from_ := by omega
  have hK2 : R - x.from_ ≤ (K : Int) := by omega
  have Hn := Lib.hid hn
  have Hl := Lib.hid hl
  clear hK hx hn hl
  have hst0 : CutSt w ((w.alloc (.cells #[.int .i64 eye, .int .i64 R, .int .i64 S, .slice (some ⟨g, 0, none⟩) n cap] 24)).alloc (.cells #[.int .i64 x.at_, .int .i64 x.from_, .int .i64 x.lean, .int .i64 x.leans, .int .i64 x.steep, .int .i64 x.feather] 59)) eye R S x g base n cap l := by
    have e1 := Box.made (w.alloc (.cells #[.int .i64 eye, .int .i64 R, .int .i64 S, .slice (some ⟨g, 0, none⟩) n cap] 24)) 59 #[.int .i64 x.at_, .int .i64 x.from_, .int .i64 x.lean, .int .i64 x.leans, .int .i64 x.steep, .int .i64 x.feather]
    rw [World.size_alloc] at e1
    exact ⟨(Box.made _ _ _).alloc _, e1, (hown.alloc _).alloc _, gb_later (gb_later (World.grownBy.refl _ _) ((Below.refl _ _).alloc (Nat.le_refl _) _)) ((Below.refl _ _).alloc (Nat.le_refl _) _), hg⟩
  go_enter Tryz.func72, Tryz.ntmps72
  go_wp2_with fail
  go_loopw [6] (fun i wr => ∃ k : Nat, k ≤ K ∧ i = .int .i64 (x.from_ + (k : Int)) ∧ CutSt w wr eye R S x g base n cap (cutTo R S x start l k)) (fun i _ => (R - intOf i).toNat)
  case atStart => exact ⟨0, Nat.zero_le _, by simp, hst0⟩
  case round =>
    clear hst0
    obtain ⟨k, hk, rfl, hst⟩ := hrel
    have k1 : wr.cell? ⟨w.heap.size, 1, none⟩ = some (.int .i64 R) := hst.b0.cell 1
    by_cases hlt : k < K
    · have y0 : wr.cell? ⟨w.heap.size + 1, 0, none⟩ = some (.int .i64 x.at_) := hst.b1.cell 0
      have y2 : wr.cell? ⟨w.heap.size + 1, 2, none⟩ = some (.int .i64 x.lean) := hst.b1.cell 2
      have y3 : wr.cell? ⟨w.heap.size + 1, 3, none⟩ = some (.int .i64 x.leans) := hst.b1.cell 3
      have y4 : wr.cell? ⟨w.heap.size + 1, 4, none⟩ = some (.int .i64 x.steep) := hst.b1.cell 4
      have y5 : wr.cell? ⟨w.heap.size + 1, 5, none⟩ = some (.int .i64 x.feather) := hst.b1.cell 5
      obtain ⟨p1, p2⟩ := mul_bd2 (a := R - 1 - (x.from_ + (k : Int))) (b := x.lean) (by omega) (by omega) a5 a6
      obtain ⟨p3, p4⟩ := flr_bd p1 p2 a7
      have hB1 := hst.b1.lt
      have w1 := wrap_id (n := start + x.at_) (by omega) (by omega)
      have w2 := wrap_id (n := (R - 1 - (x.from_ + (k : Int))) * x.lean) (by omega) (by omega)
      have w3 := wrap_id (n := start + x.at_ + flr ((R - 1 - (x.from_ + (k : Int))) * x.lean) x.leans) (by omega) (by omega)
      go_wp2_with fail
      go_region_held3 (fun W => W.cell? ⟨(w.heap.size + 1), 0, none⟩ = some (.int .i64 x.at_) ∧ W.cell? ⟨(w.heap.size + 1), 2, none⟩ = some (.int .i64 x.lean) ∧ W.cell? ⟨(w.heap.size + 1), 3, none⟩ = some (.int .i64 x.leans) ∧ Below wr.heap.size wr W ∧ wr.heap.size ≤ W.heap.size) (first | assumption | (refine ⟨?_, ?_, ?_, (Below.refl _ _).drew, by first | (simp; done) | (simp; omega) | omega⟩ <;> go_keep) | (obtain ⟨x0, x1, x2, xb, xs⟩ := ‹_ ∧ _›; first | exact ⟨keepd x0 (Below.alloc (Below.refl (wr.heap.size) _) xs _) (by omega), keepd x1 (Below.alloc (Below.refl (wr.heap.size) _) xs _) (by omega), keepd x2 (Below.alloc (Below.refl (wr.heap.size) _) xs _) (by omega), Below.trans xb (Below.mono (Below.alloc (Below.refl (wr.heap.size) _) xs _) (by omega)), Nat.le_trans xs (Below.size (Below.alloc (Below.refl (wr.heap.size) _) xs _))⟩ | exact ⟨keepd x0 (Below.mono (B' := wr.heap.size) (by assumption) xs) (by omega), keepd x1 (Below.mono (B' := wr.heap.size) (by assumption) xs) (by omega), keepd x2 (Below.mono (B' := wr.heap.size) (by assumption) xs) (by omega), Below.trans xb (Below.mono (Below.mono (B' := wr.heap.size) (by assumption) xs) (by omega)), Nat.le_trans xs (Below.size (Below.mono (B' := wr.heap.size) (by assumption) xs))⟩ | exact ⟨keepd x0 (hgst) (by omega), keepd x1 (hgst) (by omega), keepd x2 (hgst) (by omega), Below.trans xb (Below.mono (hgst) (by omega)), Nat.le_trans xs (Below.size (hgst))⟩ | exact ⟨keepd x0 (Below.setCell (Below.refl (wr.heap.size) _) (by first | (simp; done) | (simp; omega)) _) (by omega), keepd x1 (Below.setCell (Below.refl (wr.heap.size) _) (by first | (simp; done) | (simp; omega)) _) (by omega), keepd x2 (Below.setCell (Below.refl (wr.heap.size) _) (by first | (simp; done) | (simp; omega)) _) (by omega), Below.trans xb (Below.mono (Below.setCell (Below.refl (wr.heap.size) _) (by first | (simp; done) | (simp; omega)) _) (by omega)), Nat.le_trans xs (Below.size (Below.setCell (Below.refl (wr.heap.size) _) (by first | (simp; done) | (simp; omega)) _))⟩ | exact ⟨keepd x0 (Below.setCell (Below.setCell (Below.setCell (Below.setCell (Below.refl (wr.heap.size) _) (by first | (simp; done) | (simp; omega)) _) (by first | (simp; done) | (simp; omega)) _) (by first | (simp; done) | (simp; omega)) _) (by first | (simp; done) | (simp; omega)) _) (by omega), keepd x1 (Below.setCell (Below.setCell (Below.setCell (Below.setCell (Below.refl (wr.heap.size) _) (by first | (simp; done) | (simp; omega)) _) (by first | (simp; done) | (simp; omega)) _) (by first | (simp; done) | (simp; omega)) _) (by first | (simp; done) | (simp; omega)) _) (by omega), keepd x2 (Below.setCell (Below.setCell (Below.setCell (Below.setCell (Below.refl (wr.heap.size) _) (by first | (simp; done) | (simp; omega)) _) (by first | (simp; done) | (simp; omega)) _) (by first | (simp; done) | (simp; omega)) _) (by first | (simp; done) | (simp; omega)) _) (by omega), Below.trans xb (Below.mono (Below.setCell (Below.setCell (Below.setCell (Below.setCell (Below.refl (wr.heap.size) _) (by first | (simp; done) | (simp; omega)) _) (by first | (simp; done) | (simp; omega)) _) (by first | (simp; done) | (simp; omega)) _) (by first | (simp; done) | (simp; omega)) _) (by omega)), Nat.le_trans xs (Below.size (Below.setCell (Below.setCell (Below.setCell (Below.setCell (Below.refl (wr.heap.size) _) (by first | (simp; done) | (simp; omega)) _) (by first | (simp; done) | (simp; omega)) _) (by first | (simp; done) | (simp; omega)) _) (by first | (simp; done) | (simp; omega)) _))⟩)) (first | (go_at_call 84; refine (floorDiv_c _ _ _ a7 (by omega) (by omega)).mono ?_; rintro e w' ⟨rfl, rfl⟩))
      clear w1 w2 w3
      have hst' : CutSt w wr.drew eye R S x g base n cap (cutTo R S x start l k) := hst.later ((Below.refl _ _).drew)
      have hbd : -3000 ≤ start + x.at_ + flr ((R - 1 - (x.from_ + (k : Int))) * x.lean) x.leans ∧ start + x.at_ + flr ((R - 1 - (x.from_ + (k : Int))) * x.lean) x.leans ≤ 12000 := by omega
      generalize hb : start + x.at_ + flr ((R - 1 - (x.from_ + (k : Int))) * x.lean) x.leans = b at hbd ⊢
      obtain ⟨b1, b2⟩ := hbd
      obtain ⟨N, hN⟩ := Int.eq_ofNat_of_zero_le (show 0 ≤ x.steep + x.feather by omega)
      have Hnext := Lib.hid (show cutTo R S x start l (k + 1) = cutRow S x (x.from_ + k) b (cutTo R S x start l k) N by
        rw [cutTo, begin_, hb, hN]; rfl)
      have hN1 : (N : Int) ≤ x.steep + x.feather := by omega
      have hN2 : x.steep + x.feather ≤ (N : Int) := by omega
      clear hb hN y0 y2 y3 p1 p2 p3 p4
      have hkR : x.from_ + (k : Int) < R := by omega
      have hdk : decide (x.from_ + (k : Int) < R) = true := by rw [decide_eq_true_iff]; omega
      go_wp2_with fail
      clear y4 y5 k1
      obtain ⟨wo, rfl⟩ : ∃ wo : World, wo = wr := ⟨_, rfl⟩
      go_loopw [41] (fun i wr => ∃ m : Nat, m ≤ N ∧ i = .int .i64 (m : Int) ∧ CutSt w wr eye R S x g base n cap (cutRow S x (x.from_ + k) b (cutTo R S x start l k) m)) (fun i _ => N - (intOf i).toNat)
      case atStart => exact ⟨0, Nat.zero_le _, rfl, hst'⟩
      case round =>
        clear hst hst'
        obtain ⟨m, hm, rfl, hst⟩ := hrel
        by_cases hmt : m < N
        · have hdm : decide ((m : Int) < x.steep + x.feather) = true := by rw [decide_eq_true_iff]; omega
          have k0 : wr.cell? ⟨w.heap.size, 0, none⟩ = some (.int .i64 eye) := hst.b0.cell 0
          have k1 : wr.cell? ⟨w.heap.size, 1, none⟩ = some (.int .i64 R) := hst.b0.cell 1
          have k2 : wr.cell? ⟨w.heap.size, 2, none⟩ = some (.int .i64 S) := hst.b0.cell 2
          have k3 : wr.cell? ⟨w.heap.size, 3, none⟩ = some (.slice (some ⟨g, 0, none⟩) n cap) := hst.b0.cell 3
          have hB1 := hst.b1.lt
          have w1 := wrap_id (n := b + (m : Int)) (by omega) (by omega)
          obtain ⟨r1, r2⟩ := rnd_bd (a := b + (m : Int)) (s := S) (by omega)
          obtain ⟨i1, i2⟩ : 0 ≤ (x.from_ + (k : Int)) * S + rnd (b + (m : Int)) S ∧ (x.from_ + (k : Int)) * S + rnd (b + (m : Int)) S < n := by
            have m1 : 0 ≤ (x.from_ + (k : Int)) * S := Int.mul_nonneg (by omega) (by omega)
            have m2 : (x.from_ + (k : Int)) * S ≤ (R - 1) * S := Int.mul_le_mul_of_nonneg_right (by omega) (by omega)
            have m3 : (R - 1) * S = R * S - S := by rw [Int.sub_mul]; omega
            have := Hn.out
            omega
          obtain ⟨I, hI⟩ := Int.eq_ofNat_of_zero_le i1
          have HI := Lib.hid hI
          have hI3 : I < n := by omega
          clear hI i1 i2
          go_wp2_with fail
          go_region_held3 (fun W => W.cell? ⟨(w.heap.size), 0, none⟩ = some (.int .i64 eye) ∧ W.cell? ⟨(w.heap.size), 1, none⟩ = some (.int .i64 R) ∧ W.cell? ⟨(w.heap.size), 2, none⟩ = some (.int .i64 S) ∧ W.cell? ⟨(w.heap.size), 3, none⟩ = some (.slice (some ⟨g, 0, none⟩) n cap) ∧ Below wr.heap.size wr W ∧ wr.heap.size ≤ W.heap.size) (first | assumption | (refine ⟨?_, ?_, ?_, ?_, (Below.refl _ _).drew, by first | (simp; done) | (simp; omega) | omega⟩ <;> go_keep) | (obtain ⟨x0, x1, x2, x3, xb, xs⟩ := ‹_ ∧ _›; first | exact ⟨keepd x0 (Below.alloc (Below.refl (wr.heap.size) _) xs _) (by omega), keepd x1 (Below.alloc (Below.refl (wr.heap.size) _) xs _) (by omega), keepd x2 (Below.alloc (Below.refl (wr.heap.size) _) xs _) (by omega), keepd x3 (Below.alloc (Below.refl (wr.heap.size) _) xs _) (by omega), Below.trans xb (Below.mono (Below.alloc (Below.refl (wr.heap.size) _) xs _) (by omega)), Nat.le_trans xs (Below.size (Below.alloc (Below.refl (wr.heap.size) _) xs _))⟩ | exact ⟨keepd x0 (Below.mono (B' := wr.heap.size) (by assumption) xs) (by omega), keepd x1 (Below.mono (B' := wr.heap.size) (by assumption) xs) (by omega), keepd x2 (Below.mono (B' := wr.heap.size) (by assumption) xs) (by omega), keepd x3 (Below.mono (B' := wr.heap.size) (by assumption) xs) (by omega), Below.trans xb (Below.mono (Below.mono (B' := wr.heap.size) (by assumption) xs) (by omega)), Nat.le_trans xs (Below.size (Below.mono (B' := wr.heap.size) (by assumption) xs))⟩ | exact ⟨keepd x0 (hgst) (by omega), keepd x1 (hgst) (by omega), keepd x2 (hgst) (by omega), keepd x3 (hgst) (by omega), Below.trans xb (Below.mono (hgst) (by omega)), Nat.le_trans xs (Below.size (hgst))⟩ | exact ⟨keepd x0 (Below.setCell (Below.refl (wr.heap.size) _) (by first | (simp; done) | (simp; omega)) _) (by omega), keepd x1 (Below.setCell (Below.refl (wr.heap.size) _) (by first | (simp; done) | (simp; omega)) _) (by omega), keepd x2 (Below.setCell (Below.refl (wr.heap.size) _) (by first | (simp; done) | (simp; omega)) _) (by omega), keepd x3 (Below.setCell (Below.refl (wr.heap.size) _) (by first | (simp; done) | (simp; omega)) _) (by omega), Below.trans xb (Below.mono (Below.setCell (Below.refl (wr.heap.size) _) (by first | (simp; done) | (simp; omega)) _) (by omega)), Nat.le_trans xs (Below.size (Below.setCell (Below.refl (wr.heap.size) _) (by first | (simp; done) | (simp; omega)) _))⟩ | exact ⟨keepd x0 (Below.setCell (Below.setCell (Below.setCell (Below.setCell (Below.refl (wr.heap.size) _) (by first | (simp; done) | (simp; omega)) _) (by first | (simp; done) | (simp; omega)) _) (by first | (simp; done) | (simp; omega)) _) (by first | (simp; done) | (simp; omega)) _) (by omega), keepd x1 (Below.setCell (Below.setCell (Below.setCell (Below.setCell (Below.refl (wr.heap.size) _) (by first | (simp; done) | (simp; omega)) _) (by first | (simp; done) | (simp; omega)) _) (by first | (simp; done) | (simp; omega)) _) (by first | (simp; done) | (simp; omega)) _) (by omega), keepd x2 (Below.setCell (Below.setCell (Below.setCell (Below.setCell (Below.refl (wr.heap.size) _) (by first | (simp; done) | (simp; omega)) _) (by first | (simp; done) | (simp; omega)) _) (by first | (simp; done) | (simp; omega)) _) (by first | (simp; done) | (simp; omega)) _) (by omega), keepd x3 (Below.setCell (Below.setCell (Below.setCell (Below.setCell (Below.refl (wr.heap.size) _) (by first | (simp; done) | (simp; omega)) _) (by first | (simp; done) | (simp; omega)) _) (by first | (simp; done) | (simp; omega)) _) (by first | (simp; done) | (simp; omega)) _) (by omega), Below.trans xb (Below.mono (Below.setCell (Below.setCell (Below.setCell (Below.setCell (Below.refl (wr.heap.size) _) (by first | (simp; done) | (simp; omega)) _) (by first | (simp; done) | (simp; omega)) _) (by first | (simp; done) | (simp; omega)) _) (by first | (simp; done) | (simp; omega)) _) (by omega)), Nat.le_trans xs (Below.size (Below.setCell (Below.setCell (Below.setCell (Below.setCell (Below.refl (wr.heap.size) _) (by first | (simp; done) | (simp; omega)) _) (by first | (simp; done) | (simp; omega)) _) (by first | (simp; done) | (simp; omega)) _) (by first | (simp; done) | (simp; omega)) _))⟩)) (first | (go_at_call 78; refine (round_c _ _ _ (by omega) (by omega)).mono ?_; rintro e w' ⟨rfl, rfl⟩) | (go_at_call 53; refine (indexOf_c ⟨eye, R, S, []⟩ _ _ _ _ (by omega) (by omega) (by omega) (by omega) (show (0 : Int) ≤ S by omega) (show S ≤ 96 by omega)).mono ?_; rintro e w2 ⟨rfl, hb2⟩; dsimp only; rw [HI.out]))
          obtain ⟨-, -, -, k3', xb, -⟩ := ‹_ ∧ _›
          have hst2 := hst.later xb
          have c2 := hst2.cell I hI3 (by rw [cutRow_len, cutTo_len]; exact Hl.out)
          have f2 := hst2.own.frozenAt I
          have y4 : w2.cell? ⟨w.heap.size + 1, 4, none⟩ = some (.int .i64 x.steep) := hst2.b1.cell 4
          clear k0 k1 k2 k3 w1 xb hb2
          cases hz : (nth (cutRow S x (x.from_ + k) b (cutTo R S x start l k) m) I != 0)
          · have hz0 : nth (cutRow S x (x.from_ + k) b (cutTo R S x start l k) m) I = 0 := by simpa using hz
            have hst3 := hst2.put I 1
            have y4b : (w2.setCell ⟨g, I, none⟩ (.int .i64 1)).cell? ⟨w.heap.size + 1, 4, none⟩ = some (.int .i64 x.steep) := hst3.b1.cell 4
            have k3b : (w2.setCell ⟨g, I, none⟩ (.int .i64 1)).cell? ⟨w.heap.size, 3, none⟩ = some (.slice (some ⟨g, 0, none⟩) n cap) := hst3.b0.cell 3
            have f3 := hst3.own.frozenAt I
            by_cases hs : x.steep ≤ (m : Int)
            · have Hp := Lib.hid (show cutRow S x (x.from_ + k) b (cutTo R S x start l k) (m + 1) = (cutRow S x (x.from_ + k) b (cutTo R S x start l k) m).set I 2 by
                rw [cutRow, paint, HI.out, Int.toNat_natCast, if_pos hz0, if_pos hs])
              have c3 : (w2.setCell ⟨g, I, none⟩ (.int .i64 1)).cell? ⟨g, I, none⟩ = some (.int .i64 1) := World.cell?_setCell_same' _ _ _ (by rw [c2]; rfl)
              have hst4 := hst3.put I 2
              rw [List.set_set] at hst4
              clear hst3 hz0
              go_wp2_with (go_at_call 85; refine (isFurrow_c _ _).mono ?_; rintro e w' ⟨rfl, rfl⟩)
              go_roundw
              case rel => exact ⟨m + 1, by omega, by go_num, by rw [Hp.out]; exact hst4⟩
              case measure => simp [intOf]; omega
            · have Hp := Lib.hid (show cutRow S x (x.from_ + k) b (cutTo R S x start l k) (m + 1) = (cutRow S x (x.from_ + k) b (cutTo R S x start l k) m).set I 1 by
                rw [cutRow, paint, HI.out, Int.toNat_natCast, if_pos hz0, if_neg hs])
              clear hz0
              go_wp2_with (go_at_call 85; refine (isFurrow_c _ _).mono ?_; rintro e w' ⟨rfl, rfl⟩)
              go_roundw
              case rel => exact ⟨m + 1, by omega, by go_num, by rw [Hp.out]; exact hst3⟩
              case measure => simp [intOf]; omega
          · have Hp := Lib.hid (show cutRow S x (x.from_ + k) b (cutTo R S x start l k) (m + 1) = cutRow S x (x.from_ + k) b (cutTo R S x start l k) m by
              rw [cutRow, paint, HI.out, Int.toNat_natCast, if_neg (by simpa using hz)])
            go_wp2_with (go_at_call 85; refine (isFurrow_c _ _).mono ?_; rintro e w' ⟨rfl, rfl⟩)
            go_roundw
            case rel => exact ⟨m + 1, by omega, by go_num, by rw [Hp.out]; exact hst2⟩
            case measure => simp [intOf]; omega
        · obtain rfl : m = N := by omega
          have hdm : decide ((m : Int) < x.steep + x.feather) = false := by rw [decide_eq_false_iff_not]; omega
          go_wp2_with fail
          go_roundw
          case rel => exact ⟨k + 1, by omega, by go_num, by rw [Hnext.out]; exact hst⟩
          case measure => simp [intOf]; omega
    · obtain rfl : k = K := by omega
      have hdk : decide (x.from_ + (k : Int) < R) = false := by rw [decide_eq_false_iff_not]; omega
      go_wp2_with fail
      go_end0
      exact ⟨rfl, by rw [HK.out]; exact hst.own, hst.gr⟩

end Go.Proofs.YtpejcdjgggcjlaaGreatDoor

/- StonesBeside: the walk. -/
import Derived.Test.YteajlfgnhjalnaaDoorE1
import Derived.Test.YteajlfgnhjalnaaDoorF1
import Derived.Test.YteajlfgnhjalnaaDoorH2
import Derived.Test.YteajlfgnhjalnaaDoorH3
namespace Go.Proofs.YteajlfgnhjalnaaDoor
open Go.RowKit

/-- the two arguments in their boxes -/
structure BdSt (w wr : World) (f : Fc) (s : Value) (r c : Int) : Prop where
  b0 : Box wr w.heap.size 28 #[.int .i64 f.eye, .int .i64 f.rings, .int .i64 f.sectors, s]
  b1 : Box wr (w.heap.size + 1) 41 #[.int .i64 r, .int .i64 c]
  bel : Below w.heap.size w wr
theorem BdSt.later {w wr W : World} {f : Fc} {s : Value} {r c : Int} (h : BdSt w wr f s r c) (hb : Below wr.heap.size wr W) : BdSt w W f s r c :=
  ⟨h.b0.later hb, h.b1.later hb, chain h.bel hb⟩

set_option maxRecDepth 100000 in
set_option maxHeartbeats 4000000 in
theorem StonesBeside_c (f : Fc) (v : Value) (r c : Int) (w : World) (hf : IsFace w w.heap.size v f) (hml : ML w) :
    Calls Tryd.prog 5 #[v, .agg #[.int .i64 r, .int .i64 c]] w fun e w' => e = .returned (.bool true) ∧ Below w.heap.size w w' := by
  have hF := hf
  obtain ⟨s, rfl, hlen, A, cp, rfl, hcap, hcell⟩ := hf
  clear hcell
  have h0 : BdSt w ((w.alloc (.cells #[.int .i64 f.eye, .int .i64 f.rings, .int .i64 f.sectors, .slice A f.kinds.length cp] 28)).alloc (.cells #[.int .i64 r, .int .i64 c] 41)) f (.slice A f.kinds.length cp) r c := by
    have b1 := Box.made (w.alloc (.cells #[.int .i64 f.eye, .int .i64 f.rings, .int .i64 f.sectors, .slice A f.kinds.length cp] 28)) 41 #[.int .i64 r, .int .i64 c]
    rw [World.size_alloc] at b1
    exact ⟨faceBox w f _ _, b1, ((Below.refl _ _).alloc (Nat.le_refl _) _).alloc (by simp) _⟩
  have hml2 := hml.later h0.bel
  have eqc := eqCell
  clear hml
  go_enter Tryd.func5, Tryd.ntmps5
  go_wp2_with fail
  refine (awake_c _ hml2).mono ?_; rintro e w1 ⟨rfl, hb1⟩
  have h1 := h0.later hb1
  clear h0 hb1 hml2
  have k0 : w1.cell? ⟨w.heap.size, 0, none⟩ = some (.int .i64 f.eye) := h1.b0.cell 0
  have k1 : w1.cell? ⟨w.heap.size, 1, none⟩ = some (.int .i64 f.rings) := h1.b0.cell 1
  have k2 : w1.cell? ⟨w.heap.size, 2, none⟩ = some (.int .i64 f.sectors) := h1.b0.cell 2
  have k3 : w1.cell? ⟨w.heap.size, 3, none⟩ = some (.slice A f.kinds.length cp) := h1.b0.cell 3
  go_wp2_with fail
  refine (short_c f _ w1 (hF.mono h1.bel h1.bel.size)).mono ?_; rintro e w2 ⟨rfl, hb2⟩
  have h2 := h1.later hb2
  clear k0 k1 k2 k3 hb2 h1
  cases hsh : decide (f.kinds.length ≤ 3000)
  · go_wp2_with fail
    go_ret
    exact ⟨rfl, h2.bel⟩
  clear hsh
  have k0 : w2.cell? ⟨w.heap.size, 0, none⟩ = some (.int .i64 f.eye) := h2.b0.cell 0
  have k1 : w2.cell? ⟨w.heap.size, 1, none⟩ = some (.int .i64 f.rings) := h2.b0.cell 1
  have k2 : w2.cell? ⟨w.heap.size, 2, none⟩ = some (.int .i64 f.sectors) := h2.b0.cell 2
  have k3 : w2.cell? ⟨w.heap.size, 3, none⟩ = some (.slice A f.kinds.length cp) := h2.b0.cell 3
  have k4 : w2.cell? ⟨w.heap.size + 1, 0, none⟩ = some (.int .i64 r) := h2.b1.cell 0
  have k5 : w2.cell? ⟨w.heap.size + 1, 1, none⟩ = some (.int .i64 c) := h2.b1.cell 1
  go_wp2_with fail
  refine (Neighbours_c f _ r c w2 (hF.mono h2.bel h2.bel.size)).mono ?_; rintro e w3 ⟨lv, rfl, hC, hb3⟩
  have h3 := h2.later hb3
  clear k0 k1 k2 k3 k4 k5 hb3 h2
  by_cases hk : ckCell f r c = 0
  · obtain ⟨hv, hin⟩ := ckCell_ok hk
    rw [hk, if_pos rfl] at hC
    rw [hk]
    have hS2 : 2 ≤ f.sectors := (validB_iff.1 hv).1.2.2.1
    obtain ⟨hl1, hl4⟩ := near_len f r c
    have hall : ∀ i, i < (nearL f r c).length → ckCell f (cth (nearL f r c) i).1 (cth (nearL f r c) i).2 = 0 ∧ amongB (nearL f (cth (nearL f r c) i).1 (cth (nearL f r c) i).2) (r, c) = true ∧ ((cth (nearL f r c) i).1 == r && (cth (nearL f r c) i).2 == c) = false := by
      intro i hi
      have hm := cth_mem hi
      refine ⟨?_, amongB_iff.2 (near_back hin hS2 hm), ?_⟩
      · have hx := near_cell hin hm
        unfold ckCell
        rw [if_pos hv, if_pos hx]
      · have hne := near_ne hin hS2 hm
        rw [Bool.eq_false_iff]
        intro e
        simp only [Bool.and_eq_true, beq_iff_eq] at e
        exact hne (Prod.ext e.1 e.2)
    have hlen2 : ∀ x y : Int, (nearL f x y).length ≤ 1000 := fun x y => Nat.le_trans (near_len f x y).2 (by omega)
    have Hall := Lib.hid hall
    have Hlen2 := Lib.hid hlen2
    clear hall hlen2 hk hin hv
    obtain ⟨L, hL⟩ : ∃ L, L = nearL f r c := ⟨_, rfl⟩
    rw [← hL] at hC Hall hl1 hl4
    clear hL
    obtain ⟨LA, lc, rfl, hlc, hlcell⟩ := hC
    have Hlcell := Lib.hid hlcell
    clear hlcell
    have e1 : decide ((1 : Int) ≤ (L.length : Int)) = true := by simp; omega
    have e2 : decide ((L.length : Int) ≤ 4) = true := by simp; omega
    go_wp2_with fail
    go_loopw [8] (fun iv wr => ∃ i : Nat, i ≤ L.length ∧ iv = .int .i64 (i : Int) ∧ Below w3.heap.size w3 wr) (fun iv _ => L.length - (intOf iv).toNat)
    case atStart => exact ⟨0, Nat.zero_le _, rfl, Below.refl _ _⟩
    case round =>
      obtain ⟨i, hi, rfl, hbr⟩ := hrel
      have hr := h3.later hbr
      clear h3
      by_cases hlt : i < L.length
      · obtain ⟨hck, hbk, hne⟩ := Hall.out i hlt
        obtain ⟨b, off, rfl, hbB, hcc⟩ := Hlcell.out (by omega)
        obtain ⟨hx, hy⟩ := hcc i hlt
        have hx := keepd hx hbr hbB
        have hy := keepd hy hbr hbB
        have Hlt := Lib.hid (show i + 1 ≤ L.length ∧ L.length - (i + 1) < L.length - i by omega)
        have hi96 : i ≤ 96 := by omega
        have i0 : (0 : Int) ≤ (i : Int) := Int.natCast_nonneg _
        have i1 : (i : Int) < (L.length : Int) := by omega
        have hd : decide ((i : Int) < (L.length : Int)) = true := by simpa using hlt
        clear hcc
        generalize cth L i = x at *
        obtain ⟨x1, x2⟩ := x
        dsimp only at *
        have hbW : b < wr.heap.size := Nat.lt_of_lt_of_le hbB hbr.size
        have hsz := hr.b1.lt
        have hdr : Below wr.heap.size wr wr.drew := (Below.refl _ _).drew
        have hFd : IsFace wr.drew wr.drew.heap.size _ f := hF.mono (hr.bel.drew) (by have := hr.bel.size; show _ ≤ wr.heap.size; omega)
        have q0 : wr.cell? ⟨w.heap.size, 0, none⟩ = some (.int .i64 f.eye) := hr.b0.cell 0
        have q1 : wr.cell? ⟨w.heap.size, 1, none⟩ = some (.int .i64 f.rings) := hr.b0.cell 1
        have q2 : wr.cell? ⟨w.heap.size, 2, none⟩ = some (.int .i64 f.sectors) := hr.b0.cell 2
        have q3 : wr.cell? ⟨w.heap.size, 3, none⟩ = some (.slice A f.kinds.length cp) := hr.b0.cell 3
        go_wp2_with fail
        go_region_held3 (fun W => W.cell? ⟨(w.heap.size), 0, none⟩ = some (.int .i64 f.eye) ∧ W.cell? ⟨(w.heap.size), 1, none⟩ = some (.int .i64 f.rings) ∧ W.cell? ⟨(w.heap.size), 2, none⟩ = some (.int .i64 f.sectors) ∧ W.cell? ⟨(w.heap.size), 3, none⟩ = some (.slice A f.kinds.length cp) ∧ W.cell? ⟨b, off + i * 2, none⟩ = some (.int .i64 x1) ∧ W.cell? ⟨b, off + i * 2 + 1, none⟩ = some (.int .i64 x2) ∧ Below wr.heap.size wr W ∧ wr.heap.size ≤ W.heap.size) (first | assumption | (refine ⟨?_, ?_, ?_, ?_, ?_, ?_, (Below.refl _ _).drew, by first | (simp; done) | (simp; omega) | omega⟩ <;> go_keep) | (obtain ⟨x0, x1, x2, x3, x4, x5, xb, xs⟩ := ‹_ ∧ _›; first | exact ⟨keepd x0 (Below.alloc (Below.refl (wr.heap.size) _) xs _) (by omega), keepd x1 (Below.alloc (Below.refl (wr.heap.size) _) xs _) (by omega), keepd x2 (Below.alloc (Below.refl (wr.heap.size) _) xs _) (by omega), keepd x3 (Below.alloc (Below.refl (wr.heap.size) _) xs _) (by omega), keepd x4 (Below.alloc (Below.refl (wr.heap.size) _) xs _) (by omega), keepd x5 (Below.alloc (Below.refl (wr.heap.size) _) xs _) (by omega), Below.trans xb (Below.mono (Below.alloc (Below.refl (wr.heap.size) _) xs _) (by omega)), Nat.le_trans xs (Below.size (Below.alloc (Below.refl (wr.heap.size) _) xs _))⟩ | exact ⟨keepd x0 (Below.mono (B' := wr.heap.size) (by assumption) xs) (by omega), keepd x1 (Below.mono (B' := wr.heap.size) (by assumption) xs) (by omega), keepd x2 (Below.mono (B' := wr.heap.size) (by assumption) xs) (by omega), keepd x3 (Below.mono (B' := wr.heap.size) (by assumption) xs) (by omega), keepd x4 (Below.mono (B' := wr.heap.size) (by assumption) xs) (by omega), keepd x5 (Below.mono (B' := wr.heap.size) (by assumption) xs) (by omega), Below.trans xb (Below.mono (Below.mono (B' := wr.heap.size) (by assumption) xs) (by omega)), Nat.le_trans xs (Below.size (Below.mono (B' := wr.heap.size) (by assumption) xs))⟩ | exact ⟨keepd x0 (hgst) (by omega), keepd x1 (hgst) (by omega), keepd x2 (hgst) (by omega), keepd x3 (hgst) (by omega), keepd x4 (hgst) (by omega), keepd x5 (hgst) (by omega), Below.trans xb (Below.mono (hgst) (by omega)), Nat.le_trans xs (Below.size (hgst))⟩ | exact ⟨keepd x0 (Below.setCell (Below.refl (wr.heap.size) _) (by first | (simp; done) | (simp; omega)) _) (by omega), keepd x1 (Below.setCell (Below.refl (wr.heap.size) _) (by first | (simp; done) | (simp; omega)) _) (by omega), keepd x2 (Below.setCell (Below.refl (wr.heap.size) _) (by first | (simp; done) | (simp; omega)) _) (by omega), keepd x3 (Below.setCell (Below.refl (wr.heap.size) _) (by first | (simp; done) | (simp; omega)) _) (by omega), keepd x4 (Below.setCell (Below.refl (wr.heap.size) _) (by first | (simp; done) | (simp; omega)) _) (by omega), keepd x5 (Below.setCell (Below.refl (wr.heap.size) _) (by first | (simp; done) | (simp; omega)) _) (by omega), Below.trans xb (Below.mono (Below.setCell (Below.refl (wr.heap.size) _) (by first | (simp; done) | (simp; omega)) _) (by omega)), Nat.le_trans xs (Below.size (Below.setCell (Below.refl (wr.heap.size) _) (by first | (simp; done) | (simp; omega)) _))⟩)) (first | (go_at_call 22; refine (Neighbours_c f _ x1 x2 _ hFd).mono ?_; rw [hck]; rintro e w8 ⟨lv2, rfl, hC2, hb8⟩))
        obtain ⟨-, -, -, -, -, -, xb, -⟩ := ‹_ ∧ _›
        simp only [if_true] at hC2
        have hr8 := hr.later xb
        have hx8 := keepd hx xb hbW
        have hy8 := keepd hy xb hbW
        have hbn := chain hbr xb
        have hbW8 : b < w8.heap.size := Nat.lt_of_lt_of_le hbW xb.size
        have hsz8 := hr8.b1.lt
        have hCd : Cels w8.drew w8.drew.heap.size lv2 (nearL f x1 x2) := hC2.mono ((Below.refl _ _).drew) (Nat.le_refl _)
        have hln := Hlen2.out x1 x2
        clear q0 q1 q2 q3 hx hy hC2 hb8 xb hFd hdr hr hbr
        have q4 : w8.cell? ⟨w.heap.size + 1, 0, none⟩ = some (.int .i64 r) := hr8.b1.cell 0
        have q5 : w8.cell? ⟨w.heap.size + 1, 1, none⟩ = some (.int .i64 c) := hr8.b1.cell 1
        go_wp2_with fail
        try simp only [Act.put, List.getElem_toArray, List.getElem_cons_zero, List.getElem_cons_succ, List.setIfInBounds_toArray, List.set_cons_zero, List.set_cons_succ]
        go_region_held3 (fun W => W.cell? ⟨(w.heap.size + 1), 0, none⟩ = some (.int .i64 r) ∧ W.cell? ⟨(w.heap.size + 1), 1, none⟩ = some (.int .i64 c) ∧ W.cell? ⟨b, off + i * 2, none⟩ = some (.int .i64 x1) ∧ W.cell? ⟨b, off + i * 2 + 1, none⟩ = some (.int .i64 x2) ∧ Below w8.heap.size w8 W ∧ w8.heap.size ≤ W.heap.size) (first | assumption | (refine ⟨?_, ?_, ?_, ?_, (Below.refl _ _).drew, by first | (simp; done) | (simp; omega) | omega⟩ <;> go_keep) | (obtain ⟨x0, x1, x2, x3, xb, xs⟩ := ‹_ ∧ _›; first | exact ⟨keepd x0 (Below.alloc (Below.refl (w8.heap.size) _) xs _) (by omega), keepd x1 (Below.alloc (Below.refl (w8.heap.size) _) xs _) (by omega), keepd x2 (Below.alloc (Below.refl (w8.heap.size) _) xs _) (by omega), keepd x3 (Below.alloc (Below.refl (w8.heap.size) _) xs _) (by omega), Below.trans xb (Below.mono (Below.alloc (Below.refl (w8.heap.size) _) xs _) (by omega)), Nat.le_trans xs (Below.size (Below.alloc (Below.refl (w8.heap.size) _) xs _))⟩ | exact ⟨keepd x0 (Below.mono (B' := w8.heap.size) (by assumption) xs) (by omega), keepd x1 (Below.mono (B' := w8.heap.size) (by assumption) xs) (by omega), keepd x2 (Below.mono (B' := w8.heap.size) (by assumption) xs) (by omega), keepd x3 (Below.mono (B' := w8.heap.size) (by assumption) xs) (by omega), Below.trans xb (Below.mono (Below.mono (B' := w8.heap.size) (by assumption) xs) (by omega)), Nat.le_trans xs (Below.size (Below.mono (B' := w8.heap.size) (by assumption) xs))⟩ | exact ⟨keepd x0 (hgst) (by omega), keepd x1 (hgst) (by omega), keepd x2 (hgst) (by omega), keepd x3 (hgst) (by omega), Below.trans xb (Below.mono (hgst) (by omega)), Nat.le_trans xs (Below.size (hgst))⟩ | exact ⟨keepd x0 (Below.setCell (Below.refl (w8.heap.size) _) (by first | (simp; done) | (simp; omega)) _) (by omega), keepd x1 (Below.setCell (Below.refl (w8.heap.size) _) (by first | (simp; done) | (simp; omega)) _) (by omega), keepd x2 (Below.setCell (Below.refl (w8.heap.size) _) (by first | (simp; done) | (simp; omega)) _) (by omega), keepd x3 (Below.setCell (Below.refl (w8.heap.size) _) (by first | (simp; done) | (simp; omega)) _) (by omega), Below.trans xb (Below.mono (Below.setCell (Below.refl (w8.heap.size) _) (by first | (simp; done) | (simp; omega)) _) (by omega)), Nat.le_trans xs (Below.size (Below.setCell (Below.refl (w8.heap.size) _) (by first | (simp; done) | (simp; omega)) _))⟩)) (first | (go_at_call 23; refine (among_c (nearL f x1 x2) _ r c _ hCd hln).mono ?_; rw [hbk]; rintro e w9 ⟨rfl, hb9⟩))
        obtain ⟨-, -, -, -, xb, -⟩ := ‹_ ∧ _›
        have hbn2 := chain hbn xb
        clear xb
        go_wp2_with fail
        go_roundw
        case rel => exact ⟨i + 1, Hlt.out.1, by go_num, hbn2⟩
        case measure => have := Hlt.out; simp [intOf]; omega
      · obtain rfl : i = L.length := by omega
        have hd : decide ((L.length : Int) < (L.length : Int)) = false := by simp
        go_wp2_with fail
        go_ret
        exact ⟨rfl, hr.bel⟩
  · have hd : ((ckCell f r c) != 0) = true := by simpa using hk
    rw [if_neg hk] at hC
    obtain ⟨LA, lc, rfl, -, -⟩ := hC
    go_wp2_with fail
    go_ret
    exact ⟨rfl, h3.bel⟩

end Go.Proofs.YteajlfgnhjalnaaDoor

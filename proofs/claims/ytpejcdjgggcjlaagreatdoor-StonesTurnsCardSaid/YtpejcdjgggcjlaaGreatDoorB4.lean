/- The walk of Dress. -/
import Derived.Test.YtpejcdjgggcjlaaGreatDoorB3
import Derived.Test.YtpejcdjgggcjlaaGreatDoorA7
namespace Go.Proofs.YtpejcdjgggcjlaaGreatDoor
open Go.RowKit

/-- a furrow in the first harps -/
def harpsTo (R S W : Int) (x : Fw) (l : List Int) : Nat → List Int
  | 0 => l
  | h + 1 => cutF R S x ((h : Int) * W) (harpsTo R S W x l h)
/-- the kinds behind the first furrows -/
def dressTo (p : Pt) : Nat → List Int
  | 0 => List.replicate (p.rings * (p.harps * p.wide)).toNat 0
  | k + 1 => harpsTo p.rings (p.harps * p.wide) p.wide (fwAt p.fs k) (dressTo p k) p.harps.toNat
/-- the face that is dressed as a pattern says -/
def dressF (p : Pt) : Fc := { eye := p.eye, rings := p.rings, sectors := p.harps * p.wide, kinds := dressTo p p.fs.length }
theorem cutF_len (R S : Int) (x : Fw) (start : Int) (l : List Int) : (cutF R S x start l).length = l.length := cutTo_len _ _ _ _ _ _
theorem harpsTo_len (R S W : Int) (x : Fw) (l : List Int) (h : Nat) : (harpsTo R S W x l h).length = l.length := by
  induction h with
  | zero => rfl
  | succ h ih => rw [harpsTo, cutF_len, ih]
theorem dressTo_len (p : Pt) (k : Nat) : (dressTo p k).length = (p.rings * (p.harps * p.wide)).toNat := by
  induction k with
  | zero => simp [dressTo]
  | succ k ih => rw [dressTo, harpsTo_len, ih]

/-- what memory looks like while a pattern is dressed -/
structure DrSt (w wr : World) (p : Pt) (s : Value) (g0 n : Nat) (l : List Int) : Prop where
  b0 : Box wr w.heap.size 62 #[.int .i64 p.eye, .int .i64 p.rings, .int .i64 p.harps, .int .i64 p.wide, s]
  b1 : Box wr (w.heap.size + 1) 24 #[.int .i64 0, .int .i64 0, .int .i64 0, .slice none 0 0]
  b2 : Box wr g0 24 #[.int .i64 p.eye, .int .i64 p.rings, .int .i64 (p.harps * p.wide), .slice (some ⟨g0 + 1, 0, none⟩) n n]
  own : wr.ownsRow (g0 + 1) 3 1 (.slice (some ⟨g0 + 1, 0, none⟩) n n) n (ints l)
  hg : w.heap.size + 1 < g0
  bel : Below w.heap.size w wr
theorem DrSt.lt {w wr : World} {p : Pt} {s : Value} {g0 n : Nat} {l : List Int} (h : DrSt w wr p s g0 n l) : g0 + 1 < wr.heap.size := (h.own.lt _ rfl).2
theorem DrSt.later {w wr W : World} {p : Pt} {s : Value} {g0 n : Nat} {l : List Int} (h : DrSt w wr p s g0 n l) (hb : Below wr.heap.size wr W) : DrSt w W p s g0 n l :=
  ⟨h.b0.later hb, h.b1.later hb, h.b2.later hb, own_later h.own hb, h.hg, h.bel.trans (hb.mono h.bel.size)⟩
theorem DrSt.cut {w wr W : World} {p : Pt} {s : Value} {g0 n : Nat} {l l' : List Int} (h : DrSt w wr p s g0 n l) (hgr : wr.grownBy W (some (g0 + 1))) (ho : W.ownsRow (g0 + 1) 3 1 (.slice (some ⟨g0 + 1, 0, none⟩) n n) n (ints l')) : DrSt w W p s g0 n l' := by
  have hg := h.hg
  exact ⟨h.b0.grown hgr (by simp; omega), h.b1.grown hgr (by simp; omega), h.b2.grown hgr (by simp), ho, h.hg, h.bel.grown hgr h.bel.size (fun k e => by cases e; omega)⟩
theorem patB_iff {p : Pt} (h : patB p = true) : (1 ≤ p.eye ∧ p.eye ≤ 16) ∧ (1 ≤ p.rings ∧ p.rings ≤ 24) ∧ (1 ≤ p.harps ∧ p.harps ≤ 96) ∧ (1 ≤ p.wide ∧ p.wide ≤ 96) ∧ (2 ≤ p.harps * p.wide ∧ p.harps * p.wide ≤ 96) ∧ p.fs.length ≤ 16 ∧ p.fs.all (furB p.rings p.wide) = true := by
  unfold patB at h
  simpa [inB_iff, and_assoc] using h
theorem all_at {l : List Fw} {q : Fw → Bool} (h : l.all q = true) {k : Nat} (hk : k < l.length) : q (fwAt l k) = true := by
  rw [List.all_eq_true] at h
  have := h l[k] (List.getElem_mem hk)
  simpa [fwAt, hk] using this

set_option maxRecDepth 100000 in
set_option maxHeartbeats 4000000 in
theorem Dress_c (p : Pt) (v : Value) (w : World) (h : IsPt w w.heap.size v p) :
    Calls Tryz.prog 44 #[v] w (RetFaceE w (if patB p = true then dressF p else zF) (if patB p = true then 0 else 12)) := by
  have hP := h
  obtain ⟨s, rfl, hlen, A, cp, rfl, hcap, hcell⟩ := h
  have hr := resBox w (.cells #[.int .i64 p.eye, .int .i64 p.rings, .int .i64 p.harps, .int .i64 p.wide, .slice A p.fs.length cp] 62)
  have hp0 := (Box.made w 62 #[.int .i64 p.eye, .int .i64 p.rings, .int .i64 p.harps, .int .i64 p.wide, .slice A p.fs.length cp]).alloc (.cells #[.int .i64 0, .int .i64 0, .int .i64 0, .slice none 0 0] 24)
  obtain ⟨i0, hi, hz0, hz1, hz2⟩ := info_parts Tryz.infoInt
  cases hv : patB p
  · clear hcell
    go_enter Tryz.func44, Tryz.ntmps44
    go_wp2_with fail
    refine (ValidPattern_c p _ _ ((hP.box _).box _)).mono ?_; rintro e w1 ⟨rfl, hb⟩
    have hbx := hr.later hb
    have hbw : Below w.heap.size w w1 := boxed (boxed hb)
    have h0 : w1.cell? ⟨w.heap.size + 1, 0, none⟩ = some (.int .i64 0) := hbx.cell 0
    have hf0 := hbx.free 0
    have h1 : w1.cell? ⟨w.heap.size + 1, 1, none⟩ = some (.int .i64 0) := hbx.cell 1
    have hf1 := hbx.free 1
    have h2 : w1.cell? ⟨w.heap.size + 1, 2, none⟩ = some (.int .i64 0) := hbx.cell 2
    have hf2 := hbx.free 2
    have h3 : w1.cell? ⟨w.heap.size + 1, 3, none⟩ = some (.slice none 0 0) := hbx.cell 3
    have hf3 := hbx.free 3
    clear hb
    go_wp2_with fail
    exact endPutE (G := zF) (lo := w.heap.size + 2) Tryz.results44 rfl rfl hbx (zF_ints _ _ _) (NewS.none_ _ _ _) (by omega) (by omega) hbw
  · obtain ⟨⟨a1, a2⟩, ⟨a3, a4⟩, ⟨a5, a6⟩, ⟨a7, a8⟩, ⟨a9, a10⟩, a11, hall⟩ := patB_iff hv
    obtain ⟨m1, m2⟩ : 0 ≤ p.rings * (p.harps * p.wide) ∧ p.rings * (p.harps * p.wide) ≤ 24 * 96 := mul_bd (by omega) (by omega) a4 a10
    obtain ⟨n, hn⟩ := Int.eq_ofNat_of_zero_le m1
    have Hn := Lib.hid hn
    have Hn2 := Lib.hid (show (p.rings * (p.harps * p.wide)).toNat = n by rw [hn]; rfl)
    have hnb : n ≤ 24 * 96 := by omega
    clear hn
    go_enter Tryz.func44, Tryz.ntmps44
    go_wp2_with fail
    refine (ValidPattern_c p _ _ ((hP.box _).box _)).mono ?_; rintro e w1 ⟨rfl, hb⟩
    have hbx := hr.later hb
    have hpx := hp0.later hb
    have hbw : Below w.heap.size w w1 := boxed (boxed hb)
    have k0 : w1.cell? ⟨w.heap.size, 0, none⟩ = some (.int .i64 p.eye) := hpx.cell 0
    have k1 : w1.cell? ⟨w.heap.size, 1, none⟩ = some (.int .i64 p.rings) := hpx.cell 1
    have k2 : w1.cell? ⟨w.heap.size, 2, none⟩ = some (.int .i64 p.harps) := hpx.cell 2
    have k3 : w1.cell? ⟨w.heap.size, 3, none⟩ = some (.int .i64 p.wide) := hpx.cell 3
    clear hb
    go_wp2_with (at_make; refine wpList_make_full _ rfl (.tmp 26) (.tmp 26) 22 rfl (w1.heap.size + 1) 3 i0 (.int .i64 0) 1 Tryz.underlying22 hi hz0 hz1 .i64 .i64 _ _ n rfl rfl Hn.out Hn.out (by rw [hz2]; omega) (by unfold maxLen; omega) (by simp) ?_; intro w2 hown hgr; have c2 := (Box.made w1 24 #[.int .i64 p.eye, .int .i64 p.rings, .int .i64 (p.harps * p.wide), .slice none 0 0]).grown hgr (by simp); have q3 : w2.cell? ⟨w1.heap.size, 3, none⟩ = some (.slice none 0 0) := c2.cell 3; have z3 := c2.free 3; have k4 : (w2.setCell ⟨w1.heap.size, 3, none⟩ (.slice (some ⟨w1.heap.size + 1, 0, none⟩) n n)).cell? ⟨w.heap.size, 4, none⟩ = some (.slice A p.fs.length cp) := (((hpx.alloc _).grown hgr (by simp)).far (p := ⟨w1.heap.size, 3, none⟩) (by have := hbx.lt; simp; omega) _).cell 4)
    have hst : DrSt w (w2.setCell ⟨w1.heap.size, 3, none⟩ (.slice (some ⟨w1.heap.size + 1, 0, none⟩) n n)) p (.slice A p.fs.length cp) w1.heap.size n (dressTo p 0) := by
      have hl1 := hbx.lt
      rw [World.size_alloc] at hown
      have e1 : (madeCells (Value.int IntKind.i64 0).cells (n * 1)).toList = ints (dressTo p 0) := by
        rw [dressTo, Hn2.out, Nat.mul_one]
        exact (toList_madeCells_one _ n).trans (by simp [ints])
      rw [e1] at hown
      have hba : Below w.heap.size w (w1.alloc (.cells #[.int .i64 p.eye, .int .i64 p.rings, .int .i64 (p.harps * p.wide), .slice none 0 0] 24)) := hbw.alloc hbw.size _
      refine ⟨((hpx.alloc _).grown hgr (by simp)).far (by simp; omega) _, ((hbx.alloc _).grown hgr (by simp)).far (by simp; omega) _, c2.put 3 _, own_far hown (by simp) _, hl1, ?_⟩
      exact (hba.grown hgr hba.size (fun k e => by cases e)).setCell (by simp; omega) _
    clear k0 k1 k2 k3 hown hgr c2 q3 z3 hbx hpx
    generalize w2.setCell ⟨w1.heap.size, 3, none⟩ (.slice (some ⟨w1.heap.size + 1, 0, none⟩) n n) = w3 at *
    generalize w1.heap.size = g0 at *
    clear k4
    go_loopw [32] (fun i wr => ∃ k : Nat, k ≤ p.fs.length ∧ i = .int .i64 (k : Int) ∧ DrSt w wr p (.slice A p.fs.length cp) g0 n (dressTo p k)) (fun i _ => p.fs.length - (intOf i).toNat)
    case atStart => exact ⟨0, Nat.zero_le _, rfl, hst⟩
    case round =>
      clear hst
      obtain ⟨k, hk, rfl, hst⟩ := hrel
      by_cases hlt : k < p.fs.length
      · obtain ⟨b, off, rfl, hbB, hcc⟩ := hcell (by omega)
        obtain ⟨y0, y1, y2, y3, y4, y5, y6⟩ := hcc k hlt
        have q0 := keepd y0 hst.bel hbB
        have q1 := keepd y1 hst.bel hbB
        have q2 := keepd y2 hst.bel hbB
        have q3 := keepd y3 hst.bel hbB
        have q4 := keepd y4 hst.bel hbB
        have q5 := keepd y5 hst.bel hbB
        have k2 : ∀ o : Obj, (wr.alloc o).cell? ⟨w.heap.size, 2, none⟩ = some (.int .i64 p.harps) := fun o => (hst.b0.alloc o).cell 2
        have hfx := all_at hall hlt
        have hdk : decide ((k : Int) < (p.fs.length : Int)) = true := by rw [decide_eq_true_iff]; omega
        clear hcell hcc y0 y1 y2 y3 y4 y5
        generalize hxk : fwAt p.fs k = x at *
        have Hxk := Lib.hid hxk
        clear hxk
        obtain ⟨H, hH⟩ := Int.eq_ofNat_of_zero_le (show 0 ≤ p.harps by omega)
        have Hnext := Lib.hid (show dressTo p (k + 1) = harpsTo p.rings (p.harps * p.wide) p.wide x (dressTo p k) H by rw [dressTo, Hxk.out, hH]; rfl)
        have hH1 : (H : Int) ≤ p.harps := by omega
        have hH2 : p.harps ≤ (H : Int) := by omega
        clear hH
        go_wp2_with fail
        have hst' := hst.later ((Below.refl _ _).alloc (Nat.le_refl _) (.cells #[.int .i64 x.at_, .int .i64 x.from_, .int .i64 x.lean, .int .i64 x.leans, .int .i64 x.steep, .int .i64 x.feather] 59))
        have hb6 := Box.made wr 59 #[.int .i64 x.at_, .int .i64 x.from_, .int .i64 x.lean, .int .i64 x.leans, .int .i64 x.steep, .int .i64 x.feather]
        have h6 := hst.lt
        clear k2 q0 q1 q2 q3 q4 q5
        generalize wr.alloc (.cells #[.int .i64 x.at_, .int .i64 x.from_, .int .i64 x.lean, .int .i64 x.leans, .int .i64 x.steep, .int .i64 x.feather] 59) = wo at *
        generalize wr.heap.size = g6 at *
        clear hst
        go_loopw [38] (fun i wr => ∃ h : Nat, h ≤ H ∧ i = .int .i64 (h : Int) ∧ DrSt w wr p (.slice (some ⟨b, off, none⟩) p.fs.length cp) g0 n (harpsTo p.rings (p.harps * p.wide) p.wide x (dressTo p k) h) ∧ Box wr g6 59 #[.int .i64 x.at_, .int .i64 x.from_, .int .i64 x.lean, .int .i64 x.leans, .int .i64 x.steep, .int .i64 x.feather]) (fun i _ => H - (intOf i).toNat)
        case atStart => exact ⟨0, Nat.zero_le _, rfl, hst', hb6⟩
        case round =>
          clear hst' hb6
          obtain ⟨h, hh, rfl, hst, hb6⟩ := hrel
          by_cases hht : h < H
          · have hdh : decide ((h : Int) < p.harps) = true := by rw [decide_eq_true_iff]; omega
            have k3 : wr.cell? ⟨w.heap.size, 3, none⟩ = some (.int .i64 p.wide) := hst.b0.cell 3
            have c0 : wr.cell? ⟨g0, 0, none⟩ = some (.int .i64 p.eye) := hst.b2.cell 0
            have c1 : wr.cell? ⟨g0, 1, none⟩ = some (.int .i64 p.rings) := hst.b2.cell 1
            have c2 : wr.cell? ⟨g0, 2, none⟩ = some (.int .i64 (p.harps * p.wide)) := hst.b2.cell 2
            have c3 : wr.cell? ⟨g0, 3, none⟩ = some (.slice (some ⟨g0 + 1, 0, none⟩) n n) := hst.b2.cell 3
            have y0 : wr.cell? ⟨g6, 0, none⟩ = some (.int .i64 x.at_) := hb6.cell 0
            have y1 : wr.cell? ⟨g6, 1, none⟩ = some (.int .i64 x.from_) := hb6.cell 1
            have y2 : wr.cell? ⟨g6, 2, none⟩ = some (.int .i64 x.lean) := hb6.cell 2
            have y3 : wr.cell? ⟨g6, 3, none⟩ = some (.int .i64 x.leans) := hb6.cell 3
            have y4 : wr.cell? ⟨g6, 4, none⟩ = some (.int .i64 x.steep) := hb6.cell 4
            have y5 : wr.cell? ⟨g6, 5, none⟩ = some (.int .i64 x.feather) := hb6.cell 5
            obtain ⟨n1, n2⟩ : 0 ≤ (h : Int) * p.wide ∧ (h : Int) * p.wide ≤ 96 * 96 := mul_bd (by omega) (by omega) (by omega) a8
            go_wp2_with fail
            refine (cutFurrow_c p.eye p.rings (p.harps * p.wide) p.wide x ((h : Int) * p.wide) (g0 + 1) (g0 + 1) n n (harpsTo p.rings (p.harps * p.wide) p.wide x (dressTo p k) h) wr a3 a4 (by omega) a10 a8 hfx n1 (by omega) hst.own hst.lt Hn.out.symm (by rw [harpsTo_len, dressTo_len]; exact Hn2.out)).mono ?_
            rintro e w4 ⟨rfl, ho4, hg4⟩
            have hst4 := hst.cut hg4 ho4
            have hb64 := hb6.grown hg4 (by simp; omega)
            clear ho4 hg4
            go_wp2_with fail
            go_roundw
            case rel => exact ⟨h + 1, by omega, by go_num, hst4, hb64⟩
            case measure => simp [intOf]; omega
          · obtain rfl : h = H := by omega
            have hdh : decide ((h : Int) < p.harps) = false := by rw [decide_eq_false_iff_not]; omega
            go_wp2_with fail
            go_roundw
            case rel => exact ⟨k + 1, by omega, by go_num, by rw [Hnext.out]; exact hst⟩
            case measure => simp [intOf]; omega
      · obtain rfl : k = p.fs.length := by omega
        have hdk : decide ((p.fs.length : Int) < (p.fs.length : Int)) = false := by simp
        have q0 : wr.cell? ⟨g0, 0, none⟩ = some (.int .i64 p.eye) := hst.b2.cell 0
        have q1 : wr.cell? ⟨g0, 1, none⟩ = some (.int .i64 p.rings) := hst.b2.cell 1
        have q2 : wr.cell? ⟨g0, 2, none⟩ = some (.int .i64 (p.harps * p.wide)) := hst.b2.cell 2
        have q3 : wr.cell? ⟨g0, 3, none⟩ = some (.slice (some ⟨g0 + 1, 0, none⟩) n n) := hst.b2.cell 3
        have hb1 := hst.b1
        have hgg := hst.hg
        have h0 : wr.cell? ⟨w.heap.size + 1, 0, none⟩ = some (.int .i64 0) := hb1.cell 0
        have hf0 := hb1.free 0
        have h1 : wr.cell? ⟨w.heap.size + 1, 1, none⟩ = some (.int .i64 0) := hb1.cell 1
        have hf1 := hb1.free 1
        have h2 : wr.cell? ⟨w.heap.size + 1, 2, none⟩ = some (.int .i64 0) := hb1.cell 2
        have hf2 := hb1.free 2
        have h3 : wr.cell? ⟨w.heap.size + 1, 3, none⟩ = some (.slice none 0 0) := hb1.cell 3
        have hf3 := hb1.free 3
        have hln : (dressTo p p.fs.length).length = n := by rw [dressTo_len]; exact Hn2.out
        have hio : Ints wr wr.heap.size (.slice (some ⟨g0 + 1, 0, none⟩) n n) (dressTo p p.fs.length) := ints_own (by rw [hln]; exact hst.own) (Nat.le_refl _) (by rw [hln]; omega)
        have Hln := Lib.hid hln
        clear hln
        go_wp2_with fail
        exact endPutE (G := dressF p) (lo := g0 + 1) Tryz.results44 rfl rfl hb1 hio (NewS.own hst.own) (by omega) (by omega) hst.bel

end Go.Proofs.YtpejcdjgggcjlaaGreatDoor

/- The specification's Harp. StonesTurns: the walk. -/
import Derived.Test.YtpejcdjgggcjlaaGreatDoorT4
import Derived.Test.YtpejcdjgggcjlaaGreatDoorE1
namespace Go.Proofs.YtpejcdjgggcjlaaGreatDoor
open Go.RowKit

/-- what memory looks like while a harp is written -/
structure HpSt (w wr : World) (f : Fc) (s : Value) (ob : Nat) (m : Int) (L : List Int) (gv : Value) : Prop where
  b0 : Box wr w.heap.size 24 #[.int .i64 f.eye, .int .i64 f.rings, .int .i64 f.sectors, s]
  br : Box wr (w.heap.size + 1) 24 #[.int .i64 0, .int .i64 0, .int .i64 0, .slice none 0 0]
  bo : Box wr ob 24 #[.int .i64 f.eye, .int .i64 f.rings, .int .i64 m, gv]
  own : wr.ownsRow (ob + 1) 3 1 gv L.length (ints L)
  bel : Below w.heap.size w wr
  low : w.heap.size + 1 < ob
theorem HpSt.later {w wr W : World} {f : Fc} {s gv : Value} {ob : Nat} {m : Int} {L : List Int} (h : HpSt w wr f s ob m L gv) (hb : Below wr.heap.size wr W) : HpSt w W f s ob m L gv :=
  ⟨h.b0.later hb, h.br.later hb, h.bo.later hb, own_later h.own hb, chain h.bel hb, h.low⟩
theorem HpSt.step {w wr w4 : World} {f : Fc} {s gv v' : Value} {ob : Nat} {m x : Int} {L : List Int} {o : Obj} (h : HpSt w wr f s ob m L gv)
    (hg : (wr.drew.alloc o).grownBy w4 gv.ownBlock) (hown : w4.ownsRow (ob + 1) 3 1 v' (L.length + 1) (ints L ++ [.int .i64 x])) : HpSt w (w4.setCell ⟨ob, 3, none⟩ v') f s ob m (L ++ [x]) v' := by
  have hl := h.low
  have hob := h.bo.lt
  have hd : Below wr.heap.size wr wr.drew := (Below.refl _ _).drew
  have ho : (wr.drew.alloc o).ownsRow (ob + 1) 3 1 gv L.length (ints L) := h.own.drew.alloc o
  have c0 := ((h.b0.later hd).alloc o).grown hg (own_far2 ho (by omega))
  have cr := ((h.br.later hd).alloc o).grown hg (own_far2 ho (by omega))
  have co := ((h.bo.later hd).alloc o).grown hg (own_far2 ho (by omega))
  have hb4 : Below w.heap.size w w4 := (h.bel.drew.alloc (by show _ ≤ wr.heap.size; omega) o).grown hg (by simp; show _ ≤ wr.heap.size + 1; omega) (fun q e => by have := (ho.lt q e).1; omega)
  refine ⟨c0.far (by simp; omega) _, cr.far (by simp; omega) _, co.put 3 v', ?_, hb4.setCell (by simp; omega) _, hl⟩
  rw [List.length_append, ints_snoc]
  exact own_far hown (by simp) _

set_option maxRecDepth 100000 in
set_option maxHeartbeats 8000000 in
theorem rHarp_c (f : Fc) (v : Value) (w : World) (h : IsFace w w.heap.size v f) :
    Calls Tryz.prog 39 #[v] w (RetFaceE w (if validB f = true then harpF f (max (perN f : Nat) 2) else zF) (if validB f = true then 0 else 10)) := by
  have hF := h
  obtain ⟨s, rfl, hlen, A, cp, rfl, hcap, hcell⟩ := h
  have b0 := faceBox w f (.slice A f.kinds.length cp) (.cells #[.int .i64 0, .int .i64 0, .int .i64 0, .slice none 0 0] 24)
  have hr := resBox w (.cells #[.int .i64 f.eye, .int .i64 f.rings, .int .i64 f.sectors, .slice A f.kinds.length cp] 24)
  cases hv : validB f
  · have e1 : ckFace f = 10 := by simp [ckFace, hv]
    clear hcell b0
    go_enter Tryz.func39, Tryz.ntmps39
    go_wp2_with fail
    refine (rPeriod_c f _ _ ((hF.box _).box _)).mono ?_; rintro e w1 ⟨rfl, hb⟩
    rw [e1]
    have hbx := hr.later hb
    have hbw : Below w.heap.size w w1 := boxed (boxed hb)
    have h0 : w1.cell? ⟨w.heap.size + 1, 0, none⟩ = some (.int .i64 0) := hbx.cell 0
    have hf0 := hbx.free 0
    have h1 : w1.cell? ⟨w.heap.size + 1, 1, none⟩ = some (.int .i64 0) := hbx.cell 1
    have hf1 := hbx.free 1
    have h2 : w1.cell? ⟨w.heap.size + 1, 2, none⟩ = some (.int .i64 0) := hbx.cell 2
    have hf2 := hbx.free 2
    have h3 : w1.cell? ⟨w.heap.size + 1, 3, none⟩ = some (.slice none 0 0) := hbx.cell 3
    have hf3 := hbx.free 3
    clear hb e1
    go_wp2_with fail
    exact endPutE (G := zF) (lo := w.heap.size + 2) Tryz.results39 rfl rfl hbx (zF_ints _ _ _) (NewS.none_ _ _ _) (by omega) (by omega) hbw
  · have e1 : ckFace f = 0 := by simp [ckFace, hv]
    have e2 : perOf f = ((perN f : Nat) : Int) := by simp [perOf, hv]
    obtain ⟨⟨⟨a1, a2⟩, ⟨a3, a4⟩, a5, a6⟩, hl, -⟩ := validB_iff.1 hv
    have hl6 : f.kinds.length ≤ 2304 := (len_val hv).2.2
    have hl0 : 0 < f.kinds.length := by
      have : 1 * 2 ≤ f.rings * f.sectors := Int.mul_le_mul a3 a5 (by omega) (by omega)
      omega
    obtain ⟨b, off, rfl, hbB, hcc⟩ := hcell hl0
    obtain ⟨R, S, hR, hS, s1, s2, s3, s4, s5, s6, s7⟩ := dims hv
    have hper1 := (perN_is hv).1
    have hper := (perN_is hv).2.1
    obtain ⟨i0, hi, hz0, hz1, hz2⟩ := info_parts Tryz.infoInt
    have HR := Lib.hid hR
    have HS := Lib.hid hS
    have HN := Lib.hid s5
    have H4 := Lib.hid s4
    have H6 := Lib.hid s6
    have Hcc := Lib.hid hcc
    have H2 := Lib.hid s2
    have H1 := Lib.hid s1
    have Hp := Lib.hid (show perN f ≤ S by omega)
    clear hcell hcc hl hR hS s1 s2 s3 s4 s5 s6 s7 hper
    go_enter Tryz.func39, Tryz.ntmps39
    go_wp2_with fail
    refine (rPeriod_c f _ _ ((hF.box _).box _)).mono ?_; rintro e w1 ⟨rfl, hb⟩
    rw [e1, e2]
    have hbx1 := hr.later hb
    have hb01 := b0.later hb
    have hbw1 : Below w.heap.size w w1 := boxed (boxed hb)
    have k0 : w1.cell? ⟨w.heap.size, 0, none⟩ = some (.int .i64 f.eye) := hb01.cell 0
    have k1 : w1.cell? ⟨w.heap.size, 1, none⟩ = some (.int .i64 f.rings) := hb01.cell 1
    clear hb e1 e2 b0 hr
    obtain ⟨M, hM⟩ : ∃ M : Nat, max ((perN f : Nat) : Int) 2 = (M : Int) := ⟨max (perN f) 2, by omega⟩
    have HMS := Lib.hid (show M ≤ S ∧ M ≤ 96 ∧ 2 ≤ M by have := Hp.out; have := H2.out; have := H1.out; omega)
    have HM := Lib.hid hM
    clear hM
    generalize perN f = pn at *
    go_wp2_with fail
    rw [HM.out]
    clear Hp hper1
    have hob := hbx1.lt
    have hst0 : HpSt w (w1.alloc (.cells #[.int .i64 f.eye, .int .i64 f.rings, .int .i64 (M : Int), .slice none 0 0] 24)) f (.slice (some ⟨b, off, none⟩) f.kinds.length cp) w1.heap.size (M : Int) (redL f M (fun i => i) (0 * M)) (.slice none 0 0) := by
      rw [Nat.zero_mul]
      exact ⟨hb01.alloc _, hbx1.alloc _, Box.made _ _ _, World.ownsRow_nil _ _ _ _, hbw1.alloc hbw1.size _, by omega⟩
    clear hb01 hbx1 hbw1 k0 k1 hob
    generalize w1.alloc (.cells #[.int .i64 f.eye, .int .i64 f.rings, .int .i64 (M : Int), .slice none 0 0] 24) = w2 at *
    generalize w1.heap.size = ob at *
    go_loopw [7] (fun i wr => ∃ (k : Nat) (gv : Value), k ≤ R ∧ i = .int .i64 (k : Int) ∧ HpSt w wr f (.slice (some ⟨b, off, none⟩) f.kinds.length cp) ob (M : Int) (redL f M (fun i => i) (k * M)) gv) (fun i _ => R - (intOf i).toNat)
    case atStart => exact ⟨0, _, Nat.zero_le _, rfl, hst0⟩
    case round =>
      clear hst0
      obtain ⟨k, gv, hk, rfl, hst⟩ := hrel
      have k1 : wr.cell? ⟨w.heap.size, 1, none⟩ = some (.int .i64 f.rings) := hst.b0.cell 1
      by_cases hlt : k < R
      · have hd : decide ((k : Int) < f.rings) = true := by rw [decide_eq_true_iff, HR.out]; omega
        have Hlt := Lib.hid (show k + 1 ≤ R ∧ R - (k + 1) < R - k by omega)
        have hk24 : k ≤ 24 := by have := H4.out; omega
        have Hkd := Lib.hid hlt
        clear hlt
        go_wp2_with fail
        clear k1
        go_loopw [8] (fun j wx => ∃ (j' : Nat) (gv : Value), j' ≤ M ∧ j = .int .i64 (j' : Int) ∧ HpSt w wx f (.slice (some ⟨b, off, none⟩) f.kinds.length cp) ob (M : Int) (redL f M (fun i => i) (k * M + j')) gv) (fun j _ => M - (intOf j).toNat)
        case atStart => exact ⟨0, gv, Nat.zero_le _, rfl, hst⟩
        case round =>
          clear hst gv
          obtain ⟨j, gv, hj, rfl, hst⟩ := hrel
          have o2 : wr.cell? ⟨ob, 2, none⟩ = some (.int .i64 (M : Int)) := hst.bo.cell 2
          by_cases hjt : j < M
          · have hdj : decide ((j : Int) < (M : Int)) = true := by rw [decide_eq_true_iff]; omega
            have hdj2 : decide (j < M) = true := by rw [decide_eq_true_iff]; exact hjt
            have hj96 : j ≤ 96 := by have := HMS.out.2.1; omega
            have hkS : k * S + S ≤ R * S := by rw [← Nat.succ_mul]; exact Nat.mul_le_mul_right _ Hlt.out.1
            have hjS : j < S := by have := HMS.out; omega
            have hidx : k * S + j < f.kinds.length := by have := HN.out; omega
            have hx := keepd (Hcc.out _ hidx) hst.bel hbB
            have hkat : kat f (k : Int) (j : Int) = nth f.kinds (k * S + j) := by
              unfold kat
              rw [HS.out]
              congr 1
            have hks4 : k * S ≤ 2304 := by have := HN.out; omega
            have hks5 : (k : Int) * f.sectors = ((k * S : Nat) : Int) := by rw [HS.out]; exact (Int.natCast_mul k S).symm
            have e1 : IntKind.i64.wrap ((k : Int) * f.sectors) = ((k * S : Nat) : Int) := by rw [hks5, wrap_id (by omega) (by omega)]
            have e2 : IntKind.i64.wrap (((k * S : Nat) : Int) + (j : Int)) = ((k * S + j : Nat) : Int) := by rw [wrap_id (by omega) (by omega)]; omega
            have hln : (redL f M (fun i => i) (k * M + j)).length = k * M + j := redL_len _ _ _ _
            have hlb : k * M + j ≤ 24 * 96 + 96 := by have := HMS.out.2.1; have := Nat.mul_le_mul hk24 (show M ≤ 96 from HMS.out.2.1); omega
            have Hln := Lib.hid hln
            have Hlb := Lib.hid hlb
            have Hj := Lib.hid (show j + 1 ≤ M ∧ M - (j + 1) < M - j by omega)
            have Hrow := Lib.hid (show redL f M (fun i => i) (k * M + (j + 1)) = redL f M (fun i => i) (k * M + j) ++ [nth f.kinds (k * S + j)] by rw [redL_step hjt, hkat])
            have g3 : wr.cell? ⟨ob, 3, none⟩ = some gv := hst.bo.cell 3
            have f2 : wr.cell? ⟨w.heap.size, 2, none⟩ = some (.int .i64 f.sectors) := hst.b0.cell 2
            have f3 : wr.cell? ⟨w.heap.size, 3, none⟩ = some (.slice (some ⟨b, off, none⟩) f.kinds.length cp) := hst.b0.cell 3
            have hob := hst.bo.lt
            have hownd := hst.own.drew
            have hi0 : (0 : Int) ≤ ((k * S + j : Nat) : Int) := Int.natCast_nonneg _
            have hi1 : ((k * S + j : Nat) : Int) < (f.kinds.length : Int) := by omega
            clear hkS hjS hkat hln hlb hjt hks4 hks5
            generalize k * S + j = idx at *
            generalize k * S = p at *
            have hbo2 : Box wr.drew ob 24 #[.int .i64 f.eye, .int .i64 f.rings, .int .i64 (M : Int), gv] := hst.bo
            go_wp2_with fail
            go_region_law (first
              | (refine step_append_lies _ rfl (.tmp 38) (.tmp 49) 22 rfl (ob + 1) 3 i0 (.int .i64 0) 1 8 Tryz.underlying22 hi hz0 hz1 hz2 rfl (by decide) gv _ _ rfl (hownd.alloc _) ⟨wr.heap.size, 0, none⟩ 1 1 [.int .i64 (nth f.kinds idx)] rfl rfl (cell_one_new _ _ _) (one_cell _) (by decide) (by rw [Hln.out]; have := Hlb.out; unfold maxLen; omega) (by rw [Hln.out]; have := Hlb.out; omega) (by first | (simp; omega) | (rw [World.size_alloc]; show ob + 1 ≤ wr.heap.size + 1; omega)) (wr.heap.size + 1) (by first | (simp; done) | (rw [World.size_alloc]; exact Nat.le_refl _)) ?_; intro gg cap w4 hown4 hgrow hat hlt4; have hst4 := (hbo2.alloc (.cells #[.int .i64 (nth f.kinds idx)] 3)).grown hgrow (own_ne hownd); have c24 : w4.cell? ⟨ob, 3, none⟩ = some gv := hst4.cell 3; have f24 := hst4.free 3))
            all_goals
              have hnew := hst.step hgrow hown4
              go_wp2
              go_roundw
              case rel => exact ⟨j + 1, _, Hj.out.1, by go_num, by rw [Hrow.out]; exact hnew⟩
              case measure => have := Hj.out; simp [intOf]; omega
          · obtain rfl : M = j := by omega
            have hdj : decide ((M : Int) < (M : Int)) = false := by simp
            have hdj2 : decide (M < M) = false := by simp
            go_wp2_with fail
            go_roundw
            case rel => exact ⟨k + 1, gv, Hlt.out.1, by go_num, by rw [Nat.succ_mul]; exact hst⟩
            case measure => have := Hlt.out; simp [intOf]; omega
      · obtain rfl : k = R := by omega
        have hd : decide ((k : Int) < f.rings) = false := by rw [decide_eq_false_iff_not, HR.out]; omega
        obtain ⟨oA, oc, rfl⟩ := own_shape hst.own
        have o0 : wr.cell? ⟨ob, 0, none⟩ = some (.int .i64 f.eye) := hst.bo.cell 0
        have o1 : wr.cell? ⟨ob, 1, none⟩ = some (.int .i64 f.rings) := hst.bo.cell 1
        have o2 : wr.cell? ⟨ob, 2, none⟩ = some (.int .i64 (M : Int)) := hst.bo.cell 2
        have o3 : wr.cell? ⟨ob, 3, none⟩ = some (.slice oA (redL f M (fun i => i) (k * M)).length oc) := hst.bo.cell 3
        have hbr := hst.br
        have h0 : wr.cell? ⟨w.heap.size + 1, 0, none⟩ = some (.int .i64 0) := hbr.cell 0
        have hf0 := hbr.free 0
        have h1 : wr.cell? ⟨w.heap.size + 1, 1, none⟩ = some (.int .i64 0) := hbr.cell 1
        have hf1 := hbr.free 1
        have h2 : wr.cell? ⟨w.heap.size + 1, 2, none⟩ = some (.int .i64 0) := hbr.cell 2
        have hf2 := hbr.free 2
        have h3 : wr.cell? ⟨w.heap.size + 1, 3, none⟩ = some (.slice none 0 0) := hbr.cell 3
        have hf3 := hbr.free 3
        have hlm : (redL f M (fun i => i) (k * M)).length = k * M := redL_len _ _ _ _
        have hle := Nat.mul_le_mul H4.out (show M ≤ 96 from HMS.out.2.1)
        have hin := ints_own hst.own (Nat.le_refl _) (by rw [hlm]; omega)
        have hge : (harpF f (M : Int)).kinds = redL f M (fun i => i) (k * M) := by
          unfold harpF
          dsimp only
          rw [H6.out]
          rfl
        have Hin := Lib.hid hin
        have Hge := Lib.hid hge
        have hlow := hst.low
        have hnw := NewS.own hst.own
        have hbl := hst.bel
        clear hin hge hlm hle hst
        go_wp2_with fail
        rw [HM.out]
        exact endPutE (G := harpF f (M : Int)) (lo := w.heap.size + 2) Tryz.results39 rfl rfl hbr (by rw [Hge.out]; exact Hin.out) (hnw.mono (by omega)) (by omega) (by omega) hbl

end Go.Proofs.YtpejcdjgggcjlaaGreatDoor

namespace Go.Proofs.YtpejcdjgggcjlaaGreatDoor
open Go.RowKit

/-- what is told of a face, or no face -/
def turnOf (f : Fc) (b : Int) : Fc := if validB f = true then turnF f b else zF
def mirOf (f : Fc) : Fc := if validB f = true then mirF f else zF
def norOf (f : Fc) : Fc := if validB f = true then normF f else zF
def harOf (f : Fc) : Fc := if validB f = true then harpF f (max (perN f : Nat) 2) else zF
def tnsOf (f g : Fc) : List Int := if (validB f && validB g) = true then turnsN f g f.sectors.toNat else []
def ckTwo (f g : Fc) : Int := if (validB f && validB g) = true then 0 else 10
theorem Turn_d (f : Fc) (v : Value) (b : Int) (w : World) (h : IsFace w w.heap.size v f) : Calls Tryz.prog 28 #[v, .int .i64 b] w (RetFaceE w (turnOf f b) (ckFace f)) := Turn_c f v b w h
theorem rTurn_d (f : Fc) (v : Value) (b : Int) (w : World) (h : IsFace w w.heap.size v f) : Calls Tryz.prog 29 #[v, .int .i64 b] w (RetFaceE w (turnOf f b) (ckFace f)) := rTurn_c f v b w h
theorem Mirror_d (f : Fc) (v : Value) (w : World) (h : IsFace w w.heap.size v f) : Calls Tryz.prog 30 #[v] w (RetFaceE w (mirOf f) (ckFace f)) := Mirror_c f v w h
theorem rMirror_d (f : Fc) (v : Value) (w : World) (h : IsFace w w.heap.size v f) : Calls Tryz.prog 31 #[v] w (RetFaceE w (mirOf f) (ckFace f)) := rMirror_c f v w h
theorem Normal_d (f : Fc) (v : Value) (w : World) (h : IsFace w w.heap.size v f) : Calls Tryz.prog 32 #[v] w (RetFaceE w (norOf f) (ckFace f)) := Normal_c f v w h
theorem rNormal_d (f : Fc) (v : Value) (w : World) (h : IsFace w w.heap.size v f) : Calls Tryz.prog 33 #[v] w (RetFaceE w (norOf f) (ckFace f)) := rNormal_c f v w h
theorem Harp_d (f : Fc) (v : Value) (w : World) (h : IsFace w w.heap.size v f) : Calls Tryz.prog 38 #[v] w (RetFaceE w (harOf f) (ckFace f)) := Harp_c f v w h
theorem rHarp_d (f : Fc) (v : Value) (w : World) (h : IsFace w w.heap.size v f) : Calls Tryz.prog 39 #[v] w (RetFaceE w (harOf f) (ckFace f)) := rHarp_c f v w h
theorem Period_d (f : Fc) (v : Value) (w : World) (h : IsFace w w.heap.size v f) : Calls Tryz.prog 36 #[v] w fun e w' => e = .returned (.tuple #[.int .i64 (perOf f), .int .i64 (ckFace f)]) ∧ Below w.heap.size w w' := Period_c f v w h
theorem Turns_d (f g : Fc) (v u : Value) (w : World) (hf : IsFace w w.heap.size v f) (hg : IsFace w w.heap.size u g) : Calls Tryz.prog 34 #[v, u] w (RetIntsE w (tnsOf f g) (ckTwo f g)) := Turns_c f g v u w hf hg
theorem rTurns_d (f g : Fc) (v u : Value) (w : World) (hf : IsFace w w.heap.size v f) (hg : IsFace w w.heap.size u g) : Calls Tryz.prog 35 #[v, u] w (RetIntsE w (tnsOf f g) (ckTwo f g)) := rTurns_c f g v u w hf hg

/-- two faces in their boxes -/
structure TuSt (w wr : World) (f g : Fc) (s s' : Value) : Prop where
  b0 : Box wr w.heap.size 24 #[.int .i64 f.eye, .int .i64 f.rings, .int .i64 f.sectors, s]
  b1 : Box wr (w.heap.size + 1) 24 #[.int .i64 g.eye, .int .i64 g.rings, .int .i64 g.sectors, s']
  bel : Below w.heap.size w wr
theorem TuSt.later {w wr W : World} {f g : Fc} {s s' : Value} (h : TuSt w wr f g s s') (hb : Below wr.heap.size wr W) : TuSt w W f g s s' :=
  ⟨h.b0.later hb, h.b1.later hb, chain h.bel hb⟩
/-- a face in a box of the law's own -/
structure FB (wr : World) (q : Nat) (G : Fc) (s : Value) : Prop where
  bx : Box wr q 24 #[.int .i64 G.eye, .int .i64 G.rings, .int .i64 G.sectors, s]
  it : Ints wr wr.heap.size s G.kinds
theorem FB.later {wr W : World} {q : Nat} {G : Fc} {s : Value} (h : FB wr q G s) (hb : Below wr.heap.size wr W) : FB W q G s := ⟨h.bx.later hb, h.it.mono hb hb.size⟩
theorem FB.made (w : World) (G : Fc) (s : Value) (h : Ints w w.heap.size s G.kinds) : FB (w.alloc (.cells #[.int .i64 G.eye, .int .i64 G.rings, .int .i64 G.sectors, s] 24)) w.heap.size G s := ⟨Box.made _ _ _, h.box _⟩
theorem same_self (G : Fc) : sameB G G = true := sameB_iff.2 rfl

set_option maxRecDepth 100000 in
set_option maxHeartbeats 8000000 in
theorem StonesTurns_c (f g : Fc) (v u : Value) (by_ : Int) (w : World) (hf : IsFace w w.heap.size v f) (hg : IsFace w w.heap.size u g) (hml : ML w) :
    Calls Tryz.prog 5 #[v, u, .int .i64 by_] w fun e w' => e = .returned (.bool true) ∧ Below w.heap.size w w' := by
  have hF := hf
  have hG := hg
  obtain ⟨s, rfl, hlen, A, cp, rfl, hcap, hcell⟩ := hf
  obtain ⟨s', rfl, hlen', A', cp', rfl, hcap', hcell'⟩ := hg
  clear hcell hcell'
  have h0 : TuSt w ((w.alloc (.cells #[.int .i64 f.eye, .int .i64 f.rings, .int .i64 f.sectors, .slice A f.kinds.length cp] 24)).alloc (.cells #[.int .i64 g.eye, .int .i64 g.rings, .int .i64 g.sectors, .slice A' g.kinds.length cp'] 24)) f g (.slice A f.kinds.length cp) (.slice A' g.kinds.length cp') := by
    have b1 := Box.made (w.alloc (.cells #[.int .i64 f.eye, .int .i64 f.rings, .int .i64 f.sectors, .slice A f.kinds.length cp] 24)) 24 #[.int .i64 g.eye, .int .i64 g.rings, .int .i64 g.sectors, .slice A' g.kinds.length cp']
    rw [World.size_alloc] at b1
    exact ⟨faceBox w f _ _, b1, ((Below.refl _ _).alloc (Nat.le_refl _) _).alloc (by simp) _⟩
  have hml2 := hml.later h0.bel
  clear hml
  have d1 : (ckFace f != ckFace f) = false := by simp
  have d2 : (ckFace f == ckFace f) = true := by simp
  have d3 : (ckTwo f g == ckTwo f g) = true := by simp
  have d4 : (perOf f == perOf f) = true := by simp
  go_enter Tryz.func5, Tryz.ntmps5
  go_wp2_with fail
  refine (awake_c _ hml2).mono ?_; rintro e w1 ⟨rfl, hb1⟩
  have h1 := h0.later hb1
  clear h0 hb1 hml2
  have k0 : w1.cell? ⟨w.heap.size, 0, none⟩ = some (.int .i64 f.eye) := h1.b0.cell 0
  have k1 : w1.cell? ⟨w.heap.size, 1, none⟩ = some (.int .i64 f.rings) := h1.b0.cell 1
  have k2 : w1.cell? ⟨w.heap.size, 2, none⟩ = some (.int .i64 f.sectors) := h1.b0.cell 2
  have k3 : w1.cell? ⟨w.heap.size, 3, none⟩ = some (.slice A f.kinds.length cp) := h1.b0.cell 3
  go_wp2_with fail
  refine (short_c f _ w1 (hF.mono h1.bel h1.bel.size)).mono ?_; rintro e w2 ⟨rfl, hb2⟩
  have h2 := h1.later hb2
  clear k0 k1 k2 k3 hb2 h1
  cases hsh : decide (f.kinds.length ≤ 3000)
  · go_wp2_with fail
    go_ret
    exact ⟨rfl, h2.bel⟩
  clear hsh
  have k0 : w2.cell? ⟨w.heap.size + 1, 0, none⟩ = some (.int .i64 g.eye) := h2.b1.cell 0
  have k1 : w2.cell? ⟨w.heap.size + 1, 1, none⟩ = some (.int .i64 g.rings) := h2.b1.cell 1
  have k2 : w2.cell? ⟨w.heap.size + 1, 2, none⟩ = some (.int .i64 g.sectors) := h2.b1.cell 2
  have k3 : w2.cell? ⟨w.heap.size + 1, 3, none⟩ = some (.slice A' g.kinds.length cp') := h2.b1.cell 3
  go_wp2_with fail
  refine (short_c g _ w2 (hG.mono h2.bel h2.bel.size)).mono ?_; rintro e w3 ⟨rfl, hb3⟩
  have h3 := h2.later hb3
  clear k0 k1 k2 k3 hb3 h2
  cases hsh2 : decide (g.kinds.length ≤ 3000)
  · go_wp2_with fail
    go_ret
    exact ⟨rfl, h3.bel⟩
  clear hsh2
  have k0 : w3.cell? ⟨w.heap.size, 0, none⟩ = some (.int .i64 f.eye) := h3.b0.cell 0
  have k1 : w3.cell? ⟨w.heap.size, 1, none⟩ = some (.int .i64 f.rings) := h3.b0.cell 1
  have k2 : w3.cell? ⟨w.heap.size, 2, none⟩ = some (.int .i64 f.sectors) := h3.b0.cell 2
  have k3 : w3.cell? ⟨w.heap.size, 3, none⟩ = some (.slice A f.kinds.length cp) := h3.b0.cell 3
  go_wp2_with fail
  refine (Turn_d f _ by_ _ (hF.mono h3.bel h3.bel.size)).mono ?_; rintro e w4 ⟨A4, n4, c4, rfl, hI4, -, hb4⟩
  clear k0 k1 k2 k3
  have h4 := h3.later hb4
  clear h3
  have hal5 : Below w4.heap.size w4 (w4.alloc (.cells #[.int .i64 (turnOf f by_).eye, .int .i64 (turnOf f by_).rings, .int .i64 (turnOf f by_).sectors, .slice A4 n4 c4] 24)) := (Below.refl _ _).alloc (Nat.le_refl _) _
  have fa_5 := FB.made w4 (turnOf f by_) (.slice A4 n4 c4) hI4
  have h5 := h4.later hal5
  clear h4
  clear hI4 hb4 hal5
  have k0 : (w4.alloc (.cells #[.int .i64 (turnOf f by_).eye, .int .i64 (turnOf f by_).rings, .int .i64 (turnOf f by_).sectors, .slice A4 n4 c4] 24)).cell? ⟨w.heap.size, 0, none⟩ = some (.int .i64 f.eye) := h5.b0.cell 0
  have k1 : (w4.alloc (.cells #[.int .i64 (turnOf f by_).eye, .int .i64 (turnOf f by_).rings, .int .i64 (turnOf f by_).sectors, .slice A4 n4 c4] 24)).cell? ⟨w.heap.size, 1, none⟩ = some (.int .i64 f.rings) := h5.b0.cell 1
  have k2 : (w4.alloc (.cells #[.int .i64 (turnOf f by_).eye, .int .i64 (turnOf f by_).rings, .int .i64 (turnOf f by_).sectors, .slice A4 n4 c4] 24)).cell? ⟨w.heap.size, 2, none⟩ = some (.int .i64 f.sectors) := h5.b0.cell 2
  have k3 : (w4.alloc (.cells #[.int .i64 (turnOf f by_).eye, .int .i64 (turnOf f by_).rings, .int .i64 (turnOf f by_).sectors, .slice A4 n4 c4] 24)).cell? ⟨w.heap.size, 3, none⟩ = some (.slice A f.kinds.length cp) := h5.b0.cell 3
  go_wp2_with fail
  refine (rTurn_d f _ by_ _ (hF.mono h5.bel h5.bel.size)).mono ?_; rintro e w6 ⟨A6, n6, c6, rfl, hI6, -, hb6⟩
  clear k0 k1 k2 k3
  have h6 := h5.later hb6
  have fa_6 := fa_5.later hb6
  clear h5 fa_5
  have hal7 : Below w6.heap.size w6 (w6.alloc (.cells #[.int .i64 (turnOf f by_).eye, .int .i64 (turnOf f by_).rings, .int .i64 (turnOf f by_).sectors, .slice A6 n6 c6] 24)) := (Below.refl _ _).alloc (Nat.le_refl _) _
  have fb_7 := FB.made w6 (turnOf f by_) (.slice A6 n6 c6) hI6
  have h7 := h6.later hal7
  have fa_7 := fa_6.later hal7
  clear h6 fa_6
  clear hI6 hb6 hal7
  have k0 : (w6.alloc (.cells #[.int .i64 (turnOf f by_).eye, .int .i64 (turnOf f by_).rings, .int .i64 (turnOf f by_).sectors, .slice A6 n6 c6] 24)).cell? ⟨w.heap.size, 0, none⟩ = some (.int .i64 f.eye) := h7.b0.cell 0
  have k1 : (w6.alloc (.cells #[.int .i64 (turnOf f by_).eye, .int .i64 (turnOf f by_).rings, .int .i64 (turnOf f by_).sectors, .slice A6 n6 c6] 24)).cell? ⟨w.heap.size, 1, none⟩ = some (.int .i64 f.rings) := h7.b0.cell 1
  have k2 : (w6.alloc (.cells #[.int .i64 (turnOf f by_).eye, .int .i64 (turnOf f by_).rings, .int .i64 (turnOf f by_).sectors, .slice A6 n6 c6] 24)).cell? ⟨w.heap.size, 2, none⟩ = some (.int .i64 f.sectors) := h7.b0.cell 2
  have k3 : (w6.alloc (.cells #[.int .i64 (turnOf f by_).eye, .int .i64 (turnOf f by_).rings, .int .i64 (turnOf f by_).sectors, .slice A6 n6 c6] 24)).cell? ⟨w.heap.size, 3, none⟩ = some (.slice A f.kinds.length cp) := h7.b0.cell 3
  go_wp2_with fail
  refine (Mirror_d f _ _ (hF.mono h7.bel h7.bel.size)).mono ?_; rintro e w8 ⟨A8, n8, c8, rfl, hI8, -, hb8⟩
  clear k0 k1 k2 k3
  have h8 := h7.later hb8
  have fa_8 := fa_7.later hb8
  have fb_8 := fb_7.later hb8
  clear h7 fa_7 fb_7
  have hal9 : Below w8.heap.size w8 (w8.alloc (.cells #[.int .i64 (mirOf f).eye, .int .i64 (mirOf f).rings, .int .i64 (mirOf f).sectors, .slice A8 n8 c8] 24)) := (Below.refl _ _).alloc (Nat.le_refl _) _
  have fc_9 := FB.made w8 (mirOf f) (.slice A8 n8 c8) hI8
  have h9 := h8.later hal9
  have fa_9 := fa_8.later hal9
  have fb_9 := fb_8.later hal9
  clear h8 fa_8 fb_8
  clear hI8 hb8 hal9
  have k0 : (w8.alloc (.cells #[.int .i64 (mirOf f).eye, .int .i64 (mirOf f).rings, .int .i64 (mirOf f).sectors, .slice A8 n8 c8] 24)).cell? ⟨w.heap.size, 0, none⟩ = some (.int .i64 f.eye) := h9.b0.cell 0
  have k1 : (w8.alloc (.cells #[.int .i64 (mirOf f).eye, .int .i64 (mirOf f).rings, .int .i64 (mirOf f).sectors, .slice A8 n8 c8] 24)).cell? ⟨w.heap.size, 1, none⟩ = some (.int .i64 f.rings) := h9.b0.cell 1
  have k2 : (w8.alloc (.cells #[.int .i64 (mirOf f).eye, .int .i64 (mirOf f).rings, .int .i64 (mirOf f).sectors, .slice A8 n8 c8] 24)).cell? ⟨w.heap.size, 2, none⟩ = some (.int .i64 f.sectors) := h9.b0.cell 2
  have k3 : (w8.alloc (.cells #[.int .i64 (mirOf f).eye, .int .i64 (mirOf f).rings, .int .i64 (mirOf f).sectors, .slice A8 n8 c8] 24)).cell? ⟨w.heap.size, 3, none⟩ = some (.slice A f.kinds.length cp) := h9.b0.cell 3
  go_wp2_with fail
  refine (rMirror_d f _ _ (hF.mono h9.bel h9.bel.size)).mono ?_; rintro e w10 ⟨A10, n10, c10, rfl, hI10, -, hb10⟩
  clear k0 k1 k2 k3
  have h10 := h9.later hb10
  have fa_10 := fa_9.later hb10
  have fb_10 := fb_9.later hb10
  have fc_10 := fc_9.later hb10
  clear h9 fa_9 fb_9 fc_9
  have hal11 : Below w10.heap.size w10 (w10.alloc (.cells #[.int .i64 (mirOf f).eye, .int .i64 (mirOf f).rings, .int .i64 (mirOf f).sectors, .slice A10 n10 c10] 24)) := (Below.refl _ _).alloc (Nat.le_refl _) _
  have fd_11 := FB.made w10 (mirOf f) (.slice A10 n10 c10) hI10
  have h11 := h10.later hal11
  have fa_11 := fa_10.later hal11
  have fb_11 := fb_10.later hal11
  have fc_11 := fc_10.later hal11
  clear h10 fa_10 fb_10 fc_10
  clear hI10 hb10 hal11
  have k0 : (w10.alloc (.cells #[.int .i64 (mirOf f).eye, .int .i64 (mirOf f).rings, .int .i64 (mirOf f).sectors, .slice A10 n10 c10] 24)).cell? ⟨w.heap.size, 0, none⟩ = some (.int .i64 f.eye) := h11.b0.cell 0
  have k1 : (w10.alloc (.cells #[.int .i64 (mirOf f).eye, .int .i64 (mirOf f).rings, .int .i64 (mirOf f).sectors, .slice A10 n10 c10] 24)).cell? ⟨w.heap.size, 1, none⟩ = some (.int .i64 f.rings) := h11.b0.cell 1
  have k2 : (w10.alloc (.cells #[.int .i64 (mirOf f).eye, .int .i64 (mirOf f).rings, .int .i64 (mirOf f).sectors, .slice A10 n10 c10] 24)).cell? ⟨w.heap.size, 2, none⟩ = some (.int .i64 f.sectors) := h11.b0.cell 2
  have k3 : (w10.alloc (.cells #[.int .i64 (mirOf f).eye, .int .i64 (mirOf f).rings, .int .i64 (mirOf f).sectors, .slice A10 n10 c10] 24)).cell? ⟨w.heap.size, 3, none⟩ = some (.slice A f.kinds.length cp) := h11.b0.cell 3
  go_wp2_with fail
  refine (Normal_d f _ _ (hF.mono h11.bel h11.bel.size)).mono ?_; rintro e w12 ⟨A12, n12, c12, rfl, hI12, -, hb12⟩
  clear k0 k1 k2 k3
  have h12 := h11.later hb12
  have fa_12 := fa_11.later hb12
  have fb_12 := fb_11.later hb12
  have fc_12 := fc_11.later hb12
  have fd_12 := fd_11.later hb12
  clear h11 fa_11 fb_11 fc_11 fd_11
  have hal13 : Below w12.heap.size w12 (w12.alloc (.cells #[.int .i64 (norOf f).eye, .int .i64 (norOf f).rings, .int .i64 (norOf f).sectors, .slice A12 n12 c12] 24)) := (Below.refl _ _).alloc (Nat.le_refl _) _
  have fm_13 := FB.made w12 (norOf f) (.slice A12 n12 c12) hI12
  have h13 := h12.later hal13
  have fa_13 := fa_12.later hal13
  have fb_13 := fb_12.later hal13
  have fc_13 := fc_12.later hal13
  have fd_13 := fd_12.later hal13
  clear h12 fa_12 fb_12 fc_12 fd_12
  clear hI12 hb12 hal13
  have k0 : (w12.alloc (.cells #[.int .i64 (norOf f).eye, .int .i64 (norOf f).rings, .int .i64 (norOf f).sectors, .slice A12 n12 c12] 24)).cell? ⟨w.heap.size, 0, none⟩ = some (.int .i64 f.eye) := h13.b0.cell 0
  have k1 : (w12.alloc (.cells #[.int .i64 (norOf f).eye, .int .i64 (norOf f).rings, .int .i64 (norOf f).sectors, .slice A12 n12 c12] 24)).cell? ⟨w.heap.size, 1, none⟩ = some (.int .i64 f.rings) := h13.b0.cell 1
  have k2 : (w12.alloc (.cells #[.int .i64 (norOf f).eye, .int .i64 (norOf f).rings, .int .i64 (norOf f).sectors, .slice A12 n12 c12] 24)).cell? ⟨w.heap.size, 2, none⟩ = some (.int .i64 f.sectors) := h13.b0.cell 2
  have k3 : (w12.alloc (.cells #[.int .i64 (norOf f).eye, .int .i64 (norOf f).rings, .int .i64 (norOf f).sectors, .slice A12 n12 c12] 24)).cell? ⟨w.heap.size, 3, none⟩ = some (.slice A f.kinds.length cp) := h13.b0.cell 3
  go_wp2_with fail
  refine (rNormal_d f _ _ (hF.mono h13.bel h13.bel.size)).mono ?_; rintro e w14 ⟨A14, n14, c14, rfl, hI14, -, hb14⟩
  clear k0 k1 k2 k3
  have h14 := h13.later hb14
  have fa_14 := fa_13.later hb14
  have fb_14 := fb_13.later hb14
  have fc_14 := fc_13.later hb14
  have fd_14 := fd_13.later hb14
  have fm_14 := fm_13.later hb14
  clear h13 fa_13 fb_13 fc_13 fd_13 fm_13
  have hal15 : Below w14.heap.size w14 (w14.alloc (.cells #[.int .i64 (norOf f).eye, .int .i64 (norOf f).rings, .int .i64 (norOf f).sectors, .slice A14 n14 c14] 24)) := (Below.refl _ _).alloc (Nat.le_refl _) _
  have fn_15 := FB.made w14 (norOf f) (.slice A14 n14 c14) hI14
  have h15 := h14.later hal15
  have fa_15 := fa_14.later hal15
  have fb_15 := fb_14.later hal15
  have fc_15 := fc_14.later hal15
  have fd_15 := fd_14.later hal15
  have fm_15 := fm_14.later hal15
  clear h14 fa_14 fb_14 fc_14 fd_14 fm_14
  clear hI14 hb14 hal15
  have p0 : (w14.alloc (.cells #[.int .i64 (norOf f).eye, .int .i64 (norOf f).rings, .int .i64 (norOf f).sectors, .slice A14 n14 c14] 24)).cell? ⟨w4.heap.size, 0, none⟩ = some (.int .i64 (turnOf f by_).eye) := fa_15.bx.cell 0
  have p1 : (w14.alloc (.cells #[.int .i64 (norOf f).eye, .int .i64 (norOf f).rings, .int .i64 (norOf f).sectors, .slice A14 n14 c14] 24)).cell? ⟨w4.heap.size, 1, none⟩ = some (.int .i64 (turnOf f by_).rings) := fa_15.bx.cell 1
  have p2 : (w14.alloc (.cells #[.int .i64 (norOf f).eye, .int .i64 (norOf f).rings, .int .i64 (norOf f).sectors, .slice A14 n14 c14] 24)).cell? ⟨w4.heap.size, 2, none⟩ = some (.int .i64 (turnOf f by_).sectors) := fa_15.bx.cell 2
  have p3 : (w14.alloc (.cells #[.int .i64 (norOf f).eye, .int .i64 (norOf f).rings, .int .i64 (norOf f).sectors, .slice A14 n14 c14] 24)).cell? ⟨w4.heap.size, 3, none⟩ = some (.slice A4 n4 c4) := fa_15.bx.cell 3
  have q0 : (w14.alloc (.cells #[.int .i64 (norOf f).eye, .int .i64 (norOf f).rings, .int .i64 (norOf f).sectors, .slice A14 n14 c14] 24)).cell? ⟨w6.heap.size, 0, none⟩ = some (.int .i64 (turnOf f by_).eye) := fb_15.bx.cell 0
  have q1 : (w14.alloc (.cells #[.int .i64 (norOf f).eye, .int .i64 (norOf f).rings, .int .i64 (norOf f).sectors, .slice A14 n14 c14] 24)).cell? ⟨w6.heap.size, 1, none⟩ = some (.int .i64 (turnOf f by_).rings) := fb_15.bx.cell 1
  have q2 : (w14.alloc (.cells #[.int .i64 (norOf f).eye, .int .i64 (norOf f).rings, .int .i64 (norOf f).sectors, .slice A14 n14 c14] 24)).cell? ⟨w6.heap.size, 2, none⟩ = some (.int .i64 (turnOf f by_).sectors) := fb_15.bx.cell 2
  have q3 : (w14.alloc (.cells #[.int .i64 (norOf f).eye, .int .i64 (norOf f).rings, .int .i64 (norOf f).sectors, .slice A14 n14 c14] 24)).cell? ⟨w6.heap.size, 3, none⟩ = some (.slice A6 n6 c6) := fb_15.bx.cell 3
  go_wp2_with fail
  refine (rSame_c (turnOf f by_) (turnOf f by_) _ _ _ (IsFace.mk fa_15.it) (IsFace.mk fb_15.it)).mono ?_; rw [same_self]; rintro e w16 ⟨rfl, hb16⟩
  clear p0 p1 p2 p3 q0 q1 q2 q3
  have h16 := h15.later hb16
  have fa_16 := fa_15.later hb16
  have fb_16 := fb_15.later hb16
  have fc_16 := fc_15.later hb16
  have fd_16 := fd_15.later hb16
  have fm_16 := fm_15.later hb16
  have fn_16 := fn_15.later hb16
  clear h15 fa_15 fb_15 fc_15 fd_15 fm_15 fn_15
  clear hb16
  have p0 : w16.cell? ⟨w8.heap.size, 0, none⟩ = some (.int .i64 (mirOf f).eye) := fc_16.bx.cell 0
  have p1 : w16.cell? ⟨w8.heap.size, 1, none⟩ = some (.int .i64 (mirOf f).rings) := fc_16.bx.cell 1
  have p2 : w16.cell? ⟨w8.heap.size, 2, none⟩ = some (.int .i64 (mirOf f).sectors) := fc_16.bx.cell 2
  have p3 : w16.cell? ⟨w8.heap.size, 3, none⟩ = some (.slice A8 n8 c8) := fc_16.bx.cell 3
  have q0 : w16.cell? ⟨w10.heap.size, 0, none⟩ = some (.int .i64 (mirOf f).eye) := fd_16.bx.cell 0
  have q1 : w16.cell? ⟨w10.heap.size, 1, none⟩ = some (.int .i64 (mirOf f).rings) := fd_16.bx.cell 1
  have q2 : w16.cell? ⟨w10.heap.size, 2, none⟩ = some (.int .i64 (mirOf f).sectors) := fd_16.bx.cell 2
  have q3 : w16.cell? ⟨w10.heap.size, 3, none⟩ = some (.slice A10 n10 c10) := fd_16.bx.cell 3
  go_wp2_with fail
  refine (rSame_c (mirOf f) (mirOf f) _ _ _ (IsFace.mk fc_16.it) (IsFace.mk fd_16.it)).mono ?_; rw [same_self]; rintro e w17 ⟨rfl, hb17⟩
  clear p0 p1 p2 p3 q0 q1 q2 q3
  have h17 := h16.later hb17
  have fa_17 := fa_16.later hb17
  have fb_17 := fb_16.later hb17
  have fc_17 := fc_16.later hb17
  have fd_17 := fd_16.later hb17
  have fm_17 := fm_16.later hb17
  have fn_17 := fn_16.later hb17
  clear h16 fa_16 fb_16 fc_16 fd_16 fm_16 fn_16
  clear hb17
  have p0 : w17.cell? ⟨w12.heap.size, 0, none⟩ = some (.int .i64 (norOf f).eye) := fm_17.bx.cell 0
  have p1 : w17.cell? ⟨w12.heap.size, 1, none⟩ = some (.int .i64 (norOf f).rings) := fm_17.bx.cell 1
  have p2 : w17.cell? ⟨w12.heap.size, 2, none⟩ = some (.int .i64 (norOf f).sectors) := fm_17.bx.cell 2
  have p3 : w17.cell? ⟨w12.heap.size, 3, none⟩ = some (.slice A12 n12 c12) := fm_17.bx.cell 3
  have q0 : w17.cell? ⟨w14.heap.size, 0, none⟩ = some (.int .i64 (norOf f).eye) := fn_17.bx.cell 0
  have q1 : w17.cell? ⟨w14.heap.size, 1, none⟩ = some (.int .i64 (norOf f).rings) := fn_17.bx.cell 1
  have q2 : w17.cell? ⟨w14.heap.size, 2, none⟩ = some (.int .i64 (norOf f).sectors) := fn_17.bx.cell 2
  have q3 : w17.cell? ⟨w14.heap.size, 3, none⟩ = some (.slice A14 n14 c14) := fn_17.bx.cell 3
  go_wp2_with fail
  refine (rSame_c (norOf f) (norOf f) _ _ _ (IsFace.mk fm_17.it) (IsFace.mk fn_17.it)).mono ?_; rw [same_self]; rintro e w18 ⟨rfl, hb18⟩
  clear p0 p1 p2 p3 q0 q1 q2 q3
  have h18 := h17.later hb18
  have fa_18 := fa_17.later hb18
  have fb_18 := fb_17.later hb18
  have fc_18 := fc_17.later hb18
  have fd_18 := fd_17.later hb18
  have fm_18 := fm_17.later hb18
  have fn_18 := fn_17.later hb18
  clear h17 fa_17 fb_17 fc_17 fd_17 fm_17 fn_17
  clear hb18
  clear fa_18 fb_18 fc_18 fd_18 fm_18 fn_18
  have k0 : w18.cell? ⟨w.heap.size, 0, none⟩ = some (.int .i64 f.eye) := h18.b0.cell 0
  have k1 : w18.cell? ⟨w.heap.size, 1, none⟩ = some (.int .i64 f.rings) := h18.b0.cell 1
  have k2 : w18.cell? ⟨w.heap.size, 2, none⟩ = some (.int .i64 f.sectors) := h18.b0.cell 2
  have k3 : w18.cell? ⟨w.heap.size, 3, none⟩ = some (.slice A f.kinds.length cp) := h18.b0.cell 3
  have k4 : w18.cell? ⟨w.heap.size + 1, 0, none⟩ = some (.int .i64 g.eye) := h18.b1.cell 0
  have k5 : w18.cell? ⟨w.heap.size + 1, 1, none⟩ = some (.int .i64 g.rings) := h18.b1.cell 1
  have k6 : w18.cell? ⟨w.heap.size + 1, 2, none⟩ = some (.int .i64 g.sectors) := h18.b1.cell 2
  have k7 : w18.cell? ⟨w.heap.size + 1, 3, none⟩ = some (.slice A' g.kinds.length cp') := h18.b1.cell 3
  go_wp2_with fail
  refine (Turns_d f g _ _ _ (hF.mono h18.bel h18.bel.size) (hG.mono h18.bel h18.bel.size)).mono ?_; rintro e w19 ⟨A19, n19, c19, rfl, iP, -, hb19⟩
  clear k0 k1 k2 k3 k4 k5 k6 k7
  have h19 := h18.later hb19
  clear h18
  clear hb19
  have k0 : w19.cell? ⟨w.heap.size, 0, none⟩ = some (.int .i64 f.eye) := h19.b0.cell 0
  have k1 : w19.cell? ⟨w.heap.size, 1, none⟩ = some (.int .i64 f.rings) := h19.b0.cell 1
  have k2 : w19.cell? ⟨w.heap.size, 2, none⟩ = some (.int .i64 f.sectors) := h19.b0.cell 2
  have k3 : w19.cell? ⟨w.heap.size, 3, none⟩ = some (.slice A f.kinds.length cp) := h19.b0.cell 3
  have k4 : w19.cell? ⟨w.heap.size + 1, 0, none⟩ = some (.int .i64 g.eye) := h19.b1.cell 0
  have k5 : w19.cell? ⟨w.heap.size + 1, 1, none⟩ = some (.int .i64 g.rings) := h19.b1.cell 1
  have k6 : w19.cell? ⟨w.heap.size + 1, 2, none⟩ = some (.int .i64 g.sectors) := h19.b1.cell 2
  have k7 : w19.cell? ⟨w.heap.size + 1, 3, none⟩ = some (.slice A' g.kinds.length cp') := h19.b1.cell 3
  go_wp2_with fail
  refine (rTurns_d f g _ _ _ (hF.mono h19.bel h19.bel.size) (hG.mono h19.bel h19.bel.size)).mono ?_; rintro e w20 ⟨A20, n20, c20, rfl, iQ, -, hb20⟩
  clear k0 k1 k2 k3 k4 k5 k6 k7
  have h20 := h19.later hb20
  clear h19
  have iP20 := iP.mono hb20 hb20.size
  clear iP hb20
  have k0 : w20.cell? ⟨w.heap.size, 0, none⟩ = some (.int .i64 f.eye) := h20.b0.cell 0
  have k1 : w20.cell? ⟨w.heap.size, 1, none⟩ = some (.int .i64 f.rings) := h20.b0.cell 1
  have k2 : w20.cell? ⟨w.heap.size, 2, none⟩ = some (.int .i64 f.sectors) := h20.b0.cell 2
  have k3 : w20.cell? ⟨w.heap.size, 3, none⟩ = some (.slice A f.kinds.length cp) := h20.b0.cell 3
  go_wp2_with fail
  refine (Period_d f _ _ (hF.mono h20.bel h20.bel.size)).mono ?_; rintro e w21 ⟨rfl, hb21⟩
  clear k0 k1 k2 k3
  have h21 := h20.later hb21
  clear h20
  have iP21 := iP20.mono hb21 hb21.size
  have iQ21 := iQ.mono hb21 hb21.size
  clear iP20 iQ
  clear hb21
  have k0 : w21.cell? ⟨w.heap.size, 0, none⟩ = some (.int .i64 f.eye) := h21.b0.cell 0
  have k1 : w21.cell? ⟨w.heap.size, 1, none⟩ = some (.int .i64 f.rings) := h21.b0.cell 1
  have k2 : w21.cell? ⟨w.heap.size, 2, none⟩ = some (.int .i64 f.sectors) := h21.b0.cell 2
  have k3 : w21.cell? ⟨w.heap.size, 3, none⟩ = some (.slice A f.kinds.length cp) := h21.b0.cell 3
  go_wp2_with fail
  refine (rPeriod_c f _ _ (hF.mono h21.bel h21.bel.size)).mono ?_; rintro e w22 ⟨rfl, hb22⟩
  clear k0 k1 k2 k3
  have h22 := h21.later hb22
  clear h21
  have iP22 := iP21.mono hb22 hb22.size
  have iQ22 := iQ21.mono hb22 hb22.size
  clear iP21 iQ21
  clear hb22
  have k0 : w22.cell? ⟨w.heap.size, 0, none⟩ = some (.int .i64 f.eye) := h22.b0.cell 0
  have k1 : w22.cell? ⟨w.heap.size, 1, none⟩ = some (.int .i64 f.rings) := h22.b0.cell 1
  have k2 : w22.cell? ⟨w.heap.size, 2, none⟩ = some (.int .i64 f.sectors) := h22.b0.cell 2
  have k3 : w22.cell? ⟨w.heap.size, 3, none⟩ = some (.slice A f.kinds.length cp) := h22.b0.cell 3
  go_wp2_with fail
  refine (Harp_d f _ _ (hF.mono h22.bel h22.bel.size)).mono ?_; rintro e w23 ⟨A23, n23, c23, rfl, hI23, -, hb23⟩
  clear k0 k1 k2 k3
  have h23 := h22.later hb23
  clear h22
  have iP23 := iP22.mono hb23 hb23.size
  have iQ23 := iQ22.mono hb23 hb23.size
  clear iP22 iQ22
  have hal24 : Below w23.heap.size w23 (w23.alloc (.cells #[.int .i64 (harOf f).eye, .int .i64 (harOf f).rings, .int .i64 (harOf f).sectors, .slice A23 n23 c23] 24)) := (Below.refl _ _).alloc (Nat.le_refl _) _
  have fw_24 := FB.made w23 (harOf f) (.slice A23 n23 c23) hI23
  have h24 := h23.later hal24
  clear h23
  have iP24 := iP23.mono hal24 hal24.size
  have iQ24 := iQ23.mono hal24 hal24.size
  clear iP23 iQ23
  clear hI23 hb23 hal24
  have k0 : (w23.alloc (.cells #[.int .i64 (harOf f).eye, .int .i64 (harOf f).rings, .int .i64 (harOf f).sectors, .slice A23 n23 c23] 24)).cell? ⟨w.heap.size, 0, none⟩ = some (.int .i64 f.eye) := h24.b0.cell 0
  have k1 : (w23.alloc (.cells #[.int .i64 (harOf f).eye, .int .i64 (harOf f).rings, .int .i64 (harOf f).sectors, .slice A23 n23 c23] 24)).cell? ⟨w.heap.size, 1, none⟩ = some (.int .i64 f.rings) := h24.b0.cell 1
  have k2 : (w23.alloc (.cells #[.int .i64 (harOf f).eye, .int .i64 (harOf f).rings, .int .i64 (harOf f).sectors, .slice A23 n23 c23] 24)).cell? ⟨w.heap.size, 2, none⟩ = some (.int .i64 f.sectors) := h24.b0.cell 2
  have k3 : (w23.alloc (.cells #[.int .i64 (harOf f).eye, .int .i64 (harOf f).rings, .int .i64 (harOf f).sectors, .slice A23 n23 c23] 24)).cell? ⟨w.heap.size, 3, none⟩ = some (.slice A f.kinds.length cp) := h24.b0.cell 3
  go_wp2_with fail
  refine (rHarp_d f _ _ (hF.mono h24.bel h24.bel.size)).mono ?_; rintro e w25 ⟨A25, n25, c25, rfl, hI25, -, hb25⟩
  clear k0 k1 k2 k3
  have h25 := h24.later hb25
  have fw_25 := fw_24.later hb25
  clear h24 fw_24
  have iP25 := iP24.mono hb25 hb25.size
  have iQ25 := iQ24.mono hb25 hb25.size
  clear iP24 iQ24
  have hal26 : Below w25.heap.size w25 (w25.alloc (.cells #[.int .i64 (harOf f).eye, .int .i64 (harOf f).rings, .int .i64 (harOf f).sectors, .slice A25 n25 c25] 24)) := (Below.refl _ _).alloc (Nat.le_refl _) _
  have fy_26 := FB.made w25 (harOf f) (.slice A25 n25 c25) hI25
  have h26 := h25.later hal26
  have fw_26 := fw_25.later hal26
  clear h25 fw_25
  have iP26 := iP25.mono hal26 hal26.size
  have iQ26 := iQ25.mono hal26 hal26.size
  clear iP25 iQ25
  clear hI25 hb25 hal26
  go_wp2_with fail
  refine (sameInts_c (tnsOf f g) (tnsOf f g) _ _ _ iP26 iQ26).mono ?_; rw [decide_eq_true (Eq.refl (tnsOf f g))]; rintro e w27 ⟨rfl, hb27⟩
  have h27 := h26.later hb27
  have fw_27 := fw_26.later hb27
  have fy_27 := fy_26.later hb27
  clear h26 fw_26 fy_26
  clear hb27 iP26 iQ26
  have p0 : w27.cell? ⟨w23.heap.size, 0, none⟩ = some (.int .i64 (harOf f).eye) := fw_27.bx.cell 0
  have p1 : w27.cell? ⟨w23.heap.size, 1, none⟩ = some (.int .i64 (harOf f).rings) := fw_27.bx.cell 1
  have p2 : w27.cell? ⟨w23.heap.size, 2, none⟩ = some (.int .i64 (harOf f).sectors) := fw_27.bx.cell 2
  have p3 : w27.cell? ⟨w23.heap.size, 3, none⟩ = some (.slice A23 n23 c23) := fw_27.bx.cell 3
  have q0 : w27.cell? ⟨w25.heap.size, 0, none⟩ = some (.int .i64 (harOf f).eye) := fy_27.bx.cell 0
  have q1 : w27.cell? ⟨w25.heap.size, 1, none⟩ = some (.int .i64 (harOf f).rings) := fy_27.bx.cell 1
  have q2 : w27.cell? ⟨w25.heap.size, 2, none⟩ = some (.int .i64 (harOf f).sectors) := fy_27.bx.cell 2
  have q3 : w27.cell? ⟨w25.heap.size, 3, none⟩ = some (.slice A25 n25 c25) := fy_27.bx.cell 3
  go_wp2_with fail
  refine (rSame_c (harOf f) (harOf f) _ _ _ (IsFace.mk fw_27.it) (IsFace.mk fy_27.it)).mono ?_; rw [same_self]; rintro e w28 ⟨rfl, hb28⟩
  clear p0 p1 p2 p3 q0 q1 q2 q3
  have hend := chain h27.bel hb28
  clear fw_27 fy_27 hb28 h27
  go_wp2_with fail
  go_ret
  exact ⟨rfl, hend⟩

end Go.Proofs.YtpejcdjgggcjlaaGreatDoor

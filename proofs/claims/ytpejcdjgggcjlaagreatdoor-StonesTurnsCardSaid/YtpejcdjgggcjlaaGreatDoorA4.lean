/- The walks of redrawn, turned and Turn. -/
import Derived.Test.YtpejcdjgggcjlaaGreatDoorA3
import Derived.Deep.AppendLies
import Derived.Maps.AppendAt
namespace Go.Proofs.YtpejcdjgggcjlaaGreatDoor
open Go.RowKit

theorem Tryz.infoInt : (Tryz.prog.info? 3).map (fun i => (i.zero, i.size, i.bytes)) = some (some (.int .i64 0), 1, 8) := by kernel_rfl

/-- the kinds of a face that is drawn anew, up to a place -/
def redL (f : Fc) (S : Nat) (fr : Int → Int) (n : Nat) : List Int := (List.range n).map fun i => kat f (i / S : Nat) (fr (i % S : Nat))
theorem redL_snoc (f : Fc) (S : Nat) (fr : Int → Int) (n : Nat) : redL f S fr (n + 1) = redL f S fr n ++ [kat f (n / S : Nat) (fr (n % S : Nat))] := by
  simp [redL, List.range_succ]
theorem redL_step {f : Fc} {S : Nat} {fr : Int → Int} {k m : Nat} (hm : m < S) : redL f S fr (k * S + (m + 1)) = redL f S fr (k * S + m) ++ [kat f (k : Int) (fr (m : Int))] := by
  have e1 : (k * S + m) / S = k := by
    rw [Nat.add_comm, Nat.add_mul_div_right _ _ (by omega), Nat.div_eq_of_lt hm]; omega
  have e2 : (k * S + m) % S = m := by
    rw [Nat.add_comm, Nat.add_mul_mod_self_right, Nat.mod_eq_of_lt hm]
  rw [← Nat.add_assoc, redL_snoc, e1, e2]
theorem redL_len (f : Fc) (S : Nat) (fr : Int → Int) (n : Nat) : (redL f S fr n).length = n := by simp [redL]
theorem resBox (w : World) (o : Obj) : Box ((w.alloc o).alloc (.cells #[.int .i64 0, .int .i64 0, .int .i64 0, .slice none 0 0] 24)) (w.heap.size + 1) 24 #[.int .i64 0, .int .i64 0, .int .i64 0, .slice none 0 0] := by
  have e1 := Box.made (w.alloc o) 24 #[.int .i64 0, .int .i64 0, .int .i64 0, .slice none 0 0]
  rwa [World.size_alloc] at e1
theorem faceBox (w : World) (f : Fc) (s : Value) (o : Obj) : Box ((w.alloc (.cells #[.int .i64 f.eye, .int .i64 f.rings, .int .i64 f.sectors, s] 24)).alloc o) w.heap.size 24 #[.int .i64 f.eye, .int .i64 f.rings, .int .i64 f.sectors, s] := (Box.made _ _ _).alloc o

/-- what memory looks like while a face is drawn anew -/
structure RedSt (w wr : World) (f : Fc) (S : Nat) (s : Value) (L : List Int) (gv : Value) : Prop where
  b0 : Box wr w.heap.size 24 #[.int .i64 f.eye, .int .i64 f.rings, .int .i64 f.sectors, s]
  b1 : Box wr (w.heap.size + 1) 24 #[.int .i64 0, .int .i64 0, .int .i64 0, .slice none 0 0]
  b2 : Box wr (w.heap.size + 1 + 1) 24 #[.int .i64 f.eye, .int .i64 f.rings, .int .i64 S, gv]
  own : wr.ownsRow (w.heap.size + 1 + 1 + 1) 3 1 gv L.length (ints L)
  bel : Below w.heap.size w wr

theorem own_far2 {w : World} {g : Nat} {e : TypeId} {size : Nat} {v : Value} {n : Nat} {xs : List Value} (h : w.ownsRow g e size v n xs) {k : Nat} (hk : k < g) : v.ownBlock ≠ some k := fun e => by have := (h.lt k e).1; omega
theorem RedSt.step {w wr w2 w4 : World} {f : Fc} {S : Nat} {s : Value} {L : List Int} {gv v' : Value} {o : Obj} {x : Int} (hst : RedSt w wr f S s L gv) (hb2 : Below wr.heap.size wr w2)
    (hgrow : (w2.alloc o).grownBy w4 gv.ownBlock) (hown4 : w4.ownsRow (w.heap.size + 1 + 1 + 1) 3 1 v' (L.length + 1) (ints L ++ [.int .i64 x])) :
    RedSt w (w4.setCell ⟨w.heap.size + 1 + 1, 3, none⟩ v') f S s (L ++ [x]) v' := by
  have c0 := (((hst.b0.later hb2).alloc o).grown hgrow (own_far2 hst.own (by omega))).far (p := ⟨w.heap.size + 1 + 1, 3, none⟩) (by simp; omega) v'
  have c1 := (((hst.b1.later hb2).alloc o).grown hgrow (own_far2 hst.own (by omega))).far (p := ⟨w.heap.size + 1 + 1, 3, none⟩) (by simp) v'
  have c2 := (((hst.b2.later hb2).alloc o).grown hgrow (own_far2 hst.own (by omega))).put 3 v'
  have hs2 := (hst.b2.later hb2).lt
  refine ⟨c0, c1, c2, ?_, ?_⟩
  · rw [List.length_append, ints_snoc]
    exact own_far hown4 (by simp) _
  · have e1 : Below w.heap.size w w2 := hst.bel.trans (hb2.mono hst.bel.size)
    have e2 : Below w.heap.size w (w2.alloc o) := e1.alloc e1.size o
    exact (e2.grown hgrow e2.size (fun k e => by have := (hst.own.lt k e).1; omega)).setCell (by simp; omega) v'

/-- a face comes back, in new memory -/
def RetFace (w : World) (g : Fc) (e : Ending) (w' : World) : Prop := ∃ A n c, e = .returned (.agg #[.int .i64 g.eye, .int .i64 g.rings, .int .i64 g.sectors, .slice A n c]) ∧ Ints w' w'.heap.size (.slice A n c) g.kinds ∧ NewS w.heap.size (.slice A n c) ∧ Below w.heap.size w w'
/-- a face and an error come back, the face in new memory -/
def RetFaceE (w : World) (g : Fc) (er : Int) (e : Ending) (w' : World) : Prop := ∃ A n c, e = .returned (.tuple #[.agg #[.int .i64 g.eye, .int .i64 g.rings, .int .i64 g.sectors, .slice A n c], .int .i64 er]) ∧ Ints w' w'.heap.size (.slice A n c) g.kinds ∧ NewS w.heap.size (.slice A n c) ∧ Below w.heap.size w w'
theorem IsFace.mk {w : World} {B : Nat} {g : Fc} {s : Value} (h : Ints w B s g.kinds) : IsFace w B (.agg #[.int .i64 g.eye, .int .i64 g.rings, .int .i64 g.sectors, s]) g := ⟨s, rfl, h⟩

/-- a world in which a face has been written into a box -/
def putF (wr : World) (g : Nat) (G : Fc) (s : Value) : World :=
  (((wr.setCell ⟨g, 0, none⟩ (.int .i64 G.eye)).setCell ⟨g, 1, none⟩ (.int .i64 G.rings)).setCell ⟨g, 2, none⟩ (.int .i64 G.sectors)).setCell ⟨g, 3, none⟩ s
theorem putF_box {wr : World} {g : Nat} {G : Fc} {s z0 z1 z2 z3 : Value} (h : Box wr g 24 #[z0, z1, z2, z3]) : Box (putF wr g G s) g 24 #[.int .i64 G.eye, .int .i64 G.rings, .int .i64 G.sectors, s] :=
  (((h.put 0 (.int .i64 G.eye)).put 1 (.int .i64 G.rings)).put 2 (.int .i64 G.sectors)).put 3 s
theorem putF_far {wr : World} {g g' : Nat} {t : TypeId} {cs : Array Value} {G : Fc} {s : Value} (h : Box wr g' t cs) (hne : g' ≠ g) : Box (putF wr g G s) g' t cs :=
  (((h.far (p := ⟨g, 0, none⟩) hne _).far (p := ⟨g, 1, none⟩) hne _).far (p := ⟨g, 2, none⟩) hne _).far (p := ⟨g, 3, none⟩) hne _
theorem putF_below {w wr : World} {B g : Nat} {G : Fc} {s : Value} (h : Below B w wr) (hg : B ≤ g) : Below B w (putF wr g G s) :=
  (((h.setCell (p := ⟨g, 0, none⟩) hg _).setCell (p := ⟨g, 1, none⟩) hg _).setCell (p := ⟨g, 2, none⟩) hg _).setCell (p := ⟨g, 3, none⟩) hg _
theorem putF_size {wr : World} {g : Nat} {G : Fc} {s : Value} : (putF wr g G s).heap.size = wr.heap.size := by simp [putF, World.setCell]
theorem putF_ints {wr : World} {B lo g : Nat} {G : Fc} {s s' : Value} {l : List Int} (h : Ints wr B s l) (hn : NewS lo s) (hg : g < lo) : Ints (putF wr g G s') B s l :=
  (((h.far hn (p := ⟨g, 0, none⟩) hg _).far hn (p := ⟨g, 1, none⟩) hg _).far hn (p := ⟨g, 2, none⟩) hg _).far hn (p := ⟨g, 3, none⟩) hg _
theorem putF_own {wr : World} {base g : Nat} {e : TypeId} {size n : Nat} {v s : Value} {xs : List Value} {G : Fc} (h : wr.ownsRow base e size v n xs) (hg : g < base) : (putF wr g G s).ownsRow base e size v n xs :=
  own_far (own_far (own_far (own_far h (p := ⟨g, 0, none⟩) hg _) (p := ⟨g, 1, none⟩) hg _) (p := ⟨g, 2, none⟩) hg _) (p := ⟨g, 3, none⟩) hg _

/-- the end of a function that hands back a face out of a box of its own -/
theorem endFace {fn : Func} {t : Nat} {w wf : World} {g : Nat} {G : Fc} {A : Option Addr} {n c : Nat} {tmps : Array Value} (hfn : fn.results = #[.cell t 24]) (ht : tmps[t]? = some (.pointer (some ⟨g, 0, none⟩)))
    (hb : Box wf g 24 #[.int .i64 G.eye, .int .i64 G.rings, .int .i64 G.sectors, .slice A n c]) (hi : Ints wf wf.heap.size (.slice A n c) G.kinds) (hn : NewS w.heap.size (.slice A n c)) (hbel : Below w.heap.size w wf) :
    bodyPost Tryz.prog fn (RetFace w G) Exit.ret { tmps, defers := [] } wf := by
  have q0 : wf.cell? ⟨g, 0, none⟩ = some (.int .i64 G.eye) := hb.cell 0
  have q1 : wf.cell? ⟨g, 1, none⟩ = some (.int .i64 G.rings) := hb.cell 1
  have q2 : wf.cell? ⟨g, 2, none⟩ = some (.int .i64 G.sectors) := hb.cell 2
  have q3 : wf.cell? ⟨g, 3, none⟩ = some (.slice A n c) := hb.cell 3
  exact bodyPost_ret (v := .agg #[.int .i64 G.eye, .int .i64 G.rings, .int .i64 G.sectors, .slice A n c]) (by simp [results, hfn, go_sem, ht, q0, q1, q2, q3]) rfl ⟨_, _, _, rfl, hi, hn, hbel⟩
theorem endFaceE {fn : Func} {t u : Nat} {w wf : World} {g : Nat} {G : Fc} {er : Int} {A : Option Addr} {n c : Nat} {tmps : Array Value} (hfn : fn.results = #[.cell t 24, .tmp u]) (ht : tmps[t]? = some (.pointer (some ⟨g, 0, none⟩))) (hu : tmps[u]? = some (.int .i64 er))
    (hb : Box wf g 24 #[.int .i64 G.eye, .int .i64 G.rings, .int .i64 G.sectors, .slice A n c]) (hi : Ints wf wf.heap.size (.slice A n c) G.kinds) (hn : NewS w.heap.size (.slice A n c)) (hbel : Below w.heap.size w wf) :
    bodyPost Tryz.prog fn (RetFaceE w G er) Exit.ret { tmps, defers := [] } wf := by
  have q0 : wf.cell? ⟨g, 0, none⟩ = some (.int .i64 G.eye) := hb.cell 0
  have q1 : wf.cell? ⟨g, 1, none⟩ = some (.int .i64 G.rings) := hb.cell 1
  have q2 : wf.cell? ⟨g, 2, none⟩ = some (.int .i64 G.sectors) := hb.cell 2
  have q3 : wf.cell? ⟨g, 3, none⟩ = some (.slice A n c) := hb.cell 3
  exact bodyPost_ret (v := .tuple #[.agg #[.int .i64 G.eye, .int .i64 G.rings, .int .i64 G.sectors, .slice A n c], .int .i64 er]) (by simp [results, hfn, go_sem, ht, hu, q0, q1, q2, q3]) rfl ⟨_, _, _, rfl, hi, hn, hbel⟩

theorem redEnd {w wr : World} {f : Fc} {S k : Nat} {s : Value} {fr : Int → Int} {A' : Option Addr} {n c' : Nat} {tmps : Array Value} (hst : RedSt w wr f S s (redL f S fr (k * S)) (.slice A' n c'))
    (ht : tmps[6]? = some (.pointer (some ⟨w.heap.size + 1, 0, none⟩))) (hk : f.rings = k) (hk2 : k ≤ 24) (hS : S ≤ 96) :
    bodyPost Tryz.prog Tryz.f64 (RetFace w { eye := f.eye, rings := f.rings, sectors := S, kinds := redL f S fr (f.rings.toNat * S) }) Exit.ret { tmps, defers := [] }
      (putF wr (w.heap.size + 1) { eye := f.eye, rings := f.rings, sectors := S, kinds := [] } (.slice A' n c')) := by
  have hkS : k * S ≤ 24 * 96 := Nat.mul_le_mul hk2 hS
  refine endFace Tryz.results64 ht (putF_box hst.b1) ?_ ((NewS.own hst.own).mono (by omega)) (putF_below hst.bel (by omega))
  rw [show f.rings.toNat = k by omega, putF_size]
  exact putF_ints (ints_own hst.own (Nat.le_refl _) (by rw [redL_len]; omega)) (NewS.own hst.own) (by omega)

set_option maxRecDepth 100000 in
set_option maxHeartbeats 2000000 in
theorem redrawnT_c (f : Fc) (v : Value) (S : Nat) (back : Int) (bb bf : Nat) (w : World) (h : IsFace w w.heap.size v f) (hv : validB f = true) (hS1 : 1 ≤ S) (hS2 : (S : Int) ≤ f.sectors)
    (h3 : 0 ≤ back) (h4 : back ≤ 96) (hbb : bb < w.heap.size) (hbf : bf < w.heap.size) (hb : w.cell? ⟨bb, 0, none⟩ = some (.int .i64 back)) (hf : w.cell? ⟨bf, 2, none⟩ = some (.int .i64 f.sectors)) :
    Calls Tryz.prog 64 #[v, .int .i64 S, .func (.func 79) #[] #[.pointer (some ⟨bb, 0, none⟩), .pointer (some ⟨bf, 0, none⟩)]] w
      (RetFace w { eye := f.eye, rings := f.rings, sectors := S, kinds := redL f S (fun i => rnd (i - back) f.sectors) (f.rings.toNat * S) }) := by
  have hF := h
  obtain ⟨s, rfl, hlen, A, cp, rfl, hcap, hcell⟩ := h
  obtain ⟨⟨⟨a1, a2⟩, ⟨a3, a4⟩, a5, a6⟩, hl, -⟩ := validB_iff.1 hv
  clear hcell hl
  obtain ⟨R, hR⟩ := Int.eq_ofNat_of_zero_le (show 0 ≤ f.rings by omega)
  have HR := Lib.hid hR
  have hR3 : (R : Int) ≤ f.rings := by omega
  have hR4 : f.rings ≤ (R : Int) := by omega
  have hR1 : 1 ≤ R := by omega
  have hR2 : R ≤ 24 := by omega
  clear hR
  obtain ⟨i0, hi, hz0, hz1, hz2⟩ := info_parts Tryz.infoInt
  go_enter Tryz.func64, Tryz.ntmps64
  go_wp2_with fail
  go_loopw [18] (fun i wr => ∃ (k : Nat) (gv : Value), k ≤ R ∧ i = .int .i64 k ∧ RedSt w wr f S (.slice A f.kinds.length cp) (redL f S (fun i => rnd (i - back) f.sectors) (k * S)) gv) (fun i _ => R - (intOf i).toNat)
  case atStart =>
    refine ⟨0, .slice none 0 0, Nat.zero_le _, rfl, ?_⟩
    rw [Nat.zero_mul]
    have e0 := Box.made w 24 #[.int .i64 f.eye, .int .i64 f.rings, .int .i64 f.sectors, .slice A f.kinds.length cp]
    have e1 := Box.made (w.alloc (.cells #[.int .i64 f.eye, .int .i64 f.rings, .int .i64 f.sectors, .slice A f.kinds.length cp] 24)) 24 #[.int .i64 0, .int .i64 0, .int .i64 0, .slice none 0 0]
    rw [World.size_alloc] at e1
    have e2 := Box.made ((w.alloc (.cells #[.int .i64 f.eye, .int .i64 f.rings, .int .i64 f.sectors, .slice A f.kinds.length cp] 24)).alloc (.cells #[.int .i64 0, .int .i64 0, .int .i64 0, .slice none 0 0] 24)) 24 #[.int .i64 f.eye, .int .i64 f.rings, .int .i64 S, .slice none 0 0]
    rw [World.size_alloc, World.size_alloc] at e2
    exact ⟨(e0.alloc _).alloc _, e1.alloc _, e2, World.ownsRow_nil _ _ _ _, (((Below.refl _ _).alloc (Nat.le_refl _) _).alloc (by simp) _).alloc (by simp; omega) _⟩
  case round =>
    obtain ⟨k, gv, hk, rfl, hst⟩ := hrel
    have h01 : wr.cell? ⟨w.heap.size, 1, none⟩ = some (.int .i64 f.rings) := hst.b0.cell 1
    by_cases hlt : k < R
    · have hdk : decide ((k : Int) < f.rings) = true := by rw [decide_eq_true_iff]; omega
      go_wp2_with fail
      clear h01
      obtain ⟨wo, rfl⟩ : ∃ wo : World, wo = wr := ⟨_, rfl⟩
      go_loopw [22] (fun j wx => ∃ (m : Nat) (gv : Value), m ≤ S ∧ j = .int .i64 m ∧ RedSt w wx f S (.slice A f.kinds.length cp) (redL f S (fun i => rnd (i - back) f.sectors) (k * S + m)) gv) (fun j _ => S - (intOf j).toNat)
      case atStart => exact ⟨0, gv, Nat.zero_le _, rfl, hst⟩
      case round =>
        clear hst gv
        obtain ⟨m, gv, hm, rfl, hst⟩ := hrel
        by_cases hmt : m < S
        · have hdm : decide ((m : Int) < (S : Int)) = true := by rw [decide_eq_true_iff]; omega
          have h00 : wr.cell? ⟨w.heap.size, 0, none⟩ = some (.int .i64 f.eye) := hst.b0.cell 0
          have h01 : wr.cell? ⟨w.heap.size, 1, none⟩ = some (.int .i64 f.rings) := hst.b0.cell 1
          have h02 : wr.cell? ⟨w.heap.size, 2, none⟩ = some (.int .i64 f.sectors) := hst.b0.cell 2
          have h03 : wr.cell? ⟨w.heap.size, 3, none⟩ = some (.slice A f.kinds.length cp) := hst.b0.cell 3
          have h23 : wr.cell? ⟨w.heap.size + 1 + 1, 3, none⟩ = some gv := hst.b2.cell 3
          have hwb : wr.cell? ⟨bb, 0, none⟩ = some (.int .i64 back) := keepd hb hst.bel hbb
          have hwf : wr.cell? ⟨bf, 2, none⟩ = some (.int .i64 f.sectors) := keepd hf hst.bel hbf
          have hFr : IsFace wr wr.heap.size (.agg #[.int .i64 f.eye, .int .i64 f.rings, .int .i64 f.sectors, .slice A f.kinds.length cp]) f := hF.mono hst.bel hst.bel.size
          obtain ⟨r1, r2⟩ := rnd_bd (a := (m : Int) - back) (s := f.sectors) (by omega)
          have h2s := hst.b2.lt
          have hmS : k * S + m < 24 * 96 := by
            have : k * S + S ≤ R * S := by rw [← Nat.succ_mul]; exact Nat.mul_le_mul_right _ hlt
            have : R * S ≤ 24 * 96 := Nat.mul_le_mul hR2 (by omega)
            omega
          have hln : (redL f S (fun i => rnd (i - back) f.sectors) (k * S + m)).length = k * S + m := redL_len _ _ _ _
          have Hln := Lib.hid hln
          clear hln
          go_wp2_with fail
          go_region_law (first
            | (go_simp; go_at_call 79; (refine (turned1_c (m : Int) back f.sectors bb bf wr.drew (by omega) (by omega) h3 h4 (by omega) a6 hwb hwf).mono ?_; rintro e w' ⟨rfl, rfl⟩; dsimp only))
            | (go_simp; go_at_call 48; refine (kindAt_c f (.agg #[.int .i64 f.eye, .int .i64 f.rings, .int .i64 f.sectors, .slice A f.kinds.length cp]) (k : Int) (rnd ((m : Int) - back) f.sectors) wr.drew hFr hv (by omega) (by omega) r1 r2).mono ?_; rintro e w2 ⟨rfl, hb2⟩; have hb2 := Below.trans ((Below.refl wr.heap.size wr).drew) hb2; have h23b := keepd h23 hb2 h2s; have hst2 := hst.b2.later hb2; have h2s2 := hst2.lt; have hown2 := own_later hst.own hb2; dsimp only)
            | (refine step_append_lies _ rfl (.tmp 26) (.tmp 34) 22 rfl (w.heap.size + 1 + 1 + 1) 3 i0 (.int .i64 0) 1 8 Tryz.underlying22 hi hz0 hz1 hz2 rfl (by decide) gv _ _ rfl (hown2.alloc _) ⟨w2.heap.size, 0, none⟩ 1 1 [.int .i64 (kat f k (rnd ((m : Int) - back) f.sectors))] rfl rfl (cell_one_new _ _ _) (one_cell _) (by decide) (by rw [Hln.out]; unfold maxLen; omega) (by rw [Hln.out]; omega) (by simp; omega) (w2.heap.size + 1) (by simp) ?_; intro gg cap w4 hown4 hgrow hat hlt4; have hst4 := (hst2.alloc (.cells #[.int .i64 (kat f k (rnd ((m : Int) - back) f.sectors))] 3)).grown hgrow (own_ne hst.own); have c24 : w4.cell? ⟨w.heap.size + 1 + 1, 3, none⟩ = some gv := hst4.cell 3; have f24 := hst4.free 3))
          all_goals
            have hnew := hst.step hb2 hgrow hown4
            have Hrow := Lib.hid (redL_step (f := f) (fr := fun i => rnd (i - back) f.sectors) (k := k) hmt)
            go_wp2
            go_roundw
            case rel => exact ⟨m + 1, _, by omega, by go_num, by rw [Hrow.out]; exact hnew⟩
            case measure => simp [intOf]; omega
        · obtain rfl : m = S := by omega
          have hdm : decide ((m : Int) < (m : Int)) = false := by simp
          go_wp2
          go_roundw
          case rel => exact ⟨k + 1, gv, by omega, by go_num, by rw [Nat.succ_mul]; exact hst⟩
          case measure => simp [intOf]; omega
    · obtain rfl : k = R := by omega
      have hdk : decide ((k : Int) < f.rings) = false := by rw [decide_eq_false_iff_not]; omega
      obtain ⟨A', c', rfl⟩ := own_shape hst.own
      have h20 : wr.cell? ⟨w.heap.size + 1 + 1, 0, none⟩ = some (.int .i64 f.eye) := hst.b2.cell 0
      have h21 : wr.cell? ⟨w.heap.size + 1 + 1, 1, none⟩ = some (.int .i64 f.rings) := hst.b2.cell 1
      have h22 : wr.cell? ⟨w.heap.size + 1 + 1, 2, none⟩ = some (.int .i64 S) := hst.b2.cell 2
      have h23 := hst.b2.cell 3
      simp only [List.getElem?_toArray, List.getElem?_cons_succ, List.getElem?_cons_zero] at h23
      have h10 : wr.cell? ⟨w.heap.size + 1, 0, none⟩ = some (.int .i64 0) := hst.b1.cell 0
      have h11 : wr.cell? ⟨w.heap.size + 1, 1, none⟩ = some (.int .i64 0) := hst.b1.cell 1
      have h12 : wr.cell? ⟨w.heap.size + 1, 2, none⟩ = some (.int .i64 0) := hst.b1.cell 2
      have h13 : wr.cell? ⟨w.heap.size + 1, 3, none⟩ = some (.slice none 0 0) := hst.b1.cell 3
      have f10 := hst.b1.free 0
      have f11 := hst.b1.free 1
      have f12 := hst.b1.free 2
      have f13 := hst.b1.free 3
      go_wp2
      exact redEnd hst rfl HR.out (by omega) (by omega)

theorem redrawnT (f : Fc) (v : Value) (m back : Int) (bb bf : Nat) (w : World) (h : IsFace w w.heap.size v f) (hv : validB f = true) (hS1 : 1 ≤ m) (hS2 : m ≤ f.sectors)
    (h3 : 0 ≤ back) (h4 : back ≤ 96) (hbb : bb < w.heap.size) (hbf : bf < w.heap.size) (hb : w.cell? ⟨bb, 0, none⟩ = some (.int .i64 back)) (hf : w.cell? ⟨bf, 2, none⟩ = some (.int .i64 f.sectors)) :
    Calls Tryz.prog 64 #[v, .int .i64 m, .func (.func 79) #[] #[.pointer (some ⟨bb, 0, none⟩), .pointer (some ⟨bf, 0, none⟩)]] w
      (RetFace w { eye := f.eye, rings := f.rings, sectors := m, kinds := redL f m.toNat (fun i => rnd (i - back) f.sectors) (f.rings.toNat * m.toNat) }) := by
  obtain ⟨S, rfl⟩ := Int.eq_ofNat_of_zero_le (show 0 ≤ m by omega)
  exact redrawnT_c f v S back bb bf w h hv (by omega) hS2 h3 h4 hbb hbf hb hf

end Go.Proofs.YtpejcdjgggcjlaaGreatDoor

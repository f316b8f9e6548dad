/- The walks of regions and Regions. -/
import Derived.Laws.MakeOwn
import Derived.Test.YtpejcdjgggcjlaaGreatDoorC9
namespace Go.Proofs.YtpejcdjgggcjlaaGreatDoor
open Go.RowKit

/-- a list of lists of numbers in memory, below block B -/
def Lists (w : World) (B : Nat) (v : Value) (rows : List (List Int)) : Prop :=
  rows.length * 24 ≤ 140737488351232 ∧ ∃ A c, v = .slice A rows.length c ∧ rows.length ≤ c ∧
    (0 < rows.length → ∃ b off, A = some ⟨b, off, none⟩ ∧ b < B ∧ ∀ k, k < rows.length → ∃ s, w.cell? ⟨b, off + k, none⟩ = some s ∧ Ints w B s (rows.getD k []))
theorem Lists.mono {w w' : World} {B B' : Nat} {v : Value} {rows : List (List Int)} (h : Lists w B v rows) (hb : Below B w w') (hB : B ≤ B') : Lists w' B' v rows := by
  obtain ⟨h1, A, c, rfl, h2, h3⟩ := h
  refine ⟨h1, A, c, rfl, h2, fun hp => ?_⟩
  obtain ⟨b, off, rfl, hlt, hc⟩ := h3 hp
  refine ⟨b, off, rfl, by omega, fun k hk => ?_⟩
  obtain ⟨s, h4, h5⟩ := hc k hk
  exact ⟨s, (hb.cell (p := ⟨b, off + k, none⟩) hlt).trans h4, h5.mono hb hB⟩
theorem Lists.nil_ (w : World) (B : Nat) : Lists w B (.slice none 0 0) [] := ⟨by simp, none, 0, rfl, by simp, fun h => absurd h (by simp)⟩

/-- the cells of a region, as far as they have come -/
def regRow (f : Fc) : Nat → Nat → List Int
  | 0, _ => []
  | i + 1, j => regRow f i j ++ if (numR f).m (cellOf f i) = some (j : Int) then [(i : Int)] else []
theorem regRow_len (f : Fc) (i j : Nat) : (regRow f i j).length ≤ i := by
  induction i with
  | zero => simp [regRow]
  | succ i ih => rw [regRow, List.length_append]; split <;> simp <;> omega
/-- all regions -/
def regL (f : Fc) : List (List Int) := (List.range (numR f).count).map (regRow f f.kinds.length)

theorem nr_alt {f : Fc} (hv : validB f = true) : ∀ k, nrDone f (nrIter f k) ∨ nrFuel f k
  | 0 => .inr (nrFuel_zero hv)
  | k + 1 => by
    rcases nr_alt hv k with h | h
    · left
      show nrDone f (nrStep f (nrIter f k))
      rw [nrDone_fix h]
      exact h
    · by_cases hgo : (nrIter f k).opn ≠ [] ∨ (nrIter f k).next < f.kinds.length
      · exact .inr (nrFuel_step hv h hgo)
      · have hd : nrDone f (nrIter f k) := by
          have := (nrIter_ok hv k).next
          refine ⟨?_, by omega⟩
          cases ho : (nrIter f k).opn with
          | nil => rfl
          | cons a l => exact absurd (.inl (by rw [ho]; simp)) hgo
        left
        show nrDone f (nrStep f (nrIter f k))
        rw [nrDone_fix hd]
        exact hd
theorem numR_done {f : Fc} (hv : validB f = true) : nrDone f (numR f) := by
  rcases nr_alt hv (3 * f.kinds.length) with h | h
  · exact h
  · unfold nrFuel nrMeas at h
    have := (nrIter_ok hv (3 * f.kinds.length)).next
    unfold numR
    refine ⟨?_, by omega⟩
    cases ho : (nrIter f (3 * f.kinds.length)).opn with
    | nil => rfl
    | cons a l => rw [ho] at h; simp at h; exfalso; omega
theorem numR_cell {f : Fc} (hv : validB f = true) (i : Nat) (hi : i < f.kinds.length) : ∃ j : Nat, (numR f).m (cellOf f i) = some (j : Int) ∧ j < (numR f).count := by
  have hok := nrIter_ok hv (3 * f.kinds.length)
  change NROk f (numR f) at hok
  have h1 := hok.old i (by have := (numR_done hv).2; omega)
  cases hm : (numR f).m (cellOf f i) with
  | none => rw [hm] at h1; cases h1
  | some v =>
    have h2 := (hok.val _ _ hm).2
    exact ⟨v.toNat, by rw [show ((v.toNat : Nat) : Int) = v by omega], by omega⟩

theorem gb_cell (w : World) (g i : Nat) (u : Value) : w.grownBy (w.setCell ⟨g, i, none⟩ u) (some g) :=
  ⟨rfl, rfl, rfl, by simp [World.setCell], fun j hj hn => Below.heap_setCell w _ u j (fun e => hn (by rw [e]))⟩
structure RgSt (w wr : World) (f : Fc) (s : Value) (mb mn lb n i : Nat) (vs : List Value) : Prop where
  b0 : Box wr w.heap.size 24 #[.int .i64 f.eye, .int .i64 f.rings, .int .i64 f.sectors, s]
  nm : NumMap wr mb mn (numR f).m
  bl : Box wr lb 22 vs.toArray
  len : vs.length = n
  own : ∀ j u, vs[j]? = some u → wr.ownsRow (lb + 1) 3 1 u (regRow f i j).length (ints (regRow f i j))
  sep : ∀ (j k : Nat) (u v : Value) (g : Nat), vs[j]? = some u → vs[k]? = some v → j ≠ k → u.ownBlock = some g → v.ownBlock ≠ some g
  bel : Below w.heap.size w wr
  hmb : w.heap.size ≤ mb
  hlb : mb < lb
set_option maxRecDepth 100000 in
theorem mkRows (w : World) (n : Nat) (hn : n ≤ 10000) : (Instr.makeSlice 54 (.int .i64 (n : Int)) (.int .i64 (n : Int))).run Tryz.prog w = .ok (.slice (some ⟨w.heap.size, 0, none⟩) n n) (w.alloc (.cells (Array.replicate n (Value.slice none 0 0)) 22)) := by
  obtain ⟨i0, hi, hz0, hz1, hz2⟩ : ∃ i, Tryz.prog.info? 22 = some i ∧ i.zero = some (.slice none 0 0) ∧ i.size = 1 ∧ i.bytes = 24 := ⟨_, rfl, rfl, rfl, rfl⟩
  have hr := run_make (P := Tryz.prog) w 54 22 i0 (.slice none 0 0) Tryz.underlying54 hi hz0 .i64 .i64 n n (by omega) (Int.le_refl _) (by rw [hz2]; omega) (by omega)
  simp only [Int.toNat_natCast] at hr
  rw [hr, hz1]
  have e : madeCells (Value.slice none 0 0).cells (n * 1) = Array.replicate n (Value.slice none 0 0) := by
    apply Array.toList_inj.1
    rw [Nat.mul_one]
    exact (toList_madeCells_one _ n).trans (by simp)
  rw [e]

set_option maxRecDepth 100000 in
set_option maxHeartbeats 4000000 in
theorem regions_c (f : Fc) (A : Option Addr) (nk cp : Nat) (w : World) (hF : IsFace w w.heap.size (.agg #[.int .i64 f.eye, .int .i64 f.rings, .int .i64 f.sectors, .slice A nk cp]) f) (hv : validB f = true) :
    Calls Tryz.prog 70 #[.agg #[.int .i64 f.eye, .int .i64 f.rings, .int .i64 f.sectors, .slice A nk cp]] w
      fun e w' => ∃ A' n c', e = .returned (.slice A' n c') ∧ Lists w' w'.heap.size (.slice A' n c') (regL f) ∧ Below w.heap.size w w' := by
  obtain ⟨hl, hs1, hle⟩ := len_val hv
  have hok := nrIter_ok hv (3 * f.kinds.length)
  change NROk f (numR f) at hok
  have hdone : ∀ i, i < f.kinds.length → ∃ j : Nat, (numR f).m (cellOf f i) = some (j : Int) ∧ j < (numR f).count := numR_cell hv
  have hcnt := hok.count
  have hnx := hok.next
  have hR := (validB_iff.1 hv).1
  have hnk : nk = f.kinds.length := by
    obtain ⟨s, h1, h2, A', c', h3, -⟩ := hF
    simp at h1
    rw [← h1] at h3
    simp at h3
    exact h3.2.1
  subst hnk
  have Hl := Lib.hid hl
  have Hd := Lib.hid hdone
  clear hl hdone
  obtain ⟨n, hn⟩ : ∃ n, (numR f).count = n := ⟨_, rfl⟩
  have Hn := Lib.hid hn
  have hmk := fun W => mkRows W n (by omega)
  go_enter Tryz.func70, Tryz.ntmps70
  go_wp2_with fail
  refine (numberRegions_c f A f.kinds.length cp _ (hF.box _) hv).mono ?_
  rintro e w1 ⟨mb, mn, rfl, hnm, hmb, hb1⟩
  rw [hn]
  have b1 := (Box.made w 24 #[.int .i64 f.eye, .int .i64 f.rings, .int .i64 f.sectors, .slice A f.kinds.length cp]).later hb1
  have hbw : Below w.heap.size w w1 := boxed hb1
  simp only [World.size_alloc] at hmb
  have hm1 := hnm.lt
  clear hn hb1
  have e03 : ∀ o : Obj, (w1.alloc o).cell? ⟨w.heap.size, 3, none⟩ = some (.slice A f.kinds.length cp) := fun o => (b1.alloc o).cell 3
  go_wp2_with fail
  obtain ⟨lb, hlb⟩ : ∃ lb, lb = w1.heap.size := ⟨_, rfl⟩
  have hst0 : RgSt w (w1.alloc (.cells (Array.replicate n (Value.slice none 0 0)) 22)) f (.slice A f.kinds.length cp) mb mn lb n 0 (List.replicate n (Value.slice none 0 0)) := by
    subst hlb
    refine ⟨b1.alloc _, hnm.kept (gb_alloc _ _) (by simp), by rw [List.toArray_replicate]; exact Box.made _ _ _, by simp, fun j u hu => ?_, fun j k u v g hu hv' hne hg => ?_, hbw.alloc hbw.size _, by omega, by omega⟩
    · rw [List.getElem?_replicate] at hu
      split at hu <;> cases hu
      exact World.ownsRow_nil ..
    · rw [List.getElem?_replicate] at hu
      split at hu <;> cases hu
      cases hg
  have hn9 : n ≤ 10000 := by have := Hn.out; omega
  rw [← hlb]
  clear hnm b1 hbw hm1 e03 hmk hlb
  generalize w1.alloc (.cells (Array.replicate n (Value.slice none 0 0)) 22) = w2 at *
  generalize List.replicate n (Value.slice none 0 0) = vs0 at *
  go_loopw [18] (fun i wr => ∃ (k : Nat) (vs : List Value), k ≤ f.kinds.length ∧ i = .int .i64 k ∧ RgSt w wr f (.slice A f.kinds.length cp) mb mn lb n k vs) (fun i _ => f.kinds.length - (intOf i).toNat)
  case atStart => exact ⟨0, vs0, Nat.zero_le _, rfl, hst0⟩
  case round =>
    clear hst0
    obtain ⟨k, vs, hk, rfl, hst⟩ := hrel
    by_cases hlt : k < f.kinds.length
    · obtain ⟨j, hj1, hj2⟩ := Hd.out k hlt
      have Hj1 := Lib.hid hj1
      have hjn : j < n := by have := Hn.out; omega
      clear hj1 hj2
      have e00 : wr.cell? ⟨w.heap.size, 0, none⟩ = some (.int .i64 f.eye) := hst.b0.cell 0
      have e01 : wr.cell? ⟨w.heap.size, 1, none⟩ = some (.int .i64 f.rings) := hst.b0.cell 1
      have e02 : wr.cell? ⟨w.heap.size, 2, none⟩ = some (.int .i64 f.sectors) := hst.b0.cell 2
      have e03 : wr.cell? ⟨w.heap.size, 3, none⟩ = some (.slice A f.kinds.length cp) := hst.b0.cell 3
      have hd : decide ((k : Int) < (f.kinds.length : Int)) = true := by simpa using hlt
      go_wp2_with fail
      refine (cellAt_c f A f.kinds.length cp k wr (by omega) (by omega) hs1 (by omega)).mono ?_
      rintro e w3 ⟨rfl, hb3⟩
      obtain ⟨a, ha⟩ : ∃ a, a = (k : Int) / f.sectors := ⟨_, rfl⟩
      obtain ⟨b, hb⟩ : ∃ b, b = (k : Int) % f.sectors := ⟨_, rfl⟩
      have hab : cellOf f k = (a, b) := by rw [ha, hb]; rfl
      obtain ⟨y1, y2, y3, y4⟩ := cellOf_in (f := f) (i := k) hs1 (by have := Hl.out; omega)
      rw [hab] at y1 y2 y3 y4
      dsimp only at y1 y2 y3 y4
      rw [← ha, ← hb]
      have fit : Fit64 (a, b).1 ∧ Fit64 (a, b).2 := ⟨fit_small (by dsimp only; omega) (by dsimp only; omega), fit_small (by dsimp only; omega) (by dsimp only; omega)⟩
      have hmab : (numR f).m (a, b) = some (j : Int) := by rw [← hab]; exact Hj1.out
      have lk := (hst.nm.later hb3).look1 fit
      rw [hmab] at lk
      unfold cellV at lk
      dsimp only [Option.getD] at lk
      clear hab hmab ha hb
      obtain ⟨u, hu⟩ : ∃ u, vs[j]? = some u := ⟨_, List.getElem?_eq_getElem (by have := hst.len; omega)⟩
      have Hu := Lib.hid hu
      have bl3 := hst.bl.later hb3
      have g0 : w3.cell? ⟨lb, j, none⟩ = some u := by rw [bl3.cell j]; simpa using hu
      have gf := bl3.free j
      have ho3 := own_later (hst.own j u hu) hb3
      have hmb := hst.hmb
      have hlb := hst.hlb
      have hl3 := bl3.lt
      have hlen := regRow_len f k j
      have hub : ∀ q, u.ownBlock = some q → lb + 1 ≤ q := fun q e => ((hst.own j u hu).lt q e).1
      obtain ⟨i0, hi, hz0, hz1, hz2⟩ := info_parts Tryz.infoInt
      have hk1 : (regRow f k j).length + 1 ≤ maxLen := by unfold maxLen; omega
      have hk2 : ((regRow f k j).length + 1) * 8 ≤ 140737488355328 := by omega
      have hk3 : lb + 1 ≤ (w3.alloc (.cells #[.int .i64 (k : Int)] 3)).heap.size := by simp; omega
      have ho6 := ho3.alloc (.cells #[.int .i64 (k : Int)] 3)
      have hnews : ∀ (j : Nat) (u : Value), [Value.int .i64 (k : Int)][j]? = some u → (w3.alloc (.cells #[.int .i64 (k : Int)] 3)).cell? ((⟨w3.heap.size, 0, none⟩ : Addr).add j) = some u := fun j u h => by
        have e := Box.made w3 3 #[.int .i64 (k : Int)]
        rcases j with _ | j
        · exact (e.cell 0).trans h
        · simp at h
      have hj0 : (0 : Int) ≤ (j : Int) := by omega
      have hjn' : (j : Int) < (n : Int) := by omega
      clear hu
      generalize hL : regRow f k j = L at *
      have HL := Lib.hid hL
      clear hL
      go_wp2_with (first
        | (at_builtin; refine wpList_append_own_at _ rfl _ _ 22 rfl (lb + 1) 3 i0 (.int .i64 0) 1 8 Tryz.underlying22 hi hz0 hz1 hz2 rfl (by decide) u _ _ rfl ho6 ⟨w3.heap.size, 0, none⟩ 1 1 [.int .i64 (k : Int)] rfl rfl hnews (one_cell _) hk1 hk2 hk3 ?_; intro v' w7 hown7 hgrow7 _ hblk7; obtain ⟨oB, cB, rfl⟩ := own_shape hown7; have bl7 := (bl3.alloc _).grown hgrow7 (fun e => by have := hub _ e; omega); have g7 : w7.cell? ⟨lb, j, none⟩ = some u := (by rw [bl7.cell j]; simpa using Hu.out); have f7 := bl7.free j))
      go_roundw
      case measure => simp [intOf]; omega
      case rel =>
        have hjl : j < vs.length := by have := hst.len; omega
        have hs7 := hgrow7.size
        simp only [World.size_alloc] at hs7
        have hbw7 : Below w.heap.size w w7 := ((hst.bel.trans (hb3.mono hst.bel.size)).alloc (by have := hst.bel.size; have := hb3.size; omega) _).grown hgrow7 (by have := hst.bel.size; have := hb3.size; simp; omega) (fun q e => by have := hub q e; omega)
        refine ⟨k + 1, vs.set j (.slice oB (L.length + 1) cB), by omega, by go_num, ?_⟩
        have hfar : ∀ q, q < lb → (Value.slice oB (L.length + 1) cB).ownBlock ≠ some q := fun q hq e => by have := (hown7.lt q e).1; omega
        refine ⟨?_, ?_, ?_, by rw [List.length_set]; exact hst.len, ?_, ?_, hbw7.setCell (by simp; omega) _, hmb, hlb⟩
        · exact (((hst.b0.later hb3).alloc _).grown hgrow7 (fun e => by have := hub _ e; omega)).far (by simp; omega) _
        · have m7 := ((hst.nm.later hb3).kept (gb_alloc _ (.cells #[.int .i64 (k : Int)] 3)) (by simp)).kept hgrow7 (fun e => by have := hub mb e.symm; omega)
          exact m7.kept (gb_cell w7 lb j _) (fun e => by injection e with e; omega)
        · have e := bl7.put j (.slice oB (L.length + 1) cB)
          rw [List.setIfInBounds_toArray] at e
          exact e
        · intro q v hv'
          by_cases hq : q = j
          · subst hq
            rw [List.getElem?_set_self hjl] at hv'
            cases hv'
            rw [regRow, if_pos Hj1.out, HL.out, List.length_append, ints_snoc]
            exact own_far hown7 (by simp) _
          · rw [List.getElem?_set_ne (Ne.symm hq)] at hv'
            rw [regRow, if_neg (by rw [Hj1.out]; intro e; simp at e; omega), List.append_nil]
            have h1 := ((own_later (hst.own q v hv') hb3).alloc (.cells #[.int .i64 (k : Int)] 3)).kept hgrow7 (by
              by_cases hn0 : v.ownBlock = none
              · exact .inl hn0
              · right
                intro e
                cases hvb : v.ownBlock with
                | none => exact hn0 hvb
                | some g' => exact hst.sep q j v u g' hv' Hu.out hq hvb (by rw [← e, hvb]))
            exact own_far h1 (by simp) _
        · intro q r v v' g' hv1 hv2 hqr hg1
          by_cases hq : q = j
          · subst hq
            rw [List.getElem?_set_self hjl] at hv1
            rw [List.getElem?_set_ne hqr] at hv2
            cases hv1
            rcases hblk7 with h | h
            · exact fun e => hst.sep q r u v' g' Hu.out hv2 hqr (by rw [← h]; exact hg1) e
            · intro e
              have h1 := ((own_later (hst.own r v' hv2) hb3).lt g' e).2
              rw [h] at hg1
              simp at hg1
              omega
          · rw [List.getElem?_set_ne (Ne.symm hq)] at hv1
            by_cases hr : r = j
            · subst hr
              rw [List.getElem?_set_self hjl] at hv2
              cases hv2
              rcases hblk7 with h | h
              · exact fun e => hst.sep q r v u g' hv1 Hu.out hqr hg1 (by rw [← h]; exact e)
              · intro e
                have h1 := ((own_later (hst.own q v hv1) hb3).lt g' hg1).2
                rw [h] at e
                simp at e
                omega
            · rw [List.getElem?_set_ne (Ne.symm hr)] at hv2
              exact hst.sep q r v v' g' hv1 hv2 hqr hg1
    · obtain rfl : k = f.kinds.length := by omega
      have hd : decide ((f.kinds.length : Int) < (f.kinds.length : Int)) = false := by simp
      go_wp2_with fail
      go_ret
      refine ⟨_, _, _, rfl, ?_, hst.bel⟩
      have hlen : (regL f).length = n := by unfold regL; rw [List.length_map, List.length_range, Hn.out]
      refine ⟨by rw [hlen]; omega, some ⟨lb, 0, none⟩, n, by rw [hlen], by rw [hlen]; exact Nat.le_refl _, fun _ => ⟨lb, 0, rfl, hst.bl.lt, fun q hq => ?_⟩⟩
      rw [hlen] at hq
      obtain ⟨u, hu⟩ : ∃ u, vs[q]? = some u := ⟨_, List.getElem?_eq_getElem (by have := hst.len; omega)⟩
      refine ⟨u, by rw [Nat.zero_add, hst.bl.cell q]; simpa using hu, ?_⟩
      have e : (regL f).getD q [] = regRow f f.kinds.length q := by
        unfold regL
        rw [List.getD_eq_getElem?_getD, List.getElem?_map, List.getElem?_range (by have := Hn.out; omega)]
        rfl
      rw [e]
      exact ints_own (hst.own q u hu) (Nat.le_refl _) (by have := regRow_len f f.kinds.length q; omega)

end Go.Proofs.YtpejcdjgggcjlaaGreatDoor

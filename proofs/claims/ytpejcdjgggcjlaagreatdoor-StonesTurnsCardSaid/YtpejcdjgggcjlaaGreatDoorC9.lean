/- The walk of numberRegions. -/
import Derived.Deep.LoopGhost
import Derived.WalkSmall
import Derived.Test.YtpejcdjgggcjlaaGreatDoorC8
import Derived.Test.YtpejcdjgggcjlaaGreatDoorC1
namespace Go.Proofs.YtpejcdjgggcjlaaGreatDoor
open Go.RowKit

theorem mkMap (w : World) (n : Int) : (Instr.makeMap 92 (some (.int .i64 n))).run Tryz.prog w = .ok (.map (some w.heap.size)) (w.alloc (.map #[] 0)) := by
  simp [Instr.makeMap, run_underlying Tryz.underlying92, asInt, asIntOf, Result.andThen]

theorem cellRow_len (l : List (Int × Int)) : (cellRow l).length = l.length * 2 := by
  induction l with
  | nil => rfl
  | cons x l ih => simp [cellRow, ih]; omega
/-- a row of cells with one behind: where it lies, and what the last one reads -/
theorem row_last {w : World} {base : Nat} {v : Value} {L : List (Int × Int)} {c : Int × Int} (h : w.ownsRow base 26 2 v (L ++ [c]).length (cellRow (L ++ [c]))) :
    ∃ g cap, v = .slice (some ⟨g, 0, none⟩) (L.length + 1) cap ∧ L.length + 1 ≤ cap ∧ base ≤ g ∧ g < w.heap.size ∧ w.cell? ⟨g, L.length * 2, none⟩ = some (.int .i64 c.1) ∧ w.cell? ⟨g, L.length * 2 + 1, none⟩ = some (.int .i64 c.2) ∧
      w.ownsRow base 26 2 (.slice (some ⟨g, 0, none⟩) L.length cap) L.length (cellRow L) := by
  rw [List.length_append, cellRow_snoc] at h
  obtain ⟨h1, h2⟩ := id h
  rcases h2 with ⟨rfl, h2⟩ | ⟨g, cap, cur, rfl, h4, h5, h6, h7, h8, h9⟩
  · simp at h2
  · have hl := cellRow_len L
    refine ⟨g, cap, rfl, h6, h4, Box.lt (w := w) (t := 26) h5, ?_, ?_, ownsRow_pop hl h⟩
    · rw [h.cellAt _ (by simp <;> omega), List.getElem?_append_right (by omega), hl, Nat.sub_self]; rfl
    · rw [h.cellAt _ (by simp <;> omega), List.getElem?_append_right (by omega), hl, Nat.add_sub_cancel_left]; rfl
/-- reads ahead of one writing call, the world under a name -/
theorem still_tail {P : Program} {id : Nat} {Q : Exit → Act → World → Prop} {a : Act} {w : World} {l : List Oper} (n : Nat) (W : World) (hW : w.drew = W) (hm : P.follows .mixedOrders = true) (hB : Region.lexTailB .any l.toArray n = true)
    (h : wpStill P l.toArray W (fun a' => wpList P l.toArray Q (l.drop n) a' W) (l.take n) a) : (Code.region id l.toArray true).wp P Q a w := by
  subst hW
  exact wp_region_still_tail n hm hB h
/-- what memory looks like at each round's head -/
structure NrSt (w wr : World) (f : Fc) (s : Value) (k : Nat) (ov : Value) : Prop where
  b0 : Box wr w.heap.size 24 #[.int .i64 f.eye, .int .i64 f.rings, .int .i64 f.sectors, s]
  nm : NumMap wr (w.heap.size + 1) (4 * k) (nrIter f k).m
  own : wr.ownsRow (w.heap.size + 2) 26 2 ov (nrIter f k).opn.length (cellRow (nrIter f k).opn)
  fuel : nrFuel f k
  bel : Below w.heap.size w wr
  size : w.heap.size + 2 ≤ wr.heap.size

set_option maxRecDepth 100000 in
set_option maxHeartbeats 4000000 in
theorem numberRegions_c (f : Fc) (A : Option Addr) (nk cp : Nat) (w : World) (hF : IsFace w w.heap.size (.agg #[.int .i64 f.eye, .int .i64 f.rings, .int .i64 f.sectors, .slice A nk cp]) f) (hv : validB f = true) :
    Calls Tryz.prog 82 #[.agg #[.int .i64 f.eye, .int .i64 f.rings, .int .i64 f.sectors, .slice A nk cp]] w
      fun e w' => ∃ mb n, e = .returned (.tuple #[.map (some mb), .int .i64 ((numR f).count : Nat)]) ∧ NumMap w' mb n (numR f).m ∧ w.heap.size ≤ mb ∧ Below w.heap.size w w' := by
  obtain ⟨hl, hs1, hle⟩ := len_val hv
  have hnk : nk = f.kinds.length := by
    obtain ⟨s, h1, h2, A', c', h3, -⟩ := hF
    simp at h1
    rw [← h1] at h3
    simp at h3
    exact h3.2.1
  subst hnk
  have Hl := Lib.hid hl
  clear hl
  have mk := mkMap
  go_enter Tryz.func82, Tryz.ntmps82
  go_wp2_with fail
  go_step3
  go_wp2_with fail
  go_step3
  go_wp2_with fail
  have hst0 : NrSt w ((w.alloc (.cells #[.int .i64 f.eye, .int .i64 f.rings, .int .i64 f.sectors, .slice A f.kinds.length cp] 24)).alloc (.map #[] 0)) f (.slice A f.kinds.length cp) 0 (.slice none 0 0) := by
    refine ⟨(Box.made _ _ _).alloc _, ?_, World.ownsRow_nil .., nrFuel_zero hv, ((Below.refl _ _).alloc (Nat.le_refl _) _).alloc (by simp) _, by simp⟩
    have e := NumMap.made (w.alloc (.cells #[.int .i64 f.eye, .int .i64 f.rings, .int .i64 f.sectors, .slice A f.kinds.length cp] 24))
    rw [World.size_alloc] at e
    exact e
  go_loopg [5, 6, 7] (3 * f.kinds.length) (fun g o c n wr => ∃ k, g + k = 3 * f.kinds.length ∧ c = .int .i64 ((nrIter f k).count : Nat) ∧ n = .int .i64 ((nrIter f k).next : Nat) ∧ NrSt w wr f (.slice A f.kinds.length cp) k o)
  case atStart => exact ⟨0, rfl, rfl, rfl, hst0⟩
  case round =>
    clear hst0
    obtain ⟨k, hg, rfl, rfl, hst⟩ := hrel
    have hok := nrIter_ok hv k
    have hfu := hst.fuel
    have e00 : wr.cell? ⟨w.heap.size, 0, none⟩ = some (.int .i64 f.eye) := hst.b0.cell 0
    have e01 : wr.cell? ⟨w.heap.size, 1, none⟩ = some (.int .i64 f.rings) := hst.b0.cell 1
    have e02 : wr.cell? ⟨w.heap.size, 2, none⟩ = some (.int .i64 f.sectors) := hst.b0.cell 2
    have e03 : wr.cell? ⟨w.heap.size, 3, none⟩ = some (.slice A f.kinds.length cp) := hst.b0.cell 3
    have hbel := hst.bel
    have hsz := hst.size
    cases ho : (nrIter f k).opn.getLast? with
    | some c =>
      have hsp := getLast_split ho
      have hstep : nrIter f (k + 1) = nrPop f (nrIter f k) c := by show nrStep f (nrIter f k) = _; unfold nrStep; rw [ho]
      have hci := hok.opn c (by dsimp only; rw [hsp]; simp)
      have hown := hst.own
      have hfu2 := nrFuel_step hv hfu (.inl (by intro e; rw [e] at ho; cases ho))
      have hnm := hst.nm
      have hb0 := hst.b0
      have hlen : (nrIter f k).opn.length ≤ 7000 := by have := hst.fuel; unfold nrFuel nrMeas at this; omega
      rw [hsp, List.length_append] at hlen
      dsimp only [List.length] at hlen
      unfold nrPop at hstep
      generalize nrIter f k = s at *
      generalize s.opn.dropLast = L at *
      rw [hsp] at hown
      obtain ⟨g, cap, rfl, hcap, hgb, hgs, q0, q1, hpop⟩ := row_last hown
      have Hsp := Lib.hid hsp
      have Hstep := Lib.hid hstep
      have Hg := Lib.hid hg
      clear hsp hstep hown hst ho hg
      have h0 : decide ((0 : Int) < ((L.length + 1 : Nat) : Int)) = true := by simp
      go_wp2_with fail
      obtain ⟨W1, hW1⟩ : ∃ W1, (wr.alloc (.cells #[.int .i64 c.1, .int .i64 c.2] 26)).drew = W1 := ⟨_, rfl⟩
      have hb1 : Below wr.heap.size wr W1 := by rw [← hW1]; exact ((Below.refl _ _).alloc (Nat.le_refl _) _).drew
      have bc : Box W1 wr.heap.size 26 #[.int .i64 c.1, .int .i64 c.2] := by rw [← hW1]; exact Box.made _ _ _
      refine still_tail 8 W1 hW1 (by kernel_rfl) (by kernel_rfl) ?_
      clear hW1
      have b1 := hb0.later hb1
      have g00 : W1.cell? ⟨w.heap.size, 0, none⟩ = some (.int .i64 f.eye) := b1.cell 0
      have g01 : W1.cell? ⟨w.heap.size, 1, none⟩ = some (.int .i64 f.rings) := b1.cell 1
      have g02 : W1.cell? ⟨w.heap.size, 2, none⟩ = some (.int .i64 f.sectors) := b1.cell 2
      have g03 : W1.cell? ⟨w.heap.size, 3, none⟩ = some (.slice A f.kinds.length cp) := b1.cell 3
      have g10 : W1.cell? ⟨wr.heap.size, 0, none⟩ = some (.int .i64 c.1) := bc.cell 0
      have g11 : W1.cell? ⟨wr.heap.size, 1, none⟩ = some (.int .i64 c.2) := bc.cell 1
      have hbw : Below w.heap.size w W1 := hbel.trans (hb1.mono (by omega))
      have hm1 := hnm.later hb1
      have ho1 := own_later hpop hb1
      have hs1' := hb1.size
      clear e00 e01 e02 e03 hnm hpop bc b1
      have hwr := wrap_id (n := (L.length : Int)) (by omega) (by omega)
      have hp1 : (0 : Int) ≤ (L.length : Int) := by omega
      have hp2 : (L.length : Int) ≤ (cap : Int) := by omega
      simp only [List.take_succ_cons, List.take_zero, List.drop_succ_cons, List.drop_zero]
      repeat still_step
      refine wpStill_nil ?_
      go_wp2_with fail
      refine (spread_c f A f.kinds.length cp c (w.heap.size + 1) (4 * k) (w.heap.size + 2) s.m _ L W1 (hF.mono hbw (by omega)) hv hci.1 hm1 ho1 (by omega) (by omega) (by have := Hg.out; unfold maxLen; omega) (by omega)).mono ?_
      rintro e w2 ⟨ov', rfl, hb2, hm2, ho2⟩
      rw [sprTo_near f c hci.1] at hm2 ho2
      have hst2 : NrSt w w2 f (.slice A f.kinds.length cp) (k + 1) ov' := by
        refine ⟨?_, ?_, ?_, hfu2, hbw.trans (hb2.mono (by omega)), Nat.le_trans (by omega) hb2.size⟩
        · exact Box.below (Box.later (by assumption) hb1) hb2 (by omega)
        · rw [Hstep.out]; exact hm2
        · rw [Hstep.out]; exact ho2
      have Hc := Lib.hid (show (nrIter f (k + 1)).count = s.count ∧ (nrIter f (k + 1)).next = s.next by rw [Hstep.out]; exact ⟨rfl, rfl⟩)
      go_wp2_with fail
      have hgk : k + 1 ≤ 3 * f.kinds.length := by unfold nrFuel at hfu2; omega
      go_roundg (gk - 1)
      case measure => have := Hg.out; omega
      case rel => exact ⟨k + 1, by have := Hg.out; omega, by rw [Hc.out.1], by rw [Hc.out.2], hst2⟩
    | none =>
      have hnil : (nrIter f k).opn = [] := by simpa using ho
      have hnle := hok.next
      have hcle := hok.count
      have hown := hst.own
      have hnm := hst.nm
      have hb0 := hst.b0
      rw [hnil] at hown
      change wr.ownsRow (w.heap.size + 2) 26 2 _ 0 [] at hown
      obtain ⟨oA, ocp, rfl⟩ := own_shape hown
      by_cases hn : (nrIter f k).next < f.kinds.length
      · have hfu2 := nrFuel_step hv hfu (.inr hn)
        have hgk : k + 1 ≤ 3 * f.kinds.length := by unfold nrFuel at hfu2; omega
        have hstep : nrIter f (k + 1) = if ((nrIter f k).m (cellOf f (nrIter f k).next)).isSome then { nrIter f k with next := (nrIter f k).next + 1 } else nrNew f (nrIter f k) := by
          show nrStep f (nrIter f k) = _; unfold nrStep; rw [ho]; dsimp only; rw [if_pos hn]
        have hcin := cellOf_in (f := f) (i := (nrIter f k).next) hs1 (by have := Hl.out; omega)
        have hR := (validB_iff.1 hv).1
        generalize nrIter f k = s at *
        have Hnil := Lib.hid hnil
        have Hg := Lib.hid hg
        clear hst ho hg hnil
        have h1 : decide ((s.next : Int) < (f.kinds.length : Int)) = true := by simpa using hn
        go_wp2_with fail
        obtain ⟨ov, hov⟩ : ∃ ov, ov = Value.slice oA 0 ocp := ⟨_, rfl⟩
        rw [← hov] at hown ⊢
        clear hov
        refine (cellAt_c f A f.kinds.length cp s.next wr (by omega) (by omega) hs1 (by omega)).mono ?_
        rintro e w2 ⟨rfl, hb2⟩
        obtain ⟨a, ha⟩ : ∃ a, a = (s.next : Int) / f.sectors := ⟨_, rfl⟩
        obtain ⟨b, hb⟩ : ∃ b, b = (s.next : Int) % f.sectors := ⟨_, rfl⟩
        have hab : cellOf f s.next = (a, b) := by rw [ha, hb]; rfl
        rw [hab] at hstep hcin
        obtain ⟨y1, y2, y3, y4⟩ := hcin
        dsimp only at y1 y2 y3 y4
        rw [← ha, ← hb]
        have fit : Fit64 (a, b).1 ∧ Fit64 (a, b).2 := ⟨fit_small (by dsimp only; omega) (by dsimp only; omega), fit_small (by dsimp only; omega) (by dsimp only; omega)⟩
        have Hstep := Lib.hid hstep
        have Hab := Lib.hid hab
        clear hab ha hb hstep
        have b2 := hb0.later hb2
        have m2 := (hnm.later hb2).kept (gb_alloc _ (.cells #[.int .i64 a, .int .i64 b] 26)) (by simp)
        have o2 := (own_later hown hb2).alloc (.cells #[.int .i64 a, .int .i64 b] 26)
        have hbw : Below w.heap.size w w2 := hbel.trans (hb2.mono (by omega))
        have hs2 := hb2.size
        have lk := m2.look fit
        unfold cellV at lk
        dsimp only at lk
        clear hnm hown hb0 e00 e01 e02 e03
        have w1 := wrap_id (n := (s.next : Int) + 1) (by omega) (by omega)
        cases hk : s.m (a, b) with
        | some v =>
          rw [hk] at lk
          dsimp only [Option.isSome, Option.getD] at lk
          have Hs := Lib.hid (show nrIter f (k + 1) = { s with next := s.next + 1 } by rw [Hstep.out, if_pos (by rw [hk]; rfl)])
          clear hk
          have hst2 : NrSt w (w2.alloc (.cells #[.int .i64 a, .int .i64 b] 26)) f (.slice A f.kinds.length cp) (k + 1) ov := by
            refine ⟨b2.alloc _, ?_, ?_, hfu2, hbw.alloc (by omega) _, by simp; omega⟩
            · rw [Hs.out]; exact m2.mono (by omega)
            · rw [Hs.out]; dsimp only; rw [Hnil.out]; exact o2
          go_wp2_with fail
          go_roundg (gk - 1)
          case measure => have := Hg.out; omega
          case rel => exact ⟨k + 1, by have := Hg.out; omega, by rw [Hs.out], by rw [Hs.out]; go_num, hst2⟩
        | none =>
          rw [hk] at lk
          dsimp only [Option.isSome, Option.getD] at lk
          have Hs := Lib.hid (show nrIter f (k + 1) = nrNew f s by rw [Hstep.out, if_neg (by rw [hk]; simp)])
          clear hk
          have hz0 : Box _ _ _ _ := Box.made w2 26 #[.int .i64 a, .int .i64 b]
          obtain ⟨w5, up, m5, hg5⟩ := m2.update (by have := Hg.out; unfold maxLen; omega) (x := (a, b)) fit (v := (s.count : Int)) (fit_small (by omega) (by omega))
          unfold cellV at up
          dsimp only at up
          have w1' := wrap_id (n := (s.count : Int) + 1) (by omega) (by omega)
          have b5 := Box.grown (b2.alloc (.cells #[.int .i64 a, .int .i64 b] 26)) hg5 (by simp)
          have z5 := Box.grown hz0 hg5 (by simp; omega)
          have o5 := o2.kept hg5 (.inr (fun e => by have := (o2.lt _ e).1; omega))
          have hb5 : Below w.heap.size w w5 := (hbw.alloc (by omega) _).grown hg5 (by simp; omega) (fun j e => by cases e; omega)
          have hs5 := hg5.size
          simp only [World.size_alloc] at hs5
          have gx0 : w5.cell? ⟨w2.heap.size, 0, none⟩ = some (.int .i64 a) := z5.cell 0
          have gx1 : w5.cell? ⟨w2.heap.size, 1, none⟩ = some (.int .i64 b) := z5.cell 1
          clear m2 o2 b2 hz0
          obtain ⟨i0, hi, hz0, hz1, hz2⟩ : ∃ i, Tryz.prog.info? 26 = some i ∧ i.zero = some (.agg #[.int .i64 0, .int .i64 0]) ∧ i.size = 2 ∧ i.bytes = 16 := ⟨_, rfl, rfl, rfl, rfl⟩
          have hnews : ∀ (j : Nat) (u : Value), [Value.int .i64 a, .int .i64 b][j]? = some u → (w5.alloc (.cells #[.int .i64 a, .int .i64 b] 26)).cell? ((⟨w5.heap.size, 0, none⟩ : Addr).add j) = some u := fun j u h => by
            have e := Box.made w5 26 #[.int .i64 a, .int .i64 b]
            rcases j with _ | _ | j
            · exact (e.cell 0).trans h
            · exact (e.cell 1).trans h
            · simp at h
          have h1c : ∀ u ∈ [Value.int .i64 a, .int .i64 b], u.oneCell' = true := by intro u hu; simp at hu; rcases hu with rfl | rfl <;> rfl
          have hk1 : 0 + 1 ≤ maxLen := by unfold maxLen; omega
          have hk2 : (0 + 1) * 16 ≤ 140737488355328 := by omega
          have hk3 : w.heap.size + 2 ≤ (w5.alloc (.cells #[.int .i64 a, .int .i64 b] 26)).heap.size := by simp; omega
          have ho6 := o5.alloc (.cells #[.int .i64 a, .int .i64 b] 26)
          have hne : ∀ q, q < w.heap.size + 2 → ov.ownBlock ≠ some q := fun q h e => by have := (o5.lt _ e).1; omega
          have hsh : ∀ q, ov.ownBlock = some q → w.heap.size + 2 ≤ q := fun q e => (o5.lt _ e).1
          go_wp2_with (first
            | (at_builtin; refine wpList_append_own_at _ rfl _ _ 39 rfl (w.heap.size + 2) 26 i0 (.agg #[.int .i64 0, .int .i64 0]) 2 16 Tryz.underlying39 hi hz0 hz1 hz2 rfl (by decide) ov _ _ rfl ho6 ⟨w5.heap.size, 0, none⟩ 1 1 [.int .i64 a, .int .i64 b] rfl rfl hnews h1c hk1 hk2 hk3 ?_; intro v' w7 hown7 hgrow7 _ _))
          have b7 := Box.grown (b5.alloc (.cells #[.int .i64 a, .int .i64 b] 26)) hgrow7 (hne _ (by omega))
          have m7 := (m5.kept (gb_alloc _ (.cells #[.int .i64 a, .int .i64 b] 26)) (by simp)).kept hgrow7 (fun e => hne _ (by omega) e.symm)
          have hb7 : Below w.heap.size w w7 := (hb5.alloc (by omega) _).grown hgrow7 (by simp; omega) (fun j e => by have := hsh j e; omega)
          have hs7 := hgrow7.size
          simp only [World.size_alloc] at hs7
          have hst2 : NrSt w w7 f (.slice A f.kinds.length cp) (k + 1) v' := by
            refine ⟨b7, ?_, ?_, hfu2, hb7, by omega⟩
            · rw [Hs.out]; unfold nrNew; dsimp only; rw [Hab.out]; exact m7.mono (by omega)
            · rw [Hs.out]; unfold nrNew; dsimp only; rw [Hab.out]; exact hown7
          have Hr := Lib.hid (show (nrIter f (k + 1)).count = s.count + 1 ∧ (nrIter f (k + 1)).next = s.next + 1 by rw [Hs.out]; exact ⟨rfl, rfl⟩)
          go_roundg (gk - 1)
          case measure => have := Hg.out; omega
          case rel => exact ⟨k + 1, by have := Hg.out; omega, by rw [Hr.out.1]; go_num, by rw [Hr.out.2]; go_num, hst2⟩
      · have hd : nrDone f (nrIter f k) := ⟨hnil, by omega⟩
        have he := nrFuel_end hst.fuel hd
        rw [he] at hnm hn hnle ⊢
        clear hst hok hfu
        have hnn : decide (((numR f).next : Int) < (f.kinds.length : Int)) = false := by simpa using hn
        go_wp2_with fail
        rw [Exit.noGoto_ret]
        go_ret2
        exact ⟨_, _, rfl, hnm, by omega, hbel⟩

end Go.Proofs.YtpejcdjgggcjlaaGreatDoor

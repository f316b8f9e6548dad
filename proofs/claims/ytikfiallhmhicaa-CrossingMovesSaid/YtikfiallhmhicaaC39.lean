/- Layer 2: the entries, on both sides. -/
import Derived.Test.YtikfiallhmhicaaC38
import Derived.Maps.AppendAt
set_option linter.all false
namespace Go.Proofs.Ytikfiallhmhicaa
open Go.RowKit


theorem own_below {w w' : World} {base : Nat} {e : TypeId} {size : Nat} {v : Value} {n : Nat} {xs : List Value} (h : w.ownsRow base e size v n xs) (hb : Below w.heap.size w w') : w'.ownsRow base e size v n xs := own_later h hb
theorem news_box {W : World} {g : Nat} {t : TypeId} {cs : List Value} (h : Box W g t cs.toArray) : ∀ j u, cs[j]? = some u → W.cell? ((⟨g, 0, none⟩ : Addr).add j) = some u := fun j u hj => by
  have e2 : (⟨g, 0, none⟩ : Addr).add j = ⟨g, j, none⟩ := by rcases j with _ | j <;> simp [Addr.add]
  rw [e2, h.cell]
  simpa using hj
def entI (p : Pr) (S j : Nat) : St3 := ⟨0, ((j % S : Nat) : Int), ((j / S : Nat) : Int)⟩
def entS (p : Pr) (S j : Nat) : List St3 := (List.range j).map (entI p S)
def entN (p : Pr) (S j : Nat) : List Int := (List.range j).map fun i => numI p (entI p S i)
theorem entS_len (p : Pr) (S j : Nat) : (entS p S j).length = j := by simp [entS]
theorem entN_len (p : Pr) (S j : Nat) : (entN p S j).length = j := by simp [entN]
theorem entS_snoc (p : Pr) (S j : Nat) : entS p S (j + 1) = entS p S j ++ [entI p S j] := by unfold entS; rw [List.range_succ, List.map_append]; rfl
theorem entN_snoc (p : Pr) (S j : Nat) : entN p S (j + 1) = entN p S j ++ [numI p (entI p S j)] := by unfold entN; rw [List.range_succ, List.map_append]; rfl
theorem entI_at (p : Pr) {S k1 k2 : Nat} (h : k2 < S) : entI p S (k1 * S + k2) = ⟨0, (k2 : Int), (k1 : Int)⟩ := by
  unfold entI
  rw [Nat.mul_comm k1 S, Nat.mul_add_mod, Nat.mod_eq_of_lt h, Nat.mul_add_div (by omega), Nat.div_eq_of_lt h, Nat.add_zero]
theorem entI_has {p : Pr} {S j : Nat} (h0 : ckE p = 0) (hS : p.bed.sectors = (S : Int)) (hj : j < S * S) : hasB p (entI p S j) = true := by
  obtain ⟨hR, hS2, -⟩ := ckE_bd h0
  have h1 : j % S < S := Nat.mod_lt _ (by omega)
  have h2 : j / S < S := Nat.div_lt_of_lt_mul hj
  refine hasB_parts.2 ?_
  unfold entI
  dsimp only
  rw [hS]
  generalize j % S = x at h1 ⊢
  generalize j / S = y at h2 ⊢
  omega
theorem entN_nth {p : Pr} {S n j : Nat} (h : j < n) : nth (entN p S n) j = numI p (entI p S j) := by
  unfold nth entN
  rw [List.getD_eq_getElem?_getD, List.getElem?_map, List.getElem?_range h]
  rfl
/-- the state of the number of a state is that state -/
theorem stateI_numI {p : Pr} {s : St3} (h0 : ckE p = 0) (hs : hasB p s = true) : stateI p (numI p s) = s ∧ 0 ≤ numI p s ∧ numI p s < stN p := by
  obtain ⟨hR, hS, -⟩ := ckE_bd h0
  obtain ⟨c1, c2, c3⟩ := hasB_parts.1 hs
  obtain ⟨⟨m1, -⟩, ⟨m2, -⟩, m3, m4⟩ := num_bd hR hS c1 c2 c3
  refine ⟨?_, m3, m4⟩
  have hx : numI p s / p.bed.sectors = s.turn * p.bed.rings + s.ring := by
    unfold numI
    rw [Int.add_comm, Int.add_mul_ediv_right _ _ (by omega), Int.ediv_eq_zero_of_lt c2.1 c2.2, Int.zero_add]
  have hy : numI p s % p.bed.sectors = s.sector := by
    unfold numI
    rw [Int.add_comm, Int.add_mul_emod_self_right, Int.emod_eq_of_lt c2.1 c2.2]
  unfold stateI
  rw [hx, hy, Int.add_comm (s.turn * p.bed.rings) s.ring, Int.add_mul_emod_self_right, Int.emod_eq_of_lt c1.1 c1.2, Int.add_mul_ediv_right _ _ (by omega), Int.ediv_eq_zero_of_lt c1.1 c1.2, Int.zero_add]
/-- a slice of states -/
def States (w : World) (B : Nat) (v : Value) (l : List St3) : Prop :=
  ∃ A c, v = .slice A l.length c ∧ l.length ≤ c ∧
    (0 < l.length → ∃ b off, A = some ⟨b, off, none⟩ ∧ b < B ∧ ∀ k, k < l.length →
      w.cell? ⟨b, off + k * 3, none⟩ = some (.int .i64 (l.getD k st0).ring) ∧ w.cell? ⟨b, off + k * 3 + 1, none⟩ = some (.int .i64 (l.getD k st0).sector) ∧ w.cell? ⟨b, off + k * 3 + 2, none⟩ = some (.int .i64 (l.getD k st0).turn))
theorem States.mono {w w' : World} {B B' : Nat} {v : Value} {l : List St3} (h : States w B v l) (hb : Below B w w') (hB : B ≤ B') : States w' B' v l := by
  obtain ⟨A, c, rfl, h2, h3⟩ := h
  refine ⟨A, c, rfl, h2, fun hp => ?_⟩
  obtain ⟨b, off, rfl, hlt, hc⟩ := h3 hp
  exact ⟨b, off, rfl, by omega, fun k hk => ⟨keepd (hc k hk).1 hb hlt, keepd (hc k hk).2.1 hb hlt, keepd (hc k hk).2.2 hb hlt⟩⟩
theorem States.later {w w1 : World} {v : Value} {l : List St3} (h : States w w.heap.size v l) (hb : Below w.heap.size w w1) : States w1 w1.heap.size v l := h.mono hb hb.size
theorem States.at {w : World} {B : Nat} {v : Value} {l : List St3} (h : States w B v l) {k : Nat} (hk : k < l.length) :
    ∃ b off c, v = .slice (some ⟨b, off, none⟩) l.length c ∧ b < B ∧ w.cell? ⟨b, off + k * 3, none⟩ = some (.int .i64 (l.getD k st0).ring) ∧ w.cell? ⟨b, off + k * 3 + 1, none⟩ = some (.int .i64 (l.getD k st0).sector) ∧ w.cell? ⟨b, off + k * 3 + 2, none⟩ = some (.int .i64 (l.getD k st0).turn) := by
  obtain ⟨A, c, rfl, h2, h3⟩ := h
  obtain ⟨b, off, rfl, hlt, hc⟩ := h3 (by omega)
  exact ⟨b, off, c, rfl, hlt, hc k hk⟩
def scs (s : St3) : List Value := [.int .i64 s.ring, .int .i64 s.sector, .int .i64 s.turn]
def srow (l : List St3) : List Value := l.flatMap scs
theorem srow_snoc (l : List St3) (x : St3) : srow (l ++ [x]) = srow l ++ scs x := by unfold srow; rw [List.flatMap_append]; simp
theorem srow_len (l : List St3) : (srow l).length = l.length * 3 := by
  induction l with
  | nil => rfl
  | cons x l ih => rw [srow, List.flatMap_cons, List.length_append]; change 3 + (srow l).length = _; rw [ih, List.length_cons]; omega
theorem srow_at (l : List St3) (k : Nat) (hk : k < l.length) : (srow l)[k * 3]? = some (.int .i64 (l.getD k st0).ring) ∧ (srow l)[k * 3 + 1]? = some (.int .i64 (l.getD k st0).sector) ∧ (srow l)[k * 3 + 2]? = some (.int .i64 (l.getD k st0).turn) := by
  induction l generalizing k with
  | nil => simp at hk
  | cons x l ih =>
    have e : srow (x :: l) = .int .i64 x.ring :: .int .i64 x.sector :: .int .i64 x.turn :: srow l := rfl
    rw [e]
    cases k with
    | zero => exact ⟨rfl, rfl, rfl⟩
    | succ k =>
      have := ih k (by simpa using hk)
      rw [show (k + 1) * 3 = k * 3 + 1 + 1 + 1 by omega]
      exact this
theorem scs_one (x : St3) : ∀ u ∈ scs x, u.oneCell' = true := by
  intro u hu
  unfold scs at hu
  simp at hu
  rcases hu with rfl | rfl | rfl <;> rfl
theorem states_own {w : World} {base : Nat} {v : Value} {l : List St3} (h : w.ownsRow base 29 3 v l.length (srow l)) : States w w.heap.size v l := by
  have ho := h
  rcases h.2 with ⟨rfl, h2⟩ | ⟨ge, cap, cur, rfl, h4, h5, h6, h7, h8, h9⟩
  · exact ⟨none, 0, by rw [h2], by omega, fun h => by omega⟩
  · have hb : Box w ge 29 cur := h5
    have hc : ∀ j, j < l.length * 3 → w.cell? ⟨ge, 0 + j, none⟩ = (srow l)[j]? := fun j hj => by
      rw [Nat.zero_add]; exact ho.cellAt _ (by omega)
    refine ⟨_, _, rfl, h6, fun hp => ⟨ge, 0, rfl, hb.lt, fun k hk => ?_⟩⟩
    have hp := srow_at l k hk
    exact ⟨(hc _ (by omega)).trans hp.1, (hc _ (by omega)).trans hp.2.1, (hc _ (by omega)).trans hp.2.2⟩
theorem sq_bd {S k1 k2 : Nat} (h1 : k1 < S) (h2 : k2 < S) (hS : S ≤ 96) : k1 * S + k2 < S * S ∧ S * S ≤ 9216 := by
  have a : (k1 + 1) * S ≤ S * S := Nat.mul_le_mul_right S h1
  have b : S * S ≤ 96 * 96 := Nat.mul_le_mul hS hS
  rw [Nat.add_mul] at a
  omega
set_option maxRecDepth 100000 in
set_option maxHeartbeats 8000000 in
theorem entries_c (p : Pr) (S g : Nat) (w : World) (h : IsChart w g p) (h0 : ckE p = 0) (hS : p.bed.sectors = (S : Int)) : Calls Try.prog 55 #[.pointer (some ⟨g, 0, none⟩)] w fun e w' => (∃ v, e = .returned v ∧ w'.ownsRow w.heap.size 3 1 v (S * S) (ints (entN p S (S * S)))) ∧ Below w.heap.size w w' := by
  obtain ⟨-, hS2, -⟩ := ckE_bd h0
  have HSS := Lib.hid (show 2 ≤ S ∧ S ≤ 96 by omega)
  obtain ⟨-, z1, z2⟩ := h.rings
  rw [hS] at z1
  have HCH := Lib.hid h
  have HP := Lib.hid h0
  have HS := Lib.hid hS
  have HLg := Lib.hid z2
  have HZ1 := Lib.hid z1
  obtain ⟨i0, hi, hz0, hz1, hz2⟩ : ∃ i, Try.prog.info? 3 = some i ∧ i.zero = some (.int .i64 0) ∧ i.size = 1 ∧ i.bytes = 8 := ⟨_, rfl, rfl, rfl, rfl⟩
  clear h h0 hS z2 hS2
  go_enter Try.func55, Try.ntmps55
  go_wp2_with fail
  clear z1
  go_loopw [3, 10] (fun lv kv wr => ∃ k : Nat, k ≤ S ∧ kv = .int .i64 (k : Int) ∧ wr.ownsRow w.heap.size 3 1 lv (k * S) (ints (entN p S (k * S))) ∧ Below w.heap.size w wr) (fun _ kv _ => S - (intOf kv).toNat)
  case atStart => exact ⟨0, Nat.zero_le _, rfl, by rw [Nat.zero_mul]; exact World.ownsRow_nil _ _ _ _, Below.refl _ _⟩
  case round =>
    obtain ⟨k, hk, rfl, ho, hb⟩ := hrel
    have HO := Lib.hid ho
    have HB := Lib.hid hb
    clear ho hb
    by_cases hlt : k < S
    · have HLT := Lib.hid hlt
      have d1 : decide ((k : Int) < (S : Int)) = true := by simpa using hlt
      have d2 : decide (k < S) = true := by simpa using hlt
      have k96 : k ≤ 96 := by have := HSS.out; omega
      have z1 := keepd HZ1.out HB.out HLg.out
      clear hk hlt
      go_wp2_with fail
      clear z1 d1 d2
      go_loopw [3, 17] (fun lv kv wi => ∃ k2 : Nat, k2 ≤ S ∧ kv = .int .i64 (k2 : Int) ∧ wi.ownsRow w.heap.size 3 1 lv (k * S + k2) (ints (entN p S (k * S + k2))) ∧ Below w.heap.size w wi) (fun _ kv _ => S - (intOf kv).toNat)
      case atStart => exact ⟨0, Nat.zero_le _, rfl, HO.out, HB.out⟩
      case round =>
        obtain ⟨k2, hk2, rfl, ho, hb⟩ := hrel
        have HO := Lib.hid ho
        have HB := Lib.hid hb
        clear ho hb
        by_cases hlt2 : k2 < S
        · have HLT2 := Lib.hid hlt2
          have d3 : decide ((k2 : Int) < (S : Int)) = true := by simpa using hlt2
          have d4 : decide (k2 < S) = true := by simpa using hlt2
          have k296 : k2 ≤ 96 := by have := HSS.out; omega
          have HSN := Lib.hid (entN_snoc p S (k * S + k2))
          obtain ⟨L, hL⟩ : ∃ L, entN p S (k * S + k2) = L := ⟨_, rfl⟩
          obtain ⟨j, hj⟩ : ∃ j, k * S + k2 = j := ⟨_, rfl⟩
          have HIJ := Lib.hid (show entI p S j = ⟨0, (k2 : Int), (k : Int)⟩ by rw [← hj]; exact entI_at p hlt2)
          have HJB := Lib.hid (show j < S * S ∧ S * S ≤ 9216 by rw [← hj]; exact sq_bd HLT.out hlt2 HSS.out.2)
          have HJ := Lib.hid hj
          rw [hL] at HO HSN
          rw [hj] at HO HSN
          have HHAS := Lib.hid (show hasB p ⟨0, (k2 : Int), (k : Int)⟩ = true by rw [← HIJ.out]; exact entI_has HP.out HS.out HJB.out.1)
          have HCW := Lib.hid (HCH.out.later HB.out)
          have HLL := Lib.hid (show L.length = j by rw [← hL, entN_len, hj])
          clear hL hj hk2 hlt2
          go_wp2_with fail
          refine (number_c p 0 (k2 : Int) (k : Int) g wr HCW.out HP.out HHAS.out).mono ?_; rintro e v1 ⟨rfl, hb1⟩
          obtain ⟨x, hx⟩ : ∃ x, numI p ⟨0, (k2 : Int), (k : Int)⟩ = x := ⟨_, rfl⟩
          have HR := Lib.hid (show entN p S (j + 1) = L ++ [x] by rw [HSN.out, HIJ.out, hx])
          rw [hx]
          have HO1 := Lib.hid (own_below HO.out hb1)
          have HB1 := Lib.hid (HB.out.trans (hb1.mono HB.out.size))
          clear hb1 hx
          have HO2 := Lib.hid (HO1.out.alloc (.cells #[.int .i64 x] 3))
          have HN1 := Lib.hid (news_box (W := v1.alloc (.cells #[.int .i64 x] 3)) (cs := [.int .i64 x]) (Box.made v1 3 #[.int .i64 x]))
          have HL1 := Lib.hid (show j + 1 ≤ maxLen ∧ (j + 1) * 8 ≤ 140737488355328 by have := HJB.out; unfold maxLen; omega)
          have HB2 := Lib.hid (HB1.out.alloc HB1.out.size (.cells #[.int .i64 x] 3))
          go_wp2_with (first
            | (at_builtin; refine wpList_append_own_at _ rfl _ _ 22 rfl w.heap.size 3 i0 (.int .i64 0) 1 8 Try.underlying22 hi hz0 hz1 hz2 rfl (by decide) _ _ _ rfl HO2.out ⟨v1.heap.size, 0, none⟩ 1 1 [.int .i64 x] rfl rfl HN1.out (one_cell _) HL1.out.1 HL1.out.2 HB2.out.size ?_; intro v7 w7 hown7 hgrow7 _ _; have HO7 := Lib.hid hown7; have HB7 := Lib.hid (HB2.out.grown hgrow7 HB2.out.size (fun q e => (HO2.out.lt q e).1)); clear hown7 hgrow7)
            | fail)
          go_roundw
          case rel => exact ⟨k2 + 1, HLT2.out, by go_num, by rw [show k * S + (k2 + 1) = j + 1 by rw [← Nat.add_assoc, HJ.out], HR.out, ints_snoc]; exact HO7.out, HB7.out⟩
          case measure => have := HLT2.out; simp [intOf]; omega
        · obtain rfl : k2 = S := by omega
          have d3 : decide ((k2 : Int) < (k2 : Int)) = false := by simp
          have d4 : decide (k2 < k2) = false := by simp
          go_wp2_with fail
          go_roundw
          case rel => exact ⟨k + 1, HLT.out, by go_num, by rw [Nat.add_mul, Nat.one_mul]; exact HO.out, HB.out⟩
          case measure => have := HLT.out; simp [intOf]; omega
    · obtain rfl : k = S := by omega
      have d1 : decide ((k : Int) < (k : Int)) = false := by simp
      have d2 : decide (k < k) = false := by simp
      go_wp2_with fail
      go_ret
      exact ⟨⟨_, rfl, HO.out⟩, HB.out⟩

end Go.Proofs.Ytikfiallhmhicaa

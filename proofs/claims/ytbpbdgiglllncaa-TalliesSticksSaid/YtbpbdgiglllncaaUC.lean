/- Layer 9: lists of bytes that are long, and both halves of many tallies: what the law's own functions answer. -/
import Derived.Test.YtbpbdgiglllncaaUB
import Derived.Test.YtbpbdgiglllncaaU7
set_option linter.all false
namespace Go.Proofs.Ytbpbdgiglllncaa
open Go.RowKit

/-- some part is longer than 300 -/
def longB (l : List (List Int)) : Bool := l.any fun b => decide (300 < b.length)
theorem longB_at {l : List (List Int)} {k : Nat} (hk : k < l.length) (h : 300 < (nthB l k).length) : longB l = true := by
  unfold longB
  rw [List.any_eq_true]
  refine ⟨l[k], List.getElem_mem hk, ?_⟩
  have e : nthB l k = l[k] := by simp [nthB, hk]
  rw [← e]; simpa using h
theorem longB_no {l : List (List Int)} (h : ∀ k, k < l.length → (nthB l k).length ≤ 300) : longB l = false := by
  cases hb : longB l
  · rfl
  · exfalso
    unfold longB at hb
    rw [List.any_eq_true] at hb
    obtain ⟨b, hb, hl⟩ := hb
    obtain ⟨k, hk, rfl⟩ := List.getElem_of_mem hb
    have := h k hk
    have e : nthB l k = l[k] := by simp [nthB, hk]
    rw [e] at this
    simp at hl; omega
theorem longB_all {l : List (List Int)} (h : longB l = false) {k : Nat} (hk : k < l.length) : (nthB l k).length ≤ 300 := by
  rcases Nat.lt_or_ge 300 (nthB l k).length with h1 | h1
  · rw [longB_at hk h1] at h; cases h
  · exact h1
set_option maxRecDepth 100000 in
set_option maxHeartbeats 4000000 in
theorem long_c (l : List (List Int)) (v : Value) (w : World) (hl : ByL w w.heap.size v l) :
    Calls Try.prog 19 #[v] w fun e w' => e = .returned (.bool (longB l)) ∧ Below w.heap.size w w' := by
  obtain ⟨l1, A, c, rfl, l2, l3⟩ := hl
  have L3 := Lib.hid l3
  obtain ⟨n, hln⟩ : ∃ z, l.length = z := ⟨_, rfl⟩
  have HLN := Lib.hid hln
  have n9 : n ≤ 17592186044416 := by omega
  rw [hln] at L3 ⊢
  clear hln l1 l2 l3
  go_enter Try.func19, Try.ntmps19
  go_wp2_with fail
  go_loopw [3] (fun i wr => ∃ k : Nat, k ≤ n ∧ i = .int .i64 (k : Int) ∧ (∀ j, j < k → (nthB l j).length ≤ 300) ∧ Below w.heap.size w wr) (fun i _ => n - (intOf i).toNat)
  case atStart => exact ⟨0, Nat.zero_le _, rfl, fun j hj => by omega, Below.refl _ _⟩
  case round =>
    obtain ⟨k, hk, rfl, hall, hbr⟩ := hrel
    have HA := Lib.hid hall
    have HB := Lib.hid hbr
    clear hall
    by_cases hlt : k < n
    · obtain ⟨b, off, rfl, hbB, hcc⟩ := L3.out (by omega)
      obtain ⟨s1, hx, hs1⟩ := hcc k hlt
      have hx := keepd hx hbr hbB
      have hi1 : (0 : Int) ≤ (k : Int) := by omega
      have hi2 : (k : Int) < (n : Int) := by omega
      have hdl : decide ((k : Int) < (n : Int)) = true := by simpa using hlt
      have HL := Lib.hid hlt
      obtain ⟨A1, c1, rfl, -⟩ := hs1.shape
      obtain ⟨m, hm⟩ : ∃ z, (nthB l k).length = z := ⟨_, rfl⟩
      have HM := Lib.hid hm
      rw [hm] at hx
      clear hcc hs1 hbr hlt hm
      by_cases hz : 300 < m
      · have hd : decide ((300 : Int) < (m : Int)) = true := by simp; omega
        have Hs := Lib.hid (show longB l = true from longB_at (k := k) (by rw [HLN.out]; exact HL.out) (by rw [HM.out]; exact hz))
        clear hz
        go_wp2_with fail
        go_ret
        exact ⟨ret_bool Hs.out.symm, HB.out⟩
      · have hd : decide ((300 : Int) < (m : Int)) = false := by simp; omega
        have Hs := Lib.hid (show m ≤ 300 by omega)
        clear hz
        go_wp2_with fail
        go_roundw
        case rel => exact ⟨k + 1, by have := HL.out; omega, by go_num, fun j hj => by rcases Nat.lt_succ_iff_lt_or_eq.1 hj with h | rfl; exact HA.out j h; rw [HM.out]; exact Hs.out, HB.out⟩
        case measure => have := HL.out; simp [intOf]; omega
    · obtain rfl : k = n := by omega
      have Hs := Lib.hid (show longB l = false from longB_no (by rw [HLN.out]; exact HA.out))
      have hdl : decide ((k : Int) < (k : Int)) = false := by simp
      clear hlt hbr
      go_wp2_with fail
      go_ret
      exact ⟨ret_bool Hs.out.symm, HB.out⟩

/-- two values lie in different blocks -/
def Dis (a b : Value) : Prop := ∀ g, a.ownBlock = some g → b.ownBlock ≠ some g
theorem Dis.symm {a b : Value} (h : Dis a b) : Dis b a := fun g h1 h2 => h g h2 h1
/-- an own row is left alone by what grows another one -/
theorem own_other {w w' : World} {base : Nat} {e : TypeId} {size : Nat} {v u : Value} {n : Nat} {xs : List Value} (h : w.ownsRow base e size v n xs) (hg : w.grownBy w' u.ownBlock) (hd : Dis v u) : w'.ownsRow base e size v n xs := by
  refine h.kept hg ?_
  cases hv : v.ownBlock with
  | none => exact .inl rfl
  | some g => exact .inr (fun e => hd g hv e.symm)
theorem dis_new {w : World} {base : Nat} {e : TypeId} {size : Nat} {v v' u : Value} {n : Nat} {xs : List Value} (h : w.ownsRow base e size u n xs) (hd : Dis u v) {s : Nat} (hs : w.heap.size ≤ s) (hn : v'.ownBlock = v.ownBlock ∨ v'.ownBlock = some s) : Dis u v' := by
  intro g h1 h2
  rcases hn with h3 | h3
  · exact hd g h1 (h3 ▸ h2)
  · have := (h.lt g h1).2
    rw [h3] at h2; cases h2; omega
/-- three own rows, each in blocks of its own -/
def Own3 (w : World) (base : Nat) (sv fv ev : Value) (S F : List Int) (E : List Int) : Prop :=
  w.ownsRow base 5 1 sv S.length (bys S) ∧ w.ownsRow base 5 1 fv F.length (bys F) ∧ w.ownsRow base 3 1 ev E.length (ints E) ∧ Dis sv fv ∧ Dis sv ev ∧ Dis fv ev
theorem Own3.later {w w' : World} {base : Nat} {sv fv ev : Value} {S F E : List Int} (h : Own3 w base sv fv ev S F E) (hb : Below w.heap.size w w') : Own3 w' base sv fv ev S F E :=
  ⟨own_later h.1 hb, own_later h.2.1 hb, own_later h.2.2.1 hb, h.2.2.2⟩
theorem Own3.up1 {w w' : World} {base : Nat} {sv fv ev sv' : Value} {S F E S' : List Int} (h : Own3 w base sv fv ev S F E) (ho : w'.ownsRow base 5 1 sv' S'.length (bys S')) (hg : w.grownBy w' sv.ownBlock) (hn : sv'.ownBlock = sv.ownBlock ∨ sv'.ownBlock = some w.heap.size) : Own3 w' base sv' fv ev S' F E :=
  ⟨ho, own_other h.2.1 hg h.2.2.2.1.symm, own_other h.2.2.1 hg h.2.2.2.2.1.symm, (dis_new h.2.1 h.2.2.2.1.symm (Nat.le_refl _) hn).symm, (dis_new h.2.2.1 h.2.2.2.2.1.symm (Nat.le_refl _) hn).symm, h.2.2.2.2.2⟩
theorem Own3.up2 {w w' : World} {base : Nat} {sv fv ev fv' : Value} {S F E F' : List Int} (h : Own3 w base sv fv ev S F E) (ho : w'.ownsRow base 5 1 fv' F'.length (bys F')) (hg : w.grownBy w' fv.ownBlock) (hn : fv'.ownBlock = fv.ownBlock ∨ fv'.ownBlock = some w.heap.size) : Own3 w' base sv fv' ev S F' E :=
  ⟨own_other h.1 hg h.2.2.2.1, ho, own_other h.2.2.1 hg h.2.2.2.2.2.symm, dis_new h.1 h.2.2.2.1 (Nat.le_refl _) hn, h.2.2.2.2.1, (dis_new h.2.2.1 h.2.2.2.2.2.symm (Nat.le_refl _) hn).symm⟩
theorem Own3.up3 {w w' : World} {base : Nat} {sv fv ev ev' : Value} {S F E E' : List Int} (h : Own3 w base sv fv ev S F E) (ho : w'.ownsRow base 3 1 ev' E'.length (ints E')) (hg : w.grownBy w' ev.ownBlock) (hn : ev'.ownBlock = ev.ownBlock ∨ ev'.ownBlock = some w.heap.size) : Own3 w' base sv fv ev' S F E' :=
  ⟨own_other h.1 hg h.2.2.2.2.1, own_other h.2.1 hg h.2.2.2.2.2, ho, h.2.2.2.1, dis_new h.1 h.2.2.2.2.1 (Nat.le_refl _) hn, dis_new h.2.1 h.2.2.2.2.2 (Nat.le_refl _) hn⟩
/-- the ends, as a list -/
def endsList (l : List (List Int)) : List Int := (List.range (l.length + 1)).map (endsL l)
theorem endsList_len (l : List (List Int)) : (endsList l).length = l.length + 1 := by simp [endsList]
theorem endsList_at (l : List (List Int)) (k : Nat) (hk : k ≤ l.length) : nth (endsList l) k = endsL l k := by
  unfold nth endsList
  rw [List.getD_eq_getElem?_getD, List.getElem?_map, List.getElem?_range (by omega)]
  rfl
theorem endsList_snoc (l : List (List Int)) (k : Nat) (hk : k < l.length) : endsList (l.take (k + 1)) = endsList (l.take k) ++ [((catS (l.take (k + 1))).length : Int)] := by
  unfold endsList
  rw [List.length_take, List.length_take, Nat.min_eq_left (by omega), Nat.min_eq_left (by omega), List.range_succ, List.map_append]
  congr 1
  · apply List.map_congr_left
    intro j hj
    have := List.mem_range.1 hj
    unfold endsL
    rw [List.take_take, List.take_take, Nat.min_eq_left (by omega), Nat.min_eq_left (by omega)]
  · unfold endsL
    rw [List.map_singleton, List.take_take, Nat.min_self]

theorem Try.infoInt3 : (Try.prog.info? 3).map (fun i => (i.zero, i.size, i.bytes)) = some (some (.int .i64 0), 1, 8) := by kernel_rfl
/-- one more number at the end of a row of numbers that the call itself owns -/
theorem app_int (w : World) (base : Nat) (ty : TypeId) (v : Value) (l : List Int) (hown : w.ownsRow base 3 1 v l.length (ints l)) (x : Int)
    (hsmall : l.length ≤ 1099511627776) (hbase : base ≤ w.heap.size) :
    ∃ v' w', (Builtin.append_ #[26, 26] ty #[v, .slice (some ⟨w.heap.size, 0, none⟩) 1 1]).run Try.prog (w.alloc (.cells #[.int .i64 x] 3)) = .ok v' w' ∧ w'.ownsRow base 3 1 v' (l ++ [x]).length (ints (l ++ [x])) ∧ (w.alloc (.cells #[.int .i64 x] 3)).grownBy w' v.ownBlock ∧ (v'.ownBlock = v.ownBlock ∨ v'.ownBlock = some (w.alloc (.cells #[.int .i64 x] 3)).heap.size) := by
  obtain ⟨i, hi, hi2⟩ := Option.map_eq_some_iff.1 Try.infoInt3
  simp only [Prod.mk.injEq] at hi2
  obtain ⟨hz, hsz, hby⟩ := hi2
  have ha := hown.alloc (.cells #[.int .i64 x] 3)
  obtain ⟨v', w', r1, r2, r3, r4, r5⟩ := run_append_own_at (P := Try.prog) (w.alloc (.cells #[.int .i64 x] 3)) base 26 ty 3 i (.int .i64 0) 1 8 Try.underlying26 hi hz hsz hby rfl (by decide) v l.length (ints l) ha ⟨w.heap.size, 0, none⟩ 1 1 [.int .i64 x] rfl
    (cell_one_new w (.int .i64 x) 3) (one_cell x) (by unfold maxLen; omega) (by omega) (by simp; omega)
  refine ⟨v', w', r1, ?_, r3, r5⟩
  rw [List.length_append, ints_snoc]
  exact r2
end Go.Proofs.Ytbpbdgiglllncaa

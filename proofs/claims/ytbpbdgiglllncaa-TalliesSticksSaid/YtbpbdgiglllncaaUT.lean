/- TalliesSticks: the law. -/
import Derived.Test.YtbpbdgiglllncaaUS
import Derived.Test.YtbpbdgiglllncaaT90
import Derived.Deep.MidRow
import Derived.Great.BuildSlice
import Derived.Laws.CopyOwn
set_option linter.all false
namespace Go.Proofs.Ytbpbdgiglllncaa
open Go.RowKit

/-- an operation, as far as a stick takes part in it -/
structure Op9 where
  kind : Int
  bytes : List Int
  stock : Int
  foil : Int
  flip : Int
def op0 : Op9 := ⟨0, [], 0, 0, 0⟩
/-- the cells of an operation -/
def opCs (o : Op9) (bv : Value) (mid : List Value) : List Value := .int .i64 o.kind :: bv :: (mid ++ [.int .i64 o.stock, .int .i64 o.foil, .int .i64 o.flip])
theorem opCs_len (o : Op9) (bv : Value) {mid : List Value} (h : mid.length = 21) : (opCs o bv mid).length = 26 := by unfold opCs; simp [h]
theorem opCs_0 (o : Op9) (bv : Value) (mid : List Value) : (opCs o bv mid).toArray[0]? = some (.int .i64 o.kind) := rfl
theorem opCs_1 (o : Op9) (bv : Value) (mid : List Value) : (opCs o bv mid).toArray[1]? = some bv := rfl
theorem opCs_23 (o : Op9) (bv : Value) {mid : List Value} (h : mid.length = 21) : (opCs o bv mid).toArray[23]? = some (.int .i64 o.stock) := by unfold opCs; simp [List.getElem?_append_right, h]
theorem opCs_24 (o : Op9) (bv : Value) {mid : List Value} (h : mid.length = 21) : (opCs o bv mid).toArray[24]? = some (.int .i64 o.foil) := by unfold opCs; simp [List.getElem?_append_right, h]
theorem opCs_25 (o : Op9) (bv : Value) {mid : List Value} (h : mid.length = 21) : (opCs o bv mid).toArray[25]? = some (.int .i64 o.flip) := by unfold opCs; simp [List.getElem?_append_right, h]
/-- a slice of operations in memory -/
def OpsIn (w : World) (B : Nat) (v : Value) (ks : List Op9) : Prop :=
  ks.length ≤ 140737488351232 ∧ ∃ A c, v = .slice A ks.length c ∧ ks.length ≤ c ∧ (0 < ks.length → ∃ b off, A = some ⟨b, off, none⟩ ∧ b < B ∧ ∀ k, k < ks.length → ∃ bv mid, mid.length = 21 ∧ (∀ u ∈ mid, u.oneCell' = true) ∧ w.rangeAt b (off + k * 26) (opCs (ks.getD k op0) bv mid) ∧ Bys w B bv (ks.getD k op0).bytes)
theorem rangeAt_below {w W : World} {b o B : Nat} {cs : List Value} (h : w.rangeAt b o cs) (hb : Below B w W) (hB : b < B) : W.rangeAt b o cs := fun j v hv => keepd (h j v hv) hb hB

set_option maxRecDepth 100000 in
set_option maxHeartbeats 4000000 in
theorem NewStick_c (w : World) : Calls Try.prog 21 #[] w fun e w' => e = .returned (.pointer (some ⟨w.heap.size, 0, none⟩)) ∧ w' = w.alloc (.cells #[.slice none 0 0, .int .i64 0, .slice none 0 0, .int .i64 0] 94) := by
  go_enter Try.func21, Try.ntmps21
  go_wp2_with fail
  go_ret
  exact ⟨rfl, rfl⟩
theorem nilRow (W : World) (base : Nat) : W.ownsRow base 5 1 (.slice none 0 0) ([] : List Int).length (bys []) := own_nil W base
/-- both sticks at the beginning -/
theorem Two.new (w : World) (base : Nat) (hb : base ≤ w.heap.size) :
    Two ((w.alloc (.cells #[.slice none 0 0, .int .i64 0, .slice none 0 0, .int .i64 0] 94)).alloc (.cells #[.slice none 0 0, .slice none 0 0, .slice none 0 0, .slice none 0 0] 62)) w.heap.size (w.heap.size + 1) base (.slice none 0 0) (.slice none 0 0) (.slice none 0 0) (.slice none 0 0) (.slice none 0 0) (.slice none 0 0) [] [] 0 0 [] [] [] [] := by
  have hy : IsBy [] := fun k => by simp [nth]
  have no : ∀ {P : Nat → Prop} (g : Nat), (Value.slice none 0 0).ownBlock = some g → P g := fun g e => by cases e
  refine { p := { box := (Box.made w _ _).alloc _, o1 := nilRow _ _, o2 := nilRow _ _, dis := (fun g e => by cases e), l1 := Nat.le_refl _, l2 := Nat.le_refl _, s1 := by simp, s2 := by simp, y1 := hy, y2 := hy, hb := hb }, s := { box := ?_, b1 := Bys.nil _ _, b2 := Bys.nil _ _, b3 := Bys.nil _ _, b4 := Bys.nil _ _, n1 := no, n2 := no, n3 := no, n4 := no, hr := by omega }, ne := by omega, a1 := no, a2 := no, c1 := no, c2 := no, c3 := no, c4 := no }
  have := Box.made (w.alloc (.cells #[.slice none 0 0, .int .i64 0, .slice none 0 0, .int .i64 0] 94)) 62 #[.slice none 0 0, .slice none 0 0, .slice none 0 0, .slice none 0 0]
  rw [World.size_alloc] at this
  exact this
set_option maxRecDepth 100000 in
set_option maxHeartbeats 8000000 in
theorem TalliesSticks_c (ks : List Op9) (v : Value) (w : World) (hl : OpsIn w w.heap.size v ks) :
    Calls Try.prog 6 #[v] w fun e w' => e = .returned (.bool true) ∧ Below w.heap.size w w' := by
  obtain ⟨l1, A, c, rfl, l2, l3⟩ := hl
  have L3 := Lib.hid l3
  obtain ⟨n, hln⟩ : ∃ z, ks.length = z := ⟨_, rfl⟩
  have n9 : n ≤ 140737488351232 := by omega
  rw [hln] at L3 ⊢
  clear hln l1 l2 l3
  go_enter Try.func6, Try.ntmps6
  go_wp2_with fail
  refine (awake_c _).mono ?_; rintro e w1 ⟨rfl, hb1⟩
  have HB1 := Lib.hid hb1
  clear hb1
  go_wp2_with fail
  go_loopw [4, 5] (fun s i wr => ∃ k : Nat, k ≤ n ∧ i = .int .i64 (k : Int) ∧ (∃ z : Int, s = .int .i64 z) ∧ wr = w1) (fun _ i _ => n - (intOf i).toNat)
  case atStart => exact ⟨0, Nat.zero_le _, rfl, ⟨0, rfl⟩, rfl⟩
  case round =>
    obtain ⟨k, hk, rfl, ⟨z, rfl⟩, rfl⟩ := hrel
    by_cases hlt : k < n
    · have hi1 : (0 : Int) ≤ (k : Int) := by omega
      have hi2 : (k : Int) < (n : Int) := by omega
      have hdl : decide ((k : Int) < (n : Int)) = true := by simpa using hlt
      have HLT := Lib.hid hlt
      obtain ⟨b0, off, rfl, hbB, hcc⟩ := L3.out (by omega)
      obtain ⟨bv, mid, hm1, hm2, hra, hby⟩ := hcc k hlt
      obtain ⟨A1, c1, rfl, -⟩ := hby.shape
      obtain ⟨m, hm⟩ : ∃ z, (ks.getD k op0).bytes.length = z := ⟨_, rfl⟩
      rw [hm] at hra
      have hx : wr.cell? ⟨b0, off + k * 26 + 1, none⟩ = some (.slice A1 m c1) := keepd (hra 1 _ rfl) HB1.out hbB
      clear hcc hra hby hm1 hm2 hm hlt
      go_wp2_with fail
      go_roundw
      case rel => exact ⟨k + 1, by have := HLT.out; omega, by go_num, ⟨_, rfl⟩, by first | rfl | trivial⟩
      case measure => have := HLT.out; simp [intOf]; omega
    · obtain rfl : k = n := by omega
      have hdl : decide ((k : Int) < (k : Int)) = false := by simp
      clear hlt
      by_cases q1 : 60 < k
      · have e1 : decide ((60 : Int) < (k : Int)) = true := decide_eq_true (by omega)
        have e1' : decide (60 < k) = true := decide_eq_true q1
        clear q1
        go_wp2_with fail
        go_ret
        exact ⟨rfl, HB1.out⟩
      have e1 : decide ((60 : Int) < (k : Int)) = false := decide_eq_false (by omega)
      have e1' : decide (60 < k) = false := decide_eq_false q1
      clear q1
      by_cases q2 : 20000 < z
      · have e2 : decide ((20000 : Int) < z) = true := decide_eq_true q2
        clear q2
        go_wp2_with fail
        go_ret
        exact ⟨rfl, HB1.out⟩
      have e2 : decide ((20000 : Int) < z) = false := decide_eq_false q2
      clear q2
      have LT1 := Lib.hid HB1.out.size
      have TW0 := Lib.hid (Two.new wr w.heap.size HB1.out.size)
      have BL0 := Lib.hid ((HB1.out.alloc HB1.out.size (.cells #[.slice none 0 0, .int .i64 0, .slice none 0 0, .int .i64 0] 94)).alloc (by rw [World.size_alloc]; exact Nat.le_trans HB1.out.size (Nat.le_succ _)) (.cells #[.slice none 0 0, .slice none 0 0, .slice none 0 0, .slice none 0 0] 62))
      go_wp2_with fail
      refine (NewStick_c _).mono ?_; rintro e w2 ⟨rfl, rfl⟩
      go_wp2_with fail
      obtain ⟨W3, hW3⟩ : ∃ z, (wr.alloc (.cells #[.slice none 0 0, .int .i64 0, .slice none 0 0, .int .i64 0] 94)).alloc (.cells #[.slice none 0 0, .slice none 0 0, .slice none 0 0, .slice none 0 0] 62) = z := ⟨_, rfl⟩
      rw [hW3] at TW0 BL0 ⊢
      obtain ⟨bb, hbb⟩ : ∃ z, wr.heap.size = z := ⟨_, rfl⟩
      rw [hbb] at TW0 ⊢
      clear hW3 hbb e1 e1' e2
      go_loopw [8] (fun i wr => ∃ (j : Nat) (v1 v2 u1 u2 u3 u4 : Value) (D1 P1 D2 P2 : List Int), j ≤ k ∧ i = .int .i64 (j : Int) ∧ Two wr bb (bb + 1) w.heap.size v1 v2 u1 u2 u3 u4 (D1 ++ P1) (D2 ++ P2) D1.length D2.length D1 P1 D2 P2 ∧ Below w.heap.size w wr) (fun i _ => k - (intOf i).toNat)
      case atStart => exact ⟨0, _, _, _, _, _, _, [], [], [], [], Nat.zero_le _, rfl, TW0.out, BL0.out⟩
      case round =>
        clear TW0 BL0
        obtain ⟨j, v1, v2, u1, u2, u3, u4, D1, P1, D2, P2, hj, rfl, htw, hbl⟩ := hrel
        have TW := Lib.hid htw
        have BL := Lib.hid hbl
        clear htw hbl
        by_cases hlt : j < k
        · have hi1 : (0 : Int) ≤ (j : Int) := by omega
          have hi2 : (j : Int) < (k : Int) := by omega
          have hdl : decide ((j : Int) < (k : Int)) = true := by simpa using hlt
          have HLT := Lib.hid hlt
          obtain ⟨b0, off, rfl, hbB, hcc⟩ := L3.out (by omega)
          obtain ⟨bv, mid, hm1, hm2, hra, hby⟩ := hcc j hlt
          obtain ⟨A1, c1, rfl, -⟩ := hby.shape
          obtain ⟨o, ho⟩ : ∃ z, ks.getD j op0 = z := ⟨_, rfl⟩
          rw [ho] at hra hby
          obtain ⟨m, hm⟩ : ∃ z, o.bytes.length = z := ⟨_, rfl⟩
          have HM := Lib.hid hm
          rw [hm] at hra hby
          have HRA := Lib.hid (rangeAt_below hra BL.out hbB)
          have HBY := Lib.hid hby
          have HM1 := Lib.hid hm1
          have HLEN := Lib.hid (opCs_len o (.slice A1 m c1) hm1)
          have HSZ := Lib.hid (show (Try.prog.info? 55).map (·.size) = some (opCs o (.slice A1 m c1) mid).length by rw [HLEN.out]; kernel_rfl)
          have HONE := Lib.hid (show (opCs o (.slice A1 m c1) mid).toArray.all (·.oneCell') = true from all_oneCell_toArray (by unfold opCs; intro u hu; simp at hu; rcases hu with rfl | rfl | hu | rfl | rfl | rfl; rfl; rfl; exact hm2 u hu; rfl; rfl; rfl))
          obtain ⟨cs, hcs⟩ : ∃ z, opCs o (.slice A1 m c1) mid = z := ⟨_, rfl⟩
          have HCS := Lib.hid hcs
          rw [hcs] at HRA HLEN HSZ HONE
          clear hcc hra hby hm1 hm2 hm hlt ho hcs
          have hb4 : Below wr.heap.size wr ((wr.alloc (.cells #[.int .i64 0, .slice none 0 0, .int .i64 0, .int .i64 0, .int .i64 0, .int .i64 0, .int .i64 0, .int .i64 0, .int .i64 0, .int .i64 0, .int .i64 0, .int .i64 0, .int .i64 0, .int .i64 0, .int .i64 0, .int .i64 0, .int .i64 0, .slice none 0 0, .int .i64 0, .int .i64 0, .int .i64 0, .slice none 0 0, .slice none 0 0, .int .i64 0, .int .i64 0, .int .i64 0] 55)).setRow wr.heap.size cs.toArray) := below_setRow ((Below.refl _ _).alloc (Nat.le_refl _) _) (Nat.le_refl _) _
          have hx4 : Box ((wr.alloc (.cells #[.int .i64 0, .slice none 0 0, .int .i64 0, .int .i64 0, .int .i64 0, .int .i64 0, .int .i64 0, .int .i64 0, .int .i64 0, .int .i64 0, .int .i64 0, .int .i64 0, .int .i64 0, .int .i64 0, .int .i64 0, .int .i64 0, .int .i64 0, .slice none 0 0, .int .i64 0, .int .i64 0, .int .i64 0, .slice none 0 0, .slice none 0 0, .int .i64 0, .int .i64 0, .int .i64 0] 55)).setRow wr.heap.size cs.toArray) wr.heap.size 55 cs.toArray := setRow_heap _ _ _ _ _ _ (heap_alloc_new wr _)
          obtain ⟨W4, hW4⟩ : ∃ z, (wr.alloc (.cells #[.int .i64 0, .slice none 0 0, .int .i64 0, .int .i64 0, .int .i64 0, .int .i64 0, .int .i64 0, .int .i64 0, .int .i64 0, .int .i64 0, .int .i64 0, .int .i64 0, .int .i64 0, .int .i64 0, .int .i64 0, .int .i64 0, .int .i64 0, .slice none 0 0, .int .i64 0, .int .i64 0, .int .i64 0, .slice none 0 0, .slice none 0 0, .int .i64 0, .int .i64 0, .int .i64 0] 55)).setRow wr.heap.size cs.toArray = z := ⟨_, rfl⟩
          rw [hW4] at hb4 hx4
          have HG1 := Lib.hid (show wr.heap.size ≠ bb ∧ v1.ownBlock ≠ some wr.heap.size ∧ v2.ownBlock ≠ some wr.heap.size by
            refine ⟨fun e => ?_, fun e => ?_, fun e => ?_⟩
            · have := TW.out.p.box.lt; omega
            · have := (TW.out.p.o1.lt wr.heap.size e).2; omega
            · have := (TW.out.p.o2.lt wr.heap.size e).2; omega)
          have HG2 := Lib.hid (show wr.heap.size ≠ bb + 1 by have := TW.out.s.box.lt; omega)
          have TW4 := Lib.hid (TW.out.later hb4)
          have BL4 := Lib.hid (BL.out.trans (hb4.mono BL.out.size))
          have X4 := Lib.hid hx4
          have HW4 := Lib.hid hW4
          have C0 := Lib.hid (show cs.toArray[0]? = some (.int .i64 o.kind) by rw [← HCS.out]; exact opCs_0 _ _ _)
          have C1 := Lib.hid (show cs.toArray[1]? = some (.slice A1 m c1) by rw [← HCS.out]; exact opCs_1 _ _ _)
          have C23 := Lib.hid (show cs.toArray[23]? = some (.int .i64 o.stock) by rw [← HCS.out]; exact opCs_23 _ _ HM1.out)
          have C24 := Lib.hid (show cs.toArray[24]? = some (.int .i64 o.foil) by rw [← HCS.out]; exact opCs_24 _ _ HM1.out)
          have C25 := Lib.hid (show cs.toArray[25]? = some (.int .i64 o.flip) by rw [← HCS.out]; exact opCs_25 _ _ HM1.out)
          have HL1 := Lib.hid TW.out.p.s1
          have HL2 := Lib.hid TW.out.p.s2
          have HD1 := Lib.hid (show (D1 ++ P1).length = D1.length + P1.length from List.length_append)
          have HD2 := Lib.hid (show (D2 ++ P2).length = D2.length + P2.length from List.length_append)
          obtain ⟨kd, hkd⟩ : ∃ z, o.kind = z := ⟨_, rfl⟩
          obtain ⟨ok, hok⟩ : ∃ z, o.stock = z := ⟨_, rfl⟩
          obtain ⟨om, hom⟩ : ∃ z, o.foil = z := ⟨_, rfl⟩
          obtain ⟨ot, hot⟩ : ∃ z, o.flip = z := ⟨_, rfl⟩
          rw [hkd] at C0
          rw [hok] at C23
          rw [hom] at C24
          rw [hot] at C25
          have HBASE := Lib.hid (show w.heap.size ≤ W4.heap.size from BL4.out.size)
          clear hb4 hx4 hW4 TW BL hkd hok hom hot
          have c0 : ((wr.alloc (.cells #[.int .i64 0, .slice none 0 0, .int .i64 0, .int .i64 0, .int .i64 0, .int .i64 0, .int .i64 0, .int .i64 0, .int .i64 0, .int .i64 0, .int .i64 0, .int .i64 0, .int .i64 0, .int .i64 0, .int .i64 0, .int .i64 0, .int .i64 0, .slice none 0 0, .int .i64 0, .int .i64 0, .int .i64 0, .slice none 0 0, .slice none 0 0, .int .i64 0, .int .i64 0, .int .i64 0] 55)).setRow wr.heap.size cs.toArray).cell? ⟨wr.heap.size, 0, none⟩ = some (.int .i64 kd) := by rw [HW4.out]; exact (X4.out.cell 0).trans C0.out
          by_cases q1 : kd = 1
          · have d1 : (kd == 1) = true := by rw [q1]; rfl
            clear q1
            go_wp2_with (first
              | (refine wpList_load_mid rfl 55 (.tmp 54) rfl b0 (off + j * 26) rfl cs _ HRA.out Try.underlying55 rfl HSZ.out ?_)
              | (refine wpList_store_row rfl 55 (.tmp 9) (.tmp 55) rfl wr.heap.size cs.toArray rfl rfl 55 _ (heap_alloc_new wr _) (by rw [HSZ.out]; rfl) (Eq.trans (by rfl) (List.size_toArray.trans HLEN.out).symm) HONE.out ?_))
            rw [HW4.out]
            clear c0
            refine (Sync_c bb w.heap.size _ _ _ _ _ _ W4 TW4.out.p HBASE.out).mono ?_; rintro e w5 ⟨⟨r5, rfl⟩, hp5, hc5⟩
            have TW5 := Lib.hid (TW4.out.prog hp5 hc5 (NewB.refl _ _) (NewB.refl _ _))
            have BL5 := Lib.hid (BL4.out.trans hc5.1)
            clear hp5 hc5
            go_wp2_with fail
            refine (rSync_c (bb + 1) w.heap.size _ _ _ _ D1 P1 D2 P2 w5 TW5.out.s (by have := HL1.out; have := HD1.out; omega) (by have := HL2.out; have := HD2.out; omega) BL5.out.size).mono ?_; rintro e w6 ⟨⟨r6, rfl⟩, y1, y3, hs6, hx6, hb6, m1, m3⟩
            have TW6 := Lib.hid (show Two w6 bb (bb + 1) w.heap.size v1 v2 y1 (.slice none 0 0) y3 (.slice none 0 0) ((D1 ++ P1) ++ []) ((D2 ++ P2) ++ []) (D1 ++ P1).length (D2 ++ P2).length (D1 ++ P1) [] (D2 ++ P2) [] by rw [List.append_nil, List.append_nil]; exact TW5.out.spec hs6 hx6 m1 (.inr fun g e => by cases e) m3 (.inr fun g e => by cases e))
            have BL6 := Lib.hid (BL5.out.trans hb6)
            clear hs6 hx6 hb6 m1 m3
            have F1 := Lib.hid TW6.out.p.s1
            have F2 := Lib.hid TW6.out.p.s2
            have ks1 := Lib.hid (Sizes_c bb w.heap.size _ _ _ _ _ _ w6 TW6.out.p)
            have ks2 := Lib.hid (fun (W : World) (hb : Below w6.heap.size w6 W) => rSizes_c (bb + 1) w.heap.size _ _ _ _ _ _ _ _ W (TW6.out.s.later hb))
            have kt1 := Lib.hid (fun (W : World) (hb : Below w6.heap.size w6 W) => Tallies_c bb w.heap.size _ _ _ _ _ _ W (TW6.out.p.later hb))
            have kt2 := Lib.hid (fun (W : World) (hb : Below w6.heap.size w6 W) => rTallies_c (bb + 1) w.heap.size _ _ _ _ _ _ _ _ W (TW6.out.s.later hb) F1.out F2.out)
            have z1 : ((((D1 ++ P1) ++ ([] : List Int)).length : Nat) : Int) - (((D1 ++ P1)).length : Int) = ((([] : List Int)).length : Int) := by rw [List.length_append]; omega
            have z2 : ((((D2 ++ P2) ++ ([] : List Int)).length : Nat) : Int) - (((D2 ++ P2)).length : Int) = ((([] : List Int)).length : Int) := by rw [List.length_append]; omega
            rw [z1, z2] at ks1
            clear z1 z2
            obtain ⟨a1, ha1⟩ : ∃ z, (((D1 ++ P1)).length : Int) = z := ⟨_, rfl⟩
            obtain ⟨a2, ha2⟩ : ∃ z, ((([] : List Int)).length : Int) = z := ⟨_, rfl⟩
            obtain ⟨a3, ha3⟩ : ∃ z, (((D2 ++ P2)).length : Int) = z := ⟨_, rfl⟩
            obtain ⟨a4, ha4⟩ : ∃ z, ((([] : List Int)).length : Int) = z := ⟨_, rfl⟩
            rw [ha1, ha2, ha3] at ks1 ks2
            try rw [ha4] at ks1 ks2
            clear ha1 ha2 ha3 ha4
            go_wp2_with fail
            refine ks1.out.mono ?_; rintro e w10 ⟨rfl, hb10⟩
            have B10 := Lib.hid hb10
            clear hb10
            go_wp2_with fail
            refine (ks2.out _ B10.out).mono ?_; rintro e w11 ⟨rfl, hb11⟩
            have B11 := Lib.hid (B10.out.trans (hb11.mono B10.out.size))
            clear hb11
            go_wp2_with fail
            refine (kt1.out _ B11.out).mono ?_; rintro e w12 ⟨⟨ov1, rfl, hov1⟩, hb12⟩
            have B12 := Lib.hid (B11.out.trans (hb12.mono B11.out.size))
            have OV1 := Lib.hid hov1
            clear hb12 hov1
            go_wp2_with fail
            refine (kt2.out _ B12.out).mono ?_; rintro e w13 ⟨⟨ov2, rfl, hov2⟩, hb13⟩
            have B13 := Lib.hid (B12.out.trans (hb13.mono B12.out.size))
            have ksb := Lib.hid (SameBytes_r _ ov1 ov2 w13 (OV1.out.later hb13) hov2)
            clear hb13 hov2
            go_wp2_with fail
            refine ksb.out.mono ?_; rintro e w14 ⟨rfl, hb14⟩
            have B14 := Lib.hid (B13.out.trans (hb14.mono B13.out.size))
            clear hb14
            go_wp2_with fail
            go_roundw
            case rel => exact ⟨j + 1, _, _, _, _, _, _, (D1 ++ P1), ([] : List Int), (D2 ++ P2), ([] : List Int), by have := HLT.out; omega, by go_num, TW6.out.later B14.out, BL6.out.trans (B14.out.mono BL6.out.size)⟩
            case measure => have := HLT.out; simp [intOf]; omega
          by_cases q2 : kd = 2
          · have d1 : (kd == 1) = false := by rw [beq_eq_false_iff_ne]; exact q1
            have d2 : (kd == 2) = true := by rw [q2]; rfl
            clear q1 q2
            have c23 : ((wr.alloc (.cells #[.int .i64 0, .slice none 0 0, .int .i64 0, .int .i64 0, .int .i64 0, .int .i64 0, .int .i64 0, .int .i64 0, .int .i64 0, .int .i64 0, .int .i64 0, .int .i64 0, .int .i64 0, .int .i64 0, .int .i64 0, .int .i64 0, .int .i64 0, .slice none 0 0, .int .i64 0, .int .i64 0, .int .i64 0, .slice none 0 0, .slice none 0 0, .int .i64 0, .int .i64 0, .int .i64 0] 55)).setRow wr.heap.size cs.toArray).cell? ⟨wr.heap.size, 23, none⟩ = some (.int .i64 ok) := by rw [HW4.out]; exact (X4.out.cell 23).trans C23.out
            have c24 : ((wr.alloc (.cells #[.int .i64 0, .slice none 0 0, .int .i64 0, .int .i64 0, .int .i64 0, .int .i64 0, .int .i64 0, .int .i64 0, .int .i64 0, .int .i64 0, .int .i64 0, .int .i64 0, .int .i64 0, .int .i64 0, .int .i64 0, .int .i64 0, .int .i64 0, .slice none 0 0, .int .i64 0, .int .i64 0, .int .i64 0, .slice none 0 0, .slice none 0 0, .int .i64 0, .int .i64 0, .int .i64 0] 55)).setRow wr.heap.size cs.toArray).cell? ⟨wr.heap.size, 24, none⟩ = some (.int .i64 om) := by rw [HW4.out]; exact (X4.out.cell 24).trans C24.out
            have c25 : ((wr.alloc (.cells #[.int .i64 0, .slice none 0 0, .int .i64 0, .int .i64 0, .int .i64 0, .int .i64 0, .int .i64 0, .int .i64 0, .int .i64 0, .int .i64 0, .int .i64 0, .int .i64 0, .int .i64 0, .int .i64 0, .int .i64 0, .int .i64 0, .int .i64 0, .slice none 0 0, .int .i64 0, .int .i64 0, .int .i64 0, .slice none 0 0, .slice none 0 0, .int .i64 0, .int .i64 0, .int .i64 0] 55)).setRow wr.heap.size cs.toArray).cell? ⟨wr.heap.size, 25, none⟩ = some (.int .i64 ot) := by rw [HW4.out]; exact (X4.out.cell 25).trans C25.out
            go_wp2_with (first
              | (refine wpList_load_mid rfl 55 (.tmp 54) rfl b0 (off + j * 26) rfl cs _ HRA.out Try.underlying55 rfl HSZ.out ?_)
              | (refine wpList_store_row rfl 55 (.tmp 9) (.tmp 55) rfl wr.heap.size cs.toArray rfl rfl 55 _ (heap_alloc_new wr _) (by rw [HSZ.out]; rfl) (Eq.trans (by rfl) (List.size_toArray.trans HLEN.out).symm) HONE.out ?_))
            rw [HW4.out]
            refine (Crash_c bb w.heap.size _ _ D1 P1 D2 P2 ok om ot W4 TW4.out.p HBASE.out).mono ?_; rintro e w5 ⟨v1', v2', rfl, hp5, hc5, m1, m2⟩
            have TW5 := Lib.hid (TW4.out.prog hp5 hc5 m1 m2)
            have BL5 := Lib.hid (BL4.out.trans hc5.1)
            have X5 := Lib.hid (X4.out.ex hc5.ex (fun e => e.elim HG1.out.1 fun e => e.elim HG1.out.2.1 HG1.out.2.2))
            clear hp5 hc5 m1 m2 c0 c23 c24 c25
            have c23 : w5.cell? ⟨wr.heap.size, 23, none⟩ = some (.int .i64 ok) := (X5.out.cell 23).trans C23.out
            have c24 : w5.cell? ⟨wr.heap.size, 24, none⟩ = some (.int .i64 om) := (X5.out.cell 24).trans C24.out
            have c25 : w5.cell? ⟨wr.heap.size, 25, none⟩ = some (.int .i64 ot) := (X5.out.cell 25).trans C25.out
            have kcr := Lib.hid (rCrash_c (bb + 1) w.heap.size _ _ _ _ D1 P1 D2 P2 ok om ot w5 TW5.out.s HL1.out HL2.out BL5.out.size)
            obtain ⟨ee, hee⟩ : ∃ z, crE P1.length P2.length ok om ot = z := ⟨_, rfl⟩
            have HEE := Lib.hid hee
            rw [hee]
            clear hee
            go_wp2_with fail
            refine kcr.out.mono ?_; rintro e w6 ⟨y1, y2, y3, y4, rfl, hs6, hx6, hb6, m1, m2, m3, m4⟩
            rw [HEE.out]
            have TW6 := Lib.hid (TW5.out.spec hs6 hx6 m1 m2 m3 m4)
            have BL6 := Lib.hid (BL5.out.trans hb6)
            clear hs6 hx6 hb6 m1 m2 m3 m4 c23 c24 c25
            obtain ⟨E1, hE1⟩ : ∃ z, crA D1 P1 P2 ok om ot = z := ⟨_, rfl⟩
            obtain ⟨Q1, hQ1⟩ : ∃ z, crP P1 P2 P1 ok om ot = z := ⟨_, rfl⟩
            obtain ⟨E2, hE2⟩ : ∃ z, crB D2 P1 P2 ok om ot = z := ⟨_, rfl⟩
            obtain ⟨Q2, hQ2⟩ : ∃ z, crP P1 P2 P2 ok om ot = z := ⟨_, rfl⟩
            rw [hE1, hQ1, hE2, hQ2] at TW6
            clear hE1 hQ1 hE2 hQ2
            have F1 := Lib.hid TW6.out.p.s1
            have F2 := Lib.hid TW6.out.p.s2
            have ks1 := Lib.hid (Sizes_c bb w.heap.size _ _ _ _ _ _ w6 TW6.out.p)
            have ks2 := Lib.hid (fun (W : World) (hb : Below w6.heap.size w6 W) => rSizes_c (bb + 1) w.heap.size _ _ _ _ _ _ _ _ W (TW6.out.s.later hb))
            have kt1 := Lib.hid (fun (W : World) (hb : Below w6.heap.size w6 W) => Tallies_c bb w.heap.size _ _ _ _ _ _ W (TW6.out.p.later hb))
            have kt2 := Lib.hid (fun (W : World) (hb : Below w6.heap.size w6 W) => rTallies_c (bb + 1) w.heap.size _ _ _ _ _ _ _ _ W (TW6.out.s.later hb) F1.out F2.out)
            have z1 : (((E1 ++ Q1).length : Nat) : Int) - ((E1).length : Int) = ((Q1).length : Int) := by rw [List.length_append]; omega
            have z2 : (((E2 ++ Q2).length : Nat) : Int) - ((E2).length : Int) = ((Q2).length : Int) := by rw [List.length_append]; omega
            rw [z1, z2] at ks1
            clear z1 z2
            obtain ⟨a1, ha1⟩ : ∃ z, ((E1).length : Int) = z := ⟨_, rfl⟩
            obtain ⟨a2, ha2⟩ : ∃ z, ((Q1).length : Int) = z := ⟨_, rfl⟩
            obtain ⟨a3, ha3⟩ : ∃ z, ((E2).length : Int) = z := ⟨_, rfl⟩
            obtain ⟨a4, ha4⟩ : ∃ z, ((Q2).length : Int) = z := ⟨_, rfl⟩
            rw [ha1, ha2, ha3] at ks1 ks2
            try rw [ha4] at ks1 ks2
            clear ha1 ha2 ha3 ha4
            go_wp2_with fail
            refine ks1.out.mono ?_; rintro e w10 ⟨rfl, hb10⟩
            have B10 := Lib.hid hb10
            clear hb10
            go_wp2_with fail
            refine (ks2.out _ B10.out).mono ?_; rintro e w11 ⟨rfl, hb11⟩
            have B11 := Lib.hid (B10.out.trans (hb11.mono B10.out.size))
            clear hb11
            go_wp2_with fail
            refine (kt1.out _ B11.out).mono ?_; rintro e w12 ⟨⟨ov1, rfl, hov1⟩, hb12⟩
            have B12 := Lib.hid (B11.out.trans (hb12.mono B11.out.size))
            have OV1 := Lib.hid hov1
            clear hb12 hov1
            go_wp2_with fail
            refine (kt2.out _ B12.out).mono ?_; rintro e w13 ⟨⟨ov2, rfl, hov2⟩, hb13⟩
            have B13 := Lib.hid (B12.out.trans (hb13.mono B12.out.size))
            have ksb := Lib.hid (SameBytes_r _ ov1 ov2 w13 (OV1.out.later hb13) hov2)
            clear hb13 hov2
            go_wp2_with fail
            refine ksb.out.mono ?_; rintro e w14 ⟨rfl, hb14⟩
            have B14 := Lib.hid (B13.out.trans (hb14.mono B13.out.size))
            clear hb14
            go_wp2_with fail
            go_roundw
            case rel => exact ⟨j + 1, _, _, _, _, _, _, E1, Q1, E2, Q2, by have := HLT.out; omega, by go_num, TW6.out.later B14.out, BL6.out.trans (B14.out.mono BL6.out.size)⟩
            case measure => have := HLT.out; simp [intOf]; omega
          have d1 : (kd == 1) = false := by rw [beq_eq_false_iff_ne]; exact q1
          have d2 : (kd == 2) = false := by rw [beq_eq_false_iff_ne]; exact q2
          clear q1 q2
          have fb1 : ((wr.alloc (.cells #[.int .i64 0, .slice none 0 0, .int .i64 0, .int .i64 0, .int .i64 0, .int .i64 0, .int .i64 0, .int .i64 0, .int .i64 0, .int .i64 0, .int .i64 0, .int .i64 0, .int .i64 0, .int .i64 0, .int .i64 0, .int .i64 0, .int .i64 0, .slice none 0 0, .int .i64 0, .int .i64 0, .int .i64 0, .slice none 0 0, .slice none 0 0, .int .i64 0, .int .i64 0, .int .i64 0] 55)).setRow wr.heap.size cs.toArray).cell? ⟨wr.heap.size, 1, none⟩ = some (.slice A1 m c1) := by rw [HW4.out]; exact (X4.out.cell 1).trans C1.out
          go_wp2_with (first
            | (refine wpList_load_mid rfl 55 (.tmp 54) rfl b0 (off + j * 26) rfl cs _ HRA.out Try.underlying55 rfl HSZ.out ?_)
            | (refine wpList_store_row rfl 55 (.tmp 9) (.tmp 55) rfl wr.heap.size cs.toArray rfl rfl 55 _ (heap_alloc_new wr _) (by rw [HSZ.out]; rfl) (Eq.trans (by rfl) (List.size_toArray.trans HLEN.out).symm) HONE.out ?_))
          rw [HW4.out]
          refine (Write_c bb w.heap.size _ _ _ _ _ o.bytes _ _ W4 TW4.out.p (HBY.out.mono BL4.out BL4.out.size) HBASE.out).mono ?_; rintro e w5 ⟨v1', v2', rfl, hp5, hc5, m1, m2⟩
          have TW5 := Lib.hid (TW4.out.prog hp5 hc5 m1 m2)
          have BL5 := Lib.hid (BL4.out.trans hc5.1)
          have X5 := Lib.hid (X4.out.ex hc5.ex (fun e => e.elim HG1.out.1 fun e => e.elim HG1.out.2.1 HG1.out.2.2))
          clear hp5 hc5 m1 m2 c0 fb1
          have fb1 : w5.cell? ⟨wr.heap.size, 1, none⟩ = some (.slice A1 m c1) := (X5.out.cell 1).trans C1.out
          have kwr := Lib.hid (rWrite_c (bb + 1) w.heap.size _ _ _ _ _ D1 P1 D2 P2 o.bytes w5 TW5.out.s (HBY.out.mono BL5.out BL5.out.size) HL1.out HL2.out BL5.out.size)
          obtain ⟨ee, hee⟩ : ∃ z, wrE (D1 ++ P1) (D2 ++ P2) o.bytes = z := ⟨_, rfl⟩
          have HEE := Lib.hid hee
          rw [hee]
          clear hee
          go_wp2_with fail
          refine kwr.out.mono ?_; rintro e w6 ⟨y2, y4, Q1, Q2, rfl, hs6, he1, he2, hx6, hb6, m2, m4⟩
          rw [HEE.out]
          have TW6 := Lib.hid (show Two w6 bb (bb + 1) w.heap.size v1' v2' u1 y2 u3 y4 (D1 ++ Q1) (D2 ++ Q2) D1.length D2.length D1 Q1 D2 Q2 by rw [he1, he2]; exact TW5.out.spec hs6 hx6 (.inl rfl) m2 (.inl rfl) m4)
          have BL6 := Lib.hid (BL5.out.trans hb6)
          clear hs6 hx6 hb6 m2 m4 fb1 he1 he2
          have F1 := Lib.hid TW6.out.p.s1
          have F2 := Lib.hid TW6.out.p.s2
          have ks1 := Lib.hid (Sizes_c bb w.heap.size _ _ _ _ _ _ w6 TW6.out.p)
          have ks2 := Lib.hid (fun (W : World) (hb : Below w6.heap.size w6 W) => rSizes_c (bb + 1) w.heap.size _ _ _ _ _ _ _ _ W (TW6.out.s.later hb))
          have kt1 := Lib.hid (fun (W : World) (hb : Below w6.heap.size w6 W) => Tallies_c bb w.heap.size _ _ _ _ _ _ W (TW6.out.p.later hb))
          have kt2 := Lib.hid (fun (W : World) (hb : Below w6.heap.size w6 W) => rTallies_c (bb + 1) w.heap.size _ _ _ _ _ _ _ _ W (TW6.out.s.later hb) F1.out F2.out)
          have z1 : (((D1 ++ Q1).length : Nat) : Int) - ((D1).length : Int) = ((Q1).length : Int) := by rw [List.length_append]; omega
          have z2 : (((D2 ++ Q2).length : Nat) : Int) - ((D2).length : Int) = ((Q2).length : Int) := by rw [List.length_append]; omega
          rw [z1, z2] at ks1
          clear z1 z2
          obtain ⟨a1, ha1⟩ : ∃ z, ((D1).length : Int) = z := ⟨_, rfl⟩
          obtain ⟨a2, ha2⟩ : ∃ z, ((Q1).length : Int) = z := ⟨_, rfl⟩
          obtain ⟨a3, ha3⟩ : ∃ z, ((D2).length : Int) = z := ⟨_, rfl⟩
          obtain ⟨a4, ha4⟩ : ∃ z, ((Q2).length : Int) = z := ⟨_, rfl⟩
          rw [ha1, ha2, ha3] at ks1 ks2
          try rw [ha4] at ks1 ks2
          clear ha1 ha2 ha3 ha4
          go_wp2_with fail
          refine ks1.out.mono ?_; rintro e w10 ⟨rfl, hb10⟩
          have B10 := Lib.hid hb10
          clear hb10
          go_wp2_with fail
          refine (ks2.out _ B10.out).mono ?_; rintro e w11 ⟨rfl, hb11⟩
          have B11 := Lib.hid (B10.out.trans (hb11.mono B10.out.size))
          clear hb11
          go_wp2_with fail
          refine (kt1.out _ B11.out).mono ?_; rintro e w12 ⟨⟨ov1, rfl, hov1⟩, hb12⟩
          have B12 := Lib.hid (B11.out.trans (hb12.mono B11.out.size))
          have OV1 := Lib.hid hov1
          clear hb12 hov1
          go_wp2_with fail
          refine (kt2.out _ B12.out).mono ?_; rintro e w13 ⟨⟨ov2, rfl, hov2⟩, hb13⟩
          have B13 := Lib.hid (B12.out.trans (hb13.mono B12.out.size))
          have ksb := Lib.hid (SameBytes_r _ ov1 ov2 w13 (OV1.out.later hb13) hov2)
          clear hb13 hov2
          go_wp2_with fail
          refine ksb.out.mono ?_; rintro e w14 ⟨rfl, hb14⟩
          have B14 := Lib.hid (B13.out.trans (hb14.mono B13.out.size))
          clear hb14
          go_wp2_with fail
          go_roundw
          case rel => exact ⟨j + 1, _, _, _, _, _, _, D1, Q1, D2, Q2, by have := HLT.out; omega, by go_num, TW6.out.later B14.out, BL6.out.trans (B14.out.mono BL6.out.size)⟩
          case measure => have := HLT.out; simp [intOf]; omega
        · obtain rfl : j = k := by omega
          have hdl : decide ((j : Int) < (j : Int)) = false := by simp
          clear hlt
          go_wp2_with fail
          go_ret
          exact ⟨rfl, BL.out⟩

end Go.Proofs.Ytbpbdgiglllncaa

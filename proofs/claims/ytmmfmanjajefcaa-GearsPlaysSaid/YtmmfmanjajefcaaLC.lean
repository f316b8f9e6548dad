/- Layer 7: the wheels of a train, as the specification has them; copies of lists. -/
import Derived.Test.YtmmfmanjajefcaaLB
set_option linter.all false
namespace Go.Proofs.Ytmmfmanjajefcaa
open Go.RowKit

abbrev OwnI (w : World) (base : Nat) (v : Value) (l : List Nat) : Prop := w.ownsRow base 3 1 v l.length (ints (nats l))
theorem nats_snoc (l : List Nat) (x : Nat) : nats (l ++ [x]) = nats l ++ [(x : Int)] := by simp [nats]
theorem gb_refl (w : World) (row : Option Nat) : w.grownBy w row := ⟨rfl, rfl, rfl, Nat.le_refl _, fun _ _ _ => rfl⟩
theorem own_ints {w : World} {base : Nat} {v : Value} {l : List Nat} (h : OwnI w base v l) (hl : l.length ≤ 1000) : Ints w w.heap.size v (nats l) := by
  have h2 : w.ownsRow base 3 1 v (nats l).length (ints (nats l)) := by rw [nats_len]; exact h
  exact ints_own h2 (Nat.le_refl _) (by rw [nats_len]; omega)

section
variable {P : Program} {w : World}
/-- a copy of a list of numbers of some call's own: append to a slice without cells -/
theorem wpList_copy_own {ops : Array Oper} {rest : List Oper} {o : Oper} {a : Act} {Q : Exit → Act → World → Prop} (hgd : o.guard = none) (s x : Operand) (t : TypeId)
    (ho : o.op = .call { callee := .builtin .append, args := #[s, x], argTypes := #[t, t] })
    (base : Nat) (e : TypeId) (i : TypeInfo) (z : Value) (ht : P.underlying t = some (.slice e)) (hi : P.info? e = some i) (hz : i.zero = some z)
    (hsize : i.size = 1) (hby : i.bytes = 8) (hzs : z.cells.size = 1) (g0 : Nat) (hs : a.eval s = .slice (some ⟨g0, 0, none⟩) 0 0) (hown : w.ownsRow base e 1 (.slice (some ⟨g0, 0, none⟩) 0 0) 0 [])
    (base' n : Nat) (vx : Value) (xs : List Value) (hx : a.eval x = vx) (hxo : w.ownsRow base' e 1 vx n xs) (h1 : ∀ u ∈ xs, u.oneCell' = true) (hn : n ≤ 1000) (hbase : base ≤ w.heap.size)
    (h : ∀ g cap w', w'.ownsRow base e 1 (.slice (some ⟨g, 0, none⟩) n cap) n xs → w.grownBy w' (some g0) → (g = g0 ∨ g = w.heap.size) → wpList P ops Q rest (a.put o.dst (.slice (some ⟨g, 0, none⟩) n cap)) w') :
    wpList P ops Q (o :: rest) a w := by
  have hxo' := hxo
  rcases hxo.2 with ⟨rfl, rfl⟩ | ⟨g, cap, cur, rfl, hg1, hg2, hg3, hg4, hg5, hg6⟩
  · have hnil : xs = [] := List.eq_nil_of_length_eq_zero (by simpa using hxo.1)
    subst hnil
    refine wpList_plain hgd fun K hK => ?_
    have hr := run_append_owned_none (P := P) (w := w) base t o.type e i 1 ht hi _ 0 [] hown
    unfold Oper.wp execOp
    simp only [ho, resolve, invoke, builtin, Sem.run_bind, Sem.run_pure, Result.andThen_ok, List.map_toArray, List.map_cons, List.map_nil, hs, hx, hr]
    exact hK _ _ (h g0 0 w hown (gb_refl _ _) (.inl rfl))
  · refine wpList_append_own_at w hgd s x t ho base e i z 1 8 ht hi hz hsize hby hzs (by decide) (.slice (some ⟨g0, 0, none⟩) 0 0) 0 [] hs hown ⟨g, 0, none⟩ n cap xs hx hxo.1 (fun j u hu => ?_) h1 (by unfold maxLen; omega) (by omega) hbase ?_
    · have hj : j < xs.length := (List.getElem?_eq_some_iff.1 hu).1
      rw [hxo.1] at hj
      have e2 : (⟨g, 0, none⟩ : Addr).add j = ⟨g, j, none⟩ := by rcases j with _ | j <;> simp [Addr.add]
      rw [e2, hxo'.cellAt j hj]; exact hu
    · intro v' w' hown' hgrow hnil hblk
      rw [Nat.zero_add, List.nil_append] at hown'
      rcases hown'.2 with ⟨h1', h2'⟩ | ⟨g', cap', cur', h1', -⟩
      · exact absurd (hnil.1 h1').1 (by simp)
      · subst h1'
        have hb : g' = g0 ∨ g' = w.heap.size := by
          rcases hblk with e | e
          · left; injection e
          · right; injection e
        exact h g' cap' w' hown' hgrow hb
end

/-- the two lists of a train's wheels so far -/
structure AB (w0 wr : World) (l : List (Nat × Nat)) (va vb : Value) (A : Option Addr) (n c : Nat) : Prop where
  a : wr.ownsRow (w0.heap.size + 1) 3 1 va l.length (ints (nats (l.map (·.1))))
  b : wr.ownsRow (w0.heap.size + 1) 3 1 vb l.length (ints (nats (l.map (·.2))))
  d : ∀ g, va.ownBlock = some g → vb.ownBlock = some g → False
  t : Box wr w0.heap.size 35 #[.slice A n c]
  bel : Below w0.heap.size w0 wr
theorem AB.snocA {w0 wr w' : World} {l : List (Nat × Nat)} {va vb v' : Value} {A : Option Addr} {n c x : Nat} {o : Obj} (h : AB w0 wr l va vb A n c)
    (ho : w'.ownsRow (w0.heap.size + 1) 3 1 v' (l.length + 1) (ints (nats (l.map (·.1))) ++ [.int .i64 (x : Int)])) (hg : (wr.alloc o).grownBy w' va.ownBlock) (hb : v'.ownBlock = va.ownBlock ∨ v'.ownBlock = some (wr.alloc o).heap.size) :
    w'.ownsRow (w0.heap.size + 1) 3 1 vb l.length (ints (nats (l.map (·.2)))) ∧ (∀ g, v'.ownBlock = some g → vb.ownBlock = some g → False) ∧ Box w' w0.heap.size 35 #[.slice A n c] ∧ Below w0.heap.size w0 w' := by
  have hB := h.b.alloc o
  have hlt : ∀ g, vb.ownBlock = some g → g < wr.heap.size := fun g hg => (h.b.lt g hg).2
  refine ⟨hB.kept hg ?_, ?_, ?_, ?_⟩
  · cases hv : vb.ownBlock with
    | none => exact .inl rfl
    | some g =>
      right
      intro e
      exact h.d g e.symm hv
  · intro g h1 h2
    rcases hb with e | e
    · exact h.d g (e ▸ h1) h2
    · rw [e] at h1
      injection h1 with h1
      have := hlt g h2
      rw [World.size_alloc] at h1
      omega
  · exact (h.t.alloc o).grown hg (fun e => by have := (h.a.lt _ e).1; omega)
  · exact (h.bel.alloc h.bel.size o).grown hg (by rw [World.size_alloc]; have := h.bel.size; omega) (fun q e => by have := (h.a.lt q e).1; omega)
theorem AB.snocB {w0 wr w' : World} {l : List (Nat × Nat)} {vb va' v' : Value} {A : Option Addr} {n c x y : Nat} {o : Obj}
    (ha : wr.ownsRow (w0.heap.size + 1) 3 1 va' (l.length + 1) (ints (nats (l.map (·.1))) ++ [.int .i64 (x : Int)])) (hb : wr.ownsRow (w0.heap.size + 1) 3 1 vb l.length (ints (nats (l.map (·.2))))) (hd : ∀ g, va'.ownBlock = some g → vb.ownBlock = some g → False)
    (ht : Box wr w0.heap.size 35 #[.slice A n c]) (hbel : Below w0.heap.size w0 wr)
    (ho : w'.ownsRow (w0.heap.size + 1) 3 1 v' (l.length + 1) (ints (nats (l.map (·.2))) ++ [.int .i64 (y : Int)])) (hg : (wr.alloc o).grownBy w' vb.ownBlock) (hbk : v'.ownBlock = vb.ownBlock ∨ v'.ownBlock = some (wr.alloc o).heap.size) :
    AB w0 w' (l ++ [(x, y)]) va' v' A n c := by
  have hA := ha.alloc o
  refine ⟨?_, ?_, ?_, ?_, ?_⟩
  · have := hA.kept hg (by
      cases hv : va'.ownBlock with
      | none => exact .inl rfl
      | some g => right; intro e; exact hd g hv e.symm)
    rw [List.map_append, List.map_cons, List.map_nil, nats_snoc, ints_snoc, List.length_append]; exact this
  · rw [List.map_append, List.map_cons, List.map_nil, nats_snoc, ints_snoc, List.length_append]; exact ho
  · intro g h1 h2
    rcases hbk with e | e
    · exact hd g h1 (e ▸ h2)
    · rw [e] at h2
      injection h2 with h2
      have := (ha.lt g h1).2
      rw [World.size_alloc] at h2
      omega
  · exact (ht.alloc o).grown hg (fun e => by have := (hb.lt _ e).1; omega)
  · exact (hbel.alloc hbel.size o).grown hg (by rw [World.size_alloc]; have := hbel.size; omega) (fun q e => by have := (hb.lt q e).1; omega)

def RwPost (w : World) (fs : List (Nat × Nat)) (e : Ending) (w' : World) : Prop := ∃ va vb, e = .returned (.tuple #[va, vb]) ∧ w'.ownsRow (w.heap.size + 1) 3 1 va fs.length (ints (nats (fs.map (·.1)))) ∧ w'.ownsRow (w.heap.size + 1) 3 1 vb fs.length (ints (nats (fs.map (·.2)))) ∧ (∀ g, va.ownBlock = some g → vb.ownBlock = some g → False) ∧ Below w.heap.size w w'

set_option maxRecDepth 100000 in
set_option maxHeartbeats 4000000 in
theorem rwheels_c (ms : List Mh) (s : Nat) (v : Value) (w : World) (h : IsTr w w.heap.size v ms) (hv : ms.all mB = true) (hl : ms.length ≤ 100) (hs : s ≤ ms.length) : Calls Try.prog 67 #[v, .int .i64 (s : Int)] w (RwPost w ((ms.take s).map mF)) := by
  obtain ⟨sv, rfl, A, c, rfl, hcap, hcell⟩ := h
  have HC := Lib.hid hcell
  have HV := Lib.hid (List.all_eq_true.1 hv)
  obtain ⟨n, hn⟩ : ∃ n, ms.length = n := ⟨_, rfl⟩
  have HN := Lib.hid hn
  rw [hn] at hl hs ⊢
  have HS := Lib.hid (And.intro hl hs)
  clear hcell hcap hv hn hl hs
  obtain ⟨fs, hfs⟩ : ∃ fs, ms.map mF = fs := ⟨_, rfl⟩
  have HF := Lib.hid (show fs.length = n by rw [← hfs, List.length_map, HN.out])
  rw [List.map_take, hfs]
  have HFS := Lib.hid hfs
  clear hfs
  obtain ⟨i0, hi, hz0, hz1, hz2⟩ : ∃ i, Try.prog.info? 3 = some i ∧ i.zero = some (.int .i64 0) ∧ i.size = 1 ∧ i.bytes = 8 := ⟨_, rfl, rfl, rfl, rfl⟩
  have HX0 := Lib.hid (Box.made w 35 #[.slice A n c])
  have HB0 := Lib.hid (show Below w.heap.size w (w.alloc (.cells #[.slice A n c] 35)) from (Below.refl _ _).alloc (Nat.le_refl _) _)
  have S1 : s ≤ 100 := by have := HS.out; omega
  go_enter Try.func67, Try.ntmps67
  go_wp2_with fail
  go_loopw [6, 7, 8] (fun av bv kv wr => ∃ k : Nat, k ≤ s ∧ kv = .int .i64 (k : Int) ∧ AB w wr (fs.take k) av bv A n c) (fun _ _ kv _ => s - (intOf kv).toNat)
  case atStart => exact ⟨0, Nat.zero_le _, rfl, ⟨World.ownsRow_nil _ _ _ _, World.ownsRow_nil _ _ _ _, fun g h => by simp [Value.ownBlock] at h, HX0.out, HB0.out⟩⟩
  case round =>
    obtain ⟨k, hk, rfl, hab⟩ := hrel
    have HAB := Lib.hid hab
    clear hab
    have z0 : wr.cell? ⟨w.heap.size, 0, none⟩ = some (.slice A n c) := HAB.out.t.cell 0
    by_cases hlt : k < s
    · have hkf : k < ms.length := by rw [HN.out]; have := HS.out; omega
      obtain ⟨b, off, rfl, hbB, hcc⟩ := HC.out (by omega)
      obtain ⟨y0, y1, y2⟩ := hcc k hkf
      have HM := Lib.hid (HV.out _ (List.getElem_mem hkf))
      have HTK := Lib.hid (show fs.take (k + 1) = fs.take k ++ [mF ms[k]] by
        rw [List.take_succ_eq_append_getElem (by rw [HF.out]; have := HS.out; omega)]
        congr 2
        have := HFS.out
        subst this
        simp)
      have HLK := Lib.hid (show (fs.take k).length = k by rw [List.length_take, HF.out]; have := HS.out; omega)
      obtain ⟨m, hm⟩ : ∃ m, ms[k] = m := ⟨_, rfl⟩
      rw [hm] at y0 y1 y2 HM HTK
      obtain ⟨x, y, z⟩ := m
      have hb3 : meshB x y z = true := HM.out
      unfold meshB at hb3
      rw [Bool.and_eq_true, Bool.and_eq_true] at hb3
      have i1 := inB_iff.1 hb3.1.1
      have i2 := inB_iff.1 hb3.1.2
      obtain ⟨X, rfl⟩ : ∃ X : Nat, x = (X : Int) := ⟨x.toNat, by omega⟩
      obtain ⟨Y, rfl⟩ : ∃ Y : Nat, y = (Y : Int) := ⟨y.toNat, by omega⟩
      have HMF := Lib.hid (show mF ((X : Int), (Y : Int), z) = (X, Y) from rfl)
      have q0 := keepd y0 HAB.out.bel hbB
      have q1 := keepd y1 HAB.out.bel hbB
      have d1 : decide ((k : Int) < (s : Int)) = true := by simpa using hlt
      have d2 : decide (k < s) = true := by simpa using hlt
      have HK := Lib.hid hkf
      have y1k := y1
      clear hcc y0 y1 y2 hm hb3 i1 i2 HM
      dsimp only at q0 q1 y1k
      have k0 : (0 : Int) ≤ (k : Int) := by omega
      have k1 : (k : Int) < (n : Int) := by have := HS.out; omega
      have k2 : k < n := by have := HS.out; omega
      have HO1 := Lib.hid (show (wr.alloc (.cells #[.int .i64 (X : Int)] 3)).ownsRow (w.heap.size + 1) 3 1 u6 (fs.take k).length (ints (nats ((fs.take k).map (·.1)))) from HAB.out.a.alloc _)
      have HN1 := Lib.hid (news_box (W := wr.alloc (.cells #[.int .i64 (X : Int)] 3)) (cs := [.int .i64 (X : Int)]) (Box.made wr 3 #[.int .i64 (X : Int)]))
      have HL1 := Lib.hid (show (fs.take k).length + 1 ≤ maxLen ∧ ((fs.take k).length + 1) * 8 ≤ 140737488355328 by rw [HLK.out]; unfold maxLen; omega)
      have HL2 := Lib.hid (show w.heap.size + 1 ≤ (wr.alloc (.cells #[.int .i64 (X : Int)] 3)).heap.size by rw [World.size_alloc]; have := HAB.out.bel.size; omega)
      have HQ1 := Lib.hid y1k
      clear y1k
      go_wp2_with (first
        | (at_builtin; refine wpList_append_own_at _ rfl _ _ 45 rfl (w.heap.size + 1) 3 i0 (.int .i64 0) 1 8 Try.underlying45 hi hz0 hz1 hz2 rfl (by decide) u6 _ _ rfl HO1.out ⟨wr.heap.size, 0, none⟩ 1 1 [.int .i64 (X : Int)] rfl rfl HN1.out (one_cell _) HL1.out.1 HL1.out.2 HL2.out ?_; intro v7 w7 hown7 hgrow7 _ hblk7; have SA := Lib.hid (HAB.out.snocA hown7 hgrow7 hblk7); have OA := Lib.hid hown7; clear hown7 hgrow7 hblk7; have z7 : w7.cell? ⟨w.heap.size, 0, none⟩ = some (.slice (some ⟨b, off, none⟩) n c) := SA.out.2.2.1.cell 0; have q7 := keepd HQ1.out SA.out.2.2.2 hbB; have HO2 := Lib.hid (show (w7.alloc (.cells #[.int .i64 (Y : Int)] 3)).ownsRow (w.heap.size + 1) 3 1 u7 (fs.take k).length (ints (nats ((fs.take k).map (·.2)))) from SA.out.1.alloc _); have HN2 := Lib.hid (news_box (W := w7.alloc (.cells #[.int .i64 (Y : Int)] 3)) (cs := [.int .i64 (Y : Int)]) (Box.made w7 3 #[.int .i64 (Y : Int)])); have HL3 := Lib.hid (show w.heap.size + 1 ≤ (w7.alloc (.cells #[.int .i64 (Y : Int)] 3)).heap.size by rw [World.size_alloc]; have := SA.out.2.2.2.size; omega))
        | (at_builtin; refine wpList_append_own_at _ rfl _ _ 45 rfl (w.heap.size + 1) 3 i0 (.int .i64 0) 1 8 Try.underlying45 hi hz0 hz1 hz2 rfl (by decide) u7 _ _ rfl HO2.out ⟨w7.heap.size, 0, none⟩ 1 1 [.int .i64 (Y : Int)] rfl rfl HN2.out (one_cell _) HL1.out.1 HL1.out.2 HL3.out ?_; intro v8 w8 hown8 hgrow8 _ hblk8; have SB := Lib.hid (AB.snocB (w0 := w) OA.out SA.out.1 SA.out.2.1 SA.out.2.2.1 SA.out.2.2.2 hown8 hgrow8 hblk8); clear hown8 hgrow8 hblk8))
      have SF := Lib.hid (show AB w w8 (fs.take (k + 1)) v7 v8 (some ⟨b, off, none⟩) n c by rw [HTK.out, HMF.out]; exact SB.out)
      go_roundw
      case rel => exact ⟨k + 1, by omega, by go_num, SF.out⟩
      case measure => simp [intOf]; omega
    · obtain rfl : k = s := by omega
      have d1 : decide ((k : Int) < (k : Int)) = false := by simp
      have d2 : decide (k < k) = false := by simp
      go_wp2_with fail
      go_ret2
      exact ⟨_, _, rfl, HAB.out.a, HAB.out.b, HAB.out.d, HAB.out.bel⟩
end Go.Proofs.Ytmmfmanjajefcaa

/- Layer 7: the product of fractions, as the program has it. -/
import Derived.Test.YtmmfmanjajefcaaL3b
set_option linter.all false
namespace Go.Proofs.Ytmmfmanjajefcaa
open Go.RowKit

/-- fractions in memory -/
def Frs (w : World) (B : Nat) (v : Value) (fs : List (Nat × Nat)) : Prop :=
  ∃ A c, v = .slice A fs.length c ∧ fs.length ≤ c ∧
    (0 < fs.length → ∃ b off, A = some ⟨b, off, none⟩ ∧ b < B ∧ ∀ k (h : k < fs.length), w.cell? ⟨b, off + k * 2, none⟩ = some (.int .i64 ((fs[k].1 : Nat) : Int)) ∧ w.cell? ⟨b, off + k * 2 + 1, none⟩ = some (.int .i64 ((fs[k].2 : Nat) : Int)))
theorem Frs.mono {w w' : World} {B B' : Nat} {v : Value} {fs : List (Nat × Nat)} (h : Frs w B v fs) (hb : Below B w w') (hB : B ≤ B') : Frs w' B' v fs := by
  obtain ⟨A, c, rfl, h2, h3⟩ := h
  refine ⟨A, c, rfl, h2, fun hp => ?_⟩
  obtain ⟨b, off, rfl, hlt, hc⟩ := h3 hp
  exact ⟨b, off, rfl, by omega, fun k hk => ⟨keepd (hc k hk).1 hb hlt, keepd (hc k hk).2 hb hlt⟩⟩
/-- fractions may be multiplied -/
def FrOk (fs : List (Nat × Nat)) : Prop := fs.length ≤ 1000 ∧ ∀ f ∈ fs, f.1 ≤ 9223372036854775807 ∧ 0 < f.2 ∧ f.2 ≤ 9223372036854775807
def frN (fs : List (Nat × Nat)) : Nat := prodL (fs.map (·.1))
def frD (fs : List (Nat × Nat)) : Nat := prodL (fs.map (·.2))
theorem frD_pos {fs : List (Nat × Nat)} (h : FrOk fs) : 0 < frD fs := prodL_pos fun x hx => by
  obtain ⟨f, hf, rfl⟩ := List.mem_map.1 hx
  exact (h.2 f hf).2.1
/-- the first lists are filled so far -/
theorem fill_next {l ns : List Nat} {k : Nat} (hl : ns.length = l.length) (hk : k < l.length) (h : ns.take k = l.take k) : (ns.set k l[k]).take (k + 1) = l.take (k + 1) := by
  rw [List.take_succ_eq_append_getElem hk, List.take_succ_eq_append_getElem (by simpa [hl] using hk), List.take_set_of_le (Nat.le_refl _), h]
  simp
theorem fill_done {l ns : List Nat} (hl : ns.length = l.length) (h : ns.take l.length = l.take l.length) : ns = l := by
  rw [← hl, List.take_length, hl, List.take_length] at h; exact h
theorem bd_set {l : List Nat} {i g M : Nat} (h : ∀ x ∈ l, x ≤ M) (hi : i < l.length) : ∀ x ∈ l.set i (l[i] / g), x ≤ M := by
  intro x hx
  rcases List.mem_or_eq_of_mem_set hx with hx | rfl
  · exact h x hx
  · exact Nat.le_trans (Nat.div_le_self _ _) (h _ (List.getElem_mem hi))

theorem mu_two {ns ds : List Nat} {N D i j : Nat} (h : CInv N D i j ns ds) (hi : ns.length ≤ i) (hD : 0 < D) :
    (muB ns = true ∧ muB ds = true → rOf N D = ⟨(muV ns : Nat), (muV ds : Nat), 0⟩) ∧ (muB ns = false ∨ muB ds = false → rOf N D = bad 2) := by
  obtain ⟨h1, h2⟩ := h.lw hi hD
  unfold muB muV
  constructor
  · rintro ⟨a, b⟩
    rw [decide_eq_true_eq] at a b
    have hb : lwB N D = true := by rw [h1, decide_eq_true a, decide_eq_true b]; rfl
    obtain ⟨e1, e2⟩ := h2 hb
    unfold rOf lwE
    rw [e1, e2, hb, if_pos a, if_pos b]; rfl
  · intro hh
    have hb : lwB N D = false := by
      rw [h1]
      rcases hh with hh | hh
      · rw [hh]; rfl
      · rw [hh, Bool.and_false]
    obtain ⟨e1, e2, e3⟩ := lw_no hb
    unfold rOf bad
    rw [e1, e2, e3]; rfl

set_option maxRecDepth 100000 in
set_option maxHeartbeats 8000000 in
theorem product_c (fs : List (Nat × Nat)) (v : Value) (w : World) (h : Frs w w.heap.size v fs) (hok : FrOk fs) :
    Calls Try.prog 59 #[v] w fun e w' => e = .returned (rrV (rOf (frN fs) (frD fs))) ∧ Below w.heap.size w w' := by
  obtain ⟨A, c, rfl, hcap, hcell⟩ := h
  have HC := Lib.hid hcell
  have HO := Lib.hid hok
  obtain ⟨n, hn⟩ : ∃ n, fs.length = n := ⟨_, rfl⟩
  have HN := Lib.hid hn
  have HL := Lib.hid (show n ≤ 1000 by rw [← hn]; exact hok.1)
  rw [hn]
  clear hcell hok hcap hn
  have HX := Lib.hid (Box.made w 23 #[.int .i64 0, .int .i64 0])
  go_enter Try.func59, Try.ntmps59
  go_wp2_with fail
  refine prod1_c n c A HL.out _ _ _ _ _ _ _ _ _ _ _ _ _ _ _ _ _ _ _ _ _ _ _ _ _ _ _ _ _ _ _ _ _ _ _ _ _ _ _ _ _ _ _ _ _ _ _ _ _ _ _ _ _ _ _ _ _ _ _ _ _ _ _ _ _ _ _ _ _ _ _ _ _ _ _ _ _ _ _ _ _ _ _ _ _ _ _ _ _ _ _ _ _ _ _ ?_
  intro g1 g2 _ _ _ _ _ _ W1 hP hg1 hg2 hb1
  have hs1 : w.heap.size < g1 := by simp at hg1; omega
  have hs2 : w.heap.size < g2 := by simp at hg2; omega
  have HS := Lib.hid (And.intro hs1 hs2)
  have HP := Lib.hid hP
  have HB := Lib.hid (boxed hb1)
  have HX1 := Lib.hid (HX.out.later hb1)
  clear hP hg1 hg2 hb1 hs1 hs2
  have L1 : n ≤ 1000 := HL.out
  go_wp2_with fail
  go_loopw [23] (fun kv wr => ∃ (k : Nat) (ns ds : List Nat), k ≤ n ∧ kv = .int .i64 (k : Int) ∧ PB wr g1 g2 n n ns ds ∧ ns.take k = (fs.map (·.1)).take k ∧ ds.take k = (fs.map (·.2)).take k ∧ Below w.heap.size w wr ∧ Box wr w.heap.size 23 #[.int .i64 0, .int .i64 0]) (fun kv _ => n - (intOf kv).toNat)
  case atStart => exact ⟨0, _, _, Nat.zero_le _, rfl, HP.out, rfl, rfl, HB.out, HX1.out⟩
  case round =>
    obtain ⟨k, ns, ds, hk, rfl, hP, ht1, ht2, hbr, hbx⟩ := hrel
    have HPr := Lib.hid hP
    have HT := Lib.hid (And.intro ht1 ht2)
    have HBr := Lib.hid hbr
    have HXr := Lib.hid hbx
    clear hP ht1 ht2 hbr hbx
    by_cases hlt : k < n
    · have hkf : k < fs.length := by rw [HN.out]; exact hlt
      obtain ⟨b, off, rfl, hbB, hcc⟩ := HC.out (by omega)
      obtain ⟨y0, y1⟩ := hcc k hkf
      obtain ⟨x, hx⟩ : ∃ x, fs[k].1 = x := ⟨_, rfl⟩
      obtain ⟨y, hy⟩ : ∃ y, fs[k].2 = y := ⟨_, rfl⟩
      rw [hx] at y0
      rw [hy] at y1
      have HXY := Lib.hid (show x = (fs.map (·.1))[k]'(by simpa using hkf) ∧ y = (fs.map (·.2))[k]'(by simpa using hkf) by simp [hx, hy])
      have q0 := keepd y0 HBr.out hbB
      have q1 := keepd y1 HBr.out hbB
      have d1 : decide ((k : Int) < (n : Int)) = true := by simpa using hlt
      have d2 : decide (k < n) = true := by simpa using hlt
      have hK := Lib.hid hkf
      clear hcc y0 y1 hx hy
      go_wp2_with fail
      refine prod5_c n k x y g1 g2 wr.heap.size ns ds _ _ _ _ _ _ _ _ _ _ _ _ _ _ _ _ _ _ _ _ _ _ _ _ _ _ _ _ _ _ _ _ _ _ _ _ _ _ _ _ _ _ _ _ _ _ _ _ _ _ _ _ _ _ _ _ _ _ _ _ _ _ _ _ _ _ _ _ _ _ _ _ _ _ _ _ _ _ _ _ _ _ _ _ _ _ _ _ _ _ _ _ (HPr.out.later ((Below.refl _ _).alloc (Nat.le_refl _) _)) (Box.made wr 75 #[.int .i64 (x : Int), .int .i64 (y : Int)]) hlt L1 (by have := HPr.out.r1.lt; omega) (by have := HPr.out.r2.lt; omega) ?_
      intro _ _ _ _ _ _ _ _ _ _ W5 hP5 hB5 hb5
      have HP5 := Lib.hid hP5
      have HB5 := Lib.hid (show Below w.heap.size w W5 from (HBr.out.trans ((Below.refl _ _).alloc (HBr.out.size) _)).trans (hb5 _ (Nat.le_of_lt HS.out.1) (Nat.le_of_lt HS.out.2)))
      have HX5 := Lib.hid (show Box W5 w.heap.size 23 #[.int .i64 0, .int .i64 0] from (HXr.out.alloc _).below (hb5 (w.heap.size + 1) HS.out.1 HS.out.2) (Nat.lt_succ_self _))
      have HT5 := Lib.hid (show (ns.set k x).take (k + 1) = (fs.map (·.1)).take (k + 1) ∧ (ds.set k y).take (k + 1) = (fs.map (·.2)).take (k + 1) by
        rw [HXY.out.1, HXY.out.2]
        exact ⟨fill_next (by rw [HPr.out.l1, List.length_map, HN.out]) _ HT.out.1, fill_next (by rw [HPr.out.l2, List.length_map, HN.out]) _ HT.out.2⟩)
      clear hP5 hB5 hb5 q0 q1
      go_wp2_with fail
      go_roundw
      case rel => exact ⟨k + 1, _, _, by omega, by go_num, HP5.out, HT5.out.1, HT5.out.2, HB5.out, HX5.out⟩
      case measure => simp [intOf]; omega
    · obtain rfl : k = n := by omega
      have d1 : decide ((k : Int) < (k : Int)) = false := by simp
      have d2 : decide (k < k) = false := by simp
      have e1 : ns = fs.map (·.1) := fill_done (by rw [HPr.out.l1, List.length_map, HN.out]) (by rw [List.length_map, HN.out]; exact HT.out.1)
      have e2 : ds = fs.map (·.2) := fill_done (by rw [HPr.out.l2, List.length_map, HN.out]) (by rw [List.length_map, HN.out]; exact HT.out.2)
      have HCI := Lib.hid (show CInv (frN fs) (frD fs) 0 0 ns ds by
        rw [e1, e2]
        exact CInv.start _ _ (fun x hx => by obtain ⟨f, hf, rfl⟩ := List.mem_map.1 hx; exact (HO.out.2 f hf).2.1))
      have HBD := Lib.hid (show (∀ x ∈ ns, x ≤ 9223372036854775807) ∧ (∀ x ∈ ds, x ≤ 9223372036854775807) by
        rw [e1, e2]
        exact ⟨fun x hx => by obtain ⟨f, hf, rfl⟩ := List.mem_map.1 hx; exact (HO.out.2 f hf).1, fun x hx => by obtain ⟨f, hf, rfl⟩ := List.mem_map.1 hx; exact (HO.out.2 f hf).2.2⟩)
      clear e1 e2 hlt hk
      go_wp2_with fail
      go_loopw [41] (fun iv wq => ∃ (i : Nat) (ns ds : List Nat), i ≤ k ∧ iv = .int .i64 (i : Int) ∧ PB wq g1 g2 k k ns ds ∧ CInv (frN fs) (frD fs) i 0 ns ds ∧ ((∀ x ∈ ns, x ≤ 9223372036854775807) ∧ (∀ x ∈ ds, x ≤ 9223372036854775807)) ∧ Below w.heap.size w wq ∧ Box wq w.heap.size 23 #[.int .i64 0, .int .i64 0]) (fun iv _ => k - (intOf iv).toNat)
      case atStart => exact ⟨0, ns, ds, Nat.zero_le _, rfl, HPr.out, HCI.out, HBD.out, HBr.out, HXr.out⟩
      case round =>
        clear HPr HT HBr HXr HCI HBD
        obtain ⟨i, ns, ds, hi, rfl, hP, hci, hbd, hbr, hbx⟩ := hrel
        have HPr := Lib.hid hP
        have HCI := Lib.hid hci
        have HBD := Lib.hid hbd
        have HBr := Lib.hid hbr
        have HXr := Lib.hid hbx
        clear hP hci hbd hbr hbx
        by_cases hlt : i < k
        · have d1 : decide ((i : Int) < (k : Int)) = true := by simpa using hlt
          have d2 : decide (i < k) = true := by simpa using hlt
          go_wp2_with fail
          go_loopw [46] (fun jv wj => ∃ (j : Nat) (ns ds : List Nat), j ≤ k ∧ jv = .int .i64 (j : Int) ∧ PB wj g1 g2 k k ns ds ∧ CInv (frN fs) (frD fs) i j ns ds ∧ ((∀ x ∈ ns, x ≤ 9223372036854775807) ∧ (∀ x ∈ ds, x ≤ 9223372036854775807)) ∧ Below w.heap.size w wj ∧ Box wj w.heap.size 23 #[.int .i64 0, .int .i64 0]) (fun jv _ => k - (intOf jv).toNat)
          case atStart => exact ⟨0, ns, ds, Nat.zero_le _, rfl, HPr.out, HCI.out, HBD.out, HBr.out, HXr.out⟩
          case round =>
            clear HPr HCI HBr HXr HBD
            obtain ⟨j, ns, ds, hj, rfl, hP, hci, hbd, hbr, hbx⟩ := hrel
            have HPr := Lib.hid hP
            have HCI := Lib.hid hci
            have HBD := Lib.hid hbd
            have HBr := Lib.hid hbr
            have HXr := Lib.hid hbx
            clear hP hci hbd hbr hbx
            by_cases hjt : j < k
            · have e1 : decide ((j : Int) < (k : Int)) = true := by simpa using hjt
              have e2 : decide (j < k) = true := by simpa using hjt
              have hin : i < ns.length := by rw [HPr.out.l1]; exact hlt
              have hjn : j < ds.length := by rw [HPr.out.l2]; exact hjt
              have q0 := HPr.out.c1 hin
              have q1 := HPr.out.c2 hjn
              have HXY := Lib.hid (And.intro (HBD.out.1 _ (List.getElem_mem hin)) (HBD.out.2 _ (List.getElem_mem hjn)))
              have HST := Lib.hid (HCI.out.step hin hjn)
              have HPO := Lib.hid (HCI.out.pos _ (List.getElem_mem hjn))
              have HB1 := Lib.hid (And.intro (bd_set (g := ns[i].gcd ds[j]) HBD.out.1 hin) (bd_set (g := ns[i].gcd ds[j]) HBD.out.2 hjn))
              obtain ⟨x, hx⟩ : ∃ x, ns[i] = x := ⟨_, rfl⟩
              obtain ⟨y, hy⟩ : ∃ y, ds[j] = y := ⟨_, rfl⟩
              rw [hx] at q0 HXY HST HB1
              rw [hy] at q1 HXY HST HPO HB1
              clear hx hy
              go_wp2_with fail
              refine prod13_c k i j x y g1 g2 ns ds _ _ _ _ _ _ _ _ _ _ _ _ _ _ _ _ _ _ _ _ _ _ _ _ _ _ _ _ _ _ _ _ _ _ _ _ _ _ _ _ _ _ _ _ _ _ _ _ _ _ _ _ _ _ _ _ _ _ _ _ _ _ _ _ _ _ _ _ _ _ _ _ _ _ _ _ _ _ _ _ _ _ _ _ _ _ _ _ _ _ _ _ HPr.out hlt hjt L1 q0 q1 HXY.out ?_
              intro _ _ _ _ _ _ _ _ _ W13 hb13
              have HP13 := Lib.hid (HPr.out.later hb13)
              have HB13 := Lib.hid (HBr.out.trans (hb13.mono HBr.out.size))
              have HX13 := Lib.hid (HXr.out.later hb13)
              have c0 : W13.cell? ⟨g1, i, none⟩ = some (.int .i64 (x : Int)) := keepd q0 hb13 HPr.out.r1.lt
              have c1 : W13.cell? ⟨g2, j, none⟩ = some (.int .i64 (y : Int)) := keepd q1 hb13 HPr.out.r2.lt
              have f0 : W13.frozen? ⟨g1, i, none⟩ = false := HP13.out.r1.free i
              have f1 : W13.frozen? ⟨g2, j, none⟩ = false := HP13.out.r2.free j
              clear q0 q1 hb13
              have gp : 0 < x.gcd y := Nat.gcd_pos_of_pos_right _ HPO.out
              obtain ⟨g, hg⟩ : ∃ g, x.gcd y = g := ⟨_, rfl⟩
              rw [hg] at gp HST HB1 ⊢
              obtain ⟨x1, hx1⟩ : ∃ z, x / g = z := ⟨_, rfl⟩
              obtain ⟨y1, hy1⟩ : ∃ z, y / g = z := ⟨_, rfl⟩
              rw [hx1, hy1] at HST HB1
              have qx : (x : Int) / (g : Int) = (x1 : Int) := by rw [← hx1]; simp
              have qy : (y : Int) / (g : Int) = (y1 : Int) := by rw [← hy1]; simp
              have bx : x1 ≤ 9223372036854775807 := by rw [← hx1]; exact Nat.le_trans (Nat.div_le_self _ _) HXY.out.1
              have by' : y1 ≤ 9223372036854775807 := by rw [← hy1]; exact Nat.le_trans (Nat.div_le_self _ _) HXY.out.2
              have w1 : IntKind.i64.wrap (x1 : Int) = (x1 : Int) := wrap_id (by omega) (by omega)
              have w2 : IntKind.i64.wrap (y1 : Int) = (y1 : Int) := wrap_id (by omega) (by omega)
              have z0 : decide ((g : Int) = 0) = false := by simp; omega
              have z1 : decide (g = 0) = false := by simp; omega
              have g0 : (0 : Int) < (g : Int) := by omega
              have dd : g1 ≠ g2 := HP13.out.d
              have c2 : (W13.setCell ⟨g1, i, none⟩ (.int .i64 (x1 : Int))).cell? ⟨g2, j, none⟩ = some (.int .i64 (y : Int)) := (World.cell?_setCell_other _ _ _ _ (fun e => dd (by injection e))).trans c1
              have i0 : (0 : Int) ≤ (i : Int) := by omega
              have i1 : (i : Int) < (k : Int) := by omega
              have j0 : (0 : Int) ≤ (j : Int) := by omega
              have j1 : (j : Int) < (k : Int) := by omega
              have HPF := Lib.hid ((HP13.out.put1 i x1).put2 j y1)
              have HBF := Lib.hid ((HB13.out.setCell (p := ⟨g1, i, none⟩) (Nat.le_of_lt HS.out.1) (.int .i64 (x1 : Int))).setCell (p := ⟨g2, j, none⟩) (Nat.le_of_lt HS.out.2) (.int .i64 (y1 : Int)))
              have HXF := Lib.hid ((HX13.out.far (p := ⟨g1, i, none⟩) (Nat.ne_of_lt HS.out.1) (.int .i64 (x1 : Int))).far (p := ⟨g2, j, none⟩) (Nat.ne_of_lt HS.out.2) (.int .i64 (y1 : Int)))
              clear hg hx1 hy1 dd hin hjn
              go_wp2_with fail
              go_roundw
              case rel => exact ⟨j + 1, _, _, by omega, by go_num, HPF.out, HST.out, HB1.out, HBF.out, HXF.out⟩
              case measure => simp [intOf]; omega
            · obtain rfl : j = k := by omega
              have e1 : decide ((j : Int) < (j : Int)) = false := by simp
              have e2 : decide (j < j) = false := by simp
              have HCN := Lib.hid (HCI.out.next (by rw [HPr.out.l2]; exact Nat.le_refl _))
              go_wp2_with fail
              go_roundw
              case rel => exact ⟨i + 1, ns, ds, by omega, by go_num, HPr.out, HCN.out, HBD.out, HBr.out, HXr.out⟩
              case measure => simp [intOf]; omega
        · obtain rfl : i = k := by omega
          have d1 : decide ((i : Int) < (i : Int)) = false := by simp
          have d2 : decide (i < i) = false := by simp
          have HI1 := Lib.hid (show Ints wr wr.heap.size (.slice (some ⟨g1, 0, none⟩) i i) (nats ns) from by
            have := HPr.out.r1.ints_ (Nat.le_refl _) (c := i) (by rw [nats_len, HPr.out.l1]; omega) (by rw [nats_len, HPr.out.l1]; exact Nat.le_refl _)
            rwa [nats_len, HPr.out.l1] at this)
          have HI2 := Lib.hid (show Ints wr wr.heap.size (.slice (some ⟨g2, 0, none⟩) i i) (nats ds) from by
            have := HPr.out.r2.ints_ (Nat.le_refl _) (c := i) (by rw [nats_len, HPr.out.l2]; omega) (by rw [nats_len, HPr.out.l2]; exact Nat.le_refl _)
            rwa [nats_len, HPr.out.l2] at this)
          have HM := Lib.hid (mu_two HCI.out (by rw [HPr.out.l1]; exact Nat.le_refl _) (frD_pos HO.out))
          have z0 : wr.cell? ⟨w.heap.size, 0, none⟩ = some (.int .i64 0) := HXr.out.cell 0
          have z1 : wr.cell? ⟨w.heap.size, 1, none⟩ = some (.int .i64 0) := HXr.out.cell 1
          have fz : ∀ o, wr.frozen? ⟨w.heap.size, o, none⟩ = false := fun o => HXr.out.free o
          go_wp2_with fail
          refine (multiply_c ns _ wr _ HI1.out).mono ?_; rintro e w2 ⟨rfl, rfl⟩
          go_wp2_with fail
          refine (multiply_c ds _ wr _ HI2.out).mono ?_; rintro e w2 ⟨rfl, rfl⟩
          cases hb1 : muB ns
          · have HF := Lib.hid (HM.out.2 (.inl hb1))
            clear hb1
            go_wp2_with fail
            exact endRr Try.results59 rfl rfl HF.out HXr.out (Nat.le_refl _) HBr.out
          · cases hb2 : muB ds
            · have HF := Lib.hid (HM.out.2 (.inr hb2))
              clear hb1 hb2
              go_wp2_with fail
              exact endRr Try.results59 rfl rfl HF.out HXr.out (Nat.le_refl _) HBr.out
            · have HF := Lib.hid (HM.out.1 ⟨hb1, hb2⟩)
              clear hb1 hb2
              go_wp2_with fail
              exact endRr Try.results59 rfl rfl HF.out HXr.out (Nat.le_refl _) HBr.out
end Go.Proofs.Ytmmfmanjajefcaa

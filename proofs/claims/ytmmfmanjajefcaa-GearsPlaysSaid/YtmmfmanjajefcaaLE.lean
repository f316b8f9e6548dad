/- Layer 7: the ratio of a train and the turns of its shafts, as the specification has them. -/
import Derived.Test.YtmmfmanjajefcaaLD
set_option linter.all false
namespace Go.Proofs.Ytmmfmanjajefcaa
open Go.RowKit

/-- fractions whose parts are at least 1 -/
def FrPos (fs : List (Nat × Nat)) : Prop := FrOk fs ∧ ∀ f ∈ fs, 0 < f.1
theorem frPos_ms {ms : List Mh} (h : ms.all mB = true) (hl : ms.length ≤ 100) : FrPos (ms.map mF) := by
  refine ⟨frOk_ms h hl, fun f hf => ?_⟩
  obtain ⟨m, hm, rfl⟩ := List.mem_map.1 hf
  have hb := List.all_eq_true.1 h m hm
  unfold mB meshB at hb
  rw [Bool.and_eq_true, Bool.and_eq_true] at hb
  have i1 := inB_iff.1 hb.1.1
  unfold mF
  simp only
  omega
theorem lowest_f (fs : List (Nat × Nat)) (ds : List Nat) (va vb : Value) (base1 base2 n m : Nat) (w : World) (ha : w.ownsRow base1 3 1 va n (ints (nats (fs.map (·.1))))) (hb : w.ownsRow base2 3 1 vb m (ints (nats ds))) (hn : fs.length = n) (hm : ds.length = m)
    (hp : FrPos fs) (hl : n ≤ 100 ∧ m ≤ 100) (hpd : ∀ x ∈ ds, 0 < x) (hbd : ∀ x ∈ ds, x ≤ 9223372036854775807) (r : Rr) (hr : rOf (frN fs) (prodL ds) = r) :
    Calls Try.prog 68 #[va, vb] w fun e w' => e = .returned (rrV r) ∧ Below w.heap.size w w' := by
  subst hn; subst hm
  exact lowest_c (fs.map fun x : Nat × Nat => x.1) ds va vb base1 base2 w (by rw [List.length_map]; exact ha) hb (by rw [List.length_map]; exact hl) (fun x hx => by obtain ⟨f, hf, rfl⟩ := List.mem_map.1 hx; exact hp.2 f hf) hpd (fun x hx => by obtain ⟨f, hf, rfl⟩ := List.mem_map.1 hx; exact (hp.1.2 f hf).1) hbd r hr

set_option maxRecDepth 100000 in
set_option maxHeartbeats 4000000 in
theorem rRatioOf_c (ms : List Mh) (v : Value) (w : World) (h : IsTr w w.heap.size v ms) (hl100 : ms.length ≤ 100) : Calls Try.prog 29 #[v] w fun e w' => e = .returned (rrV (rtR ms)) ∧ Below w.heap.size w w' := by
  have HT := Lib.hid h
  obtain ⟨s, rfl, A, c, rfl, -, -⟩ := h
  obtain ⟨n, hn⟩ : ∃ n, ms.length = n := ⟨_, rfl⟩
  have HL := Lib.hid hl100
  rw [hn] at HT ⊢
  have HN := Lib.hid hn
  clear hn hl100
  have b2 := Box.made (w.alloc (.cells #[.slice A n c] 35)) 23 #[.int .i64 0, .int .i64 0]
  rw [World.size_alloc] at b2
  have HX := Lib.hid b2
  have HB := Lib.hid (Box.alloc (Box.made w 35 #[.slice A n c]) (.cells #[.int .i64 0, .int .i64 0] 23))
  have HA := Lib.hid (((Below.refl w.heap.size w).alloc (Nat.le_refl _) (.cells #[.slice A n c] 35)).alloc (by simp) (.cells #[.int .i64 0, .int .i64 0] 23))
  have HT0 := Lib.hid (HT.out.mono HA.out (by simp; omega : w.heap.size ≤ ((w.alloc (.cells #[.slice A n c] 35)).alloc (.cells #[.int .i64 0, .int .i64 0] 23)).heap.size))
  clear b2
  cases hv : trB ms
  · have HR := Lib.hid (show rtR ms = ⟨0, 0, 70⟩ by unfold rtR; rw [hv]; rfl)
    go_enter Try.func29, Try.ntmps29
    go_wp2_with fail
    refine (rValidTrain_c ms _ _ HT0.out HL.out).mono ?_; rintro e w1 ⟨rfl, hb1⟩
    rw [hv]
    have X1 := Lib.hid (HX.out.later hb1)
    have B1 := Lib.hid (HA.out.trans (hb1.mono (by simp; omega)))
    have z0 : w1.cell? ⟨w.heap.size + 1, 0, none⟩ = some (.int .i64 0) := X1.out.cell 0
    have z1 : w1.cell? ⟨w.heap.size + 1, 1, none⟩ = some (.int .i64 0) := X1.out.cell 1
    have fz : ∀ o, w1.frozen? ⟨w.heap.size + 1, o, none⟩ = false := fun o => X1.out.free o
    clear hb1 hv
    go_wp2_with fail
    exact endRr Try.results29 rfl rfl HR.out X1.out (by omega) B1.out
  have HV := Lib.hid hv
  have HFC := Lib.hid (tr_facts hv)
  obtain ⟨fs, hfs⟩ : ∃ fs, ms.map mF = fs := ⟨_, rfl⟩
  obtain ⟨r, hr⟩ : ∃ r, rOf (frN fs) (frD fs) = r := ⟨_, rfl⟩
  have HR := Lib.hid (show rtR ms = r by unfold rtR; rw [hv, hfs, hr]; rfl)
  have HWC := Lib.hid (show ∀ W V, IsTr W W.heap.size V ms → Calls Try.prog 67 #[V, .int .i64 (n : Int)] W (RwPost W fs) from fun W V hW => by
    have h := rwheels_c ms n V W hW HFC.out.2.2.1 HL.out (by rw [HN.out]; exact Nat.le_refl _)
    rw [show ms.take n = ms by rw [← HN.out, List.take_length], hfs] at h
    exact h)
  have HFN := Lib.hid (show fs.length = n by rw [← hfs, List.length_map, HN.out])
  have HFP := Lib.hid (show FrPos fs by rw [← hfs]; exact frPos_ms HFC.out.2.2.1 HL.out)
  have HRR := Lib.hid hr
  have HN16 := Lib.hid (show n ≤ 16 by rw [← HN.out]; exact HFC.out.2.1)
  clear hv hfs hr
  go_enter Try.func29, Try.ntmps29
  go_wp2_with fail
  refine (rValidTrain_c ms _ _ HT0.out HL.out).mono ?_; rintro e w1 ⟨rfl, hb1⟩
  rw [HV.out]
  have X1 := Lib.hid (HX.out.later hb1)
  have B1 := Lib.hid (HA.out.trans (hb1.mono (by simp; omega)))
  have T1 := Lib.hid (HT0.out.later hb1)
  have t0 : w1.cell? ⟨w.heap.size, 0, none⟩ = some (.slice A n c) := (HB.out.later hb1).cell 0
  clear hb1
  go_wp2_with fail
  refine (HWC.out w1 _ T1.out).mono ?_; rintro e w2 ⟨va, vb, rfl, ha, hb, -, hb2⟩
  have X2 := Lib.hid (X1.out.later hb2)
  have B2 := Lib.hid (B1.out.trans (hb2.mono B1.out.size))
  have CL := Lib.hid (lowest_f fs (fs.map fun x : Nat × Nat => x.2) va vb _ _ fs.length fs.length w2 ha hb rfl (List.length_map ..) HFP.out (by rw [HFN.out]; have := HN16.out; omega) (fun x hx => by obtain ⟨f, hf, rfl⟩ := List.mem_map.1 hx; exact (HFP.out.1.2 f hf).2.1) (fun x hx => by obtain ⟨f, hf, rfl⟩ := List.mem_map.1 hx; exact (HFP.out.1.2 f hf).2.2) r HRR.out)
  clear ha hb hb2 t0
  go_wp2_with fail
  refine CL.out.mono ?_; rintro e w3 ⟨rfl, hb3⟩
  have X3 := Lib.hid (X2.out.later hb3)
  have B3 := Lib.hid (B2.out.trans (hb3.mono B2.out.size))
  have z0 : w3.cell? ⟨w.heap.size + 1, 0, none⟩ = some (.int .i64 0) := X3.out.cell 0
  have z1 : w3.cell? ⟨w.heap.size + 1, 1, none⟩ = some (.int .i64 0) := X3.out.cell 1
  have fz : ∀ o, w3.frozen? ⟨w.heap.size + 1, o, none⟩ = false := fun o => X3.out.free o
  clear hb3
  go_wp2_with fail
  exact endRr Try.results29 rfl rfl HR.out X3.out (by omega) B3.out

set_option maxRecDepth 100000 in
set_option maxHeartbeats 4000000 in
theorem rturns_c (ms : List Mh) (s : Nat) (v : Value) (w : World) (h : IsTr w w.heap.size v ms) (hv : trB ms = true) (hs : s ≤ ms.length) : Calls Try.prog 75 #[v, .int .i64 (s : Int)] w fun e w' => e = .returned (rrV (trnR ms s)) ∧ Below w.heap.size w w' := by
  have HT := Lib.hid h
  obtain ⟨sv, rfl, A, c, rfl, hcap, hcell⟩ := h
  obtain ⟨k1, k2, k3, k4, k5, k6, k7⟩ := tr_facts hv
  obtain ⟨b, off, rfl, hbB, hcc⟩ := hcell k6
  obtain ⟨y0, y1, y2⟩ := hcc 0 k6
  rw [k7] at y0
  obtain ⟨n, hn⟩ : ∃ n, ms.length = n := ⟨_, rfl⟩
  obtain ⟨D, hD⟩ : ∃ D, drv ms = D := ⟨_, rfl⟩
  obtain ⟨fs, hfs⟩ : ∃ fs, (ms.take s).map mF = fs := ⟨_, rfl⟩
  obtain ⟨r, hr⟩ : ∃ r, rOf (frN fs) (prodL (fs.map (·.2) ++ [D])) = r := ⟨_, rfl⟩
  have HR := Lib.hid (show trnR ms s = r by unfold trnR; rw [hD, hfs, ← hr, prodL_append]; simp [prodL, frD])
  have HRR := Lib.hid hr
  rw [hD] at y0 k4 k5
  have HFL := Lib.hid (show fs.length = s by rw [← hfs, List.length_map, List.length_take]; omega)
  have HFP := Lib.hid (show FrPos fs by rw [← hfs]; exact frPos_ms (all_sub k3 s) (by rw [List.length_take]; omega))
  have HWC := Lib.hid (show ∀ W V, IsTr W W.heap.size V ms → Calls Try.prog 67 #[V, .int .i64 (s : Int)] W (RwPost W fs) from fun W V hW => by
    have h := rwheels_c ms s V W hW k3 (by omega) hs
    rw [hfs] at h
    exact h)
  rw [hn] at HT hs hcap k1 k2
  have HDD := Lib.hid (And.intro k4 k5)
  have n0 : (0 : Int) < (n : Int) := by omega
  have n00 : 0 < n := by omega
  have HSN := Lib.hid (And.intro hs k2)
  rw [hn]
  clear hcell hcc y1 y2 k3 k6 k7 hn hD hv hcap hr hfs
  have b2 := Box.made (w.alloc (.cells #[.slice (some ⟨b, off, none⟩) n c] 35)) 23 #[.int .i64 0, .int .i64 0]
  rw [World.size_alloc] at b2
  have HX := Lib.hid b2
  have HB := Lib.hid (Box.alloc (Box.made w 35 #[.slice (some ⟨b, off, none⟩) n c]) (.cells #[.int .i64 0, .int .i64 0] 23))
  have HA := Lib.hid (((Below.refl w.heap.size w).alloc (Nat.le_refl _) (.cells #[.slice (some ⟨b, off, none⟩) n c] 35)).alloc (by simp) (.cells #[.int .i64 0, .int .i64 0] 23))
  have HT0 := Lib.hid (HT.out.mono HA.out (by simp; omega : w.heap.size ≤ ((w.alloc (.cells #[.slice (some ⟨b, off, none⟩) n c] 35)).alloc (.cells #[.int .i64 0, .int .i64 0] 23)).heap.size))
  have y0' : w.cell? ⟨b, off, none⟩ = some (.int .i64 (D : Int)) := by simpa using y0
  have HY := Lib.hid y0'
  clear b2 y0 y0'
  go_enter Try.func75, Try.ntmps75
  go_wp2_with fail
  refine (HWC.out _ _ HT0.out).mono ?_; rintro e w2 ⟨va, vb, rfl, ha, hb, hd, hb2⟩
  have X2 := Lib.hid (HX.out.later hb2)
  have B2 := Lib.hid (HA.out.trans (hb2.mono (by simp; omega)))
  have OA := Lib.hid ha
  have OB' := Lib.hid hb
  have OD := Lib.hid hd
  have t0 : w2.cell? ⟨w.heap.size, 0, none⟩ = some (.slice (some ⟨b, off, none⟩) n c) := (HB.out.later hb2).cell 0
  have y0 : w2.cell? ⟨b, off, none⟩ = some (.int .i64 (D : Int)) := keepd HY.out B2.out hbB
  have hsz : ((w.alloc (.cells #[.slice (some ⟨b, off, none⟩) n c] 35)).alloc (.cells #[.int .i64 0, .int .i64 0] 23)).heap.size = w.heap.size + 1 + 1 := by simp
  rw [hsz] at OA OB'
  have hs2 := hb2.size
  rw [hsz] at hs2
  have HS2 := Lib.hid hs2
  clear ha hb hd hb2 hsz hs2
  obtain ⟨i0, hi, hz0, hz1, hz2⟩ : ∃ i, Try.prog.info? 3 = some i ∧ i.zero = some (.int .i64 0) ∧ i.size = 1 ∧ i.bytes = 8 := ⟨_, rfl, rfl, rfl, rfl⟩
  have HO1 := Lib.hid (show (w2.alloc (.cells #[.int .i64 (D : Int)] 3)).ownsRow (w.heap.size + 1 + 1 + 1) 3 1 vb fs.length (ints (nats (fs.map (·.2)))) from OB'.out.alloc _)
  have HN1 := Lib.hid (news_box (W := w2.alloc (.cells #[.int .i64 (D : Int)] 3)) (cs := [.int .i64 (D : Int)]) (Box.made w2 3 #[.int .i64 (D : Int)]))
  have HL1 := Lib.hid (show fs.length + 1 ≤ maxLen ∧ (fs.length + 1) * 8 ≤ 140737488355328 by rw [HFL.out]; have := HSN.out; unfold maxLen; omega)
  have HL2 := Lib.hid (show w.heap.size + 1 + 1 + 1 ≤ (w2.alloc (.cells #[.int .i64 (D : Int)] 3)).heap.size by rw [World.size_alloc]; have := HS2.out; omega)
  go_wp2_with (first
    | (at_builtin; refine wpList_append_own_at _ rfl _ _ 45 rfl (w.heap.size + 1 + 1 + 1) 3 i0 (.int .i64 0) 1 8 Try.underlying45 hi hz0 hz1 hz2 rfl (by decide) vb _ _ rfl HO1.out ⟨w2.heap.size, 0, none⟩ 1 1 [.int .i64 (D : Int)] rfl rfl HN1.out (one_cell _) HL1.out.1 HL1.out.2 HL2.out ?_; intro v7 w7 hown7 hgrow7 _ hblk7; have X7 := Lib.hid ((X2.out.alloc (.cells #[.int .i64 (D : Int)] 3)).grown hgrow7 (fun e => by have := (HO1.out.lt _ e).1; omega)); have B7 := Lib.hid ((B2.out.alloc B2.out.size (.cells #[.int .i64 (D : Int)] 3)).grown hgrow7 (by rw [World.size_alloc]; have := B2.out.size; omega) (fun q e => by have := (HO1.out.lt q e).1; omega)); have A7 := Lib.hid ((OA.out.alloc (.cells #[.int .i64 (D : Int)] 3)).kept hgrow7 (by cases hva : va.ownBlock with | none => exact .inl rfl | some g => exact .inr (fun e => OD.out g hva e.symm))); have C7 := Lib.hid (show w7.ownsRow (w.heap.size + 1 + 1 + 1) 3 1 v7 (fs.length + 1) (ints (nats (fs.map (·.2) ++ [D]))) by rw [nats_snoc, ints_snoc]; exact hown7); clear hown7 hgrow7 hblk7)
    | fail)
  have CL := Lib.hid (lowest_f fs ((fs.map fun x : Nat × Nat => x.2) ++ [D]) va v7 _ _ fs.length (fs.length + 1) w7 A7.out C7.out rfl (by simp) HFP.out (by rw [HFL.out]; have := HSN.out; omega)
    (fun x hx => by
      rcases List.mem_append.1 hx with hx | hx
      · obtain ⟨f, hf, rfl⟩ := List.mem_map.1 hx; exact (HFP.out.1.2 f hf).2.1
      · simp at hx; have := HDD.out; omega)
    (fun x hx => by
      rcases List.mem_append.1 hx with hx | hx
      · obtain ⟨f, hf, rfl⟩ := List.mem_map.1 hx; exact (HFP.out.1.2 f hf).2.2
      · simp at hx; have := HDD.out; omega) r HRR.out)
  refine CL.out.mono ?_; rintro e w3 ⟨rfl, hb3⟩
  have X3 := Lib.hid (X7.out.later hb3)
  have B3 := Lib.hid (B7.out.trans (hb3.mono B7.out.size))
  have z0 : w3.cell? ⟨w.heap.size + 1, 0, none⟩ = some (.int .i64 0) := X3.out.cell 0
  have z1 : w3.cell? ⟨w.heap.size + 1, 1, none⟩ = some (.int .i64 0) := X3.out.cell 1
  have fz : ∀ o, w3.frozen? ⟨w.heap.size + 1, o, none⟩ = false := fun o => X3.out.free o
  clear hb3
  go_wp2_with fail
  exact endRr Try.results75 rfl rfl HR.out X3.out (by omega) B3.out
end Go.Proofs.Ytmmfmanjajefcaa

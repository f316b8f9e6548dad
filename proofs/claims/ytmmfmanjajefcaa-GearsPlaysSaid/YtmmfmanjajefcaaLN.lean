/- Layer 7: the play of the runner, on both sides: whole trains. -/
import Derived.Test.YtmmfmanjajefcaaLM
set_option linter.all false
namespace Go.Proofs.Ytmmfmanjajefcaa
open Go.RowKit

theorem plF_drop {ms : List Mh} {k : Nat} (h : k < ms.length) (n d : Nat) : plF (ms.drop k) n d = if (plS n d ms[k]).e = 0 then plF (ms.drop (k + 1)) (plS n d ms[k]).n.toNat (plS n d ms[k]).d.toNat else ⟨0, 0, 2⟩ := by
  rw [List.drop_eq_getElem_cons h]; rfl

set_option maxRecDepth 100000 in
set_option maxHeartbeats 4000000 in
theorem Play_c (ms : List Mh) (v : Value) (w : World) (h : IsTr w w.heap.size v ms) : Calls Try.prog 43 #[v] w fun e w' => e = .returned (rrV (playR ms)) ∧ Below w.heap.size w w' := by
  have HT := Lib.hid h
  obtain ⟨s, rfl, A, c, rfl, hcap, hcell⟩ := h
  have HC := Lib.hid hcell
  obtain ⟨l, hn⟩ : ∃ n, ms.length = n := ⟨_, rfl⟩
  have HN := Lib.hid hn
  rw [hn] at HT ⊢
  clear hn hcell hcap
  go_enter Try.func43, Try.ntmps43
  go_wp2_with fail
  obtain ⟨W92, hW93⟩ : ∃ Wzz, ((w.alloc (.cells #[.slice A l c] 35)).alloc (.cells #[.int .i64 0, .int .i64 0] 23)) = Wzz := ⟨_, rfl⟩
  have B94 := Lib.hid (show Below w.heap.size w W92 by rw [← hW93]; exact (((Below.refl w.heap.size w).alloc (Nat.le_refl _) _).alloc (by first | (simp; done) | (simp; omega)) _))
  have X95 := Lib.hid (show Box W92 (w.heap.size) 35 #[.slice A l c] by rw [← hW93]; exact Box.alloc (Box.made w 35 #[.slice A l c]) (.cells #[.int .i64 0, .int .i64 0] 23))
  have X96 := Lib.hid (show Box W92 (w.heap.size + 1) 23 #[.int .i64 0, .int .i64 0] by
    have hz := Box.made (w.alloc (.cells #[.slice A l c] 35)) 23 #[.int .i64 0, .int .i64 0]
    rw [World.size_alloc] at hz
    rw [← hW93]; exact hz)
  have C97 := Lib.hid (HT.out.later B94.out)
  have SZ98 := Lib.hid (show W92.heap.size = w.heap.size + 1 + 1 by rw [← hW93]; simp)
  rw [hW93]
  clear hW93
  have q99 : W92.cell? ⟨w.heap.size, 0, none⟩ = some (.slice A l c) := X95.out.cell 0
  have q100 : W92.cell? ⟨w.heap.size + 1, 0, none⟩ = some (.int .i64 0) := X96.out.cell 0
  have q101 : W92.cell? ⟨w.heap.size + 1, 1, none⟩ = some (.int .i64 0) := X96.out.cell 1
  have fz102 : ∀ o, W92.frozen? ⟨w.heap.size + 1, o, none⟩ = false := fun o => X96.out.free o
  go_wp2_with fail
  refine (ValidTrain_c ms _ _ C97.out).mono ?_; rintro e v103 ⟨rfl, hb104⟩
  have X105 := Lib.hid (X95.out.later hb104)
  have X106 := Lib.hid (X96.out.later hb104)
  have C107 := Lib.hid (C97.out.later hb104)
  have B108 := Lib.hid (B94.out.trans (hb104.mono B94.out.size))
  clear hb104
  clear q99 q100 q101 fz102
  have q109 : v103.cell? ⟨w.heap.size, 0, none⟩ = some (.slice A l c) := X105.out.cell 0
  have q110 : v103.cell? ⟨w.heap.size + 1, 0, none⟩ = some (.int .i64 0) := X106.out.cell 0
  have q111 : v103.cell? ⟨w.heap.size + 1, 1, none⟩ = some (.int .i64 0) := X106.out.cell 1
  have fz112 : ∀ o, v103.frozen? ⟨w.heap.size + 1, o, none⟩ = false := fun o => X106.out.free o
  cases hv : trB ms
  · have HR := Lib.hid (show playR ms = ⟨0, 0, 70⟩ by unfold playR; rw [hv]; rfl)
    clear hv
    go_wp2_with fail
    exact endRr Try.results43 rfl rfl HR.out X106.out (by omega) B108.out
  · have HFC := Lib.hid (tr_facts hv)
    have HPR := Lib.hid (show playR ms = plF ms 0 1 by unfold playR; rw [hv]; rfl)
    have HL16 := Lib.hid (show l ≤ 16 by rw [← HN.out]; exact HFC.out.2.1)
    clear hv
    have X113 := Lib.hid (X105.out.alloc (.cells #[.int .i64 0, .int .i64 1] 23))
    have X114 := Lib.hid (X106.out.alloc (.cells #[.int .i64 0, .int .i64 1] 23))
    have C115 := Lib.hid (C107.out.later ((Below.refl v103.heap.size v103).alloc (Nat.le_refl _) (.cells #[.int .i64 0, .int .i64 1] 23)))
    have B116 := Lib.hid (B108.out.alloc B108.out.size (.cells #[.int .i64 0, .int .i64 1] 23))
    have X117 := Lib.hid (Box.made v103 23 #[.int .i64 0, .int .i64 1])
    have q118 : (v103.alloc (.cells #[.int .i64 0, .int .i64 1] 23)).cell? ⟨w.heap.size, 0, none⟩ = some (.slice A l c) := X113.out.cell 0
    have q119 : (v103.alloc (.cells #[.int .i64 0, .int .i64 1] 23)).cell? ⟨w.heap.size + 1, 0, none⟩ = some (.int .i64 0) := X114.out.cell 0
    have q120 : (v103.alloc (.cells #[.int .i64 0, .int .i64 1] 23)).cell? ⟨w.heap.size + 1, 1, none⟩ = some (.int .i64 0) := X114.out.cell 1
    have fz121 : ∀ o, (v103.alloc (.cells #[.int .i64 0, .int .i64 1] 23)).frozen? ⟨w.heap.size + 1, o, none⟩ = false := fun o => X114.out.free o
    have q122 : (v103.alloc (.cells #[.int .i64 0, .int .i64 1] 23)).cell? ⟨v103.heap.size, 0, none⟩ = some (.int .i64 0) := X117.out.cell 0
    have q123 : (v103.alloc (.cells #[.int .i64 0, .int .i64 1] 23)).cell? ⟨v103.heap.size, 1, none⟩ = some (.int .i64 1) := X117.out.cell 1
    go_wp2_with fail
    obtain ⟨P, hP⟩ : ∃ P, v103.heap.size = P := ⟨_, rfl⟩
    have HPS := Lib.hid (show w.heap.size + 1 < P by rw [← hP]; exact X106.out.lt)
    have XP0 := X117.out
    rw [hP] at XP0 ⊢
    have XP := Lib.hid XP0
    clear XP0 hP
    go_loopw [16] (fun kv wr => ∃ (k n d : Nat), k ≤ l ∧ kv = .int .i64 (k : Int) ∧ plF (ms.drop k) n d = plF ms 0 1 ∧ RtV n d ∧ Box wr w.heap.size 35 #[.slice A l c] ∧ Box wr (w.heap.size + 1) 23 #[.int .i64 0, .int .i64 0] ∧ Box wr P 23 #[.int .i64 (n : Int), .int .i64 (d : Int)] ∧ Below w.heap.size w wr) (fun kv _ => l - (intOf kv).toNat)
    case atStart => exact ⟨0, 0, 1, Nat.zero_le _, rfl, rfl, ⟨by omega, by omega, by omega, by decide⟩, X113.out, X114.out, XP.out, B116.out⟩
    case round =>
      obtain ⟨k, n, d, hk, rfl, hpl, hrv, hbt, hbr, hbp, hbel⟩ := hrel
      have HPL := Lib.hid hpl
      have HRV := Lib.hid hrv
      have Xt := Lib.hid hbt
      have Xr := Lib.hid hbr
      have Xp := Lib.hid hbp
      have Bl := Lib.hid hbel
      clear hpl hrv hbt hbr hbp hbel
      have q12 : wr.cell? ⟨w.heap.size, 0, none⟩ = some (.slice A l c) := Xt.out.cell 0
      have q13 : wr.cell? ⟨w.heap.size + 1, 0, none⟩ = some (.int .i64 0) := Xr.out.cell 0
      have q14 : wr.cell? ⟨w.heap.size + 1, 1, none⟩ = some (.int .i64 0) := Xr.out.cell 1
      have fz15 : ∀ o, wr.frozen? ⟨w.heap.size + 1, o, none⟩ = false := fun o => Xr.out.free o
      have q16 : wr.cell? ⟨P, 0, none⟩ = some (.int .i64 (n : Int)) := Xp.out.cell 0
      have q17 : wr.cell? ⟨P, 1, none⟩ = some (.int .i64 (d : Int)) := Xp.out.cell 1
      have fz18 : ∀ o, wr.frozen? ⟨P, o, none⟩ = false := fun o => Xp.out.free o
      by_cases hlt : k < l
      · have hkf : k < ms.length := by rw [HN.out]; exact hlt
        obtain ⟨gb, off, rfl, hbB, hcc⟩ := HC.out (by omega)
        obtain ⟨y0, y1, y2⟩ := hcc k hkf
        have HM := Lib.hid (List.all_eq_true.1 HFC.out.2.2.1 _ (List.getElem_mem hkf))
        have HDR := Lib.hid (plF_drop hkf n d)
        obtain ⟨m, hm⟩ : ∃ m, ms[k] = m := ⟨_, rfl⟩
        rw [hm] at y0 y1 y2 HM HDR
        obtain ⟨x, y, z⟩ := m
        have HTW := Lib.hid (plS_two HRV.out HM.out)
        obtain ⟨X, Y, Z, rfl, rfl, rfl, x0, x1, yy0, yy1, z1⟩ := mesh_nat3 HM.out
        have HXY := Lib.hid (show (0 < X ∧ X ≤ 4096) ∧ (0 < Y ∧ Y ≤ 4096) ∧ Z ≤ 1000 from ⟨⟨x0, x1⟩, ⟨yy0, yy1⟩, z1⟩)
        have q0 := keepd y0 Bl.out hbB
        have q1 := keepd y1 Bl.out hbB
        have q2 := keepd y2 Bl.out hbB
        have d1 : decide ((k : Int) < (l : Int)) = true := by simpa using hlt
        have d2 : decide (k < l) = true := by simpa using hlt
        have k0 : (0 : Int) ≤ (k : Int) := by omega
        have k1 : (k : Int) < (l : Int) := by omega
        have HK := Lib.hid hkf
        have HLT := Lib.hid hlt
        have k2 : k ≤ 16 := by have := HL16.out; omega
        clear hcc y0 y1 y2 hm x0 x1 yy0 yy1 z1
        dsimp only at q0 q1 q2
        have LT19 := Lib.hid Xp.out.lt
        have X20 := Lib.hid (Xt.out.alloc (.cells #[.int .i64 (X : Int), .int .i64 (Y : Int), .int .i64 (Z : Int)] 37))
        have X21 := Lib.hid (Xr.out.alloc (.cells #[.int .i64 (X : Int), .int .i64 (Y : Int), .int .i64 (Z : Int)] 37))
        have X22 := Lib.hid (Xp.out.alloc (.cells #[.int .i64 (X : Int), .int .i64 (Y : Int), .int .i64 (Z : Int)] 37))
        have B23 := Lib.hid (Bl.out.alloc Bl.out.size (.cells #[.int .i64 (X : Int), .int .i64 (Y : Int), .int .i64 (Z : Int)] 37))
        have X24 := Lib.hid (Box.made wr 37 #[.int .i64 (X : Int), .int .i64 (Y : Int), .int .i64 (Z : Int)])
        have q25 : (wr.alloc (.cells #[.int .i64 (X : Int), .int .i64 (Y : Int), .int .i64 (Z : Int)] 37)).cell? ⟨w.heap.size, 0, none⟩ = some (.slice (some ⟨gb, off, none⟩) l c) := X20.out.cell 0
        have q26 : (wr.alloc (.cells #[.int .i64 (X : Int), .int .i64 (Y : Int), .int .i64 (Z : Int)] 37)).cell? ⟨w.heap.size + 1, 0, none⟩ = some (.int .i64 0) := X21.out.cell 0
        have q27 : (wr.alloc (.cells #[.int .i64 (X : Int), .int .i64 (Y : Int), .int .i64 (Z : Int)] 37)).cell? ⟨w.heap.size + 1, 1, none⟩ = some (.int .i64 0) := X21.out.cell 1
        have fz28 : ∀ o, (wr.alloc (.cells #[.int .i64 (X : Int), .int .i64 (Y : Int), .int .i64 (Z : Int)] 37)).frozen? ⟨w.heap.size + 1, o, none⟩ = false := fun o => X21.out.free o
        have q29 : (wr.alloc (.cells #[.int .i64 (X : Int), .int .i64 (Y : Int), .int .i64 (Z : Int)] 37)).cell? ⟨P, 0, none⟩ = some (.int .i64 (n : Int)) := X22.out.cell 0
        have q30 : (wr.alloc (.cells #[.int .i64 (X : Int), .int .i64 (Y : Int), .int .i64 (Z : Int)] 37)).cell? ⟨P, 1, none⟩ = some (.int .i64 (d : Int)) := X22.out.cell 1
        have fz31 : ∀ o, (wr.alloc (.cells #[.int .i64 (X : Int), .int .i64 (Y : Int), .int .i64 (Z : Int)] 37)).frozen? ⟨P, o, none⟩ = false := fun o => X22.out.free o
        have q32 : (wr.alloc (.cells #[.int .i64 (X : Int), .int .i64 (Y : Int), .int .i64 (Z : Int)] 37)).cell? ⟨wr.heap.size, 0, none⟩ = some (.int .i64 (X : Int)) := X24.out.cell 0
        have q33 : (wr.alloc (.cells #[.int .i64 (X : Int), .int .i64 (Y : Int), .int .i64 (Z : Int)] 37)).cell? ⟨wr.heap.size, 1, none⟩ = some (.int .i64 (Y : Int)) := X24.out.cell 1
        have q34 : (wr.alloc (.cells #[.int .i64 (X : Int), .int .i64 (Y : Int), .int .i64 (Z : Int)] 37)).cell? ⟨wr.heap.size, 2, none⟩ = some (.int .i64 (Z : Int)) := X24.out.cell 2
        go_wp2_with fail
        refine (behind_c n d X Y Z _ HRV.out HXY.out.1 HXY.out.2.1 HXY.out.2.2).mono ?_; rintro e v35 ⟨rfl, hb36⟩
        have X37 := Lib.hid (X20.out.later hb36)
        have X38 := Lib.hid (X21.out.later hb36)
        have X39 := Lib.hid (X22.out.later hb36)
        have X40 := Lib.hid (X24.out.later hb36)
        have B41 := Lib.hid (B23.out.trans (hb36.mono B23.out.size))
        clear hb36
        clear q25 q26 q27 fz28 q29 q30 fz31 q32 q33 q34 q12 q13 q14 fz15 q16 q17 fz18
        have q42 : v35.cell? ⟨w.heap.size, 0, none⟩ = some (.slice (some ⟨gb, off, none⟩) l c) := X37.out.cell 0
        have q43 : v35.cell? ⟨w.heap.size + 1, 0, none⟩ = some (.int .i64 0) := X38.out.cell 0
        have q44 : v35.cell? ⟨w.heap.size + 1, 1, none⟩ = some (.int .i64 0) := X38.out.cell 1
        have fz45 : ∀ o, v35.frozen? ⟨w.heap.size + 1, o, none⟩ = false := fun o => X38.out.free o
        have q46 : v35.cell? ⟨P, 0, none⟩ = some (.int .i64 (n : Int)) := X39.out.cell 0
        have q47 : v35.cell? ⟨P, 1, none⟩ = some (.int .i64 (d : Int)) := X39.out.cell 1
        have fz48 : ∀ o, v35.frozen? ⟨P, o, none⟩ = false := fun o => X39.out.free o
        have q49 : v35.cell? ⟨wr.heap.size, 0, none⟩ = some (.int .i64 (X : Int)) := X40.out.cell 0
        have q50 : v35.cell? ⟨wr.heap.size, 1, none⟩ = some (.int .i64 (Y : Int)) := X40.out.cell 1
        have q51 : v35.cell? ⟨wr.heap.size, 2, none⟩ = some (.int .i64 (Z : Int)) := X40.out.cell 2
        rcases HTW.out with ⟨he, hr⟩ | ⟨he, a2, b2, hr, hrv2⟩
        · rw [hr]
          have e1 : ((2 : Int) != 0) = true := by decide
          have HR := Lib.hid (show playR ms = ⟨0, 0, 2⟩ by rw [HPR.out, ← HPL.out, HDR.out, if_neg he])
          clear he hr
          have X52 := Lib.hid ((X37.out.far (p := ⟨P, 0, none⟩) ((by have := HPS.out; have := LT19.out; show _ ≠ P; omega)) (.int .i64 0)).far (p := ⟨P, 1, none⟩) ((by have := HPS.out; have := LT19.out; show _ ≠ P; omega)) (.int .i64 0))
          have X53 := Lib.hid ((X38.out.far (p := ⟨P, 0, none⟩) ((by have := HPS.out; have := LT19.out; show _ ≠ P; omega)) (.int .i64 0)).far (p := ⟨P, 1, none⟩) ((by have := HPS.out; have := LT19.out; show _ ≠ P; omega)) (.int .i64 0))
          have X54 := Lib.hid ((X39.out.put 0 (.int .i64 0)).put 1 (.int .i64 0))
          have X55 := Lib.hid ((X40.out.far (p := ⟨P, 0, none⟩) ((by have := HPS.out; have := LT19.out; show _ ≠ P; omega)) (.int .i64 0)).far (p := ⟨P, 1, none⟩) ((by have := HPS.out; have := LT19.out; show _ ≠ P; omega)) (.int .i64 0))
          have B56 := Lib.hid ((B41.out.setCell (p := ⟨P, 0, none⟩) ((by have := HPS.out; show w.heap.size ≤ P; omega)) (.int .i64 0)).setCell (p := ⟨P, 1, none⟩) ((by have := HPS.out; show w.heap.size ≤ P; omega)) (.int .i64 0))
          have q57 : ((v35.setCell ⟨P, 0, none⟩ (.int .i64 0)).setCell ⟨P, 1, none⟩ (.int .i64 0)).cell? ⟨w.heap.size, 0, none⟩ = some (.slice (some ⟨gb, off, none⟩) l c) := X52.out.cell 0
          have q58 : ((v35.setCell ⟨P, 0, none⟩ (.int .i64 0)).setCell ⟨P, 1, none⟩ (.int .i64 0)).cell? ⟨w.heap.size + 1, 0, none⟩ = some (.int .i64 0) := X53.out.cell 0
          have q59 : ((v35.setCell ⟨P, 0, none⟩ (.int .i64 0)).setCell ⟨P, 1, none⟩ (.int .i64 0)).cell? ⟨w.heap.size + 1, 1, none⟩ = some (.int .i64 0) := X53.out.cell 1
          have fz60 : ∀ o, ((v35.setCell ⟨P, 0, none⟩ (.int .i64 0)).setCell ⟨P, 1, none⟩ (.int .i64 0)).frozen? ⟨w.heap.size + 1, o, none⟩ = false := fun o => X53.out.free o
          have q61 : ((v35.setCell ⟨P, 0, none⟩ (.int .i64 0)).setCell ⟨P, 1, none⟩ (.int .i64 0)).cell? ⟨P, 0, none⟩ = some (.int .i64 0) := X54.out.cell 0
          have q62 : ((v35.setCell ⟨P, 0, none⟩ (.int .i64 0)).setCell ⟨P, 1, none⟩ (.int .i64 0)).cell? ⟨P, 1, none⟩ = some (.int .i64 0) := X54.out.cell 1
          have fz63 : ∀ o, ((v35.setCell ⟨P, 0, none⟩ (.int .i64 0)).setCell ⟨P, 1, none⟩ (.int .i64 0)).frozen? ⟨P, o, none⟩ = false := fun o => X54.out.free o
          have q64 : ((v35.setCell ⟨P, 0, none⟩ (.int .i64 0)).setCell ⟨P, 1, none⟩ (.int .i64 0)).cell? ⟨wr.heap.size, 0, none⟩ = some (.int .i64 (X : Int)) := X55.out.cell 0
          have q65 : ((v35.setCell ⟨P, 0, none⟩ (.int .i64 0)).setCell ⟨P, 1, none⟩ (.int .i64 0)).cell? ⟨wr.heap.size, 1, none⟩ = some (.int .i64 (Y : Int)) := X55.out.cell 1
          have q66 : ((v35.setCell ⟨P, 0, none⟩ (.int .i64 0)).setCell ⟨P, 1, none⟩ (.int .i64 0)).cell? ⟨wr.heap.size, 2, none⟩ = some (.int .i64 (Z : Int)) := X55.out.cell 2
          go_wp2_with fail
          exact endRr Try.results43 rfl rfl HR.out X53.out (by omega) B56.out
        · rw [hr]
          have e1 : ((0 : Int) != 0) = false := by decide
          have HNX := Lib.hid (show plF (ms.drop (k + 1)) a2 b2 = plF ms 0 1 by rw [← HPL.out, HDR.out, if_pos he, hr]; rfl)
          have HV2 := Lib.hid hrv2
          clear he hr hrv2
          have X67 := Lib.hid ((X37.out.far (p := ⟨P, 0, none⟩) ((by have := HPS.out; have := LT19.out; show _ ≠ P; omega)) (.int .i64 (a2 : Int))).far (p := ⟨P, 1, none⟩) ((by have := HPS.out; have := LT19.out; show _ ≠ P; omega)) (.int .i64 (b2 : Int)))
          have X68 := Lib.hid ((X38.out.far (p := ⟨P, 0, none⟩) ((by have := HPS.out; have := LT19.out; show _ ≠ P; omega)) (.int .i64 (a2 : Int))).far (p := ⟨P, 1, none⟩) ((by have := HPS.out; have := LT19.out; show _ ≠ P; omega)) (.int .i64 (b2 : Int)))
          have X69 := Lib.hid ((X39.out.put 0 (.int .i64 (a2 : Int))).put 1 (.int .i64 (b2 : Int)))
          have X70 := Lib.hid ((X40.out.far (p := ⟨P, 0, none⟩) ((by have := HPS.out; have := LT19.out; show _ ≠ P; omega)) (.int .i64 (a2 : Int))).far (p := ⟨P, 1, none⟩) ((by have := HPS.out; have := LT19.out; show _ ≠ P; omega)) (.int .i64 (b2 : Int)))
          have B71 := Lib.hid ((B41.out.setCell (p := ⟨P, 0, none⟩) ((by have := HPS.out; show w.heap.size ≤ P; omega)) (.int .i64 (a2 : Int))).setCell (p := ⟨P, 1, none⟩) ((by have := HPS.out; show w.heap.size ≤ P; omega)) (.int .i64 (b2 : Int)))
          have q72 : ((v35.setCell ⟨P, 0, none⟩ (.int .i64 (a2 : Int))).setCell ⟨P, 1, none⟩ (.int .i64 (b2 : Int))).cell? ⟨w.heap.size, 0, none⟩ = some (.slice (some ⟨gb, off, none⟩) l c) := X67.out.cell 0
          have q73 : ((v35.setCell ⟨P, 0, none⟩ (.int .i64 (a2 : Int))).setCell ⟨P, 1, none⟩ (.int .i64 (b2 : Int))).cell? ⟨w.heap.size + 1, 0, none⟩ = some (.int .i64 0) := X68.out.cell 0
          have q74 : ((v35.setCell ⟨P, 0, none⟩ (.int .i64 (a2 : Int))).setCell ⟨P, 1, none⟩ (.int .i64 (b2 : Int))).cell? ⟨w.heap.size + 1, 1, none⟩ = some (.int .i64 0) := X68.out.cell 1
          have fz75 : ∀ o, ((v35.setCell ⟨P, 0, none⟩ (.int .i64 (a2 : Int))).setCell ⟨P, 1, none⟩ (.int .i64 (b2 : Int))).frozen? ⟨w.heap.size + 1, o, none⟩ = false := fun o => X68.out.free o
          have q76 : ((v35.setCell ⟨P, 0, none⟩ (.int .i64 (a2 : Int))).setCell ⟨P, 1, none⟩ (.int .i64 (b2 : Int))).cell? ⟨P, 0, none⟩ = some (.int .i64 (a2 : Int)) := X69.out.cell 0
          have q77 : ((v35.setCell ⟨P, 0, none⟩ (.int .i64 (a2 : Int))).setCell ⟨P, 1, none⟩ (.int .i64 (b2 : Int))).cell? ⟨P, 1, none⟩ = some (.int .i64 (b2 : Int)) := X69.out.cell 1
          have fz78 : ∀ o, ((v35.setCell ⟨P, 0, none⟩ (.int .i64 (a2 : Int))).setCell ⟨P, 1, none⟩ (.int .i64 (b2 : Int))).frozen? ⟨P, o, none⟩ = false := fun o => X69.out.free o
          have q79 : ((v35.setCell ⟨P, 0, none⟩ (.int .i64 (a2 : Int))).setCell ⟨P, 1, none⟩ (.int .i64 (b2 : Int))).cell? ⟨wr.heap.size, 0, none⟩ = some (.int .i64 (X : Int)) := X70.out.cell 0
          have q80 : ((v35.setCell ⟨P, 0, none⟩ (.int .i64 (a2 : Int))).setCell ⟨P, 1, none⟩ (.int .i64 (b2 : Int))).cell? ⟨wr.heap.size, 1, none⟩ = some (.int .i64 (Y : Int)) := X70.out.cell 1
          have q81 : ((v35.setCell ⟨P, 0, none⟩ (.int .i64 (a2 : Int))).setCell ⟨P, 1, none⟩ (.int .i64 (b2 : Int))).cell? ⟨wr.heap.size, 2, none⟩ = some (.int .i64 (Z : Int)) := X70.out.cell 2
          go_wp2_with fail
          go_roundw
          case rel => exact ⟨k + 1, a2, b2, by have := HLT.out; omega, by go_num, HNX.out, HV2.out, X67.out, X68.out, X69.out, B71.out⟩
          case measure => have := HLT.out; simp [intOf]; omega
      · obtain rfl : k = l := by omega
        have d1 : decide ((k : Int) < (k : Int)) = false := by simp
        have d2 : decide (k < k) = false := by simp
        have HR := Lib.hid (show playR ms = ⟨(n : Int), (d : Int), 0⟩ by rw [HPR.out, ← HPL.out, ← HN.out, List.drop_length]; rfl)
        go_wp2_with fail
        exact endRr Try.results43 rfl rfl HR.out Xr.out (by omega) Bl.out
    

end Go.Proofs.Ytmmfmanjajefcaa

/- Layer 7: the play of the runner, as the specification has it. -/
import Derived.Test.YtmmfmanjajefcaaLN
set_option linter.all false
namespace Go.Proofs.Ytmmfmanjajefcaa
open Go.RowKit

set_option maxRecDepth 100000 in
set_option maxHeartbeats 4000000 in
theorem rPlay_c (ms : List Mh) (v : Value) (w : World) (h : IsTr w w.heap.size v ms) (hl : ms.length ≤ 100) : Calls Try.prog 44 #[v] w fun e w' => e = .returned (rrV (playR ms)) ∧ Below w.heap.size w w' := by
  have HL := Lib.hid hl
  clear hl
  have HT := Lib.hid h
  obtain ⟨s, rfl, A, c, rfl, hcap, hcell⟩ := h
  have HC := Lib.hid hcell
  obtain ⟨l, hn⟩ : ∃ n, ms.length = n := ⟨_, rfl⟩
  have HN := Lib.hid hn
  rw [hn] at HT ⊢
  clear hn hcell hcap
  go_enter Try.func44, Try.ntmps44
  go_wp2_with fail
  obtain ⟨W428, hW429⟩ : ∃ Wzz, ((w.alloc (.cells #[.slice A l c] 35)).alloc (.cells #[.int .i64 0, .int .i64 0] 23)) = Wzz := ⟨_, rfl⟩
  have B430 := Lib.hid (show Below w.heap.size w W428 by rw [← hW429]; exact (((Below.refl w.heap.size w).alloc (Nat.le_refl _) _).alloc (by first | (simp; done) | (simp; omega)) _))
  have X431 := Lib.hid (show Box W428 (w.heap.size) 35 #[.slice A l c] by rw [← hW429]; exact Box.alloc (Box.made w 35 #[.slice A l c]) (.cells #[.int .i64 0, .int .i64 0] 23))
  have X432 := Lib.hid (show Box W428 (w.heap.size + 1) 23 #[.int .i64 0, .int .i64 0] by
    have hz := Box.made (w.alloc (.cells #[.slice A l c] 35)) 23 #[.int .i64 0, .int .i64 0]
    rw [World.size_alloc] at hz
    rw [← hW429]; exact hz)
  have C433 := Lib.hid (HT.out.later B430.out)
  have SZ434 := Lib.hid (show W428.heap.size = w.heap.size + 1 + 1 by rw [← hW429]; simp)
  rw [hW429]
  clear hW429
  have q435 : W428.cell? ⟨w.heap.size, 0, none⟩ = some (.slice A l c) := X431.out.cell 0
  have q436 : W428.cell? ⟨w.heap.size + 1, 0, none⟩ = some (.int .i64 0) := X432.out.cell 0
  have q437 : W428.cell? ⟨w.heap.size + 1, 1, none⟩ = some (.int .i64 0) := X432.out.cell 1
  have fz438 : ∀ o, W428.frozen? ⟨w.heap.size + 1, o, none⟩ = false := fun o => X432.out.free o
  go_wp2_with fail
  refine (rValidTrain_c ms _ _ C433.out HL.out).mono ?_; rintro e v439 ⟨rfl, hb440⟩
  have X441 := Lib.hid (X431.out.later hb440)
  have X442 := Lib.hid (X432.out.later hb440)
  have C443 := Lib.hid (C433.out.later hb440)
  have B444 := Lib.hid (B430.out.trans (hb440.mono B430.out.size))
  clear hb440
  clear q435 q436 q437 fz438
  have q445 : v439.cell? ⟨w.heap.size, 0, none⟩ = some (.slice A l c) := X441.out.cell 0
  have q446 : v439.cell? ⟨w.heap.size + 1, 0, none⟩ = some (.int .i64 0) := X442.out.cell 0
  have q447 : v439.cell? ⟨w.heap.size + 1, 1, none⟩ = some (.int .i64 0) := X442.out.cell 1
  have fz448 : ∀ o, v439.frozen? ⟨w.heap.size + 1, o, none⟩ = false := fun o => X442.out.free o
  cases hv : trB ms
  · have HR := Lib.hid (show playR ms = ⟨0, 0, 70⟩ by unfold playR; rw [hv]; rfl)
    clear hv
    go_wp2_with fail
    exact endRr Try.results44 rfl rfl HR.out X442.out (by omega) B444.out
  · have HFC := Lib.hid (tr_facts hv)
    have HPR := Lib.hid (show playR ms = plF ms 0 1 by unfold playR; rw [hv]; rfl)
    have HL16 := Lib.hid (show l ≤ 16 by rw [← HN.out]; exact HFC.out.2.1)
    clear hv
    have X449 := Lib.hid (X441.out.alloc (.cells #[.int .i64 0, .int .i64 1] 23))
    have X450 := Lib.hid (X442.out.alloc (.cells #[.int .i64 0, .int .i64 1] 23))
    have C451 := Lib.hid (C443.out.later ((Below.refl v439.heap.size v439).alloc (Nat.le_refl _) (.cells #[.int .i64 0, .int .i64 1] 23)))
    have B452 := Lib.hid (B444.out.alloc B444.out.size (.cells #[.int .i64 0, .int .i64 1] 23))
    have X453 := Lib.hid (Box.made v439 23 #[.int .i64 0, .int .i64 1])
    have q454 : (v439.alloc (.cells #[.int .i64 0, .int .i64 1] 23)).cell? ⟨w.heap.size, 0, none⟩ = some (.slice A l c) := X449.out.cell 0
    have q455 : (v439.alloc (.cells #[.int .i64 0, .int .i64 1] 23)).cell? ⟨w.heap.size + 1, 0, none⟩ = some (.int .i64 0) := X450.out.cell 0
    have q456 : (v439.alloc (.cells #[.int .i64 0, .int .i64 1] 23)).cell? ⟨w.heap.size + 1, 1, none⟩ = some (.int .i64 0) := X450.out.cell 1
    have fz457 : ∀ o, (v439.alloc (.cells #[.int .i64 0, .int .i64 1] 23)).frozen? ⟨w.heap.size + 1, o, none⟩ = false := fun o => X450.out.free o
    have q458 : (v439.alloc (.cells #[.int .i64 0, .int .i64 1] 23)).cell? ⟨v439.heap.size, 0, none⟩ = some (.int .i64 0) := X453.out.cell 0
    have q459 : (v439.alloc (.cells #[.int .i64 0, .int .i64 1] 23)).cell? ⟨v439.heap.size, 1, none⟩ = some (.int .i64 1) := X453.out.cell 1
    go_wp2_with fail
    obtain ⟨P, hP⟩ : ∃ P, v439.heap.size = P := ⟨_, rfl⟩
    have HPS := Lib.hid (show w.heap.size + 1 < P by rw [← hP]; exact X442.out.lt)
    have XP0 := X453.out
    rw [hP] at XP0 ⊢
    have XP := Lib.hid XP0
    clear XP0 hP
    go_loopw [5] (fun kv wr => ∃ (k n d : Nat), k ≤ l ∧ kv = .int .i64 (k : Int) ∧ plF (ms.drop k) n d = plF ms 0 1 ∧ RtV n d ∧ Box wr w.heap.size 35 #[.slice A l c] ∧ Box wr (w.heap.size + 1) 23 #[.int .i64 0, .int .i64 0] ∧ Box wr P 23 #[.int .i64 (n : Int), .int .i64 (d : Int)] ∧ Below w.heap.size w wr) (fun kv _ => l - (intOf kv).toNat)
    case atStart => exact ⟨0, 0, 1, Nat.zero_le _, rfl, rfl, ⟨by omega, by omega, by omega, by decide⟩, X449.out, X450.out, XP.out, B452.out⟩
    case round =>
      obtain ⟨k, n, d, hk, rfl, hpl, hrv, hbt, hbr, hbp, hbel⟩ := hrel
      have HPL := Lib.hid hpl
      have HRV := Lib.hid hrv
      have Xt := Lib.hid hbt
      have Xr := Lib.hid hbr
      have Xp := Lib.hid hbp
      have Bl := Lib.hid hbel
      clear hpl hrv hbt hbr hbp hbel
      have q135 : wr.cell? ⟨w.heap.size, 0, none⟩ = some (.slice A l c) := Xt.out.cell 0
      have q136 : wr.cell? ⟨w.heap.size + 1, 0, none⟩ = some (.int .i64 0) := Xr.out.cell 0
      have q137 : wr.cell? ⟨w.heap.size + 1, 1, none⟩ = some (.int .i64 0) := Xr.out.cell 1
      have fz138 : ∀ o, wr.frozen? ⟨w.heap.size + 1, o, none⟩ = false := fun o => Xr.out.free o
      have q139 : wr.cell? ⟨P, 0, none⟩ = some (.int .i64 (n : Int)) := Xp.out.cell 0
      have q140 : wr.cell? ⟨P, 1, none⟩ = some (.int .i64 (d : Int)) := Xp.out.cell 1
      have fz141 : ∀ o, wr.frozen? ⟨P, o, none⟩ = false := fun o => Xp.out.free o
      by_cases hlt : k < l
      · have hkf : k < ms.length := by rw [HN.out]; exact hlt
        obtain ⟨gb, off, rfl, hbB, hcc⟩ := HC.out (by omega)
        obtain ⟨y0, y1, y2⟩ := hcc k hkf
        have HM := Lib.hid (List.all_eq_true.1 HFC.out.2.2.1 _ (List.getElem_mem hkf))
        have HDR := Lib.hid (plF_drop hkf n d)
        obtain ⟨m, hm⟩ : ∃ m, ms[k] = m := ⟨_, rfl⟩
        rw [hm] at y0 y1 y2 HM HDR
        obtain ⟨x, y, z⟩ := m
        have HTW := Lib.hid (plS_two HRV.out HM.out)
        obtain ⟨X, Y, Z, rfl, rfl, rfl, x0, x1, yy0, yy1, z1⟩ := mesh_nat3 HM.out
        have HXY := Lib.hid (show (0 < X ∧ X ≤ 4096) ∧ (0 < Y ∧ Y ≤ 4096) ∧ Z ≤ 1000 from ⟨⟨x0, x1⟩, ⟨yy0, yy1⟩, z1⟩)
        have q0 := keepd y0 Bl.out hbB
        have q1 := keepd y1 Bl.out hbB
        have q2 := keepd y2 Bl.out hbB
        have d1 : decide ((k : Int) < (l : Int)) = true := by simpa using hlt
        have d2 : decide (k < l) = true := by simpa using hlt
        have k0 : (0 : Int) ≤ (k : Int) := by omega
        have k1 : (k : Int) < (l : Int) := by omega
        have HK := Lib.hid hkf
        have HLT := Lib.hid hlt
        have k2 : k ≤ 16 := by have := HL16.out; omega
        clear hcc y0 y1 y2 hm x0 x1 yy0 yy1 z1
        dsimp only at q0 q1 q2
        have LT142 := Lib.hid Xp.out.lt
        have X143 := Lib.hid (Xt.out.alloc (.cells #[.int .i64 (X : Int), .int .i64 (Y : Int), .int .i64 (Z : Int)] 37))
        have X144 := Lib.hid (Xr.out.alloc (.cells #[.int .i64 (X : Int), .int .i64 (Y : Int), .int .i64 (Z : Int)] 37))
        have X145 := Lib.hid (Xp.out.alloc (.cells #[.int .i64 (X : Int), .int .i64 (Y : Int), .int .i64 (Z : Int)] 37))
        have B146 := Lib.hid (Bl.out.alloc Bl.out.size (.cells #[.int .i64 (X : Int), .int .i64 (Y : Int), .int .i64 (Z : Int)] 37))
        have X147 := Lib.hid (Box.made wr 37 #[.int .i64 (X : Int), .int .i64 (Y : Int), .int .i64 (Z : Int)])
        have q148 : (wr.alloc (.cells #[.int .i64 (X : Int), .int .i64 (Y : Int), .int .i64 (Z : Int)] 37)).cell? ⟨w.heap.size, 0, none⟩ = some (.slice (some ⟨gb, off, none⟩) l c) := X143.out.cell 0
        have q149 : (wr.alloc (.cells #[.int .i64 (X : Int), .int .i64 (Y : Int), .int .i64 (Z : Int)] 37)).cell? ⟨w.heap.size + 1, 0, none⟩ = some (.int .i64 0) := X144.out.cell 0
        have q150 : (wr.alloc (.cells #[.int .i64 (X : Int), .int .i64 (Y : Int), .int .i64 (Z : Int)] 37)).cell? ⟨w.heap.size + 1, 1, none⟩ = some (.int .i64 0) := X144.out.cell 1
        have fz151 : ∀ o, (wr.alloc (.cells #[.int .i64 (X : Int), .int .i64 (Y : Int), .int .i64 (Z : Int)] 37)).frozen? ⟨w.heap.size + 1, o, none⟩ = false := fun o => X144.out.free o
        have q152 : (wr.alloc (.cells #[.int .i64 (X : Int), .int .i64 (Y : Int), .int .i64 (Z : Int)] 37)).cell? ⟨P, 0, none⟩ = some (.int .i64 (n : Int)) := X145.out.cell 0
        have q153 : (wr.alloc (.cells #[.int .i64 (X : Int), .int .i64 (Y : Int), .int .i64 (Z : Int)] 37)).cell? ⟨P, 1, none⟩ = some (.int .i64 (d : Int)) := X145.out.cell 1
        have fz154 : ∀ o, (wr.alloc (.cells #[.int .i64 (X : Int), .int .i64 (Y : Int), .int .i64 (Z : Int)] 37)).frozen? ⟨P, o, none⟩ = false := fun o => X145.out.free o
        have q155 : (wr.alloc (.cells #[.int .i64 (X : Int), .int .i64 (Y : Int), .int .i64 (Z : Int)] 37)).cell? ⟨wr.heap.size, 0, none⟩ = some (.int .i64 (X : Int)) := X147.out.cell 0
        have q156 : (wr.alloc (.cells #[.int .i64 (X : Int), .int .i64 (Y : Int), .int .i64 (Z : Int)] 37)).cell? ⟨wr.heap.size, 1, none⟩ = some (.int .i64 (Y : Int)) := X147.out.cell 1
        have q157 : (wr.alloc (.cells #[.int .i64 (X : Int), .int .i64 (Y : Int), .int .i64 (Z : Int)] 37)).cell? ⟨wr.heap.size, 2, none⟩ = some (.int .i64 (Z : Int)) := X147.out.cell 2
        obtain ⟨a1, b1, hr1, a1b, b10, b1b, hg1, his1⟩ := reR_small (N := X) (D := Y) HXY.out.2.1.1 (by have := HXY.out; omega) (by have := HXY.out; omega)
        have HR1 := Lib.hid hr1
        have HV1 := Lib.hid (show RtV a1 b1 from ⟨a1b, b10, b1b, hg1⟩)
        have HTM := Lib.hid (show tmR (n : Int) (d : Int) (a1 : Int) (b1 : Int) = rOf (n * X) (d * Y) by
          rw [tm_val HRV.out.b HV1.out.b]
          exact rOf_is ((Is.self HRV.out.2.1).mul his1))
        obtain ⟨a', b', h1, h2, h3, h4⟩ := plS_parts HRV.out HXY.out.1 HXY.out.2.1 HXY.out.2.2
        have HE := Lib.hid h1
        have HV' := Lib.hid h2
        have HPP := Lib.hid h4
        obtain ⟨yy, hy⟩ : ∃ y, 1000 * Y = y := ⟨_, rfl⟩
        rw [hy] at HE
        have hyb : yy ≤ 4096000 := by have := HXY.out; omega
        have my : IntKind.i64.wrap ((1000 : Int) * (Y : Int)) = (yy : Int) := by rw [show (1000 : Int) * (Y : Int) = ((1000 * Y : Nat) : Int) by simp, hy]; exact wrap_id (by omega) (by omega)
        have HYB := Lib.hid hyb
        clear hr1 a1b b10 b1b hg1 his1 h1 h2 h3 h4 hy hyb
        go_wp2_with fail
        refine (rReduce_c (X : Int) (Y : Int) _ (by have := HXY.out; omega) (by have := HXY.out; omega)).mono ?_; rintro e v158 ⟨rfl, hb159⟩
        have X160 := Lib.hid (X143.out.later hb159)
        have X161 := Lib.hid (X144.out.later hb159)
        have X162 := Lib.hid (X145.out.later hb159)
        have X163 := Lib.hid (X147.out.later hb159)
        have B164 := Lib.hid (B146.out.trans (hb159.mono B146.out.size))
        clear hb159
        rw [HR1.out]
        clear q148 q149 q150 fz151 q152 q153 fz154 q155 q156 q157 q135 q136 q137 fz138 q139 q140 fz141
        have q165 : v158.cell? ⟨w.heap.size, 0, none⟩ = some (.slice (some ⟨gb, off, none⟩) l c) := X160.out.cell 0
        have q166 : v158.cell? ⟨w.heap.size + 1, 0, none⟩ = some (.int .i64 0) := X161.out.cell 0
        have q167 : v158.cell? ⟨w.heap.size + 1, 1, none⟩ = some (.int .i64 0) := X161.out.cell 1
        have fz168 : ∀ o, v158.frozen? ⟨w.heap.size + 1, o, none⟩ = false := fun o => X161.out.free o
        have q169 : v158.cell? ⟨P, 0, none⟩ = some (.int .i64 (n : Int)) := X162.out.cell 0
        have q170 : v158.cell? ⟨P, 1, none⟩ = some (.int .i64 (d : Int)) := X162.out.cell 1
        have fz171 : ∀ o, v158.frozen? ⟨P, o, none⟩ = false := fun o => X162.out.free o
        have q172 : v158.cell? ⟨wr.heap.size, 0, none⟩ = some (.int .i64 (X : Int)) := X163.out.cell 0
        have q173 : v158.cell? ⟨wr.heap.size, 1, none⟩ = some (.int .i64 (Y : Int)) := X163.out.cell 1
        have q174 : v158.cell? ⟨wr.heap.size, 2, none⟩ = some (.int .i64 (Z : Int)) := X163.out.cell 2
        have LT175 := Lib.hid X162.out.lt
        have X176 := Lib.hid (X160.out.alloc (.cells #[.int .i64 (a1 : Int), .int .i64 (b1 : Int)] 23))
        have X177 := Lib.hid (X161.out.alloc (.cells #[.int .i64 (a1 : Int), .int .i64 (b1 : Int)] 23))
        have X178 := Lib.hid (X162.out.alloc (.cells #[.int .i64 (a1 : Int), .int .i64 (b1 : Int)] 23))
        have X179 := Lib.hid (X163.out.alloc (.cells #[.int .i64 (a1 : Int), .int .i64 (b1 : Int)] 23))
        have B180 := Lib.hid (B164.out.alloc B164.out.size (.cells #[.int .i64 (a1 : Int), .int .i64 (b1 : Int)] 23))
        have X181 := Lib.hid (Box.made v158 23 #[.int .i64 (a1 : Int), .int .i64 (b1 : Int)])
        have q182 : (v158.alloc (.cells #[.int .i64 (a1 : Int), .int .i64 (b1 : Int)] 23)).cell? ⟨w.heap.size, 0, none⟩ = some (.slice (some ⟨gb, off, none⟩) l c) := X176.out.cell 0
        have q183 : (v158.alloc (.cells #[.int .i64 (a1 : Int), .int .i64 (b1 : Int)] 23)).cell? ⟨w.heap.size + 1, 0, none⟩ = some (.int .i64 0) := X177.out.cell 0
        have q184 : (v158.alloc (.cells #[.int .i64 (a1 : Int), .int .i64 (b1 : Int)] 23)).cell? ⟨w.heap.size + 1, 1, none⟩ = some (.int .i64 0) := X177.out.cell 1
        have fz185 : ∀ o, (v158.alloc (.cells #[.int .i64 (a1 : Int), .int .i64 (b1 : Int)] 23)).frozen? ⟨w.heap.size + 1, o, none⟩ = false := fun o => X177.out.free o
        have q186 : (v158.alloc (.cells #[.int .i64 (a1 : Int), .int .i64 (b1 : Int)] 23)).cell? ⟨P, 0, none⟩ = some (.int .i64 (n : Int)) := X178.out.cell 0
        have q187 : (v158.alloc (.cells #[.int .i64 (a1 : Int), .int .i64 (b1 : Int)] 23)).cell? ⟨P, 1, none⟩ = some (.int .i64 (d : Int)) := X178.out.cell 1
        have fz188 : ∀ o, (v158.alloc (.cells #[.int .i64 (a1 : Int), .int .i64 (b1 : Int)] 23)).frozen? ⟨P, o, none⟩ = false := fun o => X178.out.free o
        have q189 : (v158.alloc (.cells #[.int .i64 (a1 : Int), .int .i64 (b1 : Int)] 23)).cell? ⟨wr.heap.size, 0, none⟩ = some (.int .i64 (X : Int)) := X179.out.cell 0
        have q190 : (v158.alloc (.cells #[.int .i64 (a1 : Int), .int .i64 (b1 : Int)] 23)).cell? ⟨wr.heap.size, 1, none⟩ = some (.int .i64 (Y : Int)) := X179.out.cell 1
        have q191 : (v158.alloc (.cells #[.int .i64 (a1 : Int), .int .i64 (b1 : Int)] 23)).cell? ⟨wr.heap.size, 2, none⟩ = some (.int .i64 (Z : Int)) := X179.out.cell 2
        have q192 : (v158.alloc (.cells #[.int .i64 (a1 : Int), .int .i64 (b1 : Int)] 23)).cell? ⟨v158.heap.size, 0, none⟩ = some (.int .i64 (a1 : Int)) := X181.out.cell 0
        have q193 : (v158.alloc (.cells #[.int .i64 (a1 : Int), .int .i64 (b1 : Int)] 23)).cell? ⟨v158.heap.size, 1, none⟩ = some (.int .i64 (b1 : Int)) := X181.out.cell 1
        go_wp2_with fail
        refine (rReduce_c (Z : Int) (yy : Int) _ (by have := HXY.out; omega) (by have := HYB.out; omega)).mono ?_; rintro e v194 ⟨rfl, hb195⟩
        have X196 := Lib.hid (X176.out.later hb195)
        have X197 := Lib.hid (X177.out.later hb195)
        have X198 := Lib.hid (X178.out.later hb195)
        have X199 := Lib.hid (X179.out.later hb195)
        have X200 := Lib.hid (X181.out.later hb195)
        have B201 := Lib.hid (B180.out.trans (hb195.mono B180.out.size))
        clear hb195
        rw [HE.out]
        clear q182 q183 q184 fz185 q186 q187 fz188 q189 q190 q191 q192 q193 q165 q166 q167 fz168 q169 q170 fz171 q172 q173 q174
        have q202 : v194.cell? ⟨w.heap.size, 0, none⟩ = some (.slice (some ⟨gb, off, none⟩) l c) := X196.out.cell 0
        have q203 : v194.cell? ⟨w.heap.size + 1, 0, none⟩ = some (.int .i64 0) := X197.out.cell 0
        have q204 : v194.cell? ⟨w.heap.size + 1, 1, none⟩ = some (.int .i64 0) := X197.out.cell 1
        have fz205 : ∀ o, v194.frozen? ⟨w.heap.size + 1, o, none⟩ = false := fun o => X197.out.free o
        have q206 : v194.cell? ⟨P, 0, none⟩ = some (.int .i64 (n : Int)) := X198.out.cell 0
        have q207 : v194.cell? ⟨P, 1, none⟩ = some (.int .i64 (d : Int)) := X198.out.cell 1
        have fz208 : ∀ o, v194.frozen? ⟨P, o, none⟩ = false := fun o => X198.out.free o
        have q209 : v194.cell? ⟨wr.heap.size, 0, none⟩ = some (.int .i64 (X : Int)) := X199.out.cell 0
        have q210 : v194.cell? ⟨wr.heap.size, 1, none⟩ = some (.int .i64 (Y : Int)) := X199.out.cell 1
        have q211 : v194.cell? ⟨wr.heap.size, 2, none⟩ = some (.int .i64 (Z : Int)) := X199.out.cell 2
        have q212 : v194.cell? ⟨v158.heap.size, 0, none⟩ = some (.int .i64 (a1 : Int)) := X200.out.cell 0
        have q213 : v194.cell? ⟨v158.heap.size, 1, none⟩ = some (.int .i64 (b1 : Int)) := X200.out.cell 1
        have LT214 := Lib.hid X198.out.lt
        have X215 := Lib.hid (X196.out.alloc (.cells #[(.int .i64 (a' : Int)), (.int .i64 (b' : Int))] 23))
        have X216 := Lib.hid (X197.out.alloc (.cells #[(.int .i64 (a' : Int)), (.int .i64 (b' : Int))] 23))
        have X217 := Lib.hid (X198.out.alloc (.cells #[(.int .i64 (a' : Int)), (.int .i64 (b' : Int))] 23))
        have X218 := Lib.hid (X199.out.alloc (.cells #[(.int .i64 (a' : Int)), (.int .i64 (b' : Int))] 23))
        have X219 := Lib.hid (X200.out.alloc (.cells #[(.int .i64 (a' : Int)), (.int .i64 (b' : Int))] 23))
        have B220 := Lib.hid (B201.out.alloc B201.out.size (.cells #[(.int .i64 (a' : Int)), (.int .i64 (b' : Int))] 23))
        have X221 := Lib.hid (Box.made v194 23 #[(.int .i64 (a' : Int)), (.int .i64 (b' : Int))])
        have q222 : (v194.alloc (.cells #[(.int .i64 (a' : Int)), (.int .i64 (b' : Int))] 23)).cell? ⟨w.heap.size, 0, none⟩ = some (.slice (some ⟨gb, off, none⟩) l c) := X215.out.cell 0
        have q223 : (v194.alloc (.cells #[(.int .i64 (a' : Int)), (.int .i64 (b' : Int))] 23)).cell? ⟨w.heap.size + 1, 0, none⟩ = some (.int .i64 0) := X216.out.cell 0
        have q224 : (v194.alloc (.cells #[(.int .i64 (a' : Int)), (.int .i64 (b' : Int))] 23)).cell? ⟨w.heap.size + 1, 1, none⟩ = some (.int .i64 0) := X216.out.cell 1
        have fz225 : ∀ o, (v194.alloc (.cells #[(.int .i64 (a' : Int)), (.int .i64 (b' : Int))] 23)).frozen? ⟨w.heap.size + 1, o, none⟩ = false := fun o => X216.out.free o
        have q226 : (v194.alloc (.cells #[(.int .i64 (a' : Int)), (.int .i64 (b' : Int))] 23)).cell? ⟨P, 0, none⟩ = some (.int .i64 (n : Int)) := X217.out.cell 0
        have q227 : (v194.alloc (.cells #[(.int .i64 (a' : Int)), (.int .i64 (b' : Int))] 23)).cell? ⟨P, 1, none⟩ = some (.int .i64 (d : Int)) := X217.out.cell 1
        have fz228 : ∀ o, (v194.alloc (.cells #[(.int .i64 (a' : Int)), (.int .i64 (b' : Int))] 23)).frozen? ⟨P, o, none⟩ = false := fun o => X217.out.free o
        have q229 : (v194.alloc (.cells #[(.int .i64 (a' : Int)), (.int .i64 (b' : Int))] 23)).cell? ⟨wr.heap.size, 0, none⟩ = some (.int .i64 (X : Int)) := X218.out.cell 0
        have q230 : (v194.alloc (.cells #[(.int .i64 (a' : Int)), (.int .i64 (b' : Int))] 23)).cell? ⟨wr.heap.size, 1, none⟩ = some (.int .i64 (Y : Int)) := X218.out.cell 1
        have q231 : (v194.alloc (.cells #[(.int .i64 (a' : Int)), (.int .i64 (b' : Int))] 23)).cell? ⟨wr.heap.size, 2, none⟩ = some (.int .i64 (Z : Int)) := X218.out.cell 2
        have q232 : (v194.alloc (.cells #[(.int .i64 (a' : Int)), (.int .i64 (b' : Int))] 23)).cell? ⟨v158.heap.size, 0, none⟩ = some (.int .i64 (a1 : Int)) := X219.out.cell 0
        have q233 : (v194.alloc (.cells #[(.int .i64 (a' : Int)), (.int .i64 (b' : Int))] 23)).cell? ⟨v158.heap.size, 1, none⟩ = some (.int .i64 (b1 : Int)) := X219.out.cell 1
        have q234 : (v194.alloc (.cells #[(.int .i64 (a' : Int)), (.int .i64 (b' : Int))] 23)).cell? ⟨v194.heap.size, 0, none⟩ = some ((.int .i64 (a' : Int))) := X221.out.cell 0
        have q235 : (v194.alloc (.cells #[(.int .i64 (a' : Int)), (.int .i64 (b' : Int))] 23)).cell? ⟨v194.heap.size, 1, none⟩ = some ((.int .i64 (b' : Int))) := X221.out.cell 1
        go_wp2_with fail
        refine (rTimes_c (n : Int) (d : Int) (a1 : Int) (b1 : Int) _).mono ?_; rintro e v236 ⟨rfl, hb237⟩
        have X238 := Lib.hid (X215.out.later hb237)
        have X239 := Lib.hid (X216.out.later hb237)
        have X240 := Lib.hid (X217.out.later hb237)
        have X241 := Lib.hid (X218.out.later hb237)
        have X242 := Lib.hid (X219.out.later hb237)
        have X243 := Lib.hid (X221.out.later hb237)
        have B244 := Lib.hid (B220.out.trans (hb237.mono B220.out.size))
        clear hb237
        rw [HTM.out]
        clear q222 q223 q224 fz225 q226 q227 fz228 q229 q230 q231 q232 q233 q234 q235 q202 q203 q204 fz205 q206 q207 fz208 q209 q210 q211 q212 q213
        have q245 : v236.cell? ⟨w.heap.size, 0, none⟩ = some (.slice (some ⟨gb, off, none⟩) l c) := X238.out.cell 0
        have q246 : v236.cell? ⟨w.heap.size + 1, 0, none⟩ = some (.int .i64 0) := X239.out.cell 0
        have q247 : v236.cell? ⟨w.heap.size + 1, 1, none⟩ = some (.int .i64 0) := X239.out.cell 1
        have fz248 : ∀ o, v236.frozen? ⟨w.heap.size + 1, o, none⟩ = false := fun o => X239.out.free o
        have q249 : v236.cell? ⟨P, 0, none⟩ = some (.int .i64 (n : Int)) := X240.out.cell 0
        have q250 : v236.cell? ⟨P, 1, none⟩ = some (.int .i64 (d : Int)) := X240.out.cell 1
        have fz251 : ∀ o, v236.frozen? ⟨P, o, none⟩ = false := fun o => X240.out.free o
        have q252 : v236.cell? ⟨wr.heap.size, 0, none⟩ = some (.int .i64 (X : Int)) := X241.out.cell 0
        have q253 : v236.cell? ⟨wr.heap.size, 1, none⟩ = some (.int .i64 (Y : Int)) := X241.out.cell 1
        have q254 : v236.cell? ⟨wr.heap.size, 2, none⟩ = some (.int .i64 (Z : Int)) := X241.out.cell 2
        have q255 : v236.cell? ⟨v158.heap.size, 0, none⟩ = some (.int .i64 (a1 : Int)) := X242.out.cell 0
        have q256 : v236.cell? ⟨v158.heap.size, 1, none⟩ = some (.int .i64 (b1 : Int)) := X242.out.cell 1
        have q257 : v236.cell? ⟨v194.heap.size, 0, none⟩ = some ((.int .i64 (a' : Int))) := X243.out.cell 0
        have q258 : v236.cell? ⟨v194.heap.size, 1, none⟩ = some ((.int .i64 (b' : Int))) := X243.out.cell 1
        rcases HPP.out with ⟨k1, k2⟩ | ⟨a, b, k1, k2, k3, k4⟩
        · rw [k1]
          have e1 : ((2 : Int) != 0) = true := by decide
          have he : (plS n d ((X : Int), (Y : Int), (Z : Int))).e ≠ 0 := by rw [k2]; decide
          have HR := Lib.hid (show playR ms = ⟨0, 0, 2⟩ by rw [HPR.out, ← HPL.out, HDR.out, if_neg he])
          clear he k1 k2
          have LT259 := Lib.hid X240.out.lt
          have X260 := Lib.hid (X238.out.alloc (.cells #[.int .i64 0, .int .i64 0] 23))
          have X261 := Lib.hid (X239.out.alloc (.cells #[.int .i64 0, .int .i64 0] 23))
          have X262 := Lib.hid (X240.out.alloc (.cells #[.int .i64 0, .int .i64 0] 23))
          have X263 := Lib.hid (X241.out.alloc (.cells #[.int .i64 0, .int .i64 0] 23))
          have X264 := Lib.hid (X242.out.alloc (.cells #[.int .i64 0, .int .i64 0] 23))
          have X265 := Lib.hid (X243.out.alloc (.cells #[.int .i64 0, .int .i64 0] 23))
          have B266 := Lib.hid (B244.out.alloc B244.out.size (.cells #[.int .i64 0, .int .i64 0] 23))
          have X267 := Lib.hid (Box.made v236 23 #[.int .i64 0, .int .i64 0])
          have q268 : (v236.alloc (.cells #[.int .i64 0, .int .i64 0] 23)).cell? ⟨w.heap.size, 0, none⟩ = some (.slice (some ⟨gb, off, none⟩) l c) := X260.out.cell 0
          have q269 : (v236.alloc (.cells #[.int .i64 0, .int .i64 0] 23)).cell? ⟨w.heap.size + 1, 0, none⟩ = some (.int .i64 0) := X261.out.cell 0
          have q270 : (v236.alloc (.cells #[.int .i64 0, .int .i64 0] 23)).cell? ⟨w.heap.size + 1, 1, none⟩ = some (.int .i64 0) := X261.out.cell 1
          have fz271 : ∀ o, (v236.alloc (.cells #[.int .i64 0, .int .i64 0] 23)).frozen? ⟨w.heap.size + 1, o, none⟩ = false := fun o => X261.out.free o
          have q272 : (v236.alloc (.cells #[.int .i64 0, .int .i64 0] 23)).cell? ⟨P, 0, none⟩ = some (.int .i64 (n : Int)) := X262.out.cell 0
          have q273 : (v236.alloc (.cells #[.int .i64 0, .int .i64 0] 23)).cell? ⟨P, 1, none⟩ = some (.int .i64 (d : Int)) := X262.out.cell 1
          have fz274 : ∀ o, (v236.alloc (.cells #[.int .i64 0, .int .i64 0] 23)).frozen? ⟨P, o, none⟩ = false := fun o => X262.out.free o
          have q275 : (v236.alloc (.cells #[.int .i64 0, .int .i64 0] 23)).cell? ⟨wr.heap.size, 0, none⟩ = some (.int .i64 (X : Int)) := X263.out.cell 0
          have q276 : (v236.alloc (.cells #[.int .i64 0, .int .i64 0] 23)).cell? ⟨wr.heap.size, 1, none⟩ = some (.int .i64 (Y : Int)) := X263.out.cell 1
          have q277 : (v236.alloc (.cells #[.int .i64 0, .int .i64 0] 23)).cell? ⟨wr.heap.size, 2, none⟩ = some (.int .i64 (Z : Int)) := X263.out.cell 2
          have q278 : (v236.alloc (.cells #[.int .i64 0, .int .i64 0] 23)).cell? ⟨v158.heap.size, 0, none⟩ = some (.int .i64 (a1 : Int)) := X264.out.cell 0
          have q279 : (v236.alloc (.cells #[.int .i64 0, .int .i64 0] 23)).cell? ⟨v158.heap.size, 1, none⟩ = some (.int .i64 (b1 : Int)) := X264.out.cell 1
          have q280 : (v236.alloc (.cells #[.int .i64 0, .int .i64 0] 23)).cell? ⟨v194.heap.size, 0, none⟩ = some ((.int .i64 (a' : Int))) := X265.out.cell 0
          have q281 : (v236.alloc (.cells #[.int .i64 0, .int .i64 0] 23)).cell? ⟨v194.heap.size, 1, none⟩ = some ((.int .i64 (b' : Int))) := X265.out.cell 1
          have q282 : (v236.alloc (.cells #[.int .i64 0, .int .i64 0] 23)).cell? ⟨v236.heap.size, 0, none⟩ = some (.int .i64 0) := X267.out.cell 0
          have q283 : (v236.alloc (.cells #[.int .i64 0, .int .i64 0] 23)).cell? ⟨v236.heap.size, 1, none⟩ = some (.int .i64 0) := X267.out.cell 1
          go_wp2_with fail
          exact endRr Try.results44 rfl rfl HR.out X261.out (by omega) B266.out
        · rw [k1]
          have e1 : ((0 : Int) != 0) = false := by decide
          have HPS4 := Lib.hid k4
          clear k1 k2 k3 k4
          have LT284 := Lib.hid X240.out.lt
          have X285 := Lib.hid (X238.out.alloc (.cells #[.int .i64 (a : Int), .int .i64 (b : Int)] 23))
          have X286 := Lib.hid (X239.out.alloc (.cells #[.int .i64 (a : Int), .int .i64 (b : Int)] 23))
          have X287 := Lib.hid (X240.out.alloc (.cells #[.int .i64 (a : Int), .int .i64 (b : Int)] 23))
          have X288 := Lib.hid (X241.out.alloc (.cells #[.int .i64 (a : Int), .int .i64 (b : Int)] 23))
          have X289 := Lib.hid (X242.out.alloc (.cells #[.int .i64 (a : Int), .int .i64 (b : Int)] 23))
          have X290 := Lib.hid (X243.out.alloc (.cells #[.int .i64 (a : Int), .int .i64 (b : Int)] 23))
          have B291 := Lib.hid (B244.out.alloc B244.out.size (.cells #[.int .i64 (a : Int), .int .i64 (b : Int)] 23))
          have X292 := Lib.hid (Box.made v236 23 #[.int .i64 (a : Int), .int .i64 (b : Int)])
          have q293 : (v236.alloc (.cells #[.int .i64 (a : Int), .int .i64 (b : Int)] 23)).cell? ⟨w.heap.size, 0, none⟩ = some (.slice (some ⟨gb, off, none⟩) l c) := X285.out.cell 0
          have q294 : (v236.alloc (.cells #[.int .i64 (a : Int), .int .i64 (b : Int)] 23)).cell? ⟨w.heap.size + 1, 0, none⟩ = some (.int .i64 0) := X286.out.cell 0
          have q295 : (v236.alloc (.cells #[.int .i64 (a : Int), .int .i64 (b : Int)] 23)).cell? ⟨w.heap.size + 1, 1, none⟩ = some (.int .i64 0) := X286.out.cell 1
          have fz296 : ∀ o, (v236.alloc (.cells #[.int .i64 (a : Int), .int .i64 (b : Int)] 23)).frozen? ⟨w.heap.size + 1, o, none⟩ = false := fun o => X286.out.free o
          have q297 : (v236.alloc (.cells #[.int .i64 (a : Int), .int .i64 (b : Int)] 23)).cell? ⟨P, 0, none⟩ = some (.int .i64 (n : Int)) := X287.out.cell 0
          have q298 : (v236.alloc (.cells #[.int .i64 (a : Int), .int .i64 (b : Int)] 23)).cell? ⟨P, 1, none⟩ = some (.int .i64 (d : Int)) := X287.out.cell 1
          have fz299 : ∀ o, (v236.alloc (.cells #[.int .i64 (a : Int), .int .i64 (b : Int)] 23)).frozen? ⟨P, o, none⟩ = false := fun o => X287.out.free o
          have q300 : (v236.alloc (.cells #[.int .i64 (a : Int), .int .i64 (b : Int)] 23)).cell? ⟨wr.heap.size, 0, none⟩ = some (.int .i64 (X : Int)) := X288.out.cell 0
          have q301 : (v236.alloc (.cells #[.int .i64 (a : Int), .int .i64 (b : Int)] 23)).cell? ⟨wr.heap.size, 1, none⟩ = some (.int .i64 (Y : Int)) := X288.out.cell 1
          have q302 : (v236.alloc (.cells #[.int .i64 (a : Int), .int .i64 (b : Int)] 23)).cell? ⟨wr.heap.size, 2, none⟩ = some (.int .i64 (Z : Int)) := X288.out.cell 2
          have q303 : (v236.alloc (.cells #[.int .i64 (a : Int), .int .i64 (b : Int)] 23)).cell? ⟨v158.heap.size, 0, none⟩ = some (.int .i64 (a1 : Int)) := X289.out.cell 0
          have q304 : (v236.alloc (.cells #[.int .i64 (a : Int), .int .i64 (b : Int)] 23)).cell? ⟨v158.heap.size, 1, none⟩ = some (.int .i64 (b1 : Int)) := X289.out.cell 1
          have q305 : (v236.alloc (.cells #[.int .i64 (a : Int), .int .i64 (b : Int)] 23)).cell? ⟨v194.heap.size, 0, none⟩ = some ((.int .i64 (a' : Int))) := X290.out.cell 0
          have q306 : (v236.alloc (.cells #[.int .i64 (a : Int), .int .i64 (b : Int)] 23)).cell? ⟨v194.heap.size, 1, none⟩ = some ((.int .i64 (b' : Int))) := X290.out.cell 1
          have q307 : (v236.alloc (.cells #[.int .i64 (a : Int), .int .i64 (b : Int)] 23)).cell? ⟨v236.heap.size, 0, none⟩ = some (.int .i64 (a : Int)) := X292.out.cell 0
          have q308 : (v236.alloc (.cells #[.int .i64 (a : Int), .int .i64 (b : Int)] 23)).cell? ⟨v236.heap.size, 1, none⟩ = some (.int .i64 (b : Int)) := X292.out.cell 1
          go_wp2_with fail
          refine (rPlus_c (a : Int) (b : Int) (a' : Int) (b' : Int) _).mono ?_; rintro e v309 ⟨rfl, hb310⟩
          have X311 := Lib.hid (X285.out.later hb310)
          have X312 := Lib.hid (X286.out.later hb310)
          have X313 := Lib.hid (X287.out.later hb310)
          have X314 := Lib.hid (X288.out.later hb310)
          have X315 := Lib.hid (X289.out.later hb310)
          have X316 := Lib.hid (X290.out.later hb310)
          have X317 := Lib.hid (X292.out.later hb310)
          have B318 := Lib.hid (B291.out.trans (hb310.mono B291.out.size))
          clear hb310
          rw [← HPS4.out]
          clear q293 q294 q295 fz296 q297 q298 fz299 q300 q301 q302 q303 q304 q305 q306 q307 q308 q245 q246 q247 fz248 q249 q250 fz251 q252 q253 q254 q255 q256 q257 q258
          have q319 : v309.cell? ⟨w.heap.size, 0, none⟩ = some (.slice (some ⟨gb, off, none⟩) l c) := X311.out.cell 0
          have q320 : v309.cell? ⟨w.heap.size + 1, 0, none⟩ = some (.int .i64 0) := X312.out.cell 0
          have q321 : v309.cell? ⟨w.heap.size + 1, 1, none⟩ = some (.int .i64 0) := X312.out.cell 1
          have fz322 : ∀ o, v309.frozen? ⟨w.heap.size + 1, o, none⟩ = false := fun o => X312.out.free o
          have q323 : v309.cell? ⟨P, 0, none⟩ = some (.int .i64 (n : Int)) := X313.out.cell 0
          have q324 : v309.cell? ⟨P, 1, none⟩ = some (.int .i64 (d : Int)) := X313.out.cell 1
          have fz325 : ∀ o, v309.frozen? ⟨P, o, none⟩ = false := fun o => X313.out.free o
          have q326 : v309.cell? ⟨wr.heap.size, 0, none⟩ = some (.int .i64 (X : Int)) := X314.out.cell 0
          have q327 : v309.cell? ⟨wr.heap.size, 1, none⟩ = some (.int .i64 (Y : Int)) := X314.out.cell 1
          have q328 : v309.cell? ⟨wr.heap.size, 2, none⟩ = some (.int .i64 (Z : Int)) := X314.out.cell 2
          have q329 : v309.cell? ⟨v158.heap.size, 0, none⟩ = some (.int .i64 (a1 : Int)) := X315.out.cell 0
          have q330 : v309.cell? ⟨v158.heap.size, 1, none⟩ = some (.int .i64 (b1 : Int)) := X315.out.cell 1
          have q331 : v309.cell? ⟨v194.heap.size, 0, none⟩ = some ((.int .i64 (a' : Int))) := X316.out.cell 0
          have q332 : v309.cell? ⟨v194.heap.size, 1, none⟩ = some ((.int .i64 (b' : Int))) := X316.out.cell 1
          have q333 : v309.cell? ⟨v236.heap.size, 0, none⟩ = some (.int .i64 (a : Int)) := X317.out.cell 0
          have q334 : v309.cell? ⟨v236.heap.size, 1, none⟩ = some (.int .i64 (b : Int)) := X317.out.cell 1
          rcases HTW.out with ⟨he, hr⟩ | ⟨he, a2, b2, hr, hrv2⟩
          · rw [hr]
            have e2 : ((2 : Int) != 0) = true := by decide
            have HR := Lib.hid (show playR ms = ⟨0, 0, 2⟩ by rw [HPR.out, ← HPL.out, HDR.out, if_neg he])
            clear he hr
            have LT335 := Lib.hid X313.out.lt
            have X336 := Lib.hid (X311.out.alloc (.cells #[.int .i64 0, .int .i64 0] 23))
            have X337 := Lib.hid (X312.out.alloc (.cells #[.int .i64 0, .int .i64 0] 23))
            have X338 := Lib.hid (X313.out.alloc (.cells #[.int .i64 0, .int .i64 0] 23))
            have X339 := Lib.hid (X314.out.alloc (.cells #[.int .i64 0, .int .i64 0] 23))
            have X340 := Lib.hid (X315.out.alloc (.cells #[.int .i64 0, .int .i64 0] 23))
            have X341 := Lib.hid (X316.out.alloc (.cells #[.int .i64 0, .int .i64 0] 23))
            have X342 := Lib.hid (X317.out.alloc (.cells #[.int .i64 0, .int .i64 0] 23))
            have B343 := Lib.hid (B318.out.alloc B318.out.size (.cells #[.int .i64 0, .int .i64 0] 23))
            have X344 := Lib.hid (Box.made v309 23 #[.int .i64 0, .int .i64 0])
            have q345 : (v309.alloc (.cells #[.int .i64 0, .int .i64 0] 23)).cell? ⟨w.heap.size, 0, none⟩ = some (.slice (some ⟨gb, off, none⟩) l c) := X336.out.cell 0
            have q346 : (v309.alloc (.cells #[.int .i64 0, .int .i64 0] 23)).cell? ⟨w.heap.size + 1, 0, none⟩ = some (.int .i64 0) := X337.out.cell 0
            have q347 : (v309.alloc (.cells #[.int .i64 0, .int .i64 0] 23)).cell? ⟨w.heap.size + 1, 1, none⟩ = some (.int .i64 0) := X337.out.cell 1
            have fz348 : ∀ o, (v309.alloc (.cells #[.int .i64 0, .int .i64 0] 23)).frozen? ⟨w.heap.size + 1, o, none⟩ = false := fun o => X337.out.free o
            have q349 : (v309.alloc (.cells #[.int .i64 0, .int .i64 0] 23)).cell? ⟨P, 0, none⟩ = some (.int .i64 (n : Int)) := X338.out.cell 0
            have q350 : (v309.alloc (.cells #[.int .i64 0, .int .i64 0] 23)).cell? ⟨P, 1, none⟩ = some (.int .i64 (d : Int)) := X338.out.cell 1
            have fz351 : ∀ o, (v309.alloc (.cells #[.int .i64 0, .int .i64 0] 23)).frozen? ⟨P, o, none⟩ = false := fun o => X338.out.free o
            have q352 : (v309.alloc (.cells #[.int .i64 0, .int .i64 0] 23)).cell? ⟨wr.heap.size, 0, none⟩ = some (.int .i64 (X : Int)) := X339.out.cell 0
            have q353 : (v309.alloc (.cells #[.int .i64 0, .int .i64 0] 23)).cell? ⟨wr.heap.size, 1, none⟩ = some (.int .i64 (Y : Int)) := X339.out.cell 1
            have q354 : (v309.alloc (.cells #[.int .i64 0, .int .i64 0] 23)).cell? ⟨wr.heap.size, 2, none⟩ = some (.int .i64 (Z : Int)) := X339.out.cell 2
            have q355 : (v309.alloc (.cells #[.int .i64 0, .int .i64 0] 23)).cell? ⟨v158.heap.size, 0, none⟩ = some (.int .i64 (a1 : Int)) := X340.out.cell 0
            have q356 : (v309.alloc (.cells #[.int .i64 0, .int .i64 0] 23)).cell? ⟨v158.heap.size, 1, none⟩ = some (.int .i64 (b1 : Int)) := X340.out.cell 1
            have q357 : (v309.alloc (.cells #[.int .i64 0, .int .i64 0] 23)).cell? ⟨v194.heap.size, 0, none⟩ = some ((.int .i64 (a' : Int))) := X341.out.cell 0
            have q358 : (v309.alloc (.cells #[.int .i64 0, .int .i64 0] 23)).cell? ⟨v194.heap.size, 1, none⟩ = some ((.int .i64 (b' : Int))) := X341.out.cell 1
            have q359 : (v309.alloc (.cells #[.int .i64 0, .int .i64 0] 23)).cell? ⟨v236.heap.size, 0, none⟩ = some (.int .i64 (a : Int)) := X342.out.cell 0
            have q360 : (v309.alloc (.cells #[.int .i64 0, .int .i64 0] 23)).cell? ⟨v236.heap.size, 1, none⟩ = some (.int .i64 (b : Int)) := X342.out.cell 1
            have q361 : (v309.alloc (.cells #[.int .i64 0, .int .i64 0] 23)).cell? ⟨v309.heap.size, 0, none⟩ = some (.int .i64 0) := X344.out.cell 0
            have q362 : (v309.alloc (.cells #[.int .i64 0, .int .i64 0] 23)).cell? ⟨v309.heap.size, 1, none⟩ = some (.int .i64 0) := X344.out.cell 1
            go_wp2_with fail
            exact endRr Try.results44 rfl rfl HR.out X337.out (by omega) B343.out
          · rw [hr]
            have HNX := Lib.hid (show plF (ms.drop (k + 1)) a2 b2 = plF ms 0 1 by rw [← HPL.out, HDR.out, if_pos he, hr]; rfl)
            have HV2 := Lib.hid hrv2
            clear he hr hrv2
            have LT363 := Lib.hid X313.out.lt
            have X364 := Lib.hid (X311.out.alloc (.cells #[.int .i64 (a2 : Int), .int .i64 (b2 : Int)] 23))
            have X365 := Lib.hid (X312.out.alloc (.cells #[.int .i64 (a2 : Int), .int .i64 (b2 : Int)] 23))
            have X366 := Lib.hid (X313.out.alloc (.cells #[.int .i64 (a2 : Int), .int .i64 (b2 : Int)] 23))
            have X367 := Lib.hid (X314.out.alloc (.cells #[.int .i64 (a2 : Int), .int .i64 (b2 : Int)] 23))
            have X368 := Lib.hid (X315.out.alloc (.cells #[.int .i64 (a2 : Int), .int .i64 (b2 : Int)] 23))
            have X369 := Lib.hid (X316.out.alloc (.cells #[.int .i64 (a2 : Int), .int .i64 (b2 : Int)] 23))
            have X370 := Lib.hid (X317.out.alloc (.cells #[.int .i64 (a2 : Int), .int .i64 (b2 : Int)] 23))
            have B371 := Lib.hid (B318.out.alloc B318.out.size (.cells #[.int .i64 (a2 : Int), .int .i64 (b2 : Int)] 23))
            have X372 := Lib.hid (Box.made v309 23 #[.int .i64 (a2 : Int), .int .i64 (b2 : Int)])
            have q373 : (v309.alloc (.cells #[.int .i64 (a2 : Int), .int .i64 (b2 : Int)] 23)).cell? ⟨w.heap.size, 0, none⟩ = some (.slice (some ⟨gb, off, none⟩) l c) := X364.out.cell 0
            have q374 : (v309.alloc (.cells #[.int .i64 (a2 : Int), .int .i64 (b2 : Int)] 23)).cell? ⟨w.heap.size + 1, 0, none⟩ = some (.int .i64 0) := X365.out.cell 0
            have q375 : (v309.alloc (.cells #[.int .i64 (a2 : Int), .int .i64 (b2 : Int)] 23)).cell? ⟨w.heap.size + 1, 1, none⟩ = some (.int .i64 0) := X365.out.cell 1
            have fz376 : ∀ o, (v309.alloc (.cells #[.int .i64 (a2 : Int), .int .i64 (b2 : Int)] 23)).frozen? ⟨w.heap.size + 1, o, none⟩ = false := fun o => X365.out.free o
            have q377 : (v309.alloc (.cells #[.int .i64 (a2 : Int), .int .i64 (b2 : Int)] 23)).cell? ⟨P, 0, none⟩ = some (.int .i64 (n : Int)) := X366.out.cell 0
            have q378 : (v309.alloc (.cells #[.int .i64 (a2 : Int), .int .i64 (b2 : Int)] 23)).cell? ⟨P, 1, none⟩ = some (.int .i64 (d : Int)) := X366.out.cell 1
            have fz379 : ∀ o, (v309.alloc (.cells #[.int .i64 (a2 : Int), .int .i64 (b2 : Int)] 23)).frozen? ⟨P, o, none⟩ = false := fun o => X366.out.free o
            have q380 : (v309.alloc (.cells #[.int .i64 (a2 : Int), .int .i64 (b2 : Int)] 23)).cell? ⟨wr.heap.size, 0, none⟩ = some (.int .i64 (X : Int)) := X367.out.cell 0
            have q381 : (v309.alloc (.cells #[.int .i64 (a2 : Int), .int .i64 (b2 : Int)] 23)).cell? ⟨wr.heap.size, 1, none⟩ = some (.int .i64 (Y : Int)) := X367.out.cell 1
            have q382 : (v309.alloc (.cells #[.int .i64 (a2 : Int), .int .i64 (b2 : Int)] 23)).cell? ⟨wr.heap.size, 2, none⟩ = some (.int .i64 (Z : Int)) := X367.out.cell 2
            have q383 : (v309.alloc (.cells #[.int .i64 (a2 : Int), .int .i64 (b2 : Int)] 23)).cell? ⟨v158.heap.size, 0, none⟩ = some (.int .i64 (a1 : Int)) := X368.out.cell 0
            have q384 : (v309.alloc (.cells #[.int .i64 (a2 : Int), .int .i64 (b2 : Int)] 23)).cell? ⟨v158.heap.size, 1, none⟩ = some (.int .i64 (b1 : Int)) := X368.out.cell 1
            have q385 : (v309.alloc (.cells #[.int .i64 (a2 : Int), .int .i64 (b2 : Int)] 23)).cell? ⟨v194.heap.size, 0, none⟩ = some ((.int .i64 (a' : Int))) := X369.out.cell 0
            have q386 : (v309.alloc (.cells #[.int .i64 (a2 : Int), .int .i64 (b2 : Int)] 23)).cell? ⟨v194.heap.size, 1, none⟩ = some ((.int .i64 (b' : Int))) := X369.out.cell 1
            have q387 : (v309.alloc (.cells #[.int .i64 (a2 : Int), .int .i64 (b2 : Int)] 23)).cell? ⟨v236.heap.size, 0, none⟩ = some (.int .i64 (a : Int)) := X370.out.cell 0
            have q388 : (v309.alloc (.cells #[.int .i64 (a2 : Int), .int .i64 (b2 : Int)] 23)).cell? ⟨v236.heap.size, 1, none⟩ = some (.int .i64 (b : Int)) := X370.out.cell 1
            have q389 : (v309.alloc (.cells #[.int .i64 (a2 : Int), .int .i64 (b2 : Int)] 23)).cell? ⟨v309.heap.size, 0, none⟩ = some (.int .i64 (a2 : Int)) := X372.out.cell 0
            have q390 : (v309.alloc (.cells #[.int .i64 (a2 : Int), .int .i64 (b2 : Int)] 23)).cell? ⟨v309.heap.size, 1, none⟩ = some (.int .i64 (b2 : Int)) := X372.out.cell 1
            have X391 := Lib.hid ((X364.out.far (p := ⟨P, 0, none⟩) ((by have := HPS.out; have := LT142.out; have := LT175.out; have := LT214.out; have := LT284.out; have := LT363.out; show _ ≠ P; omega)) (.int .i64 (a2 : Int))).far (p := ⟨P, 1, none⟩) ((by have := HPS.out; have := LT142.out; have := LT175.out; have := LT214.out; have := LT284.out; have := LT363.out; show _ ≠ P; omega)) (.int .i64 (b2 : Int)))
            have X392 := Lib.hid ((X365.out.far (p := ⟨P, 0, none⟩) ((by have := HPS.out; have := LT142.out; have := LT175.out; have := LT214.out; have := LT284.out; have := LT363.out; show _ ≠ P; omega)) (.int .i64 (a2 : Int))).far (p := ⟨P, 1, none⟩) ((by have := HPS.out; have := LT142.out; have := LT175.out; have := LT214.out; have := LT284.out; have := LT363.out; show _ ≠ P; omega)) (.int .i64 (b2 : Int)))
            have X393 := Lib.hid ((X366.out.put 0 (.int .i64 (a2 : Int))).put 1 (.int .i64 (b2 : Int)))
            have X394 := Lib.hid ((X367.out.far (p := ⟨P, 0, none⟩) ((by have := HPS.out; have := LT142.out; have := LT175.out; have := LT214.out; have := LT284.out; have := LT363.out; show _ ≠ P; omega)) (.int .i64 (a2 : Int))).far (p := ⟨P, 1, none⟩) ((by have := HPS.out; have := LT142.out; have := LT175.out; have := LT214.out; have := LT284.out; have := LT363.out; show _ ≠ P; omega)) (.int .i64 (b2 : Int)))
            have X395 := Lib.hid ((X368.out.far (p := ⟨P, 0, none⟩) ((by have := HPS.out; have := LT142.out; have := LT175.out; have := LT214.out; have := LT284.out; have := LT363.out; show _ ≠ P; omega)) (.int .i64 (a2 : Int))).far (p := ⟨P, 1, none⟩) ((by have := HPS.out; have := LT142.out; have := LT175.out; have := LT214.out; have := LT284.out; have := LT363.out; show _ ≠ P; omega)) (.int .i64 (b2 : Int)))
            have X396 := Lib.hid ((X369.out.far (p := ⟨P, 0, none⟩) ((by have := HPS.out; have := LT142.out; have := LT175.out; have := LT214.out; have := LT284.out; have := LT363.out; show _ ≠ P; omega)) (.int .i64 (a2 : Int))).far (p := ⟨P, 1, none⟩) ((by have := HPS.out; have := LT142.out; have := LT175.out; have := LT214.out; have := LT284.out; have := LT363.out; show _ ≠ P; omega)) (.int .i64 (b2 : Int)))
            have X397 := Lib.hid ((X370.out.far (p := ⟨P, 0, none⟩) ((by have := HPS.out; have := LT142.out; have := LT175.out; have := LT214.out; have := LT284.out; have := LT363.out; show _ ≠ P; omega)) (.int .i64 (a2 : Int))).far (p := ⟨P, 1, none⟩) ((by have := HPS.out; have := LT142.out; have := LT175.out; have := LT214.out; have := LT284.out; have := LT363.out; show _ ≠ P; omega)) (.int .i64 (b2 : Int)))
            have X398 := Lib.hid ((X372.out.far (p := ⟨P, 0, none⟩) ((by have := HPS.out; have := LT142.out; have := LT175.out; have := LT214.out; have := LT284.out; have := LT363.out; show _ ≠ P; omega)) (.int .i64 (a2 : Int))).far (p := ⟨P, 1, none⟩) ((by have := HPS.out; have := LT142.out; have := LT175.out; have := LT214.out; have := LT284.out; have := LT363.out; show _ ≠ P; omega)) (.int .i64 (b2 : Int)))
            have B399 := Lib.hid ((B371.out.setCell (p := ⟨P, 0, none⟩) ((by have := HPS.out; show w.heap.size ≤ P; omega)) (.int .i64 (a2 : Int))).setCell (p := ⟨P, 1, none⟩) ((by have := HPS.out; show w.heap.size ≤ P; omega)) (.int .i64 (b2 : Int)))
            have q400 : (((v309.alloc (.cells #[.int .i64 (a2 : Int), .int .i64 (b2 : Int)] 23)).setCell ⟨P, 0, none⟩ (.int .i64 (a2 : Int))).setCell ⟨P, 1, none⟩ (.int .i64 (b2 : Int))).cell? ⟨w.heap.size, 0, none⟩ = some (.slice (some ⟨gb, off, none⟩) l c) := X391.out.cell 0
            have q401 : (((v309.alloc (.cells #[.int .i64 (a2 : Int), .int .i64 (b2 : Int)] 23)).setCell ⟨P, 0, none⟩ (.int .i64 (a2 : Int))).setCell ⟨P, 1, none⟩ (.int .i64 (b2 : Int))).cell? ⟨w.heap.size + 1, 0, none⟩ = some (.int .i64 0) := X392.out.cell 0
            have q402 : (((v309.alloc (.cells #[.int .i64 (a2 : Int), .int .i64 (b2 : Int)] 23)).setCell ⟨P, 0, none⟩ (.int .i64 (a2 : Int))).setCell ⟨P, 1, none⟩ (.int .i64 (b2 : Int))).cell? ⟨w.heap.size + 1, 1, none⟩ = some (.int .i64 0) := X392.out.cell 1
            have fz403 : ∀ o, (((v309.alloc (.cells #[.int .i64 (a2 : Int), .int .i64 (b2 : Int)] 23)).setCell ⟨P, 0, none⟩ (.int .i64 (a2 : Int))).setCell ⟨P, 1, none⟩ (.int .i64 (b2 : Int))).frozen? ⟨w.heap.size + 1, o, none⟩ = false := fun o => X392.out.free o
            have q404 : (((v309.alloc (.cells #[.int .i64 (a2 : Int), .int .i64 (b2 : Int)] 23)).setCell ⟨P, 0, none⟩ (.int .i64 (a2 : Int))).setCell ⟨P, 1, none⟩ (.int .i64 (b2 : Int))).cell? ⟨P, 0, none⟩ = some (.int .i64 (a2 : Int)) := X393.out.cell 0
            have q405 : (((v309.alloc (.cells #[.int .i64 (a2 : Int), .int .i64 (b2 : Int)] 23)).setCell ⟨P, 0, none⟩ (.int .i64 (a2 : Int))).setCell ⟨P, 1, none⟩ (.int .i64 (b2 : Int))).cell? ⟨P, 1, none⟩ = some (.int .i64 (b2 : Int)) := X393.out.cell 1
            have fz406 : ∀ o, (((v309.alloc (.cells #[.int .i64 (a2 : Int), .int .i64 (b2 : Int)] 23)).setCell ⟨P, 0, none⟩ (.int .i64 (a2 : Int))).setCell ⟨P, 1, none⟩ (.int .i64 (b2 : Int))).frozen? ⟨P, o, none⟩ = false := fun o => X393.out.free o
            have q407 : (((v309.alloc (.cells #[.int .i64 (a2 : Int), .int .i64 (b2 : Int)] 23)).setCell ⟨P, 0, none⟩ (.int .i64 (a2 : Int))).setCell ⟨P, 1, none⟩ (.int .i64 (b2 : Int))).cell? ⟨wr.heap.size, 0, none⟩ = some (.int .i64 (X : Int)) := X394.out.cell 0
            have q408 : (((v309.alloc (.cells #[.int .i64 (a2 : Int), .int .i64 (b2 : Int)] 23)).setCell ⟨P, 0, none⟩ (.int .i64 (a2 : Int))).setCell ⟨P, 1, none⟩ (.int .i64 (b2 : Int))).cell? ⟨wr.heap.size, 1, none⟩ = some (.int .i64 (Y : Int)) := X394.out.cell 1
            have q409 : (((v309.alloc (.cells #[.int .i64 (a2 : Int), .int .i64 (b2 : Int)] 23)).setCell ⟨P, 0, none⟩ (.int .i64 (a2 : Int))).setCell ⟨P, 1, none⟩ (.int .i64 (b2 : Int))).cell? ⟨wr.heap.size, 2, none⟩ = some (.int .i64 (Z : Int)) := X394.out.cell 2
            have q410 : (((v309.alloc (.cells #[.int .i64 (a2 : Int), .int .i64 (b2 : Int)] 23)).setCell ⟨P, 0, none⟩ (.int .i64 (a2 : Int))).setCell ⟨P, 1, none⟩ (.int .i64 (b2 : Int))).cell? ⟨v158.heap.size, 0, none⟩ = some (.int .i64 (a1 : Int)) := X395.out.cell 0
            have q411 : (((v309.alloc (.cells #[.int .i64 (a2 : Int), .int .i64 (b2 : Int)] 23)).setCell ⟨P, 0, none⟩ (.int .i64 (a2 : Int))).setCell ⟨P, 1, none⟩ (.int .i64 (b2 : Int))).cell? ⟨v158.heap.size, 1, none⟩ = some (.int .i64 (b1 : Int)) := X395.out.cell 1
            have q412 : (((v309.alloc (.cells #[.int .i64 (a2 : Int), .int .i64 (b2 : Int)] 23)).setCell ⟨P, 0, none⟩ (.int .i64 (a2 : Int))).setCell ⟨P, 1, none⟩ (.int .i64 (b2 : Int))).cell? ⟨v194.heap.size, 0, none⟩ = some ((.int .i64 (a' : Int))) := X396.out.cell 0
            have q413 : (((v309.alloc (.cells #[.int .i64 (a2 : Int), .int .i64 (b2 : Int)] 23)).setCell ⟨P, 0, none⟩ (.int .i64 (a2 : Int))).setCell ⟨P, 1, none⟩ (.int .i64 (b2 : Int))).cell? ⟨v194.heap.size, 1, none⟩ = some ((.int .i64 (b' : Int))) := X396.out.cell 1
            have q414 : (((v309.alloc (.cells #[.int .i64 (a2 : Int), .int .i64 (b2 : Int)] 23)).setCell ⟨P, 0, none⟩ (.int .i64 (a2 : Int))).setCell ⟨P, 1, none⟩ (.int .i64 (b2 : Int))).cell? ⟨v236.heap.size, 0, none⟩ = some (.int .i64 (a : Int)) := X397.out.cell 0
            have q415 : (((v309.alloc (.cells #[.int .i64 (a2 : Int), .int .i64 (b2 : Int)] 23)).setCell ⟨P, 0, none⟩ (.int .i64 (a2 : Int))).setCell ⟨P, 1, none⟩ (.int .i64 (b2 : Int))).cell? ⟨v236.heap.size, 1, none⟩ = some (.int .i64 (b : Int)) := X397.out.cell 1
            have q416 : (((v309.alloc (.cells #[.int .i64 (a2 : Int), .int .i64 (b2 : Int)] 23)).setCell ⟨P, 0, none⟩ (.int .i64 (a2 : Int))).setCell ⟨P, 1, none⟩ (.int .i64 (b2 : Int))).cell? ⟨v309.heap.size, 0, none⟩ = some (.int .i64 (a2 : Int)) := X398.out.cell 0
            have q417 : (((v309.alloc (.cells #[.int .i64 (a2 : Int), .int .i64 (b2 : Int)] 23)).setCell ⟨P, 0, none⟩ (.int .i64 (a2 : Int))).setCell ⟨P, 1, none⟩ (.int .i64 (b2 : Int))).cell? ⟨v309.heap.size, 1, none⟩ = some (.int .i64 (b2 : Int)) := X398.out.cell 1
            go_wp2_with fail
            go_roundw
            case rel => exact ⟨k + 1, a2, b2, by have := HLT.out; omega, by go_num, HNX.out, HV2.out, X391.out, X392.out, X393.out, B399.out⟩
            case measure => have := HLT.out; simp [intOf]; omega
      · obtain rfl : k = l := by omega
        have d1 : decide ((k : Int) < (k : Int)) = false := by simp
        have d2 : decide (k < k) = false := by simp
        have HR := Lib.hid (show playR ms = ⟨(n : Int), (d : Int), 0⟩ by rw [HPR.out, ← HPL.out, ← HN.out, List.drop_length]; rfl)
        go_wp2_with fail
        exact endRr Try.results44 rfl rfl HR.out Xr.out (by omega) Bl.out
    

end Go.Proofs.Ytmmfmanjajefcaa

/- Layer 7: a train the other way round. -/
import Derived.Test.YtmmfmanjajefcaaGC
set_option linter.all false
namespace Go.Proofs.Ytmmfmanjajefcaa
open Go.RowKit

/-- meshes as they lie in memory -/
def flat3 : List Mh → List Value
  | [] => []
  | m :: l => .int .i64 m.1 :: .int .i64 m.2.1 :: .int .i64 m.2.2 :: flat3 l
theorem flat3_len : ∀ ms : List Mh, (flat3 ms).length = ms.length * 3
  | [] => rfl
  | m :: l => by simp only [flat3, List.length_cons, flat3_len l]; omega
theorem flat3_at : ∀ (ms : List Mh) (k : Nat) (h : k < ms.length), (flat3 ms)[k * 3]? = some (.int .i64 ms[k].1) ∧ (flat3 ms)[k * 3 + 1]? = some (.int .i64 ms[k].2.1) ∧ (flat3 ms)[k * 3 + 2]? = some (.int .i64 ms[k].2.2)
  | m :: l, 0, h => ⟨rfl, rfl, rfl⟩
  | m :: l, k + 1, h => by
    have := flat3_at l k (by simpa using h)
    rw [show (k + 1) * 3 = k * 3 + 1 + 1 + 1 by omega]
    simpa [flat3] using this
theorem flat3_append : ∀ (ms ns : List Mh), flat3 (ms ++ ns) = flat3 ms ++ flat3 ns
  | [], _ => rfl
  | m :: l, ns => by simp only [List.cons_append, flat3, flat3_append l]
theorem own_ms {w : World} {base n : Nat} {v : Value} {ms : List Mh} (h : w.ownsRow base 37 3 v n (flat3 ms)) (hn : ms.length = n) : Mss w w.heap.size v ms := by
  subst hn
  have ho := h
  rcases ho.2 with ⟨h1, h2⟩ | ⟨ge, cap, cur, h3, h4, h5, h6, h7, h8, h9⟩
  · exact ⟨none, 0, by rw [h1, h2], by omega, fun h => by omega⟩
  · have hb : Box w ge 37 cur := h5
    refine ⟨_, _, h3, h6, fun _ => ⟨ge, 0, rfl, hb.lt, fun k hk => ?_⟩⟩
    subst h3
    have p := flat3_at ms k hk
    rw [Nat.zero_add]
    exact ⟨(ho.cellAt _ (by omega)).trans p.1, (ho.cellAt _ (by omega)).trans p.2.1, (ho.cellAt _ (by omega)).trans p.2.2⟩
/-- a train the other way round -/
def sw (m : Mh) : Mh := (m.2.1, m.1, m.2.2)
def bk (ms : List Mh) : List Mh := (ms.map sw).reverse
theorem bk_len (ms : List Mh) : (bk ms).length = ms.length := by unfold bk; simp
theorem bk_take {ms : List Mh} {k j : Nat} (hj : j < ms.length) (h : k + j + 1 = ms.length) : (bk ms).take (k + 1) = (bk ms).take k ++ [sw ms[j]] := by
  have hk : k < (bk ms).length := by rw [bk_len]; omega
  have e : (bk ms)[k] = sw ms[j] := by
    rw [List.getElem_of_eq (show bk ms = (ms.map sw).reverse from rfl), List.getElem_reverse, List.getElem_map]
    congr 2
    simp only [List.length_map]
    omega
  rw [List.take_succ_eq_append_getElem hk, e]

set_option maxRecDepth 100000 in
set_option maxHeartbeats 8000000 in
theorem back_c (ms : List Mh) (v : Value) (w : World) (h : IsTr w w.heap.size v ms) (hl : ms.length ≤ 100) : Calls Try.prog 55 #[v] w fun e w' => ∃ u, e = .returned u ∧ IsTr w' w'.heap.size u (bk ms) ∧ Below w.heap.size w w' := by
  have HT := Lib.hid h
  obtain ⟨s, rfl, A, c, rfl, hcap, hcell⟩ := h
  have HC := Lib.hid hcell
  obtain ⟨l, hn⟩ : ∃ n, ms.length = n := ⟨_, rfl⟩
  have HN := Lib.hid hn
  rw [hn] at HT hl ⊢
  have HL := Lib.hid hl
  clear hn hcap hcell
  obtain ⟨i0, hi0, hz0, hz1, hz2⟩ : ∃ i, Try.prog.info? 37 = some i ∧ i.zero = some (.agg #[.int .i64 0, .int .i64 0, .int .i64 0]) ∧ i.size = 3 ∧ i.bytes = 24 := ⟨_, rfl, rfl, rfl, rfl⟩
  have wl : IntKind.i64.wrap ((l : Int) - 1) = (l : Int) - 1 := wrap_id (by omega) (by omega)
  clear hl
  go_enter Try.func55, Try.ntmps55
  go_wp2_with fail
  obtain ⟨W1, hW2⟩ : ∃ Wzz, (((w.alloc (.cells #[.slice A l c] 35)).alloc (.cells #[.slice none 0 0] 35)).alloc (.cells #[.slice none 0 0] 35)) = Wzz := ⟨_, rfl⟩
  have B3 := Lib.hid (show Below w.heap.size w W1 by rw [← hW2]; exact ((((Below.refl w.heap.size w).alloc (Nat.le_refl _) _).alloc (by first | (simp; done) | (simp; omega)) _).alloc (by first | (simp; done) | (simp; omega)) _))
  have X4 := Lib.hid (show Box W1 (w.heap.size) 35 #[.slice A l c] by rw [← hW2]; exact Box.alloc (Box.alloc (Box.made w 35 #[.slice A l c]) (.cells #[.slice none 0 0] 35)) (.cells #[.slice none 0 0] 35))
  have X5 := Lib.hid (show Box W1 (w.heap.size + 1) 35 #[.slice none 0 0] by
    have hz := Box.alloc (Box.made (w.alloc (.cells #[.slice A l c] 35)) 35 #[.slice none 0 0]) (.cells #[.slice none 0 0] 35)
    rw [World.size_alloc] at hz
    rw [← hW2]; exact hz)
  have X6 := Lib.hid (show Box W1 (w.heap.size + 1 + 1) 35 #[.slice none 0 0] by
    have hz := Box.made ((w.alloc (.cells #[.slice A l c] 35)).alloc (.cells #[.slice none 0 0] 35)) 35 #[.slice none 0 0]
    rw [World.size_alloc, World.size_alloc] at hz
    rw [← hW2]; exact hz)
  have SZ7 := Lib.hid (show W1.heap.size = w.heap.size + 1 + 1 + 1 by rw [← hW2]; simp)
  rw [hW2]
  clear hW2
  have q8 : W1.cell? ⟨w.heap.size, 0, none⟩ = some (.slice A l c) := X4.out.cell 0
  have q9 : W1.cell? ⟨w.heap.size + 1, 0, none⟩ = some (.slice none 0 0) := X5.out.cell 0
  have fz10 : ∀ o, W1.frozen? ⟨w.heap.size + 1, o, none⟩ = false := fun o => X5.out.free o
  have q11 : W1.cell? ⟨w.heap.size + 1 + 1, 0, none⟩ = some (.slice none 0 0) := X6.out.cell 0
  have fz12 : ∀ o, W1.frozen? ⟨w.heap.size + 1 + 1, o, none⟩ = false := fun o => X6.out.free o
  go_loopw [4] (fun iv wr => ∃ k j : Nat, ∃ lv : Value, k + j = l ∧ iv = .int .i64 ((j : Int) - 1) ∧ wr.ownsRow (w.heap.size + 1 + 1 + 1) 37 3 lv k (flat3 ((bk ms).take k)) ∧ Box wr w.heap.size 35 #[.slice A l c] ∧ Box wr (w.heap.size + 1) 35 #[.slice none 0 0] ∧ Box wr (w.heap.size + 1 + 1) 35 #[lv] ∧ Below w.heap.size w wr ∧ w.heap.size + 1 + 1 + 1 ≤ wr.heap.size) (fun iv _ => ((intOf iv) + 1).toNat)
  case atStart => exact ⟨0, l, .slice none 0 0, by omega, rfl, World.ownsRow_nil _ _ _ _, X4.out, X5.out, X6.out, B3.out, Nat.le_of_eq SZ7.out.symm⟩
  case round =>
    obtain ⟨k, j, lv, hkj, rfl, hown, hbt, hbr, hbo, hbel, hsz⟩ := hrel
    have HO := Lib.hid hown
    have Xt := Lib.hid hbt
    have Xr := Lib.hid hbr
    have Xo := Lib.hid hbo
    have Bl := Lib.hid hbel
    have HSZ := Lib.hid hsz
    have HKJ := Lib.hid hkj
    clear hown hbt hbr hbo hbel hsz
    have q13 : wr.cell? ⟨w.heap.size, 0, none⟩ = some (.slice A l c) := Xt.out.cell 0
    have q14 : wr.cell? ⟨w.heap.size + 1, 0, none⟩ = some (.slice none 0 0) := Xr.out.cell 0
    have fz15 : ∀ o, wr.frozen? ⟨w.heap.size + 1, o, none⟩ = false := fun o => Xr.out.free o
    have q16 : wr.cell? ⟨w.heap.size + 1 + 1, 0, none⟩ = some (lv) := Xo.out.cell 0
    have fz17 : ∀ o, wr.frozen? ⟨w.heap.size + 1 + 1, o, none⟩ = false := fun o => Xo.out.free o
    rcases j with _ | j
    rotate_left
    · have hjl : j < ms.length := by have := HN.out; omega
      have e0 : (((j + 1 : Nat) : Int) - 1) = (j : Int) := by omega
      rw [e0]
      obtain ⟨gb, off, rfl, hbB, hcc⟩ := HC.out (by omega)
      obtain ⟨y0, y1, y2⟩ := hcc j hjl
      have HTK := Lib.hid (bk_take (k := k) hjl (by have := HN.out; omega))
      obtain ⟨m, hm⟩ : ∃ m, ms[j] = m := ⟨_, rfl⟩
      rw [hm] at y0 y1 y2 HTK
      obtain ⟨x, y, z⟩ := m
      dsimp only [sw] at y0 y1 y2 HTK
      have z0 := keepd y0 Bl.out hbB
      have z1 := keepd y1 Bl.out hbB
      have z2 := keepd y2 Bl.out hbB
      have d1 : decide ((0 : Int) ≤ (j : Int)) = true := decide_eq_true (by omega)
      have k0 : (0 : Int) ≤ (j : Int) := by omega
      have k1 : (j : Int) < (l : Int) := by have := HKJ.out; omega
      have k2 : j ≤ 100 := by have := HL.out; omega
      have wj : IntKind.i64.wrap ((j : Int) - 1) = (j : Int) - 1 := wrap_id (by omega) (by omega)
      have HJ := Lib.hid hkj
      clear hcc y0 y1 y2 hm hjl hkj
      have LT18 := Lib.hid Xo.out.lt
      have X19 := Lib.hid (Xt.out.alloc (.cells #[.int .i64 x, .int .i64 y, .int .i64 z] 37))
      have X20 := Lib.hid (Xr.out.alloc (.cells #[.int .i64 x, .int .i64 y, .int .i64 z] 37))
      have X21 := Lib.hid (Xo.out.alloc (.cells #[.int .i64 x, .int .i64 y, .int .i64 z] 37))
      have B22 := Lib.hid (Bl.out.alloc Bl.out.size (.cells #[.int .i64 x, .int .i64 y, .int .i64 z] 37))
      have X23 := Lib.hid (Box.made wr 37 #[.int .i64 x, .int .i64 y, .int .i64 z])
      have q24 : (wr.alloc (.cells #[.int .i64 x, .int .i64 y, .int .i64 z] 37)).cell? ⟨w.heap.size, 0, none⟩ = some (.slice (some ⟨gb, off, none⟩) l c) := X19.out.cell 0
      have q25 : (wr.alloc (.cells #[.int .i64 x, .int .i64 y, .int .i64 z] 37)).cell? ⟨w.heap.size + 1, 0, none⟩ = some (.slice none 0 0) := X20.out.cell 0
      have fz26 : ∀ o, (wr.alloc (.cells #[.int .i64 x, .int .i64 y, .int .i64 z] 37)).frozen? ⟨w.heap.size + 1, o, none⟩ = false := fun o => X20.out.free o
      have q27 : (wr.alloc (.cells #[.int .i64 x, .int .i64 y, .int .i64 z] 37)).cell? ⟨w.heap.size + 1 + 1, 0, none⟩ = some (lv) := X21.out.cell 0
      have fz28 : ∀ o, (wr.alloc (.cells #[.int .i64 x, .int .i64 y, .int .i64 z] 37)).frozen? ⟨w.heap.size + 1 + 1, o, none⟩ = false := fun o => X21.out.free o
      have q29 : (wr.alloc (.cells #[.int .i64 x, .int .i64 y, .int .i64 z] 37)).cell? ⟨wr.heap.size, 0, none⟩ = some (.int .i64 x) := X23.out.cell 0
      have q30 : (wr.alloc (.cells #[.int .i64 x, .int .i64 y, .int .i64 z] 37)).cell? ⟨wr.heap.size, 1, none⟩ = some (.int .i64 y) := X23.out.cell 1
      have q31 : (wr.alloc (.cells #[.int .i64 x, .int .i64 y, .int .i64 z] 37)).cell? ⟨wr.heap.size, 2, none⟩ = some (.int .i64 z) := X23.out.cell 2
      have HO1 := Lib.hid ((HO.out.alloc (.cells #[.int .i64 x, .int .i64 y, .int .i64 z] 37)).alloc (.cells #[.int .i64 y, .int .i64 x, .int .i64 z] 37))
      have HSM := Lib.hid (show (wr.alloc (.cells #[.int .i64 x, .int .i64 y, .int .i64 z] 37)).heap.size = wr.heap.size + 1 from World.size_alloc _ _)
      have HNW0 := news_box (W := (wr.alloc (.cells #[.int .i64 x, .int .i64 y, .int .i64 z] 37)).alloc (.cells #[.int .i64 y, .int .i64 x, .int .i64 z] 37)) (cs := [.int .i64 y, .int .i64 x, .int .i64 z]) (Box.made (wr.alloc (.cells #[.int .i64 x, .int .i64 y, .int .i64 z] 37)) 37 #[.int .i64 y, .int .i64 x, .int .i64 z])
      rw [HSM.out] at HNW0
      have HNW := Lib.hid HNW0
      clear HNW0
      have H1C := Lib.hid (show ∀ u ∈ [Value.int .i64 y, .int .i64 x, .int .i64 z], u.oneCell' = true by intro u hu; simp at hu; rcases hu with rfl | rfl | rfl <;> rfl)
      have HL2 := Lib.hid (show k + 1 ≤ maxLen ∧ (k + 1) * 24 ≤ 140737488355328 ∧ w.heap.size + 1 + 1 + 1 ≤ ((wr.alloc (.cells #[.int .i64 x, .int .i64 y, .int .i64 z] 37)).alloc (.cells #[.int .i64 y, .int .i64 x, .int .i64 z] 37)).heap.size by
        have := HL.out; have := HJ.out; have := HSZ.out; rw [World.size_alloc, HSM.out]; unfold maxLen; omega)
      have HBA := Lib.hid (B22.out.alloc B22.out.size (.cells #[.int .i64 y, .int .i64 x, .int .i64 z] 37))
      have HXT := Lib.hid (X19.out.alloc (.cells #[.int .i64 y, .int .i64 x, .int .i64 z] 37))
      have HXR := Lib.hid (X20.out.alloc (.cells #[.int .i64 y, .int .i64 x, .int .i64 z] 37))
      have HXO := Lib.hid (X21.out.alloc (.cells #[.int .i64 y, .int .i64 x, .int .i64 z] 37))
      go_wp2_with (first
        | (at_builtin; refine wpList_append_own_at _ rfl _ _ 33 rfl (w.heap.size + 1 + 1 + 1) 37 i0 (.agg #[.int .i64 0, .int .i64 0, .int .i64 0]) 3 24 Try.underlying33 hi0 hz0 hz1 hz2 rfl (by decide) lv _ _ rfl HO1.out ⟨wr.heap.size + 1, 0, none⟩ 1 1 [.int .i64 y, .int .i64 x, .int .i64 z] rfl rfl HNW.out H1C.out HL2.out.1 HL2.out.2.1 HL2.out.2.2 ?_; intro v7 w7 hown7 hgrow7 _ _; obtain ⟨A7, c7, hv7⟩ := own_shape hown7; subst hv7; have HX7 := Lib.hid (HXO.out.grown hgrow7 (fun e => by have := (HO1.out.lt _ e).1; omega)); have z7 : w7.cell? ⟨w.heap.size + 1 + 1, 0, none⟩ = some lv := HX7.out.cell 0; have f7 : ∀ o, w7.frozen? ⟨w.heap.size + 1 + 1, o, none⟩ = false := fun o => HX7.out.free o)
        | fail)
      have HF7 := Lib.hid (show w7.ownsRow (w.heap.size + 1 + 1 + 1) 37 3 (.slice A7 (k + 1) c7) (k + 1) (flat3 ((bk ms).take (k + 1))) by rw [HTK.out, flat3_append]; exact hown7)
      have HB7 := Lib.hid (HBA.out.grown hgrow7 (by rw [World.size_alloc, HSM.out]; have := HSZ.out; omega) (fun q e => by have := (HO1.out.lt q e).1; omega))
      have HT7 := Lib.hid (HXT.out.grown hgrow7 (fun e => by have := (HO1.out.lt _ e).1; omega))
      have HR7 := Lib.hid (HXR.out.grown hgrow7 (fun e => by have := (HO1.out.lt _ e).1; omega))
      have HS7 := Lib.hid (show w.heap.size + 1 + 1 + 1 ≤ w7.heap.size by have := hgrow7.size; rw [World.size_alloc, HSM.out] at this; have := HSZ.out; omega)
      clear hown7 hgrow7 z7 f7
      go_roundw
      case rel => exact ⟨k + 1, j, .slice A7 (k + 1) c7, by have := HJ.out; omega, by go_num, own_far HF7.out (show w.heap.size + 1 + 1 < _ by omega) _, HT7.out.far (show w.heap.size ≠ w.heap.size + 1 + 1 by omega) _, HR7.out.far (show w.heap.size + 1 ≠ w.heap.size + 1 + 1 by omega) _, HX7.out.put 0 _, HB7.out.setCell (p := ⟨w.heap.size + 1 + 1, 0, none⟩) (show w.heap.size ≤ w.heap.size + 1 + 1 by omega) _, by rw [World.size_setCell]; exact HS7.out⟩
      case measure => first | (simp [intOf]; done) | (simp [intOf]; omega)
    · obtain rfl : k = l := by omega
      have e0 : (((0 : Nat) : Int) - 1) = -1 := by omega
      rw [e0]
      have d1 : decide ((0 : Int) ≤ -1) = false := by decide
      have HTK := Lib.hid (show (bk ms).take k = bk ms from List.take_of_length_le (by rw [bk_len]; exact Nat.le_of_eq HN.out))
      have HM := Lib.hid (own_ms (by have := HO.out; rw [HTK.out] at this; exact this) (by rw [bk_len]; exact HN.out))
      obtain ⟨A2, c2, hlv⟩ := own_shape HO.out
      subst hlv
      have XR2 := Lib.hid (Xr.out.put 0 (.slice A2 k c2))
      have BR2 := Lib.hid (Bl.out.setCell (p := ⟨w.heap.size + 1, 0, none⟩) (show w.heap.size ≤ w.heap.size + 1 by omega) (.slice A2 k c2))
      have zr : wr.cell? ⟨w.heap.size + 1, 0, none⟩ = some (.slice none 0 0) := Xr.out.cell 0
      have zf : ∀ o, wr.frozen? ⟨w.heap.size + 1, o, none⟩ = false := fun o => Xr.out.free o
      have HMM := Lib.hid (show Mss (wr.setCell ⟨w.heap.size + 1, 0, none⟩ (.slice A2 k c2)) (wr.setCell ⟨w.heap.size + 1, 0, none⟩ (.slice A2 k c2)).heap.size (.slice A2 k c2) (bk ms) from own_ms (own_far (by have := HO.out; rw [HTK.out] at this; exact this) (show w.heap.size + 1 < _ by omega) (.slice A2 k c2)) (by rw [bk_len]; exact HN.out))
      go_wp2_with fail
      obtain ⟨WF, hWF⟩ : ∃ W, wr.setCell ⟨w.heap.size + 1, 0, none⟩ (.slice A2 k c2) = W := ⟨_, rfl⟩
      have XF := XR2.out
      have BF := BR2.out
      have MF := HMM.out
      rw [hWF] at XF BF MF ⊢
      have qf : WF.cell? ⟨w.heap.size + 1, 0, none⟩ = some (.slice A2 k c2) := XF.cell 0
      exact bodyPost_ret (v := .agg #[.slice A2 k c2]) (by simp [results, Try.results55, go_sem, qf]) rfl ⟨_, rfl, ⟨_, rfl, MF⟩, BF⟩
  

end Go.Proofs.Ytmmfmanjajefcaa

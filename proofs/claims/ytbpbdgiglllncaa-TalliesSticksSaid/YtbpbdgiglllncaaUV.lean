/- Layer 9: operations, as they came in. -/
import Derived.Test.YtbpbdgiglllncaaUT
import Derived.Test.YtbpbdgiglllncaaU9
set_option linter.all false
namespace Go.Proofs.Ytbpbdgiglllncaa
open Go.ChangeShapes Go.WideShapes Go.ChangeAt Go.RowKit

/-- all cells of a type are cells of one number, or slices -/
def flatStep (p : Program) (ih : TypeId → Bool) (t : TypeId) : Bool := match p.underlying t with
  | some (.int _) => true
  | some (.slice _) => true
  | some (.struct fs) => (List.range (p.cellsOf t)).all fun j => fs.toList.any fun f => decide (f.offset ≤ j) && (decide (j < f.offset + p.cellsOf f.type) && ih f.type)
  | _ => false
def flatB (p : Program) : Nat → TypeId → Bool
  | 0 => fun _ => false
  | n + 1 => flatStep p (flatB p n)
instance : Inhabited Op9 := ⟨op0⟩
theorem flat_one {p : Program} {H : Type} {enc : TypeId × Value → H} {W : World} {base : Nat} {spare : Nat → Bool} {held : Bool} : ∀ (n : Nat) (t : TypeId) (fuel : Nat) (cs : List Value) (x : DataW H × List MemPlace), flatB p n t = true → DataW.trod enc p W base spare held fuel t cs = some x → ∀ v ∈ cs, v.oneCell' = true
  | 0, t, _, _, _, h, _ => nomatch (show false = true from h)
  | n + 1, t, fuel, cs, x, h, hx => by
    unfold flatB flatStep at h
    split at h
    · rename_i k hk
      obtain ⟨z, rfl, -, -⟩ := DataW.trod_int hk hx
      intro v hv
      obtain rfl := List.mem_singleton.1 hv
      rfl
    · rename_i e he
      intro v hv
      rcases DataW.trod_slice he hx with ⟨rfl, -⟩ | ⟨a, len, cap, elems, rest, m, -, rfl, -⟩
      · obtain rfl := List.mem_singleton.1 hv; rfl
      · obtain rfl := List.mem_singleton.1 hv; rfl
    · rename_i fs hfs
      obtain ⟨xs, m, -, -, hl, hlen, hf⟩ := DataW.trod_struct hfs hx
      intro v hv
      obtain ⟨j, hj, rfl⟩ := List.mem_iff_getElem.1 hv
      have hj2 := List.all_eq_true.1 h j (List.mem_range.2 (by rw [← hl]; exact hj))
      obtain ⟨f, hfm, hf2⟩ := List.any_eq_true.1 hj2
      simp only [Bool.and_eq_true, decide_eq_true_iff] at hf2
      obtain ⟨i, hi, rfl⟩ := List.mem_iff_getElem.1 hfm
      have hi2 : i < fs.size := by simpa using hi
      have hfi : fs[i]? = some fs.toList[i] := by rw [Array.getElem?_eq_getElem hi2]; simp
      have hy := hf i _ hfi
      rw [List.getElem?_eq_getElem (show i < xs.length by omega)] at hy
      refine flat_one n _ m _ _ hf2.2.2 hy _ ?_
      refine List.mem_iff_getElem.2 ⟨j - fs.toList[i].offset, ?_, ?_⟩
      · simp only [List.length_take, List.length_drop]; omega
      · simp only [List.getElem_take, List.getElem_drop]
        congr 1; omega
    · cases h

set_option maxRecDepth 100000 in
/-- a slice of operations, as it came in -/
theorem open_ops {H : Type} {enc : TypeId × Value → H} {W : World} {base : Nat} {v : Value} {d : DataW H} {p : List MemPlace} (hv : Value.okWide Try.prog W .any base 53 v) (h : DataW.Trod enc Try.prog W 0 (fun _ => true) true 53 v d p)
    (hsz : (d.weights Try.prog 53).all (· ≤ reachBytes) = true) : ∃ ks, OpsIn W W.heap.size v ks := by
  have k26 : Try.prog.cellsOf 55 = 26 := by kernel_rfl
  have k1 : Try.prog.cellsOf 3 = 1 := by kernel_rfl
  have k1b : Try.prog.cellsOf 31 = 1 := by kernel_rfl
  obtain ⟨a1, len1, cap1, rfl⟩ := okWide_slice Try.underlying53 hv
  obtain ⟨fuel, hf⟩ := h
  rcases Go.Deep.open_slice Try.underlying53 hf with ⟨h1, -⟩ | ⟨a, len, cap, m, n, D, Pl, h1, hb, hlc, hcm, hm, hx, hc⟩
  · cases h1
    exact ⟨[], by simp, none, 0, rfl, Nat.le_refl _, fun h => by simp at h⟩
  · cases h1
    simp only [if_true] at hm
    obtain ⟨rfl, rfl⟩ := Prod.mk.inj hx
    have hbytes : Try.prog.bytesOf 55 = 272 := by kernel_rfl
    simp only [DataW.weights, Try.underlying53, List.all_cons, Bool.and_eq_true, decide_eq_true_iff, List.length_map, List.length_range, hbytes] at hsz
    obtain ⟨hsz1, hsz2⟩ := hsz
    have hall : ∀ n ∈ DataW.weightsAll Try.prog 55 ((List.range len1).map D), n ≤ reachBytes := fun n hn => by
      have := List.all_eq_true.1 hsz2 n (List.mem_append_left _ hn)
      simpa using this
    obtain ⟨b, off, spot⟩ := a
    unfold reachBytes at hsz1
    rcases Nat.eq_zero_or_pos len1 with rfl | hp0
    · exact ⟨[], by simp, some ⟨b, off, spot⟩, cap1, rfl, Nat.zero_le _, fun h => by simp at h⟩
    have hspot : spot = none := by
      obtain ⟨cs', g1, -⟩ := hc 0 (by omega)
      rw [k26] at g1
      obtain ⟨_, hlen, hcell⟩ := World.cells?_some g1
      have h0 := hcell 0 (by omega)
      rw [List.getElem?_eq_getElem (by omega)] at h0
      simpa [Addr.add] using World.cell?_spot h0
    subst hspot
    have hB : b < W.heap.size := by
      obtain ⟨cs', g1, -⟩ := hc 0 (by omega)
      rw [k26] at g1
      obtain ⟨_, hlen, hcell⟩ := World.cells?_some g1
      have h0 := hcell 0 (by omega)
      rw [List.getElem?_eq_getElem (by omega)] at h0
      simpa [Addr.add] using cell_lt h0
    have each : ∀ i, i < len1 → ∃ q : Op9, ∃ bv mid, mid.length = 21 ∧ (∀ u ∈ mid, u.oneCell' = true) ∧ W.rangeAt b (off + i * 26) (opCs q bv mid) ∧ Bys W W.heap.size bv q.bytes := by
      intro i hi
      obtain ⟨cs', g1, g2⟩ := hc i (by omega)
      have hone := flat_one (p := Try.prog) 5 55 _ _ _ (by kernel_rfl) g2
      rw [k26] at g1
      obtain ⟨_, hlen, hcell⟩ := World.cells?_some g1
      obtain ⟨xs, n', -, hxs, hl, hlen2, hff⟩ := DataW.trod_struct Try.underlying55 g2
      have hw : ∀ n ∈ (D i).weights Try.prog 55, n ≤ reachBytes := w_mem (List.mem_map.2 ⟨i, List.mem_range.2 hi, rfl⟩) hall
      rw [(Prod.mk.inj hxs).1] at hw
      match xs, hlen2 with
      | [y0, y1, y2, y3, y4, y5, y6, y7], _ =>
        match cs', hlen with
        | [c0, c1, c2, c3, c4, c5, c6, c7, c8, c9, c10, c11, c12, c13, c14, c15, c16, c17, c18, c19, c20, c21, c22, c23, c24, c25], _ =>
          have x0 := hff 0 _ rfl
          have x1 := hff 1 _ rfl
          have x5 := hff 5 _ rfl
          have x6 := hff 6 _ rfl
          have x7 := hff 7 _ rfl
          simp only [k1, k1b, List.drop_zero, List.drop_succ_cons, List.take_succ_cons, List.take_zero, List.getElem?_cons_zero, List.getElem?_cons_succ] at x0 x1 x5 x6 x7
          obtain ⟨n0, e0, -, -⟩ := DataW.trod_int Try.underlying3 x0
          obtain ⟨n5, e5, -, -⟩ := DataW.trod_int Try.underlying3 x5
          obtain ⟨n6, e6, -, -⟩ := DataW.trod_int Try.underlying3 x6
          obtain ⟨n7, e7, -, -⟩ := DataW.trod_int Try.underlying3 x7
          cases e0
          cases e5
          cases e6
          cases e7
          obtain ⟨q, hq⟩ := open_bys x1 (by
            rw [List.all_eq_true]
            intro n hn
            refine decide_eq_true (hw n ?_)
            simp only [DataW.weights, Try.underlying55, DataW.weightsEach, List.map_cons, List.map_nil]
            exact List.mem_append_right _ (List.mem_append_left _ hn))
          refine ⟨⟨n0, q, n5, n6, n7⟩, c1, [c2, c3, c4, c5, c6, c7, c8, c9, c10, c11, c12, c13, c14, c15, c16, c17, c18, c19, c20, c21, c22], rfl, fun u hu => hone u (by simp only [List.mem_cons, List.not_mem_nil, or_false] at hu ⊢; exact .inr (.inr (by rcases hu with rfl | rfl | rfl | rfl | rfl | rfl | rfl | rfl | rfl | rfl | rfl | rfl | rfl | rfl | rfl | rfl | rfl | rfl | rfl | rfl | rfl <;> simp))), fun j u hj => ?_, hq⟩
          have hj26 : j < 26 := by
            have := (List.getElem?_eq_some_iff.1 hj).1
            simpa [opCs] using this
          have h0 := hcell j hj26
          rw [Go.Deep.add_add, add_off, ← Nat.add_assoc] at h0
          rw [h0]
          exact hj
    obtain ⟨q, hq⟩ := Go.Deep.choose_lt (α := Op9) each
    refine ⟨(List.range len1).map q, by simp; omega, some ⟨b, off, none⟩, cap1, by simp, by simpa using hlc, fun hp => ⟨b, off, rfl, hB, fun k hk => ?_⟩⟩
    simp only [List.length_map, List.length_range] at hk
    have e : ((List.range len1).map q).getD k op0 = q k := by rw [List.getD_eq_getElem?_getD, List.getElem?_map, List.getElem?_range hk]; rfl
    rw [e]
    exact hq k hk
end Go.Proofs.Ytbpbdgiglllncaa

/- What each statement of this seat wants: an argument that came in is opened, and reads behind the call as it did. -/
import Derived.Test.YtmmfmanjajefcaaGC
import Derived.Deep.Strs
import Derived.ProofKit
import Derived.OpenShut
import Derived.Lib.SmallJoins
import Derived.Deep.SlicePairs
import Derived.Deep.DeepHandedRow
import Derived.Deep.DeepWitnessRowRef
import Derived.WideKeyArgs
import Derived.HandedShaped
namespace Go.Proofs.Ytmmfmanjajefcaa
open Go.ChangeShapes Go.WideShapes Go.ChangeAt Go.RowKit

theorem own : ownKnob Try.prog.godebug = none := by kernel_rfl
theorem laidOut' : laidOutB Try.prog = true := by kernel_rfl

/-- what was read, and is left alone, reads again -/
theorem stays {H : Type} {enc : TypeId × Value → H} {W W' : World} (hb : Below W.heap.size W W') {sp : Nat → Bool} : ∀ {ts : List TypeId} {vs : List Value} {ds : List (DataW H)} {ps : List MemPlace},
    (∀ t ∈ ts, Try.prog.readableRec t = true ∧ t < Try.prog.types.size) → DataW.TrodAll enc Try.prog W 0 (fun _ => true) true ts vs ds ps → (∀ x ∈ ps, x.block < W.heap.size) → (∀ x ∈ ps, sp x.block = true) → DataW.TrodAll enc Try.prog W' 0 sp true ts vs ds ps
  | [], [], [], _, _, h, _, _ => h
  | _ :: _, _ :: _, _ :: _, _, hT, ⟨p, q, h1, h2, e⟩, hlt, hs =>
    ⟨p, q, WideElems.Trod_stays laidOut' (hT _ (.head _)).1 (hT _ (.head _)).2 h1 (fun x hx => hb.same (hlt x (by rw [e]; exact List.mem_append_left _ hx))) (fun x hx => hs x (by rw [e]; exact List.mem_append_left _ hx)),
      stays hb (fun t ht => hT t (.tail _ ht)) h2 (fun x hx => hlt x (by rw [e]; exact List.mem_append_right _ hx)) (fun x hx => hs x (by rw [e]; exact List.mem_append_right _ hx)), e⟩

set_option maxRecDepth 100000 in
/-- a law that answers true and makes new memory alone -/
theorem law_post {H : Type} {enc : TypeId × Value → H} {f : Func} {s : ChangeSpec} {W W' : World} {args : Array Value} {ds gs : List (DataW H)} {before : List MemPlace}
    (hW : DataW.Whole enc Try.prog f.params.toList s.vars false W args.toList ds gs before) (hvars : s.vars = []) (hrt : f.resultTypes = #[4]) (hfn : s.fn H ds = { results := [.lit (.bool true)], args := ds })
    (hT : ∀ t ∈ f.params.toList, Try.prog.readableRec t = true ∧ t < Try.prog.types.size) (hb : Below W.heap.size W W') : s.post enc Try.prog f false true false false W args (.bool true) W' := by
  have hlt : ∀ x ∈ before, x.block < W.heap.size := fun x hx => hW.lt x hx
  have hW0 := hW
  obtain ⟨p, q, hA, hV, rfl, hz, -⟩ := hW0
  rw [hvars] at hV
  obtain ⟨rfl, rfl⟩ := trodVars_none hV
  simp only [List.append_nil] at hlt hW hz
  have hres : ∀ (b : Nat) (sp : Nat → Bool) (hd : Bool), DataW.TrodAll enc Try.prog W' b sp hd f.resultTypes.toList ((Value.bool true).resultList f.resultTypes.size) [.lit (.bool true)] [] := by
    rw [hrt]
    intro b sp hd
    exact trodAll_mk1 (shut_bool Try.underlying4 true)
  have hargs : ∀ sp : Nat → Bool, (∀ x ∈ p, sp x.block = true) → DataW.TrodAll enc Try.prog W' 0 sp true f.params.toList args.toList ds p := fun sp hs => stays hb hT hA hlt hs
  have hv : ∀ sp : Nat → Bool, DataW.TrodVars enc Try.prog W' sp s.vars [] [] := by
    rw [hvars]
    intro sp
    exact rfl
  have hold : ∀ x ∈ p, (fun b => decide (b < W.heap.size)) x.block = true := fun x hx => by simpa using hlt x hx
  refine ⟨ds, [], p, [], p, [], hW, ?_, ?_, ?_, ?_, fun _ => ?_⟩
  · rw [List.append_nil, hfn]; exact hres _ _ _
  · rw [List.append_nil, hfn]; exact hargs _ hold
  · rw [List.append_nil, hfn]; exact hv _
  · exact World.keptBut_mono (fun x hx => hx) (hb.frame _)
  · have hall : DataW.TrodAll enc Try.prog W' 0 (fun _ => true) true (f.resultTypes.toList ++ f.params.toList) ((Value.bool true).resultList f.resultTypes.size ++ args.toList) ([.lit (.bool true)] ++ ds) ([] ++ p) :=
      trodAll_append (hargs (fun _ => true) (fun _ _ => rfl)) (hres 0 (fun _ => true) true)
    have hzz : W'.noneFrozen ([] ++ p) := by
      intro b off hx
      rw [List.nil_append] at hx
      rw [hb.frozen (hlt _ hx)]
      exact hz b off hx
    have hvv := hv (fun _ => true)
    have hok : ∀ (j : Nat) (t : TypeId) (r : Value), f.resultTypes[j]? = some t → ((Value.bool true).resultList f.resultTypes.size)[j]? = some r → Value.okWide Try.prog W' .any 0 t r := by
      exact ok_one hrt rfl (okWide_bool_mk Try.underlying4 _)
    exact ⟨hok, _, _, _, ⟨_, _, hall, hvv, rfl, by rw [List.append_nil]; exact hzz, fun h => by cases h⟩, fun x hx _ => by simpa using hx⟩


theorem three {cs : Array Value} (h : cs.size = 3) : ∃ c0 c1 c2, cs = #[c0, c1, c2] := by
  obtain ⟨l⟩ := cs
  match l, h with
  | [c0, c1, c2], _ => exact ⟨c0, c1, c2, rfl⟩

set_option maxRecDepth 100000 in
/-- a struct of three ints, as it came in -/
theorem open_feed {H : Type} {enc : TypeId × Value → H} {W : World} {base : Nat} {v : Value} {d : DataW H} {p : List MemPlace} (hv : Value.okWide Try.prog W .any base 57 v) (h : DataW.Trod enc Try.prog W 0 (fun _ => true) true 57 v d p) :
    ∃ a b c : Int, v = .agg #[.int .i64 a, .int .i64 b, .int .i64 c] := by
  have k3 : Try.prog.cellsOf 57 = 3 := by kernel_rfl
  have k1 : Try.prog.cellsOf 3 = 1 := by kernel_rfl
  obtain ⟨cs, rfl, hsz⟩ := okWide_struct Try.underlying57 hv
  obtain ⟨c0, c1, c2, rfl⟩ := three (hsz.trans k3)
  obtain ⟨fuel, hf⟩ := h
  obtain ⟨z0, z1, z2, m2, -, -, x0, x1, x2⟩ := Go.Deep.trod_struct3 Try.underlying57 hf
  simp only [k1, Value.cells, List.drop_zero, List.drop_succ_cons, List.take_succ_cons, List.take_zero] at x0 x1 x2
  obtain ⟨n0, e0, -, -⟩ := DataW.trod_int Try.underlying3 x0
  obtain ⟨n1, e1, -, -⟩ := DataW.trod_int Try.underlying3 x1
  obtain ⟨n2, e2, -, -⟩ := DataW.trod_int Try.underlying3 x2
  cases e0
  cases e1
  cases e2
  exact ⟨n0, n1, n2, rfl⟩

set_option maxRecDepth 100000 in
/-- a struct of three ints, as it came in -/
theorem open_mesh {H : Type} {enc : TypeId × Value → H} {W : World} {base : Nat} {v : Value} {d : DataW H} {p : List MemPlace} (hv : Value.okWide Try.prog W .any base 37 v) (h : DataW.Trod enc Try.prog W 0 (fun _ => true) true 37 v d p) :
    ∃ a b c : Int, v = .agg #[.int .i64 a, .int .i64 b, .int .i64 c] := by
  have k3 : Try.prog.cellsOf 37 = 3 := by kernel_rfl
  have k1 : Try.prog.cellsOf 3 = 1 := by kernel_rfl
  obtain ⟨cs, rfl, hsz⟩ := okWide_struct Try.underlying37 hv
  obtain ⟨c0, c1, c2, rfl⟩ := three (hsz.trans k3)
  obtain ⟨fuel, hf⟩ := h
  obtain ⟨z0, z1, z2, m2, -, -, x0, x1, x2⟩ := Go.Deep.trod_struct3 Try.underlying37 hf
  simp only [k1, Value.cells, List.drop_zero, List.drop_succ_cons, List.take_succ_cons, List.take_zero] at x0 x1 x2
  obtain ⟨n0, e0, -, -⟩ := DataW.trod_int Try.underlying3 x0
  obtain ⟨n1, e1, -, -⟩ := DataW.trod_int Try.underlying3 x1
  obtain ⟨n2, e2, -, -⟩ := DataW.trod_int Try.underlying3 x2
  cases e0
  cases e1
  cases e2
  exact ⟨n0, n1, n2, rfl⟩

theorem two {α : Type} {cs : Array α} (h : cs.size = 2) : ∃ c0 c1, cs = #[c0, c1] := by
  obtain ⟨l⟩ := cs
  match l, h with
  | [c0, c1], _ => exact ⟨c0, c1, rfl⟩

set_option maxRecDepth 100000 in
/-- a struct of two ints, as it came in -/
theorem open_ratio {H : Type} {enc : TypeId × Value → H} {W : World} {base : Nat} {v : Value} {d : DataW H} {p : List MemPlace} (hv : Value.okWide Try.prog W .any base 23 v) (h : DataW.Trod enc Try.prog W 0 (fun _ => true) true 23 v d p) :
    ∃ a b : Int, v = .agg #[.int .i64 a, .int .i64 b] := by
  have k2 : Try.prog.cellsOf 23 = 2 := by kernel_rfl
  have k1 : Try.prog.cellsOf 3 = 1 := by kernel_rfl
  obtain ⟨cs, rfl, hsz⟩ := okWide_struct Try.underlying23 hv
  obtain ⟨c0, c1, rfl⟩ := two (hsz.trans k2)
  obtain ⟨fuel, hf⟩ := h
  obtain ⟨z0, z1, m2, -, -, x0, x1⟩ := trod_struct2 Try.underlying23 hf
  simp only [k1, Value.cells, List.drop_zero, List.drop_succ_cons, List.take_succ_cons, List.take_zero] at x0 x1
  obtain ⟨n0, e0, -, -⟩ := DataW.trod_int Try.underlying3 x0
  obtain ⟨n1, e1, -, -⟩ := DataW.trod_int Try.underlying3 x1
  cases e0
  cases e1
  exact ⟨n0, n1, rfl⟩


theorem one {α : Type} {cs : Array α} (h : cs.size = 1) : ∃ c0, cs = #[c0] := by
  obtain ⟨l⟩ := cs
  match l, h with
  | [c0], _ => exact ⟨c0, rfl⟩
set_option maxRecDepth 100000 in
/-- a struct of one int, as it came in -/
theorem open_bell {H : Type} {enc : TypeId × Value → H} {W : World} {base : Nat} {v : Value} {d : DataW H} {p : List MemPlace} (hv : Value.okWide Try.prog W .any base 59 v) (h : DataW.Trod enc Try.prog W 0 (fun _ => true) true 59 v d p) :
    ∃ a : Int, v = .agg #[.int .i64 a] ∧ (Lit.int .i64 a).wf = true := by
  have k2 : Try.prog.cellsOf 59 = 1 := by kernel_rfl
  have k1 : Try.prog.cellsOf 3 = 1 := by kernel_rfl
  obtain ⟨cs, rfl, hsz⟩ := okWide_struct Try.underlying59 hv
  obtain ⟨c0, rfl⟩ := one (hsz.trans k2)
  obtain ⟨fuel, hf⟩ := h
  obtain ⟨z0, m2, -, -, x0⟩ := trod_struct1 Try.underlying59 hf
  simp only [k1, Value.cells, List.drop_zero, List.drop_succ_cons, List.take_succ_cons, List.take_zero] at x0
  obtain ⟨n0, e0, -, hw⟩ := DataW.trod_int Try.underlying3 x0
  cases e0
  exact ⟨n0, rfl, hw⟩
theorem cell_lt {w : World} {a : Addr} {v : Value} (h : w.cell? a = some v) : a.block < w.heap.size := by
  rcases Nat.lt_or_ge a.block w.heap.size with hl | hl
  · exact hl
  · unfold World.cell? at h
    rw [Array.getElem?_eq_none hl] at h; cases h
set_option maxRecDepth 100000 in
/-- a slice of meshes, as it came in -/
theorem open_meshes {H : Type} {enc : TypeId × Value → H} {W : World} {fuel : Nat} {v : Value} {x : DataW H × List MemPlace} (h : DataW.trod enc Try.prog W 0 (fun _ => true) true fuel 33 [v] = some x) :
    ∃ ms, Mss W W.heap.size v ms := by
  have k3 : Try.prog.cellsOf 37 = 3 := by kernel_rfl
  have k1 : Try.prog.cellsOf 3 = 1 := by kernel_rfl
  rcases Go.Deep.open_slice Try.underlying33 h with ⟨h1, -⟩ | ⟨a, len, cap, m, n, D, Pl, h1, hb, hlc, hcm, hm, hx, hc⟩
  · cases h1
    exact ⟨[], none, 0, rfl, Nat.le_refl _, fun h => by simp at h⟩
  · cases h1
    simp only [if_true] at hm
    obtain ⟨b, off, spot⟩ := a
    have each : ∀ i, i < m → ∃ q : Mh, W.cell? ((⟨b, off, spot⟩ : Addr).add (i * 3)) = some (.int .i64 q.1) ∧ W.cell? ((⟨b, off, spot⟩ : Addr).add (i * 3 + 1)) = some (.int .i64 q.2.1) ∧ W.cell? ((⟨b, off, spot⟩ : Addr).add (i * 3 + 2)) = some (.int .i64 q.2.2) := by
      intro i hi
      obtain ⟨cs', g1, g2⟩ := hc i hi
      rw [k3] at g1
      obtain ⟨_, hlen, hcell⟩ := World.cells?_some g1
      obtain ⟨z0, z1, z2, m2, -, -, x0, x1, x2⟩ := Go.Deep.trod_struct3 Try.underlying37 g2
      match cs', hlen with
      | [c0, c1, c2], _ =>
        simp only [k1, List.drop_zero, List.drop_succ_cons, List.take_succ_cons, List.take_zero] at x0 x1 x2
        obtain ⟨n0, e0, -, -⟩ := DataW.trod_int Try.underlying3 x0
        obtain ⟨n1, e1, -, -⟩ := DataW.trod_int Try.underlying3 x1
        obtain ⟨n2, e2, -, -⟩ := DataW.trod_int Try.underlying3 x2
        cases e0
        cases e1
        cases e2
        have y0 := hcell 0 (by omega)
        have y1 := hcell 1 (by omega)
        have y2 := hcell 2 (by omega)
        rw [Go.Deep.add_add] at y0 y1 y2
        exact ⟨(n0, n1, n2), by simpa using y0, by simpa using y1, by simpa using y2⟩
    obtain ⟨q, hq⟩ := Go.Deep.choose_lt (α := Mh) each
    refine ⟨(List.range len).map q, some ⟨b, off, spot⟩, cap, by simp, by simpa using hlc, fun hp => ?_⟩
    simp only [List.length_map, List.length_range] at hp
    have h0 := (hq 0 (by omega)).1
    have hspot : spot = none := by simpa [Addr.add] using World.cell?_spot h0
    subst hspot
    refine ⟨b, off, rfl, by simpa [Addr.add] using cell_lt h0, fun k hk => ?_⟩
    simp only [List.length_map, List.length_range] at hk
    obtain ⟨c0, c1, c2⟩ := hq k (by omega)
    have e2 : ∀ j, (⟨b, off, none⟩ : Addr).add j = ⟨b, off + j, none⟩ := fun j => by rcases j with _ | j <;> simp [Addr.add]
    rw [e2] at c0 c1 c2
    rw [← Nat.add_assoc] at c1 c2
    rw [List.getElem_map, List.getElem_range]
    exact ⟨c0, c1, c2⟩
set_option maxRecDepth 100000 in
/-- a train, as it came in -/
theorem open_train {H : Type} {enc : TypeId × Value → H} {W : World} {base : Nat} {v : Value} {d : DataW H} {p : List MemPlace} (hv : Value.okWide Try.prog W .any base 35 v) (h : DataW.Trod enc Try.prog W 0 (fun _ => true) true 35 v d p) :
    ∃ ms, IsTr W W.heap.size v ms := by
  have k2 : Try.prog.cellsOf 35 = 1 := by kernel_rfl
  have k1 : Try.prog.cellsOf 33 = 1 := by kernel_rfl
  obtain ⟨cs, rfl, hsz⟩ := okWide_struct Try.underlying35 hv
  obtain ⟨c0, rfl⟩ := one (hsz.trans k2)
  obtain ⟨fuel, hf⟩ := h
  obtain ⟨z0, m2, -, -, x0⟩ := trod_struct1 Try.underlying35 hf
  simp only [k1, Value.cells, List.drop_zero, List.drop_succ_cons, List.take_succ_cons, List.take_zero] at x0
  obtain ⟨ms, hms⟩ := open_meshes x0
  exact ⟨ms, c0, rfl, hms⟩
theorem wf_le {n : Int} (h : (Lit.int .i64 n).wf = true) : n ≤ 9223372036854775807 := by have := bounds_i64 h; omega

end Go.Proofs.Ytmmfmanjajefcaa

/- What each statement of layers 2 and 3 wants: a pair of stones that came in is opened, and reads behind the call as it did. -/
import Derived.Test.YtikfiallhmhicaaGreatC20
import Derived.Deep.Strs
import Derived.ProofKit
import Derived.OpenShut
import Derived.Lib.SmallJoins
import Derived.Deep.SlicePairs
import Derived.Deep.DeepHandedRow
import Derived.Deep.DeepWitnessRowRef
import Derived.WideKeyArgs
import Derived.HandedShaped
namespace Go.Proofs.YtikfiallhmhicaaGreat
open Go.ChangeShapes Go.WideShapes Go.ChangeAt Go.RowKit

theorem own : ownKnob Tryz.prog.godebug = none := by kernel_rfl
theorem laidOut' : laidOutB Tryz.prog = true := by kernel_rfl

/-- what was read, and is left alone, reads again -/
theorem stays {H : Type} {enc : TypeId × Value → H} {W W' : World} (hb : Below W.heap.size W W') {sp : Nat → Bool} : ∀ {ts : List TypeId} {vs : List Value} {ds : List (DataW H)} {ps : List MemPlace},
    (∀ t ∈ ts, Tryz.prog.readableRec t = true ∧ t < Tryz.prog.types.size) → DataW.TrodAll enc Tryz.prog W 0 (fun _ => true) true ts vs ds ps → (∀ x ∈ ps, x.block < W.heap.size) → (∀ x ∈ ps, sp x.block = true) → DataW.TrodAll enc Tryz.prog W' 0 sp true ts vs ds ps
  | [], [], [], _, _, h, _, _ => h
  | _ :: _, _ :: _, _ :: _, _, hT, ⟨p, q, h1, h2, e⟩, hlt, hs =>
    ⟨p, q, WideElems.Trod_stays laidOut' (hT _ (.head _)).1 (hT _ (.head _)).2 h1 (fun x hx => hb.same (hlt x (by rw [e]; exact List.mem_append_left _ hx))) (fun x hx => hs x (by rw [e]; exact List.mem_append_left _ hx)),
      stays hb (fun t ht => hT t (.tail _ ht)) h2 (fun x hx => hlt x (by rw [e]; exact List.mem_append_right _ hx)) (fun x hx => hs x (by rw [e]; exact List.mem_append_right _ hx)), e⟩

set_option maxRecDepth 100000 in
/-- a law that answers true and makes new memory alone -/
theorem law_post {H : Type} {enc : TypeId × Value → H} {f : Func} {s : ChangeSpec} {W W' : World} {args : Array Value} {ds gs : List (DataW H)} {before : List MemPlace}
    (hW : DataW.Whole enc Tryz.prog f.params.toList s.vars false W args.toList ds gs before) (hvars : s.vars = []) (hrt : f.resultTypes = #[4]) (hfn : s.fn H ds = { results := [.lit (.bool true)], args := ds })
    (hT : ∀ t ∈ f.params.toList, Tryz.prog.readableRec t = true ∧ t < Tryz.prog.types.size) (hb : Below W.heap.size W W') : s.post enc Tryz.prog f false true false false W args (.bool true) W' := by
  have hlt : ∀ x ∈ before, x.block < W.heap.size := fun x hx => hW.lt x hx
  have hW0 := hW
  obtain ⟨p, q, hA, hV, rfl, hz, -⟩ := hW0
  rw [hvars] at hV
  obtain ⟨rfl, rfl⟩ := trodVars_none hV
  simp only [List.append_nil] at hlt hW hz
  have hres : ∀ (b : Nat) (sp : Nat → Bool) (hd : Bool), DataW.TrodAll enc Tryz.prog W' b sp hd f.resultTypes.toList ((Value.bool true).resultList f.resultTypes.size) [.lit (.bool true)] [] := by
    rw [hrt]
    intro b sp hd
    exact trodAll_mk1 (shut_bool Tryz.underlying4 true)
  have hargs : ∀ sp : Nat → Bool, (∀ x ∈ p, sp x.block = true) → DataW.TrodAll enc Tryz.prog W' 0 sp true f.params.toList args.toList ds p := fun sp hs => stays hb hT hA hlt hs
  have hv : ∀ sp : Nat → Bool, DataW.TrodVars enc Tryz.prog W' sp s.vars [] [] := by
    rw [hvars]
    intro sp
    exact rfl
  have hold : ∀ x ∈ p, (fun b => decide (b < W.heap.size)) x.block = true := fun x hx => by simpa using hlt x hx
  refine ⟨ds, [], p, [], p, [], hW, ?_, ?_, ?_, ?_, fun _ => ?_⟩
  · rw [List.append_nil, hfn]; exact hres _ _ _
  · rw [List.append_nil, hfn]; exact hargs _ hold
  · rw [List.append_nil, hfn]; exact hv _
  · exact World.keptBut_mono (fun x hx => hx) (hb.frame _)
  · have hall : DataW.TrodAll enc Tryz.prog W' 0 (fun _ => true) true (f.resultTypes.toList ++ f.params.toList) ((Value.bool true).resultList f.resultTypes.size ++ args.toList) ([.lit (.bool true)] ++ ds) ([] ++ p) :=
      trodAll_append (hargs (fun _ => true) (fun _ _ => rfl)) (hres 0 (fun _ => true) true)
    have hzz : W'.noneFrozen ([] ++ p) := by
      intro b off hx
      rw [List.nil_append] at hx
      rw [hb.frozen (hlt _ hx)]
      exact hz b off hx
    have hvv := hv (fun _ => true)
    have hok : ∀ (j : Nat) (t : TypeId) (r : Value), f.resultTypes[j]? = some t → ((Value.bool true).resultList f.resultTypes.size)[j]? = some r → Value.okWide Tryz.prog W' .any 0 t r := by
      exact ok_one hrt rfl (okWide_bool_mk Tryz.underlying4 _)
    exact ⟨hok, _, _, _, ⟨_, _, hall, hvv, rfl, by rw [List.append_nil]; exact hzz, fun h => by cases h⟩, fun x hx _ => by simpa using hx⟩


theorem cell_lt {w : World} {a : Addr} {v : Value} (h : w.cell? a = some v) : a.block < w.heap.size := by
  rcases Nat.lt_or_ge a.block w.heap.size with hl | hl
  · exact hl
  · unfold World.cell? at h
    rw [Array.getElem?_eq_none hl] at h; cases h
theorem add_off (b off : Nat) (j : Nat) : (⟨b, off, none⟩ : Addr).add j = ⟨b, off + j, none⟩ := by rcases j with _ | j <;> simp [Addr.add]
set_option maxRecDepth 100000 in
/-- a slice of ints, as it came in -/
theorem open_kinds {H : Type} {enc : TypeId × Value → H} {W : World} {fuel : Nat} {v : Value} {x : DataW H × List MemPlace} (h : DataW.trod enc Tryz.prog W 0 (fun _ => true) true fuel 26 [v] = some x)
    (hsz : (x.1.weights Tryz.prog 26).all (· ≤ reachBytes) = true) : ∃ l, Ints W W.heap.size v l := by
  rcases open_ints Tryz.underlying26 Tryz.underlying3 (by kernel_rfl) h with ⟨h1, -⟩ | ⟨a, len, cap, zs, h1, hb, hlc, hcm, hlen, hx, hc, hw⟩
  · cases h1
    exact ⟨[], by simp, none, 0, rfl, Nat.le_refl _, fun h => by simp at h⟩
  · cases h1
    simp only [if_true] at hlen
    have hbytes : Tryz.prog.bytesOf 3 = 8 := by kernel_rfl
    rw [hx] at hsz
    simp only [DataW.weights, Tryz.underlying26, List.all_cons, Bool.and_eq_true, decide_eq_true_iff] at hsz
    obtain ⟨hsz, -⟩ := hsz
    have hl2 : (lits (H := H) .i64 (zs.take len)).length + (lits (H := H) .i64 (zs.drop len)).length = zs.length := by
      simp only [lits, List.length_map, List.length_take, List.length_drop]; omega
    rw [hl2, hbytes] at hsz
    unfold reachBytes at hsz
    have htl : (zs.take len).length = len := by rw [List.length_take]; omega
    obtain ⟨b, off, spot⟩ := a
    refine ⟨zs.take len, by rw [htl]; omega, some ⟨b, off, spot⟩, cap, by rw [htl], by rw [htl]; exact hlc, fun hp => ?_⟩
    rw [htl] at hp
    have h0 := hc 0 (by omega)
    have hspot : spot = none := by simpa [Addr.add] using World.cell?_spot h0
    subst hspot
    refine ⟨b, off, rfl, by simpa [Addr.add] using cell_lt h0, fun k hk => ?_⟩
    rw [htl] at hk
    have h1 := hc k (by omega)
    have e : nth (zs.take len) k = zs.getD k 0 := by
      unfold nth
      rw [List.getD_eq_getElem?_getD, List.getD_eq_getElem?_getD, List.getElem?_take_of_lt hk]
    have e2 : (⟨b, off, none⟩ : Addr).add k = ⟨b, off + k, none⟩ := by rcases k with _ | k <;> simp [Addr.add]
    rw [e, ← e2]
    exact h1


theorem nine {cs : Array Value} (h : cs.size = 9) : ∃ c0 c1 c2 c3 c4 c5 c6 c7 c8, cs = #[c0, c1, c2, c3, c4, c5, c6, c7, c8] := by
  obtain ⟨l⟩ := cs
  match l, h with
  | [c0, c1, c2, c3, c4, c5, c6, c7, c8], _ => exact ⟨c0, c1, c2, c3, c4, c5, c6, c7, c8, rfl⟩
theorem three {cs : Array Value} (h : cs.size = 3) : ∃ c0 c1 c2, cs = #[c0, c1, c2] := by
  obtain ⟨l⟩ := cs
  match l, h with
  | [c0, c1, c2], _ => exact ⟨c0, c1, c2, rfl⟩
set_option maxRecDepth 100000 in
/-- the cells of a face, as they came in -/
theorem open_face4 {H : Type} {enc : TypeId × Value → H} {W : World} {fuel : Nat} {c0 c1 c2 c3 : Value} {x : DataW H × List MemPlace} (h : DataW.trod enc Tryz.prog W 0 (fun _ => true) true fuel 28 [c0, c1, c2, c3] = some x)
    (hsz : (x.1.weights Tryz.prog 28).all (· ≤ reachBytes) = true) : ∃ f : Fc, c0 = .int .i64 f.eye ∧ c1 = .int .i64 f.rings ∧ c2 = .int .i64 f.sectors ∧ Ints W W.heap.size c3 f.kinds := by
  have k1 : Tryz.prog.cellsOf 3 = 1 := by kernel_rfl
  have k2 : Tryz.prog.cellsOf 26 = 1 := by kernel_rfl
  obtain ⟨y0, y1, y2, y3, n, hx, -, x0, x1, x2, x3⟩ := Joins.trod_struct4 Tryz.underlying28 h
  subst hx
  simp only [k1, k2, List.drop_zero, List.drop_succ_cons, List.take_succ_cons, List.take_zero] at x0 x1 x2 x3
  obtain ⟨n0, e0, -, -⟩ := DataW.trod_int Tryz.underlying3 x0
  obtain ⟨n1, e1, -, -⟩ := DataW.trod_int Tryz.underlying3 x1
  obtain ⟨n2, e2, -, -⟩ := DataW.trod_int Tryz.underlying3 x2
  cases e0
  cases e1
  cases e2
  have h4 : (y3.1.weights Tryz.prog 26).all (· ≤ reachBytes) = true := by
    simp only [DataW.weights, Tryz.underlying28, DataW.weightsEach, List.map_cons, List.map_nil, List.append_nil, List.all_append, Bool.and_eq_true] at hsz
    exact hsz.2.2.2
  obtain ⟨l, hl⟩ := open_kinds x3 h4
  exact ⟨⟨n0, n1, n2, l⟩, rfl, rfl, rfl, hl⟩
instance : Inhabited Mv := ⟨mv0⟩
set_option maxRecDepth 100000 in
/-- a slice of moves, as it came in -/
theorem open_moves {H : Type} {enc : TypeId × Value → H} {W : World} {fuel : Nat} {v : Value} {x : DataW H × List MemPlace} (h : DataW.trod enc Tryz.prog W 0 (fun _ => true) true fuel 51 [v] = some x) :
    ∃ ms, Moves W W.heap.size v ms := by
  have k3 : Tryz.prog.cellsOf 50 = 3 := by kernel_rfl
  have k1 : Tryz.prog.cellsOf 3 = 1 := by kernel_rfl
  have kb : Tryz.prog.cellsOf 4 = 1 := by kernel_rfl
  rcases Go.Deep.open_slice Tryz.underlying51 h with ⟨h1, -⟩ | ⟨a, len, cap, m, n, D, Pl, h1, hb, hlc, hcm, hm, hx, hc⟩
  · cases h1
    exact ⟨[], by simp, none, 0, rfl, Nat.le_refl _, fun h => by simp at h⟩
  · cases h1
    simp only [if_true] at hm
    obtain ⟨b, off, spot⟩ := a
    have each : ∀ i, i < m → ∃ q : Mv, W.cell? ((⟨b, off, spot⟩ : Addr).add (i * 3)) = some (.int .i64 q.out) ∧ W.cell? ((⟨b, off, spot⟩ : Addr).add (i * 3 + 1)) = some (.int .i64 q.side) ∧ W.cell? ((⟨b, off, spot⟩ : Addr).add (i * 3 + 2)) = some (.bool q.cut) := by
      intro i hi
      obtain ⟨cs', g1, g2⟩ := hc i hi
      rw [k3] at g1
      obtain ⟨_, hlen, hcell⟩ := World.cells?_some g1
      obtain ⟨z0, z1, z2, m2, -, -, x0, x1, x2⟩ := Go.Deep.trod_struct3 Tryz.underlying50 g2
      match cs', hlen with
      | [c0, c1, c2], _ =>
        simp only [k1, kb, List.drop_zero, List.drop_succ_cons, List.take_succ_cons, List.take_zero] at x0 x1 x2
        obtain ⟨n0, e0, -, -⟩ := DataW.trod_int Tryz.underlying3 x0
        obtain ⟨n1, e1, -, -⟩ := DataW.trod_int Tryz.underlying3 x1
        obtain ⟨n2, e2, -⟩ := DataW.trod_bool Tryz.underlying4 x2
        cases e0
        cases e1
        cases e2
        have y0 := hcell 0 (by omega)
        have y1 := hcell 1 (by omega)
        have y2 := hcell 2 (by omega)
        rw [Go.Deep.add_add] at y0 y1 y2
        exact ⟨⟨n0, n1, n2⟩, by simpa using y0, by simpa using y1, by simpa using y2⟩
    obtain ⟨q, hq⟩ := Go.Deep.choose_lt (α := Mv) each
    refine ⟨(List.range len).map q, by simp, some ⟨b, off, spot⟩, cap, by simp, by simpa using hlc, fun hp => ?_⟩
    simp only [List.length_map, List.length_range] at hp
    have h0 := (hq 0 (by omega)).1
    have hspot : spot = none := by simpa [Addr.add] using World.cell?_spot h0
    subst hspot
    refine ⟨b, off, rfl, by simpa [Addr.add] using cell_lt h0, fun k hk => ?_⟩
    simp only [List.length_map, List.length_range] at hk
    obtain ⟨c0, c1, c2⟩ := hq k (by omega)
    rw [add_off] at c0 c1 c2
    rw [← Nat.add_assoc] at c1 c2
    have e : nthM ((List.range len).map q) k = q k := by unfold nthM; rw [List.getD_eq_getElem?_getD, List.getElem?_map, List.getElem?_range hk]; rfl
    rw [e]
    exact ⟨c0, c1, c2⟩
set_option maxRecDepth 100000 in
/-- a slice of slices of moves, as it came in -/
theorem open_drive {H : Type} {enc : TypeId × Value → H} {W : World} {fuel : Nat} {v : Value} {x : DataW H × List MemPlace} (h : DataW.trod enc Tryz.prog W 0 (fun _ => true) true fuel 29 [v] = some x) :
    ∃ ms, Drive W W.heap.size v ms := by
  rcases Go.Deep.open_slice1 Tryz.underlying29 (by kernel_rfl) h with ⟨h1, -⟩ | ⟨a, len, cap, m, n, V, D, Pl, h1, hb, hlc, hcm, hm, hx, hc⟩
  · cases h1
    exact ⟨[], by simp, none, 0, rfl, Nat.le_refl _, fun h => by simp at h⟩
  · cases h1
    simp only [if_true] at hm
    obtain ⟨b, off, spot⟩ := a
    have each : ∀ i, i < m → ∃ q : List Mv, W.cell? ((⟨b, off, spot⟩ : Addr).add i) = some (V i) ∧ Moves W W.heap.size (V i) q := by
      intro i hi
      obtain ⟨g1, g2⟩ := hc i hi
      obtain ⟨q, hq⟩ := open_moves g2
      exact ⟨q, g1, hq⟩
    obtain ⟨q, hq⟩ := Go.Deep.choose_lt (α := List Mv) each
    refine ⟨(List.range len).map q, by simp, some ⟨b, off, spot⟩, cap, by simp, by simpa using hlc, fun hp => ?_⟩
    simp only [List.length_map, List.length_range] at hp
    have h0 := (hq 0 (by omega)).1
    have hspot : spot = none := by simpa [Addr.add] using World.cell?_spot h0
    subst hspot
    refine ⟨b, off, rfl, by simpa [Addr.add] using cell_lt h0, fun k hk => ?_⟩
    simp only [List.length_map, List.length_range] at hk
    obtain ⟨c0, c1⟩ := hq k (by omega)
    rw [add_off] at c0
    have e : nthL ((List.range len).map q) k = q k := by unfold nthL; rw [List.getD_eq_getElem?_getD, List.getElem?_map, List.getElem?_range hk]; rfl
    rw [e]
    exact ⟨_, c0, c1⟩
set_option maxRecDepth 100000 in
/-- a pair of stones, as it came in -/
theorem open_pair {H : Type} {enc : TypeId × Value → H} {W : World} {base : Nat} {v : Value} {d : DataW H} {p : List MemPlace} (hv : Value.okWide Tryz.prog W .any base 31 v) (h : DataW.Trod enc Tryz.prog W 0 (fun _ => true) true 31 v d p)
    (hsz : (d.weights Tryz.prog 31).all (· ≤ reachBytes) = true) : ∃ q, IsPair W W.heap.size v q := by
  have k9 : Tryz.prog.cellsOf 31 = 9 := by kernel_rfl
  have k4 : Tryz.prog.cellsOf 28 = 4 := by kernel_rfl
  have k1 : Tryz.prog.cellsOf 29 = 1 := by kernel_rfl
  obtain ⟨cs, rfl, hsz'⟩ := okWide_struct Tryz.underlying31 hv
  obtain ⟨c0, c1, c2, c3, c4, c5, c6, c7, c8, rfl⟩ := nine (hsz'.trans k9)
  obtain ⟨fuel, hf⟩ := h
  obtain ⟨y0, y1, y2, n, hx, -, x0, x1, x2⟩ := Go.Deep.trod_struct3 Tryz.underlying31 hf
  obtain ⟨rfl, rfl⟩ := Prod.mk.inj hx
  simp only [DataW.weights, Tryz.underlying31, DataW.weightsEach, List.map_cons, List.map_nil, List.append_nil, List.all_append, Bool.and_eq_true] at hsz
  simp only [k4, k1, Value.cells, List.drop_zero, List.drop_succ_cons, List.take_succ_cons, List.take_zero] at x0 x1 x2
  obtain ⟨f, rfl, rfl, rfl, hk1⟩ := open_face4 x0 hsz.1
  obtain ⟨g, rfl, rfl, rfl, hk2⟩ := open_face4 x1 hsz.2.1
  obtain ⟨ms, hms⟩ := open_drive x2
  exact ⟨⟨f, g, ms⟩, c3, c7, c8, rfl, hk1, hk2, hms⟩
set_option maxRecDepth 100000 in
/-- a state, as it came in -/
theorem open_state {H : Type} {enc : TypeId × Value → H} {W : World} {base : Nat} {v : Value} {d : DataW H} {p : List MemPlace} (hv : Value.okWide Tryz.prog W .any base 46 v) (h : DataW.Trod enc Tryz.prog W 0 (fun _ => true) true 46 v d p) :
    ∃ a b c : Int, v = .agg #[.int .i64 a, .int .i64 b, .int .i64 c] := by
  have k3 : Tryz.prog.cellsOf 46 = 3 := by kernel_rfl
  have k1 : Tryz.prog.cellsOf 3 = 1 := by kernel_rfl
  obtain ⟨cs, rfl, hsz⟩ := okWide_struct Tryz.underlying46 hv
  obtain ⟨c0, c1, c2, rfl⟩ := three (hsz.trans k3)
  obtain ⟨fuel, hf⟩ := h
  obtain ⟨z0, z1, z2, m2, -, -, x0, x1, x2⟩ := Go.Deep.trod_struct3 Tryz.underlying46 hf
  simp only [k1, Value.cells, List.drop_zero, List.drop_succ_cons, List.take_succ_cons, List.take_zero] at x0 x1 x2
  obtain ⟨n0, e0, -, -⟩ := DataW.trod_int Tryz.underlying3 x0
  obtain ⟨n1, e1, -, -⟩ := DataW.trod_int Tryz.underlying3 x1
  obtain ⟨n2, e2, -, -⟩ := DataW.trod_int Tryz.underlying3 x2
  cases e0
  cases e1
  cases e2
  exact ⟨n0, n1, n2, rfl⟩
set_option maxRecDepth 100000 in
/-- a move, as it came in -/
theorem open_move {H : Type} {enc : TypeId × Value → H} {W : World} {base : Nat} {v : Value} {d : DataW H} {p : List MemPlace} (hv : Value.okWide Tryz.prog W .any base 50 v) (h : DataW.Trod enc Tryz.prog W 0 (fun _ => true) true 50 v d p) :
    ∃ (a b : Int) (c : Bool), v = .agg #[.int .i64 a, .int .i64 b, .bool c] := by
  have k3 : Tryz.prog.cellsOf 50 = 3 := by kernel_rfl
  have k1 : Tryz.prog.cellsOf 3 = 1 := by kernel_rfl
  have kb : Tryz.prog.cellsOf 4 = 1 := by kernel_rfl
  obtain ⟨cs, rfl, hsz⟩ := okWide_struct Tryz.underlying50 hv
  obtain ⟨c0, c1, c2, rfl⟩ := three (hsz.trans k3)
  obtain ⟨fuel, hf⟩ := h
  obtain ⟨z0, z1, z2, m2, -, -, x0, x1, x2⟩ := Go.Deep.trod_struct3 Tryz.underlying50 hf
  simp only [k1, kb, Value.cells, List.drop_zero, List.drop_succ_cons, List.take_succ_cons, List.take_zero] at x0 x1 x2
  obtain ⟨n0, e0, -, -⟩ := DataW.trod_int Tryz.underlying3 x0
  obtain ⟨n1, e1, -, -⟩ := DataW.trod_int Tryz.underlying3 x1
  obtain ⟨n2, e2, -⟩ := DataW.trod_bool Tryz.underlying4 x2
  cases e0
  cases e1
  cases e2
  exact ⟨n0, n1, n2, rfl⟩

end Go.Proofs.YtikfiallhmhicaaGreat

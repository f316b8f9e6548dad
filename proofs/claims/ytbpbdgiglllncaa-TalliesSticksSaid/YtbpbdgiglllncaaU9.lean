/- What each statement of layer 9 wants: bytes and lists of bytes that came in are opened, and read behind the call as they did. -/
import Derived.Test.YtbpbdgiglllncaaU1
import Derived.Deep.Strs
import Derived.ProofKit
import Derived.OpenShut
import Derived.Lib.SmallJoins
import Derived.Deep.SlicePairs
import Derived.Deep.DeepHandedRow
import Derived.Deep.DeepWitnessRowRef
import Derived.WideKeyArgs
import Derived.HandedShaped
set_option linter.all false
namespace Go.Proofs.Ytbpbdgiglllncaa
open Go.ChangeShapes Go.WideShapes Go.ChangeAt Go.RowKit

theorem own : ownKnob Try.prog.godebug = none := by kernel_rfl
theorem laidOut' : laidOutB Try.prog = true := by kernel_rfl

/-- what was read, and is left alone, reads again -/
theorem stays {H : Type} {enc : TypeId × Value → H} {W W' : World} (hb : Below W.heap.size W W') {sp : Nat → Bool} : ∀ {ts : List TypeId} {vs : List Value} {ds : List (DataW H)} {ps : List MemPlace},
    (∀ t ∈ ts, Try.prog.readableRec t = true ∧ t < Try.prog.types.size) → DataW.TrodAll enc Try.prog W 0 (fun _ => true) true ts vs ds ps → (∀ x ∈ ps, x.block < W.heap.size) → (∀ x ∈ ps, sp x.block = true) → DataW.TrodAll enc Try.prog W' 0 sp true ts vs ds ps
  | [], [], [], _, _, h, _, _ => h
  | _ :: _, _ :: _, _ :: _, _, hT, ⟨p, q, h1, h2, e⟩, hlt, hs =>
    ⟨p, q, WideElems.Trod_stays laidOut' (hT _ (.head _)).1 (hT _ (.head _)).2 h1 (fun x hx => hb.same (hlt x (by rw [e]; exact List.mem_append_left _ hx))) (fun x hx => hs x (by rw [e]; exact List.mem_append_left _ hx)),
      stays hb (fun t ht => hT t (.tail _ ht)) h2 (fun x hx => hlt x (by rw [e]; exact List.mem_append_right _ hx)) (fun x hx => hs x (by rw [e]; exact List.mem_append_right _ hx)), e⟩

set_option maxRecDepth 100000 in
/-- a law that answers true and makes new memory alone -/
theorem law_post {H : Type} {enc : TypeId × Value → H} {f : Func} {s : ChangeSpec} {W W' : World} {args : Array Value} {ds gs : List (DataW H)} {before : List MemPlace}
    (hW : DataW.Whole enc Try.prog f.params.toList s.vars false W args.toList ds gs before) (hvars : s.vars = []) (hrt : f.resultTypes = #[4]) (hfn : s.fn H ds = { results := [.lit (.bool true)], args := ds })
    (hT : ∀ t ∈ f.params.toList, Try.prog.readableRec t = true ∧ t < Try.prog.types.size) (hb : Below W.heap.size W W') : s.post enc Try.prog f false true false false W args (.bool true) W' := by
  have hlt : ∀ x ∈ before, x.block < W.heap.size := fun x hx => hW.lt x hx
  have hW0 := hW
  obtain ⟨p, q, hA, hV, rfl, hz, -⟩ := hW0
  rw [hvars] at hV
  obtain ⟨rfl, rfl⟩ := trodVars_none hV
  simp only [List.append_nil] at hlt hW hz
  have hres : ∀ (b : Nat) (sp : Nat → Bool) (hd : Bool), DataW.TrodAll enc Try.prog W' b sp hd f.resultTypes.toList ((Value.bool true).resultList f.resultTypes.size) [.lit (.bool true)] [] := by
    rw [hrt]
    intro b sp hd
    exact trodAll_mk1 (shut_bool Try.underlying4 true)
  have hargs : ∀ sp : Nat → Bool, (∀ x ∈ p, sp x.block = true) → DataW.TrodAll enc Try.prog W' 0 sp true f.params.toList args.toList ds p := fun sp hs => stays hb hT hA hlt hs
  have hv : ∀ sp : Nat → Bool, DataW.TrodVars enc Try.prog W' sp s.vars [] [] := by
    rw [hvars]
    intro sp
    exact rfl
  have hold : ∀ x ∈ p, (fun b => decide (b < W.heap.size)) x.block = true := fun x hx => by simpa using hlt x hx
  refine ⟨ds, [], p, [], p, [], hW, ?_, ?_, ?_, ?_, fun _ => ?_⟩
  · rw [List.append_nil, hfn]; exact hres _ _ _
  · rw [List.append_nil, hfn]; exact hargs _ hold
  · rw [List.append_nil, hfn]; exact hv _
  · exact World.keptBut_mono (fun x hx => hx) (hb.frame _)
  · have hall : DataW.TrodAll enc Try.prog W' 0 (fun _ => true) true (f.resultTypes.toList ++ f.params.toList) ((Value.bool true).resultList f.resultTypes.size ++ args.toList) ([.lit (.bool true)] ++ ds) ([] ++ p) :=
      trodAll_append (hargs (fun _ => true) (fun _ _ => rfl)) (hres 0 (fun _ => true) true)
    have hzz : W'.noneFrozen ([] ++ p) := by
      intro b off hx
      rw [List.nil_append] at hx
      rw [hb.frozen (hlt _ hx)]
      exact hz b off hx
    have hvv := hv (fun _ => true)
    have hok : ∀ (j : Nat) (t : TypeId) (r : Value), f.resultTypes[j]? = some t → ((Value.bool true).resultList f.resultTypes.size)[j]? = some r → Value.okWide Try.prog W' .any 0 t r := by
      exact ok_one hrt rfl (okWide_bool_mk Try.underlying4 _)
    exact ⟨hok, _, _, _, ⟨_, _, hall, hvv, rfl, by rw [List.append_nil]; exact hzz, fun h => by cases h⟩, fun x hx _ => by simpa using hx⟩


theorem cell_lt {w : World} {a : Addr} {v : Value} (h : w.cell? a = some v) : a.block < w.heap.size := by
  rcases Nat.lt_or_ge a.block w.heap.size with hl | hl
  · exact hl
  · unfold World.cell? at h
    rw [Array.getElem?_eq_none hl] at h; cases h
theorem add_off (b off : Nat) (j : Nat) : (⟨b, off, none⟩ : Addr).add j = ⟨b, off + j, none⟩ := by rcases j with _ | j <;> simp [Addr.add]

set_option maxRecDepth 100000 in
/-- a slice of bytes, as it came in -/
theorem open_bys {H : Type} {enc : TypeId × Value → H} {W : World} {fuel : Nat} {v : Value} {x : DataW H × List MemPlace} (h : DataW.trod enc Try.prog W 0 (fun _ => true) true fuel 31 [v] = some x)
    (hsz : (x.1.weights Try.prog 31).all (· ≤ reachBytes) = true) : ∃ l, Bys W W.heap.size v l := by
  rcases open_ints Try.underlying31 Try.underlying5 (by kernel_rfl) h with ⟨h1, -⟩ | ⟨a, len, cap, zs, h1, hb, hlc, hcm, hlen, hx, hc, hw⟩
  · cases h1
    exact ⟨[], Bys.nil _ _⟩
  · cases h1
    simp only [if_true] at hlen
    have hbytes : Try.prog.bytesOf 5 = 1 := by kernel_rfl
    rw [hx] at hsz
    simp only [DataW.weights, Try.underlying31, List.all_cons, Bool.and_eq_true, decide_eq_true_iff] at hsz
    obtain ⟨hsz, -⟩ := hsz
    have hl2 : (lits (H := H) .u8 (zs.take len)).length + (lits (H := H) .u8 (zs.drop len)).length = zs.length := by
      simp only [lits, List.length_map, List.length_take, List.length_drop]; omega
    rw [hl2, hbytes] at hsz
    unfold reachBytes at hsz
    have htl : (zs.take len).length = len := by rw [List.length_take]; omega
    have hby : IsBy zs := fun k => by have := range_u8 hw k; unfold nth; rw [List.getD_eq_getElem?_getD]; exact this
    obtain ⟨b, off, spot⟩ := a
    refine ⟨zs.take len, by rw [htl]; omega, hby.take len, some ⟨b, off, spot⟩, cap, by rw [htl], by rw [htl]; exact hlc, fun hp => ?_⟩
    rw [htl] at hp
    have h0 := hc 0 (by omega)
    have hspot : spot = none := by simpa [Addr.add] using World.cell?_spot h0
    subst hspot
    refine ⟨b, off, rfl, by simpa [Addr.add] using cell_lt h0, fun k hk => ?_⟩
    rw [htl] at hk
    have h1 := hc k (by omega)
    have e : nth (zs.take len) k = zs.getD k 0 := by
      unfold nth
      rw [List.getD_eq_getElem?_getD, List.getD_eq_getElem?_getD, List.getElem?_take_of_lt hk]
    have e2 : (⟨b, off, none⟩ : Addr).add k = ⟨b, off + k, none⟩ := by rcases k with _ | k <;> simp [Addr.add]
    rw [e, ← e2]
    exact h1
set_option maxRecDepth 100000 in
/-- the same, at a reading of whatever depth -/
theorem open_bytes {H : Type} {enc : TypeId × Value → H} {W : World} {base : Nat} {v : Value} {d : DataW H} {p : List MemPlace} (hv : Value.okWide Try.prog W .any base 31 v) (h : DataW.Trod enc Try.prog W 0 (fun _ => true) true 31 v d p)
    (hsz : (d.weights Try.prog 31).all (· ≤ reachBytes) = true) : ∃ l, Bys W W.heap.size v l := by
  obtain ⟨a1, len, cap, rfl⟩ := okWide_slice Try.underlying31 hv
  obtain ⟨fuel, hf⟩ := h
  exact open_bys hf hsz
theorem w_mem {H : Type} {e : TypeId} {l : List (DataW H)} {d : DataW H} (h : d ∈ l) (hs : ∀ n ∈ DataW.weightsAll Try.prog e l, n ≤ reachBytes) : ∀ n ∈ d.weights Try.prog e, n ≤ reachBytes := by
  induction l with
  | nil => cases h
  | cons x l ih =>
    unfold DataW.weightsAll at hs
    rcases List.mem_cons.1 h with rfl | h
    · exact fun n hn => hs n (List.mem_append_left _ hn)
    · exact ih h (fun n hn => hs n (List.mem_append_right _ hn))
set_option maxRecDepth 100000 in
/-- a slice of slices of bytes, as it came in -/
theorem open_byl {H : Type} {enc : TypeId × Value → H} {W : World} {base : Nat} {v : Value} {d : DataW H} {p : List MemPlace} (hv : Value.okWide Try.prog W .any base 44 v) (h : DataW.Trod enc Try.prog W 0 (fun _ => true) true 44 v d p)
    (hsz : (d.weights Try.prog 44).all (· ≤ reachBytes) = true) : ∃ l, ByL W W.heap.size v l := by
  obtain ⟨a1, len1, cap1, rfl⟩ := okWide_slice Try.underlying44 hv
  obtain ⟨fuel, hf⟩ := h
  rcases Go.Deep.open_slice1 Try.underlying44 (by kernel_rfl) hf with ⟨h1, -⟩ | ⟨a, len, cap, m, n, V, D, Pl, h1, hb, hlc, hcm, hm, hx, hc⟩
  · cases h1
    exact ⟨[], by simp, none, 0, rfl, Nat.le_refl _, fun h => by simp at h⟩
  · cases h1
    simp only [if_true] at hm
    obtain ⟨rfl, rfl⟩ := Prod.mk.inj hx
    have hbytes : Try.prog.bytesOf 31 = 24 := by kernel_rfl
    simp only [DataW.weights, Try.underlying44, List.all_cons, Bool.and_eq_true, decide_eq_true_iff, List.length_map, List.length_range, hbytes] at hsz
    obtain ⟨hsz1, hsz2⟩ := hsz
    have hall : ∀ n ∈ DataW.weightsAll Try.prog 31 ((List.range len1).map D), n ≤ reachBytes := fun n hn => by
      have := List.all_eq_true.1 hsz2 n (List.mem_append_left _ hn)
      simpa using this
    obtain ⟨b, off, spot⟩ := a
    have each : ∀ i, i < len1 → ∃ q : List Int, W.cell? ((⟨b, off, spot⟩ : Addr).add i) = some (V i) ∧ Bys W W.heap.size (V i) q := by
      intro i hi
      obtain ⟨g1, g2⟩ := hc i (by omega)
      obtain ⟨q, hq⟩ := open_bys g2 (by
        rw [List.all_eq_true]
        intro n hn
        simpa using w_mem (List.mem_map.2 ⟨i, List.mem_range.2 hi, rfl⟩) hall n hn)
      exact ⟨q, g1, hq⟩
    obtain ⟨q, hq⟩ := Go.Deep.choose_lt (α := List Int) each
    unfold reachBytes at hsz1
    refine ⟨(List.range len1).map q, by simp; omega, some ⟨b, off, spot⟩, cap1, by simp, by simpa using hlc, fun hp => ?_⟩
    simp only [List.length_map, List.length_range] at hp
    have h0 := (hq 0 (by omega)).1
    have hspot : spot = none := by simpa [Addr.add] using World.cell?_spot h0
    subst hspot
    refine ⟨b, off, rfl, by simpa [Addr.add] using cell_lt h0, fun k hk => ?_⟩
    simp only [List.length_map, List.length_range] at hk
    obtain ⟨c0, c1⟩ := hq k (by omega)
    rw [add_off] at c0
    have e : nthB ((List.range len1).map q) k = q k := by unfold nthB; rw [List.getD_eq_getElem?_getD, List.getElem?_map, List.getElem?_range hk]; rfl
    rw [e]
    exact ⟨_, c0, c1⟩
end Go.Proofs.Ytbpbdgiglllncaa

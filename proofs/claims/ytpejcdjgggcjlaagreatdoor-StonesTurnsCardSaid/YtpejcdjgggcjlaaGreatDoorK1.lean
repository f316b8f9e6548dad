/- What each statement's card wants: an argument that came in is opened, and reads behind the call as it did; one world in which the listed variables hold what their text lays. One world in which the listed variables hold what their text lays. -/
import Derived.Test.YtpejcdjgggcjlaaGreatDoorCards
import Derived.Test.YtpejcdjgggcjlaaGreatDoorTie
import Derived.Test.YtpejcdjgggcjlaaGreatDoorE1
import Derived.ProofKit
import Derived.OpenShut
import Derived.Deep.DeepHandedRow
import Derived.Deep.DeepWitnessRowRef
import Derived.Lib.LaidTab
import Derived.Lib.LaidIn
import Derived.Lib.SmallJoins
import Derived.WideKeyArgs
import Derived.HandedShaped
namespace Go.Proofs.YtpejcdjgggcjlaaGreatDoor
open Go.ChangeShapes Go.WideShapes Go.ChangeAt Go.RowKit

theorem own : ownKnob Tryz.prog.godebug = none := by kernel_rfl
theorem laidOut' : laidOutB Tryz.prog = true := by kernel_rfl

theorem cell_lt {w : World} {a : Addr} {v : Value} (h : w.cell? a = some v) : a.block < w.heap.size := by
  obtain ⟨o, ho, -⟩ := cells_of_cell h
  exact (Array.getElem?_eq_some_iff.1 ho).1
/-- what was read, and is left alone, reads again -/
theorem stays {H : Type} {enc : TypeId × Value → H} {W W' : World} (hb : Below W.heap.size W W') {sp : Nat → Bool} : ∀ {ts : List TypeId} {vs : List Value} {ds : List (DataW H)} {ps : List MemPlace},
    (∀ t ∈ ts, Tryz.prog.readableRec t = true ∧ t < Tryz.prog.types.size) → DataW.TrodAll enc Tryz.prog W 0 (fun _ => true) true ts vs ds ps → (∀ x ∈ ps, x.block < W.heap.size) → (∀ x ∈ ps, sp x.block = true) → DataW.TrodAll enc Tryz.prog W' 0 sp true ts vs ds ps
  | [], [], [], _, _, h, _, _ => h
  | _ :: _, _ :: _, _ :: _, _, hT, ⟨p, q, h1, h2, e⟩, hlt, hs =>
    ⟨p, q, WideElems.Trod_stays laidOut' (hT _ (.head _)).1 (hT _ (.head _)).2 h1 (fun x hx => hb.same (hlt x (by rw [e]; exact List.mem_append_left _ hx))) (fun x hx => hs x (by rw [e]; exact List.mem_append_left _ hx)),
      stays hb (fun t ht => hT t (.tail _ ht)) h2 (fun x hx => hlt x (by rw [e]; exact List.mem_append_right _ hx)) (fun x hx => hs x (by rw [e]; exact List.mem_append_right _ hx)), e⟩

set_option maxRecDepth 100000 in
/-- a law that answers true and makes new memory alone -/
theorem law_post {H : Type} {enc : TypeId × Value → H} {f : Func} {s : ChangeSpec} {W W' : World} {args : Array Value} {ds gs : List (DataW H)} {before : List MemPlace}
    (hW : DataW.Whole enc Tryz.prog f.params.toList s.vars false W args.toList ds gs before) (hvars : s.vars = []) (hrt : f.resultTypes = #[4]) (hfn : s.fn H ds = { results := [.lit (.bool true)], args := ds })
    (hT : ∀ t ∈ f.params.toList, Tryz.prog.readableRec t = true ∧ t < Tryz.prog.types.size) (hb : Below W.heap.size W W') : s.post enc Tryz.prog f false true false false W args (.bool true) W' := by
  have hlt : ∀ x ∈ before, x.block < W.heap.size := fun x hx => hW.lt x hx
  have hW0 := hW
  obtain ⟨p, q, hA, hV, rfl, hz, -⟩ := hW0
  rw [hvars] at hV
  obtain ⟨rfl, rfl⟩ := trodVars_none hV
  simp only [List.append_nil] at hlt hW hz
  have hres : ∀ (b : Nat) (sp : Nat → Bool) (hd : Bool), DataW.TrodAll enc Tryz.prog W' b sp hd f.resultTypes.toList ((Value.bool true).resultList f.resultTypes.size) [.lit (.bool true)] [] := by
    rw [hrt]
    intro b sp hd
    exact trodAll_mk1 (shut_bool Tryz.underlying4 true)
  have hargs : ∀ sp : Nat → Bool, (∀ x ∈ p, sp x.block = true) → DataW.TrodAll enc Tryz.prog W' 0 sp true f.params.toList args.toList ds p := fun sp hs => stays hb hT hA hlt hs
  have hv : ∀ sp : Nat → Bool, DataW.TrodVars enc Tryz.prog W' sp s.vars [] [] := by
    rw [hvars]
    intro sp
    exact rfl
  have hold : ∀ x ∈ p, (fun b => decide (b < W.heap.size)) x.block = true := fun x hx => by simpa using hlt x hx
  refine ⟨ds, [], p, [], p, [], hW, ?_, ?_, ?_, ?_, fun _ => ?_⟩
  · rw [List.append_nil, hfn]; exact hres _ _ _
  · rw [List.append_nil, hfn]; exact hargs _ hold
  · rw [List.append_nil, hfn]; exact hv _
  · exact World.keptBut_mono (fun x hx => hx) (hb.frame _)
  · have hall : DataW.TrodAll enc Tryz.prog W' 0 (fun _ => true) true (f.resultTypes.toList ++ f.params.toList) ((Value.bool true).resultList f.resultTypes.size ++ args.toList) ([.lit (.bool true)] ++ ds) ([] ++ p) :=
      trodAll_append (hargs (fun _ => true) (fun _ _ => rfl)) (hres 0 (fun _ => true) true)
    have hzz : W'.noneFrozen ([] ++ p) := by
      intro b off hx
      rw [List.nil_append] at hx
      rw [hb.frozen (hlt _ hx)]
      exact hz b off hx
    have hvv := hv (fun _ => true)
    have hok : ∀ (j : Nat) (t : TypeId) (r : Value), f.resultTypes[j]? = some t → ((Value.bool true).resultList f.resultTypes.size)[j]? = some r → Value.okWide Tryz.prog W' .any 0 t r := by
      exact ok_one hrt rfl (okWide_bool_mk Tryz.underlying4 _)
    exact ⟨hok, _, _, _, ⟨_, _, hall, hvv, rfl, by rw [List.append_nil]; exact hzz, fun h => by cases h⟩, fun x hx _ => by simpa using hx⟩

set_option maxRecDepth 100000 in
/-- a slice of ints, as it came in -/
theorem open_kinds {H : Type} {enc : TypeId × Value → H} {W : World} {fuel : Nat} {v : Value} {x : DataW H × List MemPlace} (h : DataW.trod enc Tryz.prog W 0 (fun _ => true) true fuel 22 [v] = some x)
    (hsz : (x.1.weights Tryz.prog 22).all (· ≤ reachBytes) = true) : ∃ l, Ints W W.heap.size v l := by
  rcases open_ints Tryz.underlying22 Tryz.underlying3 Tryz.cellsInt h with ⟨h1, -⟩ | ⟨a, len, cap, zs, h1, hb, hlc, hcm, hlen, hx, hc, hw⟩
  · cases h1
    exact ⟨[], by simp, none, 0, rfl, Nat.le_refl _, fun h => by simp at h⟩
  · cases h1
    simp only [if_true] at hlen
    have hbytes : Tryz.prog.bytesOf 3 = 8 := by kernel_rfl
    rw [hx] at hsz
    simp only [DataW.weights, Tryz.underlying22, List.all_cons, Bool.and_eq_true, decide_eq_true_iff] at hsz
    obtain ⟨hsz, -⟩ := hsz
    have hl2 : (lits (H := H) .i64 (zs.take len)).length + (lits (H := H) .i64 (zs.drop len)).length = zs.length := by
      simp only [lits, List.length_map, List.length_take, List.length_drop]; omega
    rw [hl2, hbytes] at hsz
    unfold reachBytes at hsz
    have htl : (zs.take len).length = len := by rw [List.length_take]; omega
    obtain ⟨b, off, spot⟩ := a
    refine ⟨zs.take len, by rw [htl]; omega, some ⟨b, off, spot⟩, cap, by rw [htl], by rw [htl]; exact hlc, fun hp => ?_⟩
    rw [htl] at hp
    have h0 := hc 0 (by omega)
    have hspot : spot = none := by simpa [Addr.add] using World.cell?_spot h0
    subst hspot
    refine ⟨b, off, rfl, by simpa [Addr.add] using cell_lt h0, fun k hk => ?_⟩
    rw [htl] at hk
    have h1 := hc k (by omega)
    have e : nth (zs.take len) k = zs.getD k 0 := by
      unfold nth
      rw [List.getD_eq_getElem?_getD, List.getD_eq_getElem?_getD, List.getElem?_take_of_lt hk]
    have e2 : (⟨b, off, none⟩ : Addr).add k = ⟨b, off + k, none⟩ := by rcases k with _ | k <;> simp [Addr.add]
    rw [e, ← e2]
    exact h1

set_option maxRecDepth 100000 in
/-- a face, as it came in -/
theorem open_face {H : Type} {enc : TypeId × Value → H} {W : World} {base : Nat} {v : Value} {d : DataW H} {p : List MemPlace} (hv : Value.okWide Tryz.prog W .any base 24 v) (h : DataW.Trod enc Tryz.prog W 0 (fun _ => true) true 24 v d p)
    (hsz : (d.weights Tryz.prog 24).all (· ≤ reachBytes) = true) : ∃ f, IsFace W W.heap.size v f := by
  obtain ⟨v0, v1, v2, v3, y0, y1, y2, y3, n, rfl, rfl, rfl, h0, h1, h2, h3⟩ := Joins.open_agg4 Tryz.underlying24 (by kernel_rfl) (by kernel_rfl) hv h
  obtain ⟨n0, e0, -, -⟩ := DataW.trod_int Tryz.underlying3 h0
  obtain ⟨n1, e1, -, -⟩ := DataW.trod_int Tryz.underlying3 h1
  obtain ⟨n2, e2, -, -⟩ := DataW.trod_int Tryz.underlying3 h2
  cases e0
  cases e1
  cases e2
  have h4 : (y3.1.weights Tryz.prog 22).all (· ≤ reachBytes) = true := by
    simp only [DataW.weights, Tryz.underlying24, DataW.weightsEach, List.map_cons, List.map_nil, List.append_nil, List.all_append, Bool.and_eq_true] at hsz
    exact hsz.2.2.2
  obtain ⟨l, hl⟩ := open_kinds h3 h4
  exact ⟨⟨n0, n1, n2, l⟩, v3, rfl, hl⟩

end Go.Proofs.YtpejcdjgggcjlaaGreatDoor

namespace Go.Proofs.YtpejcdjgggcjlaaGreatDoor
open Go.ChangeShapes Go.WideShapes Go.ChangeAt Go.RowKit

/-- the cells of a table's datum -/
def dat1 : DataW Unit → List Value
  | .lit (.int k z) => [.int k z]
  | _ => []
def dat2 : DataW Unit → List Value
  | .agg l => l.flatMap dat1
  | d => dat1 d
def dat3 : DataW Unit → List Value
  | .agg l => l.flatMap dat2
  | d => dat1 d
def putRow (h : Array Obj) (g : Nat) (cs : List Value) : Array Obj := h.modify g fun
  | .cells _ t frozen => .cells cs.toArray t frozen
  | o => o
noncomputable def laidWorld (os : Os) : World :=
  let N := (World.settled Tryz.prog os).heap.size
  let w0 := World.holding Tryz.prog os ⟨#[.cells #[.string ⟨#[118, 97, 108, 117, 101, 32, 111, 117, 116, 32, 111, 102, 32, 114, 97, 110, 103, 101]⟩] 149, .cells #[.string ⟨#[105, 110, 118, 97, 108, 105, 100, 32, 115, 121, 110, 116, 97, 120]⟩] 149], #[], []⟩
  let h1 := putRow w0.heap 2 [.iface 147 (.pointer (some ⟨N, 0, none⟩))]
  let h2 := putRow h1 1 [.iface 147 (.pointer (some ⟨N + 1, 0, none⟩))]
  let h3 := putRow h2 6 (dat3 Rows.laid_math_bits_deBruijn32tab)
  let h4 := putRow h3 7 (dat3 Rows.laid_math_bits_deBruijn64tab)
  let h5 := putRow h4 3 (dat3 Rows.laid_internal_strconv_uint64pow10)
  let h6 := putRow h5 5 (dat3 Rows.laid_unicode_utf8_acceptRanges)
  let h7 := putRow h6 4 (dat3 Rows.laid_unicode_utf8_first)
  { w0 with heap := h7 }
/-- the seven listed variables -/
def laidL : List (String × DataW Unit) := Rows.stonesAreasRow.laid
theorem laid_met (os : Os) (args : Array Value) : laidMet Tryz.prog laidL ((laidWorld os).forCall (fun _ _ => 0) ⟨#[], args, []⟩).memory :=
  laidMet_of_run' 8 (by kernel_rfl) (by kernel_rfl)

theorem ml_of {W : World} (h : W.ShapedOpen Tryz.prog) : ML W := by
  obtain ⟨m, hm⟩ := Go.Proofs.cell_of_shapedOpen_int (g := 0) (zero := #[.int .i64 0]) (t := 3) h (of_decide_eq_true (by kernel_rfl)) (by kernel_rfl) rfl (by kernel_rfl) (by kernel_rfl) Tryz.underlying3
  exact ⟨⟨m, hm⟩, cell_lt hm⟩

end Go.Proofs.YtpejcdjgggcjlaaGreatDoor

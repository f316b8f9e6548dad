/- A range over a function whose body leaves in its first round by a return, and whose iterator may write its own cells. -/
import Derived.Test.YtpejcdjgggcjlaaGreatDoorC12
namespace Go.Proofs.YtpejcdjgggcjlaaGreatDoor
open Go.RowKit Go.Shelf

theorem rangeFunc_first {P : Program} {n : Nat} {g : Operand} {ps : Array Tmp} {assign body : Code} {Q : Exit → Act → World → Prop} {a : Act} {w : World}
    (hn : 1 ≤ n) {gf : Nat} {lb : Array Value} (hg : a.eval g = .func (.func gf) #[] lb) (eg : ∀ args w, (callFunc gf args).run P w = .ok (.enter gf args) w)
    (x : Array Value) (hx : x.size = ps.size) (Wy : World → World) (hWy : ∀ W, KeepsOthers W (Wy W))
    (hit : ∀ (l : Nat) (Jx : World → Prop) (W : World), Below w.heap.size w W → YieldAt Fence.wide (n - 1 - 1) P l x (Wy W) (fun e W' => e = .returned (.bool false) ∧ Jx W') →
      CallsIn Fence.wide (n - 1) P gf (#[.func (.yield l) #[] #[]] ++ lb) W fun e W' => (∃ v, e = .returned v) ∧ Jx W')
    (ax : Act)
    (hassign : ∀ (l : Nat) (W : World) (K : Act → World → Prop), K ax W → assign.wpIn (Fence.wide.inRound l) (n - 1 - 1) P (Exit.then K (fun _ _ _ => False)) { tmps := (ps.zip x).foldl (fun t (p, v) => t.setIfInBounds p v) a.tmps, defers := [] } W)
    (G Ix : World → Prop)
    (hG : ∀ (W : World) (l : Nat) (o : Obj), Below w.heap.size w W → w.heap.size < l → (∃ r, (Wy W).heap[l]? = some (.loop r)) → G ((Wy W).putObj l o))
    (hbody : ∀ (l : Nat) (W : World), (∃ r, W.heap[l]? = some (.loop r)) → w.heap.size < l → G W → body.wpIn (Fence.wide.inRound l) (n - 1 - 1) P (fun e _ W' => e = .ret ∧ KeepsOthers W W' ∧ Ix W') ax W)
    (hIx : ∀ (W : World) (l : Nat) (o : Obj), Ix W → w.heap.size < l → (∃ r, W.heap[l]? = some (.loop r)) → Ix (W.putObj l o))
    (hstop : ∀ (D : Nat) (W : World), w.heap.size ≤ D → Ix W → W.heap[D]? = some (.deferred (some [])) → Code.ret.wpIn Fence.wide n P Q { a with defers := { target := .collected D, args := #[] } :: a.defers } W) :
    (Code.rangeFunc g ps assign body).wpIn Fence.wide n P Q a w := by
  refine wpIn_rangeFunc fun fn hfn => ?_
  obtain ⟨d0, hd0⟩ : ∃ d0 : Nat, d0 = w.heap.size := ⟨_, rfl⟩
  let rc : Loop := { state := .ready, pending := none, fn, tmps := a.tmps, params := ps, assign, body, defers := w.heap.size }
  let V : World := (w.alloc (.deferred (some []))).alloc (.loop rc)
  have hloop : V.heap[w.heap.size + 1]? = some (.loop rc) := by
    have h := World.alloc_heap_new (w.alloc (.deferred (some []))) (.loop rc)
    rwa [World.size_alloc] at h
  have hdef : V.heap[w.heap.size]? = some (.deferred (some [])) := (Below.heap_alloc _ _ _ (by simp)).trans (World.alloc_heap_new w _)
  have hbel : Below w.heap.size w V := ((Below.refl _ w).alloc (Nat.le_refl _) _).alloc (by simp) _
  refine ⟨w.heap.size + 1, [{ target := .collected w.heap.size, args := #[] }], V, { target := .fn (.func gf) lb, args := #[.func (.yield (w.heap.size + 1)) #[] #[]] }, V, gf,
    #[.func (.yield (w.heap.size + 1)) #[] #[]] ++ lb, V, run_enterLoop_outer _ _ _ _ _, ?_, fun _ _ => trivial, ?_, fun _ => hn, ?_⟩
  · simp only [resolve, hg]
    simp [go_sem]
  · simp [invoke, go_sem, eg]
  -- the one call: what stands behind it
  let Jx : World → Prop := fun W => Ix W ∧ W.heap[w.heap.size + 1]? = some (.loop { rc with state := .done, pending := some .ret }) ∧ W.heap[w.heap.size]? = some (.deferred (some []))
  refine (hit (w.heap.size + 1) Jx V hbel ?_).mono ?_
  · have l1 := (hWy V).same _ _ hloop rfl
    have d1 := (hWy V).same _ _ hdef rfl
    refine ⟨fn, _, assign, body, run_yield l1 hx, roundIn_of_wpIn hfn (hassign _ _ _ ⟨_, run_beginRound l1 rfl, ?_⟩)⟩
    have hlt : w.heap.size + 1 < (Wy V).heap.size := (Array.getElem?_eq_some_iff.1 l1).1
    have l2 : ((Wy V).putObj (w.heap.size + 1) (.loop { rc with state := .busy })).heap[w.heap.size + 1]? = some (.loop { rc with state := .busy }) := World.putObj_heap_same hlt
    have d2 : ((Wy V).putObj (w.heap.size + 1) (.loop { rc with state := .busy })).heap[w.heap.size]? = some (.deferred (some [])) := (World.putObj_heap_other (by omega)).trans d1
    refine wpIn_mono (hbody _ _ ⟨_, l2⟩ (Nat.lt_succ_self _) (hG V _ _ hbel (Nat.lt_succ_self _) ⟨_, l1⟩)) ?_
    rintro e a3 W3 ⟨rfl, hk, hi⟩
    have l3 := hk.same _ _ l2 rfl
    have d3 := hk.same _ _ d2 rfl
    have hlt3 : w.heap.size + 1 < W3.heap.size := (Array.getElem?_eq_some_iff.1 l3).1
    refine ⟨_, _, run_endRound (some .ret) l3, rfl, hIx _ _ _ hi (Nat.lt_succ_self _) ⟨_, l3⟩, ?_, (World.putObj_heap_other (by omega)).trans d3⟩
    exact World.putObj_heap_same hlt3
  · rintro e W4 ⟨⟨v, rfl⟩, hi, l4, d4⟩
    refine ⟨some .ret, _, run_endLoop l4 (by simp), hstop _ _ (Nat.le_refl _) (hIx _ _ _ hi (Nat.lt_succ_self _) ⟨_, l4⟩) ((World.putObj_heap_other (by omega)).trans d4)⟩

end Go.Proofs.YtpejcdjgggcjlaaGreatDoor

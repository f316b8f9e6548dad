/- numberRegions, as plain steps: what is known, what is still to be looked at, how many regions, and the next cell. -/
import Derived.Test.YtpejcdjgggcjlaaGreatDoorC7
namespace Go.Proofs.YtpejcdjgggcjlaaGreatDoor
open Go.RowKit

structure NR where
  m : Int × Int → Option Int
  opn : List (Int × Int)
  count : Nat
  next : Nat
/-- one round -/
def nrPop (f : Fc) (s : NR) (c : Int × Int) : NR :=
  { s with m := ((nearTo f c.1 c.2 4).foldl (sprStep f (kat f c.1 c.2 != 0) c) (s.m, s.opn.dropLast)).1, opn := ((nearTo f c.1 c.2 4).foldl (sprStep f (kat f c.1 c.2 != 0) c) (s.m, s.opn.dropLast)).2 }
def nrNew (f : Fc) (s : NR) : NR :=
  { m := fun y => if y = cellOf f s.next then some (s.count : Int) else s.m y, opn := [cellOf f s.next], count := s.count + 1, next := s.next + 1 }
def nrStep (f : Fc) (s : NR) : NR :=
  match s.opn.getLast? with
  | some c => nrPop f s c
  | none => if s.next < f.kinds.length then (if (s.m (cellOf f s.next)).isSome then { s with next := s.next + 1 } else nrNew f s) else s
def nrIter (f : Fc) : Nat → NR
  | 0 => { m := fun _ => none, opn := [], count := 0, next := 0 }
  | k + 1 => nrStep f (nrIter f k)
/-- the end of all rounds -/
def numR (f : Fc) : NR := nrIter f (3 * f.kinds.length)

/-- how many rounds are to come, at most -/
def nrMeas (f : Fc) (s : NR) : Nat := 2 * unk (allCells f) s.m + s.opn.length + (f.kinds.length - s.next)
/-- what holds at each round's head -/
structure NROk (f : Fc) (s : NR) : Prop where
  opn : Opn f (s.m, s.opn)
  next : s.next ≤ f.kinds.length
  count : s.count ≤ s.next
  val : ∀ x v, s.m x = some v → InF f x ∧ 0 ≤ v ∧ v < s.count
  old : ∀ i, i < s.next → (s.m (cellOf f i)).isSome = true

theorem sprTo_all (f : Fc) (fur : Bool) (c : Int × Int) (N : Int) (hN : 0 < N) (l : List (Int × Int)) : ∀ (s : (Int × Int → Option Int) × List (Int × Int)), (∀ x ∈ l, InF f x) → (∀ x v, s.1 x = some v → InF f x ∧ 0 ≤ v ∧ v < N) →
    ∀ x v, (l.foldl (sprStep f fur c) s).1 x = some v → InF f x ∧ 0 ≤ v ∧ v < N := by
  induction l with
  | nil => intro s _ h; exact h
  | cons y l ih =>
    intro s hl h
    refine ih _ (fun z hz => hl z (by simp [hz])) ?_
    intro x v hx
    unfold sprStep at hx
    split at hx
    · exact h x v hx
    · dsimp only at hx
      split at hx
      · rename_i e
        subst e
        refine ⟨hl x (by simp), ?_⟩
        simp only [Option.some.injEq] at hx
        subst hx
        cases hc : s.1 c with
        | none => simp; exact hN
        | some u => exact (h c u hc).2
      · exact h x v hx
theorem len_val {f : Fc} (hv : validB f = true) : (f.kinds.length : Int) = f.rings * f.sectors ∧ 1 ≤ f.sectors ∧ f.kinds.length ≤ 2304 := by
  obtain ⟨⟨⟨a1, a2⟩, ⟨a3, a4⟩, a5, a6⟩, hl, -⟩ := validB_iff.1 hv
  refine ⟨hl, by omega, ?_⟩
  have : f.rings * f.sectors ≤ 24 * 96 := Int.mul_le_mul a4 a6 (by omega) (by omega)
  omega
theorem getLast_split {α : Type} {l : List α} {c : α} (h : l.getLast? = some c) : l = l.dropLast ++ [c] := by
  obtain ⟨ys, rfl⟩ := List.getLast?_eq_some_iff.1 h
  simp
theorem NROk.step {f : Fc} (hv : validB f = true) {s : NR} (h : NROk f s) : NROk f (nrStep f s) := by
  obtain ⟨hl, hs, hle⟩ := len_val hv
  unfold nrStep
  cases ho : s.opn.getLast? with
  | some c =>
    dsimp only
    have hsp := getLast_split ho
    have hcin : c ∈ s.opn := by rw [hsp]; simp
    obtain ⟨hci, hck⟩ := h.opn c hcin
    have hnear : ∀ x ∈ nearTo f c.1 c.2 4, InF f x := fun x hx => near_in hci.1 hci.2.1 hci.2.2.1 hci.2.2.2 hx
    have hc0 : 0 < s.count := by
      dsimp only at hck
      cases hm : s.m c with
      | none => rw [hm] at hck; cases hck
      | some v => have := (h.val c v hm).2; omega
    refine ⟨?_, h.next, h.count, ?_, ?_⟩
    · unfold nrPop
      exact Opn.fold (s := (s.m, s.opn.dropLast)) _ (fun x hx => h.opn x (by rw [hsp]; simp; exact .inl hx)) hnear
    · intro x v hx
      exact sprTo_all f _ c s.count (by omega) _ (s.m, s.opn.dropLast) hnear h.val x v hx
    · intro i hi
      have h1 := h.old i hi
      cases hm : s.m (cellOf f i) with
      | none => rw [hm] at h1; cases h1
      | some v =>
        have h2 := sprTo_known (f := f) (c := c) (m := s.m) (o := s.opn.dropLast) (pre := nearTo f c.1 c.2 4) hm
        rw [sprTo_near f c hci] at h2
        unfold nrPop
        dsimp only
        rw [h2]
        rfl
  | none =>
    dsimp only
    have hnil : s.opn = [] := by simpa using ho
    by_cases hn : s.next < f.kinds.length
    · rw [if_pos hn]
      by_cases hk : (s.m (cellOf f s.next)).isSome = true
      · rw [if_pos hk]
        exact ⟨h.opn, hn, by have := h.count; dsimp only; omega, h.val, fun i hi => by
          dsimp only at hi ⊢
          by_cases e : i = s.next
          · subst e; exact hk
          · exact h.old i (by omega)⟩
      · rw [if_neg hk]
        have hcin := cellOf_in (f := f) (i := s.next) hs (by omega)
        refine ⟨?_, hn, by have := h.count; unfold nrNew; dsimp only; omega, ?_, ?_⟩
        · unfold nrNew
          intro x hx
          dsimp only at hx ⊢
          obtain rfl : x = cellOf f s.next := by simpa using hx
          exact ⟨hcin, by simp⟩
        · unfold nrNew
          dsimp only
          intro x v hx
          split at hx
          · rename_i e
            subst e
            simp only [Option.some.injEq] at hx
            subst hx
            exact ⟨hcin, by omega, by omega⟩
          · have := h.val x v hx
            exact ⟨this.1, this.2.1, by omega⟩
        · unfold nrNew
          dsimp only
          intro i hi
          split
          · rfl
          · rename_i e
            by_cases e2 : i = s.next
            · subst e2; exact absurd rfl e
            · exact h.old i (by omega)
    · rw [if_neg hn]
      exact h
/-- a round that does something makes the measure less -/
theorem nrMeas_step {f : Fc} (hv : validB f = true) {s : NR} (h : NROk f s) (hgo : s.opn ≠ [] ∨ s.next < f.kinds.length) : nrMeas f (nrStep f s) + 1 ≤ nrMeas f s := by
  obtain ⟨hl, hs, hle⟩ := len_val hv
  unfold nrStep
  cases ho : s.opn.getLast? with
  | some c =>
    dsimp only
    have hsp := getLast_split ho
    have hcin : c ∈ s.opn := by rw [hsp]; simp
    obtain ⟨hci, hck⟩ := h.opn c hcin
    have hnear : ∀ x ∈ nearTo f c.1 c.2 4, x ∈ allCells f := fun x hx => mem_allCells (near_in hci.1 hci.2.1 hci.2.2.1 hci.2.2.2 hx)
    have := meas_fold (f := f) (fur := (kat f c.1 c.2 != 0)) (c := c) (allCells f) (nearTo f c.1 c.2 4) (s := (s.m, s.opn.dropLast)) hnear
    have hlen : s.opn.length = s.opn.dropLast.length + 1 := by
      have := congrArg List.length hsp
      simpa using this
    unfold nrMeas nrPop
    dsimp only at this ⊢
    omega
  | none =>
    dsimp only
    have hnil : s.opn = [] := by simpa using ho
    have hn : s.next < f.kinds.length := by rcases hgo with h1 | h1; exact absurd hnil h1; exact h1
    rw [if_pos hn]
    by_cases hk : (s.m (cellOf f s.next)).isSome = true
    · rw [if_pos hk]
      unfold nrMeas
      dsimp only
      omega
    · rw [if_neg hk]
      have hcin := cellOf_in (f := f) (i := s.next) hs (by omega)
      have := unk_put (allCells f) s.m (cellOf f s.next) (s.count : Int) (mem_allCells hcin) (by simpa using hk)
      unfold nrMeas nrNew
      rw [hnil]
      dsimp only [List.length]
      omega
theorem unk_le (l : List (Int × Int)) (m : Int × Int → Option Int) : unk l m ≤ l.length := List.length_filter_le _ _
theorem nrIter_ok {f : Fc} (hv : validB f = true) : ∀ k, NROk f (nrIter f k)
  | 0 => ⟨fun x hx => by simp [nrIter] at hx, Nat.zero_le _, Nat.le_refl _, fun x v h => by simp [nrIter] at h, fun i hi => by simp [nrIter] at hi⟩
  | k + 1 => (nrIter_ok hv k).step hv
/-- nothing is left to do -/
def nrDone (f : Fc) (s : NR) : Prop := s.opn = [] ∧ s.next = f.kinds.length
theorem nrDone_fix {f : Fc} {s : NR} (h : nrDone f s) : nrStep f s = s := by
  unfold nrStep
  rw [h.1]
  dsimp only [List.getLast?]
  rw [if_neg (by rw [h.2]; omega)]
theorem nrIter_fix {f : Fc} {k : Nat} (h : nrDone f (nrIter f k)) : ∀ j, nrIter f (k + j) = nrIter f k
  | 0 => rfl
  | j + 1 => by
    show nrStep f (nrIter f (k + j)) = _
    rw [nrIter_fix h j]
    exact nrDone_fix h
/-- how far the rounds may go -/
def nrFuel (f : Fc) (k : Nat) : Prop := k + nrMeas f (nrIter f k) ≤ 3 * f.kinds.length
theorem allCells_len (f : Fc) (hv : validB f = true) : (allCells f).length = f.kinds.length := by
  obtain ⟨hl, hs, hle⟩ := len_val hv
  unfold allCells
  rw [List.length_map, List.length_range]
  omega
theorem nrFuel_zero {f : Fc} (hv : validB f = true) : nrFuel f 0 := by
  have := unk_le (allCells f) (nrIter f 0).m
  rw [allCells_len f hv] at this
  unfold nrFuel nrMeas
  show 0 + (2 * unk (allCells f) (nrIter f 0).m + 0 + (f.kinds.length - 0)) ≤ _
  omega
theorem nrFuel_step {f : Fc} (hv : validB f = true) {k : Nat} (h : nrFuel f k) (hgo : (nrIter f k).opn ≠ [] ∨ (nrIter f k).next < f.kinds.length) : nrFuel f (k + 1) := by
  have := nrMeas_step hv (nrIter_ok hv k) hgo
  unfold nrFuel at h ⊢
  show k + 1 + nrMeas f (nrStep f (nrIter f k)) ≤ _
  omega
theorem nrFuel_end {f : Fc} {k : Nat} (h : nrFuel f k) (hd : nrDone f (nrIter f k)) : nrIter f k = numR f := by
  unfold nrFuel at h
  have := nrIter_fix hd (3 * f.kinds.length - k)
  rw [show k + (3 * f.kinds.length - k) = 3 * f.kinds.length by omega] at this
  exact this.symm

end Go.Proofs.YtpejcdjgggcjlaaGreatDoor

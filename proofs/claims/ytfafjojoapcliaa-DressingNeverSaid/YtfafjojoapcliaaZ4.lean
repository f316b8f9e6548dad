/- An engine for closed calls, part 4: control, functions, the theorem -/
import Derived.Test.YtfafjojoapcliaaZ3
import Derived.Scope
import Derived.RangeFuncLeaves
import Derived.RangeFuncRecord
import Derived.RangeFuncNested
set_option linter.unusedVariables false
set_option linter.unusedSimpArgs false
namespace Go.Proofs.Ytfafjojoapcliaa.Eng
noncomputable section

section
/-! A region that draws, whole. -/
def cnt (listed : Array Bool) : Nat → Nat
  | 0 => 0
  | k + 1 => cnt listed k + (match listed.getD k true with
    | true => 0
    | false => 1)

theorem cnt_set {listed : Array Bool} {i : Nat} (hi : i < listed.size) (h : listed.getD i true = false) : ∀ k, cnt (listed.setIfInBounds i true) k + (if i < k then 1 else 0) = cnt listed k := by
  intro k
  induction k with
  | zero => simp [cnt]
  | succ k ih =>
    simp only [cnt]
    by_cases hik : i = k
    · subst hik
      have e : (listed.setIfInBounds i true).getD i true = true := by simp [hi]
      rw [e, h, if_pos (by omega)]
      rw [if_neg (by omega)] at ih
      simp only
      omega
    · rw [getD_set_ne true hik]
      by_cases hlt : i < k
      · rw [if_pos (by omega)]; rw [if_pos hlt] at ih; omega
      · rw [if_neg (by omega)]; rw [if_neg hlt] at ih; omega
theorem cnt_pos {listed : Array Bool} {i k : Nat} (hi : i < k) (h : listed.getD i true = false) : 0 < cnt listed k := by
  induction k with
  | zero => omega
  | succ k ih =>
    simp only [cnt]
    by_cases hik : i = k
    · subst hik; rw [h]; simp
    · have := ih (by omega); omega
theorem cnt_le (listed : Array Bool) : ∀ k, cnt listed k ≤ k := by
  intro k
  induction k with
  | zero => simp [cnt]
  | succ k ih => simp only [cnt]; split <;> omega

section
variable {ro : Option Nat} {ds : List Deferred} {P : Program} {call : Caller} {ops : Array Oper} {ms : List Nat} {n : Nat} {t : Tape}

def DL (listed : Array Bool) (i : Nat) : Prop := listed.getD i false = true

theorem DL.not {listed : Array Bool} {i : Nat} (hi : i < listed.size) : ¬ DL listed i ↔ listed.getD i true = false := by
  unfold DL
  simp [hi]
theorem DL.set {listed : Array Bool} {j : Nat} (hj : j < listed.size) : (fun i => DL listed i ∨ i = j) = DL (listed.setIfInBounds j true) := by
  funext i
  apply propext
  unfold DL
  by_cases h : j = i
  · subst h; simp [hj]
  · rw [getD_set_ne false h]; simp [show i ≠ j from fun e => h e.symm]

theorem all_listed (fx : Fixed ops) {listed : Array Bool} (hsz : listed.size = ops.size) (hr : Region.ready .any ops listed = []) : ∀ j, j < ops.size → DL listed j := by
  intro j
  induction j using Nat.strongRecOn with
  | _ j ih =>
    intro hj
    refine Classical.byContradiction fun hn => ?_
    have hm : j ∈ Region.ready .any ops listed := mem_ready.2 ⟨(DL.not (by omega)).1 hn, ops[j], by simp [hj], fun e he hb => by
      have hlt := fx.back j ops[j] (by simp [hj]) e he hb
      exact ih e.on hlt (by omega)⟩
    rw [hr] at hm; cases hm

theorem any_order (W : Whole P call ops ms n t) (hcall : CallSem P call) (hnum : NoNum P) {s0 : Val} {w0 : World} {Q : Exit → Act → World → Prop}
    (hQ : ∀ s a w M, Inv ds ops n t s0 w0 (· < ops.size) M s a w → Q .normal a w) :
    ∀ (fuel : Nat) (listed : Array Bool) (M : Nat) (s : Val) (a : Act) (w : World), listed.size = ops.size → cnt listed ops.size ≤ fuel → Inv ds ops n t s0 w0 (DL listed) M s a w → wpAnyIn (fence ro) 0 P .any ops Q fuel listed a w := by
  have done : ∀ (listed : Array Bool) (M : Nat) (s : Val) (a : Act) (w : World), listed.size = ops.size → Inv ds ops n t s0 w0 (DL listed) M s a w → Region.ready .any ops listed = [] → Q .normal a w := fun listed M s a w hsz inv hr => by
    have hall := all_listed W.fx hsz hr
    have e : DL listed = (· < ops.size) := by
      funext i; exact propext ⟨inv.dlt i, hall i⟩
    rw [e] at inv
    exact hQ s a w M inv
  intro fuel
  induction fuel with
  | zero =>
    intro listed M s a w hsz hc inv
    have hr : Region.ready .any ops listed = [] := by
      cases h : Region.ready .any ops listed with
      | nil => rfl
      | cons j l =>
        obtain ⟨h1, o, h2, _⟩ := mem_ready.1 (show j ∈ Region.ready .any ops listed by rw [h]; simp)
        have := cnt_pos (k := ops.size) (Array.getElem?_eq_some_iff.1 h2).1 h1
        omega
    exact ⟨hr, done listed M s a w hsz inv hr⟩
  | succ fuel ih =>
    intro listed M s a w hsz hc inv
    refine ⟨done listed M s a w hsz inv, fun j hj => ?_⟩
    obtain ⟨h1, o, h2, h3⟩ := mem_ready.1 hj
    have hjl : j < ops.size := (Array.getElem?_eq_some_iff.1 h2).1
    refine inv.step W hcall hnum h2 ((DL.not (by omega)).2 h1) h3 fun s' a' w' M' inv' => ?_
    rw [DL.set (by omega)] at inv'
    have hcs := cnt_set (by omega) h1 ops.size
    rw [if_pos hjl] at hcs
    exact ih _ M' s' a' w' (by simpa using hsz) (by omega) inv'

theorem Post.drew' {s s' : Val} {B B' : Hp} {w w' : World} {wr : List Nat} {d : Nat} (h : Post s s' B B' { w with drawn := d } w' wr) : Post s s' B B' w w' wr :=
  ⟨h.off, h.mono, h.sat, h.inj, h.dom, h.old, h.fresh, h.frame, h.size, h.os, h.tape, h.output, h.wrOld⟩

theorem Inv.start {s : Val} {w : World} {a : Act} (hp : Pre s (t.A 0) w) (hr : RelT ds s n (t.T 0) a) : Inv ds ops n t s w (fun _ => False) 0 s a w where
  closed := fun _ _ h => h.elim
  dlt := fun _ h => h.elim
  isM := ⟨Nat.zero_le _, .inl rfl, fun _ h => h.elim⟩
  off := fun _ _ => ⟨rfl, rfl⟩
  sat := fun x b h => h.elim (fun h => hp.sat x b h.2) (fun ⟨_, h, _⟩ => h.elim)
  inj := fun x y b b' h h' => by
    rcases h with h | ⟨_, h, _⟩
    · rcases h' with h' | ⟨_, h', _⟩
      · exact hp.inj x y b b' h.2 h'.2
      · exact h'.elim
    · exact h.elim
  dom0 := fun x b h _ => h.elim (fun h => ⟨b, h.2⟩) (fun ⟨_, h, _⟩ => h.elim)
  fresh := fun x b h hx => h.elim (fun h => by have := h.1; omega) (fun ⟨_, h, _⟩ => h.elim)
  frame := fun _ _ _ => rfl
  wrOld := fun _ _ h => h.elim
  size := Nat.le_refl _
  os := rfl
  tape := rfl
  output := rfl
  tsize := hr.size
  defers := hr.defers
  tmps := fun d => ⟨fun _ _ h => h.elim, fun _ => hr.tmps d⟩

theorem Inv.finish (W : Whole P call ops ms n t) {s0 s : Val} {w0 w : World} {a : Act} {M : Nat} {wr : List Nat} (inv : Inv ds ops n t s0 w0 (· < ops.size) M s a w)
    (hwr : ∀ y, y ∈ wr ↔ ∃ k, k < ops.size ∧ y ∈ t.wr k ∧ y < (t.A 0).next) : Post s0 s (t.A 0) (t.A ops.size) w0 w wr ∧ RelT ds s n (t.T ops.size) a := by
  have hnw : ∀ k, M ≤ k → k < ops.size → t.wr k = [] := fun k h1 h2 => by
    refine Classical.byContradiction fun h => ?_
    have := inv.isM.2.2 k h2 h; omega
  have hM := inv.isM.1
  have hh : ∀ x b, (t.A ops.size).get x = some b → Has t (· < ops.size) M x b := fun x b hb => by
    have hlt := ((W.hin ops.size (Nat.le_refl _)).1 x b hb).2.1
    rcases Nat.lt_or_ge x (t.A 0).next with h | h
    · refine .inl ⟨h, ?_⟩
      rw [← W.stab (p := M) (q := ops.size) hM (Nat.le_refl _) (Nat.lt_of_lt_of_le h (W.mono (by omega) hM)) fun k k1 k2 => .inl (by rw [hnw k k1 k2]; simp)]; exact hb
    · obtain ⟨i, i1, i2, i3⟩ := W.owner (Nat.le_refl _) h hlt
      refine .inr ⟨i, i1, i2, i3, ?_⟩
      rw [← W.stab (p := max M (i + 1)) (q := ops.size) (by omega) (Nat.le_refl _) (Nat.lt_of_lt_of_le i3 (W.mono (by omega) (by omega))) fun k k1 k2 => .inl (by rw [hnw k (by omega) k2]; simp)]; exact hb
  refine ⟨⟨inv.off, W.mono (by omega) (Nat.le_refl _), fun x b h => inv.sat x b (hh x b h), fun x y b b' h h' => inv.inj x y b b' (hh x b h) (hh y b' h'), fun x b h hx => inv.dom0 x b (hh x b h) hx, fun x hx hn => ?_, fun x b h hx => ?_, fun b hb hne => inv.frame b hb fun i y h1 h2 h3 => hne y ((hwr y).2 ⟨i, h1, h2, h3⟩), inv.size, inv.os, inv.tape, inv.output, fun y hy => ?_⟩, ⟨inv.tsize, fun d => ?_, inv.defers⟩⟩
  · exact W.stab (p := 0) (by omega) (Nat.le_refl _) hx fun k _ k2 => .inl fun hk => hn ((hwr x).2 ⟨k, k2, hk, hx⟩)
  · rcases inv.fresh x b (hh x b h) hx with h | ⟨i, y, h1, h2, h3, h4⟩
    · exact .inl h
    · exact .inr ⟨y, (hwr y).2 ⟨i, h1, h2, h3⟩, h4⟩
  · obtain ⟨k, h1, h2, h3⟩ := (hwr y).1 hy
    exact ⟨h3, inv.wrOld k y h1 h2 h3⟩
  · have htm := W.temps d ops.size (Nat.le_refl _)
    by_cases hc : ∃ (i : Nat) (o' : Oper), ops[i]? = some o' ∧ o'.dst = some d ∧ d < n
    · obtain ⟨i, o', c1, c2, c3⟩ := hc
      have hi : i < ops.size := (Array.getElem?_eq_some_iff.1 c1).1
      rw [htm.1 i o' hi c1 c2 c3]
      exact (inv.tmps d).1 i o' hi c1 c2 c3
    · rw [htm.2 fun i o' _ h2 h3 => hc ⟨i, o', h2, h3.1, h3.2⟩]
      exact (inv.tmps d).2 fun i o' _ h2 h3 => hc ⟨i, o', h2, h3.1, h3.2⟩
end

/-! ### the region -/
theorem in_true : ∀ v, In (fun _ => True) v := by
  intro v
  induction v using In.induct with
  | case4 fn f c ih1 ih2 => simp only [In]; exact ⟨fun _ _ => trivial, ih1, ih2⟩
  | case5 t v ih => simp only [In]; exact ih
  | case6 cs ih => simp only [In]; exact ih
  | case7 cs ih => simp only [In]; exact ih
  | _ => simp_all [In]
theorem tin_true (T : Tr Value) : TIn (fun _ => True) T := fun _ v _ => in_true v

theorem draw_tape {P : Program} {call : Caller} (hin : CallIn call) {ops : Array Oper} {n : Nat} {T : Tr Value} {h : Hp} {r : Res} (e : drawA P call ops n T h = some r) (hn : HIn (fun _ => True) h) :
    statB ops = true ∧ ∃ t : Tape, t.A 0 = h ∧ t.T 0 = T ∧ t.A ops.size = r.hp ∧ t.T ops.size = r.T ∧ (∀ (k : Nat) (o : Oper), ops[k]? = some o → StepOK P call ops (masks ops.toList []) n t k o) ∧
      ∀ y, y ∈ r.wr ↔ ∃ k, k < ops.size ∧ y ∈ t.wr k ∧ y < h.next := by
  unfold drawA at e
  split at e
  case h_2 => cases e
  rename_i hs
  let t0 : Tape := ⟨fun _ => h, fun _ => T, fun _ => undef, fun _ => [], fun _ => true, fun _ => none⟩
  obtain ⟨t, b1, b2, b3, b4, b5⟩ := drawGo_spec hin ops.toList 0 t0 [] [] r (by simp) (fun p => by simp) hn (tin_true _) e
  have e0 := b1.1 0 (Nat.le_refl _)
  have hl : 0 + ops.toList.length = ops.size := by simp
  rw [hl] at b2 b3
  refine ⟨hs, t, e0.1, e0.2, b2, b3, fun k o ho => b4 k o (Nat.zero_le _) ho, fun y => ?_⟩
  rw [b5 y, hl]
  constructor
  · rintro (h | ⟨k, _, k2, k3, k4⟩)
    · cases h
    · exact ⟨k, k2, k3, k4⟩
  · rintro ⟨k, k2, k3, k4⟩
    exact .inr ⟨k, Nat.zero_le _, k2, k3, k4⟩

theorem draw_whole {P : Program} {call : Caller} (hin : CallIn call) (hold : CallOld call) {ops : Array Oper} {n : Nat} {T : Tr Value} {h : Hp} {r : Res} (e : drawA P call ops n T h = some r) (hn : HIn (· < h.next) h) (ht : TIn (· < h.next) T) :
    ∃ t : Tape, t.A 0 = h ∧ t.T 0 = T ∧ t.A ops.size = r.hp ∧ t.T ops.size = r.T ∧ Whole P call ops (masks ops.toList []) n t ∧ ∀ y, y ∈ r.wr ↔ ∃ k, k < ops.size ∧ y ∈ t.wr k ∧ y < h.next := by
  obtain ⟨hs, t, e1, e2, e3, e4, e5, e6⟩ := draw_tape hin e (hn.mono fun _ _ => trivial)
  exact ⟨t, e1, e2, e3, e4, ⟨e5, statB_spec hs, masks_spec ops.toList [] (by simp) (fun k i hk => by simp at hk), by rw [e1]; exact hn, by rw [e1, e2]; exact ht, hin, hold⟩, e6⟩

theorem draw_in {P : Program} {call : Caller} (hin : CallIn call) {ops : Array Oper} {n : Nat} {T : Tr Value} {h : Hp} {r : Res} (e : drawA P call ops n T h = some r) :
    ∀ S, HIn S h → TIn S T → (∀ y, h.next ≤ y → y < r.hp.next → S y) → h.next ≤ r.hp.next ∧ HIn S r.hp ∧ TIn S r.T := by
  intro S hn ht hS
  obtain ⟨hs, t, e1, e2, e3, e4, e5, e6⟩ := draw_tape hin e (hn.mono fun _ _ => trivial)
  have hop : ∀ {k : Nat}, k < ops.size → ∃ o, StepOK P call ops (masks ops.toList []) n t k o := fun {k} hk => ⟨ops[k], e5 k _ (by simp [hk])⟩
  have step : ∀ q, q ≤ ops.size → HIn (fun _ => True) (t.A q) := by
    intro q
    induction q with
    | zero => intro _; rw [e1]; exact hn.mono fun _ _ => trivial
    | succ q ih => intro hq; obtain ⟨o, ok⟩ := hop (k := q) (by omega); exact (ok.hin hin (ih (by omega)) (tin_true _) (fun _ _ _ => trivial)).2.1
  have nx : ∀ q, q < ops.size → (t.A q).next ≤ (t.A (q + 1)).next := fun q hq => by
    obtain ⟨o, ok⟩ := hop hq; exact (ok.hin hin (step q (by omega)) (tin_true _) (fun _ _ _ => trivial)).1
  have mono : ∀ q p, p ≤ q → q ≤ ops.size → (t.A p).next ≤ (t.A q).next := by
    intro q
    induction q with
    | zero => intro p hp _; have : p = 0 := by omega
              subst this; exact Nat.le_refl _
    | succ q ih =>
      intro p hp hq
      rcases Nat.eq_or_lt_of_le hp with rfl | hlt
      · exact Nat.le_refl _
      · exact Nat.le_trans (ih p (by omega) (by omega)) (nx q (by omega))
  have all : ∀ q, q ≤ ops.size → HIn S (t.A q) ∧ TIn S (t.T q) := by
    intro q
    induction q with
    | zero => intro _; rw [e1, e2]; exact ⟨hn, ht⟩
    | succ q ih =>
      intro hq
      obtain ⟨o, ok⟩ := hop (k := q) (by omega)
      obtain ⟨i1, i2⟩ := ih (by omega)
      have := ok.hin hin i1 i2 (fun y h1 h2 => hS y (by have := mono q 0 (by omega) (by omega); rw [e1] at this; omega) (by have := mono ops.size (q + 1) hq (Nat.le_refl _); rw [e3] at this; omega))
      exact ⟨this.2.1, this.2.2.2⟩
  have h1 := all ops.size (Nat.le_refl _)
  have h2 := mono ops.size 0 (by omega) (Nat.le_refl _)
  rw [e1, e3] at h2
  rw [e3, e4] at h1
  exact ⟨h2, h1⟩

theorem draw_old {P : Program} {call : Caller} (hin : CallIn call) (hold : CallOld call) {ops : Array Oper} {n : Nat} {T : Tr Value} {h : Hp} {r : Res} (e : drawA P call ops n T h = some r) (hn : HIn (· < h.next) h) (ht : TIn (· < h.next) T) :
    ∀ x, x < h.next → x ∉ r.wr → r.hp.get x = h.get x := by
  obtain ⟨t, e1, e2, e3, e4, W, e6⟩ := draw_whole hin hold e hn ht
  intro x hx hw
  rw [← e3, ← e1]
  exact W.stab (p := 0) (by omega) (Nat.le_refl _) (by rw [e1]; exact hx) fun k _ k2 => .inl fun hk => hw ((e6 x).2 ⟨k, k2, hk, hx⟩)

theorem draw_sem {ro : Option Nat} {ds : List Deferred} {P : Program} {call : Caller} (hm : P.follows .mixedOrders = true) (hcall : CallSem P call) (hin : CallIn call) (hold : CallOld call) (hnum : NoNum P) {ops : Array Oper} {n id : Nat} {T : Tr Value} {h : Hp} {r : Res} (e : drawA P call ops n T h = some r)
    {s : Val} {w : World} {a : Act} (hp : Pre s h w) (hr : RelT ds s n T a) (ht : TIn (· < h.next) T) {Q : Exit → Act → World → Prop}
    (K : ∀ s' w' a', Post s s' h r.hp w w' r.wr → RelT ds s' n r.T a' → Q .normal a' w') : (Code.region id ops true).wpIn (fence ro) 0 P Q a w := by
  obtain ⟨t, e1, e2, e3, e4, W, e6⟩ := draw_whole hin hold e hp.hin ht
  refine wpIn_region_any hm ?_
  have hp' : Pre s (t.A 0) { w with drawn := w.drawn + 1 } := by rw [e1]; exact ⟨hp.sat, hp.inj, hp.hin⟩
  have hr' : RelT ds s n (t.T 0) a := by rw [e2]; exact hr
  have e0 : (fun _ : Nat => False) = DL (Array.replicate ops.size false) := by
    funext i
    unfold DL
    by_cases hi : i < ops.size <;> simp [hi]
  have inv := Inv.start (ops := ops) hp' hr'
  rw [e0] at inv
  refine any_order W hcall hnum (fun s' a' w' M inv' => ?_) ops.size _ 0 s a _ (by simp) (cnt_le _ _) inv
  obtain ⟨f1, f2⟩ := inv'.finish W (wr := r.wr) (fun y => by rw [e6 y, e1])
  rw [e1, e3] at f1
  rw [e4] at f2
  exact K s' w' a' f1.drew' f2
end

section
/-! Control: code, with ranges over functions. -/
inductive Fin where
  | normal
  | exit (id : Nat)
  | ret

def Fin.to : Fin → Exit
  | .normal => .normal
  | .exit id => .exit id
  | .ret => .ret

structure Run where
  fin : Fin
  T : Tr Value
  hp : Hp
  wr : List Nat
  /-- blocks for deferred calls that the activation bears -/
  ds : List Nat

def ofRes (ds : List Nat) : Option Res → Option Run
  | some r => some ⟨.normal, r.T, r.hp, r.wr, ds⟩
  | none => none

/-- the record of a range over a function -/
def recBlk (D n : Nat) (T : Tr Value) (ps : Array Tmp) (asg body : Code) : Blk :=
  ⟨0, 0, true, .map (some D) :: (List.range n).map (fun t => (T.get t).getD undef), some (.loop .ready none ps asg body)⟩
def dfrBlk (taken : Bool) : Blk := ⟨0, 0, true, [], some (.dfr taken)⟩

/-- the record is laid: its name, the marks, the heap -/
def enterA (n : Nat) (ro : Option Nat) (T : Tr Value) (ds : List Nat) (ps : Array Tmp) (asg body : Code) (h : Hp) : Option (Nat × List Nat × Hp) :=
  match ro with
  | none => match h.new (dfrBlk false) with
    | some h1 => match h1.new (recBlk h.next n T ps asg body) with
      | some h2 => some (h1.next, h.next :: ds, h2)
      | none => none
    | none => none
  | some l => match h.get l with
    | some b => match b.lp, b.cells with
      | some (.loop _ _ _ _ _), .map (some D) :: _ => match h.new (recBlk D n T ps asg body) with
        | some h2 => some (h.next, ds, h2)
        | none => none
      | _, _ => none
    | none => none

/-- the record's state turns -/
def setLoop (x : Nat) (f : LoopState → Bool) (st' : LoopState) (pe' : Option (Option Code)) (h : Hp) : Option (Option Code × Hp) :=
  match h.get x with
  | some b => match b.lp with
    | some (.loop st pe ps asg body) => match f st with
      | true => match h.put x (some { b with lp := some (.loop st' (pe'.getD pe) ps asg body) }) with
        | some h' => some (pe, h')
        | none => none
      | false => none
    | _ => none
  | none => none

def notBusy : LoopState → Bool
  | .busy => false
  | _ => true
def isReady : LoopState → Bool
  | .ready => true
  | _ => false

abbrev Rcd := Code → Tr Value → List Nat → Hp → Option Run

def stRegion (P : Program) (call : Caller) (n : Nat) (ops : Array Oper) (draw : Bool) (T : Tr Value) (ds : List Nat) (h : Hp) : Option Run :=
  match draw with
  | true => ofRes ds (drawA P call ops n T h)
  | false => ofRes ds (seqG P call ops n h.next ops.toList T h [])
def stSeq2 (rc : Rcd) (y : Code) (nx : Nat) (r : Run) : Option Run :=
  match r.fin with
  | .normal => match rc y r.T r.ds r.hp with
    | some q => some ⟨q.fin, q.T, q.hp, joinWr nx r.wr q.wr, q.ds⟩
    | none => none
  | _ => some r
def stSeq (rc : Rcd) (x y : Code) (T : Tr Value) (ds : List Nat) (h : Hp) : Option Run :=
  match rc x T ds h with
  | some r => stSeq2 rc y h.next r
  | none => none
def stCond (rc : Rcd) (c : Operand) (x y : Code) (T : Tr Value) (ds : List Nat) (h : Hp) : Option Run :=
  match evT T c with
  | some (.bool true) => rc x T ds h
  | some (.bool false) => rc y T ds h
  | _ => none
def stBlock2 (id : Nat) (r : Run) : Option Run :=
  match r.fin with
  | .exit id' => match Nat.beq id' id with
    | true => some ⟨.normal, r.T, r.hp, r.wr, r.ds⟩
    | false => some r
  | _ => some r
def stBlock (rc : Rcd) (id : Nat) (x : Code) (T : Tr Value) (ds : List Nat) (h : Hp) : Option Run :=
  match rc x T ds h with
  | some r => stBlock2 id r
  | none => none
def stRange (P : Program) (call : Caller) (n : Nat) (ro : Option Nat) (rc : Rcd) (g : Operand) (ps : Array Tmp) (asg body : Code) (T : Tr Value) (ds : List Nat) (h : Hp) : Option Run :=
  match evT T g with
  | some (.func (.func fid) fa fb) => match (P.funcs[fid]?).bind (·.body), enterA n ro T ds ps asg body h with
    | some _, some (L, ds', h2) => match call (.func fid) (fa.toList ++ [.func (.yield L) #[] #[]] ++ fb.toList) h2 with
      | some out => match setLoop L notBusy .exhausted none out.hp with
        | some (jump, h3) => match jump with
          | none => some ⟨.normal, T, h3, joinWr h.next (joinWr h.next [] out.wr) [L], ds'⟩
          | some c => match rc c T ds' h3 with
            | some q => some ⟨q.fin, q.T, q.hp, joinWr h.next (joinWr h.next (joinWr h.next [] out.wr) [L]) q.wr, q.ds⟩
            | none => none
        | none => none
      | none => none
    | _, _ => none
  | _ => none
def codeStep (P : Program) (call : Caller) (n : Nat) (ro : Option Nat) (rc : Rcd) (c : Code) (T : Tr Value) (ds : List Nat) (h : Hp) : Option Run :=
  match c with
  | .skip => some ⟨.normal, T, h, [], ds⟩
  | .label _ => some ⟨.normal, T, h, [], ds⟩
  | .exit id => some ⟨.exit id, T, h, [], ds⟩
  | .ret => some ⟨.ret, T, h, [], ds⟩
  | .region _ ops draw => stRegion P call n ops draw T ds h
  | .seq x y => stSeq rc x y T ds h
  | .cond c x y => stCond rc c x y T ds h
  | .block id x => stBlock rc id x T ds h
  | .scope x => rc x T ds h
  | .loop x => stSeq rc x (.loop x) T ds h
  | .rangeFunc g ps asg body => stRange P call n ro rc g ps asg body T ds h
  | _ => none
def codeA (P : Program) (call : Caller) (n : Nat) (ro : Option Nat) (f : Nat) : Rcd :=
  Nat.rec (motive := fun _ => Rcd) (fun _ _ _ _ => none) (fun _ ih => codeStep P call n ro ih) f
theorem codeA_zero (P : Program) (call : Caller) (n : Nat) (ro : Option Nat) (c : Code) (T : Tr Value) (ds : List Nat) (h : Hp) : codeA P call n ro 0 c T ds h = none := rfl
theorem codeA_succ (P : Program) (call : Caller) (n : Nat) (ro : Option Nat) (f : Nat) (c : Code) (T : Tr Value) (ds : List Nat) (h : Hp) : codeA P call n ro (f + 1) c T ds h = codeStep P call n ro (codeA P call n ro f) c T ds h := rfl

/-! ### what is asked of a round's name and of marks -/
/-- the frame is a function's, or that of a round of a loop that is named -/
def RO (ro rc : Option Nat) (s : Val) (h : Hp) : Prop :=
  match ro with
  | none => rc = none
  | some l => l < h.next ∧ rc = some (s.blk l)
theorem RO.next {ro rc : Option Nat} {s s' : Val} {h h' : Hp} {w w' : World} {wr : List Nat} (hr : RO ro rc s h) (hp : Post s s' h h' w w' wr) : RO ro rc s' h' := by
  cases ro with
  | none => exact hr
  | some l => exact ⟨Nat.lt_of_lt_of_le hr.1 hp.mono, by rw [hr.2, (hp.off l (.inl hr.1)).1]⟩

def dsC (s : Val) (ds : List Nat) : List Deferred := ds.map fun D => { target := .collected (s.blk D), args := #[] }
theorem dsC_next {s s' : Val} {h h' : Hp} {w w' : World} {wr : List Nat} {ds : List Nat} (hd : ∀ D ∈ ds, D < h.next) (hp : Post s s' h h' w w' wr) : dsC s' ds = dsC s ds :=
  List.map_congr_left fun D hD => by rw [(hp.off D (.inl (hd D hD))).1]

/-! ### the record is laid -/
theorem new_hin {S : Nat → Prop} {h h' : Hp} {b : Blk} (hn : HIn S h) (e : h.new b = some h') (hb : ∀ v ∈ b.cells, In S v) (hS : S h.next) : HIn S h' := by
  obtain ⟨e1, e2⟩ := Hp.new_spec e
  intro k b' hk
  rw [e2] at hk
  split at hk
  · rename_i hke; cases hk; subst hke; exact ⟨hS, by omega, hb⟩
  · have := hn k b' hk; exact ⟨this.1, by omega, this.2.2⟩
theorem put_hin {S : Nat → Prop} {h h' : Hp} {x : Nat} {b b0 : Blk} (hn : HIn S h) (h0 : h.get x = some b0) (e : h.put x (some b) = some h') (hb : b.cells = b0.cells) : HIn S h' ∧ h'.next = h.next := by
  obtain ⟨e1, e2⟩ := Hp.put_spec e
  refine ⟨fun k b' hk => ?_, e1⟩
  rw [e2] at hk
  split at hk
  · rename_i hke; subst hke; cases hk; have := hn _ _ h0; exact ⟨this.1, by omega, by rw [hb]; exact this.2.2⟩
  · have := hn k b' hk; exact ⟨this.1, by omega, this.2.2⟩

theorem rec_cells {S : Nat → Prop} {D n : Nat} {T : Tr Value} {ps : Array Tmp} {asg body : Code} (hD : S D) (ht : TIn S T) : ∀ v ∈ (recBlk D n T ps asg body).cells, In S v := by
  intro v hv
  simp only [recBlk, List.mem_cons, List.mem_map] at hv
  rcases hv with rfl | ⟨t, _, rfl⟩
  · simp only [In]; exact hD
  · exact ht.getD t

theorem enterA_in {n : Nat} {ro : Option Nat} {T : Tr Value} {ds ds' : List Nat} {ps : Array Tmp} {asg body : Code} {h h2 : Hp} {L : Nat} (e : enterA n ro T ds ps asg body h = some (L, ds', h2)) :
    h.next < h2.next ∧ (∀ x, x < h.next → h2.get x = h.get x) ∧ h.next ≤ L ∧ L < h2.next ∧
    ∀ S, HIn S h → TIn S T → (∀ D ∈ ds, S D) → (∀ y, h.next ≤ y → y < h2.next → S y) → HIn S h2 ∧ ∀ D ∈ ds', S D := by
  unfold enterA at e
  split at e
  · split at e
    case h_2 => cases e
    rename_i h1 e1
    split at e
    case h_2 => cases e
    rename_i h2' e2
    simp only [Option.some.injEq, Prod.mk.injEq] at e
    obtain ⟨rfl, rfl, rfl⟩ := e
    have s1 := Hp.new_spec e1
    have s2 := Hp.new_spec e2
    refine ⟨by omega, fun x hx => by rw [s2.2, if_neg (by omega), s1.2, if_neg (by omega)], by omega, by omega, fun S hn ht hd hS => ?_⟩
    have n1 := new_hin hn e1 (by simp [dfrBlk]) (hS _ (Nat.le_refl _) (by omega))
    refine ⟨new_hin n1 e2 (rec_cells (hS _ (Nat.le_refl _) (by omega)) ht) (hS _ (by omega) (by omega)), fun D hD => ?_⟩
    rcases List.mem_cons.1 hD with rfl | hD
    · exact hS _ (Nat.le_refl _) (by omega)
    · exact hd D hD
  · split at e
    case h_2 => cases e
    rename_i b hb
    split at e
    case h_2 => cases e
    rename_i D rest hlp hc
    split at e
    case h_2 => cases e
    rename_i h2' e2
    simp only [Option.some.injEq, Prod.mk.injEq] at e
    obtain ⟨rfl, rfl, rfl⟩ := e
    have s2 := Hp.new_spec e2
    refine ⟨by omega, fun x hx => by rw [s2.2, if_neg (by omega)], by omega, by omega, fun S hn ht hd hS => ⟨?_, hd⟩⟩
    have hDS : S D := by
      have := (hn _ b hb).2.2 (.map (some D)) (by rw [hc]; simp)
      simpa only [In] using this
    exact new_hin hn e2 (rec_cells hDS ht) (hS _ (by omega) (by omega))

theorem rec_tmps {dl : List Deferred} {s : Val} {n : Nat} {T : Tr Value} {a : Act} (hr : RelT dl s n T a) : a.tmps = (((List.range n).map (fun t => (T.get t).getD undef)).map (conc s)).toArray := by
  apply Array.ext
  · simp [hr.size]
  · intro i h1 h2
    have := hr.tmps i
    simp only [Array.getD_eq_getD_getElem?, Array.getElem?_eq_getElem h1, Option.getD_some] at this
    rw [this]
    simp

theorem Pre.next' {s s' : Val} {h h' : Hp} {w w' : World} {wr : List Nat} (hp : Post s s' h h' w w' wr) (hn : HIn (· < h'.next) h') : Pre s' h' w' := ⟨hp.sat, hp.inj, hn⟩

theorem new_rec_sem {fn : FuncId} {dl : List Deferred} {s : Val} {n : Nat} {T : Tr Value} {a : Act} {D : Nat} {ps : Array Tmp} {asg body : Code} {h h2 : Hp} {w : World} (hp : Pre s h w) (hr : RelT dl s n T a) (ht : TIn (· < h.next) T) (hD : D < h.next)
    (e : h.new (recBlk D n T ps asg body) = some h2) : 
    Post s (s.with h.next w.heap.size 0) h h2 w (w.alloc (.loop { state := .ready, pending := none, fn := fn, tmps := a.tmps, params := ps, assign := asg, body := body, defers := s.blk D })) [] := by
  refine Post.newG hp.sat hp.inj hp.hin e (rec_cells hD ht) (fun hg => ?_) rfl rfl rfl rfl
  have agree : ∀ x, x < h.next → s.blk x = (s.with h.next w.heap.size 0).blk x ∧ s.cap x = (s.with h.next w.heap.size 0).cap x := fun x hx => by
    have := Val.with_off (s := s) (x := h.next) (b := w.heap.size) (c := 0) (y := x) (by omega)
    exact ⟨this.1.symm, this.2.symm⟩
  refine .inr ⟨_, rfl, fn, D, _, rfl, ?_⟩
  rw [Val.with_blk, ← (agree D hD).1, ← conc_list agree _ (fun v hv => ?_), ← rec_tmps hr]
  · exact hg
  · obtain ⟨t, _, rfl⟩ := List.mem_map.1 hv
    exact ht.getD t

theorem enter_sem {P : Program} {n : Nat} {ro rc : Option Nat} {T : Tr Value} {ds ds' : List Nat} {ps : Array Tmp} {asg body : Code} {h h2 : Hp} {L : Nat} {s : Val} {w : World} {a : Act}
    (hp : Pre s h w) (hr : RelT (dsC s ds) s n T a) (ht : TIn (· < h.next) T) (hd : ∀ D ∈ ds, D < h.next) (hro : RO ro rc s h) (e : enterA n ro T ds ps asg body h = some (L, ds', h2)) (fn : FuncId) :
    ∃ s' w' mark, (Instr.enterLoop fn a.tmps ps asg body rc).run P w = .ok (s'.blk L, mark) w' ∧ mark ++ a.defers = dsC s' ds' ∧ Post s s' h h2 w w' [] := by
  unfold enterA at e
  split at e
  · have hrc : rc = none := hro
    subst hrc
    split at e
    case h_2 => cases e
    rename_i h1 e1
    split at e
    case h_2 => cases e
    rename_i h2' e2
    simp only [Option.some.injEq, Prod.mk.injEq] at e
    obtain ⟨rfl, rfl, rfl⟩ := e
    have s1 := Hp.new_spec e1
    have p1 : Post s (s.with h.next w.heap.size 0) h h1 w (w.alloc (.deferred (some []))) [] := by
      refine Post.newG hp.sat hp.inj hp.hin e1 (by simp [dfrBlk]) (fun hg => ?_) rfl rfl rfl rfl
      refine .inr ⟨_, rfl, ?_⟩
      simp only [GoodL]
      rw [Val.with_blk]; exact hg
    have n1 : HIn (· < h1.next) h1 := new_hin (hp.hin.mono fun x hx => by omega) e1 (by simp [dfrBlk]) (by omega)
    have ht1 : TIn (· < h1.next) T := ht.mono fun x hx => by omega
    have p2 := new_rec_sem (fn := fn) (Pre.next' p1 n1) (hr.post ht p1) ht1 (D := h.next) (by omega) e2
    rw [Val.with_blk] at p2
    have p := p1.trans p2
    refine ⟨_, _, [{ target := .collected w.heap.size, args := #[] }], ?_, ?_, p⟩
    · rw [run_enterLoop_outer, Val.with_blk]
      simp
    · rw [hr.defers]
      have e3 := dsC_next hd p
      show _ = _ :: dsC _ ds
      rw [e3]
      dsimp only
      rw [(Val.with_off (show h.next ≠ h1.next by omega)).1, Val.with_blk]
      rfl
  · rename_i l
    obtain ⟨hl, hrc⟩ := hro
    subst hrc
    split at e
    case h_2 => cases e
    rename_i b hb
    split at e
    case h_2 => cases e
    rename_i D rest hlp hc
    split at e
    case h_2 => cases e
    rename_i h2' e2
    simp only [Option.some.injEq, Prod.mk.injEq] at e
    obtain ⟨rfl, rfl, rfl⟩ := e
    have hD : D < h.next := by
      have := (hp.hin _ b hb).2.2 (.map (some D)) (by rw [hc]; simp)
      simpa only [In] using this
    obtain ⟨fn', D', ts, c1, c2⟩ := (hp.sat _ b hb).l hlp
    rw [hc] at c1
    simp only [List.cons.injEq, Value.map.injEq, Option.some.injEq] at c1
    obtain ⟨rfl, rfl⟩ := c1
    have p := new_rec_sem (fn := fn) hp hr ht hD e2
    refine ⟨_, _, [], ?_, ?_, p⟩
    · rw [run_enterLoop_inner c2, Val.with_blk]
    · rw [List.nil_append, hr.defers]; exact (dsC_next hd p).symm

/-! ### the record's state turns -/
theorem setLoop_spec {x : Nat} {f : LoopState → Bool} {st' : LoopState} {pe' : Option (Option Code)} {h h' : Hp} {pe : Option Code} (e : setLoop x f st' pe' h = some (pe, h')) :
    ∃ b st ps asg body, h.get x = some b ∧ b.lp = some (.loop st pe ps asg body) ∧ f st = true ∧ h.put x (some { b with lp := some (.loop st' (pe'.getD pe) ps asg body) }) = some h' := by
  unfold setLoop at e
  split at e
  case h_2 => cases e
  rename_i b hb
  split at e
  case h_2 => cases e
  rename_i st pe0 ps asg body hl
  split at e
  case h_2 => cases e
  rename_i hf
  split at e
  case h_2 => cases e
  rename_i h1 hput
  simp only [Option.some.injEq, Prod.mk.injEq] at e
  obtain ⟨rfl, rfl⟩ := e
  exact ⟨b, st, ps, asg, body, hb, hl, hf, hput⟩

theorem setLoop_in {S : Nat → Prop} {x : Nat} {f : LoopState → Bool} {st' : LoopState} {pe' : Option (Option Code)} {h h' : Hp} {pe : Option Code} (e : setLoop x f st' pe' h = some (pe, h')) (hn : HIn S h) : HIn S h' ∧ h'.next = h.next := by
  obtain ⟨b, st, ps, asg, body, hb, hl, hf, hput⟩ := setLoop_spec e
  exact put_hin hn hb hput rfl
theorem setLoop_next {x : Nat} {f : LoopState → Bool} {st' : LoopState} {pe' : Option (Option Code)} {h h' : Hp} {pe : Option Code} (e : setLoop x f st' pe' h = some (pe, h')) : h'.next = h.next ∧ ∀ y, y ≠ x → h'.get y = h.get y := by
  obtain ⟨b, st, ps, asg, body, hb, hl, hf, hput⟩ := setLoop_spec e
  obtain ⟨e1, e2⟩ := Hp.put_spec hput
  exact ⟨e1, fun y hy => by rw [e2, if_neg hy]⟩

/-- the record as it lies in the world, and turned -/
theorem setLoop_sem {x : Nat} {f : LoopState → Bool} {st' : LoopState} {pe' : Option (Option Code)} {h h' : Hp} {pe : Option Code} {s : Val} {w : World} (hp : Pre s h w) (e : setLoop x f st' pe' h = some (pe, h')) :
    ∃ r : Loop, w.heap[s.blk x]? = some (.loop r) ∧ f r.state = true ∧ r.pending = pe ∧ Post s s h h' w (w.putObj (s.blk x) (.loop { r with state := st', pending := pe'.getD pe })) [x] := by
  obtain ⟨b, st, ps, asg, body, hb, hl, hf, hput⟩ := setLoop_spec e
  obtain ⟨fn, D, ts, c1, c2⟩ := (hp.sat x b hb).l hl
  refine ⟨_, c2, hf, rfl, Post.setG hp.sat hp.inj hp.hin hb hput (fun hg => .inr ⟨_, rfl, fn, D, ts, c1, ?_⟩) rfl rfl rfl rfl⟩
  exact hg

/-! ### a scope, in whatever frame -/
section
variable {P : Program} {F : Fence} {n : Nat} {b : Frame} {a : Act} {k : List Item} {cs : List Frame} {w : World} {Q : Exit → Act → World → Prop}

theorem stepR_scope {c : Code} : step P (lone (b.atR a (.code (.scope c) :: k)) cs w) = .next (lone (b.atR a (.code c :: .inScope c :: k)) cs w) :=
  step_lone_go (by simp [stepG, stepG.exec, Frame.atR])
theorem stepR_inScope {c : Code} : step P (lone (b.atR a (.inScope c :: k)) cs w) = .next (lone (b.atR a k) cs w) :=
  step_lone_go (by simp [stepG, stepG.exec, Frame.atR])

theorem wpIn_scope_straight {c : Code} (h : c.wpIn F n P (Exit.noGoto Q) a w) : (Code.scope c).wpIn F n P Q a w := by
  intro b k cs hro hb hr
  have h0 : (lone (b.atR a (.code (.scope c) :: k)) cs w).fenced P F := fenced_calm hb hr rfl
  obtain ⟨e, a₁, w₁, hq, harr⟩ := h b (.inScope c :: k) cs hro hb hr
  cases e with
  | normal => exact ⟨.normal, a₁, w₁, hq, .head h0 stepR_scope (StepsIn.trans harr (.one (fenced_calm (fr := b.atR a₁ (.inScope c :: k)) hb hr rfl) stepR_inScope))⟩
  | exit id => exact ⟨.exit id, a₁, w₁, hq, fun k' hk => .head h0 stepR_scope (harr.1 k' (by simpa [exitTo] using hk)),
      fun hr' hk => let ⟨k₁, h1, h2⟩ := harr.2 hr' (by simpa [exitTo] using hk); ⟨k₁, h1, .head h0 stepR_scope h2⟩⟩
  | goto l => exact hq.elim
  | ret => exact ⟨_, a₁, w₁, hq, .of_steps (.one h0 stepR_scope) harr⟩
  | panic ch => exact ⟨_, a₁, w₁, hq, .of_steps (.one h0 stepR_scope) harr⟩
  | outgrown => exact ⟨_, a₁, w₁, hq, .of_steps (.one h0 stepR_scope) harr⟩

/-! ### a loop, a round at a time -/
def wpI (F : Fence) (n : Nat) (P : Program) (c : Code) (Q : Exit → Act → World → Prop) (a : Act) (w : World) : Prop :=
  ∀ (b : Frame) (k : List Item) (cs : List Frame), b.roundOf = F.round → F.fn b.fn → F.room (cs.length + 1 + n) → ∃ e a' w', Q e a' w' ∧ ArrivesIn (Machine.fenced P F) P (lone (b.atR a (.inLoop c :: k)) cs w) b k cs e a' w'

theorem loop_core {c : Code} (h : c.wpIn F n P (Exit.then (wpI F n P c Q) Q) a w) (b : Frame) (k : List Item) (cs : List Frame) (hro : b.roundOf = F.round) (hb : F.fn b.fn) (hr : F.room (cs.length + 1 + n)) :
    ∃ e a' w', Q e a' w' ∧ ArrivesIn (Machine.fenced P F) P (lone (b.atR a (.code c :: .inLoop c :: k)) cs w) b k cs e a' w' := by
  obtain ⟨e, a₁, w₁, hq, harr⟩ := h b (.inLoop c :: k) cs hro hb hr
  cases e with
  | normal =>
    obtain ⟨e₂, a₂, w₂, hq₂, harr₂⟩ := hq b k cs hro hb hr
    exact ⟨e₂, a₂, w₂, hq₂, .of_steps harr harr₂⟩
  | exit id => exact ⟨_, a₁, w₁, hq, .pass (x := .inLoop c) rfl (fun _ _ => .inl (by simp)) harr⟩
  | goto l => exact ⟨_, a₁, w₁, hq, .pass (x := .inLoop c) rfl (fun _ _ => .inl (by simp)) harr⟩
  | ret => exact ⟨_, a₁, w₁, hq, .pass (x := .inLoop c) rfl (fun _ _ => .inl (by simp)) harr⟩
  | panic ch => exact ⟨_, a₁, w₁, hq, .pass (x := .inLoop c) rfl (fun _ _ => .inl (by simp)) harr⟩
  | outgrown => exact ⟨_, a₁, w₁, hq, .pass (x := .inLoop c) rfl (fun _ _ => .inl (by simp)) harr⟩

theorem wp_loop_round {c : Code} (h : c.wpIn F n P (Exit.then (wpI F n P c Q) Q) a w) : (Code.loop c).wpIn F n P Q a w := fun b k cs hro hb hr => by
  obtain ⟨e, a', w', hq, harr⟩ := loop_core h b k cs hro hb hr
  exact ⟨e, a', w', hq, .of_steps (.one (fenced_calm hb hr rfl) stepR_loop) harr⟩
theorem wpI_round {c : Code} (h : c.wpIn F n P (Exit.then (wpI F n P c Q) Q) a w) : wpI F n P c Q a w := fun b k cs hro hb hr => by
  obtain ⟨e, a', w', hq, harr⟩ := loop_core h b k cs hro hb hr
  exact ⟨e, a', w', hq, .of_steps (.one (fenced_calm hb hr rfl) stepR_inLoop) harr⟩
end
end

section
/-! Control: what holds of code. -/
theorem ofRes_some {ds : List Nat} {o : Option Res} {r : Run} (e : ofRes ds o = some r) : ∃ q, o = some q ∧ r = ⟨.normal, q.T, q.hp, q.wr, ds⟩ := by
  unfold ofRes at e
  split at e
  · rename_i q; cases e; exact ⟨q, rfl, rfl⟩
  · cases e

/-- the parts of a range over a function -/
theorem range_parts {P : Program} {call : Caller} {n : Nat} {ro : Option Nat} {f : Nat} {g : Operand} {ps : Array Tmp} {asg body : Code} {T : Tr Value} {ds : List Nat} {h : Hp} {r : Run}
    (e : codeA P call n ro (f + 1) (.rangeFunc g ps asg body) T ds h = some r) :
    ∃ fid fa fb fn c L ds' h2 out jump h3, evT T g = some (.func (.func fid) fa fb) ∧ P.funcs[fid]? = some fn ∧ fn.body = some c ∧ enterA n ro T ds ps asg body h = some (L, ds', h2) ∧
      call (.func fid) (fa.toList ++ [.func (.yield L) #[] #[]] ++ fb.toList) h2 = some out ∧ setLoop L notBusy .exhausted none out.hp = some (jump, h3) ∧
      ((jump = none ∧ r = ⟨.normal, T, h3, joinWr h.next (joinWr h.next [] out.wr) [L], ds'⟩) ∨
       ∃ c q, jump = some c ∧ codeA P call n ro f c T ds' h3 = some q ∧ r = ⟨q.fin, q.T, q.hp, joinWr h.next (joinWr h.next (joinWr h.next [] out.wr) [L]) q.wr, q.ds⟩) := by
  simp only [codeA_succ, codeStep, stRange] at e
  split at e
  case h_2 => cases e
  rename_i fid fa fb hg
  split at e
  case h_2 => cases e
  rename_i bd L ds' h2 hbd hen
  obtain ⟨fn, hfn, hb⟩ := Option.bind_eq_some_iff.1 hbd
  split at e
  case h_2 => cases e
  rename_i out hc
  split at e
  case h_2 => cases e
  rename_i jump h3 hs
  refine ⟨fid, fa, fb, fn, _, L, ds', h2, out, jump, h3, hg, hfn, hb, hen, hc, hs, ?_⟩
  split at e
  · cases e; exact .inl ⟨rfl, rfl⟩
  · rename_i c
    split at e
    case h_2 => cases e
    rename_i q hq
    cases e
    exact .inr ⟨c, q, rfl, hq, rfl⟩

theorem range_args {S : Nat → Prop} {T : Tr Value} {g : Operand} {fid L : Nat} {fa fb : Array Value} (ht : TIn S T) (hg : evT T g = some (.func (.func fid) fa fb)) (hL : S L) :
    ∀ v ∈ fa.toList ++ [.func (.yield L) #[] #[]] ++ fb.toList, In S v := by
  have h := evT_in ht hg
  simp only [In] at h
  intro v hv
  simp only [List.mem_append, List.mem_singleton] at hv
  rcases hv with (hv | rfl) | hv
  · exact h.2.1 v (by simpa using hv)
  · simp only [In]; exact ⟨fun l e => by cases e; exact hL, by simp, by simp⟩
  · exact h.2.2 v (by simpa using hv)

/-! ### names -/
theorem code_in {P : Program} {call : Caller} (hin : CallIn call) {n : Nat} {ro : Option Nat} : ∀ (f : Nat) (c : Code) (T : Tr Value) (ds : List Nat) (h : Hp) (r : Run), codeA P call n ro f c T ds h = some r →
    ∀ S, HIn S h → TIn S T → (∀ D ∈ ds, S D) → (∀ y, h.next ≤ y → y < r.hp.next → S y) → h.next ≤ r.hp.next ∧ HIn S r.hp ∧ TIn S r.T ∧ ∀ D ∈ r.ds, S D := by
  intro f
  induction f with
  | zero => intro c T ds h r e; rw [codeA_zero] at e; cases e
  | succ f ih =>
    have two : ∀ (x y : Code) (T : Tr Value) (ds : List Nat) (h : Hp) (r q : Run), codeA P call n ro f x T ds h = some r → codeA P call n ro f y r.T r.ds r.hp = some q → ∀ S, HIn S h → TIn S T → (∀ D ∈ ds, S D) → (∀ y, h.next ≤ y → y < q.hp.next → S y) → h.next ≤ q.hp.next ∧ HIn S q.hp ∧ TIn S q.T ∧ ∀ D ∈ q.ds, S D := by
      intro x y T ds h r q e1 e2 S hn ht hd hS
      have b1 := ih x T ds h r e1 (fun _ => True) (hn.mono fun _ _ => trivial) (tin_true _) (fun _ _ => trivial) (fun _ _ _ => trivial)
      have b2 := ih y r.T r.ds r.hp q e2 (fun _ => True) b1.2.1 (tin_true _) (fun _ _ => trivial) (fun _ _ _ => trivial)
      have c1 := ih x T ds h r e1 S hn ht hd (fun y h1 h2 => hS y h1 (by omega))
      have c2 := ih y r.T r.ds r.hp q e2 S c1.2.1 c1.2.2.1 c1.2.2.2 (fun y h1 h2 => hS y (by omega) h2)
      exact ⟨by omega, c2.2⟩
    intro c T ds h r e S hn ht hd hS
    cases c
    case rangeFunc g ps asg body =>
      obtain ⟨fid, fa, fb, fn, c, L, ds', h2, out, jump, h3, hg, hfn, hb, hen, hc, hs, hend⟩ := range_parts e
      obtain ⟨en1, en2, en3, en4, en5⟩ := enterA_in hen
      have hsn := setLoop_next hs
      have rest : ∀ S, HIn S h → TIn S T → (∀ D ∈ ds, S D) → (∀ y, h.next ≤ y → y < h3.next → S y) → h2.next ≤ h3.next → h.next ≤ h3.next ∧ HIn S h3 ∧ TIn S T ∧ ∀ D ∈ ds', S D := by
        intro S hn ht hd hS hle
        obtain ⟨k1, k2⟩ := en5 S hn ht hd (fun y h1 h2 => hS y h1 (by omega))
        have kc := hin _ _ _ _ hc S k1 (fun l e => by cases e) (range_args ht hg (hS L en3 (by omega))) (fun y h1 h2 => hS y (by omega) (by omega))
        exact ⟨by omega, (setLoop_in hs kc.1).1, ht, k2⟩
      have hle : h2.next ≤ h3.next := by
        obtain ⟨k1, k2⟩ := en5 (fun _ => True) (hn.mono fun _ _ => trivial) (tin_true _) (fun _ _ => trivial) (fun _ _ _ => trivial)
        have kc := hin _ _ _ _ hc (fun _ => True) k1 (fun l e => by cases e) (range_args (tin_true _) hg trivial) (fun _ _ _ => trivial)
        omega
      rcases hend with ⟨rfl, rfl⟩ | ⟨c, q, rfl, hq, rfl⟩
      · exact rest S hn ht hd hS hle
      · have b0 := rest (fun _ => True) (hn.mono fun _ _ => trivial) (tin_true _) (fun _ _ => trivial) (fun _ _ _ => trivial) hle
        have b1 := ih c T ds' h3 q hq (fun _ => True) b0.2.1 (tin_true _) (fun _ _ => trivial) (fun _ _ _ => trivial)
        have k := rest S hn ht hd (fun y h1 h2 => hS y h1 (by have := b1.1; simp only; omega)) hle
        have k2 := ih c T ds' h3 q hq S k.2.1 k.2.2.1 k.2.2.2 (fun y h1 h2 => hS y (by have := k.1; omega) h2)
        exact ⟨by have := k.1; have := k2.1; simp only; omega, k2.2⟩
    all_goals simp only [codeA_succ, codeStep, stRegion, stSeq, stSeq2, stCond, stBlock, stBlock2] at e
    all_goals try (cases e; done)
    case skip => cases e; exact ⟨Nat.le_refl _, hn, ht, hd⟩
    case label => cases e; exact ⟨Nat.le_refl _, hn, ht, hd⟩
    case exit => cases e; exact ⟨Nat.le_refl _, hn, ht, hd⟩
    case ret => cases e; exact ⟨Nat.le_refl _, hn, ht, hd⟩
    case region id ops draw =>
      split at e
      · obtain ⟨q, hq, rfl⟩ := ofRes_some e
        have := draw_in hin hq S hn ht hS
        exact ⟨this.1, this.2.1, this.2.2, hd⟩
      · obtain ⟨q0, hq0, rfl⟩ := ofRes_some e
        obtain ⟨q, hq, e1, e2, e3⟩ := seqG_spec hin _ _ _ _ _ hq0 (hn.mono fun _ _ => trivial) (Nat.le_refl _)
        simp only at hS ⊢
        rw [e1, e2]
        rw [e2] at hS
        have := seq_in hin _ _ _ _ hq S hn ht hS
        exact ⟨this.1, this.2.1, this.2.2, hd⟩
    case seq x y =>
      split at e
      case h_2 => cases e
      rename_i q hq
      split at e
      · split at e
        case h_2 => cases e
        rename_i q2 hq2
        cases e
        exact two x y T ds h q q2 hq hq2 S hn ht hd hS
      · cases e; exact ih _ _ _ _ _ hq S hn ht hd hS
    case cond c x y =>
      split at e
      · exact ih _ _ _ _ _ e S hn ht hd hS
      · exact ih _ _ _ _ _ e S hn ht hd hS
      · cases e
    case block id x =>
      split at e
      case h_2 => cases e
      rename_i q hq
      split at e
      · split at e
        · cases e; exact ih _ _ _ _ _ hq S hn ht hd hS
        · cases e; exact ih _ _ _ _ _ hq S hn ht hd hS
      · cases e; exact ih _ _ _ _ _ hq S hn ht hd hS
    case scope x => exact ih _ _ _ _ _ e S hn ht hd hS
    case loop x =>
      split at e
      case h_2 => cases e
      rename_i q hq
      split at e
      · split at e
        case h_2 => cases e
        rename_i q2 hq2
        cases e
        exact two x (.loop x) T ds h q q2 hq hq2 S hn ht hd hS
      · cases e; exact ih _ _ _ _ _ hq S hn ht hd hS

theorem code_next {P : Program} {call : Caller} (hin : CallIn call) {n f : Nat} {ro : Option Nat} {c : Code} {T : Tr Value} {ds : List Nat} {h : Hp} {r : Run} (e : codeA P call n ro f c T ds h = some r) (hn : HIn (· < h.next) h) (ht : TIn (· < h.next) T) (hd : ∀ D ∈ ds, D < h.next) :
    h.next ≤ r.hp.next ∧ HIn (· < r.hp.next) r.hp ∧ TIn (· < r.hp.next) r.T ∧ ∀ D ∈ r.ds, D < r.hp.next := by
  have b := (code_in hin f c T ds h r e (fun _ => True) (hn.mono fun _ _ => trivial) (tin_true _) (fun _ _ => trivial) (fun _ _ _ => trivial)).1
  exact code_in hin f c T ds h r e (· < r.hp.next) (hn.mono fun x hx => by omega) (ht.mono fun x hx => by omega) (fun D hD => by have := hd D hD; omega) (fun _ _ h => h)

/-- the heaps of a range over a function, in names -/
theorem range_next {n : Nat} {ro : Option Nat} {call : Caller} (hin : CallIn call) {T : Tr Value} {ds ds' : List Nat} {ps : Array Tmp} {asg body : Code} {h h2 h3 : Hp} {L fid : Nat} {fa fb : Array Value} {g : Operand} {out : Out} {jump : Option Code}
    (hn : HIn (· < h.next) h) (ht : TIn (· < h.next) T) (hd : ∀ D ∈ ds, D < h.next) (hg : evT T g = some (.func (.func fid) fa fb)) (hen : enterA n ro T ds ps asg body h = some (L, ds', h2))
    (hc : call (.func fid) (fa.toList ++ [.func (.yield L) #[] #[]] ++ fb.toList) h2 = some out) (hs : setLoop L notBusy .exhausted none out.hp = some (jump, h3)) :
    h.next < h2.next ∧ h2.next ≤ out.hp.next ∧ h3.next = out.hp.next ∧ HIn (· < h2.next) h2 ∧ (∀ D ∈ ds', D < h2.next) ∧ L < h2.next ∧ HIn (· < out.hp.next) out.hp ∧ HIn (· < h3.next) h3 ∧
    (∀ v ∈ fa.toList ++ [.func (.yield L) #[] #[]] ++ fb.toList, In (· < h2.next) v) := by
  obtain ⟨en1, en2, en3, en4, en5⟩ := enterA_in hen
  obtain ⟨k1, k2⟩ := en5 (· < h2.next) (hn.mono fun x hx => by omega) (ht.mono fun x hx => by omega) (fun D hD => by have := hd D hD; omega) (fun _ _ h => h)
  have ha := range_args (ht.mono fun x hx => (by omega : x < h2.next)) hg en4
  have kc0 := hin _ _ _ _ hc (fun _ => True) (k1.mono fun _ _ => trivial) (fun l e => by cases e) (fun v hv => In.mono (fun _ _ => trivial) v (ha v hv)) (fun _ _ _ => trivial)
  have kc := hin _ _ _ _ hc (· < out.hp.next) (k1.mono fun x hx => by omega) (fun l e => by cases e) (fun v hv => In.mono (fun x hx => by omega) v (ha v hv)) (fun _ _ h => h)
  have hs' := setLoop_in hs kc.1
  exact ⟨en1, kc0.2.2, hs'.2, k1, k2, en4, kc.1, by rw [hs'.2]; exact hs'.1, ha⟩

theorem code_old {P : Program} {call : Caller} (hin : CallIn call) (hold : CallOld call) {n : Nat} {ro : Option Nat} : ∀ (f : Nat) (c : Code) (T : Tr Value) (ds : List Nat) (h : Hp) (r : Run), codeA P call n ro f c T ds h = some r →
    HIn (· < h.next) h → TIn (· < h.next) T → (∀ D ∈ ds, D < h.next) → ∀ x, x < h.next → x ∉ r.wr → r.hp.get x = h.get x := by
  intro f
  induction f with
  | zero => intro c T ds h r e; rw [codeA_zero] at e; cases e
  | succ f ih =>
    have two : ∀ (x y : Code) (T : Tr Value) (ds : List Nat) (h : Hp) (r q : Run), codeA P call n ro f x T ds h = some r → codeA P call n ro f y r.T r.ds r.hp = some q → HIn (· < h.next) h → TIn (· < h.next) T → (∀ D ∈ ds, D < h.next) → ∀ z, z < h.next → z ∉ joinWr h.next r.wr q.wr → q.hp.get z = h.get z := by
      intro x y T ds h r q e1 e2 hn ht hd z hz hw
      rw [mem_joinWr] at hw
      have b1 := code_next hin e1 hn ht hd
      rw [ih y r.T r.ds r.hp q e2 b1.2.1 b1.2.2.1 b1.2.2.2 z (by omega) (fun hh => hw (.inr ⟨hh, hz⟩)), ih x T ds h r e1 hn ht hd z hz (fun hh => hw (.inl hh))]
    intro c T ds h r e hn ht hd
    cases c
    case rangeFunc g ps asg body =>
      obtain ⟨fid, fa, fb, fn, c, L, ds', h2, out, jump, h3, hg, hfn, hb, hen, hc, hs, hend⟩ := range_parts e
      obtain ⟨en1, en2, en3, en4, en5⟩ := enterA_in hen
      obtain ⟨r1, r2, r3, r4, r5, r6, r7, r8, r9⟩ := range_next hin hn ht hd hg hen hc hs
      have base : ∀ x, x < h.next → x ∉ joinWr h.next (joinWr h.next [] out.wr) [L] → h3.get x = h.get x := fun x hx hw => by
        rw [mem_joinWr, mem_joinWr] at hw
        rw [(setLoop_next hs).2 x (by omega), hold _ _ _ _ hc r4 (fun l e => by cases e) r9 x (by omega) (fun hh => hw (.inl (.inr ⟨hh, hx⟩))), en2 x hx]
      rcases hend with ⟨rfl, rfl⟩ | ⟨c, q, rfl, hq, rfl⟩
      · exact base
      · intro x hx hw
        rw [mem_joinWr] at hw
        simp only
        rw [ih c T ds' h3 q hq r8 (ht.mono fun x hx => by omega) (fun D hD => by have := r5 D hD; omega) x (by omega) (fun hh => hw (.inr ⟨hh, hx⟩)), base x hx (fun hh => hw (.inl hh))]
    all_goals simp only [codeA_succ, codeStep, stRegion, stSeq, stSeq2, stCond, stBlock, stBlock2] at e
    all_goals try (cases e; done)
    case skip => cases e; exact fun _ _ _ => rfl
    case label => cases e; exact fun _ _ _ => rfl
    case exit => cases e; exact fun _ _ _ => rfl
    case ret => cases e; exact fun _ _ _ => rfl
    case region id ops draw =>
      split at e
      · obtain ⟨q, hq, rfl⟩ := ofRes_some e
        exact draw_old hin hold hq hn ht
      · obtain ⟨q0, hq0, rfl⟩ := ofRes_some e
        obtain ⟨q, hq, e1, e2, e3⟩ := seqG_spec hin _ _ _ _ _ hq0 (hn.mono fun _ _ => trivial) (Nat.le_refl _)
        simp only
        rw [e2]
        exact fun x hx hw => seq_old hold hin _ _ _ _ hq hn ht x hx fun hh => hw ((e3 x).2 (.inr ⟨hh, hx⟩))
    case seq x y =>
      split at e
      case h_2 => cases e
      rename_i q hq
      split at e
      · split at e
        case h_2 => cases e
        rename_i q2 hq2
        cases e
        exact two x y T ds h q q2 hq hq2 hn ht hd
      · cases e; exact ih _ _ _ _ _ hq hn ht hd
    case cond c x y =>
      split at e
      · exact ih _ _ _ _ _ e hn ht hd
      · exact ih _ _ _ _ _ e hn ht hd
      · cases e
    case block id x =>
      split at e
      case h_2 => cases e
      rename_i q hq
      split at e
      · split at e
        · cases e; exact ih x T ds h q hq hn ht hd
        · cases e; exact ih x T ds h _ hq hn ht hd
      · cases e; exact ih _ _ _ _ _ hq hn ht hd
    case scope x => exact ih _ _ _ _ _ e hn ht hd
    case loop x =>
      split at e
      case h_2 => cases e
      rename_i q hq
      split at e
      · split at e
        case h_2 => cases e
        rename_i q2 hq2
        cases e
        exact two x (.loop x) T ds h q q2 hq hq2 hn ht hd
      · cases e; exact ih _ _ _ _ _ hq hn ht hd

theorem joinWr_nil (lo : Nat) (l : List Nat) : joinWr lo l [] = l := rfl

theorem code_sem {P : Program} (hm : P.follows .mixedOrders = true) {call : Caller} (hcall : CallSem P call) (hin : CallIn call) (hold : CallOld call) (hnum : NoNum P) {n : Nat} {ro rc : Option Nat} : ∀ (f : Nat) (c : Code) (T : Tr Value) (ds : List Nat) (h : Hp) (r : Run), codeA P call n ro f c T ds h = some r →
    ∀ s w a Q, Pre s h w → RelT (dsC s ds) s n T a → TIn (· < h.next) T → (∀ D ∈ ds, D < h.next) → RO ro rc s h → (∀ s' w' a', Post s s' h r.hp w w' r.wr → RelT (dsC s' r.ds) s' n r.T a' → Q r.fin.to a' w') → c.wpIn (fence rc) 0 P Q a w ∧ (∀ x, c = .loop x → wpI (fence rc) 0 P x Q a w) := by
  intro f
  induction f with
  | zero => intro c T ds h r e; rw [codeA_zero] at e; cases e
  | succ f ih =>
    intro c T ds h r e s w a Q hp hr ht hd hro K
    have hrefl := Post.refl hp.sat hp.inj hp.hin
    cases c
    case rangeFunc g ps asg body =>
      refine ⟨?_, fun _ h => by cases h⟩
      obtain ⟨fid, fa, fb, fn, c, L, ds', h2, out, jump, h3, hg, hfn, hb, hen, hc, hs, hend⟩ := range_parts e
      obtain ⟨en1, en2, en3, en4, en5⟩ := enterA_in hen
      obtain ⟨r1, r2, r3, r4, r5, r6, r7, r8, r9⟩ := range_next hin hp.hin ht hd hg hen hc hs
      have hge := evT_sem hr hg
      simp only [conc, concFn] at hge
      refine wpIn_rangeFunc fun fnn _ => ?_
      obtain ⟨s1, w1, mark, henter, hmark, p1⟩ := enter_sem (P := P) hp hr ht hd hro hen fnn
      have hnn : ¬ fn.name = "runtime.NumGoroutine" := by simpa using hnum fid fn hfn
      have hfin := evT_in ht hg
      simp only [In] at hfin
      have ka : fa.map (conc s1) = fa.map (conc s) := Array.map_congr_left fun v hv => p1.keep (hfin.2.1 v hv)
      have kb : fb.map (conc s1) = fb.map (conc s) := Array.map_congr_left fun v hv => p1.keep (hfin.2.2 v hv)
      have hcs := hcall _ _ _ _ hc s1 w1 (Pre.next' p1 r4) (fun l e => by cases e) r9
      have hargs : ((fa.toList ++ [Value.func (.yield L) #[] #[]] ++ fb.toList).map (conc s1)).toArray = (fa.map (conc s) ++ #[.func (.yield (s1.blk L)) #[] #[]]) ++ fb.map (conc s) := by
        rw [← ka, ← kb]; apply Array.ext'; simp [conc, concFn]
      rw [hargs] at hcs
      refine ⟨s1.blk L, mark, w1, { target := .fn (.func fid) (fb.map (conc s)), args := fa.map (conc s) ++ #[.func (.yield (s1.blk L)) #[] #[]] }, w1, fid, (fa.map (conc s) ++ #[.func (.yield (s1.blk L)) #[] #[]]) ++ fb.map (conc s), w1, henter, ?_, fun _ _ => trivial, ?_, fun h => by simp [fence, Fence.wide] at h, ?_⟩
      · have hy : a.eval (.const (.func (.yield (s1.blk L)) #[] #[])) = .func (.yield (s1.blk L)) #[] #[] := rfl
        simp [resolve, rangeCall, hge, hy, Deferred.ofValue]
      · simp [invoke, callFunc, hfn, hb, hnn]
      refine CallsIn.mono (F := Fence.wide) (n := 0) hcs fun en w2 ⟨s2, he, p2⟩ => ?_
      subst he
      obtain ⟨rec, hrec, hbusy, hpe, p3⟩ := setLoop_sem (Pre.next' p2 r7) hs
      have hp12 := (p1.trans p2)
      have p123 := hp12.trans p3
      have hblk : s2.blk L = s1.blk L := (p2.off L (.inl r6)).1
      have hne : rec.state ≠ .busy := fun h => by rw [h] at hbusy; cases hbusy
      rw [hblk] at hrec p3 p123
      refine ⟨jump, _, by rw [run_endLoop hrec hne, hpe], ?_⟩
      have hT3 : TIn (· < h3.next) T := ht.mono fun x hx => by omega
      have hrel : RelT (dsC s2 ds') s2 n T { a with defers := mark ++ a.defers } := by
        have q1 := hr.post ht hp12
        refine ⟨q1.size, q1.tmps, ?_⟩
        rw [hmark]
        exact (dsC_next r5 p2).symm
      rcases hend with ⟨rfl, rfl⟩ | ⟨c, q, rfl, hq, rfl⟩
      · exact K s2 _ _ p123 hrel
      · exact (ih c T ds' h3 q hq s2 _ _ Q (Pre.next' p3 r8) hrel hT3 (fun D hD => by have := r5 D hD; omega) ((hro.next p123)) fun s4 w4 a4 p4 r4 => K s4 w4 a4 (p123.trans p4) r4).1
    all_goals simp only [codeA_succ, codeStep, stRegion, stSeq, stSeq2, stCond, stBlock, stBlock2] at e
    all_goals try (cases e; done)
    case skip => cases e; exact ⟨wpIn_skip (K s w a hrefl hr), fun _ h => by cases h⟩
    case label => cases e; exact ⟨wpIn_label (K s w a hrefl hr), fun _ h => by cases h⟩
    case exit => cases e; exact ⟨wpIn_exit (K s w a hrefl hr), fun _ h => by cases h⟩
    case ret => cases e; exact ⟨wpIn_ret (K s w a hrefl hr), fun _ h => by cases h⟩
    case region id ops draw =>
      refine ⟨?_, fun _ h => by cases h⟩
      split at e
      · obtain ⟨q, hq, rfl⟩ := ofRes_some e
        exact draw_sem hm hcall hin hold hnum hq hp hr ht fun s' w' a' p1 r1 => K s' w' a' p1 (by rw [dsC_next hd p1]; exact r1)
      · obtain ⟨q0, hq0, rfl⟩ := ofRes_some e
        obtain ⟨q, hq, e1, e2, e3⟩ := seqG_spec hin _ _ _ _ _ hq0 (hp.hin.mono fun _ _ => trivial) (Nat.le_refl _)
        refine wpIn_region_list (seq_sem hcall hin hnum _ _ _ _ hq s w a hp hr ht fun s' w' a' p1 r1 => K s' w' a' ?_ ?_)
        · simp only
          rw [e2]
          exact p1.congr fun y => by
            rw [e3]
            simp only [List.not_mem_nil, false_or]
            exact ⟨fun h => h.1, fun h => ⟨h, (p1.wrOld y h).1⟩⟩
        · simp only
          rw [dsC_next hd p1, e1]; exact r1
    case seq x y =>
      refine ⟨wpIn_seq ?_, fun _ h => by cases h⟩
      split at e
      case h_2 => cases e
      rename_i q hq
      have b1 := code_next hin hq hp.hin ht hd
      split at e
      · rename_i hf
        split at e
        case h_2 => cases e
        rename_i q2 hq2
        cases e
        refine (ih x T ds h q hq s w a _ hp hr ht hd hro fun s1 w1 a1 p1 r1 => ?_).1
        rw [hf]
        show Code.wpIn (fence rc) 0 P y Q a1 w1
        exact (ih y q.T q.ds q.hp q2 hq2 s1 w1 a1 Q (Pre.next p1 b1.2.1) r1 b1.2.2.1 b1.2.2.2 (hro.next p1) fun s2 w2 a2 p2 r2 => K s2 w2 a2 (p1.trans p2) r2).1
      · rename_i hf
        cases e
        refine (ih x T ds h _ hq s w a _ hp hr ht hd hro fun s1 w1 a1 p1 r1 => ?_).1
        have := K s1 w1 a1 p1 r1
        cases hfin : r.fin with
        | normal => exact absurd hfin hf
        | exit id => rw [hfin] at this; exact this
        | ret => rw [hfin] at this; exact this
    case cond c x y =>
      refine ⟨?_, fun _ h => by cases h⟩
      split at e
      · rename_i hc
        have := evT_sem hr hc
        simp only [conc] at this
        exact wpIn_cond_true this (ih _ _ _ _ _ e s w a Q hp hr ht hd hro K).1
      · rename_i hc
        have := evT_sem hr hc
        simp only [conc] at this
        exact wpIn_cond_false this (ih _ _ _ _ _ e s w a Q hp hr ht hd hro K).1
      · cases e
    case block id x =>
      refine ⟨wpIn_block ?_, fun _ h => by cases h⟩
      split at e
      case h_2 => cases e
      rename_i q hq
      split at e
      · rename_i id' hf
        split at e
        · rename_i hb
          have hb := Nat.eq_of_beq_eq_true hb
          cases e
          refine (ih x T ds h q hq s w a _ hp hr ht hd hro fun s1 w1 a1 p1 r1 => ?_).1
          rw [hf]
          show (if id' = id then Q .normal a1 w1 else _)
          rw [if_pos hb]
          exact K s1 w1 a1 p1 r1
        · rename_i hb
          cases e
          refine (ih x T ds h _ hq s w a _ hp hr ht hd hro fun s1 w1 a1 p1 r1 => ?_).1
          have := K s1 w1 a1 p1 r1
          rw [hf] at this ⊢
          show (if id' = id then _ else Q (.exit id') a1 w1)
          rw [if_neg (fun hh => by rw [beq_t hh] at hb; cases hb)]
          exact this
      · rename_i hf
        cases e
        refine (ih x T ds h _ hq s w a _ hp hr ht hd hro fun s1 w1 a1 p1 r1 => ?_).1
        have := K s1 w1 a1 p1 r1
        cases hfin : r.fin with
        | normal => rw [hfin] at this; exact this
        | exit id' => exact absurd hfin (hf id')
        | ret => rw [hfin] at this; exact this
    case scope x =>
      refine ⟨wpIn_scope_straight ((ih x T ds h r e s w a _ hp hr ht hd hro fun s1 w1 a1 p1 r1 => ?_).1), fun _ h => by cases h⟩
      have := K s1 w1 a1 p1 r1
      cases hfin : r.fin <;> rw [hfin] at this <;> exact this
    case loop x =>
      have core : x.wpIn (fence rc) 0 P (Exit.then (wpI (fence rc) 0 P x Q) Q) a w := by
        split at e
        case h_2 => cases e
        rename_i q hq
        have b1 := code_next hin hq hp.hin ht hd
        split at e
        · rename_i hf
          split at e
          case h_2 => cases e
          rename_i q2 hq2
          cases e
          refine (ih x T ds h q hq s w a _ hp hr ht hd hro fun s1 w1 a1 p1 r1 => ?_).1
          rw [hf]
          show wpI (fence rc) 0 P x Q a1 w1
          exact (ih (.loop x) q.T q.ds q.hp q2 hq2 s1 w1 a1 Q (Pre.next p1 b1.2.1) r1 b1.2.2.1 b1.2.2.2 (hro.next p1) fun s2 w2 a2 p2 r2 => K s2 w2 a2 (p1.trans p2) r2).2 x rfl
        · rename_i hf
          cases e
          refine (ih x T ds h _ hq s w a _ hp hr ht hd hro fun s1 w1 a1 p1 r1 => ?_).1
          have := K s1 w1 a1 p1 r1
          cases hfin : r.fin with
          | normal => exact absurd hfin hf
          | exit id => rw [hfin] at this; exact this
          | ret => rw [hfin] at this; exact this
      exact ⟨wp_loop_round core, fun x' h => by cases h; exact wpI_round core⟩
end

section
/-! Functions; **a closed call, by reckoning**. -/
/-! ### what a function hands back -/
def resOne (P : Program) (T : Tr Value) (h : Hp) : ResultVar → Option Value
  | .tmp t => some ((T.get t).getD undef)
  | .cell a t => aLoad P t ((T.get a).getD undef) h
def resList (P : Program) (T : Tr Value) (h : Hp) : List ResultVar → Option (List Value)
  | [] => some []
  | x :: r => match resOne P T h x, resList P T h r with
    | some v, some l => some (v :: l)
    | _, _ => none
def resA (P : Program) (T : Tr Value) (h : Hp) (fn : Func) : Option Value :=
  match resList P T h fn.results.toList with
  | some [v] => some v
  | some l => some (.tuple ⟨l⟩)
  | none => none

def resM (tmps : Array Value) (x : ResultVar) : Sem Value :=
  match x with
  | .tmp t => pure (tmps.getD t undef)
  | .cell a t => do loadVar t (← asAddr (tmps.getD a undef))

theorem resOne_sem {ds : List Deferred} {P : Program} {s : Val} {n : Nat} {T : Tr Value} {h : Hp} {w : World} {a : Act} (hp : Pre s h w) (hr : RelT ds s n T a) {x : ResultVar} {v : Value} (e : resOne P T h x = some v) :
    (resM a.tmps x).run P w = .ok (conc s v) w := by
  cases x with
  | tmp t =>
    simp only [resOne, Option.some.injEq] at e
    subst e
    show (pure (a.tmps.getD t undef) : Sem Value).run P w = _
    rw [hr.tmps t]
    rfl
  | cell b t =>
    simp only [resOne] at e
    obtain ⟨ad, h1, h2⟩ := load_sem hp e
    show (do loadVar t (← asAddr (a.tmps.getD b undef)) : Sem Value).run P w = _
    rw [hr.tmps b, h1]
    simp [asAddr, h2]

theorem resList_sem {ds : List Deferred} {P : Program} {s : Val} {n : Nat} {T : Tr Value} {h : Hp} {w : World} {a : Act} (hp : Pre s h w) (hr : RelT ds s n T a) : ∀ (l : List ResultVar) (vs : List Value), resList P T h l = some vs →
    (l.mapM (resM a.tmps)).run P w = .ok (vs.map (conc s)) w := by
  intro l
  induction l with
  | nil => intro vs e; simp only [resList, Option.some.injEq] at e; subst e; simp
  | cons x l ih =>
    intro vs e
    simp only [resList] at e
    split at e
    case h_2 => cases e
    rename_i v l' hv hl
    cases e
    have h1 := resOne_sem hp hr hv
    have h2 := ih l' hl
    rw [List.mapM_cons]
    simp only [Sem.run_bind, h1, Result.andThen_ok, h2]
    rfl

theorem resA_sem {ds : List Deferred} {P : Program} {s : Val} {n : Nat} {T : Tr Value} {h : Hp} {w : World} {a : Act} {fn : Func} (hp : Pre s h w) (hr : RelT ds s n T a) {v : Value} (e : resA P T h fn = some v) : (results fn a.tmps).run P w = .ok (conc s v) w := by
  have key : ∀ vs, resList P T h fn.results.toList = some vs → (results fn a.tmps).run P w = .ok (if h : (vs.map (conc s)).toArray.size = 1 then (vs.map (conc s)).toArray[0] else .tuple (vs.map (conc s)).toArray) w := fun vs hvs => by
    have := resList_sem hp hr _ _ hvs
    show (do let vs ← fn.results.mapM (resM a.tmps); pure (if h : vs.size = 1 then vs[0] else .tuple vs) : Sem Value).run P w = _
    have e0 : fn.results.mapM (resM a.tmps) = (fun l : List Value => l.toArray) <$> fn.results.toList.mapM (resM a.tmps) := by
      conv => lhs; rw [← Array.toArray_toList (xs := fn.results)]
      rw [List.mapM_toArray]
    rw [Sem.run_bind, e0]
    have e2 : ((fun l : List Value => l.toArray) <$> fn.results.toList.mapM (resM a.tmps)).run P w = .ok (vs.map (conc s)).toArray w := by
      rw [map_eq_pure_bind, Sem.run_bind, this]; rfl
    rw [e2]
    rfl
  unfold resA at e
  split at e
  · rename_i u hu
    cases e
    rw [key _ hu]
    simp
  · rename_i l hne hl
    cases e
    rw [key _ hl]
    by_cases h1 : l.length = 1
    · match l, h1 with
      | [u], _ => exact absurd rfl (hne u)
    · rw [dif_neg (by simpa using h1)]
      simp [conc]
  · cases e

theorem resList_in {P : Program} {S : Nat → Prop} {T : Tr Value} {h : Hp} (hn : HIn S h) (ht : TIn S T) : ∀ (l : List ResultVar) (vs : List Value), resList P T h l = some vs → ∀ v ∈ vs, In S v := by
  intro l
  induction l with
  | nil => intro vs e; simp only [resList, Option.some.injEq] at e; subst e; simp
  | cons x l ih =>
    intro vs e
    simp only [resList] at e
    split at e
    case h_2 => cases e
    rename_i v l' hv hl
    cases e
    intro u hu
    rcases List.mem_cons.1 hu with rfl | hu
    · cases x with
      | tmp t => simp only [resOne, Option.some.injEq] at hv; subst hv; exact ht.getD t
      | cell b t => exact load_in hn hv
    · exact ih l' hl u hu
theorem resA_in {P : Program} {S : Nat → Prop} {T : Tr Value} {h : Hp} {fn : Func} (hn : HIn S h) (ht : TIn S T) {v : Value} (e : resA P T h fn = some v) : In S v := by
  unfold resA at e
  split at e
  · rename_i u hu; cases e; exact resList_in hn ht _ _ hu v (by simp)
  · rename_i l _ hl; cases e; simp only [In]; exact fun v hv => resList_in hn ht _ _ hl v (by simpa using hv)
  · cases e


/-! ### the marks are come to -/
def takeD : List Nat → Hp → Option Hp
  | [], h => some h
  | D :: ds, h => match h.get D with
    | some b => match b.lp with
      | some (.dfr false) => match h.put D (some { b with lp := some (.dfr true) }) with
        | some h' => takeD ds h'
        | none => none
      | _ => none
    | none => none

theorem takeD_step {D : Nat} {ds : List Nat} {h h' : Hp} (e : takeD (D :: ds) h = some h') : ∃ b h1, h.get D = some b ∧ b.lp = some (.dfr false) ∧ h.put D (some { b with lp := some (.dfr true) }) = some h1 ∧ takeD ds h1 = some h' := by
  simp only [takeD] at e
  split at e
  case h_2 => cases e
  rename_i b hb
  split at e
  case h_2 => cases e
  rename_i hl
  split at e
  case h_2 => cases e
  rename_i h1 hput
  exact ⟨b, h1, hb, hl, hput, e⟩
theorem takeD_in {S : Nat → Prop} : ∀ (ds : List Nat) (h h' : Hp), takeD ds h = some h' → HIn S h → HIn S h' ∧ h'.next = h.next := by
  intro ds
  induction ds with
  | nil => intro h h' e hn; simp only [takeD, Option.some.injEq] at e; subst e; exact ⟨hn, rfl⟩
  | cons D ds ih =>
    intro h h' e hn
    obtain ⟨b, h1, hb, hl, hput, e'⟩ := takeD_step e
    have p := put_hin hn hb hput rfl
    have q := ih h1 h' e' p.1
    exact ⟨q.1, q.2.trans p.2⟩
theorem takeD_old : ∀ (ds : List Nat) (h h' : Hp), takeD ds h = some h' → ∀ x, x ∉ ds → h'.get x = h.get x := by
  intro ds
  induction ds with
  | nil => intro h h' e x _; simp only [takeD, Option.some.injEq] at e; subst e; rfl
  | cons D ds ih =>
    intro h h' e x hx
    obtain ⟨b, h1, hb, hl, hput, e'⟩ := takeD_step e
    rw [ih h1 h' e' x (fun hh => hx (by simp [hh])), (Hp.put_spec hput).2, if_neg (fun hh => hx (by simp [hh]))]

/-- the names that are written when marks are come to, as far as they were there before -/
def wrD (lo : Nat) (ds : List Nat) (wr : List Nat) : List Nat := ds.foldl (fun l D => joinWr lo l [D]) wr

theorem mem_wrD {lo : Nat} : ∀ (ds wr : List Nat) (y : Nat), y ∈ wrD lo ds wr ↔ y ∈ wr ∨ (y ∈ ds ∧ y < lo) := by
  intro ds
  induction ds with
  | nil => intro wr y; simp [wrD]
  | cons D ds ih =>
    intro wr y
    show y ∈ wrD lo ds (joinWr lo wr [D]) ↔ _
    rw [ih, mem_joinWr]
    simp only [List.mem_cons, List.not_mem_nil, or_false]
    constructor
    · rintro ((h | ⟨h, h'⟩) | ⟨h, h'⟩)
      · exact .inl h
      · exact .inr ⟨.inl h, h'⟩
      · exact .inr ⟨.inr h, h'⟩
    · rintro (h | ⟨h | h, h'⟩)
      · exact .inl (.inl h)
      · exact .inl (.inr ⟨h, h'⟩)
      · exact .inr ⟨h, h'⟩

theorem leaves_marks {P : Program} {fn : Func} {tmps : Array Value} {R : Ending → World → Prop} {s0 s : Val} {h0 : Hp} {w0 : World} : ∀ (ds : List Nat) (h h' : Hp) (w : World) (wr : List Nat), takeD ds h = some h' → HIn (· < h.next) h → Post s0 s h0 h w0 w wr →
    (∀ w', Post s0 s h0 h' w0 w' (wrD h0.next ds wr) → ∃ v, (results fn tmps).run P w' = .ok v w' ∧ R (.returned v) w') → LeavesInM Fence.wide 0 P fn tmps R (dsC s ds) .returning w := by
  intro ds
  induction ds with
  | nil =>
    intro h h' w wr e hn p K
    simp only [takeD, Option.some.injEq] at e
    subst e
    exact K w p
  | cons D ds ih =>
    intro h h' w wr e hn p K
    obtain ⟨b, h1, hb, hl, hput, e'⟩ := takeD_step e
    have hg := (p.sat D b hb).l hl
    simp only [GoodL] at hg
    have p1 : Post s s h h1 w (w.putObj (s.blk D) (.deferred none)) [D] := Post.setG p.sat p.inj hn hb hput (fun hg' => .inr ⟨_, rfl, by simp only [GoodL]; exact hg'⟩) rfl rfl rfl rfl
    have n1 := put_hin hn hb hput rfl
    refine ⟨by simp, .inl ⟨s.blk D, _, rfl, run_takeDeferred hg, ?_⟩⟩
    exact ih h1 h' _ _ e' (by rw [n1.2]; exact n1.1) (p.trans p1) K

/-! ### entering a function -/
def initT : List Value → Nat → Tr Value → Option (Tr Value)
  | [], _, T => some T
  | v :: l, i, T => match T.set 64 i (some v) with
    | some T' => initT l (i + 1) T'
    | none => none

theorem initT_spec : ∀ (l : List Value) (i : Nat) (T T' : Tr Value), initT l i T = some T' → ∀ k, T'.get k = if i ≤ k ∧ k < i + l.length then l[k - i]? else T.get k := by
  intro l
  induction l with
  | nil => intro i T T' e k; simp only [initT, Option.some.injEq] at e; subst e; rw [if_neg (by simp)]
  | cons v l ih =>
    intro i T T' e k
    simp only [initT] at e
    split at e
    case h_2 => cases e
    rename_i T1 h1
    rw [ih _ _ _ e k, Tr.get_set _ _ _ _ _ h1]
    by_cases hk : k = i
    · subst hk; rw [if_neg (by omega), if_pos rfl, if_pos (by simp)]; simp
    · by_cases h2 : i + 1 ≤ k ∧ k < i + 1 + l.length
      · rw [if_pos h2, if_pos (by simp; omega)]
        rw [show k - i = (k - (i + 1)) + 1 by omega]; simp
      · rw [if_neg h2, if_neg hk, if_neg (by simp; omega)]

/-- what yield's arguments make of the record's temporaries -/
def zipT (n : Nat) : List (Tmp × Value) → Tr Value → Option (Tr Value)
  | [], T => some T
  | (t, v) :: r, T => match putT n T (some t) v with
    | some T' => zipT n r T'
    | none => none

def jumpOf : Fin → Option Code
  | .normal => none
  | .ret => some .ret
  | .exit id => some (.exit id)

def okFin : Fin → Bool
  | .exit _ => false
  | _ => true

/-- a round: the record, the loop's left sides, the body, the record again -/
def roundA (P : Program) (call : Caller) (cf : Nat) (x : Nat) (args : List Value) (h : Hp) : Option Out :=
  match h.get x with
  | some b => match b.lp, b.cells with
    | some (.loop _ _ ps asg body), .map (some _) :: ts => match Nat.beq args.length ps.size, initT ts 0 .leaf with
      | true, some T0 => match zipT ts.length (ps.toList.zip args) T0 with
        | some T => match codeA P call ts.length (some x) cf asg T [] h with
          | some r => match r.fin, r.ds with
            | .normal, [] => match setLoop x isReady .busy none r.hp with
              | some (_, h2) => match codeA P call ts.length (some x) cf body r.T [] h2 with
                | some q => match q.ds with
                  | [] => match setLoop x (fun _ => true) (match q.fin with | .normal => .ready | _ => .done) (some (jumpOf q.fin)) q.hp with
                    | some (_, h4) => some ⟨.bool (match q.fin with | .normal => true | _ => false), h4, joinWr h.next (joinWr h.next (joinWr h.next r.wr [x]) q.wr) [x]⟩
                    | none => none
                  | _ => none
                | none => none
              | none => none
            | _, _ => none
          | none => none
        | none => none
      | _, _ => none
    | _, _ => none
  | none => none

def fnA (P : Program) (cf : Nat) : Nat → Caller
  | 0 => fun _ _ _ => none
  | f + 1 => fun fn args h => match fn with
    | .func fid => match P.funcs[fid]? with
      | some fn => match fn.body with
        | some c => match initT args 0 .leaf with
          | some T => match codeA P (fnA P cf f) (max fn.ntmps args.length) none cf c T [] h with
            | some r => match okFin r.fin, takeD r.ds r.hp with
              | true, some h2 => match resA P r.T h2 fn with
                | some v => some ⟨v, h2, wrD h.next r.ds r.wr⟩
                | none => none
              | _, _ => none
            | none => none
          | none => none
        | none => none
      | none => none
    | .yield x => roundA P (fnA P cf f) cf x args h
    | _ => none

theorem init_tin {S : Nat → Prop} {args : List Value} {T : Tr Value} (e : initT args 0 .leaf = some T) (h : ∀ v ∈ args, In S v) : TIn S T := by
  intro t v hv
  rw [initT_spec _ _ _ _ e] at hv
  split at hv
  · exact h v (List.mem_of_getElem? hv)
  · cases hv

theorem zipT_in {S : Nat → Prop} {n : Nat} : ∀ (l : List (Tmp × Value)) (T T' : Tr Value), zipT n l T = some T' → TIn S T → (∀ p ∈ l, In S p.2) → TIn S T' := by
  intro l
  induction l with
  | nil => intro T T' e ht _; simp only [zipT, Option.some.injEq] at e; subst e; exact ht
  | cons p l ih =>
    intro T T' e ht hl
    obtain ⟨t, v⟩ := p
    simp only [zipT] at e
    split at e
    case h_2 => cases e
    rename_i T1 h1
    exact ih T1 T' e (TIn.put ht (hl (t, v) (by simp)) h1) fun p hp => hl p (by simp [hp])

theorem zipT_sem {dl : List Deferred} {s : Val} {n : Nat} : ∀ (l : List (Tmp × Value)) (T T' : Tr Value) (a : Act), zipT n l T = some T' → RelT dl s n T a →
    RelT dl s n T' { tmps := (l.map fun p => (p.1, conc s p.2)).foldl (fun t (p, v) => t.setIfInBounds p v) a.tmps, defers := a.defers } := by
  intro l
  induction l with
  | nil => intro T T' a e hr; simp only [zipT, Option.some.injEq] at e; subst e; exact hr
  | cons p l ih =>
    intro T T' a e hr
    obtain ⟨t, v⟩ := p
    simp only [zipT] at e
    split at e
    case h_2 => cases e
    rename_i T1 h1
    exact ih T1 T' (a.put (some t) (conc s v)) e (RelT.put hr h1)

/-- the parts of a round -/
theorem round_parts {P : Program} {call : Caller} {cf x : Nat} {args : List Value} {h : Hp} {out : Out} (e : roundA P call cf x args h = some out) :
    ∃ b st pe ps asg body D ts T0 T r h2 pe2 q pe4 h4, h.get x = some b ∧ b.lp = some (.loop st pe ps asg body) ∧ b.cells = .map (some D) :: ts ∧ args.length = ps.size ∧ initT ts 0 .leaf = some T0 ∧ zipT ts.length (ps.toList.zip args) T0 = some T ∧
      codeA P call ts.length (some x) cf asg T [] h = some r ∧ r.fin = .normal ∧ r.ds = [] ∧ setLoop x isReady .busy none r.hp = some (pe2, h2) ∧ codeA P call ts.length (some x) cf body r.T [] h2 = some q ∧ q.ds = [] ∧
      setLoop x (fun _ => true) (match q.fin with | .normal => .ready | _ => .done) (some (jumpOf q.fin)) q.hp = some (pe4, h4) ∧
      out = ⟨.bool (match q.fin with | .normal => true | _ => false), h4, joinWr h.next (joinWr h.next (joinWr h.next r.wr [x]) q.wr) [x]⟩ := by
  unfold roundA at e
  split at e
  case h_2 => cases e
  rename_i b hb
  split at e
  case h_2 => cases e
  rename_i st pe ps asg body D ts hl hc
  split at e
  case h_2 => cases e
  rename_i T0 hlen hT0
  split at e
  case h_2 => cases e
  rename_i T hT
  split at e
  case h_2 => cases e
  rename_i r hr
  split at e
  case h_2 => cases e
  rename_i hfin hds
  split at e
  case h_2 => cases e
  rename_i pe2 h2 hs2
  split at e
  case h_2 => cases e
  rename_i q hq
  split at e
  case h_2 => cases e
  rename_i hqds
  split at e
  case h_2 => cases e
  rename_i pe4 h4 hs4
  cases e
  exact ⟨b, st, pe, ps, asg, body, D, ts, T0, T, r, h2, pe2, q, pe4, h4, hb, hl, hc, Nat.eq_of_beq_eq_true hlen, hT0, hT, hr, hfin, hds, hs2, hq, hqds, hs4, rfl⟩

theorem round_in {P : Program} {call : Caller} (hin : CallIn call) {cf x : Nat} {args : List Value} {h : Hp} {out : Out} (e : roundA P call cf x args h = some out) {S : Nat → Prop} (hn : HIn S h) (ha : ∀ v ∈ args, In S v) (hS : ∀ y, h.next ≤ y → y < out.hp.next → S y) :
    HIn S out.hp ∧ In S out.v ∧ h.next ≤ out.hp.next := by
  obtain ⟨b, st, pe, ps, asg, body, D, ts, T0, T, r, h2, pe2, q, pe4, h4, hb, hl, hc, hlen, hT0, hT, hr, hfin, hds, hs2, hq, hqds, hs4, rfl⟩ := round_parts e
  have tin : ∀ S, HIn S h → (∀ v ∈ args, In S v) → TIn S T := fun S hn ha => by
    have hcells := (hn x b hb).2.2
    rw [hc] at hcells
    refine zipT_in _ _ _ hT (init_tin hT0 fun v hv => hcells v (by simp [hv])) fun p hp => ha _ (List.of_mem_zip (show (p.1, p.2) ∈ _ from hp)).2
  have a1 := code_in hin _ _ _ _ _ _ hr (fun _ => True) (hn.mono fun _ _ => trivial) (tin_true _) (fun _ _ => trivial) (fun _ _ _ => trivial)
  have a2 := setLoop_in hs2 a1.2.1
  have a3 := code_in hin _ _ _ _ _ _ hq (fun _ => True) a2.1 (tin_true _) (fun _ _ => trivial) (fun _ _ _ => trivial)
  have a4 := setLoop_in hs4 a3.2.1
  have b1 := code_in hin _ _ _ _ _ _ hr S hn (tin S hn ha) (fun _ h => by cases h) (fun y h1 h2 => hS y h1 (by have := a3.1; simp only; omega))
  have b2 := setLoop_in hs2 b1.2.1
  have b3 := code_in hin _ _ _ _ _ _ hq S b2.1 b1.2.2.1 (fun _ h => by cases h) (fun y h1 h2 => hS y (by have := b1.1; omega) (by simp only; omega))
  have b4 := setLoop_in hs4 b3.2.1
  exact ⟨b4.1, by simp [In], by have := a1.1; have := a3.1; simp only; omega⟩

theorem fnA_in {P : Program} {cf : Nat} : ∀ f, CallIn (fnA P cf f) := by
  intro f
  induction f with
  | zero => intro fid args h out e; simp [fnA] at e
  | succ f ih =>
    intro fid args h out e S hn hf ha hS
    cases fid <;> simp only [fnA] at e <;> try (cases e; done)
    case func fid =>
      split at e
      case h_2 => cases e
      split at e
      case h_2 => cases e
      split at e
      case h_2 => cases e
      rename_i T hT
      split at e
      case h_2 => cases e
      rename_i r hr
      split at e
      case h_2 => cases e
      rename_i h2 hfin htake
      split at e
      case h_2 => cases e
      rename_i v hv
      cases e
      have hnx := (takeD_in (S := fun _ => True) _ _ _ htake ((code_in ih _ _ _ _ _ _ hr (fun _ => True) (hn.mono fun _ _ => trivial) (tin_true _) (fun _ _ => trivial) (fun _ _ _ => trivial)).2.1)).2
      have := code_in ih _ _ _ _ _ _ hr S hn (init_tin hT ha) (fun _ h => by cases h) (fun y h1 h2 => hS y h1 (by simp only; omega))
      have t2 := takeD_in _ _ _ htake this.2.1
      exact ⟨t2.1, resA_in t2.1 this.2.2.1 hv, by have := this.1; simp only; omega⟩
    case yield x => exact round_in ih e hn ha hS

theorem round_old {P : Program} {call : Caller} (hin : CallIn call) (hold : CallOld call) {cf x : Nat} {args : List Value} {h : Hp} {out : Out} (e : roundA P call cf x args h = some out) (hn : HIn (· < h.next) h) (ha : ∀ v ∈ args, In (· < h.next) v) :
    ∀ y, y < h.next → y ∉ out.wr → out.hp.get y = h.get y := by
  obtain ⟨b, st, pe, ps, asg, body, D, ts, T0, T, r, h2, pe2, q, pe4, h4, hb, hl, hc, hlen, hT0, hT, hr, hfin, hds, hs2, hq, hqds, hs4, rfl⟩ := round_parts e
  have hcells := (hn x b hb).2.2
  rw [hc] at hcells
  have hTin : TIn (· < h.next) T := zipT_in _ _ _ hT (init_tin hT0 fun v hv => hcells v (by simp [hv])) fun p hp => ha _ (List.of_mem_zip (show (p.1, p.2) ∈ _ from hp)).2
  have a1 := code_next hin hr hn hTin (fun _ h => by cases h)
  have a2 := setLoop_in hs2 a1.2.1
  have n2 : HIn (· < h2.next) h2 := by rw [a2.2]; exact a2.1
  have hx := (hn x b hb).2.1
  intro y hy hw
  rw [mem_joinWr, mem_joinWr, mem_joinWr] at hw
  have hyx : y ≠ x := fun hh => hw (.inr ⟨by simp [hh], hy⟩)
  simp only
  rw [(setLoop_next hs4).2 y hyx, code_old hin hold _ _ _ _ _ _ hq n2 (by rw [a2.2]; exact a1.2.2.1) (fun _ h => by cases h) y (by have := a1.1; omega) (fun hh => hw (.inl (.inr ⟨hh, hy⟩))),
    (setLoop_next hs2).2 y hyx, code_old hin hold _ _ _ _ _ _ hr hn hTin (fun _ h => by cases h) y hy (fun hh => hw (.inl (.inl (.inl hh))))]

theorem fnA_old {P : Program} {cf : Nat} : ∀ f, CallOld (fnA P cf f) := by
  intro f
  induction f with
  | zero => intro fid args h out e; simp [fnA] at e
  | succ f ih =>
    intro fid args h out e hn hf ha
    cases fid <;> simp only [fnA] at e <;> try (cases e; done)
    case func fid =>
      split at e
      case h_2 => cases e
      split at e
      case h_2 => cases e
      split at e
      case h_2 => cases e
      rename_i T hT
      split at e
      case h_2 => cases e
      rename_i r hr
      split at e
      case h_2 => cases e
      rename_i h2 hfin htake
      split at e
      case h_2 => cases e
      rename_i v hv
      cases e
      intro x hx hw
      rw [mem_wrD] at hw
      simp only
      rw [takeD_old _ _ _ htake x (fun hh => hw (.inr ⟨hh, hx⟩))]
      exact code_old (fnA_in f) ih _ _ _ _ _ _ hr hn (init_tin hT ha) (fun _ h => by cases h) x hx (fun hh => hw (.inl hh))
    case yield x => exact round_old (fnA_in f) ih e hn ha

theorem init_rel {dl : List Deferred} {s : Val} {ts : List Value} {T : Tr Value} (hT : initT ts 0 .leaf = some T) : RelT dl s ts.length T { tmps := (ts.map (conc s)).toArray, defers := dl } := by
  have hT0 := initT_spec _ _ _ _ hT
  refine ⟨by simp, fun t => ?_, rfl⟩
  rw [hT0]
  simp only [Array.getD_eq_getD_getElem?]
  by_cases ht : 0 ≤ t ∧ t < 0 + ts.length
  · have ht' : t < ts.length := by omega
    rw [if_pos ht]
    simp [ht']
  · have ht' : ts.length ≤ t := by omega
    rw [if_neg ht]
    simp [ht', Tr.get_leaf, undef_conc]

theorem round_sem {P : Program} (hm : P.follows .mixedOrders = true) {call : Caller} (hcall : CallSem P call) (hin : CallIn call) (hold : CallOld call) (hnum : NoNum P) {cf x : Nat} {args : List Value} {h : Hp} {out : Out} (e : roundA P call cf x args h = some out)
    {s : Val} {w : World} (hp : Pre s h w) (ha : ∀ v ∈ args, In (· < h.next) v) :
    CallAt P s (.yield x) (args.map (conc s)).toArray w fun e w' => ∃ s', e = .returned (conc s' out.v) ∧ Post s s' h out.hp w w' out.wr := by
  obtain ⟨b, st, pe, ps, asg, body, D, ts, T0, T, r, h2, pe2, q, pe4, h4, hb, hl, hc, hlen, hT0, hT, hr, hfin, hds, hs2, hq, hqds, hs4, rfl⟩ := round_parts e
  have hn := hp.hin
  have hcells := (hn x b hb).2.2
  rw [hc] at hcells
  have hx := (hn x b hb).2.1
  have hTin : TIn (· < h.next) T := zipT_in _ _ _ hT (init_tin hT0 fun v hv => hcells v (by simp [hv])) fun p hp => ha _ (List.of_mem_zip (show (p.1, p.2) ∈ _ from hp)).2
  have a1 := code_next hin hr hn hTin (fun _ h => by cases h)
  have a2 := setLoop_in hs2 a1.2.1
  have n2 : HIn (· < h2.next) h2 := by rw [a2.2]; exact a2.1
  have t2 : TIn (· < h2.next) r.T := by rw [a2.2]; exact a1.2.2.1
  have a3 := code_next hin hq n2 t2 (fun _ h => by cases h)
  obtain ⟨fn, D', ts', c1, c2⟩ := (hp.sat _ b hb).l hl
  rw [hc] at c1
  simp only [List.cons.injEq, Value.map.injEq, Option.some.injEq] at c1
  obtain ⟨rfl, rfl⟩ := c1
  have hy := run_yield (P := P) (args := (args.map (conc s)).toArray) c2 (by simpa using hlen)
  refine ⟨_, _, _, _, hy, roundIn_of_wpIn trivial ?_⟩
  have hrel := zipT_sem _ _ _ _ hT (init_rel (dl := []) (s := s) hT0)
  have hf : ((ps.zip (args.map (conc s)).toArray).foldl (fun tmps (t, a) => tmps.setIfInBounds t a) (ts.map (conc s)).toArray) = ((ps.toList.zip args).map fun p => (p.1, conc s p.2)).foldl (fun t (p, v) => t.setIfInBounds p v) (ts.map (conc s)).toArray := by
    rw [← Array.foldl_toList, Array.toList_zip]
    congr 1
    rw [List.zip_map_right]
    rfl
  rw [← hf] at hrel
  have hro : RO (some x) (some (s.blk x)) s h := ⟨hx, rfl⟩
  refine (code_sem hm hcall hin hold hnum (rc := some (s.blk x)) _ _ _ _ _ _ hr s w _ _ hp hrel hTin (fun _ h => by cases h) hro fun s1 w1 a1' p1 r1 => ?_).1
  rw [hfin]
  have hblk1 : s1.blk x = s.blk x := (p1.off x (.inl hx)).1
  obtain ⟨rec, hrec, hready, hpe, p2⟩ := setLoop_sem (Pre.next' p1 a1.2.1) hs2
  rw [hblk1] at hrec p2
  have hst : rec.state = .ready := by
    cases hh : rec.state <;> rw [hh] at hready <;> first | rfl | cases hready
  have pe2' : (none : Option (Option Code)).getD pe2 = rec.pending := hpe.symm
  rw [pe2'] at p2
  refine ⟨_, run_beginRound hrec hst, ?_⟩
  have p12 := p1.trans p2
  have r1' : RelT (dsC s1 []) s1 ts.length r.T a1' := by rw [hds] at r1; exact r1
  refine (code_sem hm hcall hin hold hnum (rc := some (s.blk x)) _ _ _ _ _ _ hq s1 _ _ _ (Pre.next' p2 n2) r1' t2 (fun _ h => by cases h) (hro.next p12) fun s3 w3 a3' p3 r3 => ?_).1
  have p123 := p12.trans p3
  have hblk3 : s3.blk x = s.blk x := (p123.off x (.inl hx)).1
  obtain ⟨rec3, hrec3, _, hpe3, p4⟩ := setLoop_sem (Pre.next' p3 a3.2.1) hs4
  rw [hblk3] at hrec3 p4
  have p := p123.trans p4
  cases hqf : q.fin with
  | normal =>
    rw [hqf] at p p4
    exact ⟨_, _, run_endRound none hrec3, s3, by simp [conc], p⟩
  | ret =>
    rw [hqf] at p p4
    exact ⟨_, _, run_endRound (some .ret) hrec3, s3, by simp [conc], p⟩
  | exit id =>
    rw [hqf] at p p4
    exact ⟨_, _, run_endRound (some (.exit id)) hrec3, s3, by simp [conc], p⟩

theorem fnA_sem {P : Program} (hm : P.follows .mixedOrders = true) (hnum : NoNum P) {cf : Nat} : ∀ f, CallSem P (fnA P cf f) := by
  intro f
  induction f with
  | zero => intro fid args h out e; simp [fnA] at e
  | succ f ih =>
    intro fid args h out e s w hp hfi ha
    cases fid <;> simp only [fnA] at e <;> try (cases e; done)
    case yield x => exact round_sem hm ih (fnA_in f) (fnA_old f) hnum e hp ha
    case func fid =>
      split at e
      case h_2 => cases e
      rename_i fn hfn
      split at e
      case h_2 => cases e
      rename_i c hc
      split at e
      case h_2 => cases e
      rename_i T hT
      split at e
      case h_2 => cases e
      rename_i r hr
      split at e
      case h_2 => cases e
      rename_i h2 hfin htake
      split at e
      case h_2 => cases e
      rename_i v hv
      cases e
      have hT0 := initT_spec _ _ _ _ hT
      have hin := init_tin hT ha
      show CallsIn Fence.wide 0 P fid _ w _
      refine callsIn_of_wp_marks hfn hc trivial ?_
      have hrel : RelT [] s (max fn.ntmps args.length) T { tmps := (args.map (conc s)).toArray ++ Array.replicate (fn.ntmps - (args.map (conc s)).toArray.size) undef, defers := [] } := by
        refine ⟨by simp; omega, fun t => ?_, rfl⟩
        rw [hT0]
        simp only [Array.getD_eq_getD_getElem?]
        by_cases ht : 0 ≤ t ∧ t < 0 + args.length
        · have ht' : t < args.length := by omega
          rw [if_pos ht, Array.getElem?_append_left (by simpa using ht')]
          simp [ht']
        · have ht' : args.length ≤ t := by omega
          rw [if_neg ht, Array.getElem?_append_right (by simpa using ht')]
          simp only [Tr.get_leaf, Option.getD_none, undef_conc]
          cases hx : (Array.replicate (fn.ntmps - (args.map (conc s)).toArray.size) undef)[t - (args.map (conc s)).toArray.size]? with
          | none => rfl
          | some u => rw [Array.getElem?_replicate] at hx; split at hx <;> cases hx; rfl
      refine (code_sem hm ih (fnA_in f) (fnA_old f) hnum (rc := none) _ _ _ _ _ _ hr s w _ _ hp hrel hin (fun _ h => by cases h) rfl fun s' w' a' p1 r1 => ?_).1
      have hb := code_next (fnA_in f) hr hp.hin hin (fun _ h => by cases h)
      have hleave : LeavesInM Fence.wide 0 P fn a'.tmps (fun e w' => ∃ s', e = .returned (conc s' v) ∧ Post s s' h h2 w w' (wrD h.next r.ds r.wr)) (dsC s' r.ds) .returning w' := by
        refine leaves_marks r.ds r.hp h2 w' r.wr htake hb.2.1 p1 fun w2 p2 => ?_
        have hh := takeD_in _ _ _ htake hb.2.1
        have hres := resA_sem (fn := fn) (Pre.next p2 (by rw [hh.2]; exact hh.1)) (w := w2) r1 hv
        exact ⟨_, hres, s', rfl, p2⟩
      cases hf : r.fin with
      | normal => show LeavesInM _ _ _ _ a'.tmps _ a'.defers _ _; rw [r1.defers]; exact hleave
      | ret => show LeavesInM _ _ _ _ a'.tmps _ a'.defers _ _; rw [r1.defers]; exact hleave
      | exit id => rw [hf] at hfin; cases hfin

/-- no function stands for the machine's own count: a closed test -/
def noNumB (P : Program) : Bool := P.funcs.toList.all fun fn => !(fn.name == "runtime.NumGoroutine")
theorem noNumB_spec {P : Program} (h : noNumB P = true) : NoNum P := fun f fn hf => by
  have := List.all_eq_true.1 h fn (by simpa using Array.mem_of_getElem? hf)
  simpa using this

/-- what a closed call comes to -/
def closedRun (P : Program) (cf f : Nat) (fid : FuncId) (args : List Value) : Option Value :=
  match fnA P cf f (.func fid) args ⟨0, .leaf⟩ with
  | some out => match pureV out.v, out.wr with
    | true, [] => some out.v
    | _, _ => none
  | none => none

/-- **A closed call, in whatever world, comes to what was reckoned, and leaves all that was there as it was.** -/
theorem closed_run {P : Program} (hm : P.follows .mixedOrders = true) (hnum : noNumB P = true) {cf f : Nat} {fid : FuncId} {args : List Value} {v : Value} (ha : args.all pureV = true) (e : closedRun P cf f fid args = some v) (w : World) :
    Calls P fid args.toArray w fun en w' => en = .returned v ∧ RowKit.Below w.heap.size w w' := by
  unfold closedRun at e
  split at e
  case h_2 => cases e
  rename_i out ho
  split at e
  case h_2 => cases e
  rename_i hpv hwr
  cases e
  let s : Val := ⟨id, id⟩
  have hpre : Pre s ⟨0, .leaf⟩ w := ⟨fun x b h => (by cases h), fun x y b b' h _ _ => (by cases h), fun x b h => (by cases h)⟩
  have hargs : args.map (conc s) = args := by
    conv => rhs; rw [← List.map_id args]
    exact List.map_congr_left fun v hv => (conc_pure (List.all_eq_true.1 ha v hv)).1
  have := fnA_sem hm (noNumB_spec hnum) f (.func fid) args _ out ho s w hpre (fun _ h => by cases h) (fun v hv => (conc_pure (s := s) (List.all_eq_true.1 ha v hv)).2 _)
  rw [hargs] at this
  refine (callsIn_wide.1 this).mono fun en w' ⟨s', h1, h2⟩ => ⟨by rw [h1, (conc_pure hpv).1], h2.os, h2.tape, h2.output, h2.size, fun k hk => h2.frame k hk fun y hy => by rw [hwr] at hy; cases hy⟩
end

end
end Go.Proofs.Ytfafjojoapcliaa.Eng

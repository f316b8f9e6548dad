/- An engine for closed calls, part 4: control, functions, the theorem -/
import Derived.Test.YtfhbpeafapabhaaZ3
import Derived.Scope
namespace Go.Proofs.Ytfhbpeafapabhaa.Eng

/-! A region that draws, whole. -/
def cnt (listed : Array Bool) : Nat → Nat
  | 0 => 0
  | k + 1 => cnt listed k + (match listed.getD k true with
    | true => 0
    | false => 1)

theorem cnt_set {listed : Array Bool} {i : Nat} (hi : i < listed.size) (h : listed.getD i true = false) : ∀ k, cnt (listed.setIfInBounds i true) k + (if i < k then 1 else 0) = cnt listed k := by
  intro k
  induction k with
  | zero => simp [cnt]
  | succ k ih =>
    simp only [cnt]
    by_cases hik : i = k
    · subst hik
      have e : (listed.setIfInBounds i true).getD i true = true := by simp [hi]
      rw [e, h, if_pos (by omega)]
      rw [if_neg (by omega)] at ih
      simp only
      omega
    · rw [getD_set_ne true hik]
      by_cases hlt : i < k
      · rw [if_pos (by omega)]; rw [if_pos hlt] at ih; omega
      · rw [if_neg (by omega)]; rw [if_neg hlt] at ih; omega
theorem cnt_pos {listed : Array Bool} {i k : Nat} (hi : i < k) (h : listed.getD i true = false) : 0 < cnt listed k := by
  induction k with
  | zero => omega
  | succ k ih =>
    simp only [cnt]
    by_cases hik : i = k
    · subst hik; rw [h]; simp
    · have := ih (by omega); omega
theorem cnt_le (listed : Array Bool) : ∀ k, cnt listed k ≤ k := by
  intro k
  induction k with
  | zero => simp [cnt]
  | succ k ih => simp only [cnt]; split <;> omega

section
variable {P : Program} {call : Caller} {ops : Array Oper} {ms : List Nat} {n : Nat} {t : Tape}

def DL (listed : Array Bool) (i : Nat) : Prop := listed.getD i false = true

theorem DL.not {listed : Array Bool} {i : Nat} (hi : i < listed.size) : ¬ DL listed i ↔ listed.getD i true = false := by
  unfold DL
  simp [hi]
theorem DL.set {listed : Array Bool} {j : Nat} (hj : j < listed.size) : (fun i => DL listed i ∨ i = j) = DL (listed.setIfInBounds j true) := by
  funext i
  apply propext
  unfold DL
  by_cases h : j = i
  · subst h; simp [hj]
  · rw [getD_set_ne false h]; simp [show i ≠ j from fun e => h e.symm]

theorem all_listed (fx : Fixed ops) {listed : Array Bool} (hsz : listed.size = ops.size) (hr : Region.ready .any ops listed = []) : ∀ j, j < ops.size → DL listed j := by
  intro j
  induction j using Nat.strongRecOn with
  | _ j ih =>
    intro hj
    refine Classical.byContradiction fun hn => ?_
    have hm : j ∈ Region.ready .any ops listed := mem_ready.2 ⟨(DL.not (by omega)).1 hn, ops[j], by simp [hj], fun e he hb => by
      have hlt := fx.back j ops[j] (by simp [hj]) e he hb
      exact ih e.on hlt (by omega)⟩
    rw [hr] at hm; cases hm

theorem any_order (W : Whole P call ops ms n t) (hcall : CallSem P call) (hnum : NoNum P) {s0 : Val} {w0 : World} {Q : Exit → Act → World → Prop}
    (hQ : ∀ s a w M, Inv ops n t s0 w0 (· < ops.size) M s a w → Q .normal a w) :
    ∀ (fuel : Nat) (listed : Array Bool) (M : Nat) (s : Val) (a : Act) (w : World), listed.size = ops.size → cnt listed ops.size ≤ fuel → Inv ops n t s0 w0 (DL listed) M s a w → wpAny P .any ops Q fuel listed a w := by
  have done : ∀ (listed : Array Bool) (M : Nat) (s : Val) (a : Act) (w : World), listed.size = ops.size → Inv ops n t s0 w0 (DL listed) M s a w → Region.ready .any ops listed = [] → Q .normal a w := fun listed M s a w hsz inv hr => by
    have hall := all_listed W.fx hsz hr
    have e : DL listed = (· < ops.size) := by
      funext i; exact propext ⟨inv.dlt i, hall i⟩
    rw [e] at inv
    exact hQ s a w M inv
  intro fuel
  induction fuel with
  | zero =>
    intro listed M s a w hsz hc inv
    have hr : Region.ready .any ops listed = [] := by
      cases h : Region.ready .any ops listed with
      | nil => rfl
      | cons j l =>
        obtain ⟨h1, o, h2, _⟩ := mem_ready.1 (show j ∈ Region.ready .any ops listed by rw [h]; simp)
        have := cnt_pos (k := ops.size) (Array.getElem?_eq_some_iff.1 h2).1 h1
        omega
    exact ⟨hr, done listed M s a w hsz inv hr⟩
  | succ fuel ih =>
    intro listed M s a w hsz hc inv
    refine ⟨done listed M s a w hsz inv, fun j hj => ?_⟩
    obtain ⟨h1, o, h2, h3⟩ := mem_ready.1 hj
    have hjl : j < ops.size := (Array.getElem?_eq_some_iff.1 h2).1
    refine inv.step W hcall hnum h2 ((DL.not (by omega)).2 h1) h3 fun s' a' w' M' inv' => ?_
    rw [DL.set (by omega)] at inv'
    have hcs := cnt_set (by omega) h1 ops.size
    rw [if_pos hjl] at hcs
    exact ih _ M' s' a' w' (by simpa using hsz) (by omega) inv'

theorem Post.drew' {s s' : Val} {B B' : Hp} {w w' : World} {wr : List Nat} {d : Nat} (h : Post s s' B B' { w with drawn := d } w' wr) : Post s s' B B' w w' wr :=
  ⟨h.off, h.mono, h.sat, h.inj, h.dom, h.old, h.fresh, h.frame, h.size, h.os, h.tape, h.output, h.wrOld⟩

theorem Inv.start {s : Val} {w : World} {a : Act} (hp : Pre s (t.A 0) w) (hr : RelT s n (t.T 0) a) : Inv ops n t s w (fun _ => False) 0 s a w where
  closed := fun _ _ h => h.elim
  dlt := fun _ h => h.elim
  isM := ⟨Nat.zero_le _, .inl rfl, fun _ h => h.elim⟩
  off := fun _ _ => ⟨rfl, rfl⟩
  sat := fun x b h => h.elim (fun h => hp.sat x b h.2) (fun ⟨_, h, _⟩ => h.elim)
  inj := fun x y b b' h h' => by
    rcases h with h | ⟨_, h, _⟩
    · rcases h' with h' | ⟨_, h', _⟩
      · exact hp.inj x y b b' h.2 h'.2
      · exact h'.elim
    · exact h.elim
  dom0 := fun x b h _ => h.elim (fun h => ⟨b, h.2⟩) (fun ⟨_, h, _⟩ => h.elim)
  fresh := fun x b h hx => h.elim (fun h => by have := h.1; omega) (fun ⟨_, h, _⟩ => h.elim)
  frame := fun _ _ _ => rfl
  wrOld := fun _ _ h => h.elim
  size := Nat.le_refl _
  os := rfl
  tape := rfl
  output := rfl
  tsize := hr.size
  defers := hr.defers
  tmps := fun d => ⟨fun _ _ h => h.elim, fun _ => hr.tmps d⟩

theorem Inv.finish (W : Whole P call ops ms n t) {s0 s : Val} {w0 w : World} {a : Act} {M : Nat} {wr : List Nat} (inv : Inv ops n t s0 w0 (· < ops.size) M s a w)
    (hwr : ∀ y, y ∈ wr ↔ ∃ k, k < ops.size ∧ y ∈ t.wr k ∧ y < (t.A 0).next) : Post s0 s (t.A 0) (t.A ops.size) w0 w wr ∧ RelT s n (t.T ops.size) a := by
  have hnw : ∀ k, M ≤ k → k < ops.size → t.wr k = [] := fun k h1 h2 => by
    refine Classical.byContradiction fun h => ?_
    have := inv.isM.2.2 k h2 h; omega
  have hM := inv.isM.1
  have hh : ∀ x b, (t.A ops.size).get x = some b → Has t (· < ops.size) M x b := fun x b hb => by
    have hlt := ((W.hin ops.size (Nat.le_refl _)).1 x b hb).2.1
    rcases Nat.lt_or_ge x (t.A 0).next with h | h
    · refine .inl ⟨h, ?_⟩
      rw [← W.stab (p := M) (q := ops.size) hM (Nat.le_refl _) (Nat.lt_of_lt_of_le h (W.mono (by omega) hM)) fun k k1 k2 => .inl (by rw [hnw k k1 k2]; simp)]; exact hb
    · obtain ⟨i, i1, i2, i3⟩ := W.owner (Nat.le_refl _) h hlt
      refine .inr ⟨i, i1, i2, i3, ?_⟩
      rw [← W.stab (p := max M (i + 1)) (q := ops.size) (by omega) (Nat.le_refl _) (Nat.lt_of_lt_of_le i3 (W.mono (by omega) (by omega))) fun k k1 k2 => .inl (by rw [hnw k (by omega) k2]; simp)]; exact hb
  refine ⟨⟨inv.off, W.mono (by omega) (Nat.le_refl _), fun x b h => inv.sat x b (hh x b h), fun x y b b' h h' => inv.inj x y b b' (hh x b h) (hh y b' h'), fun x b h hx => inv.dom0 x b (hh x b h) hx, fun x hx hn => ?_, fun x b h hx => ?_, fun b hb hne => inv.frame b hb fun i y h1 h2 h3 => hne y ((hwr y).2 ⟨i, h1, h2, h3⟩), inv.size, inv.os, inv.tape, inv.output, fun y hy => ?_⟩, ⟨inv.tsize, fun d => ?_, inv.defers⟩⟩
  · exact W.stab (p := 0) (by omega) (Nat.le_refl _) hx fun k _ k2 => .inl fun hk => hn ((hwr x).2 ⟨k, k2, hk, hx⟩)
  · rcases inv.fresh x b (hh x b h) hx with h | ⟨i, y, h1, h2, h3, h4⟩
    · exact .inl h
    · exact .inr ⟨y, (hwr y).2 ⟨i, h1, h2, h3⟩, h4⟩
  · obtain ⟨k, h1, h2, h3⟩ := (hwr y).1 hy
    exact ⟨h3, inv.wrOld k y h1 h2 h3⟩
  · have htm := W.temps d ops.size (Nat.le_refl _)
    by_cases hc : ∃ (i : Nat) (o' : Oper), ops[i]? = some o' ∧ o'.dst = some d ∧ d < n
    · obtain ⟨i, o', c1, c2, c3⟩ := hc
      have hi : i < ops.size := (Array.getElem?_eq_some_iff.1 c1).1
      rw [htm.1 i o' hi c1 c2 c3]
      exact (inv.tmps d).1 i o' hi c1 c2 c3
    · rw [htm.2 fun i o' _ h2 h3 => hc ⟨i, o', h2, h3.1, h3.2⟩]
      exact (inv.tmps d).2 fun i o' _ h2 h3 => hc ⟨i, o', h2, h3.1, h3.2⟩
end

/-! ### the region -/
theorem in_true : ∀ v, In (fun _ => True) v := by
  intro v
  induction v using In.induct with
  | case4 fn f c ih1 ih2 => simp only [In]; exact ⟨fun _ _ => trivial, ih1, ih2⟩
  | case5 t v ih => simp only [In]; exact ih
  | case6 cs ih => simp only [In]; exact ih
  | case7 cs ih => simp only [In]; exact ih
  | _ => simp_all [In]
theorem tin_true (T : Tr Value) : TIn (fun _ => True) T := fun _ v _ => in_true v

theorem draw_tape {P : Program} {call : Caller} (hin : CallIn call) {ops : Array Oper} {n : Nat} {T : Tr Value} {h : Hp} {r : Res} (e : drawA P call ops n T h = some r) (hn : HIn (fun _ => True) h) :
    statB ops = true ∧ ∃ t : Tape, t.A 0 = h ∧ t.T 0 = T ∧ t.A ops.size = r.hp ∧ t.T ops.size = r.T ∧ (∀ (k : Nat) (o : Oper), ops[k]? = some o → StepOK P call ops (masks ops.toList []) n t k o) ∧
      ∀ y, y ∈ r.wr ↔ ∃ k, k < ops.size ∧ y ∈ t.wr k ∧ y < h.next := by
  unfold drawA at e
  split at e
  case h_2 => cases e
  rename_i hs
  let t0 : Tape := ⟨fun _ => h, fun _ => T, fun _ => undef, fun _ => [], fun _ => true, fun _ => none⟩
  obtain ⟨t, b1, b2, b3, b4, b5⟩ := drawGo_spec hin ops.toList 0 t0 [] [] r (by simp) (fun p => by simp) hn (tin_true _) e
  have e0 := b1.1 0 (Nat.le_refl _)
  have hl : 0 + ops.toList.length = ops.size := by simp
  rw [hl] at b2 b3
  refine ⟨hs, t, e0.1, e0.2, b2, b3, fun k o ho => b4 k o (Nat.zero_le _) ho, fun y => ?_⟩
  rw [b5 y, hl]
  constructor
  · rintro (h | ⟨k, _, k2, k3, k4⟩)
    · cases h
    · exact ⟨k, k2, k3, k4⟩
  · rintro ⟨k, k2, k3, k4⟩
    exact .inr ⟨k, Nat.zero_le _, k2, k3, k4⟩

theorem draw_whole {P : Program} {call : Caller} (hin : CallIn call) (hold : CallOld call) {ops : Array Oper} {n : Nat} {T : Tr Value} {h : Hp} {r : Res} (e : drawA P call ops n T h = some r) (hn : HIn (· < h.next) h) (ht : TIn (· < h.next) T) :
    ∃ t : Tape, t.A 0 = h ∧ t.T 0 = T ∧ t.A ops.size = r.hp ∧ t.T ops.size = r.T ∧ Whole P call ops (masks ops.toList []) n t ∧ ∀ y, y ∈ r.wr ↔ ∃ k, k < ops.size ∧ y ∈ t.wr k ∧ y < h.next := by
  obtain ⟨hs, t, e1, e2, e3, e4, e5, e6⟩ := draw_tape hin e (hn.mono fun _ _ => trivial)
  exact ⟨t, e1, e2, e3, e4, ⟨e5, statB_spec hs, masks_spec ops.toList [] (by simp) (fun k i hk => by simp at hk), by rw [e1]; exact hn, by rw [e1, e2]; exact ht, hin, hold⟩, e6⟩

theorem draw_in {P : Program} {call : Caller} (hin : CallIn call) {ops : Array Oper} {n : Nat} {T : Tr Value} {h : Hp} {r : Res} (e : drawA P call ops n T h = some r) :
    ∀ S, HIn S h → TIn S T → (∀ y, h.next ≤ y → y < r.hp.next → S y) → h.next ≤ r.hp.next ∧ HIn S r.hp ∧ TIn S r.T := by
  intro S hn ht hS
  obtain ⟨hs, t, e1, e2, e3, e4, e5, e6⟩ := draw_tape hin e (hn.mono fun _ _ => trivial)
  have hop : ∀ {k : Nat}, k < ops.size → ∃ o, StepOK P call ops (masks ops.toList []) n t k o := fun {k} hk => ⟨ops[k], e5 k _ (by simp [hk])⟩
  have step : ∀ q, q ≤ ops.size → HIn (fun _ => True) (t.A q) := by
    intro q
    induction q with
    | zero => intro _; rw [e1]; exact hn.mono fun _ _ => trivial
    | succ q ih => intro hq; obtain ⟨o, ok⟩ := hop (k := q) (by omega); exact (ok.hin hin (ih (by omega)) (tin_true _) (fun _ _ _ => trivial)).2.1
  have nx : ∀ q, q < ops.size → (t.A q).next ≤ (t.A (q + 1)).next := fun q hq => by
    obtain ⟨o, ok⟩ := hop hq; exact (ok.hin hin (step q (by omega)) (tin_true _) (fun _ _ _ => trivial)).1
  have mono : ∀ q p, p ≤ q → q ≤ ops.size → (t.A p).next ≤ (t.A q).next := by
    intro q
    induction q with
    | zero => intro p hp _; have : p = 0 := by omega
              subst this; exact Nat.le_refl _
    | succ q ih =>
      intro p hp hq
      rcases Nat.eq_or_lt_of_le hp with rfl | hlt
      · exact Nat.le_refl _
      · exact Nat.le_trans (ih p (by omega) (by omega)) (nx q (by omega))
  have all : ∀ q, q ≤ ops.size → HIn S (t.A q) ∧ TIn S (t.T q) := by
    intro q
    induction q with
    | zero => intro _; rw [e1, e2]; exact ⟨hn, ht⟩
    | succ q ih =>
      intro hq
      obtain ⟨o, ok⟩ := hop (k := q) (by omega)
      obtain ⟨i1, i2⟩ := ih (by omega)
      have := ok.hin hin i1 i2 (fun y h1 h2 => hS y (by have := mono q 0 (by omega) (by omega); rw [e1] at this; omega) (by have := mono ops.size (q + 1) hq (Nat.le_refl _); rw [e3] at this; omega))
      exact ⟨this.2.1, this.2.2.2⟩
  have h1 := all ops.size (Nat.le_refl _)
  have h2 := mono ops.size 0 (by omega) (Nat.le_refl _)
  rw [e1, e3] at h2
  rw [e3, e4] at h1
  exact ⟨h2, h1⟩

theorem draw_old {P : Program} {call : Caller} (hin : CallIn call) (hold : CallOld call) {ops : Array Oper} {n : Nat} {T : Tr Value} {h : Hp} {r : Res} (e : drawA P call ops n T h = some r) (hn : HIn (· < h.next) h) (ht : TIn (· < h.next) T) :
    ∀ x, x < h.next → x ∉ r.wr → r.hp.get x = h.get x := by
  obtain ⟨t, e1, e2, e3, e4, W, e6⟩ := draw_whole hin hold e hn ht
  intro x hx hw
  rw [← e3, ← e1]
  exact W.stab (p := 0) (by omega) (Nat.le_refl _) (by rw [e1]; exact hx) fun k _ k2 => .inl fun hk => hw ((e6 x).2 ⟨k, k2, hk, hx⟩)

theorem draw_sem {P : Program} {call : Caller} (hm : P.follows .mixedOrders = true) (hcall : CallSem P call) (hin : CallIn call) (hold : CallOld call) (hnum : NoNum P) {ops : Array Oper} {n id : Nat} {T : Tr Value} {h : Hp} {r : Res} (e : drawA P call ops n T h = some r)
    {s : Val} {w : World} {a : Act} (hp : Pre s h w) (hr : RelT s n T a) (ht : TIn (· < h.next) T) {Q : Exit → Act → World → Prop}
    (K : ∀ s' w' a', Post s s' h r.hp w w' r.wr → RelT s' n r.T a' → Q .normal a' w') : (Code.region id ops true).wp P Q a w := by
  obtain ⟨t, e1, e2, e3, e4, W, e6⟩ := draw_whole hin hold e hp.hin ht
  refine wp_region_any hm ?_
  have hp' : Pre s (t.A 0) { w with drawn := w.drawn + 1 } := by rw [e1]; exact ⟨hp.sat, hp.inj, hp.hin⟩
  have hr' : RelT s n (t.T 0) a := by rw [e2]; exact hr
  have e0 : (fun _ : Nat => False) = DL (Array.replicate ops.size false) := by
    funext i
    unfold DL
    by_cases hi : i < ops.size <;> simp [hi]
  have inv := Inv.start (ops := ops) hp' hr'
  rw [e0] at inv
  refine any_order W hcall hnum (fun s' a' w' M inv' => ?_) ops.size _ 0 s a _ (by simp) (cnt_le _ _) inv
  obtain ⟨f1, f2⟩ := inv'.finish W (wr := r.wr) (fun y => by rw [e6 y, e1])
  rw [e1, e3] at f1
  rw [e4] at f2
  exact K s' w' a' f1.drew' f2

/-! Control, functions, and the theorem. -/
inductive Fin where
  | normal
  | exit (id : Nat)
  | ret

def Fin.to : Fin → Exit
  | .normal => .normal
  | .exit id => .exit id
  | .ret => .ret

structure Run where
  fin : Fin
  T : Tr Value
  hp : Hp
  wr : List Nat

def ofRes : Option Res → Option Run
  | some r => some ⟨.normal, r.T, r.hp, r.wr⟩
  | none => none

def codeA (P : Program) (call : Caller) (n : Nat) : Nat → Code → Tr Value → Hp → Option Run
  | 0, _, _, _ => none
  | f + 1, c, T, h =>
    match c with
    | .skip => some ⟨.normal, T, h, []⟩
    | .label _ => some ⟨.normal, T, h, []⟩
    | .exit id => some ⟨.exit id, T, h, []⟩
    | .ret => some ⟨.ret, T, h, []⟩
    | .region _ ops draw => match draw with
      | true => ofRes (drawA P call ops n T h)
      | false => ofRes (seqA P call ops n ops.toList T h)
    | .seq x y => match codeA P call n f x T h with
      | some r => match r.fin with
        | .normal => match codeA P call n f y r.T r.hp with
          | some q => some ⟨q.fin, q.T, q.hp, joinWr h.next r.wr q.wr⟩
          | none => none
        | _ => some r
      | none => none
    | .cond c x y => match evT T c with
      | some (.bool true) => codeA P call n f x T h
      | some (.bool false) => codeA P call n f y T h
      | _ => none
    | .block id x => match codeA P call n f x T h with
      | some r => match r.fin with
        | .exit id' => match Nat.beq id' id with
          | true => some ⟨.normal, r.T, r.hp, r.wr⟩
          | false => some r
        | _ => some r
      | none => none
    | .scope x => codeA P call n f x T h
    | .loop x => match codeA P call n f x T h with
      | some r => match r.fin with
        | .normal => match codeA P call n f (.loop x) r.T r.hp with
          | some q => some ⟨q.fin, q.T, q.hp, joinWr h.next r.wr q.wr⟩
          | none => none
        | _ => some r
      | none => none
    | _ => none

/-! ### a loop, a round at a time -/
def wpI (P : Program) (c : Code) (Q : Exit → Act → World → Prop) (a : Act) (w : World) : Prop :=
  ∀ (b : Frame) (k : List Item) (cs : List Frame), ∃ e a' w', Q e a' w' ∧ Arrives P (lone (b.at a (.inLoop c :: k)) cs w) b k cs e a' w'

theorem loop_core {P : Program} {c : Code} {Q : Exit → Act → World → Prop} {a : Act} {w : World} (h : c.wp P (Exit.then (wpI P c Q) Q) a w) (b : Frame) (k : List Item) (cs : List Frame) :
    ∃ e a' w', Q e a' w' ∧ Arrives P (lone (b.at a (.code c :: .inLoop c :: k)) cs w) b k cs e a' w' := by
  obtain ⟨e, a₁, w₁, hq, harr⟩ := h b (.inLoop c :: k) cs
  cases e with
  | normal =>
    obtain ⟨e₂, a₂, w₂, hq₂, harr₂⟩ := hq b k cs
    exact ⟨e₂, a₂, w₂, hq₂, .of_steps harr harr₂⟩
  | exit id => exact ⟨_, a₁, w₁, hq, .pass (x := .inLoop c) rfl (fun _ _ => .inl (by simp)) harr⟩
  | goto l => exact ⟨_, a₁, w₁, hq, .pass (x := .inLoop c) rfl (fun _ _ => .inl (by simp)) harr⟩
  | ret => exact ⟨_, a₁, w₁, hq, .pass (x := .inLoop c) rfl (fun _ _ => .inl (by simp)) harr⟩
  | panic ch => exact ⟨_, a₁, w₁, hq, .pass (x := .inLoop c) rfl (fun _ _ => .inl (by simp)) harr⟩
  | outgrown => exact ⟨_, a₁, w₁, hq, .pass (x := .inLoop c) rfl (fun _ _ => .inl (by simp)) harr⟩

theorem wp_loop_round {P : Program} {c : Code} {Q : Exit → Act → World → Prop} {a : Act} {w : World} (h : c.wp P (Exit.then (wpI P c Q) Q) a w) : (Code.loop c).wp P Q a w := fun b k cs => by
  obtain ⟨e, a', w', hq, harr⟩ := loop_core h b k cs
  exact ⟨e, a', w', hq, .of_steps (.one step_loop) harr⟩
theorem wpI_round {P : Program} {c : Code} {Q : Exit → Act → World → Prop} {a : Act} {w : World} (h : c.wp P (Exit.then (wpI P c Q) Q) a w) : wpI P c Q a w := fun b k cs => by
  obtain ⟨e, a', w', hq, harr⟩ := loop_core h b k cs
  exact ⟨e, a', w', hq, .of_steps (.one step_inLoop) harr⟩

/-! ### names -/
theorem code_in {P : Program} {call : Caller} (hin : CallIn call) {n : Nat} : ∀ (f : Nat) (c : Code) (T : Tr Value) (h : Hp) (r : Run), codeA P call n f c T h = some r →
    ∀ S, HIn S h → TIn S T → (∀ y, h.next ≤ y → y < r.hp.next → S y) → h.next ≤ r.hp.next ∧ HIn S r.hp ∧ TIn S r.T := by
  intro f
  induction f with
  | zero => intro c T h r e; simp [codeA] at e
  | succ f ih =>
    have two : ∀ (x y : Code) (T : Tr Value) (h : Hp) (r q : Run), codeA P call n f x T h = some r → codeA P call n f y r.T r.hp = some q → ∀ S, HIn S h → TIn S T → (∀ y, h.next ≤ y → y < q.hp.next → S y) → h.next ≤ q.hp.next ∧ HIn S q.hp ∧ TIn S q.T := by
      intro x y T h r q e1 e2 S hn ht hS
      have b1 := ih x T h r e1 (fun _ => True) (hn.mono fun _ _ => trivial) (tin_true _) (fun _ _ _ => trivial)
      have b2 := ih y r.T r.hp q e2 (fun _ => True) b1.2.1 (tin_true _) (fun _ _ _ => trivial)
      have c1 := ih x T h r e1 S hn ht (fun y h1 h2 => hS y h1 (by omega))
      have c2 := ih y r.T r.hp q e2 S c1.2.1 c1.2.2 (fun y h1 h2 => hS y (by omega) h2)
      exact ⟨by omega, c2.2⟩
    intro c T h r e S hn ht hS
    cases c <;> simp only [codeA] at e
    all_goals try (cases e; done)
    case skip => cases e; exact ⟨Nat.le_refl _, hn, ht⟩
    case label => cases e; exact ⟨Nat.le_refl _, hn, ht⟩
    case exit => cases e; exact ⟨Nat.le_refl _, hn, ht⟩
    case ret => cases e; exact ⟨Nat.le_refl _, hn, ht⟩
    case region id ops draw =>
      split at e
      · unfold ofRes at e
        split at e
        case h_2 => cases e
        rename_i q hq
        cases e
        exact draw_in hin hq S hn ht hS
      · unfold ofRes at e
        split at e
        case h_2 => cases e
        rename_i q hq
        cases e
        exact seq_in hin _ _ _ _ hq S hn ht hS
    case seq x y =>
      split at e
      case h_2 => cases e
      rename_i q hq
      split at e
      · split at e
        case h_2 => cases e
        rename_i q2 hq2
        cases e
        exact two x y T h q q2 hq hq2 S hn ht hS
      · cases e; exact ih _ _ _ _ hq S hn ht hS
    case cond c x y =>
      split at e
      · exact ih _ _ _ _ e S hn ht hS
      · exact ih _ _ _ _ e S hn ht hS
      · cases e
    case block id x =>
      split at e
      case h_2 => cases e
      rename_i q hq
      split at e
      · split at e
        · cases e; exact ih _ _ _ _ hq S hn ht hS
        · cases e; exact ih _ _ _ _ hq S hn ht hS
      · cases e; exact ih _ _ _ _ hq S hn ht hS
    case scope x => exact ih _ _ _ _ e S hn ht hS
    case loop x =>
      split at e
      case h_2 => cases e
      rename_i q hq
      split at e
      · split at e
        case h_2 => cases e
        rename_i q2 hq2
        cases e
        exact two x (.loop x) T h q q2 hq hq2 S hn ht hS
      · cases e; exact ih _ _ _ _ hq S hn ht hS

theorem code_next {P : Program} {call : Caller} (hin : CallIn call) {n f : Nat} {c : Code} {T : Tr Value} {h : Hp} {r : Run} (e : codeA P call n f c T h = some r) (hn : HIn (· < h.next) h) (ht : TIn (· < h.next) T) :
    h.next ≤ r.hp.next ∧ HIn (· < r.hp.next) r.hp ∧ TIn (· < r.hp.next) r.T := by
  have b := (code_in hin f c T h r e (fun _ => True) (hn.mono fun _ _ => trivial) (tin_true _) (fun _ _ _ => trivial)).1
  exact code_in hin f c T h r e (· < r.hp.next) (hn.mono fun x hx => by omega) (ht.mono fun x hx => by omega) (fun _ _ h => h)

theorem code_old {P : Program} {call : Caller} (hin : CallIn call) (hold : CallOld call) {n : Nat} : ∀ (f : Nat) (c : Code) (T : Tr Value) (h : Hp) (r : Run), codeA P call n f c T h = some r →
    HIn (· < h.next) h → TIn (· < h.next) T → ∀ x, x < h.next → x ∉ r.wr → r.hp.get x = h.get x := by
  intro f
  induction f with
  | zero => intro c T h r e; simp [codeA] at e
  | succ f ih =>
    have two : ∀ (x y : Code) (T : Tr Value) (h : Hp) (r q : Run), codeA P call n f x T h = some r → codeA P call n f y r.T r.hp = some q → HIn (· < h.next) h → TIn (· < h.next) T → ∀ z, z < h.next → z ∉ joinWr h.next r.wr q.wr → q.hp.get z = h.get z := by
      intro x y T h r q e1 e2 hn ht z hz hw
      rw [mem_joinWr] at hw
      have b1 := code_next hin e1 hn ht
      rw [ih y r.T r.hp q e2 b1.2.1 b1.2.2 z (by omega) (fun hh => hw (.inr ⟨hh, hz⟩)), ih x T h r e1 hn ht z hz (fun hh => hw (.inl hh))]
    intro c T h r e hn ht
    cases c <;> simp only [codeA] at e
    all_goals try (cases e; done)
    case skip => cases e; exact fun _ _ _ => rfl
    case label => cases e; exact fun _ _ _ => rfl
    case exit => cases e; exact fun _ _ _ => rfl
    case ret => cases e; exact fun _ _ _ => rfl
    case region id ops draw =>
      split at e
      · unfold ofRes at e
        split at e
        case h_2 => cases e
        rename_i q hq
        cases e
        exact draw_old hin hold hq hn ht
      · unfold ofRes at e
        split at e
        case h_2 => cases e
        rename_i q hq
        cases e
        exact seq_old hold hin _ _ _ _ hq hn ht
    case seq x y =>
      split at e
      case h_2 => cases e
      rename_i q hq
      split at e
      · split at e
        case h_2 => cases e
        rename_i q2 hq2
        cases e
        exact two x y T h q q2 hq hq2 hn ht
      · cases e; exact ih _ _ _ _ hq hn ht
    case cond c x y =>
      split at e
      · exact ih _ _ _ _ e hn ht
      · exact ih _ _ _ _ e hn ht
      · cases e
    case block id x =>
      split at e
      case h_2 => cases e
      rename_i q hq
      split at e
      · split at e
        · cases e; exact ih x T h q hq hn ht
        · cases e; exact ih x T h _ hq hn ht
      · cases e; exact ih _ _ _ _ hq hn ht
    case scope x => exact ih _ _ _ _ e hn ht
    case loop x =>
      split at e
      case h_2 => cases e
      rename_i q hq
      split at e
      · split at e
        case h_2 => cases e
        rename_i q2 hq2
        cases e
        exact two x (.loop x) T h q q2 hq hq2 hn ht
      · cases e; exact ih _ _ _ _ hq hn ht

theorem code_sem {P : Program} (hm : P.follows .mixedOrders = true) {call : Caller} (hcall : CallSem P call) (hin : CallIn call) (hold : CallOld call) (hnum : NoNum P) {n : Nat} : ∀ (f : Nat) (c : Code) (T : Tr Value) (h : Hp) (r : Run), codeA P call n f c T h = some r →
    ∀ s w a Q, Pre s h w → RelT s n T a → TIn (· < h.next) T → (∀ s' w' a', Post s s' h r.hp w w' r.wr → RelT s' n r.T a' → Q r.fin.to a' w') → c.wp P Q a w ∧ (∀ x, c = .loop x → wpI P x Q a w) := by
  intro f
  induction f with
  | zero => intro c T h r e; simp [codeA] at e
  | succ f ih =>
    intro c T h r e s w a Q hp hr ht K
    have hrefl := Post.refl hp.sat hp.inj hp.hin
    cases c <;> simp only [codeA] at e
    all_goals try (cases e; done)
    case skip => cases e; exact ⟨wp_skip (K s w a hrefl hr), fun _ h => by cases h⟩
    case label => cases e; exact ⟨wp_label (K s w a hrefl hr), fun _ h => by cases h⟩
    case exit => cases e; exact ⟨wp_exit (K s w a hrefl hr), fun _ h => by cases h⟩
    case ret => cases e; exact ⟨wp_ret (K s w a hrefl hr), fun _ h => by cases h⟩
    case region id ops draw =>
      refine ⟨?_, fun _ h => by cases h⟩
      split at e
      · unfold ofRes at e
        split at e
        case h_2 => cases e
        rename_i q hq
        cases e
        exact draw_sem hm hcall hin hold hnum hq hp hr ht K
      · unfold ofRes at e
        split at e
        case h_2 => cases e
        rename_i q hq
        cases e
        exact wp_region_list (seq_sem hcall hin hnum _ _ _ _ hq s w a hp hr ht K)
    case seq x y =>
      refine ⟨wp_seq ?_, fun _ h => by cases h⟩
      split at e
      case h_2 => cases e
      rename_i q hq
      have b1 := code_next hin hq hp.hin ht
      split at e
      · rename_i hf
        split at e
        case h_2 => cases e
        rename_i q2 hq2
        cases e
        refine (ih x T h q hq s w a _ hp hr ht fun s1 w1 a1 p1 r1 => ?_).1
        rw [hf]
        show Code.wp P y Q a1 w1
        exact (ih y q.T q.hp q2 hq2 s1 w1 a1 Q (Pre.next p1 b1.2.1) r1 b1.2.2 fun s2 w2 a2 p2 r2 => K s2 w2 a2 (p1.trans p2) r2).1
      · rename_i hf
        cases e
        refine (ih x T h _ hq s w a _ hp hr ht fun s1 w1 a1 p1 r1 => ?_).1
        have := K s1 w1 a1 p1 r1
        cases hfin : r.fin with
        | normal => exact absurd hfin hf
        | exit id => rw [hfin] at this; exact this
        | ret => rw [hfin] at this; exact this
    case cond c x y =>
      refine ⟨?_, fun _ h => by cases h⟩
      split at e
      · rename_i hc
        have := evT_sem hr hc
        simp only [conc] at this
        exact wp_cond_true this (ih _ _ _ _ e s w a Q hp hr ht K).1
      · rename_i hc
        have := evT_sem hr hc
        simp only [conc] at this
        exact wp_cond_false this (ih _ _ _ _ e s w a Q hp hr ht K).1
      · cases e
    case block id x =>
      refine ⟨wp_block ?_, fun _ h => by cases h⟩
      split at e
      case h_2 => cases e
      rename_i q hq
      split at e
      · rename_i id' hf
        split at e
        · rename_i hb
          have hb := Nat.eq_of_beq_eq_true hb
          cases e
          refine (ih x T h q hq s w a _ hp hr ht fun s1 w1 a1 p1 r1 => ?_).1
          rw [hf]
          show (if id' = id then Q .normal a1 w1 else _)
          rw [if_pos hb]
          exact K s1 w1 a1 p1 r1
        · rename_i hb
          cases e
          refine (ih x T h _ hq s w a _ hp hr ht fun s1 w1 a1 p1 r1 => ?_).1
          have := K s1 w1 a1 p1 r1
          rw [hf] at this ⊢
          show (if id' = id then _ else Q (.exit id') a1 w1)
          rw [if_neg (fun hh => by rw [beq_t hh] at hb; cases hb)]
          exact this
      · rename_i hf
        cases e
        refine (ih x T h _ hq s w a _ hp hr ht fun s1 w1 a1 p1 r1 => ?_).1
        have := K s1 w1 a1 p1 r1
        cases hfin : r.fin with
        | normal => rw [hfin] at this; exact this
        | exit id' => exact absurd hfin (hf id')
        | ret => rw [hfin] at this; exact this
    case scope x =>
      refine ⟨wp_scope_straight ((ih x T h r e s w a _ hp hr ht fun s1 w1 a1 p1 r1 => ?_).1), fun _ h => by cases h⟩
      have := K s1 w1 a1 p1 r1
      cases hfin : r.fin <;> rw [hfin] at this <;> exact this
    case loop x =>
      have core : x.wp P (Exit.then (wpI P x Q) Q) a w := by
        split at e
        case h_2 => cases e
        rename_i q hq
        have b1 := code_next hin hq hp.hin ht
        split at e
        · rename_i hf
          split at e
          case h_2 => cases e
          rename_i q2 hq2
          cases e
          refine (ih x T h q hq s w a _ hp hr ht fun s1 w1 a1 p1 r1 => ?_).1
          rw [hf]
          show wpI P x Q a1 w1
          exact (ih (.loop x) q.T q.hp q2 hq2 s1 w1 a1 Q (Pre.next p1 b1.2.1) r1 b1.2.2 fun s2 w2 a2 p2 r2 => K s2 w2 a2 (p1.trans p2) r2).2 x rfl
        · rename_i hf
          cases e
          refine (ih x T h _ hq s w a _ hp hr ht fun s1 w1 a1 p1 r1 => ?_).1
          have := K s1 w1 a1 p1 r1
          cases hfin : r.fin with
          | normal => exact absurd hfin hf
          | exit id => rw [hfin] at this; exact this
          | ret => rw [hfin] at this; exact this
      exact ⟨wp_loop_round core, fun y hy => by cases hy; exact wpI_round core⟩

/-! Functions; **a closed call, by reckoning**. -/
/-! ### what a function hands back -/
def resOne (P : Program) (T : Tr Value) (h : Hp) : ResultVar → Option Value
  | .tmp t => some ((T.get t).getD undef)
  | .cell a t => aLoad P t ((T.get a).getD undef) h
def resList (P : Program) (T : Tr Value) (h : Hp) : List ResultVar → Option (List Value)
  | [] => some []
  | x :: r => match resOne P T h x, resList P T h r with
    | some v, some l => some (v :: l)
    | _, _ => none
def resA (P : Program) (T : Tr Value) (h : Hp) (fn : Func) : Option Value :=
  match resList P T h fn.results.toList with
  | some [v] => some v
  | some l => some (.tuple ⟨l⟩)
  | none => none

def resM (tmps : Array Value) (x : ResultVar) : Sem Value :=
  match x with
  | .tmp t => pure (tmps.getD t undef)
  | .cell a t => do loadVar t (← asAddr (tmps.getD a undef))

theorem resOne_sem {P : Program} {s : Val} {n : Nat} {T : Tr Value} {h : Hp} {w : World} {a : Act} (hp : Pre s h w) (hr : RelT s n T a) {x : ResultVar} {v : Value} (e : resOne P T h x = some v) :
    (resM a.tmps x).run P w = .ok (conc s v) w := by
  cases x with
  | tmp t =>
    simp only [resOne, Option.some.injEq] at e
    subst e
    show (pure (a.tmps.getD t undef) : Sem Value).run P w = _
    rw [hr.tmps t]
    rfl
  | cell b t =>
    simp only [resOne] at e
    obtain ⟨ad, h1, h2⟩ := load_sem hp e
    show (do loadVar t (← asAddr (a.tmps.getD b undef)) : Sem Value).run P w = _
    rw [hr.tmps b, h1]
    simp [asAddr, h2]

theorem resList_sem {P : Program} {s : Val} {n : Nat} {T : Tr Value} {h : Hp} {w : World} {a : Act} (hp : Pre s h w) (hr : RelT s n T a) : ∀ (l : List ResultVar) (vs : List Value), resList P T h l = some vs →
    (l.mapM (resM a.tmps)).run P w = .ok (vs.map (conc s)) w := by
  intro l
  induction l with
  | nil => intro vs e; simp only [resList, Option.some.injEq] at e; subst e; simp
  | cons x l ih =>
    intro vs e
    simp only [resList] at e
    split at e
    case h_2 => cases e
    rename_i v l' hv hl
    cases e
    have h1 := resOne_sem hp hr hv
    have h2 := ih l' hl
    rw [List.mapM_cons]
    simp only [Sem.run_bind, h1, Result.andThen_ok, h2]
    rfl

theorem resA_sem {P : Program} {s : Val} {n : Nat} {T : Tr Value} {h : Hp} {w : World} {a : Act} {fn : Func} (hp : Pre s h w) (hr : RelT s n T a) {v : Value} (e : resA P T h fn = some v) : (results fn a.tmps).run P w = .ok (conc s v) w := by
  have key : ∀ vs, resList P T h fn.results.toList = some vs → (results fn a.tmps).run P w = .ok (if h : (vs.map (conc s)).toArray.size = 1 then (vs.map (conc s)).toArray[0] else .tuple (vs.map (conc s)).toArray) w := fun vs hvs => by
    have := resList_sem hp hr _ _ hvs
    show (do let vs ← fn.results.mapM (resM a.tmps); pure (if h : vs.size = 1 then vs[0] else .tuple vs) : Sem Value).run P w = _
    have e0 : fn.results.mapM (resM a.tmps) = (fun l : List Value => l.toArray) <$> fn.results.toList.mapM (resM a.tmps) := by
      conv => lhs; rw [← Array.toArray_toList (xs := fn.results)]
      rw [List.mapM_toArray]
    rw [Sem.run_bind, e0]
    have e2 : ((fun l : List Value => l.toArray) <$> fn.results.toList.mapM (resM a.tmps)).run P w = .ok (vs.map (conc s)).toArray w := by
      rw [map_eq_pure_bind, Sem.run_bind, this]; rfl
    rw [e2]
    rfl
  unfold resA at e
  split at e
  · rename_i u hu
    cases e
    rw [key _ hu]
    simp
  · rename_i l hne hl
    cases e
    rw [key _ hl]
    by_cases h1 : l.length = 1
    · match l, h1 with
      | [u], _ => exact absurd rfl (hne u)
    · rw [dif_neg (by simpa using h1)]
      simp [conc]
  · cases e

theorem resList_in {P : Program} {S : Nat → Prop} {T : Tr Value} {h : Hp} (hn : HIn S h) (ht : TIn S T) : ∀ (l : List ResultVar) (vs : List Value), resList P T h l = some vs → ∀ v ∈ vs, In S v := by
  intro l
  induction l with
  | nil => intro vs e; simp only [resList, Option.some.injEq] at e; subst e; simp
  | cons x l ih =>
    intro vs e
    simp only [resList] at e
    split at e
    case h_2 => cases e
    rename_i v l' hv hl
    cases e
    intro u hu
    rcases List.mem_cons.1 hu with rfl | hu
    · cases x with
      | tmp t => simp only [resOne, Option.some.injEq] at hv; subst hv; exact ht.getD t
      | cell b t => exact load_in hn hv
    · exact ih l' hl u hu
theorem resA_in {P : Program} {S : Nat → Prop} {T : Tr Value} {h : Hp} {fn : Func} (hn : HIn S h) (ht : TIn S T) {v : Value} (e : resA P T h fn = some v) : In S v := by
  unfold resA at e
  split at e
  · rename_i u hu; cases e; exact resList_in hn ht _ _ hu v (by simp)
  · rename_i l _ hl; cases e; simp only [In]; exact fun v hv => resList_in hn ht _ _ hl v (by simpa using hv)
  · cases e

/-! ### entering a function -/
def initT : List Value → Nat → Tr Value → Option (Tr Value)
  | [], _, T => some T
  | v :: l, i, T => match T.set 64 i (some v) with
    | some T' => initT l (i + 1) T'
    | none => none

theorem initT_spec : ∀ (l : List Value) (i : Nat) (T T' : Tr Value), initT l i T = some T' → ∀ k, T'.get k = if i ≤ k ∧ k < i + l.length then l[k - i]? else T.get k := by
  intro l
  induction l with
  | nil => intro i T T' e k; simp only [initT, Option.some.injEq] at e; subst e; rw [if_neg (by simp)]
  | cons v l ih =>
    intro i T T' e k
    simp only [initT] at e
    split at e
    case h_2 => cases e
    rename_i T1 h1
    rw [ih _ _ _ e k, Tr.get_set _ _ _ _ _ h1]
    by_cases hk : k = i
    · subst hk; rw [if_neg (by omega), if_pos rfl, if_pos (by simp)]; simp
    · by_cases h2 : i + 1 ≤ k ∧ k < i + 1 + l.length
      · rw [if_pos h2, if_pos (by simp; omega)]
        rw [show k - i = (k - (i + 1)) + 1 by omega]; simp
      · rw [if_neg h2, if_neg hk, if_neg (by simp; omega)]

def fnA (P : Program) (cf : Nat) : Nat → Caller
  | 0 => fun _ _ _ => none
  | f + 1 => fun fid args h => match P.funcs[fid]? with
    | some fn => match fn.body with
      | some c => match initT args 0 .leaf with
        | some T => match codeA P (fnA P cf f) (max fn.ntmps args.length) cf c T h with
          | some r => match (match r.fin with
              | .exit _ => false
              | _ => true) with
            | true => match resA P r.T r.hp fn with
              | some v => some ⟨v, r.hp, r.wr⟩
              | none => none
            | false => none
          | none => none
        | none => none
      | none => none
    | none => none

theorem init_tin {S : Nat → Prop} {args : List Value} {T : Tr Value} (e : initT args 0 .leaf = some T) (h : ∀ v ∈ args, In S v) : TIn S T := by
  intro t v hv
  rw [initT_spec _ _ _ _ e] at hv
  split at hv
  · exact h v (List.mem_of_getElem? hv)
  · cases hv

theorem fnA_in {P : Program} {cf : Nat} : ∀ f, CallIn (fnA P cf f) := by
  intro f
  induction f with
  | zero => intro fid args h out e; simp [fnA] at e
  | succ f ih =>
    intro fid args h out e S hn ha hS
    simp only [fnA] at e
    split at e
    case h_2 => cases e
    split at e
    case h_2 => cases e
    split at e
    case h_2 => cases e
    rename_i T hT
    split at e
    case h_2 => cases e
    rename_i r hr
    split at e
    case h_2 => cases e
    split at e
    case h_2 => cases e
    rename_i v hv
    cases e
    have := code_in ih _ _ _ _ _ hr S hn (init_tin hT ha) hS
    exact ⟨this.2.1, resA_in this.2.1 this.2.2 hv, this.1⟩

theorem fnA_old {P : Program} {cf : Nat} : ∀ f, CallOld (fnA P cf f) := by
  intro f
  induction f with
  | zero => intro fid args h out e; simp [fnA] at e
  | succ f ih =>
    intro fid args h out e hn ha
    simp only [fnA] at e
    split at e
    case h_2 => cases e
    split at e
    case h_2 => cases e
    split at e
    case h_2 => cases e
    rename_i T hT
    split at e
    case h_2 => cases e
    rename_i r hr
    split at e
    case h_2 => cases e
    split at e
    case h_2 => cases e
    rename_i v hv
    cases e
    exact code_old (fnA_in f) ih _ _ _ _ _ hr hn (init_tin hT ha)

theorem fnA_sem {P : Program} (hm : P.follows .mixedOrders = true) (hnum : NoNum P) {cf : Nat} : ∀ f, CallSem P (fnA P cf f) := by
  intro f
  induction f with
  | zero => intro fid args h out e; simp [fnA] at e
  | succ f ih =>
    intro fid args h out e s w hp ha
    simp only [fnA] at e
    split at e
    case h_2 => cases e
    rename_i fn hfn
    split at e
    case h_2 => cases e
    rename_i c hc
    split at e
    case h_2 => cases e
    rename_i T hT
    split at e
    case h_2 => cases e
    rename_i r hr
    split at e
    case h_2 => cases e
    rename_i hfin
    split at e
    case h_2 => cases e
    rename_i v hv
    cases e
    have hT0 := initT_spec _ _ _ _ hT
    have hin := init_tin hT ha
    refine calls_of_wp hfn hc ?_
    have hrel : RelT s (max fn.ntmps args.length) T { tmps := (args.map (conc s)).toArray ++ Array.replicate (fn.ntmps - (args.map (conc s)).toArray.size) undef, defers := [] } := by
      refine ⟨by simp; omega, fun t => ?_, rfl⟩
      rw [hT0]
      simp only [Array.getD_eq_getD_getElem?]
      by_cases ht : 0 ≤ t ∧ t < 0 + args.length
      · have ht' : t < args.length := by omega
        rw [if_pos ht, Array.getElem?_append_left (by simpa using ht')]
        simp [ht']
      · have ht' : args.length ≤ t := by omega
        rw [if_neg ht, Array.getElem?_append_right (by simpa using ht')]
        simp only [Tr.get, Option.getD_none, undef_conc]
        cases hx : (Array.replicate (fn.ntmps - (args.map (conc s)).toArray.size) undef)[t - (args.map (conc s)).toArray.size]? with
        | none => rfl
        | some u => rw [Array.getElem?_replicate] at hx; split at hx <;> cases hx; rfl
    refine (code_sem hm ih (fnA_in f) (fnA_old f) hnum _ _ _ _ _ hr s w _ _ hp hrel hin fun s' w' a' p1 r1 => ?_).1
    have hb := code_next (fnA_in f) hr hp.hin hin
    have hres := resA_sem (fn := fn) (Pre.next p1 hb.2.1) r1 hv
    cases hf : r.fin with
    | normal => exact ⟨r1.defers, _, hres, s', rfl, p1⟩
    | ret => exact ⟨r1.defers, _, hres, s', rfl, p1⟩
    | exit id => rw [hf] at hfin; cases hfin

/-- no function stands for the machine's own count: a closed test -/
def noNumB (P : Program) : Bool := P.funcs.toList.all fun fn => !(fn.name == "runtime.NumGoroutine")
theorem noNumB_spec {P : Program} (h : noNumB P = true) : NoNum P := fun f fn hf => by
  have := List.all_eq_true.1 h fn (by simpa using Array.mem_of_getElem? hf)
  simpa using this

/-- what a closed call comes to -/
def closedRun (P : Program) (cf f : Nat) (fid : FuncId) (args : List Value) : Option Value :=
  match fnA P cf f fid args ⟨0, .leaf⟩ with
  | some out => match pureV out.v, out.wr with
    | true, [] => some out.v
    | _, _ => none
  | none => none

/-- **A closed call, in whatever world, comes to what was reckoned, and leaves all that was there as it was.** -/
theorem closed_run {P : Program} (hm : P.follows .mixedOrders = true) (hnum : noNumB P = true) {cf f : Nat} {fid : FuncId} {args : List Value} {v : Value} (ha : args.all pureV = true) (e : closedRun P cf f fid args = some v) (w : World) :
    Calls P fid args.toArray w fun en w' => en = .returned v ∧ RowKit.Below w.heap.size w w' := by
  unfold closedRun at e
  split at e
  case h_2 => cases e
  rename_i out ho
  split at e
  case h_2 => cases e
  rename_i hpv hwr
  cases e
  let s : Val := ⟨id, id⟩
  have hpre : Pre s ⟨0, .leaf⟩ w := ⟨fun x b h => (by cases h), fun x y b b' h _ _ => (by cases h), fun x b h => (by cases h)⟩
  have hargs : args.map (conc s) = args := by
    conv => rhs; rw [← List.map_id args]
    exact List.map_congr_left fun v hv => (conc_pure (List.all_eq_true.1 ha v hv)).1
  have := fnA_sem hm (noNumB_spec hnum) f fid args _ out ho s w hpre (fun v hv => (conc_pure (s := s) (List.all_eq_true.1 ha v hv)).2 _)
  rw [hargs] at this
  refine this.mono fun en w' ⟨s', h1, h2⟩ => ⟨by rw [h1, (conc_pure hpv).1], h2.os, h2.tape, h2.output, h2.size, fun k hk => h2.frame k hk fun y hy => by rw [hwr] at hy; cases hy⟩

end Go.Proofs.Ytfhbpeafapabhaa.Eng

/- An engine for closed calls, part 2: more operations -/
import Derived.Test.YtfafjojoapcliaaZ1
import Derived.Laws.BytesString
import Derived.CallsIn
import Derived.RangeFuncIn
import Derived.TacticsIn
set_option linter.unusedVariables false
set_option linter.unusedSimpArgs false
namespace Go.Proofs.Ytfafjojoapcliaa.Eng
noncomputable section

section
/-! Slices of slices, what is nil, lengths, append. -/
section
variable {P : Program} {s : Val} {h : Hp} {w : World}

/-! ### x[l:h:m] -/
def intVal : Option Value → Nat → Option Nat
  | none, d => some d
  | some (.int _ i), _ => match decide (0 ≤ i) with
    | true => some i.toNat
    | false => none
  | some _, _ => none

/-- the room surely reaches that far -/
def roomy (h : Hp) (x off c size k : Nat) : Bool :=
  match Nat.beq (c % 2) 0 with
  | true => Nat.ble k (c / 2)
  | false => match h.getC x with
    | some b => !b.exact && Nat.beq b.size size && !(Nat.beq size 0) && Nat.beq off (c / 2 * size) && Nat.ble (off + k * size) b.cells.length
    | none => false

theorem roomy_spec {x off c size k : Nat} (hs : Sat s h w) (e : roomy h x off c size k = true) : k ≤ room s x c := by
  unfold roomy at e
  unfold room
  split at e
  · rename_i hc
    have := Nat.eq_of_beq_eq_true hc
    rw [if_pos this]; exact Nat.le_of_ble_eq_true e
  · rename_i hc
    have hc' : c % 2 ≠ 0 := fun hh => by rw [hh] at hc; simp at hc
    rw [if_neg hc']
    split at e
    case h_2 => cases e
    rename_i b hb
    simp only [Bool.and_eq_true, Bool.not_eq_true'] at e
    obtain ⟨⟨⟨⟨e1, e2⟩, e3⟩, e4⟩, e5⟩ := e
    have e2 := Nat.eq_of_beq_eq_true e2
    have e3' : size ≠ 0 := fun hh => by rw [hh] at e3; simp at e3
    have e4 := Nat.eq_of_beq_eq_true e4
    have e5 := Nat.le_of_ble_eq_true e5
    obtain ⟨cs, rest, g1, g2, g3, g4⟩ := hs.c hb
    have hsz : cs.size = b.cells.length + rest.length := by rw [← Array.length_toList, g2]; simp
    rw [g4 e1, e2] at hsz
    have : (c / 2 + k) * size ≤ s.cap x * size := by rw [Nat.add_mul]; omega
    have := Nat.le_of_mul_le_mul_right this (by omega)
    omega

def aSlice (P : Program) (t : TypeId) (v : Value) (lo hi mx : Option Value) (h : Hp) : Option Value :=
  match P.underlying t, v with
  | some (.slice e), .slice (some ⟨x, off, none⟩) len c =>
    match P.info? e with
    | some ie =>
      match intVal lo 0, intVal hi len, mx with
      | some l, some hh, none =>
        match Nat.ble l hh && roomy h x off c ie.size hh with
        | true =>
          match Nat.beq (c % 2) 0 with
          | true => some (.slice (some ⟨x, (match Nat.beq (c / 2) l with | true => off | false => off + l * ie.size), none⟩) (hh - l) (2 * (c / 2 - l)))
          | false => match Nat.beq l 0 || !(Nat.ble hh l) with
            | true => some (.slice (some ⟨x, off + l * ie.size, none⟩) (hh - l) (c + 2 * l))
            | false => none
        | false => none
      | some l, some hh, some m =>
        match intVal (some m) 0 with
        | some m => match Nat.ble l hh && Nat.ble hh m && roomy h x off c ie.size m with
          | true => match hi with
            | some _ => some (.slice (some ⟨x, (match Nat.beq m l with | true => off | false => off + l * ie.size), none⟩) (hh - l) (2 * (m - l)))
            | none => none
          | false => none
        | none => none
      | _, _, _ => none
    | none => none
  | some (.array n e), .pointer (some ⟨x, off, none⟩) =>
    match P.info? e with
    | some ie =>
      match intVal lo 0, intVal hi n, mx with
      | some l, some hh, none => match Nat.ble l hh && Nat.ble hh n with
        | true => some (.slice (some ⟨x, (match Nat.beq n l with | true => off | false => off + l * ie.size), none⟩) (hh - l) (2 * (n - l)))
        | false => none
      | _, _, _ => none
    | none => none
  | _, _ => none

theorem beq_f {a b : Nat} (h : ¬ a = b) : Nat.beq a b = false := by
  cases hb : Nat.beq a b with
  | false => rfl
  | true => exact absurd (Nat.eq_of_beq_eq_true hb) h
theorem beq_t {a b : Nat} (h : a = b) : Nat.beq a b = true := by subst h; simp

theorem bound_some {o : Option Value} {d k y : Nat} (code : BoundsCode) {v : Value} (hv : o = some v) (e : intVal o d = some k) (hk : k ≤ y) : (Instr.sliceBound (conc s v) y code).run P w = .ok k w := by
  subst hv
  cases v <;> simp only [intVal] at e <;> try (cases e; done)
  rename_i ik i
  split at e
  case h_2 => cases e
  rename_i hd
  simp only [decide_eq_true_eq] at hd
  cases e
  have : i ≤ (y : Int) := by omega
  simp [Instr.sliceBound, conc, asIntOf, hd, this]

theorem slice_sem {t : TypeId} {v u : Value} {lo hi mx : Option Value} (hp : Pre s h w) (e : aSlice P t v lo hi mx h = some u) :
    (Instr.sliceAt t (conc s v) (lo.map (conc s)) (hi.map (conc s)) (mx.map (conc s))).run P w = .ok (conc s u) w := by
  unfold aSlice at e
  split at e
  case h_3 => cases e
  case h_2 =>
    rename_i n el x off hu
    split at e
    case h_2 => cases e
    rename_i ie hie
    split at e
    case h_2 => cases e
    rename_i l hh hlo hhi
    split at e
    case h_2 => cases e
    rename_i hc
    cases e
    simp only [Bool.and_eq_true] at hc
    have h1 := Nat.le_of_ble_eq_true hc.1
    have h2 := Nat.le_of_ble_eq_true hc.2
    have hb : (Instr.sliceBounds false n n (lo.map (conc s)) (hi.map (conc s)) none).run P w = .ok (l, hh, n) w := by
      unfold Instr.sliceBounds
      have e1 : ∀ code, (match hi.map (conc s) with | some v => Instr.sliceBound v n code | none => (pure n : Sem Nat)).run P w = .ok hh w := fun code => by
        cases hi with
        | none => simp only [intVal, Option.some.injEq] at hhi; subst hhi; rfl
        | some v => exact bound_some code rfl hhi h2
      have e2 : ∀ code, (match lo.map (conc s) with | some v => Instr.sliceBound v hh code | none => (pure 0 : Sem Nat)).run P w = .ok l w := fun code => by
        cases lo with
        | none => simp only [intVal, Option.some.injEq] at hlo; subst hlo; rfl
        | some v => exact bound_some code rfl hlo h1
      cases lo <;> cases hi <;> simp_all
    have hs : (sizeOf el).run P w = .ok ie.size w := by simp [sizeOf, typeInfo, hie]
    simp only [Option.map_none, Instr.sliceAt, Sem.run_bind, run_underlying hu, Result.andThen_ok, conc, concA, Instr.sureAddr, hb, hs, even2]
    simp only [Sem.run_pure, Result.andThen_ok, hb, hs]
    split
    · rename_i hq; simp [beq_t hq]
    · rename_i hq; simp [beq_f hq, add_lit]
  rename_i el x off len c hu
  split at e
  case h_2 => cases e
  rename_i ie hie
  split at e
  · -- no third bound
    rename_i l hh hlo hhi
    split at e
    case h_2 => cases e
    rename_i hc
    simp only [Bool.and_eq_true] at hc
    have h1 := Nat.le_of_ble_eq_true hc.1
    have h2 := roomy_spec hp.sat hc.2
    have hb : (Instr.sliceBounds true len (room s x c) (lo.map (conc s)) (hi.map (conc s)) none).run P w = .ok (l, hh, room s x c) w := by
      unfold Instr.sliceBounds
      have e1 : ∀ code, (match hi.map (conc s) with | some v => Instr.sliceBound v (room s x c) code | none => (pure len : Sem Nat)).run P w = .ok hh w := fun code => by
        cases hi with
        | none => simp only [intVal, Option.some.injEq] at hhi; subst hhi; rfl
        | some v => exact bound_some code rfl hhi h2
      have e2 : ∀ code, (match lo.map (conc s) with | some v => Instr.sliceBound v hh code | none => (pure 0 : Sem Nat)).run P w = .ok l w := fun code => by
        cases lo with
        | none => simp only [intVal, Option.some.injEq] at hlo; subst hlo; rfl
        | some v => exact bound_some code rfl hlo h1
      cases lo <;> cases hi <;> simp_all
    have hs : (sizeOf el).run P w = .ok ie.size w := by simp [sizeOf, typeInfo, hie]
    have hr : (Instr.sliceAt t (conc s (.slice (some ⟨x, off, none⟩) len c)) (lo.map (conc s)) (hi.map (conc s)) none).run P w =
        .ok (.slice (some (if room s x c = l then ⟨s.blk x, off, none⟩ else ⟨s.blk x, off + l * ie.size, none⟩)) (hh - l) (room s x c - l)) w := by
      simp only [Instr.sliceAt, Sem.run_bind, run_underlying hu, Result.andThen_ok, conc, concA]
      simp only [Instr.slice, Sem.run_bind, run_underlying hu, Result.andThen_ok, hb, hs]
      split <;> simp_all [add_lit]
    simp only [Option.map_none]
    rw [hr]
    split at e
    · rename_i hev
      have hev := Nat.eq_of_beq_eq_true hev
      cases e
      have er : room s x c = c / 2 := by unfold room; rw [if_pos hev]
      simp only [conc, concA, even2, er]
      split
      · rename_i hq; simp [beq_t hq]
      · rename_i hq; simp [beq_f hq]
    · rename_i hodd
      have hodd' : c % 2 ≠ 0 := fun hh => by rw [hh] at hodd; simp at hodd
      split at e
      case h_2 => cases e
      rename_i hl
      cases e
      have er : room s x c = s.cap x - c / 2 := by unfold room; rw [if_neg hodd']
      have er2 : room s x (c + 2 * l) = s.cap x - c / 2 - l := by unfold room; rw [if_neg (by omega)]; omega
      simp only [conc, concA, er2, er]
      simp only [Bool.or_eq_true, Bool.not_eq_true'] at hl
      rcases hl with hl | hl
      · have := Nat.eq_of_beq_eq_true hl; subst this
        split <;> simp
      · have : ¬ hh ≤ l := fun hq => by rw [Nat.ble_eq_true_of_le hq] at hl; cases hl
        rw [if_neg (by rw [er] at h2; omega)]
  · -- three bounds
    rename_i l hh m0 hlo hhi
    split at e
    case h_2 => cases e
    rename_i m hm
    split at e
    case h_2 => cases e
    rename_i hc
    simp only [Bool.and_eq_true] at hc
    have h1 := Nat.le_of_ble_eq_true hc.1.1
    have h2 := Nat.le_of_ble_eq_true hc.1.2
    have h3 := roomy_spec hp.sat hc.2
    split at e
    case h_2 => cases e
    rename_i hv
    cases e
    have hb : (Instr.sliceBounds true len (room s x c) (lo.map (conc s)) ((some hv).map (conc s)) ((some m0).map (conc s))).run P w = .ok (l, hh, m) w := by
      have e1 := fun code => bound_some (P := P) (s := s) (w := w) code (o := some hv) (d := len) rfl hhi h2
      have e3 := fun code => bound_some (P := P) (s := s) (w := w) code (o := some m0) (d := 0) rfl hm h3
      have e2 : ∀ code, (match lo.map (conc s) with | some v => Instr.sliceBound v hh code | none => (pure 0 : Sem Nat)).run P w = .ok l w := fun code => by
        cases lo with
        | none => simp only [intVal, Option.some.injEq] at hlo; subst hlo; rfl
        | some v => exact bound_some code rfl hlo h1
      unfold Instr.sliceBounds
      cases lo <;> simp_all
    have hs : (sizeOf el).run P w = .ok ie.size w := by simp [sizeOf, typeInfo, hie]
    simp only [Option.map_some] at hb ⊢
    simp only [Instr.sliceAt, Sem.run_bind, run_underlying hu, Result.andThen_ok, conc, concA]
    simp only [Instr.slice, Sem.run_bind, run_underlying hu, Result.andThen_ok, hb, hs, even2]
    split
    · rename_i hq; simp [beq_t hq]
    · rename_i hq; simp [beq_f hq, add_lit]
  · cases e

theorem slice_in {S : Nat → Prop} {t : TypeId} {v u : Value} {lo hi mx : Option Value} (hv : In S v) (e : aSlice P t v lo hi mx h = some u) : In S u := by
  unfold aSlice at e
  split at e
  case h_3 => cases e
  all_goals
    simp only [In] at hv
    repeat' (split at e)
    all_goals first | (cases e; done) | (cases e; simp only [In]; exact hv)

/-! ### nil or not -/
def aNilEq (P : Program) (t : TypeId) (x y : Value) : Option Bool :=
  match P.underlying t, x, y with
  | some (.pointer _), .pointer none, .pointer b => some b.isNone
  | some (.pointer _), .pointer (some _), .pointer none => some false
  | some (.slice _), .slice none _ _, .slice b _ _ => some b.isNone
  | some (.slice _), .slice (some _) _ _, .slice none _ _ => some false
  | some (.map _ _), .map none, .map b => some b.isNone
  | some (.map _ _), .map (some _), .map none => some false
  | some (.func _ _ _), .nilFunc, .func _ _ _ => some false
  | some (.func _ _ _), .func _ _ _, .nilFunc => some false
  | some (.interface _), .nilIface, .iface _ _ => some false
  | some (.interface _), .iface _ _, .nilIface => some false
  | _, _, _ => none

theorem equal_of {t : TypeId} {x y : Value} {b : Bool} (e : aNilEq P t x y = some b) : (Op.equal t (conc s x) (conc s y)).run P w = .ok b w := by
  have key : ∀ d, (Op.equalIn (d + 1) t (conc s x) (conc s y)).run P w = .ok b w := fun d => by
    unfold aNilEq at e
    split at e
    case h_11 => cases e
    all_goals
      rename_i hu
      cases e
      simp only [Op.equalIn, Sem.run_bind, run_underlying hu, Result.andThen_ok]
    all_goals first
      | (simp only [conc]; rfl)
      | (rename_i b; cases b <;> simp only [conc] <;> rfl)
      | (rename_i b _ _; cases b <;> simp only [conc] <;> rfl)
  exact key 9999

def nilRes (op : BinOp) (b : Bool) : Bool := match op with | .eql => b | _ => !b

theorem nilEq_sem {t : TypeId} {x y : Value} {b : Bool} (e : aNilEq P t x y = some b) (ox oy : Operand) (op : BinOp) (hop : op = .eql ∨ op = .neq) :
    (do eqGuard op t ox oy (conc s x) (conc s y); binOp op t (conc s x) (conc s y) : Sem Value).run P w = .ok (.bool (nilRes op b)) w := by
  have he := equal_of (s := s) (w := w) e
  have hg : eqGuard op t ox oy (conc s x) (conc s y) = pure () := by
    unfold aNilEq at e
    split at e
    case h_11 => cases e
    all_goals first
      | (simp only [conc]; rcases hop with rfl | rfl <;> rfl)
      | (rename_i b _; cases b <;> simp only [conc] <;> rcases hop with rfl | rfl <;> rfl)
      | (rename_i b _ _ _; cases b <;> simp only [conc] <;> rcases hop with rfl | rfl <;> rfl)
  have hb : binOp op t (conc s x) (conc s y) = (do let r ← Op.equal t (conc s x) (conc s y); pure (.bool (nilRes op r))) := by
    unfold aNilEq at e
    split at e
    case h_11 => cases e
    all_goals first
      | (simp only [conc]; rcases hop with rfl | rfl <;> rfl)
      | (rename_i b _; cases b <;> simp only [conc] <;> rcases hop with rfl | rfl <;> rfl)
      | (rename_i b _ _ _; cases b <;> simp only [conc] <;> rcases hop with rfl | rfl <;> rfl)
  rw [hg, hb]
  show (Sem.bind (Op.equal t (conc s x) (conc s y)) _).run P w = _
  have := Sem.run_bind' P (Op.equal t (conc s x) (conc s y)) (fun r => (pure (.bool (nilRes op r)) : Sem Value)) w
  rw [this, he]
  rfl
end
end

section
/-! append -/
/-- A name is given up. -/
theorem Post.kill {s : Val} {B B' : Hp} {w : World} {x : Nat} {b : Blk} (hs : Sat s B w) (hi : Inj s B) (hn : HIn (· < B.next) B) (hx : B.get x = some b) (e : B.put x none = some B') :
    Post s s B B' w w [x] := by
  obtain ⟨e1, e2⟩ := Hp.put_spec e
  have hget : ∀ y b', B'.get y = some b' → B.get y = some b' := fun y b' hy => by
    rw [e2] at hy; split at hy
    · cases hy
    · exact hy
  exact {
    off := fun _ _ => ⟨rfl, rfl⟩
    mono := by omega
    sat := fun y b' hy => hs y b' (hget y b' hy)
    inj := fun y z b1 b2 h1 h2 he => hi y z b1 b2 (hget y b1 h1) (hget z b2 h2) he
    dom := fun y b1 h1 _ => ⟨b1, hget y b1 h1⟩
    old := fun y _ hy => by rw [e2, if_neg (by simpa using hy)]
    fresh := fun y b1 h1 hy => absurd (hn _ _ (hget y b1 h1)).2.1 (by omega)
    frame := fun _ _ _ => rfl
    size := Nat.le_refl _
    os := rfl
    tape := rfl
    output := rfl
    wrOld := fun y hy => by simp only [List.mem_singleton] at hy; subst hy; exact ⟨(hn _ _ hx).2.1, b, hx⟩ }

/-- A block is written, and has a new name from now on. -/
theorem Post.rename {s : Val} {B B1 B' : Hp} {w w' : World} {x : Nat} {b b' : Blk} {c' : Array Value} {rest : List Value} (hs : Sat s B w) (hi : Inj s B) (hn : HIn (· < B.next) B)
    (hxc : B.getC x = some b) (e : B.put x none = some B1) (en : B1.new b' = some B') (hv : ∀ v ∈ b'.cells, In (· < B.next) v) (hty : b'.ty = b.ty) (hex : b'.exact = false) (hlp : b'.lp = none)
    (hc : c'.toList = b'.cells.map (conc s) ++ rest) (hsz : c'.size = s.cap x * b'.size)
    (hw : w'.heap = w.heap.setIfInBounds (s.blk x) (.cells c' b.ty (0, 0))) (hos : w'.os = w.os) (ht : w'.tape = w.tape) (hou : w'.output = w.output) :
    Post s (s.with B.next (s.blk x) (s.cap x)) B B' w w' [x] := by
  obtain ⟨e1, e2⟩ := Hp.put_spec e
  obtain ⟨f1, f2⟩ := Hp.new_spec en
  have hx := getC_get hxc
  have hlt := (hs x b hx).lt
  have hxn := (hn x b hx).2.1
  have agree : ∀ y, y < B.next → s.blk y = (s.with B.next (s.blk x) (s.cap x)).blk y ∧ s.cap y = (s.with B.next (s.blk x) (s.cap x)).cap y := fun y hy => by
    have := Val.with_off (s := s) (x := B.next) (b := s.blk x) (c := s.cap x) (y := y) (by omega)
    exact ⟨this.1.symm, this.2.symm⟩
  have hget : ∀ y b1, B'.get y = some b1 → (y = B.next ∧ b1 = b') ∨ (y ≠ B.next ∧ y ≠ x ∧ B.get y = some b1) := fun y b1 hy => by
    rw [f2] at hy
    split at hy
    · rename_i hye; cases hy; exact .inl ⟨by omega, rfl⟩
    · rename_i hye
      rw [e2] at hy
      split at hy
      · cases hy
      · rename_i hyx; exact .inr ⟨by omega, hyx, hy⟩
  exact {
    off := fun y hy => Val.with_off (by omega)
    mono := by omega
    sat := fun y b1 hy => by
      rcases hget y b1 hy with ⟨rfl, rfl⟩ | ⟨hy1, hy2, hy3⟩
      · refine .inl ⟨hlp, c', rest, by rw [Val.with_blk, hw, hty]; simp [hlt], by rw [← conc_list agree _ hv]; exact hc, (fun he => by rw [hex] at he; cases he), fun _ => by rw [Val.with_cap]; exact hsz⟩
      · have hh := hn y b1 hy3
        refine ((hs y b1 hy3).world ?_).agree (S := (· < B.next)) agree hh.1 hh.2.2
        rw [hw, Array.getElem?_setIfInBounds_ne fun he => hy2 (hi y x _ _ hy3 hx he.symm)]
    inj := fun y z b1 b2 h1 h2 he => by
      rcases hget y b1 h1 with ⟨rfl, rfl⟩ | ⟨hy1, hy2, hy3⟩ <;> rcases hget z b2 h2 with ⟨rfl, rfl⟩ | ⟨hz1, hz2, hz3⟩
      · rfl
      · rw [Val.with_blk, (Val.with_off hz1).1] at he; exact absurd (hi x z _ _ hx hz3 he).symm hz2
      · rw [Val.with_blk, (Val.with_off hy1).1] at he; exact absurd (hi y x _ _ hy3 hx he) hy2
      · rw [(Val.with_off hy1).1, (Val.with_off hz1).1] at he; exact hi y z _ _ hy3 hz3 he
    dom := fun y b1 h1 hlt => by
      rcases hget y b1 h1 with ⟨rfl, rfl⟩ | ⟨_, _, hy3⟩
      · omega
      · exact ⟨b1, hy3⟩
    old := fun y hy hyx => by rw [f2, if_neg (by omega), e2, if_neg (by simpa using hyx)]
    fresh := fun y b1 h1 hy => by
      rcases hget y b1 h1 with ⟨rfl, rfl⟩ | ⟨hy1, _, hy3⟩
      · exact .inr ⟨x, by simp, Val.with_blk⟩
      · exact absurd (hn _ _ hy3).2.1 (by omega)
    frame := fun k hk hne => by rw [hw, Array.getElem?_setIfInBounds_ne (hne x (by simp))]
    size := by rw [hw]; simp
    os := hos
    tape := ht
    output := hou
    wrOld := fun y hy => by simp only [List.mem_singleton] at hy; subst hy; exact ⟨hxn, b, hx⟩ }

section
variable {P : Program} {s : Val} {h : Hp} {w : World}

/-! ### what is appended -/
def srcOf (P : Program) (size : Nat) (tx : TypeId) (x : Value) (h : Hp) : Option (Nat × List Value) :=
  match x, P.underlying tx with
  | .slice none 0 _, some (.slice _) => some (0, [])
  | .slice (some ⟨y, off, none⟩) n _, some (.slice _) =>
    match h.getC y with
    | some b => match Nat.ble (off + n * size) b.cells.length && ((b.cells.drop off).take (n * size)).all (·.oneCell') with
      | true => some (n, (b.cells.drop off).take (n * size))
      | false => none
    | none => none
  | .string t, some .string => match Nat.beq size 1 with
    | true => some (t.size, byteCells t)
    | false => none
  | _, _ => none

theorem byteCells_flat (t : ByteArray) : ∀ v ∈ byteCells t, flat v = true := by
  intro v hv
  obtain ⟨b, _, rfl⟩ := List.mem_map.1 hv
  rfl

theorem src_sem {size : Nat} {tx : TypeId} {x : Value} {n : Nat} {news : List Value} (hs : Sat s h w) (e : srcOf P size tx x h = some (n, news)) :
    Src P size tx (conc s x) n (news.map (conc s)) w := by
  unfold srcOf at e
  split at e
  · rename_i c e' hu
    simp only [Option.some.injEq, Prod.mk.injEq] at e
    obtain ⟨rfl, rfl⟩ := e
    simp only [conc]
    exact Src.ofNil w hu _
  · rename_i y off n' c e' hu
    split at e
    case h_2 => cases e
    rename_i b hb
    split at e
    case h_2 => cases e
    rename_i hc
    simp only [Bool.and_eq_true] at hc
    have hc1 := Nat.le_of_ble_eq_true hc.1
    simp only [Option.some.injEq, Prod.mk.injEq] at e
    obtain ⟨rfl, rfl⟩ := e
    simp only [conc, concA]
    refine Src.ofSlice w hu _ _ _ _ (by simp; omega) (fun j u hj => ?_) (fun u hu => ?_)
    · rw [add_lit]
      rw [List.getElem?_map, List.getElem?_take, Option.map_eq_some_iff] at hj
      obtain ⟨v', hv, rfl⟩ := hj
      split at hv
      · rw [List.getElem?_drop] at hv; exact (hs.c hb).cell hv
      · cases hv
    · obtain ⟨v', hv, rfl⟩ := List.mem_map.1 hu
      rw [one_conc]; exact List.all_eq_true.1 hc.2 v' hv
  · rename_i t hu
    split at e
    case h_2 => cases e
    rename_i hc
    have hc := Nat.eq_of_beq_eq_true hc
    simp only [Option.some.injEq, Prod.mk.injEq] at e
    obtain ⟨rfl, rfl⟩ := e
    subst hc
    have : (byteCells t).map (conc s) = byteCells t := by
      conv => rhs; rw [← List.map_id (byteCells t)]
      exact List.map_congr_left fun v hv => (conc_flat (byteCells_flat t v hv)).1
    rw [this]
    simp only [conc]
    exact Src.ofString w hu t
  · cases e

theorem src_in {S : Nat → Prop} {size : Nat} {tx : TypeId} {x : Value} {n : Nat} {news : List Value} (hn : HIn S h) (e : srcOf P size tx x h = some (n, news)) : ∀ v ∈ news, In S v := by
  unfold srcOf at e
  split at e
  · simp only [Option.some.injEq, Prod.mk.injEq] at e
    obtain ⟨rfl, rfl⟩ := e
    intro v hv; cases hv
  · split at e
    case h_2 => cases e
    rename_i b hb
    split at e
    case h_2 => cases e
    simp only [Option.some.injEq, Prod.mk.injEq] at e
    obtain ⟨rfl, rfl⟩ := e
    intro v hv
    exact (hn _ b (getC_get hb)).2.2 v (List.mem_of_mem_drop (List.mem_of_mem_take hv))
  · split at e
    case h_2 => cases e
    simp only [Option.some.injEq, Prod.mk.injEq] at e
    obtain ⟨rfl, rfl⟩ := e
    exact fun v hv => (conc_flat (s := ⟨id, id⟩) (byteCells_flat _ v hv)).2 S
  · cases e

theorem setRow_set {g : Nat} {c : Array Value} {t : TypeId} (hg : w.heap[g]? = some (.cells c t (0, 0))) (c' : Array Value) : (w.setRow g c').heap = w.heap.setIfInBounds g (.cells c' t (0, 0)) := by
  obtain ⟨hlt, hv⟩ := Array.getElem?_eq_some_iff.1 hg
  simp only [World.setRow]
  apply Array.ext_getElem?
  intro k
  by_cases hk : k = g
  · subst hk; simp [hlt, Array.getElem_modify_self, hv]
  · rw [Array.getElem?_setIfInBounds_ne (Ne.symm hk)]; simp [Array.getElem?_modify, Ne.symm hk]

/-- There is room: the row is written in place. -/
theorem append_room (t tx ty e : TypeId) (i : TypeInfo) (ht : P.underlying t = some (.slice e)) (hi : P.info? e = some i) (g off sLen sCap : Nat) (x : Value) (n : Nat) (news : List Value) (hs : Src P i.size tx x n news w)
    (e' : TypeId) (cur : Array Value) (hg : w.heap[g]? = some (.cells cur e' (0, 0))) (hroom : sLen + n ≤ sCap) (hfit : off + sLen * i.size + news.length ≤ cur.size) :
    (Builtin.append_ #[t, tx] ty #[.slice (some ⟨g, off, none⟩) sLen sCap, x]).run P w = .ok (.slice (some ⟨g, off, none⟩) (sLen + n) sCap)
      (w.setRow g (cur.toList.take (off + sLen * i.size) ++ news ++ cur.toList.drop (off + sLen * i.size + news.length)).toArray) := by
  have hst := run_storeCells_at P g (off + sLen * i.size) e' news 0 cur w hg (by simpa using hfit) hs.one
  simp only [Nat.add_zero] at hst
  rcases hs.kind with ⟨e2, hk⟩ | hk <;> simp [Builtin.append_, run_underlying ht, run_underlying hk, sizeOf, typeInfo, hi, hs.len, hroom, hs.cells, Addr.add_lit, hst]

theorem append_none (t tx ty e : TypeId) (i : TypeInfo) (ht : P.underlying t = some (.slice e)) (hi : P.info? e = some i) (x : Value) (hs : Src P i.size tx x 0 [] w) :
    (Builtin.append_ #[t, tx] ty #[.slice none 0 0, x]).run P w = .ok (.slice none 0 0) w := by
  rcases hs.kind with ⟨e2, hk⟩ | hk <;> simp [Builtin.append_, run_underlying ht, run_underlying hk, sizeOf, typeInfo, hi, hs.len, hs.cells]

structure Out where
  v : Value
  hp : Hp
  wr : List Nat

/-- a new row, of unknown room -/
def aGrow (e : TypeId) (size : Nat) (len : Nat) (cells : List Value) (wr : List Nat) (h : Hp) : Option Out :=
  match h.new ⟨e, size, false, cells, none⟩ with
  | some h' => some ⟨.slice (some ⟨h.next, 0, none⟩) len 1, h', wr⟩
  | none => none

def aAppend (P : Program) (t tx : TypeId) (sv xv : Value) (h : Hp) : Option Out :=
  match P.underlying t with
  | some (.slice e) =>
    match zeroOf P e, P.info? e with
    | some z, some ie =>
      match srcOf P ie.size tx xv h with
      | some (n, news) =>
        match sv with
        | .slice none 0 0 =>
          match Nat.beq n 0 && news.isEmpty with
          | true => some ⟨.slice none 0 0, h, []⟩
          | false => match Nat.ble (n * ie.bytes) 140737488355328 && Nat.ble n 9223372036854775807 && Nat.beq z.cells.size ie.size && !(Nat.beq n 0) with
            | true => aGrow e ie.size n news [] h
            | false => none
        | .slice (some ⟨x, off, none⟩) len c =>
          match h.getC x with
          | some b =>
            let olds := (b.cells.drop off).take (len * ie.size)
            match Nat.ble ((len + n) * ie.bytes) 140737488355328 && Nat.ble (len + n) 9223372036854775807 && Nat.beq z.cells.size ie.size && Nat.ble (off + len * ie.size) b.cells.length with
            | true =>
              match Nat.beq (c % 2) 0 with
              | true =>
                match Nat.ble (len + n) (c / 2) with
                | true =>
                  match Nat.ble (off + len * ie.size + news.length) b.cells.length with
                  | true => match h.put x (some { b with cells := b.cells.take (off + len * ie.size) ++ news ++ b.cells.drop (off + len * ie.size + news.length) }) with
                    | some h' => some ⟨.slice (some ⟨x, off, none⟩) (len + n) c, h', [x]⟩
                    | none => none
                  | false => none
                | false => aGrow e ie.size (len + n) (olds ++ news) [] h
              | false =>
                match Nat.beq c 1 && Nat.beq off 0 && !b.exact && Nat.beq b.size ie.size && Nat.beq b.ty e with
                | true => match h.put x none with
                  | some h1 => aGrow e ie.size (len + n) (olds ++ news) [x] h1
                  | none => none
                | false => none
            | false => none
          | none => none
        | _ => none
      | none => none
    | _, _ => none
  | _ => none

theorem grow_sem {t tx ty e : TypeId} {i : TypeInfo} {z : Value} (ht : P.underlying t = some (.slice e)) (hi : P.info? e = some i) (hz : i.zero = some z) 
    (hzs : z.cells.size = i.size) {base : Option Addr} {sLen sCap : Nat} {olds : List Value} (hol : olds.length = sLen * i.size)
    (hold : ∀ w' : World, w'.heap = w.heap → (Builtin.firstCells i.size sLen (.slice base sLen sCap)).run P w' = .ok (olds.map (conc s)).toArray w') {x : Value} {n : Nat} {news : List Value} (hs : Src P i.size tx x n (news.map (conc s)) w)
    (hg : sCap < sLen + n) (h63 : sLen + n ≤ 9223372036854775807) (hb : (sLen + n) * i.bytes ≤ 140737488355328)
    (hp : Pre s h w) (ho : ∀ v ∈ olds ++ news, In (· < h.next) v) {h' : Hp} (hn : h.new ⟨e, i.size, false, olds ++ news, none⟩ = some h') :
    ∃ s' w', (Builtin.append_ #[t, tx] ty #[.slice base sLen sCap, x]).run P w = .ok (conc s' (.slice (some ⟨h.next, 0, none⟩) (sLen + n) 1)) w' ∧ Post s s' h h' w w' [] := by
  have hge : sLen + n ≤ grownCap w (sLen + n) sCap e := by unfold grownCap; exact Nat.le_add_right (sLen + n) _
  have hnl : (news.map (conc s)).length = n * i.size := hs.newsLen
  refine ⟨_, _, ?_, Post.new (n := grownCap w (sLen + n) sCap e) (c := ((olds.map (conc s) ++ news.map (conc s)).toArray ++ Builtin.zeroCells z.cells (grownCap w (sLen + n) sCap e - (sLen + n))))
    (rest := (Builtin.zeroCells z.cells (grownCap w (sLen + n) sCap e - (sLen + n))).toList) (w' := w.drew.alloc (.cells ((olds.map (conc s) ++ news.map (conc s)).toArray ++ Builtin.zeroCells z.cells (grownCap w (sLen + n) sCap e - (sLen + n))) e)) hp.sat hp.inj hp.hin hn ho ?_ (fun he => by cases he) (fun _ => ?_) rfl rfl rfl rfl⟩
  · rw [run_append_grow_src w t tx ty e i z ht hi hz base sLen sCap (olds.map (conc s)) (hold _ rfl) x n (news.map (conc s)) hs hg (by omega) (growslice_fits hg hb)]
    simp only [conc, concA, Val.with_blk]
    have : room (s.with h.next w.heap.size (grownCap w (sLen + n) sCap e)) h.next 1 = grownCap w (sLen + n) sCap e := by unfold room; rw [if_neg (by omega), Val.with_cap]; omega
    rw [this]
  · simp
  · have e1 : ((olds.map (conc s) ++ news.map (conc s)).toArray).size = (sLen + n) * i.size := by
      simp at hnl ⊢; rw [hol, hnl, Nat.add_mul]
    show (_ ++ _ : Array Value).size = grownCap w (sLen + n) sCap e * i.size
    rw [Array.size_append, e1, size_zeroCells, hzs, ← Nat.add_mul]
    congr 1; omega

theorem aGrow_spec {e : TypeId} {size len : Nat} {cells : List Value} {wr : List Nat} {o : Out} (h1 : aGrow e size len cells wr h = some o) :
    ∃ h', h.new ⟨e, size, false, cells, none⟩ = some h' ∧ o = ⟨.slice (some ⟨h.next, 0, none⟩) len 1, h', wr⟩ := by
  unfold aGrow at h1
  split at h1
  case h_2 => cases h1
  rename_i h' hn
  exact ⟨h', hn, by cases h1; rfl⟩

theorem olds_run {x off : Nat} {b : Blk} (hg : GoodC s x b w) (size len c : Nat) (hl : off + len * size ≤ b.cells.length) (w' : World) (hw : w'.heap = w.heap) :
    (Builtin.firstCells size len (.slice (some ⟨s.blk x, off, none⟩) len c)).run P w' = .ok (((b.cells.drop off).take (len * size)).map (conc s)).toArray w' := by
  refine run_firstCells_some w' size len _ len c _ (by simp; omega) fun j v hj => ?_
  rw [add_lit]
  rw [List.getElem?_map, List.getElem?_take, Option.map_eq_some_iff] at hj
  obtain ⟨v', hv, rfl⟩ := hj
  split at hv
  · rw [List.getElem?_drop] at hv
    exact (hg.world (w' := w') (by rw [hw])).cell hv
  · cases hv

theorem append_sem {t tx ty : TypeId} {sv xv : Value} {o : Out} (hp : Pre s h w) (e : aAppend P t tx sv xv h = some o) :
    ∃ s' w', (Builtin.append_ #[t, tx] ty #[conc s sv, conc s xv]).run P w = .ok (conc s' o.v) w' ∧ Post s s' h o.hp w w' o.wr := by
  unfold aAppend at e
  split at e
  case h_2 => cases e
  rename_i el ht
  split at e
  case h_2 => cases e
  rename_i z ie hz hie
  obtain ⟨i, hi, hzi, hf⟩ := zeroOf_spec hz
  rw [hie] at hi; cases hi
  split at e
  case h_2 => cases e
  rename_i n news hsrc
  have hS := src_sem (w := w) hp.sat hsrc
  have hnin := src_in hp.hin hsrc
  split at e
  · -- a nil slice
    split at e
    · rename_i h0
      simp only [Bool.and_eq_true, List.isEmpty_iff] at h0
      have h01 := Nat.eq_of_beq_eq_true h0.1
      obtain ⟨_, h02⟩ := h0
      subst h01 h02
      cases e
      refine ⟨s, w, ?_, Post.refl hp.sat hp.inj hp.hin⟩
      simp only [conc]
      exact append_none t tx ty el ie ht hie _ (by simpa using hS)
    · split at e
      case h_2 => cases e
      rename_i hc
      simp only [Bool.and_eq_true, Bool.not_eq_true'] at hc
      have c1 := Nat.le_of_ble_eq_true hc.1.1.1
      have c2 := Nat.le_of_ble_eq_true hc.1.1.2
      have c3 := Nat.eq_of_beq_eq_true hc.1.2
      have c4 : n ≠ 0 := fun hh => by rw [hh] at hc; simp at hc
      obtain ⟨h', hn, rfl⟩ := aGrow_spec e
      have e0 : conc s (.slice none 0 0) = .slice none 0 0 := by simp only [conc]
      rw [e0]
      have := grow_sem (ty := ty) (base := none) (sLen := 0) (sCap := 0) (olds := []) ht hie hzi c3 (by simp) (fun w' _ => by simpa using run_firstCells_none w' ie.size 0 0 0) hS (by omega) (by omega) (by simpa using c1) hp (by simpa using hnin) (by simpa using hn)
      simpa using this
  · rename_i x off len c
    split at e
    case h_2 => cases e
    rename_i b hb
    have hg := hp.sat.c hb
    have e0 : conc s (.slice (some ⟨x, off, none⟩) len c) = .slice (some ⟨s.blk x, off, none⟩) len (room s x c) := by simp only [conc, concA]
    simp only at e
    split at e
    case h_2 => cases e
    rename_i hc
    simp only [Bool.and_eq_true] at hc
    have c1 := Nat.le_of_ble_eq_true hc.1.1.1
    have c2 := Nat.le_of_ble_eq_true hc.1.1.2
    have c3 := Nat.eq_of_beq_eq_true hc.1.2
    have c4 := Nat.le_of_ble_eq_true hc.2
    have hol : ((b.cells.drop off).take (len * ie.size)).length = len * ie.size := by simp; omega
    have hoin : ∀ v ∈ (b.cells.drop off).take (len * ie.size) ++ news, In (· < h.next) v := fun v hv => by
      rcases List.mem_append.1 hv with hv | hv
      · exact (hp.hin x b (getC_get hb)).2.2 v (List.mem_of_mem_drop (List.mem_of_mem_take hv))
      · exact hnin v hv
    split at e
    · rename_i hev
      have hev := Nat.eq_of_beq_eq_true hev
      have hroom : room s x c = c / 2 := by unfold room; rw [if_pos hev]
      split at e
      · -- in place
        rename_i hr
        have hr := Nat.le_of_ble_eq_true hr
        split at e
        case h_2 => cases e
        rename_i hfit
        have hfit := Nat.le_of_ble_eq_true hfit
        split at e
        case h_2 => cases e
        rename_i h1 hput
        cases e
        obtain ⟨cc, rest, g1, g2, g3, g4, g5⟩ := row_of_good hg (off := off + len * ie.size) (cs := news) hfit
        refine ⟨s, _, ?_, Post.set (b' := { b with cells := b.cells.take (off + len * ie.size) ++ news ++ b.cells.drop (off + len * ie.size + news.length) }) (rest := rest)
          (c' := (cc.toList.take (off + len * ie.size) ++ news.map (conc s) ++ cc.toList.drop (off + len * ie.size + (news.map (conc s)).length)).toArray)
          (w' := w.setRow (s.blk x) (cc.toList.take (off + len * ie.size) ++ news.map (conc s) ++ cc.toList.drop (off + len * ie.size + (news.map (conc s)).length)).toArray)
          hp.sat hp.inj hp.hin hb hput ⟨rfl, rfl, rfl, rfl⟩ ?_ g4 ?_ ?_ rfl rfl rfl⟩
        · simp only [conc, concA, hroom]
          exact append_room t tx ty el ie ht hie (s.blk x) off len (c / 2) _ n _ hS b.ty cc g1 hr g2
        · simpa using g3
        · intro he; simpa using g5 he
        · exact setRow_set g1 _
      · rename_i hr
        have hr' : c / 2 < len + n := by
          rcases Nat.lt_or_ge (c / 2) (len + n) with h | h
          · exact h
          · rw [Nat.ble_eq_true_of_le h] at hr; cases hr
        obtain ⟨h', hn, rfl⟩ := aGrow_spec e
        rw [e0, hroom]
        exact grow_sem (ty := ty) ht hie hzi c3 hol (olds_run hg ie.size len _ c4) hS hr' c2 c1 hp hoin hn
    · rename_i hodd
      have hodd' : c % 2 ≠ 0 := fun hh => by rw [hh] at hodd; simp at hodd
      split at e
      case h_2 => cases e
      rename_i hq
      simp only [Bool.and_eq_true, Bool.not_eq_true'] at hq
      obtain ⟨⟨⟨⟨q1, q2⟩, q3⟩, q4⟩, q5⟩ := hq
      have q1 := Nat.eq_of_beq_eq_true q1
      have q2 := Nat.eq_of_beq_eq_true q2
      have q4 := Nat.eq_of_beq_eq_true q4
      have q5 := Nat.eq_of_beq_eq_true q5
      subst q1 q2
      split at e
      case h_2 => cases e
      rename_i h1 hput
      obtain ⟨h', hn, rfl⟩ := aGrow_spec e
      have hroom : room s x 1 = s.cap x := by unfold room; rw [if_neg (by omega)]; omega
      have hnext : h1.next = h.next := (Hp.put_spec hput).1
      by_cases hr : len + n ≤ s.cap x
      · -- in place, under a new name
        obtain ⟨cc, rest, g1, g2, g3, g4⟩ := hg
        have hcs : cc.size = s.cap x * ie.size := by rw [g4 q3, q4]
        have hnl : (news.map (conc s)).length = n * ie.size := hS.newsLen
        have hfit : 0 + len * ie.size + (news.map (conc s)).length ≤ cc.size := by
          rw [hnl, hcs, Nat.zero_add, ← Nat.add_mul]; exact Nat.mul_le_mul_right _ hr
        refine ⟨_, _, ?_, Post.rename (b' := ⟨el, ie.size, false, (b.cells.drop 0).take (len * ie.size) ++ news, none⟩) (rest := cc.toList.drop (0 + len * ie.size + (news.map (conc s)).length))
          (c' := (cc.toList.take (0 + len * ie.size) ++ news.map (conc s) ++ cc.toList.drop (0 + len * ie.size + (news.map (conc s)).length)).toArray)
          (w' := w.setRow (s.blk x) (cc.toList.take (0 + len * ie.size) ++ news.map (conc s) ++ cc.toList.drop (0 + len * ie.size + (news.map (conc s)).length)).toArray)
          hp.sat hp.inj hp.hin hb hput hn hoin q5.symm rfl rfl ?_ ?_ ?_ rfl rfl rfl⟩
        · rw [e0, hroom, append_room t tx ty el ie ht hie (s.blk x) 0 len (s.cap x) _ n _ hS b.ty cc g1 hr hfit]
          have : room (s.with h.next (s.blk x) (s.cap x)) h.next 1 = s.cap x := by unfold room; rw [if_neg (by omega), Val.with_cap]; omega
          simp only [conc, concA, hnext, Val.with_blk, this]
        · rw [g2]
          have c4' : len * ie.size ≤ b.cells.length := by simpa using c4
          simp only [Nat.zero_add, List.map_append, List.map_take, List.drop_zero]
          rw [List.take_append_of_le_length (by simpa using c4')]
        · have := hfit
          simp only [List.size_toArray, List.length_append, List.length_take, List.length_drop, Array.length_toList]
          rw [← hcs]; omega
        · exact setRow_set g1 _
      · have hk := Post.kill hp.sat hp.inj hp.hin (getC_get hb) hput
        have hp1 : Pre s h1 w := ⟨hk.sat, hk.inj, fun y b' hy => by
          have := (Hp.put_spec hput).2 y
          rw [this] at hy
          split at hy
          · cases hy
          · rw [hnext]; exact hp.hin y b' hy⟩
        obtain ⟨s', w', hrun, hpost⟩ := grow_sem (ty := ty) (base := some ⟨s.blk x, 0, none⟩) (sCap := s.cap x) ht hie hzi c3 hol (olds_run hg ie.size len _ c4) hS (by omega) c2 c1 hp1 (by rw [hnext]; exact hoin) hn
        refine ⟨s', w', ?_, ?_⟩
        · rw [e0, hroom]; exact hnext ▸ hrun
        · exact hk.trans hpost
  · cases e

theorem grow_in {S : Nat → Prop} {e : TypeId} {size len : Nat} {cells : List Value} {wr : List Nat} {o : Out} (hn : HIn S h) (hc : ∀ v ∈ cells, In S v) (e1 : aGrow e size len cells wr h = some o)
    (hS : ∀ y, h.next ≤ y → y < o.hp.next → S y) : HIn S o.hp ∧ In S o.v ∧ h.next ≤ o.hp.next := by
  obtain ⟨h', hnew, rfl⟩ := aGrow_spec e1
  obtain ⟨f1, f2⟩ := Hp.new_spec hnew
  have hs : S h.next := hS _ (Nat.le_refl _) (by simp only; omega)
  refine ⟨fun k b hk => ?_, by simp only [In]; exact hs, by simp only; omega⟩
  rw [f2] at hk
  split at hk
  · rename_i hke; cases hk; subst hke; exact ⟨hs, by simp only; omega, hc⟩
  · have := hn k b hk; exact ⟨this.1, by simp only; omega, this.2.2⟩

theorem put_in {S : Nat → Prop} {h' : Hp} {x : Nat} {b : Option Blk} (hn : HIn S h) (e : h.put x b = some h') (hb : ∀ b', b = some b' → S x ∧ x < h.next ∧ ∀ v ∈ b'.cells, In S v) : HIn S h' ∧ h'.next = h.next := by
  obtain ⟨e1, e2⟩ := Hp.put_spec e
  refine ⟨fun k b' hk => ?_, e1⟩
  rw [e2] at hk
  split at hk
  · rename_i hke; subst hke; have := hb b' hk; exact ⟨this.1, by omega, this.2.2⟩
  · have := hn k b' hk; exact ⟨this.1, by omega, this.2.2⟩

theorem append_in {S : Nat → Prop} {t tx : TypeId} {sv xv : Value} {o : Out} (hn : HIn S h) (e : aAppend P t tx sv xv h = some o)
    (hS : ∀ y, h.next ≤ y → y < o.hp.next → S y) : HIn S o.hp ∧ In S o.v ∧ h.next ≤ o.hp.next := by
  unfold aAppend at e
  split at e
  case h_2 => cases e
  split at e
  case h_2 => cases e
  split at e
  case h_2 => cases e
  rename_i n news hsrc
  have hnin := src_in hn hsrc
  split at e
  · split at e
    · cases e; exact ⟨hn, by simp [In], Nat.le_refl _⟩
    · split at e
      case h_2 => cases e
      exact grow_in hn hnin e hS
  · split at e
    case h_2 => cases e
    rename_i b hb
    have hh := hn _ b (getC_get hb)
    simp only at e
    split at e
    case h_2 => cases e
    split at e
    · split at e
      · split at e
        case h_2 => cases e
        split at e
        case h_2 => cases e
        rename_i h1 hput
        cases e
        have := put_in hn hput (fun b' hb' => by
          cases hb'
          refine ⟨hh.1, hh.2.1, fun v hv => ?_⟩
          simp only [List.mem_append] at hv
          rcases hv with (hv | hv) | hv
          · exact hh.2.2 v (List.mem_of_mem_take hv)
          · exact hnin v hv
          · exact hh.2.2 v (List.mem_of_mem_drop hv))
        exact ⟨this.1, by simp only [In]; exact hh.1, by simp only; omega⟩
      · refine grow_in hn (fun v hv => ?_) e hS
        rcases List.mem_append.1 hv with hv | hv
        · exact hh.2.2 v (List.mem_of_mem_drop (List.mem_of_mem_take hv))
        · exact hnin v hv
    · split at e
      case h_2 => cases e
      split at e
      case h_2 => cases e
      rename_i h1 hput
      obtain ⟨hn1, hnx⟩ := put_in hn hput (fun b' hb' => by cases hb')
      have := grow_in hn1 (fun v hv => ?_) e (by rw [hnx]; exact hS)
      · rw [hnx] at this; exact this
      · rcases List.mem_append.1 hv with hv | hv
        · exact hh.2.2 v (List.mem_of_mem_drop (List.mem_of_mem_take hv))
        · exact hnin v hv
  · cases e

/-! ### copy -/
def aCopy (P : Program) (t tx : TypeId) (sv xv : Value) (h : Hp) : Option Out :=
  match P.underlying t, P.underlying tx with
  | some (.slice e), some (.slice _) =>
    match P.info? e with
    | some ie =>
      match sv, xv with
      | .slice (some ⟨x, off, none⟩) len _, .slice (some ⟨y, offs, none⟩) m _ =>
        let n := Nat.min m len
        match h.getC x, h.getC y with
        | some b, some b' =>
          let cs := (b'.cells.drop offs).take (n * ie.size)
          match Nat.ble (offs + n * ie.size) b'.cells.length && Nat.ble (off + n * ie.size) b.cells.length && cs.all (·.oneCell') with
          | true => match h.put x (some { b with cells := b.cells.take off ++ cs ++ b.cells.drop (off + cs.length) }) with
            | some h' => some ⟨.int .i64 n, h', [x]⟩
            | none => none
          | false => none
        | _, _ => none
      | _, _ => none
    | none => none
  | _, _ => none

theorem copy_sem {t tx ty : TypeId} {sv xv : Value} {o : Out} (hp : Pre s h w) (e : aCopy P t tx sv xv h = some o) :
    ∃ s' w', (Builtin.copy_ #[t, tx] ty #[conc s sv, conc s xv]).run P w = .ok (conc s' o.v) w' ∧ Post s s' h o.hp w w' o.wr := by
  unfold aCopy at e
  split at e
  case h_2 => cases e
  rename_i el el' ht htx
  split at e
  case h_2 => cases e
  rename_i ie hie
  split at e
  case h_2 => cases e
  rename_i x off len c y offs m c'
  simp only at e
  split at e
  case h_2 => cases e
  rename_i b b' hb hb'
  split at e
  case h_2 => cases e
  rename_i hc
  simp only [Bool.and_eq_true] at hc
  have c1 := Nat.le_of_ble_eq_true hc.1.1
  have c2 := Nat.le_of_ble_eq_true hc.1.2
  split at e
  case h_2 => cases e
  rename_i h1 hput
  cases e
  have hg := hp.sat.c hb
  have hl : ((b'.cells.drop offs).take (Nat.min m len * ie.size)).length = Nat.min m len * ie.size := by simp; omega
  obtain ⟨cc, rest, g1, g2, g3, g4, g5⟩ := row_of_good hg (off := off) (cs := (b'.cells.drop offs).take (Nat.min m len * ie.size)) (by rw [hl]; exact c2)
  have hf := olds_run (P := P) (w := w) (hp.sat.c hb') ie.size (Nat.min m len) (room s y c') c1 w rfl
  have hf' : (Builtin.firstCells ie.size (Nat.min m len) (.slice (some ⟨s.blk y, offs, none⟩) m (room s y c'))).run P w = .ok (((b'.cells.drop offs).take (Nat.min m len * ie.size)).map (conc s)).toArray w := hf
  have hst := run_storeCells_at P (s.blk x) off b.ty (((b'.cells.drop offs).take (Nat.min m len * ie.size)).map (conc s)) 0 cc w g1 (by simpa using g2) (by
    intro v hv
    obtain ⟨v', hv', rfl⟩ := List.mem_map.1 hv
    rw [one_conc]; exact List.all_eq_true.1 hc.2 v' hv')
  simp only [Nat.add_zero] at hst
  refine ⟨s, _, ?_, Post.set (b' := { b with cells := b.cells.take off ++ (b'.cells.drop offs).take (Nat.min m len * ie.size) ++ b.cells.drop (off + ((b'.cells.drop offs).take (Nat.min m len * ie.size)).length) }) (rest := rest)
    (c' := (cc.toList.take off ++ ((b'.cells.drop offs).take (Nat.min m len * ie.size)).map (conc s) ++ cc.toList.drop (off + (((b'.cells.drop offs).take (Nat.min m len * ie.size)).map (conc s)).length)).toArray)
    (w' := w.setRow (s.blk x) (cc.toList.take off ++ ((b'.cells.drop offs).take (Nat.min m len * ie.size)).map (conc s) ++ cc.toList.drop (off + (((b'.cells.drop offs).take (Nat.min m len * ie.size)).map (conc s)).length)).toArray)
    hp.sat hp.inj hp.hin hb hput ⟨rfl, rfl, rfl, rfl⟩ ?_ g4 ?_ ?_ rfl rfl rfl⟩
  · simp only [conc, concA]
    generalize ((b'.cells.drop offs).take (Nat.min m len * ie.size)).map (conc s) = L at hf' hst ⊢
    simp only [Builtin.copy_]
    simp [run_underlying ht, Builtin.lenOf, sizeOf, typeInfo, hie, goInt]
    rw [hf']
    simp at hst ⊢
    rw [hst]
    rfl
  · simpa using g3
  · intro he; simpa using g5 he
  · exact setRow_set g1 _

theorem copy_in {S : Nat → Prop} {t tx : TypeId} {sv xv : Value} {o : Out} (hn : HIn S h) (e : aCopy P t tx sv xv h = some o) : HIn S o.hp ∧ In S o.v ∧ o.hp.next = h.next := by
  unfold aCopy at e
  split at e
  case h_2 => cases e
  split at e
  case h_2 => cases e
  split at e
  case h_2 => cases e
  simp only at e
  split at e
  case h_2 => cases e
  rename_i b b' hb hb'
  split at e
  case h_2 => cases e
  split at e
  case h_2 => cases e
  rename_i h1 hput
  cases e
  have hh := hn _ b (getC_get hb)
  have hh' := hn _ b' (getC_get hb')
  have := put_in hn hput (fun b2 hb2 => by
    cases hb2
    refine ⟨hh.1, hh.2.1, fun v hv => ?_⟩
    simp only [List.mem_append] at hv
    rcases hv with (hv | hv) | hv
    · exact hh.2.2 v (List.mem_of_mem_take hv)
    · exact hh'.2.2 v (List.mem_of_mem_drop (List.mem_of_mem_take hv))
    · exact hh.2.2 v (List.mem_of_mem_drop hv))
  exact ⟨this.1, by simp [In], this.2⟩

theorem copy_old {t tx : TypeId} {sv xv : Value} {o : Out} (e : aCopy P t tx sv xv h = some o) : ∀ x, x < h.next → x ∉ o.wr → o.hp.get x = h.get x := by
  unfold aCopy at e
  split at e
  case h_2 => cases e
  split at e
  case h_2 => cases e
  split at e
  case h_2 => cases e
  simp only at e
  split at e
  case h_2 => cases e
  split at e
  case h_2 => cases e
  split at e
  case h_2 => cases e
  rename_i hput
  cases e
  intro y _ hy
  simp only
  rw [(Hp.put_spec hput).2, if_neg (by simpa using hy)]
end
end

section
/-! Maps. -/
section
variable {P : Program} {s : Val} {h : Hp} {w : World}

theorem entsOf_len : ∀ (ks : List Value) (ns : List Nat) (vs : List Value), ks.length = vs.length → ns.length = vs.length → (entsOf ks ns vs).length = vs.length
  | [], [], [], _, _ => rfl
  | k :: ks, n :: ns, v :: vs, h1, h2 => by
    simp only [List.length_cons, Nat.add_right_cancel_iff] at h1 h2
    simp only [entsOf, List.length_cons, entsOf_len ks ns vs h1 h2]
  | [], _ :: _, [], _, h2 => by simp at h2
  | _ :: _, _, [], h1, _ => by simp at h1
  | [], _, _ :: _, h1, _ => by simp at h1
  | _ :: _, [], _ :: _, _, h2 => by simp at h2
theorem entsOf_at : ∀ (ks : List Value) (ns : List Nat) (vs : List Value) (i : Nat) (v : Value), ks.length = vs.length → ns.length = vs.length → vs[i]? = some v →
    ∃ k n, ks[i]? = some k ∧ ns[i]? = some n ∧ (entsOf ks ns vs)[i]? = some ⟨k, v, n⟩
  | k :: ks, n :: ns, v :: vs, 0, u, _, _, e => by simp at e; subst e; exact ⟨k, n, rfl, rfl, rfl⟩
  | k :: ks, n :: ns, v :: vs, i + 1, u, h1, h2, e => by
    simp only [List.length_cons, Nat.add_right_cancel_iff] at h1 h2
    simp only [List.getElem?_cons_succ] at e
    obtain ⟨k', n', e1, e2, e3⟩ := entsOf_at ks ns vs i u h1 h2 e
    exact ⟨k', n', by simpa using e1, by simpa using e2, by simpa [entsOf] using e3⟩
  | [], _, v :: vs, _, _, h1, _, _ => by simp at h1
  | k :: ks, [], v :: vs, _, _, _, h2, _ => by simp at h2
  | _, _, [], _, _, _, _, e => by simp at e
theorem entsOf_push : ∀ (ks : List Value) (ns : List Nat) (vs : List Value) (k : Value) (n : Nat) (v : Value), ks.length = vs.length → ns.length = vs.length →
    entsOf ks ns vs ++ [⟨k, v, n⟩] = entsOf (ks ++ [k]) (ns ++ [n]) (vs ++ [v])
  | [], [], [], _, _, _, _, _ => rfl
  | k :: ks, n :: ns, v :: vs, k', n', v', h1, h2 => by
    simp only [List.length_cons, Nat.add_right_cancel_iff] at h1 h2
    simp only [entsOf, List.cons_append, entsOf_push ks ns vs k' n' v' h1 h2]
  | [], _ :: _, [], _, _, _, _, h2 => by simp at h2
  | _ :: _, _, [], _, _, _, h1, _ => by simp at h1
  | [], _, _ :: _, _, _, _, h1, _ => by simp at h1
  | _ :: _, [], _ :: _, _, _, _, _, h2 => by simp at h2
theorem entsOf_set : ∀ (ks : List Value) (ns : List Nat) (vs : List Value) (i : Nat) (k v : Value), ks.length = vs.length → ns.length = vs.length →
    (entsOf ks ns vs).modify i (fun e => { e with key := k, val := v }) = entsOf (ks.set i k) ns (vs.set i v)
  | k :: ks, n :: ns, v :: vs, 0, k', v', _, _ => by simp [entsOf]
  | k :: ks, n :: ns, v :: vs, i + 1, k', v', h1, h2 => by
    simp only [List.length_cons, Nat.add_right_cancel_iff] at h1 h2
    simp only [entsOf, List.set_cons_succ, List.modify_succ_cons, entsOf_set ks ns vs i k' v' h1 h2]
  | [], [], [], _, _, _, _, _ => by simp [entsOf]
  | [], _ :: _, [], _, _, _, _, h2 => by simp at h2
  | _ :: _, _, [], _, _, _, h1, _ => by simp at h1
  | [], _, _ :: _, _, _, _, h1, _ => by simp at h1
  | _ :: _, [], _ :: _, _, _, _, _, h2 => by simp at h2

/-! ### where a key stands -/
def findNowI (d : TypeDesc) (k : Value) : List Value → Nat → Option (Option Nat)
  | [], _ => some none
  | e :: es, i => match Instr.sameNow d k e with
    | some true => some (some i)
    | some false => findNowI d k es (i + 1)
    | none => none
def findAskI (P : Program) (kt : TypeId) (k : Value) : List Value → Nat → Option (Option Nat)
  | [], _ => some none
  | e :: es, i => match runP P (Op.equal kt k e) with
    | some true => some (some i)
    | some false => findAskI P kt k es (i + 1)
    | none => none
def aFind (P : Program) (kt : TypeId) (k : Value) (ks : List Value) : Option (Option Nat) :=
  match P.underlying kt with
  | some d => match findNowI d k ks 0 with
    | some r => some r
    | none => findAskI P kt k ks 0
  | none => none

theorem findNowI_sem (d : TypeDesc) (k : Value) : ∀ (ks : List Value) (ns : List Nat) (vs : List Value) (i : Nat), ks.length = vs.length → ns.length = vs.length →
    Instr.findNow d k (entsOf ks ns vs) i = (findNowI d k ks i).map (fun r => r.bind fun j => (vs[j - i]?).map fun v => (j, v)) ∧ ∀ j, findNowI d k ks i = some (some j) → i ≤ j ∧ j < i + vs.length
  | [], [], [], _, _, _ => by simp [entsOf, Instr.findNow, findNowI]
  | k' :: ks, n :: ns, v :: vs, i, h1, h2 => by
    simp only [List.length_cons, Nat.add_right_cancel_iff] at h1 h2
    have ih := findNowI_sem d k ks ns vs (i + 1) h1 h2
    simp only [entsOf, Instr.findNow, findNowI]
    cases hs : Instr.sameNow d k k' with
    | none => simp
    | some b =>
      cases b with
      | true => simp
      | false =>
        simp only
        refine ⟨?_, fun j hj => by have := ih.2 j hj; simp only [List.length_cons]; omega⟩
        rw [ih.1]
        cases hf : findNowI d k ks (i + 1) with
        | none => rfl
        | some r =>
          cases r with
          | none => rfl
          | some j =>
            have := ih.2 j hf
            have e : j - i = (j - (i + 1)) + 1 := by omega
            simp [e]
  | [], _ :: _, [], _, _, h2 => by simp at h2
  | _ :: _, _, [], _, h1, _ => by simp at h1
  | [], _, _ :: _, _, h1, _ => by simp at h1
  | _ :: _, [], _ :: _, _, _, h2 => by simp at h2

theorem findAskI_sem (kt : TypeId) (k : Value) (w : World) : ∀ (ks : List Value) (ns : List Nat) (vs : List Value) (i : Nat) (r : Option Nat), ks.length = vs.length → ns.length = vs.length → findAskI P kt k ks i = some r →
    (Instr.findAsking kt k (entsOf ks ns vs) i).run P w = .ok (r.bind fun j => (vs[j - i]?).map fun v => (j, v)) w ∧ ∀ j, r = some j → i ≤ j ∧ j < i + vs.length
  | [], [], [], _, r, _, _, e => by simp only [findAskI, Option.some.injEq] at e; subst e; simp [entsOf, Instr.findAsking]
  | k' :: ks, n :: ns, v :: vs, i, r, h1, h2, e => by
    simp only [List.length_cons, Nat.add_right_cancel_iff] at h1 h2
    simp only [findAskI] at e
    simp only [entsOf, Instr.findAsking, Sem.run_bind]
    split at e
    · rename_i he
      cases e
      rw [runP_run _ _ he w]
      simp
    · rename_i he
      rw [runP_run _ _ he w]
      have ih := findAskI_sem kt k w ks ns vs (i + 1) r h1 h2 e
      simp only [Result.andThen_ok, Bool.false_eq_true, if_false]
      refine ⟨?_, fun j hj => by have := ih.2 j hj; simp only [List.length_cons]; omega⟩
      rw [ih.1]
      cases r with
      | none => rfl
      | some j =>
        have := ih.2 j rfl
        have e : j - i = (j - (i + 1)) + 1 := by omega
        simp [e]
    · cases e
  | [], _ :: _, [], _, _, _, h2, _ => by simp at h2
  | _ :: _, _, [], _, _, h1, _, _ => by simp at h1
  | [], _, _ :: _, _, _, h1, _, _ => by simp at h1
  | _ :: _, [], _ :: _, _, _, _, h2, _ => by simp at h2

theorem aFind_sem {kt : TypeId} {k : Value} {ks : List Value} {ns : List Nat} {vs : List Value} {r : Option Nat} (w : World) (h1 : ks.length = vs.length) (h2 : ns.length = vs.length) (e : aFind P kt k ks = some r) :
    (Instr.findKey kt k (entsOf ks ns vs)).run P w = .ok (r.bind fun j => (vs[j]?).map fun v => (j, v)) w ∧ ∀ j, r = some j → j < vs.length := by
  unfold aFind at e
  split at e
  case h_2 => cases e
  rename_i d hd
  have hn := findNowI_sem d k ks ns vs 0 h1 h2
  unfold Instr.findKey
  simp only [Sem.run_bind, run_underlying hd, Result.andThen_ok]
  split at e
  · rename_i r' hr
    cases e
    rw [hn.1, hr]
    refine ⟨by simp, fun j hj => by subst hj; have := hn.2 j hr; omega⟩
  · rename_i hr
    rw [hn.1, hr]
    have ha := findAskI_sem (P := P) kt k w ks ns vs 0 r h1 h2 e
    exact ⟨by simpa using ha.1, fun j hj => by have := ha.2 j hj; omega⟩

/-! ### the parts of a map -/
def mapOf (h : Hp) (x : Nat) : Option (Blk × List Value × List Nat × Nat) :=
  match h.get x with
  | some b => match b.lp with
    | some (.map ks ns ck) => match Nat.beq ks.length b.cells.length && Nat.beq ns.length b.cells.length with
      | true => some (b, ks, ns, ck)
      | false => none
    | _ => none
  | none => none
theorem mapOf_spec {x : Nat} {b : Blk} {ks : List Value} {ns : List Nat} {ck : Nat} (e : mapOf h x = some (b, ks, ns, ck)) : h.get x = some b ∧ b.lp = some (.map ks ns ck) ∧ ks.length = b.cells.length ∧ ns.length = b.cells.length := by
  unfold mapOf at e
  split at e
  case h_2 => cases e
  rename_i b' hb
  split at e
  case h_2 => cases e
  rename_i hl
  split at e
  case h_2 => cases e
  rename_i hc
  simp only [Bool.and_eq_true] at hc
  simp only [Option.some.injEq, Prod.mk.injEq] at e
  obtain ⟨rfl, rfl, rfl, rfl⟩ := e
  exact ⟨hb, hl, Nat.eq_of_beq_eq_true hc.1, Nat.eq_of_beq_eq_true hc.2⟩

theorem conc_zero {z : Value} (hf : ∀ v ∈ z.cells, flat v = true) : conc s z = z ∧ ∀ S, In S z := by
  cases z with
  | agg cs =>
    simp only [Value.cells] at hf
    simp only [conc, In]
    exact ⟨by rw [map_flat hf], fun S v hv => (conc_flat (s := s) (hf v hv)).2 S⟩
  | _ =>
    all_goals
      simp only [Value.cells, List.mem_toArray, List.mem_singleton, forall_eq] at hf
      exact conc_flat (by simpa using hf)

/-! ### make -/
def aMakeMap (h : Hp) : Option (Value × Hp) :=
  match h.new ⟨0, 0, true, [], some (.map [] [] 0)⟩ with
  | some h' => some (.map (some h.next), h')
  | none => none

theorem makeMap_sem {t : TypeId} {v : Value} {h' : Hp} (hp : Pre s h w) (e : aMakeMap h = some (v, h')) : ∃ s' w', (Instr.makeMap t none).run P w = .ok (conc s' v) w' ∧ Post s s' h h' w w' [] := by
  unfold aMakeMap at e
  split at e
  case h_2 => cases e
  rename_i h1 hn
  simp only [Option.some.injEq, Prod.mk.injEq] at e
  obtain ⟨rfl, rfl⟩ := e
  have p : Post s (s.with h.next w.heap.size 0) h h1 w (w.alloc (.map #[] 0)) [] := by
    refine Post.newG hp.sat hp.inj hp.hin hn (by simp) (fun hg => .inr ⟨_, rfl, ?_⟩) rfl rfl rfl rfl
    simp only [GoodL]
    rw [Val.with_blk]; exact hg
  refine ⟨_, _, ?_, p⟩
  simp [Instr.makeMap, conc, Val.with_blk]

/-! ### look up -/
def mapGot (ok there : Bool) (v : Value) : Value := match ok with
  | true => .tuple #[v, .bool there]
  | false => v
def aLookup (P : Program) (xt : TypeId) (xv k : Value) (ok : Bool) (h : Hp) : Option Value :=
  match P.underlying xt, pureV k, xv with
  | some (.map kt et), true, .map (some x) => match mapOf h x with
    | some (b, ks, _, _) => match runP P (Instr.checkKey b.cells.isEmpty 10000 kt k), aFind P kt k ks with
      | some (), some (some i) => match b.cells[i]? with
        | some v => some (mapGot ok true v)
        | none => none
      | some (), some none => match zeroOf P et with
        | some z => some (mapGot ok false z)
        | none => none
      | _, _ => none
    | none => none
  | _, _, _ => none

theorem conc_got {ok there : Bool} {v : Value} : conc s (mapGot ok there v) = mapGot ok there (conc s v) := by cases ok <;> simp [mapGot, conc]
theorem in_got {S : Nat → Prop} {ok there : Bool} {v : Value} (hv : In S v) : In S (mapGot ok there v) := by cases ok <;> simp [mapGot, In, hv]
theorem entsOf_empty (ks : List Value) (ns : List Nat) (vs : List Value) (h1 : ks.length = vs.length) (h2 : ns.length = vs.length) : (entsOf ks ns vs).toArray.isEmpty = vs.isEmpty := by
  have := entsOf_len ks ns vs h1 h2
  cases vs with
  | nil => have : entsOf ks ns [] = [] := List.eq_nil_of_length_eq_zero (by simpa using this)
           rw [this]; rfl
  | cons v vs =>
    match hh : entsOf ks ns (v :: vs) with
    | [] => rw [hh] at this; simp at this
    | _ :: _ => simp

theorem lookup_sem {xt : TypeId} {xv k u : Value} {ok : Bool} (hp : Pre s h w) (e : aLookup P xt xv k ok h = some u) : (Instr.lookup xt (conc s xv) (conc s k) ok).run P w = .ok (conc s u) w := by
  unfold aLookup at e
  split at e
  · rename_i kt et x hu hk
    split at e
    case h_2 => cases e
    rename_i b ks ns ck hm
    obtain ⟨m1, m2, m3, m4⟩ := mapOf_spec hm
    have hg := (hp.sat x b m1).l m2
    simp only [GoodL] at hg
    have l3 : ks.length = (b.cells.map (conc s)).length := by simpa using m3
    have l4 : ns.length = (b.cells.map (conc s)).length := by simpa using m4
    have hobj : (getObj (s.blk x)).run P w = .ok (.map (entsOf ks ns (b.cells.map (conc s))).toArray ck) w := by simp [getObj, Sem.run, hg]
    have hem : (entsOf ks ns (b.cells.map (conc s))).toArray.isEmpty = b.cells.isEmpty := by
      rw [entsOf_empty _ _ _ l3 l4]
      cases b.cells <;> rfl
    split at e
    · rename_i i hc hf
      split at e
      case h_2 => cases e
      rename_i v hv
      cases e
      have hck : (Instr.checkKey b.cells.isEmpty 10000 kt k).run P w = .ok () w := runP_run _ _ hc w
      obtain ⟨f1, f2⟩ := aFind_sem (ns := ns) (vs := b.cells.map (conc s)) w l3 l4 hf
      rw [(conc_pure hk).1, conc_got]
      simp only [Instr.lookup, Sem.run_bind, run_underlying hu, Result.andThen_ok, conc, hobj, Sem.run_pure, hem, hck, f1]
      simp [hv]
      cases ok <;> simp [mapGot]
    · rename_i hc hf
      split at e
      case h_2 => cases e
      rename_i z hz
      cases e
      obtain ⟨i, hi, hzi, hf0⟩ := zeroOf_spec hz
      have hck : (Instr.checkKey b.cells.isEmpty 10000 kt k).run P w = .ok () w := runP_run _ _ hc w
      obtain ⟨f1, f2⟩ := aFind_sem (ns := ns) (vs := b.cells.map (conc s)) w l3 l4 hf
      rw [(conc_pure hk).1, conc_got, (conc_zero hf0).1]
      simp only [Instr.lookup, Sem.run_bind, run_underlying hu, Result.andThen_ok, conc, hobj, Sem.run_pure, hem, hck, f1]
      simp [zeroValue, typeInfo, hi, hzi]
      cases ok <;> simp [mapGot]
    · cases e
  · cases e

theorem lookup_in {S : Nat → Prop} {xt : TypeId} {xv k u : Value} {ok : Bool} (hn : HIn S h) (e : aLookup P xt xv k ok h = some u) : In S u := by
  unfold aLookup at e
  split at e
  · split at e
    case h_2 => cases e
    rename_i b ks ns ck hm
    obtain ⟨m1, m2, m3, m4⟩ := mapOf_spec hm
    split at e
    · split at e
      case h_2 => cases e
      rename_i v hv
      cases e
      exact in_got ((hn _ b m1).2.2 v (List.mem_of_getElem? hv))
    · split at e
      case h_2 => cases e
      rename_i z hz
      cases e
      obtain ⟨i, hi, hzi, hf⟩ := zeroOf_spec hz
      exact in_got ((conc_zero (s := ⟨id, id⟩) hf).2 S)
    · cases e
  · cases e

/-! ### assign -/
def aMapUpdate (P : Program) (t : TypeId) (m k v : Value) (h : Hp) : Option (Hp × Nat) :=
  match P.underlying t, pureV k, m with
  | some (.map kt _), true, .map (some x) => match mapOf h x with
    | some (b, ks, ns, ck) => match runP P (Instr.checkKey false 10000 kt k), aFind P kt k ks with
      | some (), some (some i) => match ks[i]? with
        | some k0 => match Instr.sameBits 10000 k0 k with
          | true => match h.put x (some { b with cells := b.cells.set i v, lp := some (.map (ks.set i k) ns ck) }) with
            | some h' => some (h', x)
            | none => none
          | false => none
        | none => none
      | some (), some none => match h.put x (some { b with cells := b.cells ++ [v], lp := some (.map (ks ++ [k]) (ns ++ [ck]) (ck + 1)) }) with
        | some h' => some (h', x)
        | none => none
      | _, _ => none
    | none => none
  | _, _, _ => none

theorem mapUpdate_sem {t : TypeId} {m k v : Value} {h' : Hp} {x : Nat} (hp : Pre s h w) (e : aMapUpdate P t m k v h = some (h', x)) :
    ∃ w', (Instr.mapUpdate t (conc s m) (conc s k) (conc s v)).run P w = .ok () w' ∧ Post s s h h' w w' [x] := by
  unfold aMapUpdate at e
  split at e
  case h_2 => cases e
  rename_i kt et x0 hu hk
  split at e
  case h_2 => cases e
  rename_i b ks ns ck hm
  obtain ⟨m1, m2, m3, m4⟩ := mapOf_spec hm
  have hg := (hp.sat x0 b m1).l m2
  simp only [GoodL] at hg
  have l3 : ks.length = (b.cells.map (conc s)).length := by simpa using m3
  have l4 : ns.length = (b.cells.map (conc s)).length := by simpa using m4
  have hobj : (getObj (s.blk x0)).run P w = .ok (.map (entsOf ks ns (b.cells.map (conc s))).toArray ck) w := by simp [getObj, Sem.run, hg]
  have hset : ∀ o, (setObj (s.blk x0) o).run P w = .ok () { w with heap := w.heap.setIfInBounds (s.blk x0) o } := fun o => by simp [setObj, Sem.run, hg]
  split at e
  · rename_i i hc hf
    split at e
    case h_2 => cases e
    rename_i k0 hk0
    split at e
    case h_2 => cases e
    rename_i hsb
    split at e
    case h_2 => cases e
    rename_i h1 hput
    simp only [Option.some.injEq, Prod.mk.injEq] at e
    obtain ⟨rfl, rfl⟩ := e
    have hck : (Instr.checkKey false 10000 kt k).run P w = .ok () w := runP_run _ _ hc w
    obtain ⟨f1, f2⟩ := aFind_sem (ns := ns) (vs := b.cells.map (conc s)) w l3 l4 hf
    have hi := f2 i rfl
    obtain ⟨u, hu2⟩ : ∃ u, (b.cells.map (conc s))[i]? = some u := ⟨_, List.getElem?_eq_getElem hi⟩
    obtain ⟨k1, n1, a1, a2, a3⟩ := entsOf_at ks ns _ i u l3 l4 hu2
    rw [hk0] at a1; cases a1
    refine ⟨{ w with heap := w.heap.setIfInBounds (s.blk x0) (.map (entsOf (ks.set i k) ns ((b.cells.set i v).map (conc s))).toArray ck) }, ?_, Post.setG hp.sat hp.inj hp.hin m1 hput (fun hg' => .inr ⟨_, rfl, by simp only [GoodL]; exact hg'⟩) rfl rfl rfl rfl⟩
    rw [(conc_pure hk).1]
    simp only [Instr.mapUpdate, Sem.run_bind, run_underlying hu, Result.andThen_ok, conc, hobj, hck, f1]
    simp only [Option.bind_some, hu2, Option.map_some]
    have hst : (Instr.keyThatStays k0 k).run P w = .ok k w := by simp [Instr.keyThatStays, hsb]
    simp only [Sem.run_bind, List.getElem?_toArray, a3, Option.map_some, Option.getD_some, hst, Result.andThen_ok, hset]
    congr 2
    have := entsOf_set ks ns (b.cells.map (conc s)) i k (conc s v) l3 l4
    rw [List.map_set, ← this]
    rw [show ∀ (l : List MapEntry) (f : MapEntry → MapEntry), l.toArray.modify i f = (l.modify i f).toArray from fun l f => by apply Array.toList_inj.1; rw [Array.toList_modify]]
  · rename_i hc hf
    split at e
    case h_2 => cases e
    rename_i h1 hput
    simp only [Option.some.injEq, Prod.mk.injEq] at e
    obtain ⟨rfl, rfl⟩ := e
    have hck : (Instr.checkKey false 10000 kt k).run P w = .ok () w := runP_run _ _ hc w
    obtain ⟨f1, f2⟩ := aFind_sem (ns := ns) (vs := b.cells.map (conc s)) w l3 l4 hf
    refine ⟨{ w with heap := w.heap.setIfInBounds (s.blk x0) (.map (entsOf (ks ++ [k]) (ns ++ [ck]) ((b.cells ++ [v]).map (conc s))).toArray (ck + 1)) }, ?_, Post.setG hp.sat hp.inj hp.hin m1 hput (fun hg' => .inr ⟨_, rfl, by simp only [GoodL]; exact hg'⟩) rfl rfl rfl rfl⟩
    rw [(conc_pure hk).1]
    simp only [Instr.mapUpdate, Sem.run_bind, run_underlying hu, Result.andThen_ok, conc, hobj, hck, f1]
    simp only [Option.bind_none, hset]
    congr 2
    have := entsOf_push ks ns (b.cells.map (conc s)) k ck (conc s v) l3 l4
    rw [List.map_append, List.map_cons, List.map_nil, ← this]
    simp
  · cases e

theorem mapUpdate_in {S : Nat → Prop} {t : TypeId} {m k v : Value} {h' : Hp} {x : Nat} (hn : HIn S h) (hv : In S v) (e : aMapUpdate P t m k v h = some (h', x)) : HIn S h' ∧ h'.next = h.next := by
  have main : ∀ (x0 : Nat) (b b' : Blk) (h1 : Hp), h.get x0 = some b → h.put x0 (some b') = some h1 → (∀ u ∈ b'.cells, u ∈ b.cells ∨ u = v) → HIn S h1 ∧ h1.next = h.next := fun x0 b b' h1 hb hput hc => by
    have hh := hn x0 b hb
    exact put_in hn hput fun b2 hb2 => by
      cases hb2
      exact ⟨hh.1, hh.2.1, fun u hu => (hc u hu).elim (hh.2.2 u) (fun e => e ▸ hv)⟩
  unfold aMapUpdate at e
  split at e
  case h_2 => cases e
  split at e
  case h_2 => cases e
  rename_i b ks ns ck hm
  obtain ⟨m1, m2, m3, m4⟩ := mapOf_spec hm
  split at e
  · split at e
    case h_2 => cases e
    split at e
    case h_2 => cases e
    split at e
    case h_2 => cases e
    rename_i h1 hput
    simp only [Option.some.injEq, Prod.mk.injEq] at e
    obtain ⟨rfl, rfl⟩ := e
    exact main _ b _ h1 m1 hput fun u hu => (List.mem_or_eq_of_mem_set hu).imp id id
  · split at e
    case h_2 => cases e
    rename_i h1 hput
    simp only [Option.some.injEq, Prod.mk.injEq] at e
    obtain ⟨rfl, rfl⟩ := e
    exact main _ b _ h1 m1 hput fun u hu => by simpa using hu
  · cases e

theorem mapUpdate_old {t : TypeId} {m k v : Value} {h' : Hp} {x : Nat} (e : aMapUpdate P t m k v h = some (h', x)) : ∀ y, y ≠ x → h'.get y = h.get y := by
  unfold aMapUpdate at e
  split at e
  case h_2 => cases e
  split at e
  case h_2 => cases e
  split at e
  · split at e
    case h_2 => cases e
    split at e
    case h_2 => cases e
    split at e
    case h_2 => cases e
    rename_i h1 hput
    simp only [Option.some.injEq, Prod.mk.injEq] at e
    obtain ⟨rfl, rfl⟩ := e
    intro y hy
    rw [(Hp.put_spec hput).2, if_neg hy]
  · split at e
    case h_2 => cases e
    rename_i h1 hput
    simp only [Option.some.injEq, Prod.mk.injEq] at e
    obtain ⟨rfl, rfl⟩ := e
    intro y hy
    rw [(Hp.put_spec hput).2, if_neg hy]
  · cases e
end
end

section
/-! One operation, whatever it is. -/
abbrev Caller := Fn → List Value → Hp → Option Out
abbrev Ev := Operand → Option Value

def pureOp (P : Program) (ev : Ev) (o : Oper) : Option Value :=
  match o.op.operands.toList.all (fun x => match ev x with
    | some v => pureV v
    | none => false) with
  | true => match runP P (execOp (fun x => (ev x).getD undef) o) with
    | some (.value v) => match pureV v with
      | true => some v
      | false => none
    | _ => none
  | false => none

def evP (ev : Ev) : List (Nat × Operand) → Option (List (Nat × Value))
  | [] => some []
  | (i, x) :: r => match ev x, evP ev r with
    | some v, some l => some ((i, v) :: l)
    | _, _ => none
def evL (ev : Ev) : List Operand → Option (List Value)
  | [] => some []
  | x :: r => match ev x, evL ev r with
    | some v, some l => some (v :: l)
    | _, _ => none
def evO (ev : Ev) : Option Operand → Option (Option Value)
  | none => some none
  | some x => match ev x with
    | some v => some (some v)
    | none => none

def val1 (h : Hp) : Option Value → Option Out
  | some v => some ⟨v, h, []⟩
  | none => none
def val2 : Option (Value × Hp) → Option Out
  | some (v, h') => some ⟨v, h', []⟩
  | none => none

def opPickA (P : Program) (call : Caller) (ev : Ev) (o : Oper) (h : Hp) (c a b : Operand) : Option Out :=
  match ev c with
  | some (.bool true) => val1 h (ev a)
  | some (.bool false) => val1 h (ev b)
  | _ => none

def opAllocA (P : Program) (call : Caller) (ev : Ev) (o : Oper) (h : Hp) (e : TypeId) : Option Out :=
  match zeroOf P e with
  | some z => match aNew e 1 z.cells.toList h with
    | some (x, h') => some ⟨.pointer (some ⟨x, 0, none⟩), h', []⟩
    | none => none
  | none => none

def opBoxA (P : Program) (call : Caller) (ev : Ev) (o : Oper) (h : Hp) (e : TypeId) (x : Operand) : Option Out :=
  match ev x with
  | some v => match aNew e 1 v.cells.toList h with
    | some (x, h') => some ⟨.pointer (some ⟨x, 0, none⟩), h', []⟩
    | none => none
  | none => none

def opBuildA (P : Program) (call : Caller) (ev : Ev) (o : Oper) (h : Hp) (t : TypeId) (ps : Array (Nat × Operand)) : Option Out :=
  match evP ev ps.toList with
  | some vs => val1 h (aBuild P t vs)
  | none => none

def opBuildSliceA (P : Program) (call : Caller) (ev : Ev) (o : Oper) (h : Hp) (t : TypeId) (n : Nat) (ps : Array (Nat × Operand)) : Option Out :=
  match evP ev ps.toList with
  | some vs => val2 (aBuildSlice P t n vs h)
  | none => none

def opLoadA (P : Program) (call : Caller) (ev : Ev) (o : Oper) (h : Hp) (t : TypeId) (x : Operand) : Option Out :=
  match ev x with
  | some v => val1 h (aLoad P t v h)
  | none => none

def opStoreA (P : Program) (call : Caller) (ev : Ev) (o : Oper) (h : Hp) (t : TypeId) (x y : Operand) : Option Out :=
  match ev x, ev y with
  | some v, some u => match aStore P t v u h with
    | some (h', k) => some ⟨undef, h', [k]⟩
    | none => none
  | _, _ => none

def opNilCheckA (P : Program) (call : Caller) (ev : Ev) (o : Oper) (h : Hp) (x : Operand) : Option Out :=
  match ev x with
  | some (.pointer (some a)) => some ⟨.pointer (some a), h, []⟩
  | some (.func (.func f) a b) => some ⟨.func (.func f) a b, h, []⟩
  | some (.func (.yield f) a b) => some ⟨.func (.yield f) a b, h, []⟩
  | _ => none

def opBinOpA (P : Program) (call : Caller) (ev : Ev) (o : Oper) (h : Hp) (op : BinOp) (t : TypeId) (x y : Operand) : Option Out :=
  match pureOp P ev o with
  | some v => some ⟨v, h, []⟩
  | none => match (match op with
      | .eql => true
      | .neq => true
      | _ => false), ev x, ev y with
    | true, some u, some v => match aNilEq P t u v with
      | some b => some ⟨.bool (nilRes op b), h, []⟩
      | none => none
    | _, _, _ => none

def opMakeFuncA (P : Program) (call : Caller) (ev : Ev) (o : Oper) (h : Hp) (fn : Fn) (a b : Array Operand) : Option Out :=
  match fn, evL ev a.toList, evL ev b.toList with
  | .func f, some l, some m => some ⟨.func (.func f) ⟨l⟩ ⟨m⟩, h, []⟩
  | _, _, _ => none

def opMakeSliceA (P : Program) (call : Caller) (ev : Ev) (o : Oper) (h : Hp) (t : TypeId) (l c : Operand) : Option Out :=
  match ev l, ev c with
  | some l, some c => val2 (aMakeSlice P t l c h)
  | _, _ => none

def opSliceA (P : Program) (call : Caller) (ev : Ev) (o : Oper) (h : Hp) (t : TypeId) (x : Operand) (lo hi mx : Option Operand) : Option Out :=
  match ev x, evO ev lo, evO ev hi, evO ev mx with
  | some v, some lo, some hi, some mx => match aSlice P t v lo hi mx h with
    | some u => some ⟨u, h, []⟩
    | none => val1 h (pureOp P ev o)
  | _, _, _, _ => none

def opFieldAddrA (P : Program) (call : Caller) (ev : Ev) (o : Oper) (h : Hp) (t : TypeId) (x : Operand) (f : Nat) : Option Out :=
  match ev x with
  | some v => val1 h (aFieldAddr P t v f)
  | none => none

def opIndexAddrA (P : Program) (call : Caller) (ev : Ev) (o : Oper) (h : Hp) (t : TypeId) (x i : Operand) : Option Out :=
  match ev x, ev i with
  | some v, some i => val1 h (aIndexAddr P t v i)
  | _, _ => none

def opFieldA (P : Program) (call : Caller) (ev : Ev) (o : Oper) (h : Hp) (t : TypeId) (x : Operand) (f : Nat) : Option Out :=
  match ev x with
  | some v => val1 h (aField P t v f)
  | none => none

def opIndexA (P : Program) (call : Caller) (ev : Ev) (o : Oper) (h : Hp) (t : TypeId) (x i : Operand) : Option Out :=
  match pureOp P ev o with
  | some v => some ⟨v, h, []⟩
  | none => match ev x, ev i with
    | some v, some i => val1 h (aIndex P t v i)
    | _, _ => none

def opExtractA (P : Program) (call : Caller) (ev : Ev) (o : Oper) (h : Hp) (x : Operand) (i : Nat) : Option Out :=
  match ev x with
  | some v => val1 h (aExtract v i)
  | none => none

def opAppendA (P : Program) (call : Caller) (ev : Ev) (o : Oper) (h : Hp) (c : Call) : Option Out :=
  match c.args.toList, c.argTypes.toList with
  | [x, y], [t, u] => match ev x, ev y with
    | some v, some w => aAppend P t u v w h
    | _, _ => none
  | _, _ => none

def opCopyA (P : Program) (call : Caller) (ev : Ev) (o : Oper) (h : Hp) (c : Call) : Option Out :=
  match c.args.toList, c.argTypes.toList with
  | [x, y], [t, u] => match ev x, ev y with
    | some v, some w => match aCopy P t u v w h with
      | some out => some out
      | none => val1 h (pureOp P ev o)
    | _, _ => none
  | _, _ => none

def opLenA (P : Program) (call : Caller) (ev : Ev) (o : Oper) (h : Hp) (c : Call) : Option Out :=
  match c.args.toList, c.argTypes.toList with
  | [x], [t] => match ev x, P.underlying t with
    | some (.slice _ n _), some (.slice _) => some ⟨.int .i64 n, h, []⟩
    | _, _ => val1 h (pureOp P ev o)
  | _, _ => none

def opValueA (P : Program) (call : Caller) (ev : Ev) (o : Oper) (h : Hp) (c : Call) (f : Operand) : Option Out :=
  match ev f, evL ev c.args.toList with
  | some (.func fn a b), some l => match fn with
    | .func f => match (P.funcs[f]?).bind (·.body) with
      | some _ => call (.func f) (a.toList ++ l ++ b.toList) h
      | none => none
    | .yield x => match b.toList with
      | [] => call (.yield x) (a.toList ++ l) h
      | _ => none
    | _ => none
  | _, _ => none

def opCallA (P : Program) (call : Caller) (ev : Ev) (o : Oper) (h : Hp) (c : Call) : Option Out :=
  match c.callee with
  | .builtin .append => opAppendA P call ev o h c
  | .builtin .copy => opCopyA P call ev o h c
  | .builtin .len => opLenA P call ev o h c
  | .builtin _ => val1 h (pureOp P ev o)
  | .value f => opValueA P call ev o h c f
  | .invoke _ _ => none

def opMakeMapA (P : Program) (call : Caller) (ev : Ev) (o : Oper) (h : Hp) (r : Option Operand) : Option Out :=
  match r with
  | none => val2 (aMakeMap h)
  | some _ => none
def opLookupA (P : Program) (call : Caller) (ev : Ev) (o : Oper) (h : Hp) (t : TypeId) (x k : Operand) (ok : Bool) : Option Out :=
  match ev x, ev k with
  | some v, some u => val1 h (aLookup P t v u ok h)
  | _, _ => none
def opMapUpdateA (P : Program) (call : Caller) (ev : Ev) (o : Oper) (h : Hp) (t : TypeId) (m k x : Operand) : Option Out :=
  match ev m, ev k, ev x with
  | some v, some u, some y => match aMapUpdate P t v u y h with
    | some (h', z) => some ⟨undef, h', [z]⟩
    | none => none
  | _, _, _ => none

/-- bytes in memory as numbers -/
def numsOf : List Value → Option (List Int)
  | [] => some []
  | v :: r => match v, numsOf r with
    | .int .u8 n, some l => some (n :: l)
    | _, _ => none
/-- a string made of bytes -/
def aBytesStr (P : Program) (src dst : TypeId) (v : Value) (h : Hp) : Option Value :=
  match P.underlying src, P.underlying dst with
  | some (.slice e), some .string => match P.underlying e, v with
    | some (.int .u8), .slice (some ⟨x, off, none⟩) len _ => match h.getC x with
      | some b => match Nat.ble (off + len) b.cells.length, numsOf ((b.cells.drop off).take len) with
        | true, some ns => some (.string (ns.foldl (fun r n => r.push (UInt8.ofNat n.toNat)) ByteArray.empty))
        | _, _ => none
      | none => none
    | _, _ => none
  | _, _ => none
def opConvertA (P : Program) (call : Caller) (ev : Ev) (o : Oper) (h : Hp) (s d : TypeId) (x : Operand) : Option Out :=
  match pureOp P ev o with
  | some v => some ⟨v, h, []⟩
  | none => match ev x with
    | some v => val1 h (aBytesStr P s d v h)
    | none => none

def opA (P : Program) (call : Caller) (ev : Ev) (o : Oper) (h : Hp) : Option Out :=
  match o.op with
  | .move x => val1 h (ev x)
  | .assign x => val1 h (ev x)
  | .pick c a b => opPickA P call ev o h c a b
  | .alloc e => opAllocA P call ev o h e
  | .box e x => opBoxA P call ev o h e x
  | .build t ps => opBuildA P call ev o h t ps
  | .buildSlice t n ps => opBuildSliceA P call ev o h t n ps
  | .load t x => opLoadA P call ev o h t x
  | .store t x y => opStoreA P call ev o h t x y
  | .nilCheck x => opNilCheckA P call ev o h x
  | .binOp op t x y _ => opBinOpA P call ev o h op t x y
  | .makeFunc fn a b => opMakeFuncA P call ev o h fn a b
  | .makeSlice t l c => opMakeSliceA P call ev o h t l c
  | .slice t x lo hi mx => opSliceA P call ev o h t x lo hi mx
  | .fieldAddr t x f => opFieldAddrA P call ev o h t x f
  | .indexAddr t x i => opIndexAddrA P call ev o h t x i
  | .field t x f => opFieldA P call ev o h t x f
  | .index t x i => opIndexA P call ev o h t x i
  | .extract x i => opExtractA P call ev o h x i
  | .makeMap _ r => opMakeMapA P call ev o h r
  | .lookup t x k ok => opLookupA P call ev o h t x k ok
  | .mapUpdate t m k x => opMapUpdateA P call ev o h t m k x
  | .insert t m k x => opMapUpdateA P call ev o h t m k x
  | .unOp _ _ _ => val1 h (pureOp P ev o)
  | .convert s d x => opConvertA P call ev o h s d x
  | .call c => opCallA P call ev o h c
  | _ => none


/-- the machines that are spoken of: all of them; the frame is a function's, or a round's -/
def fence (ro : Option Nat) : Fence := { Fence.wide with round := ro }
/-- a function's call, or a round -/
def CallAt (P : Program) (s : Val) (fn : Fn) (args : Array Value) (w : World) (R : Ending → World → Prop) : Prop :=
  match fn with
  | .func f => CallsIn Fence.wide 0 P f args w R
  | .yield x => ∃ f tmps assign body, (Instr.yield (s.blk x) args).run P w = .ok (.round (s.blk x) f tmps assign body) w ∧ RoundIn Fence.wide 0 P (s.blk x) f tmps assign body w R
  | _ => False
def FnIn (S : Nat → Prop) (fn : Fn) : Prop := ∀ l, fn = .yield l → S l
def CallSem (P : Program) (call : Caller) : Prop := ∀ f args h out, call f args h = some out → ∀ s w, Pre s h w → FnIn (· < h.next) f → (∀ v ∈ args, In (· < h.next) v) →
  CallAt P s f (args.map (conc s)).toArray w fun e w' => ∃ s', e = .returned (conc s' out.v) ∧ Post s s' h out.hp w w' out.wr
def CallIn (call : Caller) : Prop := ∀ f args h out, call f args h = some out → ∀ S, HIn S h → FnIn S f → (∀ v ∈ args, In S v) → (∀ y, h.next ≤ y → y < out.hp.next → S y) →
  HIn S out.hp ∧ In S out.v ∧ h.next ≤ out.hp.next
/-- no function of the program stands for the machine's own count -/
def NoNum (P : Program) : Prop := ∀ (f : Nat) (fn : Func), P.funcs[f]? = some fn → (fn.name == "runtime.NumGoroutine") = false

section
variable {P : Program} {s : Val} {h : Hp} {w : World}

theorem pureOp_sem {ev : Ev} {o : Oper} {v : Value} {ρ : Operand → Value} (hsel : ∀ cs b, o.op ≠ .select cs b) (hev : ∀ x ∈ o.op.operands, ∀ v, ev x = some v → ρ x = conc s v ∧ In (· < h.next) v) (e : pureOp P ev o = some v) :
    (execOp ρ o).run P w = .ok (.value (conc s v)) w := by
  unfold pureOp at e
  split at e
  case h_2 => cases e
  rename_i hall
  split at e
  case h_2 => cases e
  rename_i u hr
  split at e
  case h_2 => cases e
  rename_i hp
  cases e
  rw [(conc_pure hp).1]
  have hc : execOp ρ o = execOp (fun x => (ev x).getD undef) o := execOp_congr o hsel fun x hx => by
    have hx' := List.all_eq_true.1 hall x (by simpa using hx)
    cases hv : ev x with
    | none => simp [hv] at hx'
    | some v => simp only [hv] at hx'; rw [(hev x hx v hv).1, (conc_pure hx').1]; rfl
  rw [hc]
  exact runP_run _ _ hr w

theorem pureOp_in {S : Nat → Prop} {ev : Ev} {o : Oper} {v : Value} (e : pureOp P ev o = some v) : In S v := by
  unfold pureOp at e
  split at e
  case h_2 => cases e
  split at e
  case h_2 => cases e
  split at e
  case h_2 => cases e
  rename_i hp
  cases e
  exact (conc_pure (s := ⟨id, id⟩) hp).2 S

theorem evP_sem {ev : Ev} {ρ : Operand → Value} : ∀ {ps : List (Nat × Operand)} {vs : List (Nat × Value)}, (∀ p ∈ ps, ∀ v, ev p.2 = some v → ρ p.2 = conc s v ∧ In (· < h.next) v) → evP ev ps = some vs →
    ps.map (fun (i, x) => (i, ρ x)) = vs.map (fun p => (p.1, conc s p.2)) ∧ ∀ p ∈ vs, In (· < h.next) p.2 := by
  intro ps
  induction ps with
  | nil => intro vs _ e; simp only [evP, Option.some.injEq] at e; subst e; simp
  | cons p ps ih =>
    intro vs hp e
    obtain ⟨i, x⟩ := p
    simp only [evP] at e
    split at e
    · rename_i v l hv hl
      cases e
      obtain ⟨h1, h2⟩ := ih (fun p hp' => hp p (by simp [hp'])) hl
      obtain ⟨g1, g2⟩ := hp (i, x) (by simp) v hv
      refine ⟨by simp only [List.map_cons, h1]; rw [g1], fun q hq => ?_⟩
      rcases List.mem_cons.1 hq with rfl | hq
      · exact g2
      · exact h2 q hq
    · cases e
theorem evP_in {S : Nat → Prop} {ev : Ev} : ∀ {ps : List (Nat × Operand)} {vs : List (Nat × Value)}, (∀ p ∈ ps, ∀ v, ev p.2 = some v → In S v) → evP ev ps = some vs → ∀ p ∈ vs, In S p.2 := by
  intro ps
  induction ps with
  | nil => intro vs _ e; simp only [evP, Option.some.injEq] at e; subst e; simp
  | cons p ps ih =>
    intro vs hp e
    obtain ⟨i, x⟩ := p
    simp only [evP] at e
    split at e
    · rename_i v l hv hl
      cases e
      have h2 := ih (fun p hp' => hp p (by simp [hp'])) hl
      intro q hq
      rcases List.mem_cons.1 hq with rfl | hq
      · exact hp (i, x) (by simp) v hv
      · exact h2 q hq
    · cases e
theorem evL_sem {ev : Ev} {ρ : Operand → Value} : ∀ {ps : List Operand} {vs : List Value}, (∀ p ∈ ps, ∀ v, ev p = some v → ρ p = conc s v ∧ In (· < h.next) v) → evL ev ps = some vs →
    ps.map ρ = vs.map (conc s) ∧ ∀ p ∈ vs, In (· < h.next) p := by
  intro ps
  induction ps with
  | nil => intro vs _ e; simp only [evL, Option.some.injEq] at e; subst e; simp
  | cons x ps ih =>
    intro vs hp e
    simp only [evL] at e
    split at e
    · rename_i v l hv hl
      cases e
      obtain ⟨h1, h2⟩ := ih (fun p hp' => hp p (by simp [hp'])) hl
      obtain ⟨g1, g2⟩ := hp x (by simp) v hv
      refine ⟨by simp only [List.map_cons, h1]; rw [g1], fun q hq => ?_⟩
      rcases List.mem_cons.1 hq with rfl | hq
      · exact g2
      · exact h2 q hq
    · cases e
theorem evL_in {S : Nat → Prop} {ev : Ev} : ∀ {ps : List Operand} {vs : List Value}, (∀ p ∈ ps, ∀ v, ev p = some v → In S v) → evL ev ps = some vs → ∀ p ∈ vs, In S p := by
  intro ps
  induction ps with
  | nil => intro vs _ e; simp only [evL, Option.some.injEq] at e; subst e; simp
  | cons x ps ih =>
    intro vs hp e
    simp only [evL] at e
    split at e
    · rename_i v l hv hl
      cases e
      have h2 := ih (fun p hp' => hp p (by simp [hp'])) hl
      intro q hq
      rcases List.mem_cons.1 hq with rfl | hq
      · exact hp x (by simp) _ hv
      · exact h2 q hq
    · cases e
theorem evO_sem {ev : Ev} {ρ : Operand → Value} {x : Option Operand} {v : Option Value} (hx : ∀ p ∈ x.toList, ∀ v, ev p = some v → ρ p = conc s v ∧ In (· < h.next) v) (e : evO ev x = some v) : x.map ρ = v.map (conc s) := by
  unfold evO at e
  split at e
  · cases e; rfl
  · rename_i y
    split at e
    · rename_i u hu; cases e; simp [(hx y (by simp) u hu).1]
    · cases e

/-- what is asked of an operation that is no defer statement -/
def Oper.wpX (ro : Option Nat) (P : Program) (o : Oper) (a : Act) (w : World) (next : Act → World → Prop) (Q : Exit → Act → World → Prop) : Prop := o.uponIn (fence ro) 0 P a next Q ((execOp a.eval o).run P w)
theorem wpX_in {ro : Option Nat} {o : Oper} {a : Act} {next : Act → World → Prop} {Q : Exit → Act → World → Prop} (hd : ∀ c, o.op ≠ .defer c) (h : Oper.wpX ro P o a w next Q) : o.wpIn (fence ro) 0 P a w next Q :=
  ⟨fun _ _ => trivial, by rw [Oper.semAt_eq _ _ _ hd]; exact h⟩
theorem wp_val {ro : Option Nat} {o : Oper} {a : Act} {v : Value} {w' : World} {next : Act → World → Prop} {Q : Exit → Act → World → Prop} (hr : (execOp a.eval o).run P w = .ok (.value v) w') (hn : next (a.put o.dst v) w') : Oper.wpX ro P o a w next Q := by
  unfold Oper.wpX; rw [hr]; exact hn

theorem val1_some {o : Option Value} {out : Out} (e : val1 h o = some out) : ∃ v, o = some v ∧ out = ⟨v, h, []⟩ := by
  unfold val1 at e
  split at e
  · cases e; exact ⟨_, rfl, rfl⟩
  · cases e
theorem val2_some {o : Option (Value × Hp)} {out : Out} (e : val2 o = some out) : ∃ v h', o = some (v, h') ∧ out = ⟨v, h', []⟩ := by
  unfold val2 at e
  split at e
  · cases e; exact ⟨_, _, rfl, rfl⟩
  · cases e

theorem numsOf_spec : ∀ {l : List Value} {ns : List Int}, numsOf l = some ns → l = ns.map (Value.int .u8) := by
  intro l
  induction l with
  | nil => intro ns e; simp only [numsOf, Option.some.injEq] at e; subst e; rfl
  | cons v l ih =>
    intro ns e
    simp only [numsOf] at e
    split at e
    · rename_i n l' hl
      cases e
      rw [ih hl]; rfl
    · cases e
theorem bytesStr_sem {src dst : TypeId} {v u : Value} (hp : Pre s h w) (e : aBytesStr P src dst v h = some u) : (convert src dst (conc s v)).run P w = .ok (conc s u) w := by
  unfold aBytesStr at e
  split at e
  case h_2 => cases e
  rename_i el hs hd
  split at e
  case h_2 => cases e
  rename_i x off len c he
  split at e
  case h_2 => cases e
  rename_i b hb
  split at e
  case h_2 => cases e
  rename_i ns hle hns
  cases e
  have hle' := Nat.le_of_ble_eq_true hle
  have hg := hp.sat.c hb
  have hn := numsOf_spec hns
  have hlen : len = ns.length := by
    have := congrArg List.length hn
    simp only [List.length_take, List.length_drop, List.length_map] at this
    omega
  have hl : (loadCells ⟨s.blk x, off, none⟩ (ns.map (Value.int .u8)).length).run P w = .ok (ns.map (Value.int .u8)).toArray w :=
    run_loadCells_list w _ _ fun j v hv => by
      rw [add_lit]
      have hv' := hv
      rw [← hn, List.getElem?_take] at hv'
      split at hv'
      · rw [List.getElem?_drop] at hv'
        rw [hg.cell hv']
        rw [List.getElem?_map, Option.map_eq_some_iff] at hv
        obtain ⟨n, -, rfl⟩ := hv
        simp [conc]
      · cases hv'
  rw [List.length_map, ← hlen] at hl
  simp only [conc, concA]
  rw [run_convert_bytes_string w src dst el _ len _ hs he hd]
  exact run_bytesToString w _ len _ ns hl
theorem bytesStr_in {S : Nat → Prop} {src dst : TypeId} {v u : Value} (e : aBytesStr P src dst v h = some u) : In S u := by
  unfold aBytesStr at e
  split at e
  case h_2 => cases e
  split at e
  case h_2 => cases e
  split at e
  case h_2 => cases e
  split at e
  case h_2 => cases e
  cases e
  simp [In]

/-- **What an operation is said to do, the machine does.** -/
theorem op_semX {ro : Option Nat} {call : Caller} (hcall : CallSem P call) (hnum : NoNum P) {ev : Ev} {o : Oper} {out : Out} {a : Act} {next : Act → World → Prop} {Q : Exit → Act → World → Prop}
    (hp : Pre s h w) (hev : ∀ x ∈ o.op.operands, ∀ v, ev x = some v → a.eval x = conc s v ∧ In (· < h.next) v) (e : opA P call ev o h = some out)
    (K : ∀ s' w', Post s s' h out.hp w w' out.wr → next (a.put o.dst (conc s' out.v)) w') : Oper.wpX ro P o a w next Q := by
  have hrefl := Post.refl hp.sat hp.inj hp.hin
  have pu : ∀ v, (∀ cs b, o.op ≠ .select cs b) → pureOp P ev o = some v → out = ⟨v, h, []⟩ → Oper.wpX ro P o a w next Q := fun v hsel e1 e2 => by
    subst e2; exact wp_val (pureOp_sem hsel hev e1) (K s w hrefl)
  unfold opA at e
  cases hop : o.op <;> simp only [hop, opMakeMapA, opLookupA, opMapUpdateA, opPickA, opAllocA, opBoxA, opBuildA, opBuildSliceA, opLoadA, opStoreA, opNilCheckA, opBinOpA, opMakeFuncA, opMakeSliceA, opSliceA, opFieldAddrA, opIndexAddrA, opFieldA, opIndexA, opExtractA, opCallA, opAppendA, opCopyA, opLenA, opValueA, opConvertA] at e
  all_goals try (cases e; done)
  case move x =>
    obtain ⟨v, hv, rfl⟩ := val1_some e
    have hx := (hev x (by simp [hop, Op.operands]) v hv).1
    exact wp_val (v := conc s v) (w' := w) (by simp [execOp, hop, hx]) (K s w hrefl)
  case assign x =>
    obtain ⟨v, hv, rfl⟩ := val1_some e
    have hx := (hev x (by simp [hop, Op.operands]) v hv).1
    exact wp_val (v := conc s v) (w' := w) (by simp [execOp, hop, hx]) (K s w hrefl)
  case pick c x y =>
    split at e
    · rename_i hc
      obtain ⟨v, hv, rfl⟩ := val1_some e
      have h1 := (hev c (by simp [hop, Op.operands]) _ hc).1
      have h2 := (hev x (by simp [hop, Op.operands]) _ hv).1
      exact wp_val (v := conc s v) (w' := w) (by simp [execOp, hop, h1, h2, conc, asBool]) (K s w hrefl)
    · rename_i hc
      obtain ⟨v, hv, rfl⟩ := val1_some e
      have h1 := (hev c (by simp [hop, Op.operands]) _ hc).1
      have h2 := (hev y (by simp [hop, Op.operands]) _ hv).1
      exact wp_val (v := conc s v) (w' := w) (by simp [execOp, hop, h1, h2, conc, asBool]) (K s w hrefl)
    · cases e
  case alloc el =>
    split at e
    case h_2 => cases e
    rename_i z hz
    split at e
    case h_2 => cases e
    rename_i x h' hn
    cases e
    obtain ⟨i, hi, hzi, hf⟩ := zeroOf_spec hz
    obtain ⟨s', hpost, hblk⟩ := new_sem hp (fun v hv => (conc_flat (s := s) (hf v (by simpa using hv))).2 _) hn
    have : (z.cells.toList.map (conc s)).toArray = z.cells := by rw [← Array.toList_map, map_flat hf]
    rw [this] at hpost
    refine wp_val (v := conc s' (.pointer (some ⟨x, 0, none⟩))) ?_ (K s' _ hpost)
    simp [execOp, hop, Instr.alloc, zeroValue, typeInfo, hi, hzi, newVar, newRow, conc, concA, hblk]
  case box el x =>
    split at e
    case h_2 => cases e
    rename_i v hv
    split at e
    case h_2 => cases e
    rename_i y h' hn
    cases e
    obtain ⟨hx, hin⟩ := hev x (by simp [hop, Op.operands]) v hv
    obtain ⟨s', hpost, hblk⟩ := new_sem hp (fun u hu => in_cells hin u hu) hn
    have : (v.cells.toList.map (conc s)).toArray = (conc s v).cells := by rw [cells_conc, ← Array.toList_map]
    rw [this] at hpost
    refine wp_val (v := conc s' (.pointer (some ⟨y, 0, none⟩))) ?_ (K s' _ hpost)
    simp [execOp, hop, Instr.box, newVar, newRow, conc, concA, hblk, hx]
  case build t ps =>
    split at e
    case h_2 => cases e
    rename_i vs hvs
    obtain ⟨v, hv, rfl⟩ := val1_some e
    obtain ⟨h1, h2⟩ := evP_sem (s := s) (h := h) (ρ := a.eval) (fun p hp' v hv => hev p.2 (by simp only [hop, Op.operands]; simp; exact ⟨p.1, by simpa using hp'⟩) v hv) hvs
    have h3 : (ps.map fun p => (p.1, a.eval p.2)) = vs.toArray.map fun p => (p.1, conc s p.2) := by apply Array.ext'; simpa using h1
    refine wp_val (v := conc s v) (w' := w) ?_ (K s w hrefl)
    have := build_sem (s := s) (w := w) (parts := vs.toArray) (by simpa using hv)
    simp only [execOp, hop, h3, Sem.run_bind, this, Result.andThen_ok]
    rfl
  case buildSlice t n ps =>
    split at e
    case h_2 => cases e
    rename_i vs hvs
    obtain ⟨v, h', hv, rfl⟩ := val2_some e
    obtain ⟨h1, h2⟩ := evP_sem (s := s) (h := h) (ρ := a.eval) (fun p hp' v hv => hev p.2 (by simp only [hop, Op.operands]; simp; exact ⟨p.1, by simpa using hp'⟩) v hv) hvs
    have h3 : (ps.map fun p => (p.1, a.eval p.2)) = vs.toArray.map fun p => (p.1, conc s p.2) := by apply Array.ext'; simpa using h1
    obtain ⟨s', w', hr, hpost⟩ := buildSlice_sem (parts := vs.toArray) hp (by simpa using h2) (by simpa using hv)
    refine wp_val (v := conc s' v) (w' := w') ?_ (K s' w' hpost)
    simp only [execOp, hop, h3, Sem.run_bind, hr, Result.andThen_ok]
    rfl
  case load t x =>
    split at e
    case h_2 => cases e
    rename_i v hv
    obtain ⟨u, hu, rfl⟩ := val1_some e
    have hx := (hev x (by simp [hop, Op.operands]) v hv).1
    obtain ⟨ad, ha, hr⟩ := load_sem hp hu
    refine wp_val (v := conc s u) (w' := w) ?_ (K s w hrefl)
    simp [execOp, hop, hx, Instr.loadAt, ha, Instr.sureAddr, hr]
  case store t x y =>
    split at e
    case h_2 => cases e
    rename_i v u hv hu
    split at e
    case h_2 => cases e
    rename_i h' k hst
    cases e
    have hx := (hev x (by simp [hop, Op.operands]) v hv).1
    have hy := (hev y (by simp [hop, Op.operands]) u hu).1
    obtain ⟨w', ad, ha, hr, hpost⟩ := store_sem hp hst
    have hk := K s w' hpost
    have hrun : (execOp a.eval o).run P w = .ok .skip w' := by simp [execOp, hop, hx, hy, Instr.storeAt, ha, Instr.sureAddr, hr]
    have hun : conc s undef = undef := by simp [undef, conc]
    rw [hun] at hk
    unfold Oper.wpX; rw [hrun]; exact hk
  case nilCheck x =>
    split at e
    · rename_i ad hv
      cases e
      have hx := (hev x (by simp [hop, Op.operands]) _ hv).1
      exact wp_val (v := conc s (.pointer (some ad))) (w' := w) (by simp [execOp, hop, hx, conc]) (K s w hrefl)
    · rename_i f l m hv
      cases e
      have hx := (hev x (by simp [hop, Op.operands]) _ hv).1
      exact wp_val (v := conc s (.func (.func f) l m)) (w' := w) (by simp [execOp, hop, hx, conc, concFn]) (K s w hrefl)
    · rename_i f l m hv
      cases e
      have hx := (hev x (by simp [hop, Op.operands]) _ hv).1
      exact wp_val (v := conc s (.func (.yield f) l m)) (w' := w) (by simp [execOp, hop, hx, conc, concFn]) (K s w hrefl)
    · cases e
  case binOp op t x y yt =>
    split at e
    · rename_i v hv
      exact pu v (by intro cs b; rw [hop]; simp) hv (by cases e; rfl)
    · split at e
      case h_2 => cases e
      rename_i u v hpo hu hv
      split at e
      case h_2 => cases e
      rename_i b hb
      cases e
      have hx := (hev x (by simp [hop, Op.operands]) u hu).1
      have hy := (hev y (by simp [hop, Op.operands]) v hv).1
      have hor : op = .eql ∨ op = .neq := by cases op <;> simp at hpo <;> simp
      have := nilEq_sem (s := s) (w := w) hb x y op hor
      refine wp_val (v := conc s (.bool (nilRes op b))) (w' := w) ?_ (K s w hrefl)
      simp only [execOp, hop, hx, hy, conc]
      rw [Sem.run_bind, this]
      simp
  case makeFunc fn l m =>
    split at e
    case h_2 => cases e
    rename_i f l' m' hl hm
    cases e
    obtain ⟨h1, _⟩ := evL_sem (s := s) (h := h) (ρ := a.eval) (fun p hp' v hv => hev p (by simp only [hop, Op.operands]; simp; exact .inl (by simpa using hp')) v hv) hl
    obtain ⟨h2, _⟩ := evL_sem (s := s) (h := h) (ρ := a.eval) (fun p hp' v hv => hev p (by simp only [hop, Op.operands]; simp; exact .inr (by simpa using hp')) v hv) hm
    have e1 : l.map a.eval = l'.toArray.map (conc s) := by apply Array.ext'; simpa using h1
    have e2 : m.map a.eval = m'.toArray.map (conc s) := by apply Array.ext'; simpa using h2
    refine wp_val (v := conc s (.func (.func f) ⟨l'⟩ ⟨m'⟩)) (w' := w) ?_ (K s w hrefl)
    simp [execOp, hop, Instr.makeFunc, e1, e2, conc, concFn]
  case makeSlice t l c =>
    split at e
    case h_2 => cases e
    rename_i l' c' hl hc
    obtain ⟨v, h', hv, rfl⟩ := val2_some e
    have hx := (hev l (by simp [hop, Op.operands]) _ hl).1
    have hy := (hev c (by simp [hop, Op.operands]) _ hc).1
    obtain ⟨s', w', hr, hpost⟩ := makeSlice_sem hp hv
    refine wp_val (v := conc s' v) (w' := w') ?_ (K s' w' hpost)
    simp [execOp, hop, hx, hy, hr]
  case slice t x lo hi mx =>
    split at e
    case h_2 => cases e
    rename_i v lo' hi' mx' hv hlo hhi hmx
    split at e
    · rename_i u hu
      cases e
      have hx := (hev x (by simp [hop, Op.operands]) _ hv).1
      have h1 := evO_sem (s := s) (h := h) (ρ := a.eval) (x := lo) (fun p hp' v hv => hev p (by cases lo <;> simp at hp'; subst hp'; simp [hop, Op.operands]) v hv) hlo
      have h2 := evO_sem (s := s) (h := h) (ρ := a.eval) (x := hi) (fun p hp' v hv => hev p (by cases hi <;> simp at hp'; subst hp'; simp [hop, Op.operands]) v hv) hhi
      have h3 := evO_sem (s := s) (h := h) (ρ := a.eval) (x := mx) (fun p hp' v hv => hev p (by cases mx <;> simp at hp'; subst hp'; simp [hop, Op.operands]) v hv) hmx
      have := slice_sem hp hu
      refine wp_val (v := conc s u) (w' := w) ?_ (K s w hrefl)
      simp [execOp, hop, hx, h1, h2, h3, this]
    · obtain ⟨v, hv, rfl⟩ := val1_some e
      exact pu v (by intro cs b; rw [hop]; simp) hv rfl
  case fieldAddr t x f =>
    split at e
    case h_2 => cases e
    rename_i v hv
    obtain ⟨u, hu, rfl⟩ := val1_some e
    have hx := (hev x (by simp [hop, Op.operands]) v hv).1
    have := fieldAddr_sem (s := s) (w := w) hu
    exact wp_val (v := conc s u) (w' := w) (by simp [execOp, hop, hx, this]) (K s w hrefl)
  case indexAddr t x i =>
    split at e
    case h_2 => cases e
    rename_i v i' hv hi
    obtain ⟨u, hu, rfl⟩ := val1_some e
    have hx := (hev x (by simp [hop, Op.operands]) v hv).1
    have hy := (hev i (by simp [hop, Op.operands]) _ hi).1
    have := indexAddr_sem (s := s) (w := w) hu
    exact wp_val (v := conc s u) (w' := w) (by simp [execOp, hop, hx, hy, this]) (K s w hrefl)
  case field t x f =>
    split at e
    case h_2 => cases e
    rename_i v hv
    obtain ⟨u, hu, rfl⟩ := val1_some e
    have hx := (hev x (by simp [hop, Op.operands]) v hv).1
    have := field_sem (s := s) (w := w) hu
    exact wp_val (v := conc s u) (w' := w) (by simp [execOp, hop, hx, this]) (K s w hrefl)
  case index t x i =>
    split at e
    · rename_i v hv
      exact pu v (by intro cs b; rw [hop]; simp) hv (by cases e; rfl)
    · split at e
      case h_2 => cases e
      rename_i v i' hv hi
      obtain ⟨u, hu, rfl⟩ := val1_some e
      have hx := (hev x (by simp [hop, Op.operands]) v hv).1
      have hy := (hev i (by simp [hop, Op.operands]) _ hi).1
      have := index_sem (s := s) (w := w) hu
      exact wp_val (v := conc s u) (w' := w) (by simp [execOp, hop, hx, hy, this]) (K s w hrefl)
  case extract x i =>
    split at e
    case h_2 => cases e
    rename_i v hv
    obtain ⟨u, hu, rfl⟩ := val1_some e
    have hx := (hev x (by simp [hop, Op.operands]) v hv).1
    have := extract_sem (P := P) (s := s) (w := w) hu
    exact wp_val (v := conc s u) (w' := w) (by simp [execOp, hop, hx, this]) (K s w hrefl)
  case makeMap t r =>
    split at e
    · obtain ⟨v, h', hv, rfl⟩ := val2_some e
      obtain ⟨s', w', hr, hpost⟩ := makeMap_sem (t := t) (P := P) hp hv
      refine wp_val (v := conc s' v) (w' := w') ?_ (K s' w' hpost)
      simp [execOp, hop, hr]
    · cases e
  case lookup t x k ok =>
    split at e
    case h_2 => cases e
    rename_i v u hv hu
    obtain ⟨y, hy, rfl⟩ := val1_some e
    have hx := (hev x (by simp [hop, Op.operands]) _ hv).1
    have hk := (hev k (by simp [hop, Op.operands]) _ hu).1
    have := lookup_sem hp hy
    exact wp_val (v := conc s y) (w' := w) (by simp [execOp, hop, hx, hk, this]) (K s w hrefl)
  case mapUpdate t m k x =>
    split at e
    case h_2 => cases e
    rename_i v u y hv hu hy
    split at e
    case h_2 => cases e
    rename_i h' z hst
    cases e
    have hm := (hev m (by simp [hop, Op.operands]) _ hv).1
    have hk := (hev k (by simp [hop, Op.operands]) _ hu).1
    have hx := (hev x (by simp [hop, Op.operands]) _ hy).1
    obtain ⟨w', hr, hpost⟩ := mapUpdate_sem hp hst
    have hkk := K s w' hpost
    have hrun : (execOp a.eval o).run P w = .ok .skip w' := by simp [execOp, hop, hm, hk, hx, hr]
    have hun : conc s undef = undef := by simp [undef, conc]
    rw [hun] at hkk
    unfold Oper.wpX; rw [hrun]; exact hkk
  case insert t m k x =>
    split at e
    case h_2 => cases e
    rename_i v u y hv hu hy
    split at e
    case h_2 => cases e
    rename_i h' z hst
    cases e
    have hm := (hev m (by simp [hop, Op.operands]) _ hv).1
    have hk := (hev k (by simp [hop, Op.operands]) _ hu).1
    have hx := (hev x (by simp [hop, Op.operands]) _ hy).1
    obtain ⟨w', hr, hpost⟩ := mapUpdate_sem hp hst
    have hkk := K s w' hpost
    have hrun : (execOp a.eval o).run P w = .ok .skip w' := by simp [execOp, hop, hm, hk, hx, hr]
    have hun : conc s undef = undef := by simp [undef, conc]
    rw [hun] at hkk
    unfold Oper.wpX; rw [hrun]; exact hkk
  case unOp =>
    obtain ⟨v, hv, rfl⟩ := val1_some e
    exact pu v (by intro cs b; rw [hop]; simp) hv rfl
  case convert t d x =>
    split at e
    · rename_i v hv
      cases e
      exact pu v (by intro cs b; rw [hop]; simp) hv rfl
    · split at e
      case h_2 => cases e
      rename_i v hv
      obtain ⟨u, hu, rfl⟩ := val1_some e
      have hx := (hev x (by simp [hop, Op.operands]) v hv).1
      have := bytesStr_sem hp hu
      exact wp_val (v := conc s u) (w' := w) (by simp [execOp, hop, hx, this]) (K s w hrefl)
  case call c =>
    obtain ⟨callee, args, argTypes⟩ := c
    cases callee with
    | invoke r m => simp at e
    | value f =>
      simp only at e
      split at e
      case h_2 => cases e
      rename_i fnv fa fb l hf hl
      obtain ⟨hx, hxin⟩ := hev f (by simp [hop, Op.operands, Call.operands]) _ hf
      obtain ⟨h1, h2⟩ := evL_sem (s := s) (h := h) (ρ := a.eval) (fun p hp' v hv => hev p (by simp only [hop, Op.operands, Call.operands]; simp; exact .inr (by simpa using hp')) v hv) hl
      have e1 : args.map a.eval = l.toArray.map (conc s) := by apply Array.ext'; simpa using h1
      simp only [In] at hxin
      cases fnv <;> simp only at e <;> try (cases e; done)
      case func fid =>
        split at e
        case h_2 => cases e
        rename_i body hbody
        obtain ⟨fn, hfn, hb⟩ := Option.bind_eq_some_iff.1 hbody
        have hcs := hcall _ _ _ _ e s w hp (fun _ h => by cases h) (fun v hv => by
          simp only [List.mem_append] at hv
          rcases hv with (hv | hv) | hv
          · exact hxin.2.1 v (by simpa using hv)
          · exact h2 v hv
          · exact hxin.2.2 v (by simpa using hv))
        have hrun : (execOp a.eval o).run P w = .ok (.enter fid ((fa.toList ++ l ++ fb.toList).map (conc s)).toArray) w := by
          have hnn : ¬ fn.name = "runtime.NumGoroutine" := by simpa using hnum fid fn hfn
          simp [execOp, hop, resolve, hx, conc, concFn, Deferred.ofValue, invoke, callFunc, hfn, hb, hnn, e1]
        unfold Oper.wpX; rw [hrun]
        refine ⟨fun h => by simp [fence, Fence.wide] at h, ?_⟩
        exact CallsIn.mono (F := Fence.wide) (n := 0) hcs fun en w'' ⟨s', he, hpost⟩ => by subst he; exact K s' w'' hpost
      case yield lx =>
        split at e
        case h_2 => cases e
        rename_i hb0
        have hcs := hcall _ _ _ _ e s w hp (fun l' h => by cases h; exact hxin.1 lx rfl) (fun v hv => by
          simp only [List.mem_append] at hv
          rcases hv with hv | hv
          · exact hxin.2.1 v (by simpa using hv)
          · exact h2 v hv)
        obtain ⟨rf, rt, ra, rb, hy, hround⟩ := hcs
        have hrun : (execOp a.eval o).run P w = .ok (.round (s.blk lx) rf rt ra rb) w := by
          have e2 : ((fa.toList ++ l).map (conc s)).toArray = fa.map (conc s) ++ args.map a.eval := by rw [e1]; apply Array.ext'; simp
          rw [e2] at hy
          simp [execOp, hop, resolve, hx, conc, concFn, Deferred.ofValue, invoke, hy]
        unfold Oper.wpX; rw [hrun]
        refine ⟨fun h => by simp [fence, Fence.wide] at h, ?_⟩
        exact RoundIn.mono (F := Fence.wide) (n := 0) hround fun en w'' ⟨s', he, hpost⟩ => by subst he; exact K s' w'' hpost
    | builtin b =>
      have other : val1 h (pureOp P ev o) = some out → Oper.wpX ro P o a w next Q := fun e => by
        obtain ⟨v, hv, rfl⟩ := val1_some e
        exact pu v (by intro cs b; rw [hop]; simp) hv rfl
      cases b <;> simp only at e <;> try (exact other e)
      case len =>
        split at e
        case h_2 => cases e
        rename_i x t hax hat
        split at e
        · rename_i ad n c el hv hu
          cases e
          have ha : args = #[x] := by apply Array.ext'; simpa using hax
          have ht : argTypes = #[t] := by apply Array.ext'; simpa using hat
          subst ha ht
          have hx := (hev x (by simp [hop, Op.operands, Call.operands]) _ hv).1
          refine wp_val (v := conc s (.int .i64 n)) (w' := w) ?_ (K s w hrefl)
          cases ad <;> simp [execOp, hop, resolve, hx, conc, invoke, builtin, Builtin.len_, run_underlying hu, goInt]
        · exact other e
      case append =>
        split at e
        case h_2 => cases e
        rename_i x y t u hax hat
        split at e
        case h_2 => cases e
        rename_i v v' hv hv'
        have ha : args = #[x, y] := by apply Array.ext'; simpa using hax
        have ht : argTypes = #[t, u] := by apply Array.ext'; simpa using hat
        subst ha ht
        have hx := (hev x (by simp [hop, Op.operands, Call.operands]) _ hv).1
        have hy := (hev y (by simp [hop, Op.operands, Call.operands]) _ hv').1
        obtain ⟨s', w', hr, hpost⟩ := append_sem (ty := o.type) hp e
        refine wp_val (v := conc s' out.v) (w' := w') ?_ (K s' w' hpost)
        simp [execOp, hop, resolve, hx, hy, invoke, builtin, hr]
      case copy =>
        split at e
        case h_2 => cases e
        rename_i x y t u hax hat
        split at e
        case h_2 => cases e
        rename_i v v' hv hv'
        have ha : args = #[x, y] := by apply Array.ext'; simpa using hax
        have ht : argTypes = #[t, u] := by apply Array.ext'; simpa using hat
        split at e
        · rename_i out' hcp
          cases e
          subst ha ht
          have hx := (hev x (by simp [hop, Op.operands, Call.operands]) _ hv).1
          have hy := (hev y (by simp [hop, Op.operands, Call.operands]) _ hv').1
          obtain ⟨s', w', hr, hpost⟩ := copy_sem (ty := o.type) hp hcp
          refine wp_val (v := conc s' out.v) (w' := w') ?_ (K s' w' hpost)
          simp [execOp, hop, resolve, hx, hy, invoke, builtin, hr]
        · exact other e

theorem op_sem {ro : Option Nat} {call : Caller} (hcall : CallSem P call) (hnum : NoNum P) {ev : Ev} {o : Oper} {out : Out} {a : Act} {next : Act → World → Prop} {Q : Exit → Act → World → Prop}
    (hp : Pre s h w) (hev : ∀ x ∈ o.op.operands, ∀ v, ev x = some v → a.eval x = conc s v ∧ In (· < h.next) v) (e : opA P call ev o h = some out)
    (K : ∀ s' w', Post s s' h out.hp w w' out.wr → next (a.put o.dst (conc s' out.v)) w') : o.wpIn (fence ro) 0 P a w next Q :=
  wpX_in (fun c hc => by simp [opA, hc] at e) (op_semX hcall hnum hp hev e K)

theorem evO_in {S : Nat → Prop} {ev : Ev} {x : Option Operand} {v : Option Value} (hx : ∀ p ∈ x.toList, ∀ v, ev p = some v → In S v) (e : evO ev x = some v) : ∀ u ∈ v.toList, In S u := by
  unfold evO at e
  split at e
  · cases e; simp
  · rename_i y
    split at e
    · rename_i u hu; cases e; simp; exact hx y (by simp) u hu
    · cases e

/-- Whatever names stand in what comes of it, they stood there before, or are new. -/
theorem op_in {call : Caller} (hcall : CallIn call) {ev : Ev} {o : Oper} {out : Out} {S : Nat → Prop} (hn : HIn S h)
    (hev : ∀ x ∈ o.op.operands, ∀ v, ev x = some v → In S v) (e : opA P call ev o h = some out) (hS : ∀ y, h.next ≤ y → y < out.hp.next → S y) :
    HIn S out.hp ∧ In S out.v ∧ h.next ≤ out.hp.next := by
  have pu : ∀ out, val1 h (pureOp P ev o) = some out → HIn S out.hp ∧ In S out.v ∧ h.next ≤ out.hp.next := fun out e => by
    obtain ⟨v, hv, rfl⟩ := val1_some e
    exact ⟨hn, pureOp_in hv, Nat.le_refl _⟩
  unfold opA at e
  cases hop : o.op <;> simp only [hop, opMakeMapA, opLookupA, opMapUpdateA, opPickA, opAllocA, opBoxA, opBuildA, opBuildSliceA, opLoadA, opStoreA, opNilCheckA, opBinOpA, opMakeFuncA, opMakeSliceA, opSliceA, opFieldAddrA, opIndexAddrA, opFieldA, opIndexA, opExtractA, opCallA, opAppendA, opCopyA, opLenA, opValueA, opConvertA] at e
  all_goals try (cases e; done)
  case move x =>
    obtain ⟨v, hv, rfl⟩ := val1_some e
    exact ⟨hn, hev x (by simp [hop, Op.operands]) v hv, Nat.le_refl _⟩
  case assign x =>
    obtain ⟨v, hv, rfl⟩ := val1_some e
    exact ⟨hn, hev x (by simp [hop, Op.operands]) v hv, Nat.le_refl _⟩
  case pick c x y =>
    split at e
    · obtain ⟨v, hv, rfl⟩ := val1_some e
      exact ⟨hn, hev x (by simp [hop, Op.operands]) v hv, Nat.le_refl _⟩
    · obtain ⟨v, hv, rfl⟩ := val1_some e
      exact ⟨hn, hev y (by simp [hop, Op.operands]) v hv, Nat.le_refl _⟩
    · cases e
  case alloc el =>
    split at e
    case h_2 => cases e
    rename_i z hz
    split at e
    case h_2 => cases e
    rename_i x h' hnew
    cases e
    obtain ⟨i, hi, hzi, hf⟩ := zeroOf_spec hz
    obtain ⟨r1, r2, r3⟩ := new_in hn (fun v hv => (conc_flat (s := ⟨id, id⟩) (hf v (by simpa using hv))).2 S) hnew hS
    exact ⟨r1, by simp only [In]; rw [r3]; exact hS _ (Nat.le_refl _) (by simp only; omega), by simp only; omega⟩
  case box el x =>
    split at e
    case h_2 => cases e
    rename_i v hv
    split at e
    case h_2 => cases e
    rename_i y h' hnew
    cases e
    obtain ⟨r1, r2, r3⟩ := new_in hn (fun u hu => in_cells (hev x (by simp [hop, Op.operands]) v hv) u hu) hnew hS
    exact ⟨r1, by simp only [In]; rw [r3]; exact hS _ (Nat.le_refl _) (by simp only; omega), by simp only; omega⟩
  case build t ps =>
    split at e
    case h_2 => cases e
    rename_i vs hvs
    obtain ⟨v, hv, rfl⟩ := val1_some e
    exact ⟨hn, build_in (evP_in (fun p hp' v hv => hev p.2 (by simp only [hop, Op.operands]; simp; exact ⟨p.1, by simpa using hp'⟩) v hv) hvs) hv, Nat.le_refl _⟩
  case buildSlice t n ps =>
    split at e
    case h_2 => cases e
    rename_i vs hvs
    obtain ⟨v, h', hv, rfl⟩ := val2_some e
    obtain ⟨r1, r2, r3⟩ := buildSlice_in hn (evP_in (fun p hp' v hv => hev p.2 (by simp only [hop, Op.operands]; simp; exact ⟨p.1, by simpa using hp'⟩) v hv) hvs) hv hS
    exact ⟨r1, r2, by simp only; omega⟩
  case load t x =>
    split at e
    case h_2 => cases e
    obtain ⟨u, hu, rfl⟩ := val1_some e
    exact ⟨hn, load_in hn hu, Nat.le_refl _⟩
  case store t x y =>
    split at e
    case h_2 => cases e
    rename_i v u hv hu
    split at e
    case h_2 => cases e
    rename_i h' k hst
    cases e
    obtain ⟨r1, r2⟩ := store_in hn (hev y (by simp [hop, Op.operands]) u hu) hst
    exact ⟨r1, by simp [undef, In], by simp only; omega⟩
  case nilCheck x =>
    split at e
    · rename_i ad hv
      cases e
      exact ⟨hn, hev x (by simp [hop, Op.operands]) _ hv, Nat.le_refl _⟩
    · rename_i f l m hv
      cases e
      exact ⟨hn, hev x (by simp [hop, Op.operands]) _ hv, Nat.le_refl _⟩
    · rename_i f l m hv
      cases e
      exact ⟨hn, hev x (by simp [hop, Op.operands]) _ hv, Nat.le_refl _⟩
    · cases e
  case binOp op t x y yt =>
    split at e
    · rename_i v hv
      cases e
      exact ⟨hn, pureOp_in hv, Nat.le_refl _⟩
    · split at e
      case h_2 => cases e
      split at e
      case h_2 => cases e
      cases e
      exact ⟨hn, by simp [In], Nat.le_refl _⟩
  case makeFunc fn l m =>
    split at e
    case h_2 => cases e
    rename_i f l' m' hl hm
    cases e
    have h1 := evL_in (fun p hp' v hv => hev p (by simp only [hop, Op.operands]; simp; exact .inl (by simpa using hp')) v hv) hl
    have h2 := evL_in (fun p hp' v hv => hev p (by simp only [hop, Op.operands]; simp; exact .inr (by simpa using hp')) v hv) hm
    exact ⟨hn, by simp only [In]; exact ⟨fun l hl => by simp at hl, fun v hv => h1 v (by simpa using hv), fun v hv => h2 v (by simpa using hv)⟩, Nat.le_refl _⟩
  case makeSlice t l c =>
    split at e
    case h_2 => cases e
    obtain ⟨v, h', hv, rfl⟩ := val2_some e
    obtain ⟨r1, r2, r3⟩ := makeSlice_in hn hv hS
    exact ⟨r1, r2, by simp only; omega⟩
  case slice t x lo hi mx =>
    split at e
    case h_2 => cases e
    rename_i v lo' hi' mx' hv hlo hhi hmx
    split at e
    · rename_i u hu
      cases e
      exact ⟨hn, slice_in (hev x (by simp [hop, Op.operands]) _ hv) hu, Nat.le_refl _⟩
    · exact pu _ e
  case fieldAddr t x f =>
    split at e
    case h_2 => cases e
    rename_i v hv
    obtain ⟨u, hu, rfl⟩ := val1_some e
    exact ⟨hn, fieldAddr_in (hev x (by simp [hop, Op.operands]) v hv) hu, Nat.le_refl _⟩
  case indexAddr t x i =>
    split at e
    case h_2 => cases e
    rename_i v i' hv hi
    obtain ⟨u, hu, rfl⟩ := val1_some e
    exact ⟨hn, indexAddr_in (hev x (by simp [hop, Op.operands]) v hv) hu, Nat.le_refl _⟩
  case field t x f =>
    split at e
    case h_2 => cases e
    rename_i v hv
    obtain ⟨u, hu, rfl⟩ := val1_some e
    exact ⟨hn, field_in (hev x (by simp [hop, Op.operands]) v hv) hu, Nat.le_refl _⟩
  case index t x i =>
    split at e
    · rename_i v hv
      cases e
      exact ⟨hn, pureOp_in hv, Nat.le_refl _⟩
    · split at e
      case h_2 => cases e
      rename_i v i' hv hi
      obtain ⟨u, hu, rfl⟩ := val1_some e
      exact ⟨hn, index_in (hev x (by simp [hop, Op.operands]) v hv) hu, Nat.le_refl _⟩
  case extract x i =>
    split at e
    case h_2 => cases e
    rename_i v hv
    obtain ⟨u, hu, rfl⟩ := val1_some e
    exact ⟨hn, extract_in (hev x (by simp [hop, Op.operands]) v hv) hu, Nat.le_refl _⟩
  case makeMap t r =>
    split at e
    · obtain ⟨v, h', hv, rfl⟩ := val2_some e
      unfold aMakeMap at hv
      split at hv
      case h_2 => cases hv
      rename_i h1 hnew
      simp only [Option.some.injEq, Prod.mk.injEq] at hv
      obtain ⟨rfl, rfl⟩ := hv
      obtain ⟨e1, e2⟩ := Hp.new_spec hnew
      simp only at hS ⊢
      have hSn : S h.next := hS _ (Nat.le_refl _) (by omega)
      refine ⟨fun k b hk => ?_, by simp only [In]; exact hSn, by omega⟩
      rw [e2] at hk
      split at hk
      · rename_i hke; cases hk; subst hke; exact ⟨hSn, by omega, by simp⟩
      · have := hn k b hk; exact ⟨this.1, by omega, this.2.2⟩
    · cases e
  case lookup t x k ok =>
    split at e
    case h_2 => cases e
    obtain ⟨y, hy, rfl⟩ := val1_some e
    exact ⟨hn, lookup_in hn hy, Nat.le_refl _⟩
  case mapUpdate t m k x =>
    split at e
    case h_2 => cases e
    rename_i v u y hv hu hy
    split at e
    case h_2 => cases e
    rename_i h' z hst
    cases e
    obtain ⟨r1, r2⟩ := mapUpdate_in hn (hev x (by simp [hop, Op.operands]) y hy) hst
    exact ⟨r1, by simp [undef, In], by simp only; omega⟩
  case insert t m k x =>
    split at e
    case h_2 => cases e
    rename_i v u y hv hu hy
    split at e
    case h_2 => cases e
    rename_i h' z hst
    cases e
    obtain ⟨r1, r2⟩ := mapUpdate_in hn (hev x (by simp [hop, Op.operands]) y hy) hst
    exact ⟨r1, by simp [undef, In], by simp only; omega⟩
  case unOp => exact pu _ e
  case convert t d x =>
    split at e
    · rename_i v hv
      cases e
      exact ⟨hn, pureOp_in hv, Nat.le_refl _⟩
    · split at e
      case h_2 => cases e
      obtain ⟨u, hu, rfl⟩ := val1_some e
      exact ⟨hn, bytesStr_in hu, Nat.le_refl _⟩
  case call c =>
    obtain ⟨callee, args, argTypes⟩ := c
    cases callee with
    | invoke r m => simp at e
    | value f =>
      simp only at e
      split at e
      case h_2 => cases e
      rename_i fnv fa fb l hf hl
      have hxin := hev f (by simp [hop, Op.operands, Call.operands]) _ hf
      have h2 := evL_in (fun p hp' v hv => hev p (by simp only [hop, Op.operands, Call.operands]; simp; exact .inr (by simpa using hp')) v hv) hl
      simp only [In] at hxin
      cases fnv <;> simp only at e <;> try (cases e; done)
      case func fid =>
        split at e
        case h_2 => cases e
        exact hcall _ _ _ _ e S hn (fun _ h => by cases h) (fun v hv => by
          simp only [List.mem_append] at hv
          rcases hv with (hv | hv) | hv
          · exact hxin.2.1 v (by simpa using hv)
          · exact h2 v hv
          · exact hxin.2.2 v (by simpa using hv)) hS
      case yield lx =>
        split at e
        case h_2 => cases e
        exact hcall _ _ _ _ e S hn (fun l' h => by cases h; exact hxin.1 lx rfl) (fun v hv => by
          simp only [List.mem_append] at hv
          rcases hv with hv | hv
          · exact hxin.2.1 v (by simpa using hv)
          · exact h2 v hv) hS
    | builtin b =>
      cases b <;> simp only at e <;> try (exact pu _ e)
      case len =>
        split at e
        case h_2 => cases e
        split at e
        · cases e; exact ⟨hn, by simp [In], Nat.le_refl _⟩
        · exact pu _ e
      case append =>
        split at e
        case h_2 => cases e
        split at e
        case h_2 => cases e
        exact append_in hn e hS
      case copy =>
        split at e
        case h_2 => cases e
        split at e
        case h_2 => cases e
        split at e
        · rename_i out' hcp
          cases e
          have := copy_in hn hcp
          exact ⟨this.1, this.2.1, by omega⟩
        · exact pu _ e
end
end

section
/-! What an operation leaves alone; control without a draw. -/
def CallOld (call : Caller) : Prop := ∀ f args h out, call f args h = some out → HIn (· < h.next) h → FnIn (· < h.next) f → (∀ v ∈ args, In (· < h.next) v) → ∀ x, x < h.next → x ∉ out.wr → out.hp.get x = h.get x

section
variable {P : Program} {s : Val} {h : Hp} {w : World}

theorem aNew_old {e : TypeId} {size : Nat} {cells : List Value} {h' : Hp} {x : Nat} (he : aNew e size cells h = some (x, h')) : ∀ y, y < h.next → h'.get y = h.get y := by
  unfold aNew at he
  split at he
  case h_2 => cases he
  rename_i h1 hnew
  simp only [Option.some.injEq, Prod.mk.injEq] at he
  obtain ⟨rfl, rfl⟩ := he
  intro y hy
  rw [(Hp.new_spec hnew).2, if_neg (by omega)]

theorem aGrow_old {e : TypeId} {size len : Nat} {cells : List Value} {wr : List Nat} {o : Out} (h1 : aGrow e size len cells wr h = some o) : o.wr = wr ∧ ∀ y, y < h.next → o.hp.get y = h.get y := by
  obtain ⟨h', hn, rfl⟩ := aGrow_spec h1
  refine ⟨rfl, fun y hy => ?_⟩
  simp only
  rw [(Hp.new_spec hn).2, if_neg (by omega)]

theorem append_old {t tx : TypeId} {sv xv : Value} {o : Out} (e : aAppend P t tx sv xv h = some o) : ∀ x, x < h.next → x ∉ o.wr → o.hp.get x = h.get x := by
  unfold aAppend at e
  split at e
  case h_2 => cases e
  split at e
  case h_2 => cases e
  split at e
  case h_2 => cases e
  split at e
  · split at e
    · cases e; exact fun _ _ _ => rfl
    · split at e
      case h_2 => cases e
      exact fun x hx _ => (aGrow_old e).2 x hx
  · split at e
    case h_2 => cases e
    simp only at e
    split at e
    case h_2 => cases e
    split at e
    · split at e
      · split at e
        case h_2 => cases e
        split at e
        case h_2 => cases e
        rename_i hput
        cases e
        intro y _ hy
        simp only
        rw [(Hp.put_spec hput).2, if_neg (by simpa using hy)]
      · exact fun x hx _ => (aGrow_old e).2 x hx
    · split at e
      case h_2 => cases e
      split at e
      case h_2 => cases e
      rename_i hput
      obtain ⟨g1, g2⟩ := aGrow_old e
      obtain ⟨f1, f2⟩ := Hp.put_spec hput
      intro y hlt hy
      rw [g2 y (by omega), f2, if_neg (by rw [g1] at hy; simpa using hy)]
  · cases e

theorem op_old {call : Caller} (hcall : CallOld call) {ev : Ev} {o : Oper} {out : Out} (hn : HIn (· < h.next) h) (hev : ∀ x ∈ o.op.operands, ∀ v, ev x = some v → In (· < h.next) v) (e : opA P call ev o h = some out) : ∀ x, x < h.next → x ∉ out.wr → out.hp.get x = h.get x := by
  have v1 : ∀ {q : Option Value}, val1 h q = some out → ∀ x, x < h.next → x ∉ out.wr → out.hp.get x = h.get x := fun e => by
    obtain ⟨v, hv, rfl⟩ := val1_some e
    exact fun _ _ _ => rfl
  unfold opA at e
  cases hop : o.op <;> simp only [hop, opMakeMapA, opLookupA, opMapUpdateA, opPickA, opAllocA, opBoxA, opBuildA, opBuildSliceA, opLoadA, opStoreA, opNilCheckA, opBinOpA, opMakeFuncA, opMakeSliceA, opSliceA, opFieldAddrA, opIndexAddrA, opFieldA, opIndexA, opExtractA, opCallA, opAppendA, opCopyA, opLenA, opValueA] at e
  all_goals try (cases e; done)
  all_goals try (exact v1 e)
  case pick c x y => split at e <;> first | exact v1 e | cases e
  case alloc el =>
    repeat' (split at e)
    all_goals try (cases e; done)
    rename_i hn; cases e
    exact fun x hx _ => aNew_old hn x hx
  case box el x =>
    repeat' (split at e)
    all_goals try (cases e; done)
    rename_i hn; cases e
    exact fun x hx _ => aNew_old hn x hx
  case convert =>
    simp only [opConvertA] at e
    split at e
    · cases e; exact fun _ _ _ => rfl
    · split at e
      case h_2 => cases e
      exact v1 e
  case build => split at e <;> first | exact v1 e | cases e
  case buildSlice t n ps =>
    split at e
    case h_2 => cases e
    obtain ⟨v, h', hv, rfl⟩ := val2_some e
    unfold aBuildSlice at hv
    repeat' (split at hv)
    all_goals try (cases hv; done)
    all_goals (rename_i hn; cases hv; exact fun x hx _ => aNew_old hn x hx)
  case load => split at e <;> first | exact v1 e | cases e
  case store t x y =>
    split at e
    case h_2 => cases e
    split at e
    case h_2 => cases e
    rename_i h' k hst
    cases e
    unfold aStore at hst
    split at hst
    case h_2 => cases hst
    split at hst
    case h_2 => cases hst
    simp only at hst
    split at hst
    case h_2 => cases hst
    split at hst
    case h_2 => cases hst
    rename_i hput
    simp only [Option.some.injEq, Prod.mk.injEq] at hst
    obtain ⟨rfl, rfl⟩ := hst
    intro y _ hy
    simp only
    rw [(Hp.put_spec hput).2, if_neg (by simpa using hy)]
  case nilCheck => split at e <;> first | (cases e; exact fun _ _ _ => rfl) | cases e
  case binOp =>
    repeat' (split at e)
    all_goals first | (cases e; done) | (cases e; exact fun _ _ _ => rfl)
  case makeFunc => split at e <;> first | (cases e; exact fun _ _ _ => rfl) | cases e
  case makeSlice t l c =>
    split at e
    case h_2 => cases e
    obtain ⟨v, h', hv, rfl⟩ := val2_some e
    unfold aMakeSlice at hv
    repeat' (split at hv)
    all_goals try (cases hv; done)
    rename_i hn; cases hv
    exact fun x hx _ => aNew_old hn x hx
  case slice =>
    split at e
    case h_2 => cases e
    split at e
    · cases e; exact fun _ _ _ => rfl
    · exact v1 e
  case fieldAddr => split at e <;> first | exact v1 e | cases e
  case indexAddr => split at e <;> first | exact v1 e | cases e
  case field => split at e <;> first | exact v1 e | cases e
  case index =>
    split at e
    · cases e; exact fun _ _ _ => rfl
    · split at e <;> first | exact v1 e | cases e
  case makeMap t r =>
    split at e
    · obtain ⟨v, h', hv, rfl⟩ := val2_some e
      unfold aMakeMap at hv
      split at hv
      case h_2 => cases hv
      rename_i h1 hnew
      simp only [Option.some.injEq, Prod.mk.injEq] at hv
      obtain ⟨rfl, rfl⟩ := hv
      intro x hx _
      simp only
      rw [(Hp.new_spec hnew).2, if_neg (by omega)]
    · cases e
  case lookup => split at e <;> first | exact v1 e | cases e
  case mapUpdate t m k x =>
    split at e
    case h_2 => cases e
    split at e
    case h_2 => cases e
    rename_i h' z hst
    cases e
    intro y _ hy
    exact mapUpdate_old hst y (by simpa using hy)
  case insert t m k x =>
    split at e
    case h_2 => cases e
    split at e
    case h_2 => cases e
    rename_i h' z hst
    cases e
    intro y _ hy
    exact mapUpdate_old hst y (by simpa using hy)
  case extract => split at e <;> first | exact v1 e | cases e
  case call c =>
    obtain ⟨callee, args, argTypes⟩ := c
    cases callee with
    | invoke r m => simp at e
    | value f =>
      simp only at e
      split at e
      case h_2 => cases e
      rename_i fnv fa fb l hf hl
      have hxin := hev f (by simp [hop, Op.operands, Call.operands]) _ hf
      have h2 := evL_in (fun p hp' v hv => hev p (by simp only [hop, Op.operands, Call.operands]; simp; exact .inr (by simpa using hp')) v hv) hl
      simp only [In] at hxin
      cases fnv <;> simp only at e <;> try (cases e; done)
      case func fid =>
        split at e
        case h_2 => cases e
        exact hcall _ _ _ _ e hn (fun _ h => by cases h) (fun v hv => by
          simp only [List.mem_append] at hv
          rcases hv with (hv | hv) | hv
          · exact hxin.2.1 v (by simpa using hv)
          · exact h2 v hv
          · exact hxin.2.2 v (by simpa using hv))
      case yield lx =>
        split at e
        case h_2 => cases e
        exact hcall _ _ _ _ e hn (fun l' h => by cases h; exact hxin.1 lx rfl) (fun v hv => by
          simp only [List.mem_append] at hv
          rcases hv with hv | hv
          · exact hxin.2.1 v (by simpa using hv)
          · exact h2 v hv)
    | builtin b =>
      cases b <;> simp only at e <;> try (exact v1 e)
      case len =>
        split at e
        case h_2 => cases e
        split at e
        · cases e; exact fun _ _ _ => rfl
        · exact v1 e
      case append =>
        split at e
        case h_2 => cases e
        split at e
        case h_2 => cases e
        exact append_old e
      case copy =>
        split at e
        case h_2 => cases e
        split at e
        case h_2 => cases e
        split at e
        · rename_i out' hcp
          cases e
          exact copy_old hcp
        · exact v1 e
end

/-! ### temporaries -/
def evT (T : Tr Value) : Ev
  | .tmp t => some ((T.get t).getD undef)
  | .const v => match pureV v with
    | true => some v
    | false => none
  | .func f => some (.func (.func f) ⟨[]⟩ ⟨[]⟩)
  | .global _ => none

def putT (n : Nat) (T : Tr Value) (dst : Option Tmp) (v : Value) : Option (Tr Value) :=
  match dst with
  | none => some T
  | some d => match Nat.ble n d with
    | true => some T
    | false => T.set 64 d (some v)

structure RelT (ds : List Deferred) (s : Val) (n : Nat) (T : Tr Value) (a : Act) : Prop where
  size : a.tmps.size = n
  tmps : ∀ t, a.tmps.getD t undef = conc s ((T.get t).getD undef)
  defers : a.defers = ds

def TIn (S : Nat → Prop) (T : Tr Value) : Prop := ∀ t v, T.get t = some v → In S v
theorem TIn.mono {S S' : Nat → Prop} {T : Tr Value} (h : ∀ x, S x → S' x) (ht : TIn S T) : TIn S' T := fun t v e => In.mono h v (ht t v e)
theorem TIn.getD {S : Nat → Prop} {T : Tr Value} (ht : TIn S T) (t : Nat) : In S ((T.get t).getD undef) := by
  cases h : T.get t with
  | none => simp [undef, In]
  | some v => exact ht t v h

theorem evT_sem {ds : List Deferred} {s : Val} {n : Nat} {T : Tr Value} {a : Act} (hr : RelT ds s n T a) {x : Operand} {v : Value} (e : evT T x = some v) : a.eval x = conc s v := by
  unfold evT at e
  split at e
  · rename_i t
    cases e; exact hr.tmps t
  · split at e
    · rename_i hp; cases e; exact ((conc_pure hp).1).symm
    · cases e
  · cases e; simp [Act.eval, conc, concFn]
  · cases e
theorem evT_in {S : Nat → Prop} {T : Tr Value} (ht : TIn S T) {x : Operand} {v : Value} (e : evT T x = some v) : In S v := by
  unfold evT at e
  split at e
  · cases e; exact ht.getD _
  · split at e
    · rename_i hp; cases e; exact (conc_pure (s := ⟨id, id⟩) hp).2 S
    · cases e
  · cases e; simp [In]
  · cases e

theorem putT_spec {n : Nat} {T T' : Tr Value} {dst : Option Tmp} {v : Value} (e : putT n T dst v = some T') : ∀ t, T'.get t = if dst = some t ∧ t < n then some v else T.get t := by
  unfold putT at e
  split at e
  · cases e; intro t; simp
  · rename_i d
    split at e
    · rename_i hb
      have := Nat.le_of_ble_eq_true hb
      cases e
      intro t
      rw [if_neg]
      rintro ⟨h1, h2⟩
      cases h1; omega
    · rename_i hb
      have hlt : d < n := by
        rcases Nat.lt_or_ge d n with h | h
        · exact h
        · rw [Nat.ble_eq_true_of_le h] at hb; cases hb
      intro t
      rw [Tr.get_set _ _ _ _ _ e t]
      by_cases h : t = d
      · subst h; simp [hlt]
      · rw [if_neg h, if_neg]
        rintro ⟨h1, _⟩
        cases h1; exact h rfl

theorem RelT.put {ds : List Deferred} {s : Val} {n : Nat} {T T' : Tr Value} {a : Act} (hr : RelT ds s n T a) {dst : Option Tmp} {v : Value} (e : putT n T dst v = some T') : RelT ds s n T' (a.put dst (conc s v)) := by
  have hs := putT_spec e
  cases dst with
  | none => exact ⟨hr.size, fun t => by rw [hs]; simpa [Act.put] using hr.tmps t, hr.defers⟩
  | some d =>
    refine ⟨by simp [Act.put, hr.size], fun t => ?_, hr.defers⟩
    rw [hs]
    have h0 := hr.tmps t
    have hn := hr.size
    simp only [Act.put, Array.getD_eq_getD_getElem?, Array.getElem?_setIfInBounds] at h0 ⊢
    by_cases hd : d = t
    · subst hd
      by_cases hlt : d < n
      · simp [hlt, hn]
      · have hge : a.tmps.size ≤ d := by rw [hn]; exact Nat.le_of_not_lt hlt
        have hnone : a.tmps[d]? = none := Array.getElem?_eq_none hge
        rw [hnone] at h0
        simp only [Option.getD_none] at h0
        rw [if_pos rfl, if_neg (Nat.not_lt.2 hge), if_neg (fun hh => hlt hh.2)]
        exact h0
    · rw [if_neg hd, if_neg (fun hh => hd (Option.some.inj hh.1))]; exact h0
theorem TIn.put {S : Nat → Prop} {n : Nat} {T T' : Tr Value} (ht : TIn S T) {dst : Option Tmp} {v : Value} (hv : In S v) (e : putT n T dst v = some T') : TIn S T' := by
  intro t u hu
  rw [putT_spec e] at hu
  split at hu
  · cases hu; exact hv
  · exact ht t u hu

theorem RelT.post {ds : List Deferred} {s s' : Val} {n : Nat} {T : Tr Value} {a : Act} {B B' : Hp} {w w' : World} {wr : List Nat} (hr : RelT ds s n T a) (ht : TIn (· < B.next) T) (hp : Post s s' B B' w w' wr) : RelT ds s' n T a :=
  ⟨hr.size, fun t => by rw [hr.tmps t]; exact (hp.keep (ht.getD t)).symm, hr.defers⟩

/-! ### guards -/
def wantedA (ops : Array Oper) (T : Tr Value) (o : Oper) : Bool :=
  match o.guard with
  | none => true
  | some (j, want) => match (ops[j]?).bind (·.dst) with
    | some d => match T.get d with
      | some (.bool b) => b == want
      | _ => false
    | none => false

theorem conc_bool {s : Val} {v : Value} {b : Bool} (h : conc s v = .bool b) : v = .bool b := by
  cases v with
  | bool c => simpa [conc] using h
  | pointer a => cases a <;> simp [conc] at h
  | slice a n c => cases a <;> simp [conc] at h
  | map r => cases r <;> simp [conc] at h
  | _ => simp [conc] at h

theorem wanted_eq {ds : List Deferred} {s : Val} {n : Nat} {T : Tr Value} {a : Act} (hr : RelT ds s n T a) (ops : Array Oper) (o : Oper) : Region.wanted o (yielded ops a.tmps) = wantedA ops T o := by
  unfold Region.wanted wantedA
  split
  · rename_i hg; simp [hg]
  · rename_i j want hg
    simp only [hg, yielded]
    cases hd : (ops[j]?).bind (·.dst) with
    | none => simp
    | some d =>
      simp only [Option.bind_some]
      have h0 := hr.tmps d
      simp only [Array.getD_eq_getD_getElem?] at h0
      cases ht : a.tmps[d]? with
      | none =>
        simp only [ht, Option.getD_none] at h0
        simp only
        cases hT : T.get d with
        | none => simp
        | some v =>
          simp only [hT, Option.getD_some] at h0
          cases v <;> simp [conc, undef] at h0 ⊢
      | some u =>
        simp only [ht, Option.getD_some] at h0
        subst h0
        cases hT : T.get d with
        | none => simp [undef, conc]
        | some v =>
          simp only [Option.getD_some]
          cases v with
          | bool c => simp [conc]
          | pointer a => cases a <;> simp [conc]
          | slice a n c => cases a <;> simp [conc]
          | map r => cases r <;> simp [conc]
          | _ => simp [conc]

/-! ### a region in its own order -/
structure Res where
  T : Tr Value
  hp : Hp
  wr : List Nat

def seqA (P : Program) (call : Caller) (ops : Array Oper) (n : Nat) : List Oper → Tr Value → Hp → Option Res
  | [], T, h => some ⟨T, h, []⟩
  | o :: rest, T, h =>
    match wantedA ops T o with
    | true => match opA P call (evT T) o h with
      | some out => match putT n T o.dst out.v with
        | some T' => match seqA P call ops n rest T' out.hp with
          | some r => some ⟨r.T, r.hp, joinWr h.next out.wr r.wr⟩
          | none => none
        | none => none
      | none => none
    | false => match putT n T o.dst undef with
      | some T' => seqA P call ops n rest T' h
      | none => none

theorem in_tt : ∀ v, In (fun _ => True) v := by
  intro v
  induction v using In.induct with
  | case4 fn f c ih1 ih2 => simp only [In]; exact ⟨fun _ _ => trivial, ih1, ih2⟩
  | case5 t v ih => simp only [In]; exact ih
  | case6 cs ih => simp only [In]; exact ih
  | case7 cs ih => simp only [In]; exact ih
  | _ => simp_all [In]
/-- the same, with what is written gathered on the way -/
def seqStep (P : Program) (call : Caller) (ops : Array Oper) (n lo : Nat) (o : Oper) (ih : Tr Value → Hp → List Nat → Option Res) (T : Tr Value) (h : Hp) (acc : List Nat) : Option Res :=
    match wantedA ops T o with
    | true => match opA P call (evT T) o h with
      | some out => match putT n T o.dst out.v with
        | some T' => ih T' out.hp (joinWr lo acc out.wr)
        | none => none
      | none => none
    | false => match putT n T o.dst undef with
      | some T' => ih T' h acc
      | none => none
def seqG (P : Program) (call : Caller) (ops : Array Oper) (n lo : Nat) (l : List Oper) : Tr Value → Hp → List Nat → Option Res :=
  List.rec (motive := fun _ => Tr Value → Hp → List Nat → Option Res) (fun T h acc => some ⟨T, h, acc⟩) (fun o _ ih => seqStep P call ops n lo o ih) l
theorem seqG_cons (P : Program) (call : Caller) (ops : Array Oper) (n lo : Nat) (o : Oper) (l : List Oper) (T : Tr Value) (h : Hp) (acc : List Nat) : seqG P call ops n lo (o :: l) T h acc = seqStep P call ops n lo o (seqG P call ops n lo l) T h acc := rfl

theorem seqG_spec {P : Program} {call : Caller} (hin : CallIn call) {ops : Array Oper} {n lo : Nat} : ∀ (l : List Oper) (T : Tr Value) (h : Hp) (acc : List Nat) (r : Res), seqG P call ops n lo l T h acc = some r → HIn (fun _ => True) h → lo ≤ h.next →
    ∃ q, seqA P call ops n l T h = some q ∧ r.T = q.T ∧ r.hp = q.hp ∧ ∀ y, y ∈ r.wr ↔ y ∈ acc ∨ (y ∈ q.wr ∧ y < lo) := by
  intro l
  induction l with
  | nil =>
    intro T h acc r e _ _
    have e : some (Res.mk T h acc) = some r := e
    cases e; exact ⟨_, rfl, rfl, rfl, by simp⟩
  | cons o l ih =>
    intro T h acc r e hn hlo
    rw [seqG_cons] at e
    unfold seqStep at e
    simp only [seqA]
    split at e
    · rename_i hw
      split at e
      case h_2 => cases e
      rename_i out ho
      split at e
      case h_2 => cases e
      rename_i T' hT
      have b1 := op_in hin (S := fun _ => True) hn (fun x _ v hv => In.mono (fun _ _ => trivial) v (evT_in (S := fun _ => True) (fun t v _ => in_tt v) hv)) ho (fun _ _ _ => trivial)
      obtain ⟨q, hq, h1, h2, h3⟩ := ih _ _ _ _ e b1.1 (Nat.le_trans hlo b1.2.2)
      simp only [ho, hT, hq]
      refine ⟨_, rfl, h1, h2, fun y => ?_⟩
      simp only
      rw [h3, mem_joinWr, mem_joinWr]
      constructor
      · rintro ((h | ⟨h, h'⟩) | ⟨h, h'⟩)
        · exact .inl h
        · exact .inr ⟨.inl h, h'⟩
        · exact .inr ⟨.inr ⟨h, by omega⟩, h'⟩
      · rintro (h | ⟨h | ⟨h, _⟩, h'⟩)
        · exact .inl (.inl h)
        · exact .inl (.inr ⟨h, h'⟩)
        · exact .inr ⟨h, h'⟩
    · rename_i hw
      split at e
      case h_2 => cases e
      rename_i T' hT
      obtain ⟨q, hq, h1, h2, h3⟩ := ih _ _ _ _ e hn hlo
      simp only [hT, hq]
      exact ⟨_, rfl, h1, h2, h3⟩

theorem undef_conc (s : Val) : conc s undef = undef := by simp [undef, conc]

theorem seq_in {P : Program} {call : Caller} (hcall : CallIn call) {ops : Array Oper} {n : Nat} : ∀ (l : List Oper) (T : Tr Value) (h : Hp) (r : Res), seqA P call ops n l T h = some r →
    ∀ S, HIn S h → TIn S T → (∀ y, h.next ≤ y → y < r.hp.next → S y) → h.next ≤ r.hp.next ∧ HIn S r.hp ∧ TIn S r.T := by
  intro l
  induction l with
  | nil => intro T h r e S hn ht _; simp only [seqA, Option.some.injEq] at e; subst e; exact ⟨Nat.le_refl _, hn, ht⟩
  | cons o l ih =>
    intro T h r e S hn ht hS
    simp only [seqA] at e
    split at e
    · split at e
      case h_2 => cases e
      rename_i out ho
      split at e
      case h_2 => cases e
      rename_i T' hT
      split at e
      case h_2 => cases e
      rename_i r' hr
      cases e
      -- first the bounds, then S
      have b1 := op_in hcall (S := fun _ => True) (hn.mono fun _ _ => trivial) (fun x _ v hv => In.mono (fun _ _ => trivial) v (evT_in ht hv)) ho (fun _ _ _ => trivial)
      have b2 := ih _ _ _ hr (fun _ => True) b1.1 (TIn.put (ht.mono fun _ _ => trivial) b1.2.1 hT) (fun _ _ _ => trivial)
      have c1 := op_in hcall hn (fun x _ v hv => evT_in ht hv) ho (fun y h1 h2 => hS y h1 (by have := b2.1; simp only; omega))
      have c2 := ih _ _ _ hr S c1.1 (TIn.put ht c1.2.1 hT) (fun y h1 h2 => hS y (by have := c1.2.2; omega) h2)
      exact ⟨Nat.le_trans c1.2.2 c2.1, c2.2⟩
    · split at e
      case h_2 => cases e
      rename_i T' hT
      exact ih _ _ _ e S hn (TIn.put ht (by simp [undef, In]) hT) hS

theorem seq_old {P : Program} {call : Caller} (hcall : CallOld call) (hin : CallIn call) {ops : Array Oper} {n : Nat} : ∀ (l : List Oper) (T : Tr Value) (h : Hp) (r : Res), seqA P call ops n l T h = some r →
    HIn (· < h.next) h → TIn (· < h.next) T → ∀ x, x < h.next → x ∉ r.wr → r.hp.get x = h.get x := by
  intro l
  induction l with
  | nil => intro T h r e _ _; simp only [seqA, Option.some.injEq] at e; subst e; exact fun _ _ _ => rfl
  | cons o l ih =>
    intro T h r e hn ht
    simp only [seqA] at e
    split at e
    · split at e
      case h_2 => cases e
      rename_i out ho
      split at e
      case h_2 => cases e
      rename_i T' hT
      split at e
      case h_2 => cases e
      rename_i r' hr
      cases e
      intro x hx hw
      rw [mem_joinWr] at hw
      have b0 := (op_in hin (S := fun _ => True) (hn.mono fun _ _ => trivial) (fun x _ v hv => In.mono (fun _ _ => trivial) v (evT_in ht hv)) ho (fun _ _ _ => trivial)).2.2
      have b1 := op_in hin (S := (· < out.hp.next)) (hn.mono fun x hx => by omega) (fun x _ v hv => In.mono (fun x hx => by omega) v (evT_in ht hv)) ho (fun _ _ h => h)
      simp only
      rw [ih _ _ _ hr b1.1 (TIn.put (ht.mono fun x hx => by omega) b1.2.1 hT) x (by omega) (fun hh => hw (.inr ⟨hh, hx⟩)), op_old hcall hn (fun x _ v hv => evT_in ht hv) ho x hx (fun hh => hw (.inl hh))]
    · split at e
      case h_2 => cases e
      rename_i T' hT
      exact ih _ _ _ e hn (TIn.put ht (by simp [undef, In]) hT)

theorem Pre.next {s s' : Val} {h h' : Hp} {w w' : World} {wr : List Nat} (hp : Post s s' h h' w w' wr) (hn : HIn (· < h'.next) h') : Pre s' h' w' := ⟨hp.sat, hp.inj, hn⟩

theorem seq_sem {ro : Option Nat} {ds : List Deferred} {P : Program} {call : Caller} (hcall : CallSem P call) (hin : CallIn call) (hnum : NoNum P) {ops : Array Oper} {n : Nat} {Q : Exit → Act → World → Prop} : ∀ (l : List Oper) (T : Tr Value) (h : Hp) (r : Res), seqA P call ops n l T h = some r →
    ∀ s w a, Pre s h w → RelT ds s n T a → TIn (· < h.next) T → (∀ s' w' a', Post s s' h r.hp w w' r.wr → RelT ds s' n r.T a' → Q .normal a' w') → wpListIn (fence ro) 0 P ops Q l a w := by
  intro l
  induction l with
  | nil => intro T h r e s w a hp hr _ K; simp only [seqA, Option.some.injEq] at e; subst e; exact K s w a (Post.refl hp.sat hp.inj hp.hin) hr
  | cons o l ih =>
    intro T h r e s w a hp hr ht K
    simp only [seqA] at e
    show if Region.wanted o (yielded ops a.tmps) = true then _ else _
    rw [wanted_eq hr]
    split at e
    · rename_i hw
      rw [if_pos hw]
      split at e
      case h_2 => cases e
      rename_i out ho
      split at e
      case h_2 => cases e
      rename_i T' hT
      split at e
      case h_2 => cases e
      rename_i r' hr'
      cases e
      refine op_sem hcall hnum hp (fun x _ v hv => ⟨evT_sem hr hv, evT_in ht hv⟩) ho fun s1 w1 hpost => ?_
      have b1 := op_in hin (S := (· < out.hp.next)) (hp.hin.mono fun x hx => by have := hpost.mono; omega) (fun x _ v hv => In.mono (fun x hx => by have := hpost.mono; omega) v (evT_in ht hv)) ho (fun y _ h2 => h2)
      have ht1 : TIn (· < out.hp.next) T' := TIn.put (ht.mono fun x hx => by have := hpost.mono; omega) b1.2.1 hT
      exact ih _ _ _ hr' s1 w1 _ (Pre.next hpost b1.1) (RelT.put (hr.post ht hpost) hT) ht1 fun s2 w2 a2 hp2 hr2 => K s2 w2 a2 (hpost.trans hp2) hr2
    · rename_i hw
      rw [if_neg (by simp [hw])]
      split at e
      case h_2 => cases e
      rename_i T' hT
      have := RelT.put hr hT
      rw [undef_conc] at this
      exact ⟨fun _ _ => trivial, ih _ _ _ e s w _ hp this (TIn.put ht (by simp [undef, In]) hT) K⟩
end

end
end Go.Proofs.Ytfafjojoapcliaa.Eng

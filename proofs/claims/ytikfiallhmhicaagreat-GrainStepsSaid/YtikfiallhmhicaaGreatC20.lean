/- Layer 2: moves, and pairs of stones, in memory. -/
import Derived.Test.YtikfiallhmhicaaGreatBase
set_option linter.all false
namespace Go.Proofs.YtikfiallhmhicaaGreat
open Go.RowKit

theorem Ints.later {w w1 : World} {v : Value} {l : List Int} (h : Ints w w.heap.size v l) (hb : Below w.heap.size w w1) : Ints w1 w1.heap.size v l := h.mono hb hb.size

theorem below_drewN {B : Nat} (w : World) (n : Nat) : Below B w (w.drewN n) := by constructor <;> first | rfl | exact Nat.le_refl _ | (intros; rfl)

/-- a move -/
structure Mv where
  out : Int
  side : Int
  cut : Bool
theorem Mv.ext' {a b : Mv} (h1 : a.out = b.out) (h2 : a.side = b.side) (h3 : a.cut = b.cut) : a = b := by cases a; cases b; cases h1; cases h2; cases h3; rfl
def mv0 : Mv := ⟨0, 0, false⟩
def nthM (l : List Mv) (k : Nat) : Mv := l.getD k mv0
def nthL (l : List (List Mv)) (k : Nat) : List Mv := l.getD k []
def mvV (m : Mv) : Value := .agg #[.int .i64 m.out, .int .i64 m.side, .bool m.cut]
/-- a slice of moves -/
def Moves (w : World) (B : Nat) (v : Value) (l : List Mv) : Prop :=
  l.length * 0 ≤ 140737488351232 ∧ ∃ A c, v = .slice A l.length c ∧ l.length ≤ c ∧
    (0 < l.length → ∃ b off, A = some ⟨b, off, none⟩ ∧ b < B ∧ ∀ k, k < l.length →
      w.cell? ⟨b, off + k * 3, none⟩ = some (.int .i64 (nthM l k).out) ∧ w.cell? ⟨b, off + k * 3 + 1, none⟩ = some (.int .i64 (nthM l k).side) ∧ w.cell? ⟨b, off + k * 3 + 2, none⟩ = some (.bool (nthM l k).cut))
/-- a slice of slices of moves -/
def Drive (w : World) (B : Nat) (v : Value) (l : List (List Mv)) : Prop :=
  l.length * 0 ≤ 140737488351232 ∧ ∃ A c, v = .slice A l.length c ∧ l.length ≤ c ∧
    (0 < l.length → ∃ b off, A = some ⟨b, off, none⟩ ∧ b < B ∧ ∀ k, k < l.length → ∃ s, w.cell? ⟨b, off + k, none⟩ = some s ∧ Moves w B s (nthL l k))
/-- a pair of stones -/
structure Pr where
  bed : Fc
  run : Fc
  drive : List (List Mv)
def pairV (p : Pr) (s r d : Value) : Value := .agg #[.int .i64 p.bed.eye, .int .i64 p.bed.rings, .int .i64 p.bed.sectors, s, .int .i64 p.run.eye, .int .i64 p.run.rings, .int .i64 p.run.sectors, r, d]
def IsPair (w : World) (B : Nat) (v : Value) (p : Pr) : Prop :=
  ∃ s r d, v = pairV p s r d ∧ Ints w B s p.bed.kinds ∧ Ints w B r p.run.kinds ∧ Drive w B d p.drive

theorem Moves.mono {w w' : World} {B B' : Nat} {v : Value} {l : List Mv} (h : Moves w B v l) (hb : Below B w w') (hB : B ≤ B') : Moves w' B' v l := by
  obtain ⟨h1, A, c, rfl, h2, h3⟩ := h
  refine ⟨h1, A, c, rfl, h2, fun hp => ?_⟩
  obtain ⟨b, off, rfl, hlt, hc⟩ := h3 hp
  exact ⟨b, off, rfl, by omega, fun k hk => ⟨keepd (hc k hk).1 hb hlt, keepd (hc k hk).2.1 hb hlt, keepd (hc k hk).2.2 hb hlt⟩⟩
theorem Drive.mono {w w' : World} {B B' : Nat} {v : Value} {l : List (List Mv)} (h : Drive w B v l) (hb : Below B w w') (hB : B ≤ B') : Drive w' B' v l := by
  obtain ⟨h1, A, c, rfl, h2, h3⟩ := h
  refine ⟨h1, A, c, rfl, h2, fun hp => ?_⟩
  obtain ⟨b, off, rfl, hlt, hc⟩ := h3 hp
  refine ⟨b, off, rfl, by omega, fun k hk => ?_⟩
  obtain ⟨s, hs, hm⟩ := hc k hk
  exact ⟨s, keepd hs hb hlt, hm.mono hb hB⟩
theorem IsPair.mono {w w' : World} {B B' : Nat} {v : Value} {p : Pr} (h : IsPair w B v p) (hb : Below B w w') (hB : B ≤ B') : IsPair w' B' v p := by
  obtain ⟨s, r, d, rfl, h1, h2, h3⟩ := h
  exact ⟨s, r, d, rfl, h1.mono hb hB, h2.mono hb hB, h3.mono hb hB⟩
theorem Moves.later {w w1 : World} {v : Value} {l : List Mv} (h : Moves w w.heap.size v l) (hb : Below w.heap.size w w1) : Moves w1 w1.heap.size v l := h.mono hb hb.size
theorem Drive.later {w w1 : World} {v : Value} {l : List (List Mv)} (h : Drive w w.heap.size v l) (hb : Below w.heap.size w w1) : Drive w1 w1.heap.size v l := h.mono hb hb.size
theorem IsPair.later {w w1 : World} {v : Value} {p : Pr} (h : IsPair w w.heap.size v p) (hb : Below w.heap.size w w1) : IsPair w1 w1.heap.size v p := h.mono hb hb.size
def FaceAt (w : World) (v : Value) (f : Fc) : Prop := IsFace w w.heap.size v f
theorem FaceAt.later {w w1 : World} {v : Value} {f : Fc} (h : FaceAt w v f) (hb : Below w.heap.size w w1) : FaceAt w1 v f := IsFace.mono h hb hb.size

/-- a move comes before another one -/
def bfB (a b : Mv) : Bool := decide (a.out < b.out) || (decide (a.out = b.out) && (decide (a.side < b.side) || (decide (a.side = b.side) && (!a.cut && b.cut))))
def mvB (a : Mv) : Bool := inB a.out (-1) 1 && inB a.side (-1) 1
/-- the moves from number k on behind a move are as they must be -/
def lstGo : Mv → List Mv → Bool
  | _, [] => true
  | a, b :: l => mvB b && bfB a b && lstGo b l
/-- the place k of a list is as it must be -/
def okAt (l : List Mv) (k : Nat) : Bool := mvB (nthM l k) && (decide (k = 0) || bfB (nthM l (k - 1)) (nthM l k))
def okTo (l : List Mv) : Nat → Bool
  | 0 => true
  | k + 1 => okTo l k && okAt l k
def listB (l : List Mv) : Bool := inB l.length 1 3 && okTo l l.length
theorem okTo_false {l : List Mv} {k n : Nat} (h : okAt l k = false) (hk : k < n) : okTo l n = false := by
  induction n with
  | zero => omega
  | succ n ih =>
    rcases Nat.lt_succ_iff_lt_or_eq.1 hk with h1 | rfl
    · rw [okTo, ih h1]; rfl
    · rw [okTo, h, Bool.and_false]
theorem okTo_at {l : List Mv} {n : Nat} (h : okTo l n = true) {k : Nat} (hk : k < n) : okAt l k = true := by
  cases h1 : okAt l k
  · rw [okTo_false h1 hk] at h; cases h
  · rfl
def drvB (d : List (List Mv)) : Bool := decide (d.length = 9) && d.all listB
def fitB (p : Pr) : Bool := validB p.bed && validB p.run && decide (p.bed.eye = p.run.eye) && decide (p.bed.rings = p.run.rings) && decide (p.bed.sectors = p.run.sectors)
def stN (p : Pr) : Int := p.bed.rings * p.bed.sectors * p.bed.sectors
/-- what is wrong with a pair -/
def ckE (p : Pr) : Int := if fitB p && drvB p.drive then (if stN p ≤ 65536 then 0 else 2) else 20
structure St3 where
  ring : Int
  sector : Int
  turn : Int
def stV (s : St3) : Value := .agg #[.int .i64 s.ring, .int .i64 s.sector, .int .i64 s.turn]
def st0 : St3 := ⟨0, 0, 0⟩
def hasB (p : Pr) (s : St3) : Bool := inB s.ring 0 (p.bed.rings - 1) && inB s.sector 0 (p.bed.sectors - 1) && inB s.turn 0 (p.bed.sectors - 1)
/-- what is wrong with a pair and a state -/
def asE (p : Pr) (s : St3) : Int := if ckE p = 0 then (if hasB p s then 0 else 21) else ckE p
def numI (p : Pr) (s : St3) : Int := (s.turn * p.bed.rings + s.ring) * p.bed.sectors + s.sector
def stateI (p : Pr) (i : Int) : St3 := ⟨i / p.bed.sectors % p.bed.rings, i % p.bed.sectors, i / p.bed.sectors / p.bed.rings⟩
def arnd (n m : Int) : Int := n % m
def belowI (p : Pr) (s : St3) : Int := s.ring * p.bed.sectors + s.sector
def aboveI (p : Pr) (s : St3) : Int := s.ring * p.bed.sectors + arnd (s.sector - s.turn) p.bed.sectors
def bedK (p : Pr) (s : St3) : Int := nth p.bed.kinds (belowI p s).toNat
def runK (p : Pr) (s : St3) : Int := nth p.run.kinds (aboveI p s).toNat
def movesL (p : Pr) (s : St3) : List Mv := nthL p.drive (3 * bedK p s + runK p s).toNat
def outB (p : Pr) (s : St3) (m : Mv) : Bool := decide (s.ring + m.out = p.bed.rings)
def nextS (p : Pr) (s : St3) (m : Mv) : St3 := if outB p s m then st0 else ⟨max 0 (s.ring + m.out), arnd (s.sector + m.side) p.bed.sectors, arnd (s.turn + 1) p.bed.sectors⟩

theorem ckE_zero {p : Pr} (h : ckE p = 0) : fitB p = true ∧ drvB p.drive = true ∧ stN p ≤ 65536 := by
  unfold ckE at h
  split at h
  · rename_i h1
    rw [Bool.and_eq_true] at h1
    split at h
    · exact ⟨h1.1, h1.2, by assumption⟩
    · omega
  · omega
theorem validB_parts {f : Fc} (h : validB f = true) : ((1 ≤ f.eye ∧ f.eye ≤ 16) ∧ (1 ≤ f.rings ∧ f.rings ≤ 24) ∧ 2 ≤ f.sectors ∧ f.sectors ≤ 96) ∧ (f.kinds.length : Int) = f.rings * f.sectors ∧ kindsB f.kinds = true := by
  unfold validB at h
  rw [Bool.and_eq_true, Bool.and_eq_true, sizesB_iff, decide_eq_true_iff, and_assoc] at h
  exact h
theorem fitB_parts {p : Pr} (h : fitB p = true) : validB p.bed = true ∧ validB p.run = true ∧ p.bed.eye = p.run.eye ∧ p.bed.rings = p.run.rings ∧ p.bed.sectors = p.run.sectors := by
  unfold fitB at h
  rw [Bool.and_eq_true, Bool.and_eq_true, Bool.and_eq_true, Bool.and_eq_true, decide_eq_true_iff, decide_eq_true_iff, decide_eq_true_iff] at h
  exact ⟨h.1.1.1.1, h.1.1.1.2, h.1.1.2, h.1.2, h.2⟩
end Go.Proofs.YtikfiallhmhicaaGreat

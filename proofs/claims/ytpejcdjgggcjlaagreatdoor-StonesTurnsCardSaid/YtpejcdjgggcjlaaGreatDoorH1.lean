/- Lists of cells in memory; among. -/
import Derived.Test.YtpejcdjgggcjlaaGreatDoorC9
import Derived.Test.YtpejcdjgggcjlaaGreatDoorM4
namespace Go.Proofs.YtpejcdjgggcjlaaGreatDoor
open Go.RowKit

/-- the cell at a place of a list -/
def cth (xs : List (Int × Int)) (k : Nat) : Int × Int := xs.getD k (0, 0)
theorem cth_get {xs : List (Int × Int)} {k : Nat} (h : k < xs.length) : cth xs k = xs[k] := by simp [cth, h]
theorem cth_mem {xs : List (Int × Int)} {k : Nat} (h : k < xs.length) : cth xs k ∈ xs := by rw [cth_get h]; exact List.getElem_mem _
/-- a slice of cells in memory, below block B -/
def Cels (w : World) (B : Nat) (v : Value) (xs : List (Int × Int)) : Prop :=
  ∃ A c, v = .slice A xs.length c ∧ xs.length ≤ c ∧
    (0 < xs.length → ∃ b off, A = some ⟨b, off, none⟩ ∧ b < B ∧ ∀ k, k < xs.length → w.cell? ⟨b, off + k * 2, none⟩ = some (.int .i64 (cth xs k).1) ∧ w.cell? ⟨b, off + k * 2 + 1, none⟩ = some (.int .i64 (cth xs k).2))
theorem Cels.mono {w w' : World} {B B' : Nat} {v : Value} {xs : List (Int × Int)} (h : Cels w B v xs) (hb : Below B w w') (hB : B ≤ B') : Cels w' B' v xs := by
  obtain ⟨A, c, rfl, h2, h3⟩ := h
  refine ⟨A, c, rfl, h2, fun hp => ?_⟩
  obtain ⟨b, off, rfl, hlt, hc⟩ := h3 hp
  exact ⟨b, off, rfl, by omega, fun k hk => ⟨keepd (hc k hk).1 hb hlt, keepd (hc k hk).2 hb hlt⟩⟩
theorem Cels.nil_ (w : World) (B : Nat) : Cels w B (.slice none 0 0) [] := ⟨none, 0, rfl, Nat.le_refl _, fun h => by simp at h⟩
theorem cellRow_at (l : List (Int × Int)) : ∀ k, k < l.length → (cellRow l)[k * 2]? = some (.int .i64 (cth l k).1) ∧ (cellRow l)[k * 2 + 1]? = some (.int .i64 (cth l k).2) := by
  induction l with
  | nil => intro k hk; simp at hk
  | cons x l ih =>
    intro k hk
    rcases k with _ | k
    · exact ⟨rfl, rfl⟩
    · have := ih k (by simpa using hk)
      have e : cth (x :: l) (k + 1) = cth l k := by simp [cth]
      rw [e, show (k + 1) * 2 = k * 2 + 1 + 1 by omega]
      simpa [cellRow] using this
theorem cels_own {w : World} {base B : Nat} {v : Value} {l : List (Int × Int)} (h : w.ownsRow base 26 2 v l.length (cellRow l)) (hB : w.heap.size ≤ B) : Cels w B v l := by
  obtain ⟨h1, h2⟩ := id h
  rcases h2 with ⟨rfl, h2⟩ | ⟨g, cap, cur, rfl, h4, h5, h6, h7, h8, h9⟩
  · exact ⟨none, 0, by rw [h2], by omega, fun h => by omega⟩
  · refine ⟨_, _, rfl, h6, fun hp => ⟨g, 0, rfl, Nat.lt_of_lt_of_le (Box.lt (w := w) (t := 26) h5) hB, fun k hk => ?_⟩⟩
    have hl := cellRow_len l
    obtain ⟨e1, e2⟩ := cellRow_at l k hk
    rw [Nat.zero_add]
    exact ⟨(h.cellAt _ (by omega)).trans e1, (h.cellAt _ (by omega)).trans e2⟩

/-- a cell is in a list -/
def amongB (l : List (Int × Int)) (x : Int × Int) : Bool := l.any fun y => y.1 == x.1 && y.2 == x.2
theorem amongB_iff {l : List (Int × Int)} {x : Int × Int} : amongB l x = true ↔ x ∈ l := by
  unfold amongB
  rw [List.any_eq_true]
  constructor
  · rintro ⟨y, h1, h2⟩
    obtain ⟨a, b⟩ := x
    obtain ⟨c, d⟩ := y
    simp at h2
    rwa [← h2.1, ← h2.2]
  · intro h
    exact ⟨x, h, by simp⟩
theorem eqCell (a b c d : Int) (w : World) : (binOp .eql 26 (.agg #[.int .i64 a, .int .i64 b]) (.agg #[.int .i64 c, .int .i64 d])).run Tryz.prog w = .ok (.bool (a == c && b == d)) w := by
  have ht : Tryz.prog.underlying 26 = some (.struct (Tryz.prog.fieldsOf 26)) := by kernel_rfl
  have hp : Tryz.prog.stoodInHeld 26 = false := by kernel_rfl
  have hf : (Tryz.prog.fieldsOf 26).toList = [{ name := "Ring", type := 3, offset := 0, embedded := false, tag := "", pkgPath := "", byteOffset := 0 }, { name := "Sector", type := 3, offset := 1, embedded := false, tag := "", pkgPath := "", byteOffset := 8 }] := by kernel_rfl
  rw [run_eql_struct, run_equalIn_struct w 9999 _ _ _ ht hp, hf]
  have e1 := fun (x y : Int) => run_equalIn_int (P := Tryz.prog) (w := w) 9998 3 .i64 .i64 x y Tryz.underlying3
  cases h1 : (a == c) <;> cases h2 : (b == d) <;>
    simp [Op.eqFields, Sem.run_bind, part0, part1, e1, h1, h2]

end Go.Proofs.YtpejcdjgggcjlaaGreatDoor

/- Layer 9: bytes in memory, and lists of them. -/
import Derived.Test.YtbpbdgiglllncaaU0
import Derived.Lib.Hide
import Derived.Maps.AppendAt
import Derived.Laws.MakeOwn
set_option linter.all false
namespace Go.Proofs.Ytbpbdgiglllncaa
open Go.RowKit

/-- a slice of bytes in memory, below block B -/
def Bys (w : World) (B : Nat) (v : Value) (xs : List Int) : Prop :=
  xs.length ≤ 140737488351232 ∧ IsBy xs ∧ ∃ A c, v = .slice A xs.length c ∧ xs.length ≤ c ∧
    (0 < xs.length → ∃ b off, A = some ⟨b, off, none⟩ ∧ b < B ∧ ∀ k, k < xs.length → w.cell? ⟨b, off + k, none⟩ = some (.int .u8 (nth xs k)))
theorem Bys.by {w : World} {B : Nat} {v : Value} {xs : List Int} (h : Bys w B v xs) : IsBy xs := h.2.1
theorem Bys.mono {w w' : World} {B B' : Nat} {v : Value} {xs : List Int} (h : Bys w B v xs) (hb : Below B w w') (hB : B ≤ B') : Bys w' B' v xs := by
  obtain ⟨h1, h0, A, c, rfl, h2, h3⟩ := h
  refine ⟨h1, h0, A, c, rfl, h2, fun hp => ?_⟩
  obtain ⟨b, off, rfl, hlt, hc⟩ := h3 hp
  exact ⟨b, off, rfl, by omega, fun k hk => (hb.cell (p := ⟨b, off + k, none⟩) hlt).trans (hc k hk)⟩
theorem Bys.later {w w' : World} {v : Value} {xs : List Int} (h : Bys w w.heap.size v xs) (hb : Below w.heap.size w w') : Bys w' w'.heap.size v xs := h.mono hb hb.size
theorem Bys.more {w : World} {B B' : Nat} {v : Value} {xs : List Int} (h : Bys w B v xs) (hB : B ≤ B') : Bys w B' v xs := h.mono (Below.refl _ _) hB
theorem Bys.nil (w : World) (B : Nat) : Bys w B (.slice none 0 0) [] := ⟨by simp, fun k => by simp [nth], none, 0, rfl, Nat.le_refl _, fun h => by simp at h⟩
/-- a part of a slice of bytes -/
theorem Bys.part {w : World} {B : Nat} {A : Option Addr} {n c : Nat} {xs : List Int} (h : Bys w B (.slice A n c) xs) (l m : Nat) (hl : l ≤ m) (hm : m ≤ xs.length) :
    Bys w B (sliced A l m c 1) ((xs.drop l).take (m - l)) := by
  obtain ⟨h1, h0, A', c', e, h2, h3⟩ := h
  injection e with e1 e2 e3
  subst e1 e2 e3
  have hlen : ((xs.drop l).take (m - l)).length = m - l := by simp; omega
  refine ⟨by rw [hlen]; omega, (h0.drop l).take _, (if c = l then A else A.map (·.add (l * 1))), c - l, by rw [hlen]; rfl, by rw [hlen]; omega, fun hp => ?_⟩
  rw [hlen] at hp
  obtain ⟨b, off, rfl, hlt, hc⟩ := h3 (by omega)
  refine ⟨b, off + l, ?_, hlt, fun k hk => ?_⟩
  · rw [if_neg (by omega)]
    simp [Addr.add]
    (try (rcases l with _ | l <;> simp))
  · rw [hlen] at hk
    rw [nth_take _ _ _ (by omega), nth_drop, Nat.add_assoc]
    exact hc _ (by omega)
/-- the length and the room of a slice of bytes -/
theorem Bys.shape {w : World} {B : Nat} {v : Value} {xs : List Int} (h : Bys w B v xs) : ∃ A c, v = .slice A xs.length c ∧ xs.length ≤ c := by
  obtain ⟨h1, h0, A, c, rfl, h2, h3⟩ := h
  exact ⟨A, c, rfl, h2⟩
/-- bytes as cells -/
def bys (l : List Int) : List Value := l.map (Value.int .u8)
theorem bys_len (l : List Int) : (bys l).length = l.length := by simp [bys]
theorem bys_app (l m : List Int) : bys (l ++ m) = bys l ++ bys m := by simp [bys]
theorem bys_at (l : List Int) (k : Nat) (hk : k < l.length) : (bys l)[k]? = some (.int .u8 (nth l k)) := by
  unfold bys nth
  rw [List.getElem?_map, List.getD_eq_getElem?_getD, List.getElem?_eq_getElem hk]
  rfl
theorem bys_one (l : List Int) : ∀ u ∈ bys l, u.oneCell' = true := by
  intro u hu
  obtain ⟨x, -, rfl⟩ := List.mem_map.1 hu
  rfl
/-- what the call itself owns is a slice of bytes -/
theorem bys_own {w : World} {base B : Nat} {e : TypeId} {v : Value} {l : List Int} (h : w.ownsRow base e 1 v l.length (bys l)) (hB : w.heap.size ≤ B) (hl : l.length ≤ 140737488351232) (hb : IsBy l) : Bys w B v l := by
  refine ⟨hl, hb, ?_⟩
  have ho := h
  obtain ⟨h1, h2⟩ := h
  rcases h2 with ⟨rfl, h2⟩ | ⟨g, cap, cur, rfl, h4, h5, h6, h7, h8, h9⟩
  · exact ⟨none, 0, by rw [h2], by omega, fun h => by omega⟩
  · refine ⟨_, _, rfl, h6, fun hp => ⟨g, 0, rfl, Nat.lt_of_lt_of_le (Box.lt (w := w) (t := e) h5) hB, fun k hk => ?_⟩⟩
    rw [Nat.zero_add, ho.cellAt k (by omega)]
    exact bys_at l k hk
/-- what an append of bytes reads -/
theorem bys_news {w W : World} {B b off : Nat} {xs : List Int} (hc : ∀ k, k < xs.length → w.cell? ⟨b, off + k, none⟩ = some (.int .u8 (nth xs k))) (hb : Below B w W) (hB : b < B) :
    ∀ (j : Nat) (u : Value), (bys xs)[j]? = some u → W.cell? ((⟨b, off, none⟩ : Addr).add j) = some u := fun j u hu => by
  have hj : j < xs.length := by
    have := (List.getElem?_eq_some_iff.1 hu).1
    rwa [bys_len] at this
  have e2 : (⟨b, off, none⟩ : Addr).add j = ⟨b, off + j, none⟩ := by rcases j with _ | j <;> simp [Addr.add]
  rw [e2, keepd (hc j hj) hb hB, ← hu, bys_at xs j hj]

/-- the string made of bytes -/
theorem Bys.str {w : World} {B : Nat} {v : Value} {xs : List Int} (h : Bys w B v xs) : (convert 31 9 v).run Try.prog w = .ok (.string (strOfNums xs)) w := by
  obtain ⟨h1, h0, A, c, rfl, h2, h3⟩ := h
  rcases Nat.eq_zero_or_pos xs.length with hz | hp
  · have hx : xs = [] := List.length_eq_zero_iff.1 hz
    subst hx
    cases A with
    | none => 
      rw [run_convert_bytes_nil w 31 5 Try.underlying31 Try.underlying5 _ _ _ Try.underlying9]
      rfl
    | some a =>
      rw [run_convert_bytes_string w _ _ _ _ _ _ Try.underlying31 Try.underlying5 Try.underlying9]
      have := run_bytesToString (P := Try.prog) w a 0 c [] (by rfl)
      have e : strOfNums [] = ByteArray.empty := rfl
      rw [e]
      simpa using this
  · obtain ⟨b, off, rfl, hlt, hc⟩ := h3 hp
    exact run_convert_bytes_arg w _ _ Try.underlying31 Try.underlying5 b off _ c xs rfl hc _ Try.underlying9

/-- a slice of slices of bytes -/
def nthB (l : List (List Int)) (k : Nat) : List Int := l.getD k []
def ByL (w : World) (B : Nat) (v : Value) (l : List (List Int)) : Prop :=
  l.length * 24 ≤ 140737488351232 ∧ ∃ A c, v = .slice A l.length c ∧ l.length ≤ c ∧
    (0 < l.length → ∃ b off, A = some ⟨b, off, none⟩ ∧ b < B ∧ ∀ k, k < l.length → ∃ s, w.cell? ⟨b, off + k, none⟩ = some s ∧ Bys w B s (nthB l k))
theorem ByL.mono {w w' : World} {B B' : Nat} {v : Value} {l : List (List Int)} (h : ByL w B v l) (hb : Below B w w') (hB : B ≤ B') : ByL w' B' v l := by
  obtain ⟨h1, A, c, rfl, h2, h3⟩ := h
  refine ⟨h1, A, c, rfl, h2, fun hp => ?_⟩
  obtain ⟨b, off, rfl, hlt, hc⟩ := h3 hp
  refine ⟨b, off, rfl, by omega, fun k hk => ?_⟩
  obtain ⟨s, hs, hm⟩ := hc k hk
  exact ⟨s, keepd hs hb hlt, hm.mono hb hB⟩
theorem ByL.later {w w' : World} {v : Value} {l : List (List Int)} (h : ByL w w.heap.size v l) (hb : Below w.heap.size w w') : ByL w' w'.heap.size v l := h.mono hb hb.size
/-- the rows of a list of lists: values of slices, each of them bytes below B -/
def Cells (w : World) (B : Nat) (vs : List Value) (l : List (List Int)) : Prop := vs.length = l.length ∧ ∀ k s, vs[k]? = some s → Bys w B s (nthB l k)
theorem Cells.mono {w w' : World} {B B' : Nat} {vs : List Value} {l : List (List Int)} (h : Cells w B vs l) (hb : Below B w w') (hB : B ≤ B') : Cells w' B' vs l := ⟨h.1, fun k s hs => (h.2 k s hs).mono hb hB⟩
theorem Cells.nil (w : World) (B : Nat) : Cells w B [] [] := ⟨rfl, fun k s h => by simp at h⟩
theorem nthB_app1 (xs ys : List (List Int)) (k : Nat) (h : k < xs.length) : nthB (xs ++ ys) k = nthB xs k := by unfold nthB; simp [List.getD_eq_getElem?_getD, List.getElem?_append_left h]
theorem nthB_snoc (xs : List (List Int)) (y : List Int) : nthB (xs ++ [y]) xs.length = y := by unfold nthB; simp [List.getD_eq_getElem?_getD]
theorem Cells.snoc {w : World} {B : Nat} {vs : List Value} {l : List (List Int)} (h : Cells w B vs l) {s : Value} {b : List Int} (hs : Bys w B s b) : Cells w B (vs ++ [s]) (l ++ [b]) := by
  refine ⟨by simp [h.1], fun k u hu => ?_⟩
  rcases Nat.lt_or_ge k vs.length with hk | hk
  · rw [List.getElem?_append_left hk] at hu
    rw [nthB_app1 _ _ _ (by have := h.1; omega)]
    exact h.2 k u hu
  · have hlt : k < (vs ++ [s]).length := (List.getElem?_eq_some_iff.1 hu).1
    have hk2 : k = vs.length := by simp at hlt; omega
    subst hk2
    simp at hu
    subst hu
    rw [h.1, nthB_snoc]
    exact hs
theorem cells_one {w : World} {B : Nat} {vs : List Value} {l : List (List Int)} (h : Cells w B vs l) : ∀ u ∈ vs, u.oneCell' = true := by
  intro u hu
  obtain ⟨k, hk, rfl⟩ := List.getElem_of_mem hu
  obtain ⟨A, c, e, -⟩ := (h.2 k vs[k] (List.getElem?_eq_getElem hk)).shape
  rw [e]
  cases A <;> rfl
/-- an own row of slices is a slice of slices -/
theorem byl_own {w : World} {base B B' : Nat} {e : TypeId} {v : Value} {vs : List Value} {l : List (List Int)} (h : w.ownsRow base e 1 v l.length vs) (hc : Cells w B vs l) (hB : w.heap.size ≤ B') (hBB : B ≤ B') (h24 : l.length * 24 ≤ 140737488351232) : ByL w B' v l := by
  refine ⟨h24, ?_⟩
  have ho := h
  obtain ⟨h1, h2⟩ := h
  rcases h2 with ⟨rfl, h2⟩ | ⟨g, cap, cur, rfl, h4, h5, h6, h7, h8, h9⟩
  · exact ⟨none, 0, by rw [h2], by omega, fun h => by omega⟩
  · refine ⟨_, _, rfl, h6, fun hp => ⟨g, 0, rfl, Nat.lt_of_lt_of_le (Box.lt (w := w) (t := e) h5) hB, fun k hk => ?_⟩⟩
    have hk2 : k < vs.length := by omega
    refine ⟨vs[k], ?_, (hc.2 k _ (List.getElem?_eq_getElem hk2)).more hBB⟩
    rw [Nat.zero_add, ho.cellAt k (by omega), List.getElem?_eq_getElem hk2]
end Go.Proofs.Ytbpbdgiglllncaa

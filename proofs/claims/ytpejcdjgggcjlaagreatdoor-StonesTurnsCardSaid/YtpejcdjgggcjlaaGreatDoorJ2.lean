/- The cells of a kind, as both tell them; the specification's Area. -/
import Derived.Test.YtpejcdjgggcjlaaGreatDoorJ1
import Derived.Test.YtpejcdjgggcjlaaGreatDoorF4
namespace Go.Proofs.YtpejcdjgggcjlaaGreatDoor
open Go.RowKit

/-- the cells of a kind among the first ones -/
def kindCells (f : Fc) (kind : Int) : Nat → List (Int × Int)
  | 0 => []
  | n + 1 => kindCells f kind n ++ if nth f.kinds n = kind then [cellOf f n] else []
theorem kindCells_hit {f : Fc} {kind : Int} {k : Nat} (h : (nth f.kinds k == kind) = true) : kindCells f kind (k + 1) = kindCells f kind k ++ [cellOf f k] := by
  rw [kindCells, if_pos (by simpa using h)]
theorem kindCells_miss {f : Fc} {kind : Int} {k : Nat} (h : (nth f.kinds k == kind) = false) : kindCells f kind (k + 1) = kindCells f kind k := by
  rw [kindCells, if_neg (by simpa using h), List.append_nil]
theorem kindCells_len (f : Fc) (kind : Int) (n : Nat) : (kindCells f kind n).length ≤ n := by
  induction n with
  | zero => simp [kindCells]
  | succ n ih => rw [kindCells, List.length_append]; split <;> simp <;> omega

/-- the cells that are told of a kind -/
def kcOf (f : Fc) (kind : Int) : List (Int × Int) := if ckKind f kind = 0 then kindCells f kind f.kinds.length else []

/-- what memory looks like while cells are collected -/
structure ClSt (w wr : World) (f : Fc) (s : Value) (L : List (Int × Int)) (ov : Value) : Prop where
  b0 : Box wr w.heap.size 24 #[.int .i64 f.eye, .int .i64 f.rings, .int .i64 f.sectors, s]
  own : wr.ownsRow (w.heap.size + 1) 26 2 ov L.length (cellRow L)
  bel : Below w.heap.size w wr
theorem ClSt.later {w wr W : World} {f : Fc} {s : Value} {L : List (Int × Int)} {ov : Value} (h : ClSt w wr f s L ov) (hb : Below wr.heap.size wr W) : ClSt w W f s L ov :=
  ⟨h.b0.later hb, own_later h.own hb, chain h.bel hb⟩
/-- one more cell behind those that are there -/
theorem ClSt.more {w wr w7 : World} {f : Fc} {s ov v' : Value} {L : List (Int × Int)} {a b : Int} (h : ClSt w wr f s L ov)
    (hown : w7.ownsRow (w.heap.size + 1) 26 2 v' (L.length + 1) (cellRow L ++ [.int .i64 a, .int .i64 b])) (hg : (wr.alloc (.cells #[.int .i64 a, .int .i64 b] 26)).grownBy w7 ov.ownBlock) : ClSt w w7 f s (L ++ [(a, b)]) v' := by
  have ho6 := h.own.alloc (.cells #[.int .i64 a, .int .i64 b] 26)
  have hlt := h.b0.lt
  refine ⟨(h.b0.alloc _).grown hg (own_far2 ho6 (by omega)), ?_, ?_⟩
  · rw [List.length_append, cellRow_snoc]; exact hown
  · exact (h.bel.alloc (by omega) _).grown hg (by simp; omega) (fun q e => by have := (ho6.lt q e).1; omega)

set_option maxRecDepth 100000 in
set_option maxHeartbeats 4000000 in
theorem rCells_c (f : Fc) (v : Value) (kind : Int) (w : World) (h : IsFace w w.heap.size v f) :
    Calls Tryz.prog 22 #[v, .int .i64 kind] w fun e w' => ∃ lv, e = .returned (.tuple #[lv, .int .i64 (ckKind f kind)]) ∧ Cels w' w'.heap.size lv (kcOf f kind) ∧ Below w.heap.size w w' := by
  have hF := h
  obtain ⟨s, rfl, hlen, A, cp, rfl, hcap, hcell⟩ := h
  have b0 := Box.made w 24 #[.int .i64 f.eye, .int .i64 f.rings, .int .i64 f.sectors, .slice A f.kinds.length cp]
  cases hv : validB f
  · have He := Lib.hid (show ckKind f kind = 10 by simp [ckKind, hv])
    have Hc := Lib.hid (show kcOf f kind = [] by simp [kcOf, He.out])
    clear hcell
    go_enter Tryz.func22, Tryz.ntmps22
    go_wp2_with fail
    refine (rValid_c f _ _ (hF.box _)).mono ?_; rintro e w1 ⟨rfl, hb⟩
    rw [hv]
    go_wp2_with fail
    go_ret2
    exact ⟨_, by rw [He.out]; rfl, by rw [Hc.out]; exact Cels.nil_ _ _, boxed hb⟩
  cases hk : inB kind 0 2
  · have He := Lib.hid (show ckKind f kind = 1 by simp [ckKind, hv, hk])
    have Hc := Lib.hid (show kcOf f kind = [] by simp [kcOf, He.out])
    clear hcell
    go_enter Tryz.func22, Tryz.ntmps22
    go_wp2_with fail
    refine (rValid_c f _ _ (hF.box _)).mono ?_; rintro e w1 ⟨rfl, hb⟩
    rw [hv]
    go_wp2_with (go_at_call 54; refine (rwithin_c _ _ _ _).mono ?_; rintro e w' ⟨rfl, rfl⟩)
    go_ret2
    exact ⟨_, by rw [He.out]; rfl, by rw [Hc.out]; exact Cels.nil_ _ _, boxed hb⟩
  have He := Lib.hid (show ckKind f kind = 0 by simp [ckKind, hv, hk])
  have Hc := Lib.hid (show kcOf f kind = kindCells f kind f.kinds.length by simp [kcOf, He.out])
  obtain ⟨⟨⟨a1, a2⟩, ⟨a3, a4⟩, a5, a6⟩, -, -⟩ := validB_iff.1 hv
  have hl6 : f.kinds.length ≤ 2304 := (len_val hv).2.2
  go_enter Tryz.func22, Tryz.ntmps22
  go_wp2_with fail
  refine (rValid_c f _ _ (hF.box _)).mono ?_; rintro e w1 ⟨rfl, hb⟩
  rw [hv]
  go_wp2_with (go_at_call 54; refine (rwithin_c _ _ _ _).mono ?_; rintro e w' ⟨rfl, rfl⟩)
  have hst : ClSt w w1 f (.slice A f.kinds.length cp) [] (.slice none 0 0) := ⟨b0.later hb, World.ownsRow_nil _ _ _ _, boxed hb⟩
  clear b0 hb
  go_loopw [6, 7] (fun ov i wr => ∃ k : Nat, k ≤ f.kinds.length ∧ i = .int .i64 (k : Int) ∧ ClSt w wr f (.slice A f.kinds.length cp) (kindCells f kind k) ov) (fun _ i _ => f.kinds.length - (intOf i).toNat)
  case atStart => exact ⟨0, Nat.zero_le _, rfl, hst⟩
  case round =>
    clear hst
    obtain ⟨k, hk, rfl, hst⟩ := hrel
    have g0 : wr.cell? ⟨w.heap.size, 0, none⟩ = some (.int .i64 f.eye) := hst.b0.cell 0
    have g1 : wr.cell? ⟨w.heap.size, 1, none⟩ = some (.int .i64 f.rings) := hst.b0.cell 1
    have g2 : wr.cell? ⟨w.heap.size, 2, none⟩ = some (.int .i64 f.sectors) := hst.b0.cell 2
    have g3 : wr.cell? ⟨w.heap.size, 3, none⟩ = some (.slice A f.kinds.length cp) := hst.b0.cell 3
    have i0 : (0 : Int) ≤ (k : Int) := Int.natCast_nonneg _
    by_cases hlt : k < f.kinds.length
    · obtain ⟨b, off, rfl, hbB, hcc⟩ := hcell (by omega)
      have hx := keepd (hcc k hlt) hst.bel hbB
      have hdk : decide ((k : Int) < (f.kinds.length : Int)) = true := by simpa using hlt
      have i1 : (k : Int) < (f.kinds.length : Int) := by omega
      have Hlt := Lib.hid (show k + 1 ≤ f.kinds.length ∧ f.kinds.length - (k + 1) < f.kinds.length - k by omega)
      clear hcell hcc
      cases hz : (nth f.kinds k == kind)
      · have Hs := Lib.hid (kindCells_miss hz)
        go_wp2_with fail
        go_roundw
        case rel => exact ⟨k + 1, Hlt.out.1, by go_num, by rw [Hs.out]; exact hst⟩
        case measure => have := Hlt.out; simp [intOf]; omega
      · have hs := kindCells_hit hz
        go_wp2_with fail
        refine (rPlace_c f _ (k : Int) wr (by omega) (by omega) (by omega) (by omega)).mono ?_; rintro e w2 ⟨rfl, hb2⟩
        have h2 := hst.later hb2
        obtain ⟨x, hx⟩ : ∃ x, x = (k : Int) / f.sectors := ⟨_, rfl⟩
        obtain ⟨y, hy⟩ : ∃ y, y = (k : Int) % f.sectors := ⟨_, rfl⟩
        have hxy : cellOf f k = (x, y) := by rw [hx, hy]; rfl
        rw [hxy] at hs
        have Hs := Lib.hid hs
        rw [← hx, ← hy]
        have hlenk := kindCells_len f kind k
        have hlt0 := h2.b0.lt
        clear hx hy hxy hs hz hst hb2 g0 g1 g2 g3
        obtain ⟨i0, hi, hz0, hz1, hz2⟩ : ∃ i, Tryz.prog.info? 26 = some i ∧ i.zero = some (.agg #[.int .i64 0, .int .i64 0]) ∧ i.size = 2 ∧ i.bytes = 16 := ⟨_, rfl, rfl, rfl, rfl⟩
        have hnews : ∀ (j : Nat) (u : Value), [Value.int .i64 x, .int .i64 y][j]? = some u → (w2.alloc (.cells #[.int .i64 x, .int .i64 y] 26)).cell? ((⟨w2.heap.size, 0, none⟩ : Addr).add j) = some u := fun j u h => by
          have e := Box.made w2 26 #[.int .i64 x, .int .i64 y]
          rcases j with _ | _ | j
          · exact (e.cell 0).trans h
          · exact (e.cell 1).trans h
          · simp at h
        have h1c : ∀ u ∈ [Value.int .i64 x, .int .i64 y], u.oneCell' = true := by intro u hu; simp at hu; rcases hu with rfl | rfl <;> rfl
        have hk1 : (kindCells f kind k).length + 1 ≤ maxLen := by unfold maxLen; omega
        have hk2 : ((kindCells f kind k).length + 1) * 16 ≤ 140737488355328 := by omega
        have hk3 : w.heap.size + 1 ≤ (w2.alloc (.cells #[.int .i64 x, .int .i64 y] 26)).heap.size := by simp; omega
        have ho6 := h2.own.alloc (.cells #[.int .i64 x, .int .i64 y] 26)
        go_wp2_with (first
          | (at_builtin; refine wpList_append_own_at _ rfl _ _ 39 rfl (w.heap.size + 1) 26 i0 (.agg #[.int .i64 0, .int .i64 0]) 2 16 Tryz.underlying39 hi hz0 hz1 hz2 rfl (by decide) u6 _ _ rfl ho6 ⟨w2.heap.size, 0, none⟩ 1 1 [.int .i64 x, .int .i64 y] rfl rfl hnews h1c hk1 hk2 hk3 ?_; intro v' w7 hown7 hgrow7 _ _))
        go_roundw
        case rel => exact ⟨k + 1, Hlt.out.1, by go_num, by rw [Hs.out]; exact h2.more hown7 hgrow7⟩
        case measure => have := Hlt.out; simp [intOf]; omega
    · obtain rfl : k = f.kinds.length := by omega
      have hdk : decide ((f.kinds.length : Int) < (f.kinds.length : Int)) = false := by simp
      clear hcell
      go_wp2_with fail
      go_ret2
      exact ⟨_, by rw [He.out]; rfl, by rw [Hc.out]; exact cels_own hst.own (Nat.le_refl _), hst.bel⟩

set_option maxRecDepth 100000 in
set_option maxHeartbeats 4000000 in
theorem Cells_c (f : Fc) (v : Value) (kind : Int) (w : World) (h : IsFace w w.heap.size v f) :
    Calls Tryz.prog 21 #[v, .int .i64 kind] w fun e w' => ∃ lv, e = .returned (.tuple #[lv, .int .i64 (ckKind f kind)]) ∧ Cels w' w'.heap.size lv (kcOf f kind) ∧ Below w.heap.size w w' := by
  have hF := h
  obtain ⟨s, rfl, hlen, A, cp, rfl, hcap, hcell⟩ := h
  have b0 := Box.made w 24 #[.int .i64 f.eye, .int .i64 f.rings, .int .i64 f.sectors, .slice A f.kinds.length cp]
  by_cases h0 : ckKind f kind = 0
  · have hne : (ckKind f kind != 0) = false := by simp [h0]
    obtain ⟨hv, -⟩ := ckKind_ok h0
    have He := Lib.hid h0
    have Hc := Lib.hid (show kcOf f kind = kindCells f kind f.kinds.length by simp [kcOf, He.out])
    obtain ⟨⟨⟨a1, a2⟩, ⟨a3, a4⟩, a5, a6⟩, -, -⟩ := validB_iff.1 hv
    have hl6 : f.kinds.length ≤ 2304 := (len_val hv).2.2
    clear h0
    go_enter Tryz.func21, Tryz.ntmps21
    go_wp2_with fail
    refine (checkKind_c f _ kind _ (hF.box _)).mono ?_; rintro e w1 ⟨rfl, hb⟩
    have hst : ClSt w w1 f (.slice A f.kinds.length cp) [] (.slice none 0 0) := ⟨b0.later hb, World.ownsRow_nil _ _ _ _, boxed hb⟩
    have g3 : w1.cell? ⟨w.heap.size, 3, none⟩ = some (.slice A f.kinds.length cp) := hst.b0.cell 3
    clear b0 hb
    go_wp2_with fail
    clear g3
    go_loopw [7, 19] (fun ov i wr => ∃ k : Nat, k ≤ f.kinds.length ∧ i = .int .i64 (k : Int) ∧ ClSt w wr f (.slice A f.kinds.length cp) (kindCells f kind k) ov) (fun _ i _ => f.kinds.length - (intOf i).toNat)
    case atStart => exact ⟨0, Nat.zero_le _, rfl, hst⟩
    case round =>
      clear hst
      obtain ⟨k, hk, rfl, hst⟩ := hrel
      have g0 : wr.cell? ⟨w.heap.size, 0, none⟩ = some (.int .i64 f.eye) := hst.b0.cell 0
      have g1 : wr.cell? ⟨w.heap.size, 1, none⟩ = some (.int .i64 f.rings) := hst.b0.cell 1
      have g2 : wr.cell? ⟨w.heap.size, 2, none⟩ = some (.int .i64 f.sectors) := hst.b0.cell 2
      have g3 : wr.cell? ⟨w.heap.size, 3, none⟩ = some (.slice A f.kinds.length cp) := hst.b0.cell 3
      have i0 : (0 : Int) ≤ (k : Int) := Int.natCast_nonneg _
      by_cases hlt : k < f.kinds.length
      · obtain ⟨b, off, rfl, hbB, hcc⟩ := hcell (by omega)
        have hx := keepd (hcc k hlt) hst.bel hbB
        have hdk : decide ((k : Int) < (f.kinds.length : Int)) = true := by simpa using hlt
        have i1 : (k : Int) < (f.kinds.length : Int) := by omega
        have Hlt := Lib.hid (show k + 1 ≤ f.kinds.length ∧ f.kinds.length - (k + 1) < f.kinds.length - k by omega)
        clear hcell hcc
        cases hz : (nth f.kinds k == kind)
        · have Hs := Lib.hid (kindCells_miss hz)
          go_wp2_with fail
          go_roundw
          case rel => exact ⟨k + 1, Hlt.out.1, by go_num, by rw [Hs.out]; exact hst⟩
          case measure => have := Hlt.out; simp [intOf]; omega
        · have hs := kindCells_hit hz
          go_wp2_with fail
          refine (cellAt_c f (some ⟨b, off, none⟩) f.kinds.length cp (k : Int) wr (by omega) (by omega) (by omega) (by omega)).mono ?_; rintro e w2 ⟨rfl, hb2⟩
          have h2 := hst.later hb2
          obtain ⟨x, hx⟩ : ∃ x, x = (k : Int) / f.sectors := ⟨_, rfl⟩
          obtain ⟨y, hy⟩ : ∃ y, y = (k : Int) % f.sectors := ⟨_, rfl⟩
          have hxy : cellOf f k = (x, y) := by rw [hx, hy]; rfl
          rw [hxy] at hs
          have Hs := Lib.hid hs
          rw [← hx, ← hy]
          have hlenk := kindCells_len f kind k
          have hlt0 := h2.b0.lt
          clear hx hy hxy hs hz hst hb2 g0 g1 g2 g3
          obtain ⟨i0, hi, hz0, hz1, hz2⟩ : ∃ i, Tryz.prog.info? 26 = some i ∧ i.zero = some (.agg #[.int .i64 0, .int .i64 0]) ∧ i.size = 2 ∧ i.bytes = 16 := ⟨_, rfl, rfl, rfl, rfl⟩
          have hnews : ∀ (j : Nat) (u : Value), [Value.int .i64 x, .int .i64 y][j]? = some u → (w2.alloc (.cells #[.int .i64 x, .int .i64 y] 26)).cell? ((⟨w2.heap.size, 0, none⟩ : Addr).add j) = some u := fun j u h => by
            have e := Box.made w2 26 #[.int .i64 x, .int .i64 y]
            rcases j with _ | _ | j
            · exact (e.cell 0).trans h
            · exact (e.cell 1).trans h
            · simp at h
          have h1c : ∀ u ∈ [Value.int .i64 x, .int .i64 y], u.oneCell' = true := by intro u hu; simp at hu; rcases hu with rfl | rfl <;> rfl
          have hk1 : (kindCells f kind k).length + 1 ≤ maxLen := by unfold maxLen; omega
          have hk2 : ((kindCells f kind k).length + 1) * 16 ≤ 140737488355328 := by omega
          have hk3 : w.heap.size + 1 ≤ (w2.alloc (.cells #[.int .i64 x, .int .i64 y] 26)).heap.size := by simp; omega
          have ho6 := h2.own.alloc (.cells #[.int .i64 x, .int .i64 y] 26)
          go_wp2_with (first
            | (at_builtin; refine wpList_append_own_at _ rfl _ _ 39 rfl (w.heap.size + 1) 26 i0 (.agg #[.int .i64 0, .int .i64 0]) 2 16 Tryz.underlying39 hi hz0 hz1 hz2 rfl (by decide) u7 _ _ rfl ho6 ⟨w2.heap.size, 0, none⟩ 1 1 [.int .i64 x, .int .i64 y] rfl rfl hnews h1c hk1 hk2 hk3 ?_; intro v' w7 hown7 hgrow7 _ _))
          go_roundw
          case rel => exact ⟨k + 1, Hlt.out.1, by go_num, by rw [Hs.out]; exact h2.more hown7 hgrow7⟩
          case measure => have := Hlt.out; simp [intOf]; omega
      · obtain rfl : k = f.kinds.length := by omega
        have hdk : decide ((f.kinds.length : Int) < (f.kinds.length : Int)) = false := by simp
        clear hcell
        go_wp2_with fail
        go_ret2
        exact ⟨_, by rw [He.out]; rfl, by rw [Hc.out]; exact cels_own hst.own (Nat.le_refl _), hst.bel⟩
  · have hne : (ckKind f kind != 0) = true := by simpa using h0
    have Hc := Lib.hid (show kcOf f kind = [] by simp [kcOf, h0])
    clear h0 hcell
    go_enter Tryz.func21, Tryz.ntmps21
    go_wp2_with fail
    refine (checkKind_c f _ kind _ (hF.box _)).mono ?_; rintro e w1 ⟨rfl, hb⟩
    go_wp2_with fail
    go_ret2
    exact ⟨_, rfl, by rw [Hc.out]; exact Cels.nil_ _ _, boxed hb⟩

/-- the areas of cells -/
def ringSum (f : Fc) (l : List (Int × Int)) : Int := (l.map fun x => 2 * (f.eye + x.1) + 1).sum
theorem ringSum_snoc (f : Fc) (l : List (Int × Int)) (x : Int × Int) : ringSum f (l ++ [x]) = ringSum f l + (2 * (f.eye + x.1) + 1) := by simp [ringSum]
theorem ringSum_kind (f : Fc) (kind : Int) (n : Nat) : ringSum f (kindCells f kind n) = areaTo f kind n := by
  induction n with
  | zero => rfl
  | succ n ih =>
    rw [kindCells, areaTo]
    split
    · rw [ringSum_snoc, ih]; rfl
    · rw [List.append_nil, ih]; omega
theorem ringSum_take {f : Fc} {l : List (Int × Int)} {k : Nat} (h : k < l.length) : ringSum f (l.take (k + 1)) = ringSum f (l.take k) + (2 * (f.eye + (cth l k).1) + 1) := by
  rw [List.take_succ_eq_append_getElem h, ringSum_snoc, cth_get h]
theorem ringSum_bd {f : Fc} {kind : Int} (h3 : 2 ≤ f.sectors) (h4 : (f.kinds.length : Int) ≤ f.rings * f.sectors) (h5 : f.rings ≤ 24) :
    (∀ k, k < (kindCells f kind f.kinds.length).length → 0 ≤ (cth (kindCells f kind f.kinds.length) k).1 ∧ (cth (kindCells f kind f.kinds.length) k).1 ≤ 23) := by
  intro k hk
  have hm := cth_mem hk
  have : ∀ n : Nat, (n : Int) ≤ f.rings * f.sectors → ∀ x ∈ kindCells f kind n, 0 ≤ x.1 ∧ x.1 ≤ 23 := by
    intro n
    induction n with
    | zero => intro _ x hx; simp [kindCells] at hx
    | succ n ih =>
      intro hn x hx
      rw [kindCells, List.mem_append] at hx
      rcases hx with hx | hx
      · exact ih (by omega) x hx
      · split at hx
        · simp at hx
          subst hx
          have h6 : (n : Int) / f.sectors < f.rings := Int.ediv_lt_of_lt_mul (by omega) (by omega)
          have h7 : 0 ≤ (n : Int) / f.sectors := Int.ediv_nonneg (by omega) (by omega)
          exact ⟨h7, by show (n : Int) / f.sectors ≤ 23; omega⟩
        · simp at hx
  exact this _ h4 _ hm
theorem ringSum_to {f : Fc} {l : List (Int × Int)} (h1 : 1 ≤ f.eye) (h2 : f.eye ≤ 16) (h : ∀ k, k < l.length → 0 ≤ (cth l k).1 ∧ (cth l k).1 ≤ 23) (k : Nat) (hk : k ≤ l.length) : 0 ≤ ringSum f (l.take k) ∧ ringSum f (l.take k) ≤ 81 * k := by
  induction k with
  | zero => simp [ringSum]
  | succ k ih =>
    have ih := ih (by omega)
    have hx := h k (by omega)
    rw [ringSum_take (by omega)]
    omega

end Go.Proofs.YtpejcdjgggcjlaaGreatDoor

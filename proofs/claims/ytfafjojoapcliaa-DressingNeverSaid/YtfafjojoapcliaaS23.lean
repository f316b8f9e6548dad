/- Where points are lifted without end, whatever is noted at first, the way back comes to a ring: mathematics alone. The longest walks of the specification, with what is noted where they have no end. -/
import Derived.Test.YtfafjojoapcliaaS18
import Derived.Test.YtfafjojoapcliaaR9
set_option linter.all false
namespace Go.Proofs.Ytfafjojoapcliaa

/-- what is noted, where nothing need be noted at points that stand at 0 -/
def NotedW (es : List Eg) (n : Nat) (s : Lf) : Prop := ∀ v, v < n → nth s.L v = 0 ∨ ∃ i, i < es.length ∧ nth s.B v = (i : Int) ∧ (egAt es i).to = v ∧ nth s.L v ≤ nth s.L (egAt es i).fr + (egAt es i).more
theorem lfStep_notedW {es : List Eg} {n i : Nat} {s : Lf} (hi : i < es.length) (hto : (egAt es i).to < n) (hL : s.L.length = n) (hB : s.B.length = n) (h : NotedW es n s) : NotedW es n (lfStep (egAt es i) i s) := by
  intro v hv
  by_cases hc : nth s.L (egAt es i).to < nth s.L (egAt es i).fr + (egAt es i).more
  · have e : lfStep (egAt es i) i s = ⟨s.L.set (egAt es i).to (nth s.L (egAt es i).fr + (egAt es i).more), s.B.set (egAt es i).to (i : Int), ((egAt es i).to : Int)⟩ := by unfold lfStep; rw [if_pos hc]
    have hm := lfStep_mono (egAt es i) i s
    rw [e] at hm ⊢
    dsimp only at hm ⊢
    by_cases hv2 : (egAt es i).to = v
    · right
      refine ⟨i, hi, by rw [nth_set, if_pos ⟨hv2, by omega⟩], hv2, ?_⟩
      have := hm (egAt es i).fr
      rw [nth_set, if_pos ⟨hv2, by omega⟩]
      omega
    · rcases h v hv with h2 | ⟨j, h1, h2, h3, h4⟩
      · left
        rw [nth_set, if_neg (by omega)]; exact h2
      · right
        refine ⟨j, h1, by rw [nth_set, if_neg (by omega)]; exact h2, h3, ?_⟩
        have := hm (egAt es j).fr
        rw [nth_set, if_neg (by omega)]
        omega
  · have e : lfStep (egAt es i) i s = s := by unfold lfStep; rw [if_neg hc]
    rw [e]; exact h v hv
theorem liftTo_notedW {es : List Eg} {n : Nat} {s : Lf} (hto : ∀ x ∈ es, x.fr < n ∧ x.to < n) (hL : s.L.length = n) (hB : s.B.length = n) (h : NotedW es n s) (i : Nat) (hi : i ≤ es.length) : NotedW es n (liftTo es s i) := by
  induction i with
  | zero => exact h
  | succ i ih =>
    have hl := liftTo_len es s i
    exact lfStep_notedW (by omega) (hto _ (egAt_mem (by omega))).2 (by omega) (by omega) (ih (by omega))
theorem rounds_notedW {es : List Eg} {n : Nat} {s : Lf} (hto : ∀ x ∈ es, x.fr < n ∧ x.to < n) (hL : s.L.length = n) (hB : s.B.length = n) (h : NotedW es n s) (r : Nat) : NotedW es n (rounds es s r) := by
  induction r with
  | zero => exact h
  | succ r ih =>
    have hl := rounds_len es s r
    exact liftTo_notedW hto (by omega) (by omega) ih _ (Nat.le_refl _)
theorem rose_backW {es : List Eg} {n : Nat} {s : Lf} (hto : ∀ x ∈ es, x.fr < n ∧ x.to < n) (hL : s.L = List.replicate n 0) (hB : s.B.length = n) {N q v : Nat} (hv : v < n) (hr : nth (rounds es s q).L v < nth (rounds es s N).L v) (hq : q ≤ N) :
    ∃ i, i < es.length ∧ nth (rounds es s N).B v = (i : Int) ∧ wb es (rounds es s N).B v = (egAt es i).fr ∧ (egAt es i).fr < n ∧ (1 ≤ q → nth (rounds es s (q - 1)).L (egAt es i).fr < nth (rounds es s N).L (egAt es i).fr) := by
  have h0 : ∀ k, nth s.L k = 0 := fun k => by rw [hL, nth_rep]
  have h : NotedW es n s := fun v _ => .inl (h0 v)
  have hp : 0 ≤ nth (rounds es s q).L v := rounds_pos (fun k => by rw [h0]; omega) q v
  have hLl : s.L.length = n := by rw [hL]; simp
  rcases rounds_notedW hto hLl hB h N v hv with h2 | ⟨i, h1, h2, h3, h4⟩
  · omega
  · have hfr := hto _ (egAt_mem h1)
    refine ⟨i, h1, h2, by unfold wb; rw [h2]; rfl, hfr.1, fun hq1 => ?_⟩
    have hg := liftAll_gain (rounds es s (q - 1)) (egAt_mem h1) (by rw [(rounds_len es s (q - 1)).1, hLl]; exact hfr.2)
    have e : liftAll es (rounds es s (q - 1)) = rounds es s q := by
      obtain ⟨m, rfl⟩ : ∃ m, q = m + 1 := ⟨q - 1, by omega⟩
      rfl
    rw [e, h3] at hg
    omega
/-- the way back from the point that was lifted last: each point on it has an edge noted, and it comes to a ring -/
theorem ring_all {es : List Eg} {n : Nat} {s0 s : Lf} (hto : ∀ x ∈ es, x.fr < n ∧ x.to < n) (hL : s0.L = List.replicate n 0) (hB : s0.B.length = n) {R : Nat} (hR : n ≤ R) (hn : 1 ≤ n) (hs : rounds es s0 R = s) {v0 : Nat} (hv0 : s.last = (v0 : Int)) :
    (∀ k, wbs es s.B v0 k < n ∧ ∃ i, i < es.length ∧ nth s.B (wbs es s.B v0 k) = (i : Int) ∧ (egAt es i).fr = wbs es s.B v0 (k + 1)) ∧
    ∃ J, 1 ≤ J ∧ J ≤ n ∧ wbs es s.B v0 (n + J) = wbs es s.B v0 n ∧ ∀ k, 1 ≤ k → k < J → wbs es s.B v0 (n + k) ≠ wbs es s.B v0 n := by
  have hLl : s0.L.length = n := by rw [hL]; simp
  obtain ⟨v1, b1, b2, b3⟩ := last_rose_n (s := s0) (N := R) hto hLl (by omega) (by rw [hs, hv0]; omega)
  rw [hs] at b2 b3
  obtain rfl : v0 = v1 := by omega
  have hway : ∀ k, k < n → wbs es s.B v0 k < n ∧ nth (rounds es s0 (R - 1 - k)).L (wbs es s.B v0 k) < nth s.L (wbs es s.B v0 k) := by
    intro k
    induction k with
    | zero => intro _; exact ⟨b1, b3⟩
    | succ k ih =>
      intro hk
      obtain ⟨c1, c2⟩ := ih (by omega)
      obtain ⟨i, d1, d2, d3, d4, d5⟩ := rose_backW hto hL hB c1 (N := R) (q := R - 1 - k) (by rw [hs]; exact c2) (by omega)
      have d5' := d5 (by omega)
      rw [hs] at d3 d5'
      have e : wbs es s.B v0 (k + 1) = (egAt es i).fr := d3
      rw [e]
      refine ⟨d4, ?_⟩
      rw [show R - 1 - (k + 1) = R - 1 - k - 1 by omega]
      exact d5'
  have hnote : ∀ k, k < n → ∃ i, i < es.length ∧ nth s.B (wbs es s.B v0 k) = (i : Int) ∧ (egAt es i).fr = wbs es s.B v0 (k + 1) := by
    intro k hk
    obtain ⟨c1, c2⟩ := hway k hk
    obtain ⟨i, d1, d2, d3, d4, -⟩ := rose_backW hto hL hB c1 (N := R) (q := R - 1 - k) (by rw [hs]; exact c2) (by omega)
    rw [hs] at d2 d3
    exact ⟨i, d1, d2, d3.symm⟩
  have hlt : ∀ k, k ≤ n → wbs es s.B v0 k < n := by
    intro k hk
    rcases Nat.lt_or_ge k n with h | h
    · exact (hway k h).1
    · obtain rfl : k = n := by omega
      obtain ⟨i, h1, h2, h3⟩ := hnote (k - 1) (by omega)
      rw [show k - 1 + 1 = k by omega] at h3
      rw [← h3]
      exact (hto _ (egAt_mem h1)).1
  have hpig : ∃ a b, a < b ∧ b < n + 1 ∧ wbs es s.B v0 a = wbs es s.B v0 b := by
    by_cases h : ∃ a b, a < b ∧ b < n + 1 ∧ wbs es s.B v0 a = wbs es s.B v0 b
    · exact h
    · have := pigeon n (n + 1) (wbs es s.B v0) (fun k hk => hlt k (by omega)) (fun a b h1 h2 e => h ⟨a, b, h1, h2, e⟩)
      omega
  obtain ⟨a, b, hab, hb, heq⟩ := hpig
  have hper : ∀ k, b ≤ k → wbs es s.B v0 k = wbs es s.B v0 (k - (b - a)) := by
    intro k hk
    have e1 : wbs es s.B v0 (b + (k - b)) = wbs es s.B v0 (a + (k - b)) := by rw [wbs_add, wbs_add, heq]
    rwa [show b + (k - b) = k by omega, show a + (k - b) = k - (b - a) by omega] at e1
  refine ⟨fun k => ?_, ?_⟩
  · induction k using Nat.strongRecOn with
    | _ k ih =>
      rcases Nat.lt_or_ge k n with h | h
      · exact ⟨hlt k (by omega), hnote k h⟩
      · have e1 := hper k (by omega)
        have e2 := hper (k + 1) (by omega)
        rw [show k + 1 - (b - a) = k - (b - a) + 1 by omega] at e2
        rw [e1, e2]
        exact ih (k - (b - a)) (by omega)
  · obtain ⟨c, hc1, hc2, hc3⟩ := least_hit (f := fun k => wbs es s.B v0 (n + (k + 1))) (c := wbs es s.B v0 n) (j := b - a - 1) (by show wbs _ _ _ (n + (b - a - 1 + 1)) = _; rw [hper (n + (b - a - 1 + 1)) (by omega), show n + (b - a - 1 + 1) - (b - a) = n by omega])
    exact ⟨c + 1, by omega, by omega, hc2, fun k hk hkc => by
      have := hc3 (k - 1) (by omega)
      rwa [show k - 1 + 1 = k by omega] at this⟩
end Go.Proofs.Ytfafjojoapcliaa

set_option linter.all false
namespace Go.Proofs.Ytfafjojoapcliaa
open Go.RowKit

set_option maxRecDepth 100000 in
set_option maxHeartbeats 16000000 in
theorem farthest2_c (t : Tk) (v : Value) (w : World) (h : IsTask w w.heap.size v t) (ht : taskB t = true) :
    Calls Try.prog 34 #[v] w fun e w' => ∃ gl gb hot L B, e = .returned (.tuple #[.slice (some ⟨gl, 0, none⟩) (tM t + 1) (tM t + 1), .slice (some ⟨gb, 0, none⟩) (tM t + 1) (tM t + 1), .int .i64 hot]) ∧
      Row w' gl L ∧ Row w' gb B ∧ L.length = tM t + 1 ∧ B.length = tM t + 1 ∧ Below w.heap.size w w' ∧ ((feasB t = true ∧ hot = -1 ∧ L = lsT t) ∨ (feasB t = false ∧ ∃ v0 : Nat, hot = (v0 : Int) ∧ (rounds (edT t) (fs0 (tM t + 1)) (tM t + 2 + 1)).last = (v0 : Int) ∧ B = (rounds (edT t) (fs0 (tM t + 1)) (tM t + 2 + 1)).B)) := by
  have HT := Lib.hid h
  obtain ⟨s, rfl, A, c, rfl, hcap, hcell⟩ := h
  have HB := Lib.hid (Box.made w 24 #[.int .i64 t.wide, .slice A t.need.length c])
  have HTB := Lib.hid ht
  have AR := Lib.hid (task_parts ht)
  have A2 := Lib.hid (show (edT t).length = tM t + t.need.length * 2 ∧ 1 ≤ tM t ∧ tM t ≤ 400 ∧ 1 ≤ t.need.length ∧ t.need.length ≤ 400 ∧ (∀ x ∈ edT t, x.fr < tM t + 1 ∧ x.to < tM t + 1) ∧ (∀ x ∈ edT t, -100000 ≤ x.more ∧ x.more ≤ 100000) by
    obtain ⟨a1, a2, a3, a4, a5, a6, a7, a8⟩ := task_parts ht
    exact ⟨by unfold edT; rw [edgesOf_len], a4, by omega, by omega, a6, edgesOf_to t _ _ a4 a3, edgesOf_more t _ _ a8⟩)
  clear hcap hcell ht
  go_enter Try.func34, Try.ntmps34
  go_wp2_with fail
  refine (redges_c t _ _ (HT.out.box _) HTB.out).mono ?_; rintro e w1 ⟨lv, rfl, hre, hb1⟩
  obtain ⟨ge, cap, rfl, hge1, hge2, hcap, hE⟩ := hre.edge (by have := A2.out; omega)
  have H1 := Lib.hid (show Below w.heap.size w w1 ∧ Box w1 w.heap.size 24 #[.int .i64 t.wide, .slice A t.need.length c] ∧ w.heap.size < w1.heap.size ∧ ge < w1.heap.size from ⟨boxed hb1, HB.out.later hb1, (HB.out.later hb1).lt, hge2⟩)
  have HE := Lib.hid hE
  have k0 : w1.cell? ⟨w.heap.size, 0, none⟩ = some (.int .i64 t.wide) := H1.out.2.1.cell 0
  have k1 : w1.cell? ⟨w.heap.size, 1, none⟩ = some (.slice A t.need.length c) := H1.out.2.1.cell 1
  clear hb1 hre hge1 hge2 hcap hE
  go_wp2_with fail
  clear k0 k1
  refine (rFirsts_c t _ _ (HT.out.mono H1.out.1 H1.out.1.size) AR.out.2.2.2.2.2.2.1).mono ?_; rintro e w2 ⟨rfl, hb2⟩
  rw [AR.out.2.1]
  have H2 := Lib.hid (show Below w.heap.size w w2 ∧ Below w1.heap.size w1 w2 from ⟨H1.out.1.trans (hb2.mono H1.out.1.size), hb2⟩)
  clear hb2
  have wm : IntKind.i64.wrap ((tM t : Int) + 1) = (tM t : Int) + 1 := by have := A2.out; exact wrap_id (by omega) (by omega)
  have hmk := mkInts1 w2 (tM t) (by have := A2.out; omega)
  have hmk2 := mkInts1 (w2.alloc (.cells (Array.replicate (tM t + 1) (Value.int .i64 0)) 3)) (tM t) (by have := A2.out; omega)
  rw [World.size_alloc] at hmk2
  go_wp2_with fail
  clear hmk hmk2 wm
  obtain ⟨gl, hgl⟩ : ∃ gl, w2.heap.size = gl := ⟨_, rfl⟩
  obtain ⟨gb, hgb⟩ : ∃ gb, gl + 1 = gb := ⟨_, rfl⟩
  obtain ⟨W0, hW0⟩ : ∃ W0, ((w2.alloc (.cells (Array.replicate (tM t + 1) (Value.int .i64 0)) 3)).alloc (.cells (Array.replicate (tM t + 1) (Value.int .i64 0)) 3)) = W0 := ⟨_, rfl⟩
  have HR0 := Lib.hid (show Row W0 gl (List.replicate (tM t + 1) 0) ∧ Row W0 gb (List.replicate (tM t + 1) 0) ∧ Below gl w2 W0 by
    have r1 := Row.made w2 (tM t + 1)
    have r2 := Row.made (w2.alloc (.cells (Array.replicate (tM t + 1) (Value.int .i64 0)) 3)) (tM t + 1)
    rw [World.size_alloc] at r2
    rw [hgl] at r1 r2
    rw [hgb] at r2
    have h1 : Below gl w2 (w2.alloc (.cells (Array.replicate (tM t + 1) (Value.int .i64 0)) 3)) := (Below.refl _ _).alloc (by omega) _
    have h2 : Below gl w2 ((w2.alloc (.cells (Array.replicate (tM t + 1) (Value.int .i64 0)) 3)).alloc (.cells (Array.replicate (tM t + 1) (Value.int .i64 0)) 3)) := h1.alloc (by rw [World.size_alloc]; omega) _
    rw [← hW0]
    exact ⟨r1.below ((Below.refl (gl + 1) _).alloc (by rw [World.size_alloc]; omega) _) (by omega), r2, h2⟩)
  rw [hW0, hgl, hgb]
  have H3 := Lib.hid (show Below w.heap.size w w2 ∧ w.heap.size ≤ gl ∧ gl + 1 = gb ∧ ge < gl ∧ (∀ k j, k < (edT t).length → j < 5 → w2.cell? ⟨ge, k * 5 + j, none⟩ = (reCells (egAt (edT t) k))[j]?) from
    ⟨H2.out.1, by have := H2.out.1.size; omega, hgb, by have := H1.out.2.2.2; have := H2.out.2.size; omega, fun k j hk hj => by
      have hc := HE.out k j hk hj
      cases hcc : (reCells (egAt (edT t) k))[j]? with
      | none => rw [List.getElem?_eq_none_iff, reCells_len] at hcc; omega
      | some u => rw [hcc] at hc; exact keepd hc H2.out.2 H1.out.2.2.2⟩)
  clear hgl hgb hW0 H2 H1 HE
  go_loopw [9] (fun kv wr => ∃ k : Nat, k ≤ tM t + 1 ∧ kv = .int .i64 (k : Int) ∧ Row wr gl (List.replicate (tM t + 1) 0) ∧ Row wr gb (ngTo (tM t + 1) k) ∧ Below gl w2 wr) (fun kv _ => tM t + 1 - (intOf kv).toNat)
  case atStart => exact ⟨0, Nat.zero_le _, rfl, HR0.out.1, HR0.out.2.1, HR0.out.2.2⟩
  case round =>
    clear HR0
    obtain ⟨k, hk, rfl, hr1, hr2, hbr⟩ := hrel
    by_cases hlt : k < tM t + 1
    · have hd : decide ((k : Int) < (tM t : Int) + 1) = true := by simp; omega
      have r0 : wr.cell? ⟨gb, k, none⟩ = some (.int .i64 (nth (ngTo (tM t + 1) k) k)) := hr2.cell (by rw [ngTo_len]; exact hlt)
      have r1 := hr2.free k
      have i0 : (0 : Int) ≤ (k : Int) := by omega
      have i1 : (k : Int) < (tM t : Int) + 1 := by omega
      have i3 : k ≤ 401 := by have := A2.out; omega
      have HF := Lib.hid (show Row (wr.setCell ⟨gb, k, none⟩ (.int .i64 (-1))) gl (List.replicate (tM t + 1) 0) ∧ Row (wr.setCell ⟨gb, k, none⟩ (.int .i64 (-1))) gb (ngTo (tM t + 1) (k + 1)) ∧ Below gl w2 (wr.setCell ⟨gb, k, none⟩ (.int .i64 (-1))) from
        ⟨Box.far (w := wr) (t := 3) hr1 (by show gl ≠ gb; have := H3.out; omega) _, hr2.put k (-1), hbr.setCell (by show gl ≤ gb; have := H3.out; omega) _⟩)
      have HK := Lib.hid hlt
      clear hr1 hr2 hbr hk hlt
      generalize nth (ngTo (tM t + 1) k) k = z at *
      go_wp2_with fail
      go_roundw
      case rel => exact ⟨k + 1, by have := HK.out; omega, by go_num, HF.out.1, HF.out.2.1, HF.out.2.2⟩
      case measure => have := HK.out; simp [intOf]; omega
    · obtain rfl : k = tM t + 1 := by omega
      have hd : decide (((tM t + 1 : Nat) : Int) < (tM t : Int) + 1) = false := by simp
      have hd2 : decide ((tM t : Int) + 1 < (tM t : Int) + 1) = false := by simp
      rw [show ((tM t + 1 : Nat) : Int) = (tM t : Int) + 1 by omega]
      have HR := Lib.hid (⟨hr1, hr2, hbr⟩ : Row wr gl (rounds (edT t) (fs0 (tM t + 1)) 0).L ∧ Row wr gb (rounds (edT t) (fs0 (tM t + 1)) 0).B ∧ Below gl w2 wr)
      clear hr1 hr2 hbr hk hlt
      go_wp2_with fail
      clear hd hd2
      go_loopw [10] (fun rv wr => ∃ r : Nat, r ≤ tM t + 2 ∧ rv = .int .i64 (r : Int) ∧ Row wr gl (rounds (edT t) (fs0 (tM t + 1)) r).L ∧ Row wr gb (rounds (edT t) (fs0 (tM t + 1)) r).B ∧ Below gl w2 wr) (fun rv _ => tM t + 3 - (intOf rv).toNat)
      case atStart => exact ⟨0, Nat.zero_le _, rfl, HR.out.1, HR.out.2.1, HR.out.2.2⟩
      case round =>
        clear HR
        obtain ⟨r, hr, rfl, hr1, hr2, hbr⟩ := hrel
        have HR := Lib.hid (⟨hr1, hr2, hbr⟩ : Row wr gl (rounds (edT t) (fs0 (tM t + 1)) r).L ∧ Row wr gb (rounds (edT t) (fs0 (tM t + 1)) r).B ∧ Below gl w2 wr)
        have HK := Lib.hid (show r ≤ tM t + 2 ∧ tM t ≤ 400 from ⟨hr, by have := A2.out; omega⟩)
        have wm2 : IntKind.i64.wrap ((tM t : Int) + 1 + 1) = (tM t : Int) + 1 + 1 := by have := HK.out; exact wrap_id (by omega) (by omega)
        have hd : decide ((r : Int) ≤ (tM t : Int) + 1 + 1) = true := by simp; omega
        have i3 : r ≤ 402 := by have := HK.out; omega
        clear hr1 hr2 hbr hr
        go_wp2_with fail
        clear hd
        obtain ⟨s, hs⟩ : ∃ s, rounds (edT t) (fs0 (tM t + 1)) r = s := ⟨_, rfl⟩
        have HBG := Lib.hid (show ∀ i, i ≤ (edT t).length → ∀ k, 0 ≤ nth (liftTo (edT t) s i).L k ∧ nth (liftTo (edT t) s i).L k ≤ 100000000000 from fun i hi k => by
          rw [← hs]
          exact lift_big (es := edT t) (N := tM t + 1) (fun x hx => (A2.out.2.2.2.2.2.2 x hx).2) (by have := A2.out; omega) (show (fs0 (tM t + 1)).L = List.replicate (tM t + 1) 0 from rfl) (by have := HK.out; omega) hi k)
        have HLN := Lib.hid (show s.L.length = tM t + 1 ∧ s.B.length = tM t + 1 by
          have := rounds_len (edT t) (fs0 (tM t + 1)) r
          rw [hs] at this
          have e1 : (fs0 (tM t + 1)).L.length = tM t + 1 := by simp [fs0]
          have e2 : (fs0 (tM t + 1)).B.length = tM t + 1 := ngTo_len _ _
          omega)
        have HS := Lib.hid hs
        rw [hs] at HR
        clear hs
        go_loopw [11, 12] (fun la iv wr => ∃ i : Nat, i ≤ (edT t).length ∧ iv = .int .i64 (i : Int) ∧ la = .int .i64 (liftTo (edT t) s i).last ∧ Row wr gl (liftTo (edT t) s i).L ∧ Row wr gb (liftTo (edT t) s i).B ∧ Below gl w2 wr) (fun _ iv _ => (edT t).length - (intOf iv).toNat)
        case atStart => exact ⟨0, Nat.zero_le _, rfl, rfl, HR.out.1, HR.out.2.1, HR.out.2.2⟩
        case round =>
          clear HR
          obtain ⟨i, hi, rfl, rfl, hr1, hr2, hbr⟩ := hrel
          by_cases hlt : i < (edT t).length
          · have hx := egAt_mem hlt
            have htx := A2.out.2.2.2.2.2.1 _ hx
            have hmx := A2.out.2.2.2.2.2.2 _ hx
            have hnext : liftTo (edT t) s (i + 1) = lfStep (egAt (edT t) i) i (liftTo (edT t) s i) := rfl
            have hbg := HBG.out i hi
            have hlen := liftTo_len (edT t) s i
            have hge := H3.out.2.2.2.1
            have hE0 := keepd (H3.out.2.2.2.2 i 0 hlt (by omega)) hbr hge
            have hE1 := keepd (H3.out.2.2.2.2 i 1 hlt (by omega)) hbr hge
            have hE2 := keepd (H3.out.2.2.2.2 i 2 hlt (by omega)) hbr hge
            clear hx
            generalize egAt (edT t) i = x at *
            obtain ⟨fr, to, more, cell, high⟩ := x
            generalize hst : liftTo (edT t) s i = st at *
            clear hst
            dsimp only [reCells, List.getElem?_cons_zero, List.getElem?_cons_succ, Nat.add_zero] at hE0 hE1 hE2 htx hmx
            have b1 := hbg fr
            have b2 := hbg to
            have hLL : st.L.length = tM t + 1 := by have := HLN.out; omega
            have hLB : st.B.length = tM t + 1 := by have := HLN.out; omega
            have r1 : wr.cell? ⟨gl, fr, none⟩ = some (.int .i64 (nth st.L fr)) := hr1.cell (by omega)
            have r2 : wr.cell? ⟨gl, to, none⟩ = some (.int .i64 (nth st.L to)) := hr1.cell (by omega)
            have wv : IntKind.i64.wrap (nth st.L fr + more) = nth st.L fr + more := wrap_id (by omega) (by omega)
            have hd : decide ((i : Int) < ((edT t).length : Int)) = true := by simpa using hlt
            have i0 : (0 : Int) ≤ (i : Int) := by omega
            have i1 : (i : Int) < ((edT t).length : Int) := by omega
            have i2 : i ≤ 2000 := by have := A2.out; omega
            have j0 : (0 : Int) ≤ (fr : Int) := by omega
            have j1 : (fr : Int) < (tM t : Int) + 1 := by omega
            have j2 : (0 : Int) ≤ (to : Int) := by omega
            have j3 : (to : Int) < (tM t : Int) + 1 := by omega
            have HKi := Lib.hid (show i < (edT t).length ∧ fr < tM t + 1 ∧ to < tM t + 1 from ⟨hlt, htx.1, htx.2⟩)
            have HRR := Lib.hid (⟨hr1, hr2, hbr, hLL, hLB⟩ : Row wr gl st.L ∧ Row wr gb st.B ∧ Below gl w2 wr ∧ st.L.length = tM t + 1 ∧ st.B.length = tM t + 1)
            have HN := Lib.hid hnext
            clear htx hmx hnext hbg b1 b2 hr1 hr2 hbr hi hlt hLL hLB hlen hge
            by_cases hc : nth st.L to < nth st.L fr + more
            · have hst' : liftTo (edT t) s (i + 1) = ⟨st.L.set to (nth st.L fr + more), st.B.set to (i : Int), (to : Int)⟩ := by rw [HN.out]; unfold lfStep; rw [if_pos hc]
              have HST := Lib.hid hst'
              have hdc : decide (nth st.L to < nth st.L fr + more) = true := by simpa using hc
              clear hst' hc
              go_wp2_with fail
              go_quiet (fail)
              generalize nq = n1 at *
              go_wp2_with fail
              obtain ⟨W3, hW3⟩ : ∃ W3, (wr.drewN n1).drew = W3 := ⟨_, rfl⟩
              have hbq : Below wr.heap.size wr W3 := by
                rw [← hW3]
                have h0 := Below.refl wr.heap.size wr
                exact ⟨h0.os, h0.tape, h0.output, h0.size, h0.block⟩
              have hr1' := HRR.out.1.later hbq
              have hr2' := HRR.out.2.1.later hbq
              have hbr' : Below gl w2 W3 := HRR.out.2.2.1.trans (hbq.mono (by have := HRR.out.1.lt; omega))
              have m1 : W3.cell? ⟨gl, fr, none⟩ = some (.int .i64 (nth st.L fr)) := hr1'.cell (by have := HRR.out; have := HKi.out; omega)
              have m4 : W3.cell? ⟨gl, to, none⟩ = some (.int .i64 (nth st.L to)) := hr1'.cell (by have := HRR.out; have := HKi.out; omega)
              have m5 : W3.cell? ⟨gb, to, none⟩ = some (.int .i64 (nth st.B to)) := hr2'.cell (by have := HRR.out; have := HKi.out; omega)
              have m6 := hr1'.free to
              have m7 := hr2'.free to
              have f0 := keepd hE0 hbq (by have := HRR.out.1.lt; have := H3.out; omega)
              have f1 := keepd hE1 hbq (by have := HRR.out.1.lt; have := H3.out; omega)
              have f2 := keepd hE2 hbq (by have := HRR.out.1.lt; have := H3.out; omega)
              have d1 : gl ≠ gb := by have := H3.out; omega
              have d2 : gb ≠ gl := by have := H3.out; omega
              have d3 : ge ≠ gl := by have := H3.out; omega
              have d4 : ge ≠ gb := by have := H3.out; omega
              have HF := Lib.hid (show Row ((W3.setCell ⟨gl, to, none⟩ (.int .i64 (nth st.L fr + more))).setCell ⟨gb, to, none⟩ (.int .i64 (i : Int))) gl (st.L.set to (nth st.L fr + more)) ∧ Row ((W3.setCell ⟨gl, to, none⟩ (.int .i64 (nth st.L fr + more))).setCell ⟨gb, to, none⟩ (.int .i64 (i : Int))) gb (st.B.set to (i : Int)) ∧ Below gl w2 ((W3.setCell ⟨gl, to, none⟩ (.int .i64 (nth st.L fr + more))).setCell ⟨gb, to, none⟩ (.int .i64 (i : Int))) from
                ⟨Box.far (w := W3.setCell ⟨gl, to, none⟩ (.int .i64 (nth st.L fr + more))) (t := 3) (hr1'.put to _) (by show gl ≠ gb; exact d1) _,
                  Row.put (Box.far (w := W3) (t := 3) hr2' (by show gb ≠ gl; exact d2) _) to _, (hbr'.setCell (Nat.le_refl _) _).setCell (by show gl ≤ gb; have := H3.out; omega) _⟩)
              clear hbq hr1' hr2' hbr' hE0 hE1 hE2 r1 r2
              generalize nth st.L to = ov at *
              generalize nth st.B to = ob at *
              generalize nth st.L fr = oz at *
              refine still_tail 20 W3 hW3 (by kernel_rfl) (by kernel_rfl) ?_
              clear hW3
              simp only [List.take_succ_cons, List.take_zero, List.drop_succ_cons, List.drop_zero]
              repeat still_step
              refine wpStill_nil ?_
              go_wp2_with fail
              go_roundw
              case rel => exact ⟨i + 1, by have := HKi.out; omega, by go_num, by rw [HST.out], by rw [HST.out]; exact HF.out.1, by rw [HST.out]; exact HF.out.2.1, HF.out.2.2⟩
              case measure => have := HKi.out; simp [intOf]; omega
            · have hst' : liftTo (edT t) s (i + 1) = st := by rw [HN.out]; unfold lfStep; rw [if_neg hc]
              have HST := Lib.hid hst'
              have hdc : decide (nth st.L to < nth st.L fr + more) = false := by simpa using hc
              clear hst' hc
              go_wp2_with fail
              go_quiet (fail)
              generalize nq = n1 at *
              go_wp2_with fail
              go_roundw
              case rel =>
                have h0 := Below.refl wr.heap.size wr
                have hbq : Below wr.heap.size wr (wr.drewN n1) := ⟨h0.os, h0.tape, h0.output, h0.size, h0.block⟩
                exact ⟨i + 1, by have := HKi.out; omega, by go_num, by rw [HST.out], by rw [HST.out]; exact HRR.out.1.later hbq, by rw [HST.out]; exact HRR.out.2.1.later hbq, HRR.out.2.2.1.trans (hbq.mono (by have := HRR.out.1.lt; omega))⟩
              case measure => have := HKi.out; simp [intOf]; omega
          · obtain rfl : i = (edT t).length := by omega
            have hd : decide (((edT t).length : Int) < ((edT t).length : Int)) = false := by simp
            have e : liftTo (edT t) s (edT t).length = rounds (edT t) (fs0 (tM t + 1)) (r + 1) := by rw [← HS.out]; rfl
            rw [e] at hr1 hr2 ⊢
            have hlen := rounds_len (edT t) (fs0 (tM t + 1)) (r + 1)
            have e1 : (fs0 (tM t + 1)).L.length = tM t + 1 := by simp [fs0]
            have e2 : (fs0 (tM t + 1)).B.length = tM t + 1 := ngTo_len _ _
            have HRR := Lib.hid (⟨hr1, hr2, hbr, by omega, by omega⟩ : Row wr gl (rounds (edT t) (fs0 (tM t + 1)) (r + 1)).L ∧ Row wr gb (rounds (edT t) (fs0 (tM t + 1)) (r + 1)).B ∧ Below gl w2 wr ∧ (rounds (edT t) (fs0 (tM t + 1)) (r + 1)).L.length = tM t + 1 ∧ (rounds (edT t) (fs0 (tM t + 1)) (r + 1)).B.length = tM t + 1)
            clear e hr1 hr2 hbr hlen e1 e2 hi hlt
            by_cases hq : (rounds (edT t) (fs0 (tM t + 1)) (r + 1)).last = -1
            · have hz : decide ((rounds (edT t) (fs0 (tM t + 1)) (r + 1)).last < 0) = true := by rw [hq]; rfl
              have HQ := Lib.hid (fs_quiet HTB.out hq)
              clear hq
              go_wp2_with fail
              go_ret3
              exact ⟨gl, gb, -1, _, _, rfl, HRR.out.1, HRR.out.2.1, HRR.out.2.2.2.1, HRR.out.2.2.2.2, H3.out.1.trans (HRR.out.2.2.1.mono H3.out.2.1), .inl ⟨HQ.out.1, rfl, HQ.out.2⟩⟩
            · have e1 : (fs0 (tM t + 1)).L.length = tM t + 1 := by simp [fs0]
              have e2 : (rounds (edT t) (fs0 (tM t + 1)) r).L.length = tM t + 1 := by have := rounds_len (edT t) (fs0 (tM t + 1)) r; omega
              obtain ⟨v0, hv0, hlast, -⟩ := last_rose (edT t) (rounds (edT t) (fs0 (tM t + 1)) r) (edT t).length (Nat.le_refl _) A2.out.2.2.2.2.2.1 e2 hq
              clear e1 e2
              have hl2 : (rounds (edT t) (fs0 (tM t + 1)) (r + 1)).last = (v0 : Int) := hlast
              have HL2 := Lib.hid hl2
              have HQ := Lib.hid hq
              rw [hl2]
              have hz : decide ((v0 : Int) < 0) = false := by simp
              clear hq hlast hl2 hv0
              by_cases hre : r = tM t + 2
              · subst hre
                have hzz : ((((tM t + 2 : Nat)) : Int) == (tM t : Int) + 1 + 1) = true := by simp; omega
                have hzz2 : ((tM t : Int) + 2 == (tM t : Int) + 1 + 1) = true := by simp; omega
                have HNF := Lib.hid (show feasB t = false by
                  cases hfb : feasB t
                  · rfl
                  · exact absurd (fs_feas HTB.out hfb) HQ.out)
                go_wp2_with fail
                go_ret3
                exact ⟨gl, gb, v0, _, _, rfl, HRR.out.1, HRR.out.2.1, HRR.out.2.2.2.1, HRR.out.2.2.2.2, H3.out.1.trans (HRR.out.2.2.1.mono H3.out.2.1), .inr ⟨HNF.out, v0, rfl, HL2.out, rfl⟩⟩
              · have hzz : ((r : Int) == (tM t : Int) + 1 + 1) = false := by simp; omega
                have HK2 := Lib.hid (show r < tM t + 2 by have := HK.out; omega)
                clear hre
                go_wp2_with fail
                go_roundw
                case rel => exact ⟨r + 1, by have := HK2.out; omega, by go_num, HRR.out.1, HRR.out.2.1, HRR.out.2.2.1⟩
                case measure => have := HK2.out; simp [intOf]; omega

end Go.Proofs.Ytfafjojoapcliaa

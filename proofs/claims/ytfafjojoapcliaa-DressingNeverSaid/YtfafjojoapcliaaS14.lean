/- Prove: prices that prove the fewest strokes. -/
import Derived.Test.YtfafjojoapcliaaS13
import Derived.Deep.RegionHeld3
set_option linter.all false
namespace Go.Proofs.Ytfafjojoapcliaa
open Go.RowKit

/-- the points of a chain that comes to point 0 just at its end differ -/
theorem chain_inj {es : List Eg} {B : List Int} {v j : Nat} (h0 : wbs es B v j = 0) (hne : ∀ k, k < j → wbs es B v k ≠ 0) : ∀ a b, a < b → b < j → wbs es B v a ≠ wbs es B v b := by
  intro a b hab hbj e
  have e2 : wbs es B v (a + (j - b)) = wbs es B v (b + (j - b)) := by rw [wbs_add, wbs_add, e]
  rw [show b + (j - b) = j by omega, h0] at e2
  exact hne (a + (j - b)) (by omega) e2
/-- a slice of ints is left alone by stores into a block whose first cells are slices -/
theorem Ints.farBox {W : World} {B p i : Nat} {v u x y : Value} {l : List Int} {T : TypeId} (h : Ints W B v l) (hb : Box W p T #[x, y]) (hx : ∀ z, x ≠ .int .i64 z) (hy : ∀ z, y ≠ .int .i64 z) : Ints (W.setCell ⟨p, i, none⟩ u) B v l := by
  obtain ⟨h1, A, c, rfl, h2, h3⟩ := h
  refine ⟨h1, A, c, rfl, h2, fun hp => ?_⟩
  obtain ⟨b, off, rfl, hlt, hc⟩ := h3 hp
  refine ⟨b, off, rfl, hlt, fun k hk => ?_⟩
  rw [World.cell?_setCell_other]
  · exact hc k hk
  · intro e
    have e1 : b = p := (congrArg Addr.block e).symm
    subst e1
    have h0 := hc k hk
    rw [hb.cell] at h0
    rcases hq : off + k with _ | _ | n
    · rw [hq] at h0; injection h0 with h0; exact hx _ h0
    · rw [hq] at h0; injection h0 with h0; exact hy _ h0
    · rw [hq] at h0; simp at h0
theorem box_ne {w : World} {a b : Nat} {t u : TypeId} {cs ds : Array Value} (h : Box w a t cs) (h2 : Box w b u ds) (ht : t ≠ u) : a ≠ b := by
  intro e
  subst e
  unfold Box at h h2
  rw [h] at h2
  injection h2 with h2
  injection h2 with _ h2
  exact ht h2
theorem fw_parts (t : Tk) : (taskB t = false → fwV t = 0 ∧ stE t = 50) ∧ (taskB t = true → feasB t = false → fwV t = 0 ∧ stE t = 51) ∧ (taskB t = true → feasB t = true → fwV t = nth (lsT t) (tM t) ∧ stE t = 0) := by
  refine ⟨fun h => ?_, fun h h2 => ?_, fun h h2 => ?_⟩
  · have : stE t = 50 := by unfold stE; rw [h]; rfl
    exact ⟨by unfold fwV; rw [this]; rfl, this⟩
  · have : stE t = 51 := by unfold stE; rw [h, h2]; rfl
    exact ⟨by unfold fwV; rw [this]; rfl, this⟩
  · have : stE t = 0 := by unfold stE; rw [h, h2]; rfl
    exact ⟨by unfold fwV; rw [this]; rfl, this⟩
/-- what Prove answers -/
def ProvePost (t : Tk) (w : World) (e : Ending) (w' : World) : Prop :=
  ∃ xv l h, e = .returned (.tuple #[xv, .int .i64 (fwV t), .int .i64 (stE t)]) ∧ IsPrices w' w'.heap.size xv l h ∧ (stE t = 0 → cpE t l h = 0 ∧ cpV t l h = fwV t) ∧ (stE t ≠ 0 → l = [] ∧ h = []) ∧ Below w.heap.size w w'
theorem ProvePost.no {t : Tk} {w W : World} (hb : Below w.heap.size w W) {e : Int} (hv : fwV t = 0) (he : stE t = e) (h0 : e ≠ 0) : ProvePost t w (.returned (.tuple #[.agg #[.slice none 0 0, .slice none 0 0], .int .i64 0, .int .i64 e])) W := by
  subst he
  exact ⟨_, [], [], by rw [hv], ⟨_, _, rfl, ints_nil _ _, ints_nil _ _⟩, fun e => absurd e h0, fun _ => ⟨rfl, rfl⟩, hb⟩
def Aft (w W : World) : Prop := Below w.heap.size w W
theorem Aft.later {w W W' : World} (h : Aft w W) (hb : Below W.heap.size W W') : Aft w W' := Below.trans h (Below.mono hb (Below.size h))
set_option maxRecDepth 100000 in
set_option maxHeartbeats 8000000 in
theorem Prove_c (t : Tk) (v : Value) (w : World) (ht : IsTask w w.heap.size v t) : Calls Try.prog 17 #[v] w fun e w' => ProvePost t w e w' := by
  have HT := Lib.hid ht
  obtain ⟨s, rfl, A, c, rfl, hcap, hcell⟩ := ht
  obtain ⟨nl, hnl⟩ : ∃ z, t.need.length = z := ⟨_, rfl⟩
  have HNL := Lib.hid hnl
  rw [hnl] at HT ⊢
  clear hcap hcell hnl
  have HP := Lib.hid (fw_parts t)
  by_cases htb : taskB t = true
  case neg =>
    have HTB := Lib.hid (show taskB t = false by simpa using htb)
    clear htb
    go_enter Try.func17, Try.ntmps17
    go_wp2_with fail
    obtain ⟨W1, hW2⟩ : ∃ Wzz, ((w.alloc (.cells #[.int .i64 t.wide, .slice A nl c] 24)).alloc (.cells #[.slice none 0 0, .slice none 0 0] 35)) = Wzz := ⟨_, rfl⟩
    have B3 := Lib.hid (show Below w.heap.size w W1 by rw [← hW2]; exact (((Below.refl w.heap.size w).alloc (Nat.le_refl _) _).alloc (by first | (simp; done) | (simp; omega)) _))
    have X4 := Lib.hid (show Box W1 (w.heap.size) 24 #[.int .i64 t.wide, .slice A nl c] by rw [← hW2]; exact Box.alloc (Box.made w 24 #[.int .i64 t.wide, .slice A nl c]) (.cells #[.slice none 0 0, .slice none 0 0] 35))
    have X5 := Lib.hid (show Box W1 (w.heap.size + 1) 35 #[.slice none 0 0, .slice none 0 0] by
      have hz := Box.made (w.alloc (.cells #[.int .i64 t.wide, .slice A nl c] 24)) 35 #[.slice none 0 0, .slice none 0 0]
      rw [World.size_alloc] at hz
      rw [← hW2]; exact hz)
    have SZ6 := Lib.hid (show W1.heap.size = w.heap.size + 1 + 1 by rw [← hW2]; simp)
    rw [hW2]
    clear hW2
    have q7 : W1.cell? ⟨w.heap.size, 0, none⟩ = some (.int .i64 t.wide) := X4.out.cell 0
    have q8 : W1.cell? ⟨w.heap.size, 1, none⟩ = some (.slice A nl c) := X4.out.cell 1
    have q9 : W1.cell? ⟨w.heap.size + 1, 0, none⟩ = some (.slice none 0 0) := X5.out.cell 0
    have q10 : W1.cell? ⟨w.heap.size + 1, 1, none⟩ = some (.slice none 0 0) := X5.out.cell 1
    have fz11 : ∀ o, W1.frozen? ⟨w.heap.size + 1, o, none⟩ = false := fun o => X5.out.free o
    go_wp2_with fail
    refine (possible_bad t _ W1 (HT.out.mono B3.out B3.out.size) HTB.out).mono ?_; rintro e v12 ⟨rfl, hb13⟩
    have X14 := Lib.hid (X4.out.later hb13)
    have X15 := Lib.hid (X5.out.later hb13)
    have B16 := Lib.hid (B3.out.trans (hb13.mono B3.out.size))
    clear hb13
    clear q7 q8 q9 q10 fz11
    have q17 : v12.cell? ⟨w.heap.size, 0, none⟩ = some (.int .i64 t.wide) := X14.out.cell 0
    have q18 : v12.cell? ⟨w.heap.size, 1, none⟩ = some (.slice A nl c) := X14.out.cell 1
    have q19 : v12.cell? ⟨w.heap.size + 1, 0, none⟩ = some (.slice none 0 0) := X15.out.cell 0
    have q20 : v12.cell? ⟨w.heap.size + 1, 1, none⟩ = some (.slice none 0 0) := X15.out.cell 1
    have fz21 : ∀ o, v12.frozen? ⟨w.heap.size + 1, o, none⟩ = false := fun o => X15.out.free o
    go_wp2_with fail
    have hbb := ((B16.out.setCell (p := ⟨w.heap.size + 1, 0, none⟩) (Nat.le_succ _) (.slice none 0 0)).setCell (p := ⟨w.heap.size + 1, 1, none⟩) (Nat.le_succ _) (.slice none 0 0))
    refine bodyPost_ret (v := .tuple #[.agg #[.slice none 0 0, .slice none 0 0], .int .i64 0, .int .i64 50]) (by simp [results, Try.results17, go_sem, *]) rfl ?_
    exact ProvePost.no hbb (HP.out.1 HTB.out).1 (HP.out.1 HTB.out).2 (by decide)
  have HTB := Lib.hid htb
  have AR := Lib.hid (task_parts htb)
  clear htb
  go_enter Try.func17, Try.ntmps17
  go_wp2_with fail
  obtain ⟨W22, hW23⟩ : ∃ Wzz, ((w.alloc (.cells #[.int .i64 t.wide, .slice A nl c] 24)).alloc (.cells #[.slice none 0 0, .slice none 0 0] 35)) = Wzz := ⟨_, rfl⟩
  have B24 := Lib.hid (show Below w.heap.size w W22 by rw [← hW23]; exact (((Below.refl w.heap.size w).alloc (Nat.le_refl _) _).alloc (by first | (simp; done) | (simp; omega)) _))
  have X25 := Lib.hid (show Box W22 (w.heap.size) 24 #[.int .i64 t.wide, .slice A nl c] by rw [← hW23]; exact Box.alloc (Box.made w 24 #[.int .i64 t.wide, .slice A nl c]) (.cells #[.slice none 0 0, .slice none 0 0] 35))
  have X26 := Lib.hid (show Box W22 (w.heap.size + 1) 35 #[.slice none 0 0, .slice none 0 0] by
    have hz := Box.made (w.alloc (.cells #[.int .i64 t.wide, .slice A nl c] 24)) 35 #[.slice none 0 0, .slice none 0 0]
    rw [World.size_alloc] at hz
    rw [← hW23]; exact hz)
  have SZ27 := Lib.hid (show W22.heap.size = w.heap.size + 1 + 1 by rw [← hW23]; simp)
  rw [hW23]
  clear hW23
  have q28 : W22.cell? ⟨w.heap.size, 0, none⟩ = some (.int .i64 t.wide) := X25.out.cell 0
  have q29 : W22.cell? ⟨w.heap.size, 1, none⟩ = some (.slice A nl c) := X25.out.cell 1
  have q30 : W22.cell? ⟨w.heap.size + 1, 0, none⟩ = some (.slice none 0 0) := X26.out.cell 0
  have q31 : W22.cell? ⟨w.heap.size + 1, 1, none⟩ = some (.slice none 0 0) := X26.out.cell 1
  have fz32 : ∀ o, W22.frozen? ⟨w.heap.size + 1, o, none⟩ = false := fun o => X26.out.free o
  go_wp2_with fail
  refine (possible_r t _ W22 (HT.out.mono B24.out B24.out.size) HTB.out).mono ?_; rintro e v33 ⟨hb34, hor⟩
  have X35 := Lib.hid (X25.out.later hb34)
  have X36 := Lib.hid (X26.out.later hb34)
  have B37 := Lib.hid (B24.out.trans (hb34.mono B24.out.size))
  clear hb34
  clear q28 q29 q30 q31 fz32
  have q38 : v33.cell? ⟨w.heap.size, 0, none⟩ = some (.int .i64 t.wide) := X35.out.cell 0
  have q39 : v33.cell? ⟨w.heap.size, 1, none⟩ = some (.slice A nl c) := X35.out.cell 1
  have q40 : v33.cell? ⟨w.heap.size + 1, 0, none⟩ = some (.slice none 0 0) := X36.out.cell 0
  have q41 : v33.cell? ⟨w.heap.size + 1, 1, none⟩ = some (.slice none 0 0) := X36.out.cell 1
  have fz42 : ∀ o, v33.frozen? ⟨w.heap.size + 1, o, none⟩ = false := fun o => X36.out.free o
  rcases hor with ⟨hf, rfl⟩ | ⟨hf, g, gl, gb, lv, r, rfl, hq, hg⟩
  · have HF := Lib.hid hf
    clear hf
    go_wp2_with fail
    have hbb := ((B37.out.setCell (p := ⟨w.heap.size + 1, 0, none⟩) (Nat.le_succ _) (.slice none 0 0)).setCell (p := ⟨w.heap.size + 1, 1, none⟩) (Nat.le_succ _) (.slice none 0 0))
    refine bodyPost_ret (v := .tuple #[.agg #[.slice none 0 0, .slice none 0 0], .int .i64 0, .int .i64 51]) (by simp [results, Try.results17, go_sem, *]) rfl ?_
    exact ProvePost.no hbb (HP.out.2.1 HTB.out HF.out).1 (HP.out.2.1 HTB.out HF.out).2 (by decide)
  obtain ⟨j, j1, j2, j3, j4, j5, j6, j7, j8⟩ := prove_ok HTB.out hf hq
  have HFW := Lib.hid (HP.out.2.2 HTB.out hf)
  have HJ := Lib.hid (⟨j1, j2, j3, j4⟩ : j ≤ tM t + 1 ∧ 1 ≤ j ∧ _ ∧ _)
  have HJ5 := Lib.hid j5
  have HPO := Lib.hid (⟨j6, j7, j8⟩ : _ ∧ _ ∧ _)
  have HG := Lib.hid hg
  obtain ⟨B9, hB9⟩ : ∃ z, (rounds (edT t) (lf0 (tM t + 1)) (r + 1)).B = z := ⟨_, rfl⟩
  rw [hB9] at HJ HJ5 HPO HG
  have HLL := Lib.hid (show (lsT t).length = tM t + 1 from HG.out.lenL)
  obtain ⟨m9, hm9⟩ : ∃ z, tM t = z := ⟨_, rfl⟩
  have HM9 := Lib.hid hm9
  obtain ⟨x9, hx9⟩ : ∃ z, fwV t = z := ⟨_, rfl⟩
  have HX9 := Lib.hid hx9
  clear j1 j2 j3 j4 j5 j6 j7 j8 hf hq hg hB9 hm9 hx9
  go_wp2_with fail
  refine (firstCells_m t _ v33 (HT.out.mono B37.out B37.out.size) HTB.out).mono ?_; rintro e v43 ⟨rfl, hb44⟩
  have X45 := Lib.hid (X35.out.later hb44)
  have X46 := Lib.hid (X36.out.later hb44)
  have C47 := Lib.hid (HG.out.later hb44)
  have B48 := Lib.hid (B37.out.trans (hb44.mono B37.out.size))
  clear hb44
  rw [HM9.out]
  clear q38 q39 q40 q41 fz42
  have q49 : v43.cell? ⟨w.heap.size, 0, none⟩ = some (.int .i64 t.wide) := X45.out.cell 0
  have q50 : v43.cell? ⟨w.heap.size, 1, none⟩ = some (.slice A nl c) := X45.out.cell 1
  have q51 : v43.cell? ⟨w.heap.size + 1, 0, none⟩ = some (.slice none 0 0) := X46.out.cell 0
  have q52 : v43.cell? ⟨w.heap.size + 1, 1, none⟩ = some (.slice none 0 0) := X46.out.cell 1
  have fz53 : ∀ o, v43.frozen? ⟨w.heap.size + 1, o, none⟩ = false := fun o => X46.out.free o
  have HGq := C47.out
  obtain ⟨N9, hN9⟩ : ∃ z, m9 + 1 = z := ⟨_, rfl⟩
  rw [HM9.out, hN9] at HGq
  have HL9 := Lib.hid (show nth (lsT t) m9 = x9 by rw [← HX9.out, ← HM9.out]; exact HFW.out.1.symm)
  have HG9 := Lib.hid HGq
  have i1 : (m9 : Int) < (N9 : Int) := by omega
  have i2 : m9 < N9 := by omega
  have i3 : (0 : Int) ≤ (m9 : Int) := Int.natCast_nonneg _
  have AF := Lib.hid (show Aft v43 v43 from Below.refl _ _)
  have HN9 := Lib.hid hN9
  have HGS := Lib.hid (show gl ≠ w.heap.size + 1 ∧ g ≠ w.heap.size + 1 from ⟨box_ne (show Box v43 gl 3 _ from HG9.out.rl) X46.out (by decide), box_ne HG9.out.b0 X46.out (by decide)⟩)
  clear hN9 HGq
  have HI := Lib.hid i2
  have kp := Lib.hid (fun (W : World) (hb : Aft v43 W) => pay_c t g gl gb lv (lsT t) B9 (tM t) 0 j W HTB.out (by have := HG9.out.later hb; rw [HM9.out, show m9 + 1 = N9 from HN9.out]; exact this) HJ.out.2.1 (by have := HJ.out.1; have := AR.out.2.2.1; have := AR.out.2.2.2.2.2.1; omega) HJ.out.2.2.1 (fun k _ hk => HJ.out.2.2.2 k hk) (chain_inj HJ.out.2.2.1 HJ.out.2.2.2) HJ5.out)
  rw [HNL.out, HM9.out] at kp
  go_wp2_with fail
  have hdr62 : Below (v43).heap.size (v43) (v43).drew := (Below.refl _ _).drew
  have lt58 := X45.out.lt
  have lt59 := X45.out.lt
  have lt60 := HG9.out.b0.lt
  have lt61 := HG9.out.rl.lt
  have hcall63 : ∀ X Y : World, (fun Wz => Wz.cell? ⟨w.heap.size, 0, none⟩ = some (.int .i64 t.wide) ∧ Wz.cell? ⟨w.heap.size, 1, none⟩ = some (.slice A nl c) ∧ Wz.cell? ⟨g, 1, none⟩ = some (.slice (some ⟨gl, 0, none⟩) N9 N9) ∧ Wz.cell? ⟨gl, m9, none⟩ = some (.int .i64 x9) ∧ (v43).heap.size ≤ Wz.heap.size) X → Below X.heap.size X Y → (fun Wz => Wz.cell? ⟨w.heap.size, 0, none⟩ = some (.int .i64 t.wide) ∧ Wz.cell? ⟨w.heap.size, 1, none⟩ = some (.slice A nl c) ∧ Wz.cell? ⟨g, 1, none⟩ = some (.slice (some ⟨gl, 0, none⟩) N9 N9) ∧ Wz.cell? ⟨gl, m9, none⟩ = some (.int .i64 x9) ∧ (v43).heap.size ≤ Wz.heap.size) Y := by
    rintro X Y ⟨z54, z55, z56, z57, xs⟩ hb
    have hb2 := Below.mono (B' := (v43).heap.size) hb xs
    exact ⟨keepd z54 hb2 lt58, keepd z55 hb2 lt59, keepd z56 hb2 lt60, keepd z57 hb2 lt61, Nat.le_trans xs hb.size⟩
  have ne66 : w.heap.size ≠ w.heap.size + 1 := by simp
  have ne68 : g ≠ w.heap.size + 1 := by have := HGS.out; omega
  have ne69 : gl ≠ w.heap.size + 1 := by have := HGS.out; omega
  have hput65 : ∀ (X : World) (o : Nat) (v : Value), (fun Wz => Wz.cell? ⟨w.heap.size, 0, none⟩ = some (.int .i64 t.wide) ∧ Wz.cell? ⟨w.heap.size, 1, none⟩ = some (.slice A nl c) ∧ Wz.cell? ⟨g, 1, none⟩ = some (.slice (some ⟨gl, 0, none⟩) N9 N9) ∧ Wz.cell? ⟨gl, m9, none⟩ = some (.int .i64 x9) ∧ (v43).heap.size ≤ Wz.heap.size) X → (fun Wz => Wz.cell? ⟨w.heap.size, 0, none⟩ = some (.int .i64 t.wide) ∧ Wz.cell? ⟨w.heap.size, 1, none⟩ = some (.slice A nl c) ∧ Wz.cell? ⟨g, 1, none⟩ = some (.slice (some ⟨gl, 0, none⟩) N9 N9) ∧ Wz.cell? ⟨gl, m9, none⟩ = some (.int .i64 x9) ∧ (v43).heap.size ≤ Wz.heap.size) (X.setCell ⟨w.heap.size + 1, o, none⟩ v) := by
    rintro X o v ⟨z54, z55, z56, z57, xs⟩
    exact ⟨(World.cell?_setCell_other X _ _ v (fun e => ne66 (congrArg Addr.block e).symm)).trans z54, (World.cell?_setCell_other X _ _ v (fun e => ne66 (congrArg Addr.block e).symm)).trans z55, (World.cell?_setCell_other X _ _ v (fun e => ne68 (congrArg Addr.block e).symm)).trans z56, (World.cell?_setCell_other X _ _ v (fun e => ne69 (congrArg Addr.block e).symm)).trans z57, by rw [World.size_setCell]; exact xs⟩
  have hini64 : (fun Wz => Wz.cell? ⟨w.heap.size, 0, none⟩ = some (.int .i64 t.wide) ∧ Wz.cell? ⟨w.heap.size, 1, none⟩ = some (.slice A nl c) ∧ Wz.cell? ⟨g, 1, none⟩ = some (.slice (some ⟨gl, 0, none⟩) N9 N9) ∧ Wz.cell? ⟨gl, m9, none⟩ = some (.int .i64 x9) ∧ (v43).heap.size ≤ Wz.heap.size) (v43).drew := ⟨keepd (X45.out.cell 0) hdr62 lt58, keepd (X45.out.cell 1) hdr62 lt59, keepd (HG9.out.b0.cell 1) hdr62 lt60, keepd ((HG9.out.rl.cell (by rw [HG9.out.lenL]; exact HI.out)).trans (by rw [HL9.out])) hdr62 lt61, Nat.le_refl _⟩
  have Hcall63 := Lib.hid hcall63
  have Hini64 := Lib.hid hini64
  have Hput65 := Lib.hid hput65
  clear hcall63 ne66 ne68 ne69 hput65 hini64 lt58 lt59 lt60 lt61
  clear q49 q50 q51 q52 fz53
  refine wp_region_noPanic ?_
  refine wp_region_held_drew (S := (fun Wz => Wz.cell? ⟨w.heap.size, 0, none⟩ = some (.int .i64 t.wide) ∧ Wz.cell? ⟨w.heap.size, 1, none⟩ = some (.slice A nl c) ∧ Wz.cell? ⟨g, 1, none⟩ = some (.slice (some ⟨gl, 0, none⟩) N9 N9) ∧ Wz.cell? ⟨gl, m9, none⟩ = some (.int .i64 x9) ∧ (v43).heap.size ≤ Wz.heap.size)) (by kernel_rfl) Hini64.out (fun hHeld => ?_)
  obtain ⟨W71, hW72⟩ : ∃ Wzz, (v43).drew = Wzz := ⟨_, rfl⟩
  rw [hW72] at hHeld hdr62 ⊢
  clear hW72
  have X73 := Lib.hid (X45.out.later hdr62)
  have X74 := Lib.hid (X46.out.later hdr62)
  have C75 := Lib.hid (AF.out.later hdr62)
  have B76 := Lib.hid (B48.out.trans (hdr62.mono B48.out.size))
  clear hdr62
  refine wpAnyH_take (i := 0) (oi := { dst := some 19, op := Op.fieldAddr 24 (Operand.tmp 1) 1, type := 0, pos := "prices.go:13", after := #[], guard := none }) (v := ?vh77) rfl ?hsh77 ?hfh77 ?hrh77 ?hQh77 ?hyh77 (by assumption) ?resth77
  case hsh77 => kernel_rfl
  case hfh77 => kernel_rfl
  case hrh77 => kernel_rfl
  case hQh77 => exact fun _ _ _ h => h
  case hyh77 => (refine Or.inl ⟨by rfl, ?_⟩; intro w hSw; (try dsimp only at hSw); go_simp; try with_reducible rfl)
  try simp only [Act.put, List.setIfInBounds_toArray, List.set_cons_zero, List.set_cons_succ]
  refine wpAnyH_take (i := 1) (oi := { dst := some 20, op := Op.load 22 (Operand.tmp 19), type := 22, pos := "prices.go:13", after := #[{ on := 0, ground := Ground.data }], guard := none }) (v := ?vh78) rfl ?hsh78 ?hfh78 ?hrh78 ?hQh78 ?hyh78 (by assumption) ?resth78
  case hsh78 => kernel_rfl
  case hfh78 => kernel_rfl
  case hrh78 => kernel_rfl
  case hQh78 => exact fun _ _ _ h => h
  case hyh78 => (refine Or.inl ⟨by rfl, ?_⟩; intro w hSw; (try dsimp only at hSw); go_simp; try with_reducible rfl)
  try simp only [Act.put, List.setIfInBounds_toArray, List.set_cons_zero, List.set_cons_succ]
  refine wpAnyH_take (i := 2) (oi := { dst := some 21, op := Op.call { callee := Callee.builtin Builtin.len, args := #[Operand.tmp 20], argTypes := #[22] }, type := 3, pos := "prices.go:13", after := #[{ on := 1, ground := Ground.data }], guard := none }) (v := ?vh79) rfl ?hsh79 ?hfh79 ?hrh79 ?hQh79 ?hyh79 (by assumption) ?resth79
  case hsh79 => kernel_rfl
  case hfh79 => kernel_rfl
  case hrh79 => kernel_rfl
  case hQh79 => exact fun _ _ _ h => h
  case hyh79 => (refine Or.inl ⟨by rfl, ?_⟩; intro w hSw; (try dsimp only at hSw); go_simp; try with_reducible rfl)
  try simp only [Act.put, List.setIfInBounds_toArray, List.set_cons_zero, List.set_cons_succ]
  refine wpAnyH_take (i := 3) (oi := { dst := some 22, op := Op.move (Operand.tmp 5), type := 58, pos := "prices.go:13", after := #[], guard := none }) (v := ?vh80) rfl ?hsh80 ?hfh80 ?hrh80 ?hQh80 ?hyh80 (by assumption) ?resth80
  case hsh80 => kernel_rfl
  case hfh80 => kernel_rfl
  case hrh80 => kernel_rfl
  case hQh80 => exact fun _ _ _ h => h
  case hyh80 => (refine Or.inl ⟨by rfl, ?_⟩; intro w hSw; (try dsimp only at hSw); go_simp; try with_reducible rfl)
  try simp only [Act.put, List.setIfInBounds_toArray, List.set_cons_zero, List.set_cons_succ]
  refine wpAnyH_take (i := 5) (oi := { dst := some 24, op := Op.move (Operand.tmp 7), type := 3, pos := "prices.go:13", after := #[], guard := none }) (v := ?vh81) rfl ?hsh81 ?hfh81 ?hrh81 ?hQh81 ?hyh81 (by assumption) ?resth81
  case hsh81 => kernel_rfl
  case hfh81 => kernel_rfl
  case hrh81 => kernel_rfl
  case hQh81 => exact fun _ _ _ h => h
  case hyh81 => (refine Or.inl ⟨by rfl, ?_⟩; intro w hSw; (try dsimp only at hSw); go_simp; try with_reducible rfl)
  try simp only [Act.put, List.setIfInBounds_toArray, List.set_cons_zero, List.set_cons_succ]
  refine wpAnyH_take (i := 7) (oi := { dst := some 26, op := Op.move (Operand.tmp 5), type := 58, pos := "prices.go:13", after := #[{ on := 14, ground := Ground.gcOnly Departure.lateStores }], guard := none }) (v := ?vh82) rfl ?hsh82 ?hfh82 ?hrh82 ?hQh82 ?hyh82 (by assumption) ?resth82
  case hsh82 => kernel_rfl
  case hfh82 => kernel_rfl
  case hrh82 => kernel_rfl
  case hQh82 => exact fun _ _ _ h => h
  case hyh82 => (refine Or.inl ⟨by rfl, ?_⟩; intro w hSw; (try dsimp only at hSw); go_simp; try with_reducible rfl)
  try simp only [Act.put, List.setIfInBounds_toArray, List.set_cons_zero, List.set_cons_succ]
  refine wpAnyH_take (i := 8) (oi := { dst := some 27, op := Op.nilCheck (Operand.tmp 26), type := 0, pos := "prices.go:13", after := #[{ on := 7, ground := Ground.data }, { on := 14, ground := Ground.gcOnly Departure.lateStores }], guard := none }) (v := ?vh83) rfl ?hsh83 ?hfh83 ?hrh83 ?hQh83 ?hyh83 (by assumption) ?resth83
  case hsh83 => kernel_rfl
  case hfh83 => kernel_rfl
  case hrh83 => kernel_rfl
  case hQh83 => exact fun _ _ _ h => h
  case hyh83 => (refine Or.inl ⟨by rfl, ?_⟩; intro w hSw; (try dsimp only at hSw); go_simp; try with_reducible rfl)
  try simp only [Act.put, List.setIfInBounds_toArray, List.set_cons_zero, List.set_cons_succ]
  refine wpAnyH_take (i := 9) (oi := { dst := some 28, op := Op.fieldAddr 65 (Operand.tmp 27) 1, type := 0, pos := "prices.go:13", after := #[{ on := 8, ground := Ground.data }, { on := 14, ground := Ground.gcOnly Departure.lateStores }], guard := none }) (v := ?vh84) rfl ?hsh84 ?hfh84 ?hrh84 ?hQh84 ?hyh84 (by assumption) ?resth84
  case hsh84 => kernel_rfl
  case hfh84 => kernel_rfl
  case hrh84 => kernel_rfl
  case hQh84 => exact fun _ _ _ h => h
  case hyh84 => (refine Or.inl ⟨by rfl, ?_⟩; intro w hSw; (try dsimp only at hSw); go_simp; try with_reducible rfl)
  try simp only [Act.put, List.setIfInBounds_toArray, List.set_cons_zero, List.set_cons_succ]
  refine wpAnyH_take (i := 10) (oi := { dst := some 29, op := Op.load 30 (Operand.tmp 28), type := 30, pos := "prices.go:13", after := #[{ on := 9, ground := Ground.data }, { on := 14, ground := Ground.gcOnly Departure.lateStores }], guard := none }) (v := ?vh85) rfl ?hsh85 ?hfh85 ?hrh85 ?hQh85 ?hyh85 (by assumption) ?resth85
  case hsh85 => kernel_rfl
  case hfh85 => kernel_rfl
  case hrh85 => kernel_rfl
  case hQh85 => exact fun _ _ _ h => h
  case hyh85 => (refine Or.inl ⟨by rfl, ?_⟩; intro w hSw; (try dsimp only at hSw); go_simp; try with_reducible rfl)
  try simp only [Act.put, List.setIfInBounds_toArray, List.set_cons_zero, List.set_cons_succ]
  refine wpAnyH_take (i := 11) (oi := { dst := some 30, op := Op.move (Operand.tmp 7), type := 3, pos := "prices.go:13", after := #[{ on := 14, ground := Ground.gcOnly Departure.lateStores }], guard := none }) (v := ?vh86) rfl ?hsh86 ?hfh86 ?hrh86 ?hQh86 ?hyh86 (by assumption) ?resth86
  case hsh86 => kernel_rfl
  case hfh86 => kernel_rfl
  case hrh86 => kernel_rfl
  case hQh86 => exact fun _ _ _ h => h
  case hyh86 => (refine Or.inl ⟨by rfl, ?_⟩; intro w hSw; (try dsimp only at hSw); go_simp; try with_reducible rfl)
  try simp only [Act.put, List.setIfInBounds_toArray, List.set_cons_zero, List.set_cons_succ]
  refine wpAnyH_take (i := 12) (oi := { dst := some 31, op := Op.indexAddr 30 (Operand.tmp 29) (Operand.tmp 30), type := 0, pos := "prices.go:13", after := #[{ on := 10, ground := Ground.data }, { on := 11, ground := Ground.data }, { on := 14, ground := Ground.gcOnly Departure.lateStores }], guard := none }) (v := ?vh87) rfl ?hsh87 ?hfh87 ?hrh87 ?hQh87 ?hyh87 (by assumption) ?resth87
  case hsh87 => kernel_rfl
  case hfh87 => kernel_rfl
  case hrh87 => kernel_rfl
  case hQh87 => exact fun _ _ _ h => h
  case hyh87 => (refine Or.inl ⟨by rfl, ?_⟩; intro w hSw; (try dsimp only at hSw); go_simp; try with_reducible rfl)
  try simp only [Act.put, List.setIfInBounds_toArray, List.set_cons_zero, List.set_cons_succ]
  refine wpAnyH_take (i := 13) (oi := { dst := some 32, op := Op.load 3 (Operand.tmp 31), type := 3, pos := "prices.go:13", after := #[{ on := 12, ground := Ground.data }, { on := 14, ground := Ground.gcOnly Departure.lateStores }], guard := none }) (v := ?vh88) rfl ?hsh88 ?hfh88 ?hrh88 ?hQh88 ?hyh88 (by assumption) ?resth88
  case hsh88 => kernel_rfl
  case hfh88 => kernel_rfl
  case hrh88 => kernel_rfl
  case hQh88 => exact fun _ _ _ h => h
  case hyh88 => (refine Or.inl ⟨by rfl, ?_⟩; intro w hSw; (try dsimp only at hSw); go_simp; try with_reducible rfl)
  try simp only [Act.put, List.setIfInBounds_toArray, List.set_cons_zero, List.set_cons_succ]
  refine wpAnyH_ready (rs := [4]) (by kernel_rfl) (by simp) ?_
  refine AllReadyH.cons (o := _) (by rfl) (fun K hK => ?_) AllReadyH.nil
  go_simp
  
  refine hK.out _ _ hHeld (fun hHeld89 => ?_)
  clear hK K hHeld
  have hHeld := hHeld89
  clear hHeld89
  try simp only [Act.put, List.setIfInBounds_toArray, List.set_cons_zero, List.set_cons_succ]
  refine wpAnyH_ready (rs := [6]) (by kernel_rfl) (by simp) ?_
  refine AllReadyH.cons (o := _) (by rfl) (fun K hK => ?_) AllReadyH.nil
  go_simp
  go_at_call 40
  refine (kp.out W71 C75.out).mono ?_; rintro e v90 ⟨xv, rfl, hxp, hb91⟩
  have X92 := Lib.hid (X73.out.later hb91)
  have X93 := Lib.hid (X74.out.later hb91)
  have C94 := Lib.hid (C75.out.later hb91)
  have B95 := Lib.hid (B76.out.trans (hb91.mono B76.out.size))
  clear X73 X74 C75 B76
  obtain ⟨pl, hpl⟩ : ∃ z, (payTo (edT t) B9 nl m9 j).1 = z := ⟨_, rfl⟩
  obtain ⟨ph, hph⟩ : ∃ z, (payTo (edT t) B9 nl m9 j).2 = z := ⟨_, rfl⟩
  have HPL := Lib.hid hpl
  have HPH := Lib.hid hph
  rw [hpl, hph] at hxp
  obtain ⟨s1, s2, rfl, hi1, hi2⟩ := hxp
  have HI1 := Lib.hid hi1
  have HI2 := Lib.hid hi2
  obtain ⟨-, A1, c1, rfl, -, -⟩ := hi1
  obtain ⟨-, A2, c2, rfl, -, -⟩ := hi2
  obtain ⟨n1, hn1⟩ : ∃ z, pl.length = z := ⟨_, rfl⟩
  obtain ⟨n2, hn2⟩ : ∃ z, ph.length = z := ⟨_, rfl⟩
  rw [hn1] at HI1 ⊢
  rw [hn2] at HI2 ⊢
  clear hpl hph hn1 hn2
  go_wp2_with fail
  refine hK.out _ _ (Hcall63.out _ _ hHeld (by assumption)) (fun hHeld96 => ?_)
  clear hK K hHeld
  clear hb91
  have hHeld := hHeld96
  clear hHeld96
  try simp only [Act.put, List.setIfInBounds_toArray, List.set_cons_zero, List.set_cons_succ]
  refine wpAnyH_ready (rs := [14]) (by kernel_rfl) (by simp) ?_
  refine AllReadyH.cons (o := _) (by rfl) (fun K hK => ?_) AllReadyH.nil
  have q97 : v90.cell? ⟨w.heap.size + 1, 0, none⟩ = some (.slice none 0 0) := X93.out.cell 0
  have q98 : v90.cell? ⟨w.heap.size + 1, 1, none⟩ = some (.slice none 0 0) := X93.out.cell 1
  have q99 : ∀ o, v90.frozen? ⟨w.heap.size + 1, o, none⟩ = false := fun o => X93.out.free o
  go_simp
  clear q97 q98 q99
  have X100 := Lib.hid (show Box ((v90.setCell ⟨w.heap.size + 1, 0, none⟩ (.slice A1 n1 c1)).setCell ⟨w.heap.size + 1, 1, none⟩ (.slice A2 n2 c2)) (w.heap.size) 24 #[.int .i64 t.wide, .slice A nl c] from ((((X92.out).far (p := ⟨w.heap.size + 1, 0, none⟩) (by simp) (.slice A1 n1 c1))).far (p := ⟨w.heap.size + 1, 1, none⟩) (by simp) (.slice A2 n2 c2)))
  have X101 := Lib.hid (show Box ((v90.setCell ⟨w.heap.size + 1, 0, none⟩ (.slice A1 n1 c1)).setCell ⟨w.heap.size + 1, 1, none⟩ (.slice A2 n2 c2)) (w.heap.size + 1) 35 #[.slice A1 n1 c1, .slice A2 n2 c2] from ((((X93.out).put 0 (.slice A1 n1 c1))).put 1 (.slice A2 n2 c2)))
  have B102 := Lib.hid ((((B95.out).setCell (p := ⟨w.heap.size + 1, 0, none⟩) (Nat.le_succ _) (.slice A1 n1 c1))).setCell (p := ⟨w.heap.size + 1, 1, none⟩) (Nat.le_succ _) (.slice A2 n2 c2))
  have C103 := Lib.hid (trivial)
  refine hK.out _ _ (Hput65.out _ 1 (.slice A2 n2 c2) (Hput65.out _ 0 (.slice A1 n1 c1) hHeld)) (fun hHeld104 => ?_)
  clear hK K hHeld
  have hHeld := hHeld104
  clear hHeld104
  try simp only [Act.put, List.setIfInBounds_toArray, List.set_cons_zero, List.set_cons_succ]
  refine wpAnyH_take (i := 15) (oi := { dst := some 3, op := Op.assign (Operand.tmp 32), type := 3, pos := "prices.go:13", after := #[{ on := 13, ground := Ground.data }, { on := 14, ground := Ground.chain }, { on := 0, ground := Ground.phase }, { on := 1, ground := Ground.phase }, { on := 2, ground := Ground.phase }, { on := 3, ground := Ground.phase }, { on := 4, ground := Ground.phase }, { on := 5, ground := Ground.phase }, { on := 6, ground := Ground.phase }, { on := 7, ground := Ground.phase }, { on := 8, ground := Ground.phase }, { on := 9, ground := Ground.phase }, { on := 10, ground := Ground.phase }, { on := 11, ground := Ground.phase }, { on := 12, ground := Ground.phase }, { on := 13, ground := Ground.phase }, { on := 14, ground := Ground.phase }], guard := none }) (v := ?vh105) rfl ?hsh105 ?hfh105 ?hrh105 ?hQh105 ?hyh105 (by assumption) ?resth105
  case hsh105 => kernel_rfl
  case hfh105 => kernel_rfl
  case hrh105 => kernel_rfl
  case hQh105 => exact fun _ _ _ h => h
  case hyh105 => (refine Or.inl ⟨by rfl, ?_⟩; intro w hSw; (try dsimp only at hSw); go_simp; try with_reducible rfl)
  try simp only [Act.put, List.setIfInBounds_toArray, List.set_cons_zero, List.set_cons_succ]
  refine wpAnyH_take (i := 16) (oi := { dst := some 4, op := Op.assign (Operand.const (Value.int IntKind.i64 0)), type := 27, pos := "prices.go:13", after := #[{ on := 15, ground := Ground.chain }, { on := 0, ground := Ground.phase }, { on := 1, ground := Ground.phase }, { on := 2, ground := Ground.phase }, { on := 3, ground := Ground.phase }, { on := 4, ground := Ground.phase }, { on := 5, ground := Ground.phase }, { on := 6, ground := Ground.phase }, { on := 7, ground := Ground.phase }, { on := 8, ground := Ground.phase }, { on := 9, ground := Ground.phase }, { on := 10, ground := Ground.phase }, { on := 11, ground := Ground.phase }, { on := 12, ground := Ground.phase }, { on := 13, ground := Ground.phase }, { on := 14, ground := Ground.phase }, { on := 15, ground := Ground.phase }], guard := none }) (v := ?vh106) rfl ?hsh106 ?hfh106 ?hrh106 ?hQh106 ?hyh106 (by assumption) ?resth106
  case hsh106 => kernel_rfl
  case hfh106 => kernel_rfl
  case hrh106 => kernel_rfl
  case hQh106 => exact fun _ _ _ h => h
  case hyh106 => (refine Or.inl ⟨by rfl, ?_⟩; intro w hSw; (try dsimp only at hSw); go_simp; try with_reducible rfl)
  try simp only [Act.put, List.setIfInBounds_toArray, List.set_cons_zero, List.set_cons_succ]
  refine wpAnyH_done (by kernel_rfl) ?_ _
  refine NoPanic.normal ?_
  clear hHeld Hcall63 Hini64 Hput65
  have q107 : ((v90.setCell ⟨w.heap.size + 1, 0, none⟩ (.slice A1 n1 c1)).setCell ⟨w.heap.size + 1, 1, none⟩ (.slice A2 n2 c2)).cell? ⟨w.heap.size, 0, none⟩ = some (.int .i64 t.wide) := X100.out.cell 0
  have q108 : ((v90.setCell ⟨w.heap.size + 1, 0, none⟩ (.slice A1 n1 c1)).setCell ⟨w.heap.size + 1, 1, none⟩ (.slice A2 n2 c2)).cell? ⟨w.heap.size, 1, none⟩ = some (.slice A nl c) := X100.out.cell 1
  have q109 : ((v90.setCell ⟨w.heap.size + 1, 0, none⟩ (.slice A1 n1 c1)).setCell ⟨w.heap.size + 1, 1, none⟩ (.slice A2 n2 c2)).cell? ⟨w.heap.size + 1, 0, none⟩ = some (.slice A1 n1 c1) := X101.out.cell 0
  have q110 : ((v90.setCell ⟨w.heap.size + 1, 0, none⟩ (.slice A1 n1 c1)).setCell ⟨w.heap.size + 1, 1, none⟩ (.slice A2 n2 c2)).cell? ⟨w.heap.size + 1, 1, none⟩ = some (.slice A2 n2 c2) := X101.out.cell 1
  have fz111 : ∀ o, ((v90.setCell ⟨w.heap.size + 1, 0, none⟩ (.slice A1 n1 c1)).setCell ⟨w.heap.size + 1, 1, none⟩ (.slice A2 n2 c2)).frozen? ⟨w.heap.size + 1, o, none⟩ = false := fun o => X101.out.free o
  go_wp2_with fail
  refine bodyPost_ret (v := .tuple #[.agg #[.slice A1 n1 c1, .slice A2 n2 c2], .int .i64 x9, .int .i64 0]) (by simp [results, Try.results17, go_sem, *]) rfl ?_
  have hbx := X93.out
  have hsz : ((v90.setCell ⟨w.heap.size + 1, 0, none⟩ (.slice A1 n1 c1)).setCell ⟨w.heap.size + 1, 1, none⟩ (.slice A2 n2 c2)).heap.size = v90.heap.size := by rw [World.size_setCell, World.size_setCell]
  have i1 := Ints.farBox (i := 1) (u := .slice A2 n2 c2) (Ints.farBox (i := 0) (u := .slice A1 n1 c1) HI1.out hbx (by intro z h; cases h) (by intro z h; cases h)) (hbx.put 0 _) (by intro z h; cases h) (by intro z h; cases h)
  have i2 := Ints.farBox (i := 1) (u := .slice A2 n2 c2) (Ints.farBox (i := 0) (u := .slice A1 n1 c1) HI2.out hbx (by intro z h; cases h) (by intro z h; cases h)) (hbx.put 0 _) (by intro z h; cases h) (by intro z h; cases h)
  have hfw := HFW.out
  have hpo := HPO.out
  rw [HM9.out, HNL.out, HPL.out, HPH.out, ← HM9.out, ← HNL.out] at hpo
  refine ⟨_, pl, ph, by rw [HX9.out, hfw.2], ⟨_, _, rfl, by rw [hsz]; exact i1, by rw [hsz]; exact i2⟩, fun _ => ?_, fun h => absurd hfw.2 h, B102.out⟩
  have he : cpE t pl ph = 0 := by unfold cpE; rw [if_pos HTB.out, if_pos ⟨hpo.1, hpo.2.1⟩]
  exact ⟨he, by unfold cpV; rw [if_pos he]; exact hpo.2.2⟩

end Go.Proofs.Ytfafjojoapcliaa

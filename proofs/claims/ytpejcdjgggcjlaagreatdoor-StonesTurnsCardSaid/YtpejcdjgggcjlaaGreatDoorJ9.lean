/- Two cells held against one another; the specification's SameCells, copied, Set. -/
import Derived.Test.YtpejcdjgggcjlaaGreatDoorJ7
import Derived.Test.YtpejcdjgggcjlaaGreatDoorJ5
namespace Go.Proofs.YtpejcdjgggcjlaaGreatDoor
open Go.RowKit

theorem neCell (a b c d : Int) (w : World) : (binOp .neq 26 (.agg #[.int .i64 a, .int .i64 b]) (.agg #[.int .i64 c, .int .i64 d])).run Tryz.prog w = .ok (.bool (!(a == c && b == d))) w := by
  have ht : Tryz.prog.underlying 26 = some (.struct (Tryz.prog.fieldsOf 26)) := by kernel_rfl
  have hp : Tryz.prog.stoodInHeld 26 = false := by kernel_rfl
  have hf : (Tryz.prog.fieldsOf 26).toList = [{ name := "Ring", type := 3, offset := 0, embedded := false, tag := "", pkgPath := "", byteOffset := 0 }, { name := "Sector", type := 3, offset := 1, embedded := false, tag := "", pkgPath := "", byteOffset := 8 }] := by kernel_rfl
  rw [run_neq_struct, run_equalIn_struct w 9999 _ _ _ ht hp, hf]
  have e1 := fun (x y : Int) => run_equalIn_int (P := Tryz.prog) (w := w) 9998 3 .i64 .i64 x y Tryz.underlying3
  cases h1 : (a == c) <;> cases h2 : (b == d) <;>
    simp [Op.eqFields, Sem.run_bind, part0, part1, e1, h1, h2]


theorem cth_eq {l r : List (Int × Int)} (h : l.length = r.length) (he : ∀ k, k < l.length → cth l k = cth r k) : l = r := by
  apply List.ext_getElem h
  intro k h1 h2
  have := he k h1
  rwa [cth_get h1, cth_get h2] at this

set_option maxRecDepth 100000 in
set_option maxHeartbeats 2000000 in
/-- two equal lists are told to be equal -/
theorem rSameCells_c (l : List (Int × Int)) (v u : Value) (w : World) (hl : Cels w w.heap.size v l) (hr : Cels w w.heap.size u l) (hlen : l.length ≤ 3000) :
    Calls Tryz.prog 23 #[v, u] w fun e w' => e = .returned (.bool true) ∧ Below w.heap.size w w' := by
  obtain ⟨A, c, rfl, l2, l3⟩ := hl
  obtain ⟨A', c', rfl, r2, r3⟩ := hr
  have nec := neCell
  have hne : ((l.length : Int) != (l.length : Int)) = false := by simp
  go_enter Tryz.func23, Tryz.ntmps23
  go_wp2_with fail
  go_loopw [5] (fun i wr => ∃ k : Nat, k ≤ l.length ∧ i = .int .i64 (k : Int) ∧ Below w.heap.size w wr) (fun i _ => l.length - (intOf i).toNat)
  case atStart => exact ⟨0, Nat.zero_le _, rfl, Below.refl _ _⟩
  case round =>
    obtain ⟨k, hk, rfl, hbr⟩ := hrel
    by_cases hlt : k < l.length
    · obtain ⟨b, off, rfl, hbB, hcc⟩ := l3 (by omega)
      obtain ⟨b', off', rfl, hbB', hcc'⟩ := r3 (by omega)
      obtain ⟨x1, x2⟩ := hcc k hlt
      obtain ⟨y1, y2⟩ := hcc' k hlt
      have x1 := keepd x1 hbr hbB
      have x2 := keepd x2 hbr hbB
      have y1 := keepd y1 hbr hbB'
      have y2 := keepd y2 hbr hbB'
      have hd : decide ((k : Int) < (l.length : Int)) = true := by rw [decide_eq_true_iff]; omega
      have i0 : (0 : Int) ≤ (k : Int) := Int.natCast_nonneg _
      have i1 : (k : Int) < (l.length : Int) := by omega
      have Hlt := Lib.hid (show k + 1 ≤ l.length ∧ l.length - (k + 1) < l.length - k by omega)
      clear l3 r3 hcc hcc'
      generalize cth l k = z at *
      obtain ⟨z1, z2⟩ := z
      dsimp only at *
      have ez : (z1 == z1 && z2 == z2) = true := by simp
      go_wp2_with fail
      go_quiet (fail)
      rename_i nq
      have hbn : Below w.heap.size w (wr.drewN nq) := ⟨hbr.os, hbr.tape, hbr.output, hbr.size, hbr.block⟩
      clear hbr
      go_wp2_with fail
      go_roundw
      case rel => exact ⟨k + 1, Hlt.out.1, by go_num, hbn⟩
      case measure => have := Hlt.out; simp [intOf]; omega
    · obtain rfl : k = l.length := by omega
      have hd : decide ((l.length : Int) < (l.length : Int)) = false := by simp
      clear l3 r3
      go_wp2_with fail
      go_ret
      exact ⟨rfl, hbr⟩

theorem own_less {w : World} {base base' : Nat} {e : TypeId} {size : Nat} {v : Value} {n : Nat} {xs : List Value} (h : w.ownsRow base e size v n xs) (hb : base' ≤ base) : w.ownsRow base' e size v n xs := by
  refine ⟨h.1, ?_⟩
  rcases h.2 with h | ⟨g, cap, cur, h1, h2, h3⟩
  · exact .inl h
  · exact .inr ⟨g, cap, cur, h1, by omega, h3⟩
/-- a face comes back whose kinds the call itself has made -/
def RetOwn (w : World) (g : Fc) (e : Ending) (w' : World) : Prop := ∃ A c, e = .returned (.agg #[.int .i64 g.eye, .int .i64 g.rings, .int .i64 g.sectors, .slice A g.kinds.length c]) ∧ w'.ownsRow w.heap.size 3 1 (.slice A g.kinds.length c) g.kinds.length (ints g.kinds) ∧ Below w.heap.size w w'
theorem endOwn {fn : Func} {t : Nat} {w wr : World} {g lo : Nat} {G : Fc} {A : Option Addr} {c : Nat} {tmps : Array Value} {z0 z1 z2 z3 : Value} (hfn : fn.results = #[.cell t 24]) (ht : tmps[t]? = some (.pointer (some ⟨g, 0, none⟩)))
    (hb : Box wr g 24 #[z0, z1, z2, z3]) (hi : wr.ownsRow lo 3 1 (.slice A G.kinds.length c) G.kinds.length (ints G.kinds)) (hg : g < lo) (hw : w.heap.size ≤ g) (hbel : Below w.heap.size w wr) :
    bodyPost Tryz.prog fn (RetOwn w G) Exit.ret { tmps, defers := [] } (putF wr g G (.slice A G.kinds.length c)) := by
  have hb2 := putF_box (G := G) (s := .slice A G.kinds.length c) hb
  have q0 : (putF wr g G (.slice A G.kinds.length c)).cell? ⟨g, 0, none⟩ = some (.int .i64 G.eye) := hb2.cell 0
  have q1 : (putF wr g G (.slice A G.kinds.length c)).cell? ⟨g, 1, none⟩ = some (.int .i64 G.rings) := hb2.cell 1
  have q2 : (putF wr g G (.slice A G.kinds.length c)).cell? ⟨g, 2, none⟩ = some (.int .i64 G.sectors) := hb2.cell 2
  have q3 : (putF wr g G (.slice A G.kinds.length c)).cell? ⟨g, 3, none⟩ = some (.slice A G.kinds.length c) := hb2.cell 3
  exact bodyPost_ret (v := .agg #[.int .i64 G.eye, .int .i64 G.rings, .int .i64 G.sectors, .slice A G.kinds.length c]) (by simp [results, hfn, go_sem, ht, q0, q1, q2, q3]) rfl ⟨_, _, rfl, own_less (putF_own (G := G) hi hg) (by omega), putF_below hbel hw⟩

set_option maxRecDepth 100000 in
set_option maxHeartbeats 2000000 in
theorem rCopied_c (f : Fc) (v : Value) (w : World) (h : IsFace w w.heap.size v f) (hp : 0 < f.kinds.length) (hl6 : f.kinds.length ≤ 3000) :
    Calls Tryz.prog 55 #[v] w (RetOwn w f) := by
  obtain ⟨s, rfl, hlen, A, cp, rfl, hcap, hcell⟩ := h
  obtain ⟨b, off, rfl, hbB, hcc⟩ := hcell hp
  clear hcell
  have b0 := faceBox w f (.slice (some ⟨b, off, none⟩) f.kinds.length cp) (.cells #[.int .i64 0, .int .i64 0, .int .i64 0, .slice none 0 0] 24)
  have br := resBox w (.cells #[.int .i64 f.eye, .int .i64 f.rings, .int .i64 f.sectors, .slice (some ⟨b, off, none⟩) f.kinds.length cp] 24)
  have hbel : Below w.heap.size w ((w.alloc (.cells #[.int .i64 f.eye, .int .i64 f.rings, .int .i64 f.sectors, .slice (some ⟨b, off, none⟩) f.kinds.length cp] 24)).alloc (.cells #[.int .i64 0, .int .i64 0, .int .i64 0, .slice none 0 0] 24)) := ((Below.refl _ _).alloc (Nat.le_refl _) _).alloc (by simp) _
  have ho := World.ownsRow_made (base := w.heap.size + 2) (e := 3) (size := 1) ((w.alloc (.cells #[.int .i64 f.eye, .int .i64 f.rings, .int .i64 f.sectors, .slice (some ⟨b, off, none⟩) f.kinds.length cp] 24)).alloc (.cells #[.int .i64 0, .int .i64 0, .int .i64 0, .slice none 0 0] 24)) #[] 0 (by simp) (Nat.zero_le _) rfl
  have hsz : ((w.alloc (.cells #[.int .i64 f.eye, .int .i64 f.rings, .int .i64 f.sectors, .slice (some ⟨b, off, none⟩) f.kinds.length cp] 24)).alloc (.cells #[.int .i64 0, .int .i64 0, .int .i64 0, .slice none 0 0] 24)).heap.size = w.heap.size + 1 + 1 := by simp
  rw [hsz] at ho
  obtain ⟨i0, hi, hz0, hz1, hz2⟩ := info_parts Tryz.infoInt
  have hnews : ∀ (j : Nat) (u : Value), (ints f.kinds)[j]? = some u → (((w.alloc (.cells #[.int .i64 f.eye, .int .i64 f.rings, .int .i64 f.sectors, .slice (some ⟨b, off, none⟩) f.kinds.length cp] 24)).alloc (.cells #[.int .i64 0, .int .i64 0, .int .i64 0, .slice none 0 0] 24)).alloc (.cells #[] 3)).cell? ((⟨b, off, none⟩ : Addr).add j) = some u := fun j u hu => by
    have hj : j < f.kinds.length := by
      have := (List.getElem?_eq_some_iff.1 hu).1
      rwa [ints_len] at this
    have e2 : (⟨b, off, none⟩ : Addr).add j = ⟨b, off + j, none⟩ := by rcases j with _ | j <;> simp [Addr.add]
    rw [e2, keepd (hcc j hj) (hbel.alloc (by simp; omega) _) hbB, ← hu]
    unfold ints nth
    rw [List.getElem?_map, List.getD_eq_getElem?_getD, List.getElem?_eq_getElem hj]
    rfl
  have h1c : ∀ u ∈ ints f.kinds, u.oneCell' = true := by intro u hu; obtain ⟨x, _, rfl⟩ := List.mem_map.1 hu; rfl
  have hk0 : (ints f.kinds).length = f.kinds.length * 1 := by rw [ints_len]; omega
  have hk1 : 0 + f.kinds.length ≤ maxLen := by unfold maxLen; omega
  have hk2 : (0 + f.kinds.length) * 8 ≤ 140737488355328 := by omega
  have hk3 : w.heap.size + 2 ≤ (((w.alloc (.cells #[.int .i64 f.eye, .int .i64 f.rings, .int .i64 f.sectors, .slice (some ⟨b, off, none⟩) f.kinds.length cp] 24)).alloc (.cells #[.int .i64 0, .int .i64 0, .int .i64 0, .slice none 0 0] 24)).alloc (.cells #[] 3)).heap.size := by simp
  clear hcc hsz
  go_enter Tryz.func55, Tryz.ntmps55
  go_wp2_with (first
    | (at_builtin; refine wpList_append_own_at _ rfl _ _ 22 rfl (w.heap.size + 2) 3 i0 (.int .i64 0) 1 8 Tryz.underlying22 hi hz0 hz1 hz2 rfl (by decide) (.slice (some ⟨w.heap.size + 1 + 1, 0, none⟩) 0 0) _ _ rfl ho ⟨b, off, none⟩ f.kinds.length cp (ints f.kinds) rfl hk0 hnews h1c hk1 hk2 hk3 ?_; intro v' w7 hown7 hgrow7 _ _; rw [Nat.zero_add, List.nil_append] at hown7; obtain ⟨oA, oc, rfl⟩ := own_shape hown7; have bf7 := (b0.alloc (.cells #[] 3)).grown hgrow7 (fun e => by have e2 := Option.some.inj e; dsimp only at e2; omega); have br7 := (br.alloc (.cells #[] 3)).grown hgrow7 (fun e => by have e2 := Option.some.inj e; dsimp only at e2; omega); have q3 : w7.cell? ⟨w.heap.size, 3, none⟩ = some (.slice (some ⟨b, off, none⟩) f.kinds.length cp) := bf7.cell 3; have q4 := bf7.free 3; have bf8 := bf7.put 3 (.slice oA f.kinds.length oc); have br8 := br7.far (p := ⟨w.heap.size, 3, none⟩) (by simp) (.slice oA f.kinds.length oc); have q0 : w7.cell? ⟨w.heap.size, 0, none⟩ = some (.int .i64 f.eye) := bf7.cell 0; have q1 : w7.cell? ⟨w.heap.size, 1, none⟩ = some (.int .i64 f.rings) := bf7.cell 1; have q2 : w7.cell? ⟨w.heap.size, 2, none⟩ = some (.int .i64 f.sectors) := bf7.cell 2; have y0 : w7.cell? ⟨w.heap.size + 1, 0, none⟩ = some (.int .i64 0) := br7.cell 0; have y1 : w7.cell? ⟨w.heap.size + 1, 1, none⟩ = some (.int .i64 0) := br7.cell 1; have y2 : w7.cell? ⟨w.heap.size + 1, 2, none⟩ = some (.int .i64 0) := br7.cell 2; have y3 : w7.cell? ⟨w.heap.size + 1, 3, none⟩ = some (.slice none 0 0) := br7.cell 3; have z0 := br7.free 0; have z1 := br7.free 1; have z2 := br7.free 2; have z3 := br7.free 3))
  have hsz7 := hgrow7.size
  simp only [World.size_alloc] at hsz7
  have hb7 : Below w.heap.size w w7 := (hbel.alloc (by simp; omega) (.cells #[] 3)).grown hgrow7 (by first | (simp; done) | (simp; omega)) (fun q e => by have := (ho.lt q e).1; omega)
  have hb8 := hb7.setCell (p := ⟨w.heap.size, 3, none⟩) (Nat.le_refl _) (.slice oA f.kinds.length oc)
  exact endOwn (G := f) (lo := w.heap.size + 2) Tryz.results55 rfl br8 (own_far hown7 (p := ⟨w.heap.size, 3, none⟩) (by show w.heap.size < w.heap.size + 2; omega) _) (by omega) (by omega) hb8


set_option maxRecDepth 100000 in
set_option maxHeartbeats 4000000 in
theorem rSet_c (f : Fc) (v : Value) (r c kind : Int) (w : World) (h : IsFace w w.heap.size v f) :
    Calls Tryz.prog 12 #[v, .agg #[.int .i64 r, .int .i64 c], .int .i64 kind] w (RetFaceE w (setOf f r c kind) (ckSet f r c kind)) := by
  have hF := h
  obtain ⟨s, rfl, hlen, A, cp, rfl, hcap, hcell⟩ := h
  have h0 := StSt.made w f (.slice A f.kinds.length cp) r c
  have hF0 := hF.mono h0.bel h0.bel.size
  by_cases hk : ckCell f r c = 0
  · have hd : (ckCell f r c != 0) = false := by simp [hk]
    cases hkd : inB kind 0 2
    · have He := Lib.hid (show ckSet f r c kind = 1 by simp [ckSet, hk, hkd])
      have Hf := Lib.hid (show setOf f r c kind = zF by simp [setOf, He.out])
      clear hcell hk
      go_enter Tryz.func12, Tryz.ntmps12
      go_wp2_with fail
      refine (rAsked_c f _ r c _ hF0).mono ?_; rintro e w1 ⟨rfl, hb⟩
      have st1 := h0.later hb
      have hbx := st1.b2
      have h0 : w1.cell? ⟨w.heap.size + 2, 0, none⟩ = some (.int .i64 0) := hbx.cell 0
      have hf0 := hbx.free 0
      have h1 : w1.cell? ⟨w.heap.size + 2, 1, none⟩ = some (.int .i64 0) := hbx.cell 1
      have hf1 := hbx.free 1
      have h2 : w1.cell? ⟨w.heap.size + 2, 2, none⟩ = some (.int .i64 0) := hbx.cell 2
      have hf2 := hbx.free 2
      have h3 : w1.cell? ⟨w.heap.size + 2, 3, none⟩ = some (.slice none 0 0) := hbx.cell 3
      have hf3 := hbx.free 3
      go_wp2_with (go_at_call 54; refine (rwithin_c _ _ _ _).mono ?_; rintro e w' ⟨rfl, rfl⟩)
      rw [Hf.out, He.out]
      exact endPutE (G := zF) (lo := w.heap.size + 3) Tryz.results12 rfl rfl hbx (zF_ints _ _ _) (NewS.none_ _ _ _) (by omega) (by omega) st1.bel
    · obtain ⟨hv, i1, i2, i3, i4⟩ := ckCell_ok hk
      dsimp only at i1 i2 i3 i4
      obtain ⟨j1, j2⟩ := idx_bd hv i1 i2 i3 i4
      obtain ⟨⟨⟨a1, a2⟩, ⟨a3, a4⟩, a5, a6⟩, -, -⟩ := validB_iff.1 hv
      have hl6 : f.kinds.length ≤ 2304 := (len_val hv).2.2
      have He := Lib.hid (show ckSet f r c kind = 0 by simp [ckSet, hk, hkd])
      have Hf := Lib.hid (show setOf f r c kind = setF f r c kind by simp [setOf, He.out])
      obtain ⟨b, off, rfl, hbB, hcc⟩ := hcell (by omega)
      clear hcell hk hv
      go_enter Tryz.func12, Tryz.ntmps12
      go_wp2_with fail
      refine (rAsked_c f _ r c _ hF0).mono ?_; rintro e w1 ⟨rfl, hb⟩
      have h1 := h0.later hb
      clear h0 hF0 hb
      have k0 : w1.cell? ⟨w.heap.size, 0, none⟩ = some (.int .i64 f.eye) := h1.b0.cell 0
      have k1 : w1.cell? ⟨w.heap.size, 1, none⟩ = some (.int .i64 f.rings) := h1.b0.cell 1
      have k2 : w1.cell? ⟨w.heap.size, 2, none⟩ = some (.int .i64 f.sectors) := h1.b0.cell 2
      have k3 : w1.cell? ⟨w.heap.size, 3, none⟩ = some (.slice (some ⟨b, off, none⟩) f.kinds.length cp) := h1.b0.cell 3
      clear hcc
      go_wp2_with (go_at_call 54; refine (rwithin_c _ _ _ _).mono ?_; rintro e w' ⟨rfl, rfl⟩)
      refine (rCopied_c f _ w1 (hF.mono h1.bel h1.bel.size) (by omega) (by omega)).mono ?_
      rintro e w2 ⟨sA, ck, rfl, hown, hb2⟩
      obtain ⟨gk, rfl⟩ : ∃ gk, sA = some ⟨gk, 0, none⟩ := by
        rcases hown.2 with ⟨-, hz⟩ | ⟨g, cap, cur, hx, _⟩
        · omega
        · injection hx with hx
          exact ⟨g, hx⟩
      have hgk := hown.lt gk rfl
      have h2 := h1.later hb2
      have hs1 := h1.b2.lt
      clear k0 k1 k2 k3 h1 hb2
      obtain ⟨n, hn⟩ := Int.eq_ofNat_of_zero_le j1
      have hn1 : n < f.kinds.length := by omega
      have Hn := Lib.hid hn
      have Hset := Lib.hid (show (setF f r c kind).kinds = f.kinds.set n kind by unfold setF; rw [hn]; rfl)
      clear hn j1 j2
      have bgW := Box.made w2 24 #[.int .i64 f.eye, .int .i64 f.rings, .int .i64 f.sectors, .slice (some ⟨gk, 0, none⟩) f.kinds.length ck]
      have hal : Below w2.heap.size w2 (w2.alloc (.cells #[.int .i64 f.eye, .int .i64 f.rings, .int .i64 f.sectors, .slice (some ⟨gk, 0, none⟩) f.kinds.length ck] 24)) := (Below.refl _ _).alloc (Nat.le_refl _) _
      have h0W := h2.b0.later hal
      have h1W := h2.b1.later hal
      have h2W := h2.b2.later hal
      have ownW := own_later hown hal
      have belW := chain h2.bel hal
      have hgk2 : gk < (w2.alloc (.cells #[.int .i64 f.eye, .int .i64 f.rings, .int .i64 f.sectors, .slice (some ⟨gk, 0, none⟩) f.kinds.length ck] 24)).heap.size := by rw [World.size_alloc]; omega
      obtain ⟨hgk1, hgk3⟩ := hgk
      clear hown h2 hal
      go_wp2_with fail
      generalize w2.alloc (.cells #[.int .i64 f.eye, .int .i64 f.rings, .int .i64 f.sectors, .slice (some ⟨gk, 0, none⟩) f.kinds.length ck] 24) = W at *
      generalize w2.heap.size = ob at *
      have kx : W.cell? ⟨gk, n, none⟩ = some (.int .i64 (nth f.kinds n)) := by
        rw [ownW.cellAt n (by omega)]
        unfold nth
        rw [show (ints f.kinds) = f.kinds.map (Value.int .i64) from rfl, List.getElem?_map, List.getD_eq_getElem?_getD, List.getElem?_eq_getElem hn1]
        rfl
      have fx := ownW.frozenAt n
      have k0 : W.cell? ⟨w.heap.size, 0, none⟩ = some (.int .i64 f.eye) := h0W.cell 0
      have k1 : W.cell? ⟨w.heap.size, 1, none⟩ = some (.int .i64 f.rings) := h0W.cell 1
      have k2 : W.cell? ⟨w.heap.size, 2, none⟩ = some (.int .i64 f.sectors) := h0W.cell 2
      have k3 : W.cell? ⟨w.heap.size, 3, none⟩ = some (.slice (some ⟨b, off, none⟩) f.kinds.length cp) := h0W.cell 3
      have k4 : W.cell? ⟨w.heap.size + 1, 0, none⟩ = some (.int .i64 r) := h1W.cell 0
      have k5 : W.cell? ⟨w.heap.size + 1, 1, none⟩ = some (.int .i64 c) := h1W.cell 1
      have k6 : W.cell? ⟨ob, 3, none⟩ = some (.slice (some ⟨gk, 0, none⟩) f.kinds.length ck) := bgW.cell 3
      have n1 : (0 : Int) ≤ (n : Int) := Int.natCast_nonneg _
      have n2 : (n : Int) < (f.kinds.length : Int) := by omega
      have hlw := bgW.lt
      go_region_law (first
        | (go_simp; go_at_call 50; refine (rnumber_c f (.slice (some ⟨b, off, none⟩) f.kinds.length cp) r c W.drew (by omega) (by omega) (by omega) (by omega) (by omega) (by omega)).mono ?_; rintro e w4 ⟨rfl, hb4⟩; rw [Hn.out]; have hb4 := Below.trans ((Below.refl W.heap.size W).drew) hb4; have kx4 := keepd kx hb4 hgk2; have k64 := keepd k6 hb4 hlw; have own4 := own_later ownW hb4; have fx4 := own4.frozenAt n; dsimp only))
      all_goals
        have own5 : (w4.setCell ⟨gk, n, none⟩ (.int .i64 kind)).ownsRow w1.heap.size 3 1 (.slice (some ⟨gk, 0, none⟩) f.kinds.length ck) (f.kinds.set n kind).length (ints (f.kinds.set n kind)) := by
          rw [List.length_set, ints_set]
          exact (own4.stored n (.int .i64 kind)).1
        have bg5 := (bgW.later hb4).far (p := ⟨gk, n, none⟩) (by simp; omega) (.int .i64 kind)
        have h25 := (h2W.later hb4).far (p := ⟨gk, n, none⟩) (by simp; omega) (.int .i64 kind)
        have hb5 := (chain belW hb4).setCell (p := ⟨gk, n, none⟩) (by simp; omega) (.int .i64 kind)
        clear h0W h1W h2W ownW bgW kx fx k0 k1 k2 k3 k4 k5 k6 kx4 k64 own4 fx4 hb4
        generalize w4.setCell ⟨gk, n, none⟩ (.int .i64 kind) = W5 at *
        have g0 : W5.cell? ⟨ob, 0, none⟩ = some (.int .i64 f.eye) := bg5.cell 0
        have g1 : W5.cell? ⟨ob, 1, none⟩ = some (.int .i64 f.rings) := bg5.cell 1
        have g2 : W5.cell? ⟨ob, 2, none⟩ = some (.int .i64 f.sectors) := bg5.cell 2
        have g3 : W5.cell? ⟨ob, 3, none⟩ = some (.slice (some ⟨gk, 0, none⟩) f.kinds.length ck) := bg5.cell 3
        have y0 : W5.cell? ⟨w.heap.size + 2, 0, none⟩ = some (.int .i64 0) := h25.cell 0
        have yf0 := h25.free 0
        have y1 : W5.cell? ⟨w.heap.size + 2, 1, none⟩ = some (.int .i64 0) := h25.cell 1
        have yf1 := h25.free 1
        have y2 : W5.cell? ⟨w.heap.size + 2, 2, none⟩ = some (.int .i64 0) := h25.cell 2
        have yf2 := h25.free 2
        have y3 : W5.cell? ⟨w.heap.size + 2, 3, none⟩ = some (.slice none 0 0) := h25.cell 3
        have yf3 := h25.free 3
        go_wp2_with fail
        rw [Hf.out, He.out]
        exact endPutE (G := setF f r c kind) (lo := w.heap.size + 3) Tryz.results12 rfl rfl h25 (by rw [Hset.out]; exact ints_own own5 (Nat.le_refl _) (by rw [List.length_set]; omega)) ((NewS.own own5).mono (by omega)) (by omega) (by omega) hb5
  · have hd : (ckCell f r c != 0) = true := by simpa using hk
    have He := Lib.hid (show ckSet f r c kind = ckCell f r c by simp [ckSet, hk])
    have Hf := Lib.hid (show setOf f r c kind = zF by simp [setOf, He.out, hk])
    clear hcell hk
    go_enter Tryz.func12, Tryz.ntmps12
    go_wp2_with fail
    refine (rAsked_c f _ r c _ hF0).mono ?_; rintro e w1 ⟨rfl, hb⟩
    have st1 := h0.later hb
    have hbx := st1.b2
    have h0 : w1.cell? ⟨w.heap.size + 2, 0, none⟩ = some (.int .i64 0) := hbx.cell 0
    have hf0 := hbx.free 0
    have h1 : w1.cell? ⟨w.heap.size + 2, 1, none⟩ = some (.int .i64 0) := hbx.cell 1
    have hf1 := hbx.free 1
    have h2 : w1.cell? ⟨w.heap.size + 2, 2, none⟩ = some (.int .i64 0) := hbx.cell 2
    have hf2 := hbx.free 2
    have h3 : w1.cell? ⟨w.heap.size + 2, 3, none⟩ = some (.slice none 0 0) := hbx.cell 3
    have hf3 := hbx.free 3
    go_wp2_with fail
    rw [Hf.out, He.out]
    exact endPutE (G := zF) (lo := w.heap.size + 3) Tryz.results12 rfl rfl hbx (zF_ints _ _ _) (NewS.none_ _ _ _) (by omega) (by omega) st1.bel

end Go.Proofs.YtpejcdjgggcjlaaGreatDoor

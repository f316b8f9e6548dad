/- Layer 9: the law on both halves. -/
import Derived.Test.YthmiokcfkdpphaaUD
import Derived.Test.YthmiokcfkdpphaaU8
set_option linter.all false
namespace Go.Proofs.Ythmiokcfkdpphaa
open Go.RowKit

/-- the first bytes of a slice, as the machine cuts them off with no room behind -/
theorem Bys.cutTo {w : World} {B : Nat} {A : Option Addr} {n c : Nat} {xs : List Int} (h : Bys w B (.slice A n c) xs) (M : Int) (m : Nat) (hM : M = m) (hm : m ≤ xs.length) :
    ∃ V, (∀ W, (Instr.sliceAt 31 (.slice A n c) none (some (.int .i64 M)) (some (.int .i64 M))).run Try.prog W = .ok V W) ∧ Bys w B V (xs.take m) := by
  have e := h.len
  subst hM
  refine ⟨sliced A 0 m m 1, fun W => ?_, ?_⟩
  · rw [run_sliceAt_slice W _ _ _ _ _ elemB, run_slice_hm W _ _ _ _ elemB _ _ _ _ (by omega) (by omega) (by omega), sizeB]
    rfl
  · obtain ⟨h1, h0, A', c', e', h2, h3⟩ := h
    injection e' with e1 e2 e3
    subst e1 e2 e3
    have hlen : (xs.take m).length = m := by simp; omega
    refine ⟨by rw [hlen]; omega, h0.take _, (if m = 0 then A else A.map (·.add (0 * 1))), m, by rw [hlen]; rfl, by rw [hlen]; omega, fun hp => ?_⟩
    rw [hlen] at hp
    obtain ⟨b, off, rfl, hlt, hc⟩ := h3 (by omega)
    refine ⟨b, off, ?_, hlt, fun k hk => ?_⟩
    · rw [if_neg (by omega)]
      simp [Addr.add]
    · rw [hlen] at hk
      rw [nth_take _ _ _ (by omega)]
      exact hc _ (by omega)
theorem wrap64_id {n : Int} (h0 : 0 ≤ n) (h1 : n ≤ 4611686018427387904) : wrap64 n = n := by unfold wrap64; omega
theorem isBy_set {xs : List Int} (h : IsBy xs) {i : Nat} {x y : Int} (hy : Bit x y) : IsBy (xs.set i y) := fun k => by rw [nth_set]; split; exact hy.2; exact h k
theorem own_bys {w : World} {base n : Nat} {v : Value} {xs : List Int} (h : w.ownsRow base 5 1 v n (bys xs)) (hn : xs.length = n) (hl : n ≤ 140737488351232) (hb : IsBy xs) : Bys w w.heap.size v xs := by subst hn; exact bys_own h (Nat.le_refl _) hl hb
/-- a world behind another one -/
def Aft (w W : World) : Prop := Below w.heap.size w W
theorem Aft.later {w W W' : World} (h : Aft w W) (hb : Below W.heap.size W W') : Aft w W' := Below.trans h (Below.mono hb (Below.size h))
theorem elemBs : Try.prog.underlying 44 = some (.slice (Try.prog.elem 44)) := by rw [show Try.prog.elem 44 = 31 from by simp [Program.elem, Try.underlying44]]; exact Try.underlying44
theorem sizeBs (W : World) : (sizeOf (Try.prog.elem 44)).run Try.prog W = .ok 1 W := by
  obtain ⟨i, hi, hi2⟩ := Option.map_eq_some_iff.1 Try.infoBs
  simp only [Prod.mk.injEq] at hi2
  rw [show Try.prog.elem 44 = 31 from by simp [Program.elem, Try.underlying44]]
  simp [sizeOf, typeInfo, hi, hi2.2.1]
theorem nthB_take (xs : List (List Int)) (d k : Nat) (h : k < d) : nthB (xs.take d) k = nthB xs k := by unfold nthB; simp [List.getD_eq_getElem?_getD, List.getElem?_take, h]
theorem ByL.cutTo {w : World} {B : Nat} {A : Option Addr} {n c : Nat} {l : List (List Int)} (h : ByL w B (.slice A n c) l) (M : Int) (m : Nat) (hM : M = m) (hm : m ≤ l.length) :
    ∃ V, (∀ W, (Instr.sliceAt 44 (.slice A n c) none (some (.int .i64 M)) (some (.int .i64 M))).run Try.prog W = .ok V W) ∧ ByL w B V (l.take m) := by
  subst hM
  obtain ⟨h1, A', c', e', h2, h3⟩ := h
  injection e' with e1 e2 e3
  subst e1 e2 e3
  refine ⟨sliced A 0 m m 1, fun W => ?_, ?_⟩
  · rw [run_sliceAt_slice W _ _ _ _ _ elemBs, run_slice_hm W _ _ _ _ elemBs _ _ _ _ (by omega) (by omega) (by omega), sizeBs]
    rfl
  · have hlen : (l.take m).length = m := by simp; omega
    refine ⟨by rw [hlen]; omega, (if m = 0 then A else A.map (·.add (0 * 1))), m, by rw [hlen]; rfl, by rw [hlen]; omega, fun hp => ?_⟩
    rw [hlen] at hp
    obtain ⟨b, off, rfl, hlt, hc⟩ := h3 (by omega)
    refine ⟨b, off, ?_, hlt, fun k hk => ?_⟩
    · rw [if_neg (by omega)]
      simp [Addr.add]
    · rw [hlen] at hk
      rw [nthB_take _ _ _ (by omega)]
      exact hc _ (by omega)

set_option maxRecDepth 100000 in
set_option maxHeartbeats 8000000 in
theorem TalliesHalves_c (l : List (List Int)) (bit cs cf : Int) (hbit : -9223372036854775808 ≤ bit ∧ bit ≤ 9223372036854775807) (v : Value) (w : World) (h : ByL w w.heap.size v l) :
    Calls Try.prog 5 #[v, .int .i64 bit, .int .i64 cs, .int .i64 cf] w fun e w' => e = .returned (.bool true) ∧ Below w.heap.size w w' := by
  have HBIT0 := Lib.hid hbit
  clear hbit
  have H := Lib.hid h
  have hsh : ∃ A c, v = .slice A l.length c := by obtain ⟨h1, A, c, rfl, h2, h3⟩ := h; exact ⟨A, c, rfl⟩
  obtain ⟨A, c, rfl⟩ := hsh
  obtain ⟨n, hn⟩ : ∃ z, l.length = z := ⟨_, rfl⟩
  have HN := Lib.hid hn
  rw [hn] at H ⊢
  have HN0 := Lib.hid (show n * 24 ≤ 140737488351232 by have := h.1; omega)
  clear h hn
  by_cases q1 : n ≤ 30
  case neg =>
    have d1 : decide ((30 : Int) < (n : Int)) = true := by simp; omega
    clear q1
    go_enter Try.func5, Try.ntmps5
    go_wp2_with fail
    refine (awake_c w).mono ?_; rintro e w1 ⟨rfl, hb1⟩
    have HB1 := Lib.hid hb1
    clear hb1
    go_wp2_with fail
    go_ret
    exact ⟨rfl, HB1.out⟩
  have d1 : decide ((30 : Int) < (n : Int)) = false := by simp; omega
  have Q1 := Lib.hid q1
  clear q1
  cases q2 : longB l with
  | true =>
    have kl := Lib.hid (fun (W : World) (hb : Below w.heap.size w W) => long_c l _ W (H.out.later hb))
    rw [q2] at kl
    clear q2
    go_enter Try.func5, Try.ntmps5
    go_wp2_with fail
    refine (awake_c w).mono ?_; rintro e w1 ⟨rfl, hb1⟩
    have HB1 := Lib.hid hb1
    clear hb1
    go_wp2_with fail
    refine (kl.out _ HB1.out).mono ?_; rintro e w2 ⟨rfl, hb2⟩
    have HB2 := Lib.hid (HB1.out.trans (hb2.mono HB1.out.size))
    clear hb2
    go_wp2_with fail
    go_ret
    exact ⟨rfl, HB2.out⟩
  | false =>
    have kl := Lib.hid (fun (W : World) (hb : Below w.heap.size w W) => long_c l _ W (H.out.later hb))
    rw [q2] at kl
    have HG := Lib.hid (H.out.good q2)
    have Q2 := Lib.hid q2
    clear q2
    go_enter Try.func5, Try.ntmps5
    go_wp2_with fail
    refine (awake_c w).mono ?_; rintro e w1 ⟨rfl, hb1⟩
    have HB1 := Lib.hid hb1
    clear hb1
    go_wp2_with fail
    refine (kl.out _ HB1.out).mono ?_; rintro e w2 ⟨rfl, hb2⟩
    have HB2 := Lib.hid (HB1.out.trans (hb2.mono HB1.out.size))
    clear hb2 kl HB1
    go_wp2_with fail
    refine (halves_c l _ w2 (H.out.later HB2.out) (by have := Q1.out; have := HN.out; omega) Q2.out).mono ?_; rintro e w3 ⟨sv, fv, ev, rfl, ho3, hb3⟩
    have HB3 := Lib.hid (HB2.out.trans (hb3.mono HB2.out.size))
    have HSL := Lib.hid (show (catS l).length ≤ 9060 by
      have h1 := catS_len HG.out
      have h2 : (300 + 2) * l.length ≤ 302 * 30 := Nat.mul_le_mul (Nat.le_refl _) (by have := Q1.out; have := HN.out; omega)
      omega)
    have HFE := Lib.hid (show (catF l).length = 4 * n by rw [catF_len, HN.out])
    have HB23 := Lib.hid hb3.size
    obtain ⟨SA, sc, rfl⟩ := own_shape ho3.1
    obtain ⟨FA, fc, rfl⟩ := own_shape ho3.2.1
    obtain ⟨EA, ec, rfl⟩ := own_shape ho3.2.2.1
    have HO3 := Lib.hid ho3
    have HBX2 := Lib.hid HB2.out
    clear hb3 ho3 HB2
    have bS := fun (W : World) (h : Own3 W w2.heap.size (.slice SA (catS l).length sc) (.slice FA (catF l).length fc) (.slice EA (endsList l).length ec) (catS l) (catF l) (endsList l)) => bys_own (B := W.heap.size) h.1 (Nat.le_refl _) (by have := HSL.out; omega) (catS_by (by omega) HG.out)
    have bF := fun (W : World) (h : Own3 W w2.heap.size (.slice SA (catS l).length sc) (.slice FA (catF l).length fc) (.slice EA (endsList l).length ec) (catS l) (catF l) (endsList l)) => bys_own (B := W.heap.size) h.2.1 (Nat.le_refl _) (by have := HFE.out; have := Q1.out; omega) (catF_by (by omega) HG.out)
    have BS := Lib.hid bS
    have BF := Lib.hid bF
    clear bS bF
    go_wp2_with fail
    have kj := Join_c (catS l) (catF l) _ _ w3 (BS.out _ HO3.out) (BF.out _ HO3.out) (by have := HSL.out; omega) (by have := HFE.out; have := Q1.out; omega)
    rw [joinL_all (by omega) HG.out, sLen_cat l] at kj
    refine kj.mono ?_; rintro e w4 ⟨ov, rfl, hov, hb4⟩
    have HOV := Lib.hid hov
    have HB4 := Lib.hid (HB3.out.trans (hb4.mono HB3.out.size))
    have HO4 := Lib.hid (HO3.out.later hb4)
    clear kj hov hb4 HO3
    go_wp2_with fail
    refine (SameBytes_r l _ _ w4 HOV.out (H.out.later HB4.out)).mono ?_; rintro e w5 ⟨rfl, hb5⟩
    have HB5 := Lib.hid (HB4.out.trans (hb5.mono HB4.out.size))
    have HO5 := Lib.hid (HO4.out.later hb5)
    clear hb5 HO4 HB4 HOV
    have e7 : (4 * (l.length : Int)) = ((catF l).length : Int) := by rw [HFE.out, HN.out]; omega
    rw [e7]
    have HE := Lib.hid (endsList_len l)
    obtain ⟨ns, hns⟩ : ∃ z, (catS l).length = z := ⟨_, rfl⟩
    obtain ⟨nf, hnf⟩ : ∃ z, (catF l).length = z := ⟨_, rfl⟩
    obtain ⟨ne, hne⟩ : ∃ z, (endsList l).length = z := ⟨_, rfl⟩
    have HNS := Lib.hid hns
    have HNF := Lib.hid hnf
    have HNE := Lib.hid hne
    rw [hns] at HO5 HSL BS BF ⊢
    rw [hnf] at HO5 HFE BS BF ⊢
    rw [hne] at HO5 HE BS BF ⊢
    have x1 : ((ns : Int) != (ns : Int)) = false := by simp
    have x2 : ((nf : Int) != (nf : Int)) = false := by simp
    have x3 : (ns != ns) = false := by simp
    have x4 : (nf != nf) = false := by simp
    clear hns hnf hne e7
    have hn0 : n * 24 ≤ 140737488351232 := HN0.out
    have SL9 := HSL.out
    have NF9 : nf ≤ 120 := by have := HFE.out; have := Q1.out; omega
    have N9 : n ≤ 30 := Q1.out
    have y1 : IntKind.wrap .i64 ((ns : Int) + (nf : Int)) = (ns : Int) + (nf : Int) := wrapI (by omega) (by omega)
    clear hn0
    have HBW2 := Lib.hid (show w.heap.size ≤ w2.heap.size from HBX2.out.size)
    by_cases a1 : cs < 0
    · have f0 : decide (0 ≤ cs) = false := by simp; omega
      clear a1
      by_cases b0 : bit < 0
      · have f1 : decide (bit < 0) = true := by simpa using b0
        clear b0
        go_wp2_with fail
        go_ret
        exact ⟨rfl, HB5.out⟩
      obtain ⟨q, hq⟩ := Int.eq_ofNat_of_zero_le (show 0 ≤ bit / 8 by omega)
      obtain ⟨j, hj⟩ := Int.eq_ofNat_of_zero_le (show 0 ≤ bit % 8 by omega)
      have HJ8 := Lib.hid (show j < 8 by omega)
      have f1 : decide (bit < 0) = false := by simp; omega
      have b1 : 0 ≤ bit := by omega
      have t1 : Int.tdiv bit 8 = (q : Int) := by rw [Int.tdiv_eq_ediv_of_nonneg b1, hq]
      have t2 : Int.tmod bit 8 = (j : Int) := by rw [Int.tmod_eq_emod_of_nonneg b1, hj]
      have t3 : bit / 8 = (q : Int) := hq
      have t5 : wrap64 (q : Int) = (q : Int) := wrap64_id (by omega) (by have := HBIT0.out.2; clear t1 t2; omega)
      have t4 : bit % 8 = (j : Int) := hj
      clear b0 hq hj
      have T1 := Lib.hid t1
      have T2 := Lib.hid t2
      have T3 := Lib.hid t3
      have T4 := Lib.hid t4
      have T5 := Lib.hid t5
      clear t1 t2 t3 t4 t5
      by_cases b2 : ns + nf ≤ q
      · have f2 : decide ((ns : Int) + (nf : Int) ≤ (q : Int)) = true := decide_eq_true (by omega)
        have f2' : decide (ns + nf ≤ q) = true := decide_eq_true (by omega)
        clear b2
        have t1 := T1.out
        have t3 := T3.out
        have t5 := T5.out
        go_wp2_with fail
        go_ret
        exact ⟨rfl, HB5.out⟩
      have f2 : decide ((ns : Int) + (nf : Int) ≤ (q : Int)) = false := decide_eq_false (by omega)
      have f2' : decide (ns + nf ≤ q) = false := decide_eq_false (by omega)
      by_cases b3 : q < ns
      · have f3 : decide ((q : Int) < (ns : Int)) = true := decide_eq_true (by omega)
        have f3' : decide (q < ns) = true := decide_eq_true (by omega)
        have HQS := Lib.hid b3
        have q9 : q ≤ 9200 := by omega
        clear b2 b3
        have hrow := HO5.out.1
        obtain ⟨g, rfl⟩ : ∃ g, SA = some ⟨g, 0, none⟩ := by
          rcases hrow.2 with ⟨e, -⟩ | ⟨g, cap, cur, e, -⟩
          · injection e with e1 e2 e3; have := HQS.out; omega
          · injection e with e1 e2 e3; exact ⟨g, e1⟩
        have hx : w5.cell? ⟨g, q, none⟩ = some (.int .u8 (nth (catS l) q)) := by
          rw [HNS.out] at hrow
          rw [hrow.cellAt q (by have := HQS.out; omega)]
          exact bys_at _ _ (by have := HQS.out; have := HNS.out; omega)
        have hfz : ∀ o, w5.frozen? ⟨g, o, none⟩ = false := fun o => by rw [HNS.out] at hrow; exact hrow.frozenAt o
        have HBIT := Lib.hid (bit_of (j := j) (((catS_by (m := 300) (by omega) HG.out)) q).1 (((catS_by (m := 300) (by omega) HG.out)) q).2 HJ8.out)
        have HST : w5.grownBy (w5.setCell ⟨g, q, none⟩ (.int .u8 (bits .xor .u8 (nth (catS l) q) (2 ^ j)))) (some g) ∧ (w5.setCell ⟨g, q, none⟩ (.int .u8 (bits .xor .u8 (nth (catS l) q) (2 ^ j)))).ownsRow w2.heap.size 5 1 (.slice (some ⟨g, 0, none⟩) ns sc) ns (bys ((catS l).set q (bits .xor .u8 (nth (catS l) q) (2 ^ j)))) := by
          rw [HNS.out] at hrow
          have := hrow.stored q (.int .u8 (bits .xor .u8 (nth (catS l) q) (2 ^ j)))
          refine ⟨this.2, ?_⟩
          have e : bys ((catS l).set q (bits .xor .u8 (nth (catS l) q) (2 ^ j))) = (bys (catS l)).set q (.int .u8 (bits .xor .u8 (nth (catS l) q) (2 ^ j))) := by unfold bys; rw [List.map_set]
          rw [e]; exact this.1
        have HF6 := Lib.hid (own_other HO5.out.2.1 (u := .slice (some ⟨g, 0, none⟩) ns sc) HST.1 HO5.out.2.2.2.1.symm)
        have HE6 := Lib.hid (own_other HO5.out.2.2.1 (u := .slice (some ⟨g, 0, none⟩) ns sc) HST.1 HO5.out.2.2.2.2.1.symm)
        have HS6 := Lib.hid HST.2
        have HB6 := Lib.hid (HB5.out.grown HST.1 HB5.out.size (fun k e => by cases e; have := (hrow.lt g rfl).1; have := HBW2.out; omega))
        have HX := Lib.hid hx
        have HFZ := Lib.hid hfz
        clear HST hrow hx hfz
        have t1 := T1.out
        have t3 := T3.out
        iterate 200 (first | (with_reducible show Code.wp _ (Code.region 19 _ _) _ _ _) | go_values | go_skip | go_guarded | go_step | go_upon | go_back | (simp only [Int.not_lt, Int.not_le] at *; go_simp) | go_simp)
        clear t1 t3
        have t2 := T2.out
        have t4 := T4.out
        have hx := HX.out
        have hfz := HFZ.out
        have hqn : q < ns := HQS.out
        have hpw := pow_bd HJ8.out
        have s5 : (2 : Int) ^ j % 256 = 2 ^ j := Int.emod_eq_of_lt (by omega) (by omega)
        clear hpw
        go_region
        obtain ⟨y, hy⟩ : ∃ z, bits .xor .u8 (nth (catS l) q) (2 ^ j) = z := ⟨_, rfl⟩
        rw [hy] at HS6 HF6 HE6 HB6 HBIT ⊢
        obtain ⟨W8, hW8⟩ : ∃ z, (w5.setCell ⟨g, q, none⟩ (.int .u8 y)).drew = z := ⟨_, rfl⟩
        have h1 : W8.ownsRow w2.heap.size 5 1 (.slice (some ⟨g, 0, none⟩) ns sc) ns (bys ((catS l).set q y)) := by rw [← hW8]; exact HS6.out
        have h2 : W8.ownsRow w2.heap.size 5 1 (.slice FA nf fc) (catF l).length (bys (catF l)) := by rw [← hW8]; exact HF6.out
        have h3 : W8.ownsRow w2.heap.size 3 1 (.slice EA ne ec) (endsList l).length (ints (endsList l)) := by rw [← hW8]; exact HE6.out
        have h4 : Below w.heap.size w W8 := by rw [← hW8]; exact HB6.out.drew
        rw [hW8]
        have HS8 := Lib.hid h1
        have HF8 := Lib.hid h2
        have HE8 := Lib.hid h3
        have HB8 := Lib.hid h4
        obtain ⟨ge, rfl⟩ : ∃ g, EA = some ⟨g, 0, none⟩ := by
          rcases h3.2 with ⟨e, -⟩ | ⟨g, cap, cur, e, -⟩
          · injection e with e1 e2 e3; have := HE.out; omega
          · injection e with e1 e2 e3; exact ⟨g, e1⟩
        clear hW8 hy h1 h2 h3 h4 t2 t4 hx hfz hqn s5 HX HFZ HS6 HF6 HE6 HB6
        go_wp2_with fail
        go_loopw [21] (fun kv wr => ∃ k : Nat, kv = .int .i64 (k : Int) ∧ k < n ∧ (catS (l.take k)).length ≤ q ∧ wr = W8) (fun kv _ => n - (intOf kv).toNat)
        case atStart =>
          refine ⟨0, rfl, ?_, by simp [catS], rfl⟩
          rcases Nat.eq_zero_or_pos n with h | h
          · exfalso
            have e : l = [] := List.length_eq_zero_iff.1 (HN.out.trans h)
            have h1 := HNS.out
            rw [e] at h1
            have h2 := HQS.out
            simp [catS] at h1; omega
          · exact h
        case round =>
          obtain ⟨k, rfl, hkn, hkq, rfl⟩ := hrel
          have HKN := Lib.hid hkn
          have HKQ := Lib.hid hkq
          have hce : wr.cell? ⟨ge, k + 1, none⟩ = some (.int .i64 (endsL l (k + 1))) := by
            have h := HE8.out
            have hl := endsList_len l
            have hln := HN.out
            rw [HNE.out] at h
            rw [h.cellAt (k + 1) (by have := HE.out; omega), ← endsList_at l (k + 1) (by omega)]
            unfold ints nth
            rw [List.getElem?_map, List.getD_eq_getElem?_getD, List.getElem?_eq_getElem (by omega)]
            rfl
          obtain ⟨m, hm⟩ : ∃ z, (catS (l.take (k + 1))).length = z := ⟨_, rfl⟩
          have HM := Lib.hid hm
          have hme : endsL l (k + 1) = (m : Int) := by unfold endsL; rw [hm]
          rw [hme] at hce
          have k9 : k ≤ 40 := by omega
          have ki : (k : Int) + 1 < (ne : Int) := by have := HE.out; have := HN.out; omega
          have ki' : k + 1 < ne := by omega
          have kd : decide ((k : Int) + 1 < (ne : Int)) = true := decide_eq_true ki
          have kd' : decide (k + 1 < ne) = true := decide_eq_true ki'
          have kw : IntKind.wrap .i64 ((k : Int) + 1) = (k : Int) + 1 := wrapI (by omega) (by omega)
          have k0 : (0 : Int) ≤ (k : Int) + 1 := by omega
          have kt : ((k : Int) + 1).toNat = k + 1 := by omega
          clear hm hme hkn hkq
          by_cases hmq : m ≤ q
          · have md : decide ((m : Int) ≤ (q : Int)) = true := decide_eq_true (by omega)
            have md' : decide (m ≤ q) = true := decide_eq_true hmq
            have HMQ := Lib.hid hmq
            clear hmq
            go_wp2_with fail
            go_roundw
            case rel =>
              refine ⟨k + 1, by go_num, ?_, by rw [HM.out]; exact HMQ.out, by first | rfl | trivial⟩
              rcases Nat.lt_or_ge (k + 1) n with h | h
              · exact h
              · exfalso
                have e : l.take (k + 1) = l := List.take_of_length_le (by have := HN.out; omega)
                have h1 := HM.out
                rw [e, HNS.out] at h1
                have := HMQ.out; have := HQS.out; omega
            case measure => have := HKN.out; simp [intOf]; omega
          · have md : decide ((m : Int) ≤ (q : Int)) = false := decide_eq_false (by omega)
            have md' : decide (m ≤ q) = false := decide_eq_false hmq
            have HJN := Lib.hid (join_stockBit HG.out (k := k) (i := q) (by have := HKN.out; have := HN.out; omega) HKQ.out (by rw [HM.out]; omega) HBIT.out)
            clear hmq
            have HSBH := Lib.hid (show Bys wr wr.heap.size (.slice (some ⟨g, 0, none⟩) ns sc) ((catS l).set q y) from own_bys HS8.out (by rw [List.length_set, HNS.out]) (by omega) (isBy_set (catS_by (m := 300) (by omega) HG.out) HBIT.out))
            have HFBH := Lib.hid (show Bys wr wr.heap.size (.slice FA nf fc) (catF l) from own_bys HF8.out rfl (by rw [HNF.out]; omega) (catF_by (m := 300) (by omega) HG.out))
            have FSLH := Lib.hid (show ((catS l).set q y).length = ns by rw [List.length_set, HNS.out])
            have kt := Join_c ((catS l).set q y) (catF l) _ _ wr HSBH.out HFBH.out (by rw [FSLH.out]; omega) (by rw [HNF.out]; omega)
            rw [HJN.out] at kt
            obtain ⟨VL, sl, hVL⟩ := H.out.cutTo (k : Int) k rfl (by have := HKN.out; have := HN.out; omega)
            have HVL := Lib.hid hVL
            clear hVL
            go_wp2_with fail
            refine kt.mono ?_; rintro e w9 ⟨ov9, rfl, hov9, hb9⟩
            have HB9 := Lib.hid (HB8.out.trans (hb9.mono HB8.out.size))
            have HOV9 := Lib.hid hov9
            generalize sLen (l.take k) = z1
            generalize (l.take k).length = z2
            clear kt hb9 hov9
            go_wp2_with fail
            refine (SameBytes_r (l.take k) _ _ w9 HOV9.out (HVL.out.later HB9.out)).mono ?_; rintro e w10 ⟨rfl, hb10⟩
            have HB10 := Lib.hid (HB9.out.trans (hb10.mono HB9.out.size))
            clear hb10
            go_wp2_with fail
            go_ret
            exact ⟨rfl, HB10.out⟩
      · have f3 : decide ((q : Int) < (ns : Int)) = false := decide_eq_false (by omega)
        have f3' : decide (q < ns) = false := decide_eq_false b3
        obtain ⟨r, hqr⟩ : ∃ r, q = ns + r := ⟨q - ns, by omega⟩
        have HQS := Lib.hid (show r < nf by omega)
        have HQR := Lib.hid hqr
        have q9 : q ≤ 9200 := by omega
        have r9 : r ≤ 120 := by omega
        clear b2 b3 hqr
        have hrow := HO5.out.2.1
        obtain ⟨g, rfl⟩ : ∃ g, FA = some ⟨g, 0, none⟩ := by
          rcases hrow.2 with ⟨e, -⟩ | ⟨g, cap, cur, e, -⟩
          · injection e with e1 e2 e3; have := HQS.out; omega
          · injection e with e1 e2 e3; exact ⟨g, e1⟩
        have hx : w5.cell? ⟨g, r, none⟩ = some (.int .u8 (nth (catF l) r)) := by
          rw [HNF.out] at hrow
          rw [hrow.cellAt r (by have := HQS.out; omega)]
          exact bys_at _ _ (by have := HQS.out; have := HNF.out; omega)
        have hfz : ∀ o, w5.frozen? ⟨g, o, none⟩ = false := fun o => by rw [HNF.out] at hrow; exact hrow.frozenAt o
        have HBIT := Lib.hid (bit_of (j := j) (((catF_by (m := 300) (by omega) HG.out)) r).1 (((catF_by (m := 300) (by omega) HG.out)) r).2 HJ8.out)
        have HST : w5.grownBy (w5.setCell ⟨g, r, none⟩ (.int .u8 (bits .xor .u8 (nth (catF l) r) (2 ^ j)))) (some g) ∧ (w5.setCell ⟨g, r, none⟩ (.int .u8 (bits .xor .u8 (nth (catF l) r) (2 ^ j)))).ownsRow w2.heap.size 5 1 (.slice (some ⟨g, 0, none⟩) nf fc) nf (bys ((catF l).set r (bits .xor .u8 (nth (catF l) r) (2 ^ j)))) := by
          rw [HNF.out] at hrow
          have := hrow.stored r (.int .u8 (bits .xor .u8 (nth (catF l) r) (2 ^ j)))
          refine ⟨this.2, ?_⟩
          have e : bys ((catF l).set r (bits .xor .u8 (nth (catF l) r) (2 ^ j))) = (bys (catF l)).set r (.int .u8 (bits .xor .u8 (nth (catF l) r) (2 ^ j))) := by unfold bys; rw [List.map_set]
          rw [e]; exact this.1
        have HF6 := Lib.hid (own_other HO5.out.1 (u := .slice (some ⟨g, 0, none⟩) nf fc) HST.1 HO5.out.2.2.2.1)
        have HS6 := Lib.hid HST.2
        have HB6 := Lib.hid (HB5.out.grown HST.1 HB5.out.size (fun k e => by cases e; have := (hrow.lt g rfl).1; have := HBW2.out; omega))
        have HX := Lib.hid hx
        have HFZ := Lib.hid hfz
        clear HST hrow hx hfz
        have t1 := T1.out
        have t3 := T3.out
        iterate 200 (first | (with_reducible show Code.wp _ (Code.region 22 _ _) _ _ _) | go_values | go_skip | go_guarded | go_step | go_upon | go_back | (simp only [Int.not_lt, Int.not_le] at *; go_simp) | go_simp)
        clear t1 t3
        have t2 := T2.out
        have t4 := T4.out
        have hx := HX.out
        have hfz := HFZ.out
        have hqn : r < nf := HQS.out
        have u1 : (q : Int) - (ns : Int) = (r : Int) := by have := HQR.out; omega
        have hpw := pow_bd HJ8.out
        have s5 : (2 : Int) ^ j % 256 = 2 ^ j := Int.emod_eq_of_lt (by omega) (by omega)
        clear hpw
        go_region
        obtain ⟨y, hy⟩ : ∃ z, bits .xor .u8 (nth (catF l) r) (2 ^ j) = z := ⟨_, rfl⟩
        rw [hy] at HS6 HF6 HB6 HBIT ⊢
        obtain ⟨W8, hW8⟩ : ∃ z, (w5.setCell ⟨g, r, none⟩ (.int .u8 y)).drew = z := ⟨_, rfl⟩
        have h1 : W8.ownsRow w2.heap.size 5 1 (.slice (some ⟨g, 0, none⟩) nf fc) nf (bys ((catF l).set r y)) := by rw [← hW8]; exact HS6.out
        have h2 : W8.ownsRow w2.heap.size 5 1 (.slice SA ns sc) (catS l).length (bys (catS l)) := by rw [← hW8]; exact HF6.out
        have h4 : Below w.heap.size w W8 := by rw [← hW8]; exact HB6.out.drew
        rw [hW8]
        have HS8 := Lib.hid h1
        have HF8 := Lib.hid h2
        have HB8 := Lib.hid h4
        clear hW8 hy h1 h2 h4 t2 t4 hx hfz hqn s5 HX HFZ HS6 HF6 HB6
        obtain ⟨k, hk⟩ : ∃ k, r / 4 = k := ⟨_, rfl⟩
        have HKN := Lib.hid (show k < n by have := HQS.out; have := HFE.out; omega)
        have HJN := Lib.hid (join_foilBit HG.out (i := r) (by have := HQS.out; have := HFE.out; have := HN.out; omega) HBIT.out)
        rw [hk] at HJN
        have v1 : Int.tdiv (r : Int) 4 = (k : Int) := by rw [Int.tdiv_eq_ediv_of_nonneg (by omega)]; omega
        have v2 : (r : Int) / 4 = (k : Int) := by omega
        have k9 : k ≤ 40 := by omega
        have HSBH := Lib.hid (show Bys W8 W8.heap.size (.slice (some ⟨g, 0, none⟩) nf fc) ((catF l).set r y) from own_bys HS8.out (by rw [List.length_set, HNF.out]) (by omega) (isBy_set (catF_by (m := 300) (by omega) HG.out) HBIT.out))
        have HFBH := Lib.hid (show Bys W8 W8.heap.size (.slice SA ns sc) (catS l) from own_bys HF8.out rfl (by rw [HNS.out]; omega) (catS_by (m := 300) (by omega) HG.out))
        have FSLH := Lib.hid (show ((catF l).set r y).length = nf by rw [List.length_set, HNF.out])
        clear hk
        have kt := Join_c (catS l) ((catF l).set r y) _ _ W8 HFBH.out HSBH.out (by rw [HNS.out]; omega) (by rw [FSLH.out]; omega)
        rw [HJN.out] at kt
        obtain ⟨VL, sl, hVL⟩ := H.out.cutTo (k : Int) k rfl (by have := HKN.out; have := HN.out; omega)
        have HVL := Lib.hid hVL
        clear hVL
        go_wp2_with fail
        refine kt.mono ?_; rintro e w9 ⟨ov9, rfl, hov9, hb9⟩
        have HB9 := Lib.hid (HB8.out.trans (hb9.mono HB8.out.size))
        have HOV9 := Lib.hid hov9
        generalize sLen (l.take k) = z1
        generalize (l.take k).length = z2
        clear kt hb9 hov9
        go_wp2_with fail
        refine (SameBytes_r (l.take k) _ _ w9 HOV9.out (HVL.out.later HB9.out)).mono ?_; rintro e w10 ⟨rfl, hb10⟩
        have HB10 := Lib.hid (HB9.out.trans (hb10.mono HB9.out.size))
        clear hb10
        go_wp2_with fail
        go_ret
        exact ⟨rfl, HB10.out⟩
    have f0 : decide (0 ≤ cs) = true := by simp; omega
    obtain ⟨m1, rfl⟩ := Int.eq_ofNat_of_zero_le (show 0 ≤ cs by omega)
    clear a1
    by_cases a2 : m1 ≤ ns
    case neg =>
      have g0 : decide ((m1 : Int) ≤ (ns : Int)) = false := decide_eq_false (by omega)
      have g0' : decide (m1 ≤ ns) = false := decide_eq_false a2
      clear a2
      by_cases b0 : bit < 0
      · have f1 : decide (bit < 0) = true := by simpa using b0
        clear b0
        go_wp2_with fail
        go_ret
        exact ⟨rfl, HB5.out⟩
      obtain ⟨q, hq⟩ := Int.eq_ofNat_of_zero_le (show 0 ≤ bit / 8 by omega)
      obtain ⟨j, hj⟩ := Int.eq_ofNat_of_zero_le (show 0 ≤ bit % 8 by omega)
      have HJ8 := Lib.hid (show j < 8 by omega)
      have f1 : decide (bit < 0) = false := by simp; omega
      have b1 : 0 ≤ bit := by omega
      have t1 : Int.tdiv bit 8 = (q : Int) := by rw [Int.tdiv_eq_ediv_of_nonneg b1, hq]
      have t2 : Int.tmod bit 8 = (j : Int) := by rw [Int.tmod_eq_emod_of_nonneg b1, hj]
      have t3 : bit / 8 = (q : Int) := hq
      have t5 : wrap64 (q : Int) = (q : Int) := wrap64_id (by omega) (by have := HBIT0.out.2; clear t1 t2; omega)
      have t4 : bit % 8 = (j : Int) := hj
      clear b0 hq hj
      have T1 := Lib.hid t1
      have T2 := Lib.hid t2
      have T3 := Lib.hid t3
      have T4 := Lib.hid t4
      have T5 := Lib.hid t5
      clear t1 t2 t3 t4 t5
      by_cases b2 : ns + nf ≤ q
      · have f2 : decide ((ns : Int) + (nf : Int) ≤ (q : Int)) = true := decide_eq_true (by omega)
        have f2' : decide (ns + nf ≤ q) = true := decide_eq_true (by omega)
        clear b2
        have t1 := T1.out
        have t3 := T3.out
        have t5 := T5.out
        go_wp2_with fail
        go_ret
        exact ⟨rfl, HB5.out⟩
      have f2 : decide ((ns : Int) + (nf : Int) ≤ (q : Int)) = false := decide_eq_false (by omega)
      have f2' : decide (ns + nf ≤ q) = false := decide_eq_false (by omega)
      by_cases b3 : q < ns
      · have f3 : decide ((q : Int) < (ns : Int)) = true := decide_eq_true (by omega)
        have f3' : decide (q < ns) = true := decide_eq_true (by omega)
        have HQS := Lib.hid b3
        have q9 : q ≤ 9200 := by omega
        clear b2 b3
        have hrow := HO5.out.1
        obtain ⟨g, rfl⟩ : ∃ g, SA = some ⟨g, 0, none⟩ := by
          rcases hrow.2 with ⟨e, -⟩ | ⟨g, cap, cur, e, -⟩
          · injection e with e1 e2 e3; have := HQS.out; omega
          · injection e with e1 e2 e3; exact ⟨g, e1⟩
        have hx : w5.cell? ⟨g, q, none⟩ = some (.int .u8 (nth (catS l) q)) := by
          rw [HNS.out] at hrow
          rw [hrow.cellAt q (by have := HQS.out; omega)]
          exact bys_at _ _ (by have := HQS.out; have := HNS.out; omega)
        have hfz : ∀ o, w5.frozen? ⟨g, o, none⟩ = false := fun o => by rw [HNS.out] at hrow; exact hrow.frozenAt o
        have HBIT := Lib.hid (bit_of (j := j) (((catS_by (m := 300) (by omega) HG.out)) q).1 (((catS_by (m := 300) (by omega) HG.out)) q).2 HJ8.out)
        have HST : w5.grownBy (w5.setCell ⟨g, q, none⟩ (.int .u8 (bits .xor .u8 (nth (catS l) q) (2 ^ j)))) (some g) ∧ (w5.setCell ⟨g, q, none⟩ (.int .u8 (bits .xor .u8 (nth (catS l) q) (2 ^ j)))).ownsRow w2.heap.size 5 1 (.slice (some ⟨g, 0, none⟩) ns sc) ns (bys ((catS l).set q (bits .xor .u8 (nth (catS l) q) (2 ^ j)))) := by
          rw [HNS.out] at hrow
          have := hrow.stored q (.int .u8 (bits .xor .u8 (nth (catS l) q) (2 ^ j)))
          refine ⟨this.2, ?_⟩
          have e : bys ((catS l).set q (bits .xor .u8 (nth (catS l) q) (2 ^ j))) = (bys (catS l)).set q (.int .u8 (bits .xor .u8 (nth (catS l) q) (2 ^ j))) := by unfold bys; rw [List.map_set]
          rw [e]; exact this.1
        have HF6 := Lib.hid (own_other HO5.out.2.1 (u := .slice (some ⟨g, 0, none⟩) ns sc) HST.1 HO5.out.2.2.2.1.symm)
        have HE6 := Lib.hid (own_other HO5.out.2.2.1 (u := .slice (some ⟨g, 0, none⟩) ns sc) HST.1 HO5.out.2.2.2.2.1.symm)
        have HS6 := Lib.hid HST.2
        have HB6 := Lib.hid (HB5.out.grown HST.1 HB5.out.size (fun k e => by cases e; have := (hrow.lt g rfl).1; have := HBW2.out; omega))
        have HX := Lib.hid hx
        have HFZ := Lib.hid hfz
        clear HST hrow hx hfz
        have t1 := T1.out
        have t3 := T3.out
        iterate 200 (first | (with_reducible show Code.wp _ (Code.region 19 _ _) _ _ _) | go_values | go_skip | go_guarded | go_step | go_upon | go_back | (simp only [Int.not_lt, Int.not_le] at *; go_simp) | go_simp)
        clear t1 t3
        have t2 := T2.out
        have t4 := T4.out
        have hx := HX.out
        have hfz := HFZ.out
        have hqn : q < ns := HQS.out
        have hpw := pow_bd HJ8.out
        have s5 : (2 : Int) ^ j % 256 = 2 ^ j := Int.emod_eq_of_lt (by omega) (by omega)
        clear hpw
        go_region
        obtain ⟨y, hy⟩ : ∃ z, bits .xor .u8 (nth (catS l) q) (2 ^ j) = z := ⟨_, rfl⟩
        rw [hy] at HS6 HF6 HE6 HB6 HBIT ⊢
        obtain ⟨W8, hW8⟩ : ∃ z, (w5.setCell ⟨g, q, none⟩ (.int .u8 y)).drew = z := ⟨_, rfl⟩
        have h1 : W8.ownsRow w2.heap.size 5 1 (.slice (some ⟨g, 0, none⟩) ns sc) ns (bys ((catS l).set q y)) := by rw [← hW8]; exact HS6.out
        have h2 : W8.ownsRow w2.heap.size 5 1 (.slice FA nf fc) (catF l).length (bys (catF l)) := by rw [← hW8]; exact HF6.out
        have h3 : W8.ownsRow w2.heap.size 3 1 (.slice EA ne ec) (endsList l).length (ints (endsList l)) := by rw [← hW8]; exact HE6.out
        have h4 : Below w.heap.size w W8 := by rw [← hW8]; exact HB6.out.drew
        rw [hW8]
        have HS8 := Lib.hid h1
        have HF8 := Lib.hid h2
        have HE8 := Lib.hid h3
        have HB8 := Lib.hid h4
        obtain ⟨ge, rfl⟩ : ∃ g, EA = some ⟨g, 0, none⟩ := by
          rcases h3.2 with ⟨e, -⟩ | ⟨g, cap, cur, e, -⟩
          · injection e with e1 e2 e3; have := HE.out; omega
          · injection e with e1 e2 e3; exact ⟨g, e1⟩
        clear hW8 hy h1 h2 h3 h4 t2 t4 hx hfz hqn s5 HX HFZ HS6 HF6 HE6 HB6
        go_wp2_with fail
        go_loopw [21] (fun kv wr => ∃ k : Nat, kv = .int .i64 (k : Int) ∧ k < n ∧ (catS (l.take k)).length ≤ q ∧ wr = W8) (fun kv _ => n - (intOf kv).toNat)
        case atStart =>
          refine ⟨0, rfl, ?_, by simp [catS], rfl⟩
          rcases Nat.eq_zero_or_pos n with h | h
          · exfalso
            have e : l = [] := List.length_eq_zero_iff.1 (HN.out.trans h)
            have h1 := HNS.out
            rw [e] at h1
            have h2 := HQS.out
            simp [catS] at h1; omega
          · exact h
        case round =>
          obtain ⟨k, rfl, hkn, hkq, rfl⟩ := hrel
          have HKN := Lib.hid hkn
          have HKQ := Lib.hid hkq
          have hce : wr.cell? ⟨ge, k + 1, none⟩ = some (.int .i64 (endsL l (k + 1))) := by
            have h := HE8.out
            have hl := endsList_len l
            have hln := HN.out
            rw [HNE.out] at h
            rw [h.cellAt (k + 1) (by have := HE.out; omega), ← endsList_at l (k + 1) (by omega)]
            unfold ints nth
            rw [List.getElem?_map, List.getD_eq_getElem?_getD, List.getElem?_eq_getElem (by omega)]
            rfl
          obtain ⟨m, hm⟩ : ∃ z, (catS (l.take (k + 1))).length = z := ⟨_, rfl⟩
          have HM := Lib.hid hm
          have hme : endsL l (k + 1) = (m : Int) := by unfold endsL; rw [hm]
          rw [hme] at hce
          have k9 : k ≤ 40 := by omega
          have ki : (k : Int) + 1 < (ne : Int) := by have := HE.out; have := HN.out; omega
          have ki' : k + 1 < ne := by omega
          have kd : decide ((k : Int) + 1 < (ne : Int)) = true := decide_eq_true ki
          have kd' : decide (k + 1 < ne) = true := decide_eq_true ki'
          have kw : IntKind.wrap .i64 ((k : Int) + 1) = (k : Int) + 1 := wrapI (by omega) (by omega)
          have k0 : (0 : Int) ≤ (k : Int) + 1 := by omega
          have kt : ((k : Int) + 1).toNat = k + 1 := by omega
          clear hm hme hkn hkq
          by_cases hmq : m ≤ q
          · have md : decide ((m : Int) ≤ (q : Int)) = true := decide_eq_true (by omega)
            have md' : decide (m ≤ q) = true := decide_eq_true hmq
            have HMQ := Lib.hid hmq
            clear hmq
            go_wp2_with fail
            go_roundw
            case rel =>
              refine ⟨k + 1, by go_num, ?_, by rw [HM.out]; exact HMQ.out, by first | rfl | trivial⟩
              rcases Nat.lt_or_ge (k + 1) n with h | h
              · exact h
              · exfalso
                have e : l.take (k + 1) = l := List.take_of_length_le (by have := HN.out; omega)
                have h1 := HM.out
                rw [e, HNS.out] at h1
                have := HMQ.out; have := HQS.out; omega
            case measure => have := HKN.out; simp [intOf]; omega
          · have md : decide ((m : Int) ≤ (q : Int)) = false := decide_eq_false (by omega)
            have md' : decide (m ≤ q) = false := decide_eq_false hmq
            have HJN := Lib.hid (join_stockBit HG.out (k := k) (i := q) (by have := HKN.out; have := HN.out; omega) HKQ.out (by rw [HM.out]; omega) HBIT.out)
            clear hmq
            have HSBH := Lib.hid (show Bys wr wr.heap.size (.slice (some ⟨g, 0, none⟩) ns sc) ((catS l).set q y) from own_bys HS8.out (by rw [List.length_set, HNS.out]) (by omega) (isBy_set (catS_by (m := 300) (by omega) HG.out) HBIT.out))
            have HFBH := Lib.hid (show Bys wr wr.heap.size (.slice FA nf fc) (catF l) from own_bys HF8.out rfl (by rw [HNF.out]; omega) (catF_by (m := 300) (by omega) HG.out))
            have FSLH := Lib.hid (show ((catS l).set q y).length = ns by rw [List.length_set, HNS.out])
            have kt := Join_c ((catS l).set q y) (catF l) _ _ wr HSBH.out HFBH.out (by rw [FSLH.out]; omega) (by rw [HNF.out]; omega)
            rw [HJN.out] at kt
            obtain ⟨VL, sl, hVL⟩ := H.out.cutTo (k : Int) k rfl (by have := HKN.out; have := HN.out; omega)
            have HVL := Lib.hid hVL
            clear hVL
            go_wp2_with fail
            refine kt.mono ?_; rintro e w9 ⟨ov9, rfl, hov9, hb9⟩
            have HB9 := Lib.hid (HB8.out.trans (hb9.mono HB8.out.size))
            have HOV9 := Lib.hid hov9
            generalize sLen (l.take k) = z1
            generalize (l.take k).length = z2
            clear kt hb9 hov9
            go_wp2_with fail
            refine (SameBytes_r (l.take k) _ _ w9 HOV9.out (HVL.out.later HB9.out)).mono ?_; rintro e w10 ⟨rfl, hb10⟩
            have HB10 := Lib.hid (HB9.out.trans (hb10.mono HB9.out.size))
            clear hb10
            go_wp2_with fail
            go_ret
            exact ⟨rfl, HB10.out⟩
      · have f3 : decide ((q : Int) < (ns : Int)) = false := decide_eq_false (by omega)
        have f3' : decide (q < ns) = false := decide_eq_false b3
        obtain ⟨r, hqr⟩ : ∃ r, q = ns + r := ⟨q - ns, by omega⟩
        have HQS := Lib.hid (show r < nf by omega)
        have HQR := Lib.hid hqr
        have q9 : q ≤ 9200 := by omega
        have r9 : r ≤ 120 := by omega
        clear b2 b3 hqr
        have hrow := HO5.out.2.1
        obtain ⟨g, rfl⟩ : ∃ g, FA = some ⟨g, 0, none⟩ := by
          rcases hrow.2 with ⟨e, -⟩ | ⟨g, cap, cur, e, -⟩
          · injection e with e1 e2 e3; have := HQS.out; omega
          · injection e with e1 e2 e3; exact ⟨g, e1⟩
        have hx : w5.cell? ⟨g, r, none⟩ = some (.int .u8 (nth (catF l) r)) := by
          rw [HNF.out] at hrow
          rw [hrow.cellAt r (by have := HQS.out; omega)]
          exact bys_at _ _ (by have := HQS.out; have := HNF.out; omega)
        have hfz : ∀ o, w5.frozen? ⟨g, o, none⟩ = false := fun o => by rw [HNF.out] at hrow; exact hrow.frozenAt o
        have HBIT := Lib.hid (bit_of (j := j) (((catF_by (m := 300) (by omega) HG.out)) r).1 (((catF_by (m := 300) (by omega) HG.out)) r).2 HJ8.out)
        have HST : w5.grownBy (w5.setCell ⟨g, r, none⟩ (.int .u8 (bits .xor .u8 (nth (catF l) r) (2 ^ j)))) (some g) ∧ (w5.setCell ⟨g, r, none⟩ (.int .u8 (bits .xor .u8 (nth (catF l) r) (2 ^ j)))).ownsRow w2.heap.size 5 1 (.slice (some ⟨g, 0, none⟩) nf fc) nf (bys ((catF l).set r (bits .xor .u8 (nth (catF l) r) (2 ^ j)))) := by
          rw [HNF.out] at hrow
          have := hrow.stored r (.int .u8 (bits .xor .u8 (nth (catF l) r) (2 ^ j)))
          refine ⟨this.2, ?_⟩
          have e : bys ((catF l).set r (bits .xor .u8 (nth (catF l) r) (2 ^ j))) = (bys (catF l)).set r (.int .u8 (bits .xor .u8 (nth (catF l) r) (2 ^ j))) := by unfold bys; rw [List.map_set]
          rw [e]; exact this.1
        have HF6 := Lib.hid (own_other HO5.out.1 (u := .slice (some ⟨g, 0, none⟩) nf fc) HST.1 HO5.out.2.2.2.1)
        have HS6 := Lib.hid HST.2
        have HB6 := Lib.hid (HB5.out.grown HST.1 HB5.out.size (fun k e => by cases e; have := (hrow.lt g rfl).1; have := HBW2.out; omega))
        have HX := Lib.hid hx
        have HFZ := Lib.hid hfz
        clear HST hrow hx hfz
        have t1 := T1.out
        have t3 := T3.out
        iterate 200 (first | (with_reducible show Code.wp _ (Code.region 22 _ _) _ _ _) | go_values | go_skip | go_guarded | go_step | go_upon | go_back | (simp only [Int.not_lt, Int.not_le] at *; go_simp) | go_simp)
        clear t1 t3
        have t2 := T2.out
        have t4 := T4.out
        have hx := HX.out
        have hfz := HFZ.out
        have hqn : r < nf := HQS.out
        have u1 : (q : Int) - (ns : Int) = (r : Int) := by have := HQR.out; omega
        have hpw := pow_bd HJ8.out
        have s5 : (2 : Int) ^ j % 256 = 2 ^ j := Int.emod_eq_of_lt (by omega) (by omega)
        clear hpw
        go_region
        obtain ⟨y, hy⟩ : ∃ z, bits .xor .u8 (nth (catF l) r) (2 ^ j) = z := ⟨_, rfl⟩
        rw [hy] at HS6 HF6 HB6 HBIT ⊢
        obtain ⟨W8, hW8⟩ : ∃ z, (w5.setCell ⟨g, r, none⟩ (.int .u8 y)).drew = z := ⟨_, rfl⟩
        have h1 : W8.ownsRow w2.heap.size 5 1 (.slice (some ⟨g, 0, none⟩) nf fc) nf (bys ((catF l).set r y)) := by rw [← hW8]; exact HS6.out
        have h2 : W8.ownsRow w2.heap.size 5 1 (.slice SA ns sc) (catS l).length (bys (catS l)) := by rw [← hW8]; exact HF6.out
        have h4 : Below w.heap.size w W8 := by rw [← hW8]; exact HB6.out.drew
        rw [hW8]
        have HS8 := Lib.hid h1
        have HF8 := Lib.hid h2
        have HB8 := Lib.hid h4
        clear hW8 hy h1 h2 h4 t2 t4 hx hfz hqn s5 HX HFZ HS6 HF6 HB6
        obtain ⟨k, hk⟩ : ∃ k, r / 4 = k := ⟨_, rfl⟩
        have HKN := Lib.hid (show k < n by have := HQS.out; have := HFE.out; omega)
        have HJN := Lib.hid (join_foilBit HG.out (i := r) (by have := HQS.out; have := HFE.out; have := HN.out; omega) HBIT.out)
        rw [hk] at HJN
        have v1 : Int.tdiv (r : Int) 4 = (k : Int) := by rw [Int.tdiv_eq_ediv_of_nonneg (by omega)]; omega
        have v2 : (r : Int) / 4 = (k : Int) := by omega
        have k9 : k ≤ 40 := by omega
        have HSBH := Lib.hid (show Bys W8 W8.heap.size (.slice (some ⟨g, 0, none⟩) nf fc) ((catF l).set r y) from own_bys HS8.out (by rw [List.length_set, HNF.out]) (by omega) (isBy_set (catF_by (m := 300) (by omega) HG.out) HBIT.out))
        have HFBH := Lib.hid (show Bys W8 W8.heap.size (.slice SA ns sc) (catS l) from own_bys HF8.out rfl (by rw [HNS.out]; omega) (catS_by (m := 300) (by omega) HG.out))
        have FSLH := Lib.hid (show ((catF l).set r y).length = nf by rw [List.length_set, HNF.out])
        clear hk
        have kt := Join_c (catS l) ((catF l).set r y) _ _ W8 HFBH.out HSBH.out (by rw [HNS.out]; omega) (by rw [FSLH.out]; omega)
        rw [HJN.out] at kt
        obtain ⟨VL, sl, hVL⟩ := H.out.cutTo (k : Int) k rfl (by have := HKN.out; have := HN.out; omega)
        have HVL := Lib.hid hVL
        clear hVL
        go_wp2_with fail
        refine kt.mono ?_; rintro e w9 ⟨ov9, rfl, hov9, hb9⟩
        have HB9 := Lib.hid (HB8.out.trans (hb9.mono HB8.out.size))
        have HOV9 := Lib.hid hov9
        generalize sLen (l.take k) = z1
        generalize (l.take k).length = z2
        clear kt hb9 hov9
        go_wp2_with fail
        refine (SameBytes_r (l.take k) _ _ w9 HOV9.out (HVL.out.later HB9.out)).mono ?_; rintro e w10 ⟨rfl, hb10⟩
        have HB10 := Lib.hid (HB9.out.trans (hb10.mono HB9.out.size))
        clear hb10
        go_wp2_with fail
        go_ret
        exact ⟨rfl, HB10.out⟩
    have g0 : decide ((m1 : Int) ≤ (ns : Int)) = true := decide_eq_true (by omega)
    have g0' : decide (m1 ≤ ns) = true := decide_eq_true a2
    have A2 := Lib.hid a2
    clear a2
    by_cases a3 : cf < 0
    · have h0 : decide (0 ≤ cf) = false := by simp; omega
      clear a3
      by_cases b0 : bit < 0
      · have f1 : decide (bit < 0) = true := by simpa using b0
        clear b0
        go_wp2_with fail
        go_ret
        exact ⟨rfl, HB5.out⟩
      obtain ⟨q, hq⟩ := Int.eq_ofNat_of_zero_le (show 0 ≤ bit / 8 by omega)
      obtain ⟨j, hj⟩ := Int.eq_ofNat_of_zero_le (show 0 ≤ bit % 8 by omega)
      have HJ8 := Lib.hid (show j < 8 by omega)
      have f1 : decide (bit < 0) = false := by simp; omega
      have b1 : 0 ≤ bit := by omega
      have t1 : Int.tdiv bit 8 = (q : Int) := by rw [Int.tdiv_eq_ediv_of_nonneg b1, hq]
      have t2 : Int.tmod bit 8 = (j : Int) := by rw [Int.tmod_eq_emod_of_nonneg b1, hj]
      have t3 : bit / 8 = (q : Int) := hq
      have t5 : wrap64 (q : Int) = (q : Int) := wrap64_id (by omega) (by have := HBIT0.out.2; clear t1 t2; omega)
      have t4 : bit % 8 = (j : Int) := hj
      clear b0 hq hj
      have T1 := Lib.hid t1
      have T2 := Lib.hid t2
      have T3 := Lib.hid t3
      have T4 := Lib.hid t4
      have T5 := Lib.hid t5
      clear t1 t2 t3 t4 t5
      by_cases b2 : ns + nf ≤ q
      · have f2 : decide ((ns : Int) + (nf : Int) ≤ (q : Int)) = true := decide_eq_true (by omega)
        have f2' : decide (ns + nf ≤ q) = true := decide_eq_true (by omega)
        clear b2
        have t1 := T1.out
        have t3 := T3.out
        have t5 := T5.out
        go_wp2_with fail
        go_ret
        exact ⟨rfl, HB5.out⟩
      have f2 : decide ((ns : Int) + (nf : Int) ≤ (q : Int)) = false := decide_eq_false (by omega)
      have f2' : decide (ns + nf ≤ q) = false := decide_eq_false (by omega)
      by_cases b3 : q < ns
      · have f3 : decide ((q : Int) < (ns : Int)) = true := decide_eq_true (by omega)
        have f3' : decide (q < ns) = true := decide_eq_true (by omega)
        have HQS := Lib.hid b3
        have q9 : q ≤ 9200 := by omega
        clear b2 b3
        have hrow := HO5.out.1
        obtain ⟨g, rfl⟩ : ∃ g, SA = some ⟨g, 0, none⟩ := by
          rcases hrow.2 with ⟨e, -⟩ | ⟨g, cap, cur, e, -⟩
          · injection e with e1 e2 e3; have := HQS.out; omega
          · injection e with e1 e2 e3; exact ⟨g, e1⟩
        have hx : w5.cell? ⟨g, q, none⟩ = some (.int .u8 (nth (catS l) q)) := by
          rw [HNS.out] at hrow
          rw [hrow.cellAt q (by have := HQS.out; omega)]
          exact bys_at _ _ (by have := HQS.out; have := HNS.out; omega)
        have hfz : ∀ o, w5.frozen? ⟨g, o, none⟩ = false := fun o => by rw [HNS.out] at hrow; exact hrow.frozenAt o
        have HBIT := Lib.hid (bit_of (j := j) (((catS_by (m := 300) (by omega) HG.out)) q).1 (((catS_by (m := 300) (by omega) HG.out)) q).2 HJ8.out)
        have HST : w5.grownBy (w5.setCell ⟨g, q, none⟩ (.int .u8 (bits .xor .u8 (nth (catS l) q) (2 ^ j)))) (some g) ∧ (w5.setCell ⟨g, q, none⟩ (.int .u8 (bits .xor .u8 (nth (catS l) q) (2 ^ j)))).ownsRow w2.heap.size 5 1 (.slice (some ⟨g, 0, none⟩) ns sc) ns (bys ((catS l).set q (bits .xor .u8 (nth (catS l) q) (2 ^ j)))) := by
          rw [HNS.out] at hrow
          have := hrow.stored q (.int .u8 (bits .xor .u8 (nth (catS l) q) (2 ^ j)))
          refine ⟨this.2, ?_⟩
          have e : bys ((catS l).set q (bits .xor .u8 (nth (catS l) q) (2 ^ j))) = (bys (catS l)).set q (.int .u8 (bits .xor .u8 (nth (catS l) q) (2 ^ j))) := by unfold bys; rw [List.map_set]
          rw [e]; exact this.1
        have HF6 := Lib.hid (own_other HO5.out.2.1 (u := .slice (some ⟨g, 0, none⟩) ns sc) HST.1 HO5.out.2.2.2.1.symm)
        have HE6 := Lib.hid (own_other HO5.out.2.2.1 (u := .slice (some ⟨g, 0, none⟩) ns sc) HST.1 HO5.out.2.2.2.2.1.symm)
        have HS6 := Lib.hid HST.2
        have HB6 := Lib.hid (HB5.out.grown HST.1 HB5.out.size (fun k e => by cases e; have := (hrow.lt g rfl).1; have := HBW2.out; omega))
        have HX := Lib.hid hx
        have HFZ := Lib.hid hfz
        clear HST hrow hx hfz
        have t1 := T1.out
        have t3 := T3.out
        iterate 200 (first | (with_reducible show Code.wp _ (Code.region 19 _ _) _ _ _) | go_values | go_skip | go_guarded | go_step | go_upon | go_back | (simp only [Int.not_lt, Int.not_le] at *; go_simp) | go_simp)
        clear t1 t3
        have t2 := T2.out
        have t4 := T4.out
        have hx := HX.out
        have hfz := HFZ.out
        have hqn : q < ns := HQS.out
        have hpw := pow_bd HJ8.out
        have s5 : (2 : Int) ^ j % 256 = 2 ^ j := Int.emod_eq_of_lt (by omega) (by omega)
        clear hpw
        go_region
        obtain ⟨y, hy⟩ : ∃ z, bits .xor .u8 (nth (catS l) q) (2 ^ j) = z := ⟨_, rfl⟩
        rw [hy] at HS6 HF6 HE6 HB6 HBIT ⊢
        obtain ⟨W8, hW8⟩ : ∃ z, (w5.setCell ⟨g, q, none⟩ (.int .u8 y)).drew = z := ⟨_, rfl⟩
        have h1 : W8.ownsRow w2.heap.size 5 1 (.slice (some ⟨g, 0, none⟩) ns sc) ns (bys ((catS l).set q y)) := by rw [← hW8]; exact HS6.out
        have h2 : W8.ownsRow w2.heap.size 5 1 (.slice FA nf fc) (catF l).length (bys (catF l)) := by rw [← hW8]; exact HF6.out
        have h3 : W8.ownsRow w2.heap.size 3 1 (.slice EA ne ec) (endsList l).length (ints (endsList l)) := by rw [← hW8]; exact HE6.out
        have h4 : Below w.heap.size w W8 := by rw [← hW8]; exact HB6.out.drew
        rw [hW8]
        have HS8 := Lib.hid h1
        have HF8 := Lib.hid h2
        have HE8 := Lib.hid h3
        have HB8 := Lib.hid h4
        obtain ⟨ge, rfl⟩ : ∃ g, EA = some ⟨g, 0, none⟩ := by
          rcases h3.2 with ⟨e, -⟩ | ⟨g, cap, cur, e, -⟩
          · injection e with e1 e2 e3; have := HE.out; omega
          · injection e with e1 e2 e3; exact ⟨g, e1⟩
        clear hW8 hy h1 h2 h3 h4 t2 t4 hx hfz hqn s5 HX HFZ HS6 HF6 HE6 HB6
        go_wp2_with fail
        go_loopw [21] (fun kv wr => ∃ k : Nat, kv = .int .i64 (k : Int) ∧ k < n ∧ (catS (l.take k)).length ≤ q ∧ wr = W8) (fun kv _ => n - (intOf kv).toNat)
        case atStart =>
          refine ⟨0, rfl, ?_, by simp [catS], rfl⟩
          rcases Nat.eq_zero_or_pos n with h | h
          · exfalso
            have e : l = [] := List.length_eq_zero_iff.1 (HN.out.trans h)
            have h1 := HNS.out
            rw [e] at h1
            have h2 := HQS.out
            simp [catS] at h1; omega
          · exact h
        case round =>
          obtain ⟨k, rfl, hkn, hkq, rfl⟩ := hrel
          have HKN := Lib.hid hkn
          have HKQ := Lib.hid hkq
          have hce : wr.cell? ⟨ge, k + 1, none⟩ = some (.int .i64 (endsL l (k + 1))) := by
            have h := HE8.out
            have hl := endsList_len l
            have hln := HN.out
            rw [HNE.out] at h
            rw [h.cellAt (k + 1) (by have := HE.out; omega), ← endsList_at l (k + 1) (by omega)]
            unfold ints nth
            rw [List.getElem?_map, List.getD_eq_getElem?_getD, List.getElem?_eq_getElem (by omega)]
            rfl
          obtain ⟨m, hm⟩ : ∃ z, (catS (l.take (k + 1))).length = z := ⟨_, rfl⟩
          have HM := Lib.hid hm
          have hme : endsL l (k + 1) = (m : Int) := by unfold endsL; rw [hm]
          rw [hme] at hce
          have k9 : k ≤ 40 := by omega
          have ki : (k : Int) + 1 < (ne : Int) := by have := HE.out; have := HN.out; omega
          have ki' : k + 1 < ne := by omega
          have kd : decide ((k : Int) + 1 < (ne : Int)) = true := decide_eq_true ki
          have kd' : decide (k + 1 < ne) = true := decide_eq_true ki'
          have kw : IntKind.wrap .i64 ((k : Int) + 1) = (k : Int) + 1 := wrapI (by omega) (by omega)
          have k0 : (0 : Int) ≤ (k : Int) + 1 := by omega
          have kt : ((k : Int) + 1).toNat = k + 1 := by omega
          clear hm hme hkn hkq
          by_cases hmq : m ≤ q
          · have md : decide ((m : Int) ≤ (q : Int)) = true := decide_eq_true (by omega)
            have md' : decide (m ≤ q) = true := decide_eq_true hmq
            have HMQ := Lib.hid hmq
            clear hmq
            go_wp2_with fail
            go_roundw
            case rel =>
              refine ⟨k + 1, by go_num, ?_, by rw [HM.out]; exact HMQ.out, by first | rfl | trivial⟩
              rcases Nat.lt_or_ge (k + 1) n with h | h
              · exact h
              · exfalso
                have e : l.take (k + 1) = l := List.take_of_length_le (by have := HN.out; omega)
                have h1 := HM.out
                rw [e, HNS.out] at h1
                have := HMQ.out; have := HQS.out; omega
            case measure => have := HKN.out; simp [intOf]; omega
          · have md : decide ((m : Int) ≤ (q : Int)) = false := decide_eq_false (by omega)
            have md' : decide (m ≤ q) = false := decide_eq_false hmq
            have HJN := Lib.hid (join_stockBit HG.out (k := k) (i := q) (by have := HKN.out; have := HN.out; omega) HKQ.out (by rw [HM.out]; omega) HBIT.out)
            clear hmq
            have HSBH := Lib.hid (show Bys wr wr.heap.size (.slice (some ⟨g, 0, none⟩) ns sc) ((catS l).set q y) from own_bys HS8.out (by rw [List.length_set, HNS.out]) (by omega) (isBy_set (catS_by (m := 300) (by omega) HG.out) HBIT.out))
            have HFBH := Lib.hid (show Bys wr wr.heap.size (.slice FA nf fc) (catF l) from own_bys HF8.out rfl (by rw [HNF.out]; omega) (catF_by (m := 300) (by omega) HG.out))
            have FSLH := Lib.hid (show ((catS l).set q y).length = ns by rw [List.length_set, HNS.out])
            have kt := Join_c ((catS l).set q y) (catF l) _ _ wr HSBH.out HFBH.out (by rw [FSLH.out]; omega) (by rw [HNF.out]; omega)
            rw [HJN.out] at kt
            obtain ⟨VL, sl, hVL⟩ := H.out.cutTo (k : Int) k rfl (by have := HKN.out; have := HN.out; omega)
            have HVL := Lib.hid hVL
            clear hVL
            go_wp2_with fail
            refine kt.mono ?_; rintro e w9 ⟨ov9, rfl, hov9, hb9⟩
            have HB9 := Lib.hid (HB8.out.trans (hb9.mono HB8.out.size))
            have HOV9 := Lib.hid hov9
            generalize sLen (l.take k) = z1
            generalize (l.take k).length = z2
            clear kt hb9 hov9
            go_wp2_with fail
            refine (SameBytes_r (l.take k) _ _ w9 HOV9.out (HVL.out.later HB9.out)).mono ?_; rintro e w10 ⟨rfl, hb10⟩
            have HB10 := Lib.hid (HB9.out.trans (hb10.mono HB9.out.size))
            clear hb10
            go_wp2_with fail
            go_ret
            exact ⟨rfl, HB10.out⟩
      · have f3 : decide ((q : Int) < (ns : Int)) = false := decide_eq_false (by omega)
        have f3' : decide (q < ns) = false := decide_eq_false b3
        obtain ⟨r, hqr⟩ : ∃ r, q = ns + r := ⟨q - ns, by omega⟩
        have HQS := Lib.hid (show r < nf by omega)
        have HQR := Lib.hid hqr
        have q9 : q ≤ 9200 := by omega
        have r9 : r ≤ 120 := by omega
        clear b2 b3 hqr
        have hrow := HO5.out.2.1
        obtain ⟨g, rfl⟩ : ∃ g, FA = some ⟨g, 0, none⟩ := by
          rcases hrow.2 with ⟨e, -⟩ | ⟨g, cap, cur, e, -⟩
          · injection e with e1 e2 e3; have := HQS.out; omega
          · injection e with e1 e2 e3; exact ⟨g, e1⟩
        have hx : w5.cell? ⟨g, r, none⟩ = some (.int .u8 (nth (catF l) r)) := by
          rw [HNF.out] at hrow
          rw [hrow.cellAt r (by have := HQS.out; omega)]
          exact bys_at _ _ (by have := HQS.out; have := HNF.out; omega)
        have hfz : ∀ o, w5.frozen? ⟨g, o, none⟩ = false := fun o => by rw [HNF.out] at hrow; exact hrow.frozenAt o
        have HBIT := Lib.hid (bit_of (j := j) (((catF_by (m := 300) (by omega) HG.out)) r).1 (((catF_by (m := 300) (by omega) HG.out)) r).2 HJ8.out)
        have HST : w5.grownBy (w5.setCell ⟨g, r, none⟩ (.int .u8 (bits .xor .u8 (nth (catF l) r) (2 ^ j)))) (some g) ∧ (w5.setCell ⟨g, r, none⟩ (.int .u8 (bits .xor .u8 (nth (catF l) r) (2 ^ j)))).ownsRow w2.heap.size 5 1 (.slice (some ⟨g, 0, none⟩) nf fc) nf (bys ((catF l).set r (bits .xor .u8 (nth (catF l) r) (2 ^ j)))) := by
          rw [HNF.out] at hrow
          have := hrow.stored r (.int .u8 (bits .xor .u8 (nth (catF l) r) (2 ^ j)))
          refine ⟨this.2, ?_⟩
          have e : bys ((catF l).set r (bits .xor .u8 (nth (catF l) r) (2 ^ j))) = (bys (catF l)).set r (.int .u8 (bits .xor .u8 (nth (catF l) r) (2 ^ j))) := by unfold bys; rw [List.map_set]
          rw [e]; exact this.1
        have HF6 := Lib.hid (own_other HO5.out.1 (u := .slice (some ⟨g, 0, none⟩) nf fc) HST.1 HO5.out.2.2.2.1)
        have HS6 := Lib.hid HST.2
        have HB6 := Lib.hid (HB5.out.grown HST.1 HB5.out.size (fun k e => by cases e; have := (hrow.lt g rfl).1; have := HBW2.out; omega))
        have HX := Lib.hid hx
        have HFZ := Lib.hid hfz
        clear HST hrow hx hfz
        have t1 := T1.out
        have t3 := T3.out
        iterate 200 (first | (with_reducible show Code.wp _ (Code.region 22 _ _) _ _ _) | go_values | go_skip | go_guarded | go_step | go_upon | go_back | (simp only [Int.not_lt, Int.not_le] at *; go_simp) | go_simp)
        clear t1 t3
        have t2 := T2.out
        have t4 := T4.out
        have hx := HX.out
        have hfz := HFZ.out
        have hqn : r < nf := HQS.out
        have u1 : (q : Int) - (ns : Int) = (r : Int) := by have := HQR.out; omega
        have hpw := pow_bd HJ8.out
        have s5 : (2 : Int) ^ j % 256 = 2 ^ j := Int.emod_eq_of_lt (by omega) (by omega)
        clear hpw
        go_region
        obtain ⟨y, hy⟩ : ∃ z, bits .xor .u8 (nth (catF l) r) (2 ^ j) = z := ⟨_, rfl⟩
        rw [hy] at HS6 HF6 HB6 HBIT ⊢
        obtain ⟨W8, hW8⟩ : ∃ z, (w5.setCell ⟨g, r, none⟩ (.int .u8 y)).drew = z := ⟨_, rfl⟩
        have h1 : W8.ownsRow w2.heap.size 5 1 (.slice (some ⟨g, 0, none⟩) nf fc) nf (bys ((catF l).set r y)) := by rw [← hW8]; exact HS6.out
        have h2 : W8.ownsRow w2.heap.size 5 1 (.slice SA ns sc) (catS l).length (bys (catS l)) := by rw [← hW8]; exact HF6.out
        have h4 : Below w.heap.size w W8 := by rw [← hW8]; exact HB6.out.drew
        rw [hW8]
        have HS8 := Lib.hid h1
        have HF8 := Lib.hid h2
        have HB8 := Lib.hid h4
        clear hW8 hy h1 h2 h4 t2 t4 hx hfz hqn s5 HX HFZ HS6 HF6 HB6
        obtain ⟨k, hk⟩ : ∃ k, r / 4 = k := ⟨_, rfl⟩
        have HKN := Lib.hid (show k < n by have := HQS.out; have := HFE.out; omega)
        have HJN := Lib.hid (join_foilBit HG.out (i := r) (by have := HQS.out; have := HFE.out; have := HN.out; omega) HBIT.out)
        rw [hk] at HJN
        have v1 : Int.tdiv (r : Int) 4 = (k : Int) := by rw [Int.tdiv_eq_ediv_of_nonneg (by omega)]; omega
        have v2 : (r : Int) / 4 = (k : Int) := by omega
        have k9 : k ≤ 40 := by omega
        have HSBH := Lib.hid (show Bys W8 W8.heap.size (.slice (some ⟨g, 0, none⟩) nf fc) ((catF l).set r y) from own_bys HS8.out (by rw [List.length_set, HNF.out]) (by omega) (isBy_set (catF_by (m := 300) (by omega) HG.out) HBIT.out))
        have HFBH := Lib.hid (show Bys W8 W8.heap.size (.slice SA ns sc) (catS l) from own_bys HF8.out rfl (by rw [HNS.out]; omega) (catS_by (m := 300) (by omega) HG.out))
        have FSLH := Lib.hid (show ((catF l).set r y).length = nf by rw [List.length_set, HNF.out])
        clear hk
        have kt := Join_c (catS l) ((catF l).set r y) _ _ W8 HFBH.out HSBH.out (by rw [HNS.out]; omega) (by rw [FSLH.out]; omega)
        rw [HJN.out] at kt
        obtain ⟨VL, sl, hVL⟩ := H.out.cutTo (k : Int) k rfl (by have := HKN.out; have := HN.out; omega)
        have HVL := Lib.hid hVL
        clear hVL
        go_wp2_with fail
        refine kt.mono ?_; rintro e w9 ⟨ov9, rfl, hov9, hb9⟩
        have HB9 := Lib.hid (HB8.out.trans (hb9.mono HB8.out.size))
        have HOV9 := Lib.hid hov9
        generalize sLen (l.take k) = z1
        generalize (l.take k).length = z2
        clear kt hb9 hov9
        go_wp2_with fail
        refine (SameBytes_r (l.take k) _ _ w9 HOV9.out (HVL.out.later HB9.out)).mono ?_; rintro e w10 ⟨rfl, hb10⟩
        have HB10 := Lib.hid (HB9.out.trans (hb10.mono HB9.out.size))
        clear hb10
        go_wp2_with fail
        go_ret
        exact ⟨rfl, HB10.out⟩
    have h0 : decide (0 ≤ cf) = true := by simp; omega
    obtain ⟨m2, rfl⟩ := Int.eq_ofNat_of_zero_le (show 0 ≤ cf by omega)
    clear a3
    by_cases a4 : m2 ≤ nf
    case neg =>
      have i0 : decide ((m2 : Int) ≤ (nf : Int)) = false := decide_eq_false (by omega)
      have i0' : decide (m2 ≤ nf) = false := decide_eq_false a4
      clear a4
      by_cases b0 : bit < 0
      · have f1 : decide (bit < 0) = true := by simpa using b0
        clear b0
        go_wp2_with fail
        go_ret
        exact ⟨rfl, HB5.out⟩
      obtain ⟨q, hq⟩ := Int.eq_ofNat_of_zero_le (show 0 ≤ bit / 8 by omega)
      obtain ⟨j, hj⟩ := Int.eq_ofNat_of_zero_le (show 0 ≤ bit % 8 by omega)
      have HJ8 := Lib.hid (show j < 8 by omega)
      have f1 : decide (bit < 0) = false := by simp; omega
      have b1 : 0 ≤ bit := by omega
      have t1 : Int.tdiv bit 8 = (q : Int) := by rw [Int.tdiv_eq_ediv_of_nonneg b1, hq]
      have t2 : Int.tmod bit 8 = (j : Int) := by rw [Int.tmod_eq_emod_of_nonneg b1, hj]
      have t3 : bit / 8 = (q : Int) := hq
      have t5 : wrap64 (q : Int) = (q : Int) := wrap64_id (by omega) (by have := HBIT0.out.2; clear t1 t2; omega)
      have t4 : bit % 8 = (j : Int) := hj
      clear b0 hq hj
      have T1 := Lib.hid t1
      have T2 := Lib.hid t2
      have T3 := Lib.hid t3
      have T4 := Lib.hid t4
      have T5 := Lib.hid t5
      clear t1 t2 t3 t4 t5
      by_cases b2 : ns + nf ≤ q
      · have f2 : decide ((ns : Int) + (nf : Int) ≤ (q : Int)) = true := decide_eq_true (by omega)
        have f2' : decide (ns + nf ≤ q) = true := decide_eq_true (by omega)
        clear b2
        have t1 := T1.out
        have t3 := T3.out
        have t5 := T5.out
        go_wp2_with fail
        go_ret
        exact ⟨rfl, HB5.out⟩
      have f2 : decide ((ns : Int) + (nf : Int) ≤ (q : Int)) = false := decide_eq_false (by omega)
      have f2' : decide (ns + nf ≤ q) = false := decide_eq_false (by omega)
      by_cases b3 : q < ns
      · have f3 : decide ((q : Int) < (ns : Int)) = true := decide_eq_true (by omega)
        have f3' : decide (q < ns) = true := decide_eq_true (by omega)
        have HQS := Lib.hid b3
        have q9 : q ≤ 9200 := by omega
        clear b2 b3
        have hrow := HO5.out.1
        obtain ⟨g, rfl⟩ : ∃ g, SA = some ⟨g, 0, none⟩ := by
          rcases hrow.2 with ⟨e, -⟩ | ⟨g, cap, cur, e, -⟩
          · injection e with e1 e2 e3; have := HQS.out; omega
          · injection e with e1 e2 e3; exact ⟨g, e1⟩
        have hx : w5.cell? ⟨g, q, none⟩ = some (.int .u8 (nth (catS l) q)) := by
          rw [HNS.out] at hrow
          rw [hrow.cellAt q (by have := HQS.out; omega)]
          exact bys_at _ _ (by have := HQS.out; have := HNS.out; omega)
        have hfz : ∀ o, w5.frozen? ⟨g, o, none⟩ = false := fun o => by rw [HNS.out] at hrow; exact hrow.frozenAt o
        have HBIT := Lib.hid (bit_of (j := j) (((catS_by (m := 300) (by omega) HG.out)) q).1 (((catS_by (m := 300) (by omega) HG.out)) q).2 HJ8.out)
        have HST : w5.grownBy (w5.setCell ⟨g, q, none⟩ (.int .u8 (bits .xor .u8 (nth (catS l) q) (2 ^ j)))) (some g) ∧ (w5.setCell ⟨g, q, none⟩ (.int .u8 (bits .xor .u8 (nth (catS l) q) (2 ^ j)))).ownsRow w2.heap.size 5 1 (.slice (some ⟨g, 0, none⟩) ns sc) ns (bys ((catS l).set q (bits .xor .u8 (nth (catS l) q) (2 ^ j)))) := by
          rw [HNS.out] at hrow
          have := hrow.stored q (.int .u8 (bits .xor .u8 (nth (catS l) q) (2 ^ j)))
          refine ⟨this.2, ?_⟩
          have e : bys ((catS l).set q (bits .xor .u8 (nth (catS l) q) (2 ^ j))) = (bys (catS l)).set q (.int .u8 (bits .xor .u8 (nth (catS l) q) (2 ^ j))) := by unfold bys; rw [List.map_set]
          rw [e]; exact this.1
        have HF6 := Lib.hid (own_other HO5.out.2.1 (u := .slice (some ⟨g, 0, none⟩) ns sc) HST.1 HO5.out.2.2.2.1.symm)
        have HE6 := Lib.hid (own_other HO5.out.2.2.1 (u := .slice (some ⟨g, 0, none⟩) ns sc) HST.1 HO5.out.2.2.2.2.1.symm)
        have HS6 := Lib.hid HST.2
        have HB6 := Lib.hid (HB5.out.grown HST.1 HB5.out.size (fun k e => by cases e; have := (hrow.lt g rfl).1; have := HBW2.out; omega))
        have HX := Lib.hid hx
        have HFZ := Lib.hid hfz
        clear HST hrow hx hfz
        have t1 := T1.out
        have t3 := T3.out
        iterate 200 (first | (with_reducible show Code.wp _ (Code.region 19 _ _) _ _ _) | go_values | go_skip | go_guarded | go_step | go_upon | go_back | (simp only [Int.not_lt, Int.not_le] at *; go_simp) | go_simp)
        clear t1 t3
        have t2 := T2.out
        have t4 := T4.out
        have hx := HX.out
        have hfz := HFZ.out
        have hqn : q < ns := HQS.out
        have hpw := pow_bd HJ8.out
        have s5 : (2 : Int) ^ j % 256 = 2 ^ j := Int.emod_eq_of_lt (by omega) (by omega)
        clear hpw
        go_region
        obtain ⟨y, hy⟩ : ∃ z, bits .xor .u8 (nth (catS l) q) (2 ^ j) = z := ⟨_, rfl⟩
        rw [hy] at HS6 HF6 HE6 HB6 HBIT ⊢
        obtain ⟨W8, hW8⟩ : ∃ z, (w5.setCell ⟨g, q, none⟩ (.int .u8 y)).drew = z := ⟨_, rfl⟩
        have h1 : W8.ownsRow w2.heap.size 5 1 (.slice (some ⟨g, 0, none⟩) ns sc) ns (bys ((catS l).set q y)) := by rw [← hW8]; exact HS6.out
        have h2 : W8.ownsRow w2.heap.size 5 1 (.slice FA nf fc) (catF l).length (bys (catF l)) := by rw [← hW8]; exact HF6.out
        have h3 : W8.ownsRow w2.heap.size 3 1 (.slice EA ne ec) (endsList l).length (ints (endsList l)) := by rw [← hW8]; exact HE6.out
        have h4 : Below w.heap.size w W8 := by rw [← hW8]; exact HB6.out.drew
        rw [hW8]
        have HS8 := Lib.hid h1
        have HF8 := Lib.hid h2
        have HE8 := Lib.hid h3
        have HB8 := Lib.hid h4
        obtain ⟨ge, rfl⟩ : ∃ g, EA = some ⟨g, 0, none⟩ := by
          rcases h3.2 with ⟨e, -⟩ | ⟨g, cap, cur, e, -⟩
          · injection e with e1 e2 e3; have := HE.out; omega
          · injection e with e1 e2 e3; exact ⟨g, e1⟩
        clear hW8 hy h1 h2 h3 h4 t2 t4 hx hfz hqn s5 HX HFZ HS6 HF6 HE6 HB6
        go_wp2_with fail
        go_loopw [21] (fun kv wr => ∃ k : Nat, kv = .int .i64 (k : Int) ∧ k < n ∧ (catS (l.take k)).length ≤ q ∧ wr = W8) (fun kv _ => n - (intOf kv).toNat)
        case atStart =>
          refine ⟨0, rfl, ?_, by simp [catS], rfl⟩
          rcases Nat.eq_zero_or_pos n with h | h
          · exfalso
            have e : l = [] := List.length_eq_zero_iff.1 (HN.out.trans h)
            have h1 := HNS.out
            rw [e] at h1
            have h2 := HQS.out
            simp [catS] at h1; omega
          · exact h
        case round =>
          obtain ⟨k, rfl, hkn, hkq, rfl⟩ := hrel
          have HKN := Lib.hid hkn
          have HKQ := Lib.hid hkq
          have hce : wr.cell? ⟨ge, k + 1, none⟩ = some (.int .i64 (endsL l (k + 1))) := by
            have h := HE8.out
            have hl := endsList_len l
            have hln := HN.out
            rw [HNE.out] at h
            rw [h.cellAt (k + 1) (by have := HE.out; omega), ← endsList_at l (k + 1) (by omega)]
            unfold ints nth
            rw [List.getElem?_map, List.getD_eq_getElem?_getD, List.getElem?_eq_getElem (by omega)]
            rfl
          obtain ⟨m, hm⟩ : ∃ z, (catS (l.take (k + 1))).length = z := ⟨_, rfl⟩
          have HM := Lib.hid hm
          have hme : endsL l (k + 1) = (m : Int) := by unfold endsL; rw [hm]
          rw [hme] at hce
          have k9 : k ≤ 40 := by omega
          have ki : (k : Int) + 1 < (ne : Int) := by have := HE.out; have := HN.out; omega
          have ki' : k + 1 < ne := by omega
          have kd : decide ((k : Int) + 1 < (ne : Int)) = true := decide_eq_true ki
          have kd' : decide (k + 1 < ne) = true := decide_eq_true ki'
          have kw : IntKind.wrap .i64 ((k : Int) + 1) = (k : Int) + 1 := wrapI (by omega) (by omega)
          have k0 : (0 : Int) ≤ (k : Int) + 1 := by omega
          have kt : ((k : Int) + 1).toNat = k + 1 := by omega
          clear hm hme hkn hkq
          by_cases hmq : m ≤ q
          · have md : decide ((m : Int) ≤ (q : Int)) = true := decide_eq_true (by omega)
            have md' : decide (m ≤ q) = true := decide_eq_true hmq
            have HMQ := Lib.hid hmq
            clear hmq
            go_wp2_with fail
            go_roundw
            case rel =>
              refine ⟨k + 1, by go_num, ?_, by rw [HM.out]; exact HMQ.out, by first | rfl | trivial⟩
              rcases Nat.lt_or_ge (k + 1) n with h | h
              · exact h
              · exfalso
                have e : l.take (k + 1) = l := List.take_of_length_le (by have := HN.out; omega)
                have h1 := HM.out
                rw [e, HNS.out] at h1
                have := HMQ.out; have := HQS.out; omega
            case measure => have := HKN.out; simp [intOf]; omega
          · have md : decide ((m : Int) ≤ (q : Int)) = false := decide_eq_false (by omega)
            have md' : decide (m ≤ q) = false := decide_eq_false hmq
            have HJN := Lib.hid (join_stockBit HG.out (k := k) (i := q) (by have := HKN.out; have := HN.out; omega) HKQ.out (by rw [HM.out]; omega) HBIT.out)
            clear hmq
            have HSBH := Lib.hid (show Bys wr wr.heap.size (.slice (some ⟨g, 0, none⟩) ns sc) ((catS l).set q y) from own_bys HS8.out (by rw [List.length_set, HNS.out]) (by omega) (isBy_set (catS_by (m := 300) (by omega) HG.out) HBIT.out))
            have HFBH := Lib.hid (show Bys wr wr.heap.size (.slice FA nf fc) (catF l) from own_bys HF8.out rfl (by rw [HNF.out]; omega) (catF_by (m := 300) (by omega) HG.out))
            have FSLH := Lib.hid (show ((catS l).set q y).length = ns by rw [List.length_set, HNS.out])
            have kt := Join_c ((catS l).set q y) (catF l) _ _ wr HSBH.out HFBH.out (by rw [FSLH.out]; omega) (by rw [HNF.out]; omega)
            rw [HJN.out] at kt
            obtain ⟨VL, sl, hVL⟩ := H.out.cutTo (k : Int) k rfl (by have := HKN.out; have := HN.out; omega)
            have HVL := Lib.hid hVL
            clear hVL
            go_wp2_with fail
            refine kt.mono ?_; rintro e w9 ⟨ov9, rfl, hov9, hb9⟩
            have HB9 := Lib.hid (HB8.out.trans (hb9.mono HB8.out.size))
            have HOV9 := Lib.hid hov9
            generalize sLen (l.take k) = z1
            generalize (l.take k).length = z2
            clear kt hb9 hov9
            go_wp2_with fail
            refine (SameBytes_r (l.take k) _ _ w9 HOV9.out (HVL.out.later HB9.out)).mono ?_; rintro e w10 ⟨rfl, hb10⟩
            have HB10 := Lib.hid (HB9.out.trans (hb10.mono HB9.out.size))
            clear hb10
            go_wp2_with fail
            go_ret
            exact ⟨rfl, HB10.out⟩
      · have f3 : decide ((q : Int) < (ns : Int)) = false := decide_eq_false (by omega)
        have f3' : decide (q < ns) = false := decide_eq_false b3
        obtain ⟨r, hqr⟩ : ∃ r, q = ns + r := ⟨q - ns, by omega⟩
        have HQS := Lib.hid (show r < nf by omega)
        have HQR := Lib.hid hqr
        have q9 : q ≤ 9200 := by omega
        have r9 : r ≤ 120 := by omega
        clear b2 b3 hqr
        have hrow := HO5.out.2.1
        obtain ⟨g, rfl⟩ : ∃ g, FA = some ⟨g, 0, none⟩ := by
          rcases hrow.2 with ⟨e, -⟩ | ⟨g, cap, cur, e, -⟩
          · injection e with e1 e2 e3; have := HQS.out; omega
          · injection e with e1 e2 e3; exact ⟨g, e1⟩
        have hx : w5.cell? ⟨g, r, none⟩ = some (.int .u8 (nth (catF l) r)) := by
          rw [HNF.out] at hrow
          rw [hrow.cellAt r (by have := HQS.out; omega)]
          exact bys_at _ _ (by have := HQS.out; have := HNF.out; omega)
        have hfz : ∀ o, w5.frozen? ⟨g, o, none⟩ = false := fun o => by rw [HNF.out] at hrow; exact hrow.frozenAt o
        have HBIT := Lib.hid (bit_of (j := j) (((catF_by (m := 300) (by omega) HG.out)) r).1 (((catF_by (m := 300) (by omega) HG.out)) r).2 HJ8.out)
        have HST : w5.grownBy (w5.setCell ⟨g, r, none⟩ (.int .u8 (bits .xor .u8 (nth (catF l) r) (2 ^ j)))) (some g) ∧ (w5.setCell ⟨g, r, none⟩ (.int .u8 (bits .xor .u8 (nth (catF l) r) (2 ^ j)))).ownsRow w2.heap.size 5 1 (.slice (some ⟨g, 0, none⟩) nf fc) nf (bys ((catF l).set r (bits .xor .u8 (nth (catF l) r) (2 ^ j)))) := by
          rw [HNF.out] at hrow
          have := hrow.stored r (.int .u8 (bits .xor .u8 (nth (catF l) r) (2 ^ j)))
          refine ⟨this.2, ?_⟩
          have e : bys ((catF l).set r (bits .xor .u8 (nth (catF l) r) (2 ^ j))) = (bys (catF l)).set r (.int .u8 (bits .xor .u8 (nth (catF l) r) (2 ^ j))) := by unfold bys; rw [List.map_set]
          rw [e]; exact this.1
        have HF6 := Lib.hid (own_other HO5.out.1 (u := .slice (some ⟨g, 0, none⟩) nf fc) HST.1 HO5.out.2.2.2.1)
        have HS6 := Lib.hid HST.2
        have HB6 := Lib.hid (HB5.out.grown HST.1 HB5.out.size (fun k e => by cases e; have := (hrow.lt g rfl).1; have := HBW2.out; omega))
        have HX := Lib.hid hx
        have HFZ := Lib.hid hfz
        clear HST hrow hx hfz
        have t1 := T1.out
        have t3 := T3.out
        iterate 200 (first | (with_reducible show Code.wp _ (Code.region 22 _ _) _ _ _) | go_values | go_skip | go_guarded | go_step | go_upon | go_back | (simp only [Int.not_lt, Int.not_le] at *; go_simp) | go_simp)
        clear t1 t3
        have t2 := T2.out
        have t4 := T4.out
        have hx := HX.out
        have hfz := HFZ.out
        have hqn : r < nf := HQS.out
        have u1 : (q : Int) - (ns : Int) = (r : Int) := by have := HQR.out; omega
        have hpw := pow_bd HJ8.out
        have s5 : (2 : Int) ^ j % 256 = 2 ^ j := Int.emod_eq_of_lt (by omega) (by omega)
        clear hpw
        go_region
        obtain ⟨y, hy⟩ : ∃ z, bits .xor .u8 (nth (catF l) r) (2 ^ j) = z := ⟨_, rfl⟩
        rw [hy] at HS6 HF6 HB6 HBIT ⊢
        obtain ⟨W8, hW8⟩ : ∃ z, (w5.setCell ⟨g, r, none⟩ (.int .u8 y)).drew = z := ⟨_, rfl⟩
        have h1 : W8.ownsRow w2.heap.size 5 1 (.slice (some ⟨g, 0, none⟩) nf fc) nf (bys ((catF l).set r y)) := by rw [← hW8]; exact HS6.out
        have h2 : W8.ownsRow w2.heap.size 5 1 (.slice SA ns sc) (catS l).length (bys (catS l)) := by rw [← hW8]; exact HF6.out
        have h4 : Below w.heap.size w W8 := by rw [← hW8]; exact HB6.out.drew
        rw [hW8]
        have HS8 := Lib.hid h1
        have HF8 := Lib.hid h2
        have HB8 := Lib.hid h4
        clear hW8 hy h1 h2 h4 t2 t4 hx hfz hqn s5 HX HFZ HS6 HF6 HB6
        obtain ⟨k, hk⟩ : ∃ k, r / 4 = k := ⟨_, rfl⟩
        have HKN := Lib.hid (show k < n by have := HQS.out; have := HFE.out; omega)
        have HJN := Lib.hid (join_foilBit HG.out (i := r) (by have := HQS.out; have := HFE.out; have := HN.out; omega) HBIT.out)
        rw [hk] at HJN
        have v1 : Int.tdiv (r : Int) 4 = (k : Int) := by rw [Int.tdiv_eq_ediv_of_nonneg (by omega)]; omega
        have v2 : (r : Int) / 4 = (k : Int) := by omega
        have k9 : k ≤ 40 := by omega
        have HSBH := Lib.hid (show Bys W8 W8.heap.size (.slice (some ⟨g, 0, none⟩) nf fc) ((catF l).set r y) from own_bys HS8.out (by rw [List.length_set, HNF.out]) (by omega) (isBy_set (catF_by (m := 300) (by omega) HG.out) HBIT.out))
        have HFBH := Lib.hid (show Bys W8 W8.heap.size (.slice SA ns sc) (catS l) from own_bys HF8.out rfl (by rw [HNS.out]; omega) (catS_by (m := 300) (by omega) HG.out))
        have FSLH := Lib.hid (show ((catF l).set r y).length = nf by rw [List.length_set, HNF.out])
        clear hk
        have kt := Join_c (catS l) ((catF l).set r y) _ _ W8 HFBH.out HSBH.out (by rw [HNS.out]; omega) (by rw [FSLH.out]; omega)
        rw [HJN.out] at kt
        obtain ⟨VL, sl, hVL⟩ := H.out.cutTo (k : Int) k rfl (by have := HKN.out; have := HN.out; omega)
        have HVL := Lib.hid hVL
        clear hVL
        go_wp2_with fail
        refine kt.mono ?_; rintro e w9 ⟨ov9, rfl, hov9, hb9⟩
        have HB9 := Lib.hid (HB8.out.trans (hb9.mono HB8.out.size))
        have HOV9 := Lib.hid hov9
        generalize sLen (l.take k) = z1
        generalize (l.take k).length = z2
        clear kt hb9 hov9
        go_wp2_with fail
        refine (SameBytes_r (l.take k) _ _ w9 HOV9.out (HVL.out.later HB9.out)).mono ?_; rintro e w10 ⟨rfl, hb10⟩
        have HB10 := Lib.hid (HB9.out.trans (hb10.mono HB9.out.size))
        clear hb10
        go_wp2_with fail
        go_ret
        exact ⟨rfl, HB10.out⟩
    have i0 : decide ((m2 : Int) ≤ (nf : Int)) = true := decide_eq_true (by omega)
    have i0' : decide (m2 ≤ nf) = true := decide_eq_true a4
    have A4 := Lib.hid a4
    clear a4
    obtain ⟨P1, p1, hP1⟩ := (BS.out _ HO5.out).cutTo (m1 : Int) m1 rfl (by rw [HNS.out]; exact A2.out)
    obtain ⟨P2, p2, hP2⟩ := (BF.out _ HO5.out).cutTo (m2 : Int) m2 rfl (by rw [HNF.out]; exact A4.out)
    have HP := Lib.hid (joinL_part _ (catS l) (catF l) m1 m2 (Nat.le_refl _) (catS_by (m := 300) (by omega) HG.out))
    rw [joinL_all (by omega) HG.out] at HP
    obtain ⟨J, hJ⟩ : ∃ z, joinL ((catS l).take m1) ((catF l).take m2) = z := ⟨_, rfl⟩
    have HP1 := Lib.hid hP1
    have HP2 := Lib.hid hP2
    have AF5 := Lib.hid (show Aft w5 w5 from Below.refl _ _)
    have kp := Lib.hid (fun (W : World) (hb : Aft w5 W) => Join_c ((catS l).take m1) ((catF l).take m2) _ _ W (HP1.out.later hb) (HP2.out.later hb) (by rw [List.length_take, HNS.out]; omega) (by rw [List.length_take, HNF.out]; omega))
    rw [hJ] at HP kp
    have hjn : J.length ≤ n := by have := HP.out.length_le; have := HN.out; omega
    have HJT := Lib.hid (show l.take J.length = J from (List.prefix_iff_eq_take.1 HP.out).symm)
    have HJN0 := Lib.hid hjn
    clear hP1 hP2 hJ hjn
    go_wp2_with fail
    have hdr1 : Below (w5).heap.size (w5) (w5).drew := (Below.refl _ _).drew
    have hcall2 : ∀ X Y : World, (fun Wz => True ∧ (w5).heap.size ≤ Wz.heap.size) X → Below X.heap.size X Y → (fun Wz => True ∧ (w5).heap.size ≤ Wz.heap.size) Y := by
      rintro X Y ⟨tr0, xs⟩ hb
      have hb2 := Below.mono (B' := (w5).heap.size) hb xs
      exact ⟨trivial, Nat.le_trans xs hb.size⟩
    have hini3 : (fun Wz => True ∧ (w5).heap.size ≤ Wz.heap.size) (w5).drew := ⟨trivial, Nat.le_refl _⟩
    have Hcall2 := Lib.hid hcall2
    have Hini3 := Lib.hid hini3
    clear hcall2 hini3
    refine wp_region_noPanic ?_
    refine wp_region_held_drew (S := (fun Wz => True ∧ (w5).heap.size ≤ Wz.heap.size)) (by kernel_rfl) Hini3.out (fun hHeld => ?_)
    obtain ⟨W5, hW6⟩ : ∃ Wzz, (w5).drew = Wzz := ⟨_, rfl⟩
    rw [hW6] at hHeld hdr1 ⊢
    clear hW6
    have C7 := Lib.hid (HO5.out.later hdr1)
    have C8 := Lib.hid (AF5.out.later hdr1)
    have B9 := Lib.hid (HB5.out.trans (hdr1.mono HB5.out.size))
    clear hdr1
    refine wpAnyH_take (i := 0) (oi := { dst := some 85, op := Op.move (Operand.tmp 10), type := 31, pos := "law.go:99", after := #[], guard := none }) (v := ?vh10) rfl ?hsh10 ?hfh10 ?hrh10 ?hQh10 ?hyh10 (by assumption) ?resth10
    case hsh10 => kernel_rfl
    case hfh10 => kernel_rfl
    case hrh10 => kernel_rfl
    case hQh10 => exact fun _ _ _ h => h
    case hyh10 => (refine Or.inl ⟨by rfl, ?_⟩; intro w hSw; (try dsimp only at hSw); go_simp; try with_reducible rfl)
    try simp only [Act.put, List.setIfInBounds_toArray, List.set_cons_zero, List.set_cons_succ]
    refine wpAnyH_take (i := 1) (oi := { dst := some 86, op := Op.move (Operand.tmp 2), type := 3, pos := "law.go:99", after := #[], guard := none }) (v := ?vh11) rfl ?hsh11 ?hfh11 ?hrh11 ?hQh11 ?hyh11 (by assumption) ?resth11
    case hsh11 => kernel_rfl
    case hfh11 => kernel_rfl
    case hrh11 => kernel_rfl
    case hQh11 => exact fun _ _ _ h => h
    case hyh11 => (refine Or.inl ⟨by rfl, ?_⟩; intro w hSw; (try dsimp only at hSw); go_simp; try with_reducible rfl)
    try simp only [Act.put, List.setIfInBounds_toArray, List.set_cons_zero, List.set_cons_succ]
    refine wpAnyH_take (i := 2) (oi := { dst := some 87, op := Op.move (Operand.tmp 2), type := 3, pos := "law.go:99", after := #[], guard := none }) (v := ?vh12) rfl ?hsh12 ?hfh12 ?hrh12 ?hQh12 ?hyh12 (by assumption) ?resth12
    case hsh12 => kernel_rfl
    case hfh12 => kernel_rfl
    case hrh12 => kernel_rfl
    case hQh12 => exact fun _ _ _ h => h
    case hyh12 => (refine Or.inl ⟨by rfl, ?_⟩; intro w hSw; (try dsimp only at hSw); go_simp; try with_reducible rfl)
    try simp only [Act.put, List.setIfInBounds_toArray, List.set_cons_zero, List.set_cons_succ]
    refine wpAnyH_take (i := 3) (oi := { dst := some 88, op := Op.slice 31 (Operand.tmp 85) none (some (Operand.tmp 86)) (some (Operand.tmp 87)), type := 31, pos := "law.go:99", after := #[{ on := 0, ground := Ground.data }, { on := 1, ground := Ground.data }, { on := 2, ground := Ground.data }], guard := none }) (v := ?vh13) rfl ?hsh13 ?hfh13 ?hrh13 ?hQh13 ?hyh13 (by assumption) ?resth13
    case hsh13 => kernel_rfl
    case hfh13 => kernel_rfl
    case hrh13 => kernel_rfl
    case hQh13 => exact fun _ _ _ h => h
    case hyh13 => (refine Or.inl ⟨by rfl, ?_⟩; intro w hSw; (try dsimp only at hSw); go_simp; try with_reducible rfl)
    try simp only [Act.put, List.setIfInBounds_toArray, List.set_cons_zero, List.set_cons_succ]
    refine wpAnyH_take (i := 4) (oi := { dst := some 89, op := Op.move (Operand.tmp 11), type := 31, pos := "law.go:99", after := #[], guard := none }) (v := ?vh14) rfl ?hsh14 ?hfh14 ?hrh14 ?hQh14 ?hyh14 (by assumption) ?resth14
    case hsh14 => kernel_rfl
    case hfh14 => kernel_rfl
    case hrh14 => kernel_rfl
    case hQh14 => exact fun _ _ _ h => h
    case hyh14 => (refine Or.inl ⟨by rfl, ?_⟩; intro w hSw; (try dsimp only at hSw); go_simp; try with_reducible rfl)
    try simp only [Act.put, List.setIfInBounds_toArray, List.set_cons_zero, List.set_cons_succ]
    refine wpAnyH_take (i := 5) (oi := { dst := some 90, op := Op.move (Operand.tmp 3), type := 3, pos := "law.go:99", after := #[], guard := none }) (v := ?vh15) rfl ?hsh15 ?hfh15 ?hrh15 ?hQh15 ?hyh15 (by assumption) ?resth15
    case hsh15 => kernel_rfl
    case hfh15 => kernel_rfl
    case hrh15 => kernel_rfl
    case hQh15 => exact fun _ _ _ h => h
    case hyh15 => (refine Or.inl ⟨by rfl, ?_⟩; intro w hSw; (try dsimp only at hSw); go_simp; try with_reducible rfl)
    try simp only [Act.put, List.setIfInBounds_toArray, List.set_cons_zero, List.set_cons_succ]
    refine wpAnyH_take (i := 6) (oi := { dst := some 91, op := Op.move (Operand.tmp 3), type := 3, pos := "law.go:99", after := #[], guard := none }) (v := ?vh16) rfl ?hsh16 ?hfh16 ?hrh16 ?hQh16 ?hyh16 (by assumption) ?resth16
    case hsh16 => kernel_rfl
    case hfh16 => kernel_rfl
    case hrh16 => kernel_rfl
    case hQh16 => exact fun _ _ _ h => h
    case hyh16 => (refine Or.inl ⟨by rfl, ?_⟩; intro w hSw; (try dsimp only at hSw); go_simp; try with_reducible rfl)
    try simp only [Act.put, List.setIfInBounds_toArray, List.set_cons_zero, List.set_cons_succ]
    refine wpAnyH_take (i := 7) (oi := { dst := some 92, op := Op.slice 31 (Operand.tmp 89) none (some (Operand.tmp 90)) (some (Operand.tmp 91)), type := 31, pos := "law.go:99", after := #[{ on := 4, ground := Ground.data }, { on := 5, ground := Ground.data }, { on := 6, ground := Ground.data }], guard := none }) (v := ?vh17) rfl ?hsh17 ?hfh17 ?hrh17 ?hQh17 ?hyh17 (by assumption) ?resth17
    case hsh17 => kernel_rfl
    case hfh17 => kernel_rfl
    case hrh17 => kernel_rfl
    case hQh17 => exact fun _ _ _ h => h
    case hyh17 => (refine Or.inl ⟨by rfl, ?_⟩; intro w hSw; (try dsimp only at hSw); go_simp; try with_reducible rfl)
    try simp only [Act.put, List.setIfInBounds_toArray, List.set_cons_zero, List.set_cons_succ]
    refine wpAnyH_ready (rs := [8]) (by kernel_rfl) (by simp) ?_
    refine AllReadyH.cons (o := _) (by rfl) (fun K hK => ?_) AllReadyH.nil
    go_simp
    go_at_call 16
    refine (kp.out _ C8.out).mono ?_; rintro e v18 ⟨ovp, rfl, hovp, hb19⟩
    have C20 := Lib.hid (C7.out.later hb19)
    have C21 := Lib.hid (C8.out.later hb19)
    have B22 := Lib.hid (B9.out.trans (hb19.mono B9.out.size))
    clear C7 C8 B9
    have HOVP := Lib.hid hovp
    clear hovp
    go_wp2_with fail
    refine hK.out _ _ (Hcall2.out _ _ hHeld (by assumption)) (fun hHeld23 => ?_)
    clear hK K hHeld
    clear hb19
    have hHeld := hHeld23
    clear hHeld23
    try simp only [Act.put, List.setIfInBounds_toArray, List.set_cons_zero, List.set_cons_succ]
    refine wpAnyH_take (i := 9) (oi := { dst := some 84, op := Op.move (Operand.tmp 93), type := 45, pos := "law.go:99", after := #[{ on := 8, ground := Ground.data }], guard := none }) (v := ?vh24) rfl ?hsh24 ?hfh24 ?hrh24 ?hQh24 ?hyh24 (by assumption) ?resth24
    case hsh24 => kernel_rfl
    case hfh24 => kernel_rfl
    case hrh24 => kernel_rfl
    case hQh24 => exact fun _ _ _ h => h
    case hyh24 => (refine Or.inl ⟨by rfl, ?_⟩; intro w hSw; (try dsimp only at hSw); go_simp; try with_reducible rfl)
    try simp only [Act.put, List.setIfInBounds_toArray, List.set_cons_zero, List.set_cons_succ]
    refine wpAnyH_take (i := 10) (oi := { dst := some 94, op := Op.extract (Operand.tmp 84) 0, type := 44, pos := "law.go:99", after := #[{ on := 9, ground := Ground.data }], guard := none }) (v := ?vh25) rfl ?hsh25 ?hfh25 ?hrh25 ?hQh25 ?hyh25 (by assumption) ?resth25
    case hsh25 => kernel_rfl
    case hfh25 => kernel_rfl
    case hrh25 => kernel_rfl
    case hQh25 => exact fun _ _ _ h => h
    case hyh25 => (refine Or.inl ⟨by rfl, ?_⟩; intro w hSw; (try dsimp only at hSw); go_simp; try with_reducible rfl)
    try simp only [Act.put, List.setIfInBounds_toArray, List.set_cons_zero, List.set_cons_succ]
    refine wpAnyH_take (i := 11) (oi := { dst := some 95, op := Op.extract (Operand.tmp 84) 1, type := 3, pos := "law.go:99", after := #[{ on := 9, ground := Ground.data }, { on := 13, ground := Ground.gcOnly Departure.lateStores }], guard := none }) (v := ?vh26) rfl ?hsh26 ?hfh26 ?hrh26 ?hQh26 ?hyh26 (by assumption) ?resth26
    case hsh26 => kernel_rfl
    case hfh26 => kernel_rfl
    case hrh26 => kernel_rfl
    case hQh26 => exact fun _ _ _ h => h
    case hyh26 => (refine Or.inl ⟨by rfl, ?_⟩; intro w hSw; (try dsimp only at hSw); go_simp; try with_reducible rfl)
    try simp only [Act.put, List.setIfInBounds_toArray, List.set_cons_zero, List.set_cons_succ]
    refine wpAnyH_take (i := 12) (oi := { dst := some 96, op := Op.extract (Operand.tmp 84) 2, type := 3, pos := "law.go:99", after := #[{ on := 9, ground := Ground.data }, { on := 14, ground := Ground.gcOnly Departure.lateStores }], guard := none }) (v := ?vh27) rfl ?hsh27 ?hfh27 ?hrh27 ?hQh27 ?hyh27 (by assumption) ?resth27
    case hsh27 => kernel_rfl
    case hfh27 => kernel_rfl
    case hrh27 => kernel_rfl
    case hQh27 => exact fun _ _ _ h => h
    case hyh27 => (refine Or.inl ⟨by rfl, ?_⟩; intro w hSw; (try dsimp only at hSw); go_simp; try with_reducible rfl)
    try simp only [Act.put, List.setIfInBounds_toArray, List.set_cons_zero, List.set_cons_succ]
    refine wpAnyH_take (i := 13) (oi := { dst := some 17, op := Op.assign (Operand.tmp 94), type := 44, pos := "law.go:99", after := #[{ on := 10, ground := Ground.data }, { on := 8, ground := Ground.chain }, { on := 0, ground := Ground.phase }, { on := 1, ground := Ground.phase }, { on := 2, ground := Ground.phase }, { on := 3, ground := Ground.phase }, { on := 4, ground := Ground.phase }, { on := 5, ground := Ground.phase }, { on := 6, ground := Ground.phase }, { on := 7, ground := Ground.phase }, { on := 8, ground := Ground.phase }, { on := 9, ground := Ground.phase }, { on := 10, ground := Ground.phase }, { on := 11, ground := Ground.textOnly Departure.lateStores }, { on := 12, ground := Ground.textOnly Departure.lateStores }], guard := none }) (v := ?vh28) rfl ?hsh28 ?hfh28 ?hrh28 ?hQh28 ?hyh28 (by assumption) ?resth28
    case hsh28 => kernel_rfl
    case hfh28 => kernel_rfl
    case hrh28 => kernel_rfl
    case hQh28 => exact fun _ _ _ h => h
    case hyh28 => (refine Or.inl ⟨by rfl, ?_⟩; intro w hSw; (try dsimp only at hSw); go_simp; try with_reducible rfl)
    try simp only [Act.put, List.setIfInBounds_toArray, List.set_cons_zero, List.set_cons_succ]
    refine wpAnyH_take (i := 14) (oi := { dst := some 18, op := Op.assign (Operand.tmp 95), type := 3, pos := "law.go:99", after := #[{ on := 11, ground := Ground.data }, { on := 13, ground := Ground.chain }, { on := 0, ground := Ground.phase }, { on := 1, ground := Ground.phase }, { on := 2, ground := Ground.phase }, { on := 3, ground := Ground.phase }, { on := 4, ground := Ground.phase }, { on := 5, ground := Ground.phase }, { on := 6, ground := Ground.phase }, { on := 7, ground := Ground.phase }, { on := 8, ground := Ground.phase }, { on := 9, ground := Ground.phase }, { on := 10, ground := Ground.phase }, { on := 11, ground := Ground.phase }, { on := 12, ground := Ground.textOnly Departure.lateStores }, { on := 13, ground := Ground.phase }], guard := none }) (v := ?vh29) rfl ?hsh29 ?hfh29 ?hrh29 ?hQh29 ?hyh29 (by assumption) ?resth29
    case hsh29 => kernel_rfl
    case hfh29 => kernel_rfl
    case hrh29 => kernel_rfl
    case hQh29 => exact fun _ _ _ h => h
    case hyh29 => (refine Or.inl ⟨by rfl, ?_⟩; intro w hSw; (try dsimp only at hSw); go_simp; try with_reducible rfl)
    try simp only [Act.put, List.setIfInBounds_toArray, List.set_cons_zero, List.set_cons_succ]
    refine wpAnyH_take (i := 15) (oi := { dst := some 19, op := Op.assign (Operand.tmp 96), type := 3, pos := "law.go:99", after := #[{ on := 12, ground := Ground.data }, { on := 14, ground := Ground.chain }, { on := 0, ground := Ground.phase }, { on := 1, ground := Ground.phase }, { on := 2, ground := Ground.phase }, { on := 3, ground := Ground.phase }, { on := 4, ground := Ground.phase }, { on := 5, ground := Ground.phase }, { on := 6, ground := Ground.phase }, { on := 7, ground := Ground.phase }, { on := 8, ground := Ground.phase }, { on := 9, ground := Ground.phase }, { on := 10, ground := Ground.phase }, { on := 11, ground := Ground.phase }, { on := 12, ground := Ground.phase }, { on := 13, ground := Ground.phase }, { on := 14, ground := Ground.phase }], guard := none }) (v := ?vh30) rfl ?hsh30 ?hfh30 ?hrh30 ?hQh30 ?hyh30 (by assumption) ?resth30
    case hsh30 => kernel_rfl
    case hfh30 => kernel_rfl
    case hrh30 => kernel_rfl
    case hQh30 => exact fun _ _ _ h => h
    case hyh30 => (refine Or.inl ⟨by rfl, ?_⟩; intro w hSw; (try dsimp only at hSw); go_simp; try with_reducible rfl)
    try simp only [Act.put, List.setIfInBounds_toArray, List.set_cons_zero, List.set_cons_succ]
    refine wpAnyH_done (by kernel_rfl) ?_ _
    refine NoPanic.normal ?_
    clear hHeld Hcall2 Hini3
    have HBP := B22
    have HOP := C20
    have hovp := HOVP.out
    obtain ⟨OA, oc, rfl⟩ : ∃ A c, ovp = .slice A J.length c := by obtain ⟨h1, A, c, rfl, h2, h3⟩ := hovp; exact ⟨A, c, rfl⟩
    obtain ⟨z1, hz1⟩ : ∃ z, sLen J = z := ⟨_, rfl⟩
    obtain ⟨jn, hjn⟩ : ∃ z, J.length = z := ⟨_, rfl⟩
    have HJL := Lib.hid hjn
    obtain ⟨VP, sp, hVP⟩ := H.out.cutTo (jn : Int) jn rfl (by have := HJN0.out; have := HN.out; have := HJL.out; omega)
    rw [← hjn, HJT.out] at hVP
    have HVP := Lib.hid hVP
    rw [hjn] at HOVP HJN0
    rw [hz1, hjn]
    have jd : decide ((n : Int) < (jn : Int)) = false := decide_eq_false (by have := HJN0.out; omega)
    have jd' : decide (n < jn) = false := decide_eq_false (by have := HJN0.out; omega)
    have j9 : jn ≤ 30 := by have := HJN0.out; omega
    clear kp hovp hz1 hjn hVP
    go_wp2_with fail
    refine (SameBytes_r J _ _ _ HOVP.out (HVP.out.later HBP.out)).mono ?_; rintro e w7 ⟨rfl, hb7⟩
    have HB7 := Lib.hid (HBP.out.trans (hb7.mono HBP.out.size))
    have HO7 := Lib.hid (HOP.out.later hb7)
    clear hb7 HOP HBP jd jd'
    by_cases b0 : bit < 0
    · have f1 : decide (bit < 0) = true := by simpa using b0
      clear b0
      go_wp2_with fail
      go_ret
      exact ⟨rfl, HB7.out⟩
    obtain ⟨q, hq⟩ := Int.eq_ofNat_of_zero_le (show 0 ≤ bit / 8 by omega)
    obtain ⟨j, hj⟩ := Int.eq_ofNat_of_zero_le (show 0 ≤ bit % 8 by omega)
    have HJ8 := Lib.hid (show j < 8 by omega)
    have f1 : decide (bit < 0) = false := by simp; omega
    have b1 : 0 ≤ bit := by omega
    have t1 : Int.tdiv bit 8 = (q : Int) := by rw [Int.tdiv_eq_ediv_of_nonneg b1, hq]
    have t2 : Int.tmod bit 8 = (j : Int) := by rw [Int.tmod_eq_emod_of_nonneg b1, hj]
    have t3 : bit / 8 = (q : Int) := hq
    have t5 : wrap64 (q : Int) = (q : Int) := wrap64_id (by omega) (by have := HBIT0.out.2; clear t1 t2; omega)
    have t4 : bit % 8 = (j : Int) := hj
    clear b0 hq hj
    have T1 := Lib.hid t1
    have T2 := Lib.hid t2
    have T3 := Lib.hid t3
    have T4 := Lib.hid t4
    have T5 := Lib.hid t5
    clear t1 t2 t3 t4 t5
    by_cases b2 : ns + nf ≤ q
    · have f2 : decide ((ns : Int) + (nf : Int) ≤ (q : Int)) = true := decide_eq_true (by omega)
      have f2' : decide (ns + nf ≤ q) = true := decide_eq_true (by omega)
      clear b2
      have t1 := T1.out
      have t3 := T3.out
      have t5 := T5.out
      go_wp2_with fail
      go_ret
      exact ⟨rfl, HB7.out⟩
    have f2 : decide ((ns : Int) + (nf : Int) ≤ (q : Int)) = false := decide_eq_false (by omega)
    have f2' : decide (ns + nf ≤ q) = false := decide_eq_false (by omega)
    by_cases b3 : q < ns
    · have f3 : decide ((q : Int) < (ns : Int)) = true := decide_eq_true (by omega)
      have f3' : decide (q < ns) = true := decide_eq_true (by omega)
      have HQS := Lib.hid b3
      have q9 : q ≤ 9200 := by omega
      clear b2 b3
      have hrow := HO7.out.1
      obtain ⟨g, rfl⟩ : ∃ g, SA = some ⟨g, 0, none⟩ := by
        rcases hrow.2 with ⟨e, -⟩ | ⟨g, cap, cur, e, -⟩
        · injection e with e1 e2 e3; have := HQS.out; omega
        · injection e with e1 e2 e3; exact ⟨g, e1⟩
      have hx : w7.cell? ⟨g, q, none⟩ = some (.int .u8 (nth (catS l) q)) := by
        rw [HNS.out] at hrow
        rw [hrow.cellAt q (by have := HQS.out; omega)]
        exact bys_at _ _ (by have := HQS.out; have := HNS.out; omega)
      have hfz : ∀ o, w7.frozen? ⟨g, o, none⟩ = false := fun o => by rw [HNS.out] at hrow; exact hrow.frozenAt o
      have HBIT := Lib.hid (bit_of (j := j) (((catS_by (m := 300) (by omega) HG.out)) q).1 (((catS_by (m := 300) (by omega) HG.out)) q).2 HJ8.out)
      have HST : w7.grownBy (w7.setCell ⟨g, q, none⟩ (.int .u8 (bits .xor .u8 (nth (catS l) q) (2 ^ j)))) (some g) ∧ (w7.setCell ⟨g, q, none⟩ (.int .u8 (bits .xor .u8 (nth (catS l) q) (2 ^ j)))).ownsRow w2.heap.size 5 1 (.slice (some ⟨g, 0, none⟩) ns sc) ns (bys ((catS l).set q (bits .xor .u8 (nth (catS l) q) (2 ^ j)))) := by
        rw [HNS.out] at hrow
        have := hrow.stored q (.int .u8 (bits .xor .u8 (nth (catS l) q) (2 ^ j)))
        refine ⟨this.2, ?_⟩
        have e : bys ((catS l).set q (bits .xor .u8 (nth (catS l) q) (2 ^ j))) = (bys (catS l)).set q (.int .u8 (bits .xor .u8 (nth (catS l) q) (2 ^ j))) := by unfold bys; rw [List.map_set]
        rw [e]; exact this.1
      have HF6 := Lib.hid (own_other HO7.out.2.1 (u := .slice (some ⟨g, 0, none⟩) ns sc) HST.1 HO7.out.2.2.2.1.symm)
      have HE6 := Lib.hid (own_other HO7.out.2.2.1 (u := .slice (some ⟨g, 0, none⟩) ns sc) HST.1 HO7.out.2.2.2.2.1.symm)
      have HS6 := Lib.hid HST.2
      have HB6 := Lib.hid (HB7.out.grown HST.1 HB7.out.size (fun k e => by cases e; have := (hrow.lt g rfl).1; have := HBW2.out; omega))
      have HX := Lib.hid hx
      have HFZ := Lib.hid hfz
      clear HST hrow hx hfz
      have t1 := T1.out
      have t3 := T3.out
      iterate 200 (first | (with_reducible show Code.wp _ (Code.region 19 _ _) _ _ _) | go_values | go_skip | go_guarded | go_step | go_upon | go_back | (simp only [Int.not_lt, Int.not_le] at *; go_simp) | go_simp)
      clear t1 t3
      have t2 := T2.out
      have t4 := T4.out
      have hx := HX.out
      have hfz := HFZ.out
      have hqn : q < ns := HQS.out
      have hpw := pow_bd HJ8.out
      have s5 : (2 : Int) ^ j % 256 = 2 ^ j := Int.emod_eq_of_lt (by omega) (by omega)
      clear hpw
      go_region
      obtain ⟨y, hy⟩ : ∃ z, bits .xor .u8 (nth (catS l) q) (2 ^ j) = z := ⟨_, rfl⟩
      rw [hy] at HS6 HF6 HE6 HB6 HBIT ⊢
      obtain ⟨W8, hW8⟩ : ∃ z, (w7.setCell ⟨g, q, none⟩ (.int .u8 y)).drew = z := ⟨_, rfl⟩
      have h1 : W8.ownsRow w2.heap.size 5 1 (.slice (some ⟨g, 0, none⟩) ns sc) ns (bys ((catS l).set q y)) := by rw [← hW8]; exact HS6.out
      have h2 : W8.ownsRow w2.heap.size 5 1 (.slice FA nf fc) (catF l).length (bys (catF l)) := by rw [← hW8]; exact HF6.out
      have h3 : W8.ownsRow w2.heap.size 3 1 (.slice EA ne ec) (endsList l).length (ints (endsList l)) := by rw [← hW8]; exact HE6.out
      have h4 : Below w.heap.size w W8 := by rw [← hW8]; exact HB6.out.drew
      rw [hW8]
      have HS8 := Lib.hid h1
      have HF8 := Lib.hid h2
      have HE8 := Lib.hid h3
      have HB8 := Lib.hid h4
      obtain ⟨ge, rfl⟩ : ∃ g, EA = some ⟨g, 0, none⟩ := by
        rcases h3.2 with ⟨e, -⟩ | ⟨g, cap, cur, e, -⟩
        · injection e with e1 e2 e3; have := HE.out; omega
        · injection e with e1 e2 e3; exact ⟨g, e1⟩
      clear hW8 hy h1 h2 h3 h4 t2 t4 hx hfz hqn s5 HX HFZ HS6 HF6 HE6 HB6
      go_wp2_with fail
      go_loopw [21] (fun kv wr => ∃ k : Nat, kv = .int .i64 (k : Int) ∧ k < n ∧ (catS (l.take k)).length ≤ q ∧ wr = W8) (fun kv _ => n - (intOf kv).toNat)
      case atStart =>
        refine ⟨0, rfl, ?_, by simp [catS], rfl⟩
        rcases Nat.eq_zero_or_pos n with h | h
        · exfalso
          have e : l = [] := List.length_eq_zero_iff.1 (HN.out.trans h)
          have h1 := HNS.out
          rw [e] at h1
          have h2 := HQS.out
          simp [catS] at h1; omega
        · exact h
      case round =>
        obtain ⟨k, rfl, hkn, hkq, rfl⟩ := hrel
        have HKN := Lib.hid hkn
        have HKQ := Lib.hid hkq
        have hce : wr.cell? ⟨ge, k + 1, none⟩ = some (.int .i64 (endsL l (k + 1))) := by
          have h := HE8.out
          have hl := endsList_len l
          have hln := HN.out
          rw [HNE.out] at h
          rw [h.cellAt (k + 1) (by have := HE.out; omega), ← endsList_at l (k + 1) (by omega)]
          unfold ints nth
          rw [List.getElem?_map, List.getD_eq_getElem?_getD, List.getElem?_eq_getElem (by omega)]
          rfl
        obtain ⟨m, hm⟩ : ∃ z, (catS (l.take (k + 1))).length = z := ⟨_, rfl⟩
        have HM := Lib.hid hm
        have hme : endsL l (k + 1) = (m : Int) := by unfold endsL; rw [hm]
        rw [hme] at hce
        have k9 : k ≤ 40 := by omega
        have ki : (k : Int) + 1 < (ne : Int) := by have := HE.out; have := HN.out; omega
        have ki' : k + 1 < ne := by omega
        have kd : decide ((k : Int) + 1 < (ne : Int)) = true := decide_eq_true ki
        have kd' : decide (k + 1 < ne) = true := decide_eq_true ki'
        have kw : IntKind.wrap .i64 ((k : Int) + 1) = (k : Int) + 1 := wrapI (by omega) (by omega)
        have k0 : (0 : Int) ≤ (k : Int) + 1 := by omega
        have kt : ((k : Int) + 1).toNat = k + 1 := by omega
        clear hm hme hkn hkq
        by_cases hmq : m ≤ q
        · have md : decide ((m : Int) ≤ (q : Int)) = true := decide_eq_true (by omega)
          have md' : decide (m ≤ q) = true := decide_eq_true hmq
          have HMQ := Lib.hid hmq
          clear hmq
          go_wp2_with fail
          go_roundw
          case rel =>
            refine ⟨k + 1, by go_num, ?_, by rw [HM.out]; exact HMQ.out, by first | rfl | trivial⟩
            rcases Nat.lt_or_ge (k + 1) n with h | h
            · exact h
            · exfalso
              have e : l.take (k + 1) = l := List.take_of_length_le (by have := HN.out; omega)
              have h1 := HM.out
              rw [e, HNS.out] at h1
              have := HMQ.out; have := HQS.out; omega
          case measure => have := HKN.out; simp [intOf]; omega
        · have md : decide ((m : Int) ≤ (q : Int)) = false := decide_eq_false (by omega)
          have md' : decide (m ≤ q) = false := decide_eq_false hmq
          have HJN := Lib.hid (join_stockBit HG.out (k := k) (i := q) (by have := HKN.out; have := HN.out; omega) HKQ.out (by rw [HM.out]; omega) HBIT.out)
          clear hmq
          have HSBH := Lib.hid (show Bys wr wr.heap.size (.slice (some ⟨g, 0, none⟩) ns sc) ((catS l).set q y) from own_bys HS8.out (by rw [List.length_set, HNS.out]) (by omega) (isBy_set (catS_by (m := 300) (by omega) HG.out) HBIT.out))
          have HFBH := Lib.hid (show Bys wr wr.heap.size (.slice FA nf fc) (catF l) from own_bys HF8.out rfl (by rw [HNF.out]; omega) (catF_by (m := 300) (by omega) HG.out))
          have FSLH := Lib.hid (show ((catS l).set q y).length = ns by rw [List.length_set, HNS.out])
          have kt := Join_c ((catS l).set q y) (catF l) _ _ wr HSBH.out HFBH.out (by rw [FSLH.out]; omega) (by rw [HNF.out]; omega)
          rw [HJN.out] at kt
          obtain ⟨VL, sl, hVL⟩ := H.out.cutTo (k : Int) k rfl (by have := HKN.out; have := HN.out; omega)
          have HVL := Lib.hid hVL
          clear hVL
          go_wp2_with fail
          refine kt.mono ?_; rintro e w9 ⟨ov9, rfl, hov9, hb9⟩
          have HB9 := Lib.hid (HB8.out.trans (hb9.mono HB8.out.size))
          have HOV9 := Lib.hid hov9
          generalize sLen (l.take k) = z1
          generalize (l.take k).length = z2
          clear kt hb9 hov9
          go_wp2_with fail
          refine (SameBytes_r (l.take k) _ _ w9 HOV9.out (HVL.out.later HB9.out)).mono ?_; rintro e w10 ⟨rfl, hb10⟩
          have HB10 := Lib.hid (HB9.out.trans (hb10.mono HB9.out.size))
          clear hb10
          go_wp2_with fail
          go_ret
          exact ⟨rfl, HB10.out⟩
    · have f3 : decide ((q : Int) < (ns : Int)) = false := decide_eq_false (by omega)
      have f3' : decide (q < ns) = false := decide_eq_false b3
      obtain ⟨r, hqr⟩ : ∃ r, q = ns + r := ⟨q - ns, by omega⟩
      have HQS := Lib.hid (show r < nf by omega)
      have HQR := Lib.hid hqr
      have q9 : q ≤ 9200 := by omega
      have r9 : r ≤ 120 := by omega
      clear b2 b3 hqr
      have hrow := HO7.out.2.1
      obtain ⟨g, rfl⟩ : ∃ g, FA = some ⟨g, 0, none⟩ := by
        rcases hrow.2 with ⟨e, -⟩ | ⟨g, cap, cur, e, -⟩
        · injection e with e1 e2 e3; have := HQS.out; omega
        · injection e with e1 e2 e3; exact ⟨g, e1⟩
      have hx : w7.cell? ⟨g, r, none⟩ = some (.int .u8 (nth (catF l) r)) := by
        rw [HNF.out] at hrow
        rw [hrow.cellAt r (by have := HQS.out; omega)]
        exact bys_at _ _ (by have := HQS.out; have := HNF.out; omega)
      have hfz : ∀ o, w7.frozen? ⟨g, o, none⟩ = false := fun o => by rw [HNF.out] at hrow; exact hrow.frozenAt o
      have HBIT := Lib.hid (bit_of (j := j) (((catF_by (m := 300) (by omega) HG.out)) r).1 (((catF_by (m := 300) (by omega) HG.out)) r).2 HJ8.out)
      have HST : w7.grownBy (w7.setCell ⟨g, r, none⟩ (.int .u8 (bits .xor .u8 (nth (catF l) r) (2 ^ j)))) (some g) ∧ (w7.setCell ⟨g, r, none⟩ (.int .u8 (bits .xor .u8 (nth (catF l) r) (2 ^ j)))).ownsRow w2.heap.size 5 1 (.slice (some ⟨g, 0, none⟩) nf fc) nf (bys ((catF l).set r (bits .xor .u8 (nth (catF l) r) (2 ^ j)))) := by
        rw [HNF.out] at hrow
        have := hrow.stored r (.int .u8 (bits .xor .u8 (nth (catF l) r) (2 ^ j)))
        refine ⟨this.2, ?_⟩
        have e : bys ((catF l).set r (bits .xor .u8 (nth (catF l) r) (2 ^ j))) = (bys (catF l)).set r (.int .u8 (bits .xor .u8 (nth (catF l) r) (2 ^ j))) := by unfold bys; rw [List.map_set]
        rw [e]; exact this.1
      have HF6 := Lib.hid (own_other HO7.out.1 (u := .slice (some ⟨g, 0, none⟩) nf fc) HST.1 HO7.out.2.2.2.1)
      have HS6 := Lib.hid HST.2
      have HB6 := Lib.hid (HB7.out.grown HST.1 HB7.out.size (fun k e => by cases e; have := (hrow.lt g rfl).1; have := HBW2.out; omega))
      have HX := Lib.hid hx
      have HFZ := Lib.hid hfz
      clear HST hrow hx hfz
      have t1 := T1.out
      have t3 := T3.out
      iterate 200 (first | (with_reducible show Code.wp _ (Code.region 22 _ _) _ _ _) | go_values | go_skip | go_guarded | go_step | go_upon | go_back | (simp only [Int.not_lt, Int.not_le] at *; go_simp) | go_simp)
      clear t1 t3
      have t2 := T2.out
      have t4 := T4.out
      have hx := HX.out
      have hfz := HFZ.out
      have hqn : r < nf := HQS.out
      have u1 : (q : Int) - (ns : Int) = (r : Int) := by have := HQR.out; omega
      have hpw := pow_bd HJ8.out
      have s5 : (2 : Int) ^ j % 256 = 2 ^ j := Int.emod_eq_of_lt (by omega) (by omega)
      clear hpw
      go_region
      obtain ⟨y, hy⟩ : ∃ z, bits .xor .u8 (nth (catF l) r) (2 ^ j) = z := ⟨_, rfl⟩
      rw [hy] at HS6 HF6 HB6 HBIT ⊢
      obtain ⟨W8, hW8⟩ : ∃ z, (w7.setCell ⟨g, r, none⟩ (.int .u8 y)).drew = z := ⟨_, rfl⟩
      have h1 : W8.ownsRow w2.heap.size 5 1 (.slice (some ⟨g, 0, none⟩) nf fc) nf (bys ((catF l).set r y)) := by rw [← hW8]; exact HS6.out
      have h2 : W8.ownsRow w2.heap.size 5 1 (.slice SA ns sc) (catS l).length (bys (catS l)) := by rw [← hW8]; exact HF6.out
      have h4 : Below w.heap.size w W8 := by rw [← hW8]; exact HB6.out.drew
      rw [hW8]
      have HS8 := Lib.hid h1
      have HF8 := Lib.hid h2
      have HB8 := Lib.hid h4
      clear hW8 hy h1 h2 h4 t2 t4 hx hfz hqn s5 HX HFZ HS6 HF6 HB6
      obtain ⟨k, hk⟩ : ∃ k, r / 4 = k := ⟨_, rfl⟩
      have HKN := Lib.hid (show k < n by have := HQS.out; have := HFE.out; omega)
      have HJN := Lib.hid (join_foilBit HG.out (i := r) (by have := HQS.out; have := HFE.out; have := HN.out; omega) HBIT.out)
      rw [hk] at HJN
      have v1 : Int.tdiv (r : Int) 4 = (k : Int) := by rw [Int.tdiv_eq_ediv_of_nonneg (by omega)]; omega
      have v2 : (r : Int) / 4 = (k : Int) := by omega
      have k9 : k ≤ 40 := by omega
      have HSBH := Lib.hid (show Bys W8 W8.heap.size (.slice (some ⟨g, 0, none⟩) nf fc) ((catF l).set r y) from own_bys HS8.out (by rw [List.length_set, HNF.out]) (by omega) (isBy_set (catF_by (m := 300) (by omega) HG.out) HBIT.out))
      have HFBH := Lib.hid (show Bys W8 W8.heap.size (.slice SA ns sc) (catS l) from own_bys HF8.out rfl (by rw [HNS.out]; omega) (catS_by (m := 300) (by omega) HG.out))
      have FSLH := Lib.hid (show ((catF l).set r y).length = nf by rw [List.length_set, HNF.out])
      clear hk
      have kt := Join_c (catS l) ((catF l).set r y) _ _ W8 HFBH.out HSBH.out (by rw [HNS.out]; omega) (by rw [FSLH.out]; omega)
      rw [HJN.out] at kt
      obtain ⟨VL, sl, hVL⟩ := H.out.cutTo (k : Int) k rfl (by have := HKN.out; have := HN.out; omega)
      have HVL := Lib.hid hVL
      clear hVL
      go_wp2_with fail
      refine kt.mono ?_; rintro e w9 ⟨ov9, rfl, hov9, hb9⟩
      have HB9 := Lib.hid (HB8.out.trans (hb9.mono HB8.out.size))
      have HOV9 := Lib.hid hov9
      generalize sLen (l.take k) = z1
      generalize (l.take k).length = z2
      clear kt hb9 hov9
      go_wp2_with fail
      refine (SameBytes_r (l.take k) _ _ w9 HOV9.out (HVL.out.later HB9.out)).mono ?_; rintro e w10 ⟨rfl, hb10⟩
      have HB10 := Lib.hid (HB9.out.trans (hb10.mono HB9.out.size))
      clear hb10
      go_wp2_with fail
      go_ret
      exact ⟨rfl, HB10.out⟩
end Go.Proofs.Ythmiokcfkdpphaa

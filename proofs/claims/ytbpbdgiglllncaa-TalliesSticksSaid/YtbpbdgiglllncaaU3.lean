/- Layer 9: the check, copies of bytes, and both halves of a tally: what both sides answer. -/
import Derived.Test.YtbpbdgiglllncaaU2
set_option linter.all false
namespace Go.Proofs.Ytbpbdgiglllncaa
open Go.RowKit

set_option maxRecDepth 100000 in
set_option maxHeartbeats 4000000 in
theorem checkOf_c (xs : List Int) (v : Value) (w : World) (h : Bys w w.heap.size v xs) (hL : xs.length ≤ 8192) :
    Calls Try.prog 42 #[v] w fun e w' => e = .returned (.int .i64 (chk xs)) ∧ Below w.heap.size w w' := by
  obtain ⟨h1, h0, A, c, rfl, hc, hcell⟩ := h
  have HC := Lib.hid hcell
  have H0 := Lib.hid h0
  have HS := Lib.hid (show sumTo xs xs.length % 65521 = chk xs from rfl)
  have HBD := Lib.hid (fun k hk => sumTo_bd (xs := xs) (k := k) h0 hk)
  obtain ⟨n, hn⟩ : ∃ n, xs.length = n := ⟨_, rfl⟩
  rw [hn] at HC HS hL ⊢
  clear hn hc hcell h0 h1
  go_enter Try.func42, Try.ntmps42
  go_wp2_with fail
  go_loopw [3, 8] (fun s i wr => ∃ k : Nat, k ≤ n ∧ i = .int .i64 (k : Int) ∧ s = .int .i64 (sumTo xs k) ∧ Below w.heap.size w wr) (fun _ i _ => n - (intOf i).toNat)
  case atStart => exact ⟨0, Nat.zero_le _, rfl, rfl, Below.refl _ _⟩
  case round =>
    obtain ⟨k, hk, rfl, rfl, hbr⟩ := hrel
    have HB := Lib.hid hbr
    have hbd := HBD.out k (by omega)
    by_cases hlt : k < n
    · obtain ⟨b, off, rfl, hbB, hcc⟩ := HC.out (by omega)
      have hx := keepd (hcc k hlt) hbr hbB
      have hby := H0.out k
      have hdk : decide ((k : Int) < (n : Int)) = true := by simpa using hlt
      have i0 : (0 : Int) ≤ (k : Int) := Int.natCast_nonneg _
      have i1 : (k : Int) < (n : Int) := by omega
      have hk9 : k ≤ 8191 := by omega
      have hn9 : n ≤ 8192 := hL
      have HN := Lib.hid (show k < n from hlt)
      have HSS := Lib.hid (show sumTo xs (k + 1) = sumTo xs k + ((k : Int) + 1) * nth xs k from rfl)
      have HBW := Lib.hid (fun nq => HB.out.trans (below_drewN (B := w.heap.size) wr nq))
      obtain ⟨x0, x1⟩ := hby
      have hm := mulBd (a := (k : Int) + 1) (b := nth xs k) (A := 8192) (B := 255) (by omega) (by omega) x0 x1
      clear hcc hbB hbr
      generalize nth xs k = x at *
      obtain ⟨p, hp⟩ : ∃ p, ((k : Int) + 1) * x = p := ⟨_, rfl⟩
      generalize sumTo xs k = s at *
      rw [hp] at hm HSS
      obtain ⟨m0, m1⟩ := hm
      obtain ⟨s0, s1⟩ := hbd
      have w0 : IntKind.wrap .i64 ((k : Int) + 1) = (k : Int) + 1 := wrapI (by omega) (by omega)
      have w1 : IntKind.wrap .i64 x = x := wrapI x0 (by omega)
      have w2 : IntKind.wrap .i64 (((k : Int) + 1) * x) = p := by rw [hp]; exact wrapI m0 (by omega)
      have w3 : IntKind.wrap .i64 (s + p) = s + p := wrapI (by omega) (by omega)
      have HP := Lib.hid hp
      clear hp m0 m1 s0 s1 hlt hL
      go_wp2_with fail
      go_roundw
      case rel => exact ⟨k + 1, by have := HN.out; omega, by go_num, by rw [HSS.out], HB.out⟩
      case measure => have := HN.out; simp [intOf]; omega
    · obtain rfl : k = n := by omega
      have hdk : decide ((k : Int) < (k : Int)) = false := by simp
      have hnn : (0 : Int) ≤ sumTo xs k := by have := hbd.1; omega
      clear hlt hbd
      generalize sumTo xs k = s at *
      go_wp2_with fail
      go_ret
      exact ⟨ret_int HS.out, HB.out⟩

set_option maxRecDepth 100000 in
set_option maxHeartbeats 4000000 in
theorem rcheck_c (xs : List Int) (v : Value) (w : World) (h : Bys w w.heap.size v xs) (hL : xs.length ≤ 8192) :
    Calls Try.prog 44 #[v] w fun e w' => e = .returned (.int .i64 (chk xs)) ∧ Below w.heap.size w w' := by
  obtain ⟨h1, h0, A, c, rfl, hc, hcell⟩ := h
  have HC := Lib.hid hcell
  have H0 := Lib.hid h0
  have HS := Lib.hid (chk_r xs)
  obtain ⟨n, hn⟩ : ∃ n, xs.length = n := ⟨_, rfl⟩
  rw [hn] at HC HS hL ⊢
  clear hn hc hcell h0 h1
  go_enter Try.func44, Try.ntmps44
  go_wp2_with fail
  go_loopw [3, 4] (fun s i wr => ∃ k : Nat, k ≤ n ∧ i = .int .i64 (k : Int) ∧ s = .int .i64 (rsumTo xs k) ∧ Below w.heap.size w wr) (fun _ i _ => n - (intOf i).toNat)
  case atStart => exact ⟨0, Nat.zero_le _, rfl, rfl, Below.refl _ _⟩
  case round =>
    obtain ⟨k, hk, rfl, rfl, hbr⟩ := hrel
    have HB := Lib.hid hbr
    have hbd := rsumTo_bd xs k
    by_cases hlt : k < n
    · obtain ⟨b, off, rfl, hbB, hcc⟩ := HC.out (by omega)
      have hx := keepd (hcc k hlt) hbr hbB
      have hby := H0.out k
      have hdk : decide ((k : Int) < (n : Int)) = true := by simpa using hlt
      have i0 : (0 : Int) ≤ (k : Int) := Int.natCast_nonneg _
      have i1 : (k : Int) < (n : Int) := by omega
      have hk9 : k ≤ 8191 := by omega
      have hn9 : n ≤ 8192 := hL
      have HN := Lib.hid (show k < n from hlt)
      have HSS := Lib.hid (show rsumTo xs (k + 1) = (rsumTo xs k + ((k : Int) + 1) * nth xs k) % 65521 from rfl)
      obtain ⟨x0, x1⟩ := hby
      have hm := mulBd (a := (k : Int) + 1) (b := nth xs k) (A := 8192) (B := 255) (by omega) (by omega) x0 x1
      clear hcc hbB hbr
      generalize nth xs k = x at *
      obtain ⟨p, hp⟩ : ∃ p, ((k : Int) + 1) * x = p := ⟨_, rfl⟩
      generalize rsumTo xs k = s at *
      rw [hp] at hm HSS
      obtain ⟨m0, m1⟩ := hm
      obtain ⟨s0, s1⟩ := hbd
      have w0 : IntKind.wrap .i64 ((k : Int) + 1) = (k : Int) + 1 := wrapI (by omega) (by omega)
      have w1 : IntKind.wrap .i64 x = x := wrapI x0 (by omega)
      have w2 : IntKind.wrap .i64 (((k : Int) + 1) * x) = p := by rw [hp]; exact wrapI m0 (by omega)
      have w3 : IntKind.wrap .i64 (s + p) = s + p := wrapI (by omega) (by omega)
      have nn : 0 ≤ s + p := by omega
      have HP := Lib.hid hp
      clear hp m0 m1 s0 s1 hlt hL
      go_wp2_with fail
      go_roundw
      case rel => exact ⟨k + 1, by have := HN.out; omega, by go_num, by rw [HSS.out], HB.out⟩
      case measure => have := HN.out; simp [intOf]; omega
    · obtain rfl : k = n := by omega
      have hdk : decide ((k : Int) < (k : Int)) = false := by simp
      clear hlt hbd
      generalize rsumTo xs k = s at *
      go_wp2_with fail
      go_ret
      exact ⟨ret_int HS.out, HB.out⟩

set_option maxRecDepth 100000 in
set_option maxHeartbeats 4000000 in
theorem Clone_c (xs : List Int) (v : Value) (w : World) (h : Bys w w.heap.size v xs) (hL : xs.length ≤ 1073741824) :
    Calls Try.prog 46 #[v] w fun e w' => (∃ v', e = .returned v' ∧ Bys w' w'.heap.size v' xs ∧ ∀ g, v'.ownBlock = some g → w.heap.size ≤ g ∧ g < w'.heap.size) ∧ Below w.heap.size w w' := by
  have hal : Below w.heap.size w (w.alloc (.cells #[] 5)) := (Below.refl _ _).alloc (Nat.le_refl _) _
  have hb := h.mono (B' := (w.alloc (.cells #[] 5)).heap.size) hal hal.size
  have hby := h.by
  have ho : (w.alloc (.cells #[] 5)).ownsRow w.heap.size 5 1 (.slice (some ⟨w.heap.size, 0, none⟩) 0 0) ([] : List Int).length (bys []) := bys_lit w w.heap.size [] (Nat.le_refl _) (by simp)
  have HSM := Lib.hid (show ([] : List Int).length + xs.length ≤ 1099511627776 by simp; omega)
  have HS := Lib.hid (show w.heap.size ≤ (w.alloc (.cells #[] 5)).heap.size from hal.size)
  have HLT := Lib.hid (fun k hk => (ho.lt k hk).1)
  have HAL := Lib.hid hal
  have HBY := Lib.hid hby
  have HL := Lib.hid hL
  obtain ⟨h1, h0, A, c, rfl, hc, hcell⟩ := h
  clear hal hby
  cases A with
  | none =>
    have hx : xs = [] := by
      rcases Nat.eq_zero_or_pos xs.length with hz | hp
      · exact List.length_eq_zero_iff.1 hz
      · obtain ⟨b, off, e, -⟩ := hcell hp; cases e
    subst hx
    have heq : ∀ w : World, (binOp .eql 31 (.slice none 0 c) (.slice none 0 0)).run Try.prog w = .ok (.bool true) w := fun _ => rfl
    clear hcell hb ho
    rw [show ([] : List Int).length = 0 from rfl]
    go_enter Try.func46, Try.ntmps46
    go_wp2_with fail
    go_ret
    exact ⟨⟨_, rfl, Bys.nil _ _, fun g e => by cases e⟩, Below.refl _ _⟩
  | some a =>
    obtain ⟨n, hn⟩ : ∃ n, xs.length = n := ⟨_, rfl⟩
    have HN := Lib.hid hn
    rw [hn] at hb
    rw [hn]
    clear hn hcell hc h0 h1 hL
    have heq : ∀ w : World, (binOp .eql 31 (.slice (some a) n c) (.slice none 0 0)).run Try.prog w = .ok (.bool false) w := fun _ => rfl
    go_enter Try.func46, Try.ntmps46
    go_wp2_with (first
      | (at_builtin; refine wpList_bytes rfl _ _ rfl w.heap.size (.slice (some ⟨w.heap.size, 0, none⟩) 0 0) [] rfl ho _ xs rfl hb HSM.out HS.out ?_
         intro v' w7 hown7 hgrow7 _
         rw [List.nil_append] at hown7
         have HOWN := Lib.hid hown7
         have HB7 := Lib.hid (HAL.out.grown hgrow7 HS.out HLT.out)
         clear hown7 hgrow7 ho hb))
    go_ret
    exact ⟨⟨_, rfl, bys_own HOWN.out (Nat.le_refl _) (by have := HL.out; omega) HBY.out, fun g e => HOWN.out.lt g e⟩, HB7.out⟩

theorem stockL_len (b : List Int) : (stockL b).length = 2 + b.length := by simp [stockL, two]; omega
theorem foilL_len (b : List Int) : (foilL b).length = 4 := rfl
theorem stockL_by {b : List Int} (h : IsBy b) (hl : b.length ≤ 65535) : IsBy (stockL b) := (two_by (by omega) (by omega)).app h
theorem foilL_by {b : List Int} (hl : b.length ≤ 65535) : IsBy (foilL b) := (two_by (by omega) (by omega)).app (two_by (chk_bd b).1 (by have := (chk_bd b).2; omega))

set_option maxRecDepth 100000 in
set_option maxHeartbeats 4000000 in
theorem NotchBig_c (xs : List Int) (v : Value) (w : World) (h : Bys w w.heap.size v xs) (hL : 8192 < xs.length) :
    Calls Try.prog 14 #[v] w fun e w' => e = .returned (.tuple #[.slice none 0 0, .slice none 0 0, .int .i64 2]) ∧ w = w' := by
  obtain ⟨h1, h0, A, c, rfl, hc, hcell⟩ := h
  have e1 : decide ((8192 : Int) < (xs.length : Int)) = true := by simp; omega
  clear hcell h0 hc hL
  go_enter Try.func14, Try.ntmps14
  go_wp2_with fail
  go_ret3
  exact ⟨rfl, rfl⟩
set_option maxRecDepth 100000 in
set_option maxHeartbeats 4000000 in
theorem rNotchBig_c (xs : List Int) (v : Value) (w : World) (h : Bys w w.heap.size v xs) (hL : 8192 < xs.length) :
    Calls Try.prog 15 #[v] w fun e w' => e = .returned (.tuple #[.slice none 0 0, .slice none 0 0, .int .i64 2]) ∧ w = w' := by
  obtain ⟨h1, h0, A, c, rfl, hc, hcell⟩ := h
  have e1 : decide ((8192 : Int) < (xs.length : Int)) = true := by simp; omega
  clear hcell h0 hc hL
  go_enter Try.func15, Try.ntmps15
  go_wp2_with fail
  go_ret3
  exact ⟨rfl, rfl⟩

/-- what both sides make of few bytes -/
def NotchA (w : World) (b : List Int) (e : Ending) (w' : World) : Prop :=
  ∃ s f, e = .returned (.tuple #[s, f, .int .i64 0]) ∧ Bys w' w'.heap.size s (stockL b) ∧ Bys w' w'.heap.size f (foilL b) ∧ (∀ g, s.ownBlock = some g → w.heap.size ≤ g) ∧ (∀ g, f.ownBlock = some g → w.heap.size ≤ g) ∧ Below w.heap.size w w'
theorem own_nil (w : World) (base : Nat) : w.ownsRow base 5 1 (.slice none 0 0) ([] : List Int).length (bys []) := ⟨by simp [bys], .inl ⟨rfl, rfl⟩⟩

set_option maxRecDepth 100000 in
set_option maxHeartbeats 4000000 in
theorem Notch_c (xs : List Int) (v : Value) (w : World) (h : Bys w w.heap.size v xs) (hL : xs.length ≤ 8192) :
    Calls Try.prog 14 #[v] w fun e w' => NotchA w xs e w' := by
  have HX := Lib.hid h
  have HBY := Lib.hid h.by
  obtain ⟨h1, h0, A, c, rfl, hc, hcell⟩ := h
  obtain ⟨n, hn⟩ : ∃ n, xs.length = n := ⟨_, rfl⟩
  have HN := Lib.hid hn
  rw [hn] at hL HX ⊢
  have e1 : decide ((8192 : Int) < (n : Int)) = false := by simp; omega
  have HL := Lib.hid hL
  clear hcell h0 hc hL h1 hn
  go_enter Try.func14, Try.ntmps14
  go_wp2_with fail
  refine (appendPair_c w.heap.size (.slice none 0 0) [] n (by omega) (by have := HL.out; omega) w (own_nil _ _) (by simp) (Nat.le_refl _)).mono ?_; rintro e w1 ⟨v1, rfl, ho1, hb1⟩
  rw [List.nil_append] at ho1
  have hx1 := HX.out.later hb1
  have HSM := Lib.hid (show (two n).length + xs.length ≤ 1099511627776 by simp [two]; have := HL.out; have := HN.out; omega)
  have HB1 := Lib.hid hb1
  have HS := Lib.hid hb1.size
  have HLT := Lib.hid (fun k hk => (ho1.lt k hk).1)
  clear hb1
  go_wp2_with (first
    | (at_builtin; refine wpList_bytes rfl _ _ rfl w.heap.size v1 (two n) rfl ho1 _ xs rfl hx1 HSM.out HS.out ?_
       intro v2 w2 hown2 hgrow2 _
       have HOWN := Lib.hid hown2
       have HB2 := Lib.hid (HB1.out.grown hgrow2 HS.out HLT.out)
       clear hown2 hgrow2 ho1 hx1))
  have HX2 := Lib.hid (HX.out.later HB2.out)
  refine (appendPair_c w2.heap.size (.slice none 0 0) [] n (by omega) (by have := HL.out; omega) w2 (own_nil _ _) (by simp) (Nat.le_refl _)).mono ?_; rintro e w3 ⟨v3, rfl, ho3, hb3⟩
  rw [List.nil_append] at ho3
  have HO3 := Lib.hid ho3
  have HB3 := Lib.hid hb3
  clear ho3 hb3
  go_wp2_with fail
  refine (checkOf_c xs _ w3 (HX2.out.later HB3.out) (by have := HL.out; have := HN.out; omega)).mono ?_; rintro e w4 ⟨rfl, hb4⟩
  have HB4 := Lib.hid hb4
  clear hb4
  go_wp2_with fail
  have HBD := Lib.hid (chk_bd xs)
  refine (appendPair_c w2.heap.size v3 (two n) (chk xs) HBD.out.1 (by have := HBD.out.2; omega) w4 (own_later HO3.out HB4.out) (by simp [two]) (Nat.le_trans HB3.out.size HB4.out.size)).mono ?_; rintro e w5 ⟨v5, rfl, ho5, hb5⟩
  have HO5 := Lib.hid ho5
  have HB5 := Lib.hid ((HB3.out.trans (HB4.out.mono HB3.out.size)).trans hb5)
  clear ho5 hb5
  go_wp2_with fail
  go_ret3
  have e2 : stockL xs = two n ++ xs := by unfold stockL; rw [HN.out]
  have e3 : foilL xs = two n ++ two (chk xs) := by unfold foilL; rw [HN.out]
  refine ⟨v2, v5, rfl, ?_, ?_, fun g e => (HOWN.out.lt g e).1, fun g e => Nat.le_trans HB2.out.size (HO5.out.lt g e).1, HB2.out.trans (HB5.out.mono HB2.out.size)⟩
  · rw [e2]
    exact (bys_own (B := w2.heap.size) HOWN.out (Nat.le_refl _) (by simp [two]; have := HL.out; have := HN.out; omega) ((two_by (by omega) (by have := HL.out; omega)).app HBY.out)).later HB5.out
  · rw [e3]
    exact bys_own HO5.out (Nat.le_refl _) (by simp [two]) ((two_by (by omega) (by have := HL.out; omega)).app (two_by HBD.out.1 (by have := HBD.out.2; omega)))

set_option maxRecDepth 100000 in
set_option maxHeartbeats 4000000 in
theorem rNotch_c (xs : List Int) (v : Value) (w : World) (h : Bys w w.heap.size v xs) (hL : xs.length ≤ 8192) :
    Calls Try.prog 15 #[v] w fun e w' => NotchA w xs e w' := by
  have HX := Lib.hid h
  have HBY := Lib.hid h.by
  obtain ⟨h1, h0, A, c, rfl, hc, hcell⟩ := h
  obtain ⟨n, hn⟩ : ∃ n, xs.length = n := ⟨_, rfl⟩
  have HN := Lib.hid hn
  rw [hn] at hL HX ⊢
  have e1 : decide ((8192 : Int) < (n : Int)) = false := by simp; omega
  have HL := Lib.hid hL
  clear hcell h0 hc hL h1 hn
  go_enter Try.func15, Try.ntmps15
  go_wp2_with fail
  refine (two_c n (by omega) (by have := HL.out; omega) w).mono ?_; rintro e w1 ⟨v1, rfl, ho1, hb1⟩
  have hx1 := HX.out.later hb1
  have HSM := Lib.hid (show (two n).length + xs.length ≤ 1099511627776 by simp [two]; have := HL.out; have := HN.out; omega)
  have HB1 := Lib.hid hb1
  have HS := Lib.hid hb1.size
  have HLT := Lib.hid (fun k hk => (ho1.lt k hk).1)
  clear hb1
  go_wp2_with (first
    | (at_builtin; refine wpList_bytes rfl _ _ rfl w.heap.size v1 (two n) rfl ho1 _ xs rfl hx1 HSM.out HS.out ?_
       intro v2 w2 hown2 hgrow2 _
       have HOWN := Lib.hid hown2
       have HB2 := Lib.hid (HB1.out.grown hgrow2 HS.out HLT.out)
       clear hown2 hgrow2 ho1 hx1))
  have HX2 := Lib.hid (HX.out.later HB2.out)
  refine (two_c n (by omega) (by have := HL.out; omega) w2).mono ?_; rintro e w3 ⟨v3, rfl, ho3, hb3⟩
  have HO3 := Lib.hid ho3
  have HB3 := Lib.hid hb3
  clear ho3 hb3
  go_wp2_with fail
  refine (rcheck_c xs _ w3 (HX2.out.later HB3.out) (by have := HL.out; have := HN.out; omega)).mono ?_; rintro e w4 ⟨rfl, hb4⟩
  have HB4 := Lib.hid hb4
  clear hb4
  go_wp2_with fail
  have HBD := Lib.hid (chk_bd xs)
  refine (two_c (chk xs) HBD.out.1 (by have := HBD.out.2; omega) w4).mono ?_; rintro e w5 ⟨v5, rfl, ho5, hb5⟩
  have hx5 := bys_own ho5 (Nat.le_refl _) (by simp [two]) (two_by HBD.out.1 (by have := HBD.out.2; omega))
  have hb45 := HB4.out.trans (hb5.mono HB4.out.size)
  have ho35 := own_later HO3.out hb45
  have HB35 := Lib.hid (HB3.out.trans (hb45.mono HB3.out.size))
  have HS5 := Lib.hid (show w2.heap.size ≤ w5.heap.size from HB35.out.size)
  have HLT5 := Lib.hid (fun k hk => (ho35.lt k hk).1)
  have HSM5 := Lib.hid (show (two n).length + (two (chk xs)).length ≤ 1099511627776 by simp [two])
  clear ho5 hb5 hb45
  go_wp2_with (first
    | (at_builtin; refine wpList_bytes rfl _ _ rfl w2.heap.size v3 (two n) rfl ho35 _ (two (chk xs)) rfl hx5 HSM5.out HS5.out ?_
       intro v6 w6 hown6 hgrow6 _
       have HO6 := Lib.hid hown6
       have HB6 := Lib.hid (HB35.out.grown hgrow6 HS5.out HLT5.out)
       clear hown6 hgrow6 ho35 hx5))
  go_ret3
  have e2 : stockL xs = two n ++ xs := by unfold stockL; rw [HN.out]
  have e3 : foilL xs = two n ++ two (chk xs) := by unfold foilL; rw [HN.out]
  refine ⟨v2, v6, rfl, ?_, ?_, fun g e => (HOWN.out.lt g e).1, fun g e => Nat.le_trans HB2.out.size (HO6.out.lt g e).1, HB2.out.trans (HB6.out.mono HB2.out.size)⟩
  · rw [e2]
    exact (bys_own (B := w2.heap.size) HOWN.out (Nat.le_refl _) (by simp [two]; have := HL.out; have := HN.out; omega) ((two_by (by omega) (by have := HL.out; omega)).app HBY.out)).later HB6.out
  · rw [e3]
    exact bys_own HO6.out (Nat.le_refl _) (by simp [two]) ((two_by (by omega) (by have := HL.out; omega)).app (two_by HBD.out.1 (by have := HBD.out.2; omega)))
end Go.Proofs.Ytbpbdgiglllncaa

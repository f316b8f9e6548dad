/- Layer 9: a crash of the specification's stick. -/
import Derived.Test.YtbpbdgiglllncaaUR
set_option linter.all false
namespace Go.Proofs.Ytbpbdgiglllncaa
open Go.RowKit

/-- what the specification's Crash leaves -/
def RCrashPost (W : World) (r base : Nat) (u1 u2 u3 u4 : Value) (D1 P1 D2 P2 : List Int) (k m t : Int) (e : Ending) (W' : World) : Prop :=
  ∃ y1 y2 y3 y4, e = .returned (.int .i64 (crE P1.length P2.length k m t)) ∧ StkR W' r base y1 y2 y3 y4 (crA D1 P1 P2 k m t) (crP P1 P2 P1 k m t) (crB D2 P1 P2 k m t) (crP P1 P2 P2 k m t) ∧ Ex (· = r) W W' ∧ Below base W W' ∧ Nw W u1 y1 ∧ Nw W u2 y2 ∧ Nw W u3 y3 ∧ Nw W u4 y4
theorem RCrashPost.no {W W' : World} {r base : Nat} {u1 u2 u3 u4 : Value} {D1 P1 D2 P2 : List Int} {k m t : Int} (h : StkR W r base u1 u2 u3 u4 D1 P1 D2 P2) (hb : Below W.heap.size W W') (hbase : base ≤ W.heap.size) (ho : crOk P1.length P2.length k m t = false) : RCrashPost W r base u1 u2 u3 u4 D1 P1 D2 P2 k m t (.returned (.int .i64 1)) W' := by
  unfold RCrashPost crE crA crB crP
  rw [ho]
  exact ⟨u1, u2, u3, u4, by first | rfl | trivial, h.later hb, Ex.of_below hb, hb.mono hbase, .inl rfl, .inl rfl, .inl rfl, .inl rfl⟩
theorem Nw.trans {W W1 : World} {u y v : Value} (h1 : Nw W u y) (h2 : Nw W1 y v) (hs : W.heap.size ≤ W1.heap.size) : Nw W u v := by
  rcases h2 with rfl | h2
  · exact h1
  · exact .inr fun g e => Nat.le_trans hs (h2 g e)
set_option maxRecDepth 100000 in
set_option maxHeartbeats 8000000 in
theorem rCrash_c (r base : Nat) (u1 u2 u3 u4 : Value) (D1 P1 D2 P2 : List Int) (k m t : Int) (w : World) (h : StkR w r base u1 u2 u3 u4 D1 P1 D2 P2) (hl1 : (D1 ++ P1).length ≤ 16777216) (hl2 : (D2 ++ P2).length ≤ 16777216) (hbase : base ≤ w.heap.size) :
    Calls Try.prog 25 #[.pointer (some ⟨r, 0, none⟩), .int .i64 k, .int .i64 m, .int .i64 t] w fun e w' => RCrashPost w r base u1 u2 u3 u4 D1 P1 D2 P2 k m t e w' := by
  have H := Lib.hid h
  have HBASE := Lib.hid hbase
  obtain ⟨A1, c1, rfl, -⟩ := h.b1.shape
  obtain ⟨A2, c2, rfl, hc2⟩ := h.b2.shape
  obtain ⟨A3, c3, rfl, -⟩ := h.b3.shape
  obtain ⟨A4, c4, rfl, hc4⟩ := h.b4.shape
  have HBOX := Lib.hid h.box
  have HB0 := Lib.hid (Below.refl w.heap.size w)
  have HL1 := Lib.hid hl1
  have HL2 := Lib.hid hl2
  have HC2 := Lib.hid hc2
  have HC4 := Lib.hid hc4
  obtain ⟨p1, hp1⟩ : ∃ z, P1.length = z := ⟨_, rfl⟩
  obtain ⟨p2, hp2⟩ : ∃ z, P2.length = z := ⟨_, rfl⟩
  obtain ⟨d1, hd1⟩ : ∃ z, D1.length = z := ⟨_, rfl⟩
  obtain ⟨d2, hd2⟩ : ∃ z, D2.length = z := ⟨_, rfl⟩
  have HP1 := Lib.hid hp1
  have HP2 := Lib.hid hp2
  have HNO := Lib.hid (fun (W' : World) (hb : Below w.heap.size w W') (ho : crOk P1.length P2.length k m t = false) => RCrashPost.no H.out hb HBASE.out ho)
  rw [hp1, hp2, hd1, hd2] at HNO
  rw [hp1, hp2, hd1, hd2] at HBOX H
  rw [hp1] at HC2
  rw [hp2] at HC4
  rw [hd1, hd2, hp1, hp2]
  clear h hbase hl1 hl2 hp1 hp2 hd1 hd2 hc2 hc4
  by_cases q1 : inB k 0 (p1 : Int) = true
  case neg =>
    have Q1 := Lib.hid (show inB k 0 (p1 : Int) = false by simpa using q1)
    clear q1
    go_enter Try.func25, Try.ntmps25
    have q1 : w.cell? ⟨r, 0, none⟩ = some (.slice A1 d1 c1) := HBOX.out.cell 0
    have q2 : w.cell? ⟨r, 1, none⟩ = some (.slice A2 p1 c2) := HBOX.out.cell 1
    have q3 : w.cell? ⟨r, 2, none⟩ = some (.slice A3 d2 c3) := HBOX.out.cell 2
    have q4 : w.cell? ⟨r, 3, none⟩ = some (.slice A4 p2 c4) := HBOX.out.cell 3
    go_wp2_with fail
    refine (rwithin_c k 0 (p1 : Int) w).mono ?_; rintro e v5 ⟨rfl, rfl⟩
    rw [Q1.out]
    go_wp2_with fail
    go_ret
    exact HNO.out _ HB0.out (by unfold crOk; rw [Q1.out, Bool.false_and])
  by_cases q2 : inB m 0 (p2 : Int) = true
  case neg =>
    have Q1 := Lib.hid q1
    have Q2 := Lib.hid (show inB m 0 (p2 : Int) = false by simpa using q2)
    clear q1 q2
    go_enter Try.func25, Try.ntmps25
    have q6 : w.cell? ⟨r, 0, none⟩ = some (.slice A1 d1 c1) := HBOX.out.cell 0
    have q7 : w.cell? ⟨r, 1, none⟩ = some (.slice A2 p1 c2) := HBOX.out.cell 1
    have q8 : w.cell? ⟨r, 2, none⟩ = some (.slice A3 d2 c3) := HBOX.out.cell 2
    have q9 : w.cell? ⟨r, 3, none⟩ = some (.slice A4 p2 c4) := HBOX.out.cell 3
    go_wp2_with fail
    refine (rwithin_c k 0 (p1 : Int) w).mono ?_; rintro e v10 ⟨rfl, rfl⟩
    rw [Q1.out]
    go_wp2_with fail
    refine (rwithin_c m 0 (p2 : Int) w).mono ?_; rintro e v11 ⟨rfl, rfl⟩
    rw [Q2.out]
    go_wp2_with fail
    go_ret
    exact HNO.out _ HB0.out (by unfold crOk; rw [Q2.out, Bool.false_and, Bool.and_false])
  obtain ⟨kk, rfl⟩ := Int.eq_ofNat_of_zero_le (of_inB q1).1
  obtain ⟨mm, rfl⟩ := Int.eq_ofNat_of_zero_le (of_inB q2).1
  have hK : kk ≤ p1 := by have := (of_inB q1).2; omega
  have hM : mm ≤ p2 := by have := (of_inB q2).2; omega
  have HK := Lib.hid hK
  have HM := Lib.hid hM
  have Q1 := Lib.hid q1
  have Q2 := Lib.hid q2
  have b1 : kk ≤ 16777216 := by have := HL1.out; rw [List.length_append, HP1.out] at this; omega
  have b2 : mm ≤ 16777216 := by have := HL2.out; rw [List.length_append, HP2.out] at this; omega
  have w1 : IntKind.wrap .i64 ((kk : Int) + (mm : Int)) = (kk : Int) + (mm : Int) := wrapI (by omega) (by omega)
  have w2 : IntKind.wrap .i64 (8 * ((kk : Int) + (mm : Int))) = 8 * ((kk : Int) + (mm : Int)) := wrapI (by omega) (by omega)
  have w3 : IntKind.wrap .i64 (8 * ((kk : Int) + (mm : Int)) - 1) = 8 * ((kk : Int) + (mm : Int)) - 1 := wrap_id (by omega) (by omega)
  have HB1 := Lib.hid b1
  have HB2 := Lib.hid b2
  clear q1 q2 hK hM b1 b2
  by_cases q3 : inB t (-1) (8 * ((kk : Int) + (mm : Int)) - 1) = true
  case neg =>
    have Q3 := Lib.hid (show inB t (-1) (8 * ((kk : Int) + (mm : Int)) - 1) = false by simpa using q3)
    clear q3
    go_enter Try.func25, Try.ntmps25
    have q12 : w.cell? ⟨r, 0, none⟩ = some (.slice A1 d1 c1) := HBOX.out.cell 0
    have q13 : w.cell? ⟨r, 1, none⟩ = some (.slice A2 p1 c2) := HBOX.out.cell 1
    have q14 : w.cell? ⟨r, 2, none⟩ = some (.slice A3 d2 c3) := HBOX.out.cell 2
    have q15 : w.cell? ⟨r, 3, none⟩ = some (.slice A4 p2 c4) := HBOX.out.cell 3
    go_wp2_with fail
    refine (rwithin_c (kk : Int) 0 (p1 : Int) w).mono ?_; rintro e v16 ⟨rfl, rfl⟩
    rw [Q1.out]
    go_wp2_with fail
    refine (rwithin_c (mm : Int) 0 (p2 : Int) w).mono ?_; rintro e v17 ⟨rfl, rfl⟩
    rw [Q2.out]
    go_wp2_with fail
    refine (rwithin_c t (-1) (8 * ((kk : Int) + (mm : Int)) - 1) w).mono ?_; rintro e v18 ⟨rfl, rfl⟩
    rw [Q3.out]
    go_wp2_with fail
    go_ret
    exact HNO.out _ HB0.out (by unfold crOk; rw [Q3.out, Bool.and_false, Bool.and_false])
  have HT := Lib.hid (of_inB q3)
  have Q3 := Lib.hid q3
  have HOK := Lib.hid (show crOk P1.length P2.length (kk : Int) (mm : Int) t = true by unfold crOk; rw [HP1.out, HP2.out, Q1.out, Q2.out, Q3.out]; rfl)
  have s1 := run_hd A2 p1 c2 (kk : Int) kk rfl (Nat.le_trans HK.out HC2.out)
  have s2 := run_hd A4 p2 c4 (mm : Int) mm rfl (Nat.le_trans HM.out HC4.out)
  have S1 := Lib.hid s1
  have S2 := Lib.hid s2
  have hb2 := H.out.b2
  have hb4 := H.out.b4
  have HH2 := Lib.hid (hb2.hd (m := kk) (by rw [HP1.out]; exact HK.out))
  have HH4 := Lib.hid (hb4.hd (m := mm) (by rw [HP2.out]; exact HM.out))
  clear q3 s1 s2 hb2 hb4
  go_enter Try.func25, Try.ntmps25
  have q19 : w.cell? ⟨r, 0, none⟩ = some (.slice A1 d1 c1) := HBOX.out.cell 0
  have q20 : w.cell? ⟨r, 1, none⟩ = some (.slice A2 p1 c2) := HBOX.out.cell 1
  have q21 : w.cell? ⟨r, 2, none⟩ = some (.slice A3 d2 c3) := HBOX.out.cell 2
  have q22 : w.cell? ⟨r, 3, none⟩ = some (.slice A4 p2 c4) := HBOX.out.cell 3
  go_wp2_with fail
  refine (rwithin_c (kk : Int) 0 (p1 : Int) w).mono ?_; rintro e v23 ⟨rfl, rfl⟩
  rw [Q1.out]
  go_wp2_with fail
  refine (rwithin_c (mm : Int) 0 (p2 : Int) w).mono ?_; rintro e v24 ⟨rfl, rfl⟩
  rw [Q2.out]
  go_wp2_with fail
  refine (rwithin_c t (-1) (8 * ((kk : Int) + (mm : Int)) - 1) w).mono ?_; rintro e v25 ⟨rfl, rfl⟩
  rw [Q3.out]
  have s1 := S1.out
  have s2 := S2.out
  go_wp2_with fail
  have hdr34 : Below (w).heap.size (w) (w).drew := (Below.refl _ _).drew
  have lt30 := HBOX.out.lt
  have lt31 := HBOX.out.lt
  have lt32 := HBOX.out.lt
  have lt33 := HBOX.out.lt
  have hcall35 : ∀ X Y : World, (fun Wz => Wz.cell? ⟨r, 0, none⟩ = some (.slice A1 d1 c1) ∧ Wz.cell? ⟨r, 1, none⟩ = some (.slice A2 p1 c2) ∧ Wz.cell? ⟨r, 2, none⟩ = some (.slice A3 d2 c3) ∧ Wz.cell? ⟨r, 3, none⟩ = some (.slice A4 p2 c4) ∧ (w).heap.size ≤ Wz.heap.size) X → Below X.heap.size X Y → (fun Wz => Wz.cell? ⟨r, 0, none⟩ = some (.slice A1 d1 c1) ∧ Wz.cell? ⟨r, 1, none⟩ = some (.slice A2 p1 c2) ∧ Wz.cell? ⟨r, 2, none⟩ = some (.slice A3 d2 c3) ∧ Wz.cell? ⟨r, 3, none⟩ = some (.slice A4 p2 c4) ∧ (w).heap.size ≤ Wz.heap.size) Y := by
    rintro X Y ⟨z26, z27, z28, z29, xs⟩ hb
    have hb2 := Below.mono (B' := (w).heap.size) hb xs
    exact ⟨keepd z26 hb2 lt30, keepd z27 hb2 lt31, keepd z28 hb2 lt32, keepd z29 hb2 lt33, Nat.le_trans xs hb.size⟩
  have LTB39 := Lib.hid (show r < (w).heap.size from HBOX.out.lt)
  have BLE40 := Lib.hid HB0.out.size
  have hgrow38 : ∀ X Y : World, (fun Wz => Wz.cell? ⟨r, 0, none⟩ = some (.slice A1 d1 c1) ∧ Wz.cell? ⟨r, 1, none⟩ = some (.slice A2 p1 c2) ∧ Wz.cell? ⟨r, 2, none⟩ = some (.slice A3 d2 c3) ∧ Wz.cell? ⟨r, 3, none⟩ = some (.slice A4 p2 c4) ∧ (w).heap.size ≤ Wz.heap.size) X → Below (w).heap.size X Y → (fun Wz => Wz.cell? ⟨r, 0, none⟩ = some (.slice A1 d1 c1) ∧ Wz.cell? ⟨r, 1, none⟩ = some (.slice A2 p1 c2) ∧ Wz.cell? ⟨r, 2, none⟩ = some (.slice A3 d2 c3) ∧ Wz.cell? ⟨r, 3, none⟩ = some (.slice A4 p2 c4) ∧ (w).heap.size ≤ Wz.heap.size) Y := by
    rintro X Y ⟨z26, z27, z28, z29, xs⟩ hb2
    exact ⟨keepd z26 hb2 lt30, keepd z27 hb2 lt31, keepd z28 hb2 lt32, keepd z29 hb2 lt33, Nat.le_trans xs hb2.size⟩
  have hsz41 : ∀ X : World, (fun Wz => Wz.cell? ⟨r, 0, none⟩ = some (.slice A1 d1 c1) ∧ Wz.cell? ⟨r, 1, none⟩ = some (.slice A2 p1 c2) ∧ Wz.cell? ⟨r, 2, none⟩ = some (.slice A3 d2 c3) ∧ Wz.cell? ⟨r, 3, none⟩ = some (.slice A4 p2 c4) ∧ (w).heap.size ≤ Wz.heap.size) X → (w).heap.size ≤ X.heap.size := by
    rintro X ⟨_, _, _, _, xs⟩
    exact xs
  have hini36 : (fun Wz => Wz.cell? ⟨r, 0, none⟩ = some (.slice A1 d1 c1) ∧ Wz.cell? ⟨r, 1, none⟩ = some (.slice A2 p1 c2) ∧ Wz.cell? ⟨r, 2, none⟩ = some (.slice A3 d2 c3) ∧ Wz.cell? ⟨r, 3, none⟩ = some (.slice A4 p2 c4) ∧ (w).heap.size ≤ Wz.heap.size) (w).drew := ⟨keepd (HBOX.out.cell 0) hdr34 lt30, keepd (HBOX.out.cell 1) hdr34 lt31, keepd (HBOX.out.cell 2) hdr34 lt32, keepd (HBOX.out.cell 3) hdr34 lt33, Nat.le_refl _⟩
  have Hcall35 := Lib.hid hcall35
  have Hini36 := Lib.hid hini36
  have Hgrow38 := Lib.hid hgrow38
  have Hsz41 := Lib.hid hsz41
  clear hcall35 hgrow38 hsz41 hini36 lt30 lt31 lt32 lt33
  clear q19 q20 q21 q22
  refine wp_region_noPanic ?_
  refine wp_region_held_drew (S := (fun Wz => Wz.cell? ⟨r, 0, none⟩ = some (.slice A1 d1 c1) ∧ Wz.cell? ⟨r, 1, none⟩ = some (.slice A2 p1 c2) ∧ Wz.cell? ⟨r, 2, none⟩ = some (.slice A3 d2 c3) ∧ Wz.cell? ⟨r, 3, none⟩ = some (.slice A4 p2 c4) ∧ (w).heap.size ≤ Wz.heap.size)) (by kernel_rfl) Hini36.out (fun hHeld => ?_)
  obtain ⟨W42, hW43⟩ : ∃ Wzz, (w).drew = Wzz := ⟨_, rfl⟩
  rw [hW43] at hHeld hdr34 ⊢
  clear hW43
  have X44 := Lib.hid (HBOX.out.later hdr34)
  have B45 := Lib.hid (HB0.out.trans (hdr34.mono HB0.out.size))
  clear hdr34
  refine wpAnyH_take (i := 1) (oi := { dst := some 41, op := Op.move (Operand.tmp 0), type := 58, pos := "ref.go:257", after := #[], guard := none }) (v := ?vh46) rfl ?hsh46 ?hfh46 ?hrh46 ?hQh46 ?hyh46 (by assumption) ?resth46
  case hsh46 => kernel_rfl
  case hfh46 => kernel_rfl
  case hrh46 => kernel_rfl
  case hQh46 => exact fun _ _ _ h => h
  case hyh46 => (refine Or.inl ⟨by rfl, ?_⟩; intro w hSw; (try dsimp only at hSw); go_simp; try with_reducible rfl)
  try simp only [Act.put, List.setIfInBounds_toArray, List.set_cons_zero, List.set_cons_succ]
  refine wpAnyH_take (i := 2) (oi := { dst := some 42, op := Op.nilCheck (Operand.tmp 41), type := 0, pos := "ref.go:257", after := #[{ on := 1, ground := Ground.data }], guard := none }) (v := ?vh47) rfl ?hsh47 ?hfh47 ?hrh47 ?hQh47 ?hyh47 (by assumption) ?resth47
  case hsh47 => kernel_rfl
  case hfh47 => kernel_rfl
  case hrh47 => kernel_rfl
  case hQh47 => exact fun _ _ _ h => h
  case hyh47 => (refine Or.inl ⟨by rfl, ?_⟩; intro w hSw; (try dsimp only at hSw); go_simp; try with_reducible rfl)
  try simp only [Act.put, List.setIfInBounds_toArray, List.set_cons_zero, List.set_cons_succ]
  refine wpAnyH_take (i := 3) (oi := { dst := some 43, op := Op.fieldAddr 62 (Operand.tmp 42) 0, type := 0, pos := "ref.go:257", after := #[{ on := 2, ground := Ground.data }], guard := none }) (v := ?vh48) rfl ?hsh48 ?hfh48 ?hrh48 ?hQh48 ?hyh48 (by assumption) ?resth48
  case hsh48 => kernel_rfl
  case hfh48 => kernel_rfl
  case hrh48 => kernel_rfl
  case hQh48 => exact fun _ _ _ h => h
  case hyh48 => (refine Or.inl ⟨by rfl, ?_⟩; intro w hSw; (try dsimp only at hSw); go_simp; try with_reducible rfl)
  try simp only [Act.put, List.setIfInBounds_toArray, List.set_cons_zero, List.set_cons_succ]
  refine wpAnyH_take (i := 4) (oi := { dst := some 44, op := Op.fieldAddr 60 (Operand.tmp 43) 1, type := 0, pos := "ref.go:257", after := #[{ on := 3, ground := Ground.data }], guard := none }) (v := ?vh49) rfl ?hsh49 ?hfh49 ?hrh49 ?hQh49 ?hyh49 (by assumption) ?resth49
  case hsh49 => kernel_rfl
  case hfh49 => kernel_rfl
  case hrh49 => kernel_rfl
  case hQh49 => exact fun _ _ _ h => h
  case hyh49 => (refine Or.inl ⟨by rfl, ?_⟩; intro w hSw; (try dsimp only at hSw); go_simp; try with_reducible rfl)
  try simp only [Act.put, List.setIfInBounds_toArray, List.set_cons_zero, List.set_cons_succ]
  refine wpAnyH_take (i := 5) (oi := { dst := some 45, op := Op.load 31 (Operand.tmp 44), type := 31, pos := "ref.go:257", after := #[{ on := 4, ground := Ground.data }], guard := none }) (v := ?vh50) rfl ?hsh50 ?hfh50 ?hrh50 ?hQh50 ?hyh50 (by assumption) ?resth50
  case hsh50 => kernel_rfl
  case hfh50 => kernel_rfl
  case hrh50 => kernel_rfl
  case hQh50 => exact fun _ _ _ h => h
  case hyh50 => (refine Or.inl ⟨by rfl, ?_⟩; intro w hSw; (try dsimp only at hSw); go_simp; try with_reducible rfl)
  try simp only [Act.put, List.setIfInBounds_toArray, List.set_cons_zero, List.set_cons_succ]
  refine wpAnyH_take (i := 6) (oi := { dst := some 46, op := Op.move (Operand.tmp 1), type := 3, pos := "ref.go:257", after := #[], guard := none }) (v := ?vh51) rfl ?hsh51 ?hfh51 ?hrh51 ?hQh51 ?hyh51 (by assumption) ?resth51
  case hsh51 => kernel_rfl
  case hfh51 => kernel_rfl
  case hrh51 => kernel_rfl
  case hQh51 => exact fun _ _ _ h => h
  case hyh51 => (refine Or.inl ⟨by rfl, ?_⟩; intro w hSw; (try dsimp only at hSw); go_simp; try with_reducible rfl)
  try simp only [Act.put, List.setIfInBounds_toArray, List.set_cons_zero, List.set_cons_succ]
  refine wpAnyH_take (i := 7) (oi := { dst := some 47, op := Op.slice 31 (Operand.tmp 45) none (some (Operand.tmp 46)) none, type := 31, pos := "ref.go:257", after := #[{ on := 5, ground := Ground.data }, { on := 6, ground := Ground.data }], guard := none }) (v := ?vh52) rfl ?hsh52 ?hfh52 ?hrh52 ?hQh52 ?hyh52 (by assumption) ?resth52
  case hsh52 => kernel_rfl
  case hfh52 => kernel_rfl
  case hrh52 => kernel_rfl
  case hQh52 => exact fun _ _ _ h => h
  case hyh52 => (refine Or.inl ⟨by rfl, ?_⟩; intro w hSw; (try dsimp only at hSw); go_simp; try with_reducible rfl)
  try simp only [Act.put, List.setIfInBounds_toArray, List.set_cons_zero, List.set_cons_succ]
  refine wpAnyH_take (i := 9) (oi := { dst := some 49, op := Op.move (Operand.tmp 0), type := 58, pos := "ref.go:257", after := #[], guard := none }) (v := ?vh53) rfl ?hsh53 ?hfh53 ?hrh53 ?hQh53 ?hyh53 (by assumption) ?resth53
  case hsh53 => kernel_rfl
  case hfh53 => kernel_rfl
  case hrh53 => kernel_rfl
  case hQh53 => exact fun _ _ _ h => h
  case hyh53 => (refine Or.inl ⟨by rfl, ?_⟩; intro w hSw; (try dsimp only at hSw); go_simp; try with_reducible rfl)
  try simp only [Act.put, List.setIfInBounds_toArray, List.set_cons_zero, List.set_cons_succ]
  refine wpAnyH_take (i := 10) (oi := { dst := some 50, op := Op.nilCheck (Operand.tmp 49), type := 0, pos := "ref.go:257", after := #[{ on := 9, ground := Ground.data }], guard := none }) (v := ?vh54) rfl ?hsh54 ?hfh54 ?hrh54 ?hQh54 ?hyh54 (by assumption) ?resth54
  case hsh54 => kernel_rfl
  case hfh54 => kernel_rfl
  case hrh54 => kernel_rfl
  case hQh54 => exact fun _ _ _ h => h
  case hyh54 => (refine Or.inl ⟨by rfl, ?_⟩; intro w hSw; (try dsimp only at hSw); go_simp; try with_reducible rfl)
  try simp only [Act.put, List.setIfInBounds_toArray, List.set_cons_zero, List.set_cons_succ]
  refine wpAnyH_take (i := 11) (oi := { dst := some 51, op := Op.fieldAddr 62 (Operand.tmp 50) 1, type := 0, pos := "ref.go:257", after := #[{ on := 10, ground := Ground.data }], guard := none }) (v := ?vh55) rfl ?hsh55 ?hfh55 ?hrh55 ?hQh55 ?hyh55 (by assumption) ?resth55
  case hsh55 => kernel_rfl
  case hfh55 => kernel_rfl
  case hrh55 => kernel_rfl
  case hQh55 => exact fun _ _ _ h => h
  case hyh55 => (refine Or.inl ⟨by rfl, ?_⟩; intro w hSw; (try dsimp only at hSw); go_simp; try with_reducible rfl)
  try simp only [Act.put, List.setIfInBounds_toArray, List.set_cons_zero, List.set_cons_succ]
  refine wpAnyH_take (i := 12) (oi := { dst := some 52, op := Op.fieldAddr 60 (Operand.tmp 51) 1, type := 0, pos := "ref.go:257", after := #[{ on := 11, ground := Ground.data }], guard := none }) (v := ?vh56) rfl ?hsh56 ?hfh56 ?hrh56 ?hQh56 ?hyh56 (by assumption) ?resth56
  case hsh56 => kernel_rfl
  case hfh56 => kernel_rfl
  case hrh56 => kernel_rfl
  case hQh56 => exact fun _ _ _ h => h
  case hyh56 => (refine Or.inl ⟨by rfl, ?_⟩; intro w hSw; (try dsimp only at hSw); go_simp; try with_reducible rfl)
  try simp only [Act.put, List.setIfInBounds_toArray, List.set_cons_zero, List.set_cons_succ]
  refine wpAnyH_take (i := 13) (oi := { dst := some 53, op := Op.load 31 (Operand.tmp 52), type := 31, pos := "ref.go:257", after := #[{ on := 12, ground := Ground.data }], guard := none }) (v := ?vh57) rfl ?hsh57 ?hfh57 ?hrh57 ?hQh57 ?hyh57 (by assumption) ?resth57
  case hsh57 => kernel_rfl
  case hfh57 => kernel_rfl
  case hrh57 => kernel_rfl
  case hQh57 => exact fun _ _ _ h => h
  case hyh57 => (refine Or.inl ⟨by rfl, ?_⟩; intro w hSw; (try dsimp only at hSw); go_simp; try with_reducible rfl)
  try simp only [Act.put, List.setIfInBounds_toArray, List.set_cons_zero, List.set_cons_succ]
  refine wpAnyH_take (i := 14) (oi := { dst := some 54, op := Op.move (Operand.tmp 2), type := 3, pos := "ref.go:257", after := #[], guard := none }) (v := ?vh58) rfl ?hsh58 ?hfh58 ?hrh58 ?hQh58 ?hyh58 (by assumption) ?resth58
  case hsh58 => kernel_rfl
  case hfh58 => kernel_rfl
  case hrh58 => kernel_rfl
  case hQh58 => exact fun _ _ _ h => h
  case hyh58 => (refine Or.inl ⟨by rfl, ?_⟩; intro w hSw; (try dsimp only at hSw); go_simp; try with_reducible rfl)
  try simp only [Act.put, List.setIfInBounds_toArray, List.set_cons_zero, List.set_cons_succ]
  refine wpAnyH_take (i := 15) (oi := { dst := some 55, op := Op.slice 31 (Operand.tmp 53) none (some (Operand.tmp 54)) none, type := 31, pos := "ref.go:257", after := #[{ on := 13, ground := Ground.data }, { on := 14, ground := Ground.data }], guard := none }) (v := ?vh59) rfl ?hsh59 ?hfh59 ?hrh59 ?hQh59 ?hyh59 (by assumption) ?resth59
  case hsh59 => kernel_rfl
  case hfh59 => kernel_rfl
  case hrh59 => kernel_rfl
  case hQh59 => exact fun _ _ _ h => h
  case hyh59 => (refine Or.inl ⟨by rfl, ?_⟩; intro w hSw; (try dsimp only at hSw); go_simp; try with_reducible rfl)
  try simp only [Act.put, List.setIfInBounds_toArray, List.set_cons_zero, List.set_cons_succ]
  refine wpAnyH_ready (rs := [0]) (by kernel_rfl) (by simp) ?_
  refine AllReadyH.cons (o := _) (by rfl) (fun K hK => ?_) AllReadyH.nil
  go_simp
  obtain ⟨W60, hW61⟩ : ∃ Wzz, (W42.alloc (.cells #[] 5)) = Wzz := ⟨_, rfl⟩
  have sz64 := Hsz41.out _ hHeld
  have hb62 : Below (W42).heap.size (W42) W60 := by rw [← hW61]; exact (Below.refl _ _).alloc (Nat.le_refl _) _
  have R63 := Lib.hid (show W60.ownsRow (w).heap.size 5 1 (.slice (some ⟨(W42).heap.size, 0, none⟩) 0 0) ([] : List Int).length (bys []) by rw [← hW61]; exact bys_lit (W42) (w).heap.size [] sz64 (by simp))
  rw [hW61]
  have X65 := Lib.hid (X44.out.later hb62)
  have B66 := Lib.hid (B45.out.trans (hb62.mono B45.out.size))
  clear X44 B45
  refine hK.out _ _ (Hcall35.out _ _ hHeld hb62) (fun hHeld67 => ?_)
  clear hK K hHeld
  clear hb62 hW61 sz64
  have hHeld := hHeld67
  clear hHeld67
  try simp only [Act.put, List.setIfInBounds_toArray, List.set_cons_zero, List.set_cons_succ]
  refine wpAnyH_ready (rs := [8]) (by kernel_rfl) (by simp) ?_
  refine AllReadyH.cons (o := { dst := some 48, op := Op.call { callee := Callee.builtin Builtin.append, args := #[Operand.tmp 40, Operand.tmp 47], argTypes := #[31, 31] }, type := 31, pos := "ref.go:257", after := #[{ on := 0, ground := Ground.data }, { on := 7, ground := Ground.data }], guard := none }) (by rfl) (fun K hK => ?_) AllReadyH.nil
  have sz74 := Hsz41.out _ hHeld
  obtain ⟨rv68, W69, hr70, ho71, hg72, hn73⟩ := app_bytes (W60) (w).heap.size _ (.slice (some ⟨(W42).heap.size, 0, none⟩) 0 0) ([] : List Int) R63.out (.slice A2 kk c2) (P1.take kk) (HH2.out.mono B66.out B66.out.size) (by have := HB1.out; simp; omega) sz74
  refine opH_append 31 _ _ rfl rfl rfl rfl hr70 ?_
  try dsimp only
  have lo76 : ∀ k, (.slice (some ⟨(W42).heap.size, 0, none⟩) 0 0 : Value).ownBlock = some k → (w).heap.size ≤ k := fun k e => (R63.out.lt k e).1
  have hgb75 : Below (w).heap.size (W60) W69 := (Below.refl _ _).grown hg72 sz74 lo76
  have X77 := Lib.hid (X65.out.below hgb75 (by have := LTB39.out; omega))
  have B78 := Lib.hid (B66.out.trans (hgb75.mono BLE40.out))
  have R79 := Lib.hid ho71
  refine hK.out _ _ (Hgrow38.out _ _ hHeld hgb75) (fun hHeld80 => ?_)
  clear hK K hHeld
  clear sz74 hr70 ho71 hg72 hn73 lo76 hgb75
  have hHeld := hHeld80
  clear hHeld80
  try simp only [Act.put, List.setIfInBounds_toArray, List.set_cons_zero, List.set_cons_succ]
  refine wpAnyH_ready (rs := [16]) (by kernel_rfl) (by simp) ?_
  refine AllReadyH.cons (o := { dst := some 56, op := Op.call { callee := Callee.builtin Builtin.append, args := #[Operand.tmp 48, Operand.tmp 55], argTypes := #[31, 31] }, type := 31, pos := "ref.go:257", after := #[{ on := 8, ground := Ground.data }, { on := 15, ground := Ground.data }, { on := 8, ground := Ground.chain }], guard := none }) (by rfl) (fun K hK => ?_) AllReadyH.nil
  have sz87 := Hsz41.out _ hHeld
  obtain ⟨rv81, W82, hr83, ho84, hg85, hn86⟩ := app_bytes (W69) (w).heap.size _ (rv68) (([] : List Int) ++ (P1.take kk)) R79.out (.slice A4 mm c4) (P2.take mm) (HH4.out.mono B78.out B78.out.size) (by have := HB1.out; have := HB2.out; simp; omega) sz87
  refine opH_append 31 _ _ rfl rfl rfl rfl hr83 ?_
  try dsimp only
  obtain ⟨sn89, hsn90⟩ : ∃ z, ((([] : List Int) ++ (P1.take kk)) ++ (P2.take mm)).length = z := ⟨_, rfl⟩
  rw [hsn90] at ho84
  obtain ⟨sA91, sc92, rfl⟩ := own_shape ho84
  have HSN93 := Lib.hid hsn90
  clear hsn90
  have lo94 : ∀ k, (rv68 : Value).ownBlock = some k → (w).heap.size ≤ k := fun k e => (R79.out.lt k e).1
  have hgb88 : Below (w).heap.size (W69) W82 := (Below.refl _ _).grown hg85 sz87 lo94
  have X95 := Lib.hid (X77.out.below hgb88 (by have := LTB39.out; omega))
  have B96 := Lib.hid (B78.out.trans (hgb88.mono BLE40.out))
  have R97 := Lib.hid ho84
  refine hK.out _ _ (Hgrow38.out _ _ hHeld hgb88) (fun hHeld98 => ?_)
  clear hK K hHeld
  clear sz87 hr83 ho84 hg85 hn86 lo94 hgb88
  have hHeld := hHeld98
  clear hHeld98
  try simp only [Act.put, List.setIfInBounds_toArray, List.set_cons_zero, List.set_cons_succ]
  refine wpAnyH_take (i := 17) (oi := { dst := some 9, op := Op.assign (Operand.tmp 56), type := 31, pos := "ref.go:257", after := #[{ on := 16, ground := Ground.data }, { on := 16, ground := Ground.chain }, { on := 0, ground := Ground.phase }, { on := 1, ground := Ground.phase }, { on := 2, ground := Ground.phase }, { on := 3, ground := Ground.phase }, { on := 4, ground := Ground.phase }, { on := 5, ground := Ground.phase }, { on := 6, ground := Ground.phase }, { on := 7, ground := Ground.phase }, { on := 8, ground := Ground.phase }, { on := 9, ground := Ground.phase }, { on := 10, ground := Ground.phase }, { on := 11, ground := Ground.phase }, { on := 12, ground := Ground.phase }, { on := 13, ground := Ground.phase }, { on := 14, ground := Ground.phase }, { on := 15, ground := Ground.phase }, { on := 16, ground := Ground.phase }], guard := none }) (v := ?vh99) rfl ?hsh99 ?hfh99 ?hrh99 ?hQh99 ?hyh99 (by assumption) ?resth99
  case hsh99 => kernel_rfl
  case hfh99 => kernel_rfl
  case hrh99 => kernel_rfl
  case hQh99 => exact fun _ _ _ h => h
  case hyh99 => (refine Or.inl ⟨by rfl, ?_⟩; intro w hSw; (try dsimp only at hSw); go_simp; try with_reducible rfl)
  try simp only [Act.put, List.setIfInBounds_toArray, List.set_cons_zero, List.set_cons_succ]
  refine wpAnyH_done (by kernel_rfl) ?_ _
  refine NoPanic.normal ?_
  clear hHeld Hcall35 Hini36 Hgrow38 Hsz41
  have q100 : W82.cell? ⟨r, 0, none⟩ = some (.slice A1 d1 c1) := X95.out.cell 0
  have q101 : W82.cell? ⟨r, 1, none⟩ = some (.slice A2 p1 c2) := X95.out.cell 1
  have q102 : W82.cell? ⟨r, 2, none⟩ = some (.slice A3 d2 c3) := X95.out.cell 2
  have q103 : W82.cell? ⟨r, 3, none⟩ = some (.slice A4 p2 c4) := X95.out.cell 3
  clear s1 s2
  have HLL1 := Lib.hid (show D1.length ≤ 16777216 by have := HL1.out; rw [List.length_append] at this; omega)
  have HLL2 := Lib.hid (show D2.length ≤ 16777216 by have := HL2.out; rw [List.length_append] at this; omega)
  have HL0 := Lib.hid (show ((([] : List Int) ++ (P1.take kk)) ++ (P2.take mm)) = P1.take kk ++ P2.take mm by rw [List.nil_append])
  have HLN := Lib.hid (show sn89 = kk + mm by rw [← HSN93.out, HL0.out]; simp; rw [HP1.out, HP2.out]; have := HK.out; have := HM.out; omega)
  by_cases z0 : t < 0
  · have e0 : decide (0 ≤ t) = false := decide_eq_false (by omega)
    have HLEQ := Lib.hid (show crL P1 P2 kk mm t = P1.take kk ++ P2.take mm by unfold crL; rw [if_pos z0])
    obtain ⟨LL, hLL⟩ : ∃ z, P1.take kk ++ P2.take mm = z := ⟨_, rfl⟩
    have HLY := Lib.hid (show IsBy LL by rw [← hLL]; exact HH2.out.by.app HH4.out.by)
    rw [HL0.out, hLL] at R97 HSN93
    rw [hLL] at HLEQ
    clear z0 hLL
    go_wp2_with fail
    have HLB := Lib.hid (own_bys R97.out HSN93.out (by have := HSN93.out; have := HLN.out; have := HB1.out; have := HB2.out; omega) HLY.out)
    have HLF := Lib.hid (fun g9 (e : (Value.slice sA91 sn89 sc92).ownBlock = some g9) => (R97.out.lt g9 e).1)
    have HKC := Lib.hid (show kk ≤ sc92 by have := own_cap R97.out; have := HLN.out; omega)
    have HS0 := Lib.hid (H.out.later B96.out)
    have HD1 := Lib.hid HS0.out.b1
    have HD2 := Lib.hid HS0.out.b3
    have HRL := Lib.hid H.out.box.lt
    have r6 := run_hd sA91 sn89 sc92 (kk : Int) kk rfl HKC.out
    have HLH := Lib.hid (HLB.out.hd (m := kk) (by have := HSN93.out; have := HLN.out; omega))
    have HB6 := Lib.hid (Below.refl (W82).heap.size W82)
    have q104 : W82.cell? ⟨r, 0, none⟩ = some (.slice A1 d1 c1) := X95.out.cell 0
    have q105 : W82.cell? ⟨r, 1, none⟩ = some (.slice A2 p1 c2) := X95.out.cell 1
    have q106 : W82.cell? ⟨r, 2, none⟩ = some (.slice A3 d2 c3) := X95.out.cell 2
    have q107 : W82.cell? ⟨r, 3, none⟩ = some (.slice A4 p2 c4) := X95.out.cell 3
    go_wp2_with fail
    have hdr116 : Below (W82).heap.size (W82) (W82).drew := (Below.refl _ _).drew
    have lt112 := X95.out.lt
    have lt113 := X95.out.lt
    have lt114 := X95.out.lt
    have lt115 := X95.out.lt
    have hcall117 : ∀ X Y : World, (fun Wz => Wz.cell? ⟨r, 0, none⟩ = some (.slice A1 d1 c1) ∧ Wz.cell? ⟨r, 1, none⟩ = some (.slice A2 p1 c2) ∧ Wz.cell? ⟨r, 2, none⟩ = some (.slice A3 d2 c3) ∧ Wz.cell? ⟨r, 3, none⟩ = some (.slice A4 p2 c4) ∧ (W82).heap.size ≤ Wz.heap.size) X → Below X.heap.size X Y → (fun Wz => Wz.cell? ⟨r, 0, none⟩ = some (.slice A1 d1 c1) ∧ Wz.cell? ⟨r, 1, none⟩ = some (.slice A2 p1 c2) ∧ Wz.cell? ⟨r, 2, none⟩ = some (.slice A3 d2 c3) ∧ Wz.cell? ⟨r, 3, none⟩ = some (.slice A4 p2 c4) ∧ (W82).heap.size ≤ Wz.heap.size) Y := by
      rintro X Y ⟨z108, z109, z110, z111, xs⟩ hb
      have hb2 := Below.mono (B' := (W82).heap.size) hb xs
      exact ⟨keepd z108 hb2 lt112, keepd z109 hb2 lt113, keepd z110 hb2 lt114, keepd z111 hb2 lt115, Nat.le_trans xs hb.size⟩
    have LTB121 := Lib.hid (show r < (W82).heap.size from X95.out.lt)
    have BLE122 := Lib.hid HB6.out.size
    have hgrow120 : ∀ X Y : World, (fun Wz => Wz.cell? ⟨r, 0, none⟩ = some (.slice A1 d1 c1) ∧ Wz.cell? ⟨r, 1, none⟩ = some (.slice A2 p1 c2) ∧ Wz.cell? ⟨r, 2, none⟩ = some (.slice A3 d2 c3) ∧ Wz.cell? ⟨r, 3, none⟩ = some (.slice A4 p2 c4) ∧ (W82).heap.size ≤ Wz.heap.size) X → Below (W82).heap.size X Y → (fun Wz => Wz.cell? ⟨r, 0, none⟩ = some (.slice A1 d1 c1) ∧ Wz.cell? ⟨r, 1, none⟩ = some (.slice A2 p1 c2) ∧ Wz.cell? ⟨r, 2, none⟩ = some (.slice A3 d2 c3) ∧ Wz.cell? ⟨r, 3, none⟩ = some (.slice A4 p2 c4) ∧ (W82).heap.size ≤ Wz.heap.size) Y := by
      rintro X Y ⟨z108, z109, z110, z111, xs⟩ hb2
      exact ⟨keepd z108 hb2 lt112, keepd z109 hb2 lt113, keepd z110 hb2 lt114, keepd z111 hb2 lt115, Nat.le_trans xs hb2.size⟩
    have hsz123 : ∀ X : World, (fun Wz => Wz.cell? ⟨r, 0, none⟩ = some (.slice A1 d1 c1) ∧ Wz.cell? ⟨r, 1, none⟩ = some (.slice A2 p1 c2) ∧ Wz.cell? ⟨r, 2, none⟩ = some (.slice A3 d2 c3) ∧ Wz.cell? ⟨r, 3, none⟩ = some (.slice A4 p2 c4) ∧ (W82).heap.size ≤ Wz.heap.size) X → (W82).heap.size ≤ X.heap.size := by
      rintro X ⟨_, _, _, _, xs⟩
      exact xs
    have hini118 : (fun Wz => Wz.cell? ⟨r, 0, none⟩ = some (.slice A1 d1 c1) ∧ Wz.cell? ⟨r, 1, none⟩ = some (.slice A2 p1 c2) ∧ Wz.cell? ⟨r, 2, none⟩ = some (.slice A3 d2 c3) ∧ Wz.cell? ⟨r, 3, none⟩ = some (.slice A4 p2 c4) ∧ (W82).heap.size ≤ Wz.heap.size) (W82).drew := ⟨keepd (X95.out.cell 0) hdr116 lt112, keepd (X95.out.cell 1) hdr116 lt113, keepd (X95.out.cell 2) hdr116 lt114, keepd (X95.out.cell 3) hdr116 lt115, Nat.le_refl _⟩
    have Hcall117 := Lib.hid hcall117
    have Hini118 := Lib.hid hini118
    have Hgrow120 := Lib.hid hgrow120
    have Hsz123 := Lib.hid hsz123
    clear hcall117 hgrow120 hsz123 hini118 lt112 lt113 lt114 lt115
    clear q104 q105 q106 q107
    refine wp_region_noPanic ?_
    refine wp_region_but 15 (S := (fun Wz => Wz.cell? ⟨r, 0, none⟩ = some (.slice A1 d1 c1) ∧ Wz.cell? ⟨r, 1, none⟩ = some (.slice A2 p1 c2) ∧ Wz.cell? ⟨r, 2, none⟩ = some (.slice A3 d2 c3) ∧ Wz.cell? ⟨r, 3, none⟩ = some (.slice A4 p2 c4) ∧ (W82).heap.size ≤ Wz.heap.size)) (by kernel_rfl) Hini118.out (fun hHeld => ?_)
    obtain ⟨W124, hW125⟩ : ∃ Wzz, (W82).drew = Wzz := ⟨_, rfl⟩
    rw [hW125] at hHeld hdr116 ⊢
    clear hW125
    have X126 := Lib.hid (X95.out.later hdr116)
    have B127 := Lib.hid (HB6.out.trans (hdr116.mono HB6.out.size))
    clear hdr116
    refine AnyBut.take (i := 0) (oi := { dst := some 72, op := Op.move (Operand.tmp 0), type := 58, pos := "ref.go:261", after := #[], guard := none }) (v := ?vh128) rfl ?hzh128 ?hsh128 ?hfh128 ?hrh128 ?hQh128 ?hyh128 (by assumption) ?resth128
    case hsh128 => kernel_rfl
    case hzh128 => kernel_rfl
    case hfh128 => kernel_rfl
    case hrh128 => kernel_rfl
    case hQh128 => exact fun _ _ _ h => h
    case hyh128 => (refine Or.inl ⟨by rfl, ?_⟩; intro w hSw; (try dsimp only at hSw); go_simp; try with_reducible rfl)
    try simp only [Act.put, List.setIfInBounds_toArray, List.set_cons_zero, List.set_cons_succ]
    refine AnyBut.take (i := 2) (oi := { dst := some 74, op := Op.move (Operand.tmp 0), type := 58, pos := "ref.go:261", after := #[], guard := none }) (v := ?vh129) rfl ?hzh129 ?hsh129 ?hfh129 ?hrh129 ?hQh129 ?hyh129 (by assumption) ?resth129
    case hsh129 => kernel_rfl
    case hzh129 => kernel_rfl
    case hfh129 => kernel_rfl
    case hrh129 => kernel_rfl
    case hQh129 => exact fun _ _ _ h => h
    case hyh129 => (refine Or.inl ⟨by rfl, ?_⟩; intro w hSw; (try dsimp only at hSw); go_simp; try with_reducible rfl)
    try simp only [Act.put, List.setIfInBounds_toArray, List.set_cons_zero, List.set_cons_succ]
    refine AnyBut.take (i := 3) (oi := { dst := some 75, op := Op.nilCheck (Operand.tmp 74), type := 0, pos := "ref.go:261", after := #[{ on := 2, ground := Ground.data }], guard := none }) (v := ?vh130) rfl ?hzh130 ?hsh130 ?hfh130 ?hrh130 ?hQh130 ?hyh130 (by assumption) ?resth130
    case hsh130 => kernel_rfl
    case hzh130 => kernel_rfl
    case hfh130 => kernel_rfl
    case hrh130 => kernel_rfl
    case hQh130 => exact fun _ _ _ h => h
    case hyh130 => (refine Or.inl ⟨by rfl, ?_⟩; intro w hSw; (try dsimp only at hSw); go_simp; try with_reducible rfl)
    try simp only [Act.put, List.setIfInBounds_toArray, List.set_cons_zero, List.set_cons_succ]
    refine AnyBut.take (i := 4) (oi := { dst := some 76, op := Op.fieldAddr 62 (Operand.tmp 75) 0, type := 0, pos := "ref.go:261", after := #[{ on := 3, ground := Ground.data }], guard := none }) (v := ?vh131) rfl ?hzh131 ?hsh131 ?hfh131 ?hrh131 ?hQh131 ?hyh131 (by assumption) ?resth131
    case hsh131 => kernel_rfl
    case hzh131 => kernel_rfl
    case hfh131 => kernel_rfl
    case hrh131 => kernel_rfl
    case hQh131 => exact fun _ _ _ h => h
    case hyh131 => (refine Or.inl ⟨by rfl, ?_⟩; intro w hSw; (try dsimp only at hSw); go_simp; try with_reducible rfl)
    try simp only [Act.put, List.setIfInBounds_toArray, List.set_cons_zero, List.set_cons_succ]
    refine AnyBut.take (i := 5) (oi := { dst := some 77, op := Op.fieldAddr 60 (Operand.tmp 76) 0, type := 0, pos := "ref.go:261", after := #[{ on := 4, ground := Ground.data }], guard := none }) (v := ?vh132) rfl ?hzh132 ?hsh132 ?hfh132 ?hrh132 ?hQh132 ?hyh132 (by assumption) ?resth132
    case hsh132 => kernel_rfl
    case hzh132 => kernel_rfl
    case hfh132 => kernel_rfl
    case hrh132 => kernel_rfl
    case hQh132 => exact fun _ _ _ h => h
    case hyh132 => (refine Or.inl ⟨by rfl, ?_⟩; intro w hSw; (try dsimp only at hSw); go_simp; try with_reducible rfl)
    try simp only [Act.put, List.setIfInBounds_toArray, List.set_cons_zero, List.set_cons_succ]
    refine AnyBut.take (i := 6) (oi := { dst := some 78, op := Op.load 31 (Operand.tmp 77), type := 31, pos := "ref.go:261", after := #[{ on := 5, ground := Ground.data }], guard := none }) (v := ?vh133) rfl ?hzh133 ?hsh133 ?hfh133 ?hrh133 ?hQh133 ?hyh133 (by assumption) ?resth133
    case hsh133 => kernel_rfl
    case hzh133 => kernel_rfl
    case hfh133 => kernel_rfl
    case hrh133 => kernel_rfl
    case hQh133 => exact fun _ _ _ h => h
    case hyh133 => (refine Or.inl ⟨by rfl, ?_⟩; intro w hSw; (try dsimp only at hSw); go_simp; try with_reducible rfl)
    try simp only [Act.put, List.setIfInBounds_toArray, List.set_cons_zero, List.set_cons_succ]
    refine AnyBut.take (i := 8) (oi := { dst := some 80, op := Op.move (Operand.tmp 9), type := 31, pos := "ref.go:261", after := #[], guard := none }) (v := ?vh134) rfl ?hzh134 ?hsh134 ?hfh134 ?hrh134 ?hQh134 ?hyh134 (by assumption) ?resth134
    case hsh134 => kernel_rfl
    case hzh134 => kernel_rfl
    case hfh134 => kernel_rfl
    case hrh134 => kernel_rfl
    case hQh134 => exact fun _ _ _ h => h
    case hyh134 => (refine Or.inl ⟨by rfl, ?_⟩; intro w hSw; (try dsimp only at hSw); go_simp; try with_reducible rfl)
    try simp only [Act.put, List.setIfInBounds_toArray, List.set_cons_zero, List.set_cons_succ]
    refine AnyBut.take (i := 9) (oi := { dst := some 81, op := Op.move (Operand.tmp 1), type := 3, pos := "ref.go:261", after := #[], guard := none }) (v := ?vh135) rfl ?hzh135 ?hsh135 ?hfh135 ?hrh135 ?hQh135 ?hyh135 (by assumption) ?resth135
    case hsh135 => kernel_rfl
    case hzh135 => kernel_rfl
    case hfh135 => kernel_rfl
    case hrh135 => kernel_rfl
    case hQh135 => exact fun _ _ _ h => h
    case hyh135 => (refine Or.inl ⟨by rfl, ?_⟩; intro w hSw; (try dsimp only at hSw); go_simp; try with_reducible rfl)
    try simp only [Act.put, List.setIfInBounds_toArray, List.set_cons_zero, List.set_cons_succ]
    refine AnyBut.take (i := 10) (oi := { dst := some 82, op := Op.slice 31 (Operand.tmp 80) none (some (Operand.tmp 81)) none, type := 31, pos := "ref.go:261", after := #[{ on := 8, ground := Ground.data }, { on := 9, ground := Ground.data }], guard := none }) (v := ?vh136) rfl ?hzh136 ?hsh136 ?hfh136 ?hrh136 ?hQh136 ?hyh136 (by assumption) ?resth136
    case hsh136 => kernel_rfl
    case hzh136 => kernel_rfl
    case hfh136 => kernel_rfl
    case hrh136 => kernel_rfl
    case hQh136 => exact fun _ _ _ h => h
    case hyh136 => (refine Or.inl ⟨by rfl, ?_⟩; intro w hSw; (try dsimp only at hSw); go_simp; try with_reducible rfl)
    try simp only [Act.put, List.setIfInBounds_toArray, List.set_cons_zero, List.set_cons_succ]
    refine AnyBut.one (i := 1) (o := _) (by kernel_rfl) (by rfl) (by rfl) (fun K hK => ?_)
    go_simp
    obtain ⟨W137, hW138⟩ : ∃ Wzz, (W124.alloc (.cells #[] 5)) = Wzz := ⟨_, rfl⟩
    have sz141 := Hsz123.out _ hHeld
    have hb139 : Below (W124).heap.size (W124) W137 := by rw [← hW138]; exact (Below.refl _ _).alloc (Nat.le_refl _) _
    have R140 := Lib.hid (show W137.ownsRow (W82).heap.size 5 1 (.slice (some ⟨(W124).heap.size, 0, none⟩) 0 0) ([] : List Int).length (bys []) by rw [← hW138]; exact bys_lit (W124) (W82).heap.size [] sz141 (by simp))
    rw [hW138]
    have X142 := Lib.hid (X126.out.later hb139)
    have B143 := Lib.hid (B127.out.trans (hb139.mono B127.out.size))
    clear X126 B127
    refine hK.out _ _ (Hcall117.out _ _ hHeld hb139) (fun hHeld144 => ?_)
    clear hK K hHeld
    clear hb139 hW138 sz141
    have hHeld := hHeld144
    clear hHeld144
    try simp only [Act.put, List.setIfInBounds_toArray, List.set_cons_zero, List.set_cons_succ]
    refine AnyBut.one (i := 7) (o := { dst := some 79, op := Op.call { callee := Callee.builtin Builtin.append, args := #[Operand.tmp 73, Operand.tmp 78], argTypes := #[31, 31] }, type := 31, pos := "ref.go:261", after := #[{ on := 1, ground := Ground.data }, { on := 6, ground := Ground.data }], guard := none }) (by kernel_rfl) (by rfl) (by rfl) (fun K hK => ?_)
    have sz151 := Hsz123.out _ hHeld
    obtain ⟨rv145, W146, hr147, ho148, hg149, hn150⟩ := app_bytes (W137) (W82).heap.size _ (.slice (some ⟨(W124).heap.size, 0, none⟩) 0 0) ([] : List Int) R140.out (.slice A1 d1 c1) D1 (HD1.out.mono B143.out B143.out.size) (by have := HLL1.out; have := HB1.out; simp; omega) sz151
    refine opH_append 31 _ _ rfl rfl rfl rfl hr147 ?_
    try dsimp only
    have lo153 : ∀ k, (.slice (some ⟨(W124).heap.size, 0, none⟩) 0 0 : Value).ownBlock = some k → (W82).heap.size ≤ k := fun k e => (R140.out.lt k e).1
    have hgb152 : Below (W82).heap.size (W137) W146 := (Below.refl _ _).grown hg149 sz151 lo153
    have X154 := Lib.hid (X142.out.below hgb152 (by have := LTB121.out; omega))
    have B155 := Lib.hid (B143.out.trans (hgb152.mono BLE122.out))
    have R156 := Lib.hid ho148
    refine hK.out _ _ (Hgrow120.out _ _ hHeld hgb152) (fun hHeld157 => ?_)
    clear hK K hHeld
    clear sz151 hr147 ho148 hg149 hn150 lo153 hgb152
    have hHeld := hHeld157
    clear hHeld157
    try simp only [Act.put, List.setIfInBounds_toArray, List.set_cons_zero, List.set_cons_succ]
    refine AnyBut.one (i := 11) (o := { dst := some 83, op := Op.call { callee := Callee.builtin Builtin.append, args := #[Operand.tmp 79, Operand.tmp 82], argTypes := #[31, 31] }, type := 31, pos := "ref.go:261", after := #[{ on := 7, ground := Ground.data }, { on := 10, ground := Ground.data }, { on := 7, ground := Ground.chain }], guard := none }) (by kernel_rfl) (by rfl) (by rfl) (fun K hK => ?_)
    have sz164 := Hsz123.out _ hHeld
    obtain ⟨rv158, W159, hr160, ho161, hg162, hn163⟩ := app_bytes (W146) (W82).heap.size _ (rv145) (([] : List Int) ++ D1) R156.out (.slice sA91 kk sc92) (LL.take kk) (HLH.out.mono B155.out B155.out.size) (by have := HLL1.out; have := HB1.out; simp; omega) sz164
    refine opH_append 31 _ _ rfl rfl rfl rfl hr160 ?_
    try dsimp only
    obtain ⟨sn166, hsn167⟩ : ∃ z, ((([] : List Int) ++ D1) ++ (LL.take kk)).length = z := ⟨_, rfl⟩
    rw [hsn167] at ho161
    obtain ⟨sA168, sc169, rfl⟩ := own_shape ho161
    have HSN170 := Lib.hid hsn167
    clear hsn167
    have lo171 : ∀ k, (rv145 : Value).ownBlock = some k → (W82).heap.size ≤ k := fun k e => (R156.out.lt k e).1
    have hgb165 : Below (W82).heap.size (W146) W159 := (Below.refl _ _).grown hg162 sz164 lo171
    have X172 := Lib.hid (X154.out.below hgb165 (by have := LTB121.out; omega))
    have B173 := Lib.hid (B155.out.trans (hgb165.mono BLE122.out))
    have R174 := Lib.hid ho161
    refine hK.out _ _ (Hgrow120.out _ _ hHeld hgb165) (fun hHeld175 => ?_)
    clear hK K hHeld
    clear sz164 hr160 ho161 hg162 hn163 lo171 hgb165
    have hHeld := hHeld175
    clear hHeld175
    try simp only [Act.put, List.setIfInBounds_toArray, List.set_cons_zero, List.set_cons_succ]
    refine AnyBut.take (i := 12) (oi := { dst := some 84, op := Op.build 60 #[(0, Operand.tmp 83)], type := 60, pos := "ref.go:261", after := #[{ on := 11, ground := Ground.data }], guard := none }) (v := ?vh176) rfl ?hzh176 ?hsh176 ?hfh176 ?hrh176 ?hQh176 ?hyh176 (by assumption) ?resth176
    case hsh176 => kernel_rfl
    case hzh176 => kernel_rfl
    case hfh176 => kernel_rfl
    case hrh176 => kernel_rfl
    case hQh176 => exact fun _ _ _ h => h
    case hyh176 => (refine Or.inl ⟨by rfl, ?_⟩; intro w hSw; (try dsimp only at hSw); go_simp; try with_reducible rfl)
    try simp only [Act.put, List.setIfInBounds_toArray, List.set_cons_zero, List.set_cons_succ]
    refine AnyBut.one (i := 13) (o := _) (by kernel_rfl) (by rfl) (by rfl) (fun K hK => ?_)
    go_simp
    refine hK.out _ _ hHeld (fun hHeld178 => ?_)
    clear hK K hHeld
    have hHeld := hHeld178
    clear hHeld178
    try simp only [Act.put, List.setIfInBounds_toArray, List.set_cons_zero, List.set_cons_succ]
    refine AnyBut.take (i := 14) (oi := { dst := some 86, op := Op.fieldAddr 62 (Operand.tmp 85) 0, type := 0, pos := "ref.go:261", after := #[{ on := 13, ground := Ground.data }, { on := 0, ground := Ground.phase }, { on := 1, ground := Ground.phase }, { on := 2, ground := Ground.phase }, { on := 3, ground := Ground.phase }, { on := 4, ground := Ground.phase }, { on := 5, ground := Ground.phase }, { on := 6, ground := Ground.phase }, { on := 7, ground := Ground.phase }, { on := 8, ground := Ground.phase }, { on := 9, ground := Ground.phase }, { on := 10, ground := Ground.phase }, { on := 11, ground := Ground.phase }, { on := 12, ground := Ground.phase }], guard := none }) (v := ?vh179) rfl ?hzh179 ?hsh179 ?hfh179 ?hrh179 ?hQh179 ?hyh179 (by assumption) ?resth179
    case hsh179 => kernel_rfl
    case hzh179 => kernel_rfl
    case hfh179 => kernel_rfl
    case hrh179 => kernel_rfl
    case hQh179 => exact fun _ _ _ h => h
    case hyh179 => (refine Or.inl ⟨by rfl, ?_⟩; intro w hSw; (try dsimp only at hSw); go_simp; try with_reducible rfl)
    try simp only [Act.put, List.setIfInBounds_toArray, List.set_cons_zero, List.set_cons_succ]
    refine AnyBut.last (o := _) (by kernel_rfl) (by rfl) (fun K hK => ?_)
    have q180 : W159.cell? ⟨r, 0, none⟩ = some (.slice A1 d1 c1) := X172.out.cell 0
    have q181 : W159.cell? ⟨r, 1, none⟩ = some (.slice A2 p1 c2) := X172.out.cell 1
    have q182 : W159.cell? ⟨r, 2, none⟩ = some (.slice A3 d2 c3) := X172.out.cell 2
    have q183 : W159.cell? ⟨r, 3, none⟩ = some (.slice A4 p2 c4) := X172.out.cell 3
    have q184 : ∀ o, W159.frozen? ⟨r, o, none⟩ = false := fun o => X172.out.free o
    go_simp
    clear q180 q181 q182 q183 q184
    refine hK.out _ _ ?_
    clear hK K hHeld
    try simp only [Act.put, List.setIfInBounds_toArray, List.set_cons_zero, List.set_cons_succ]
    refine AnyBut.done (by kernel_rfl) ?_ _
    refine NoPanic.normal ?_
    clear Hcall117 Hini118 Hgrow120 Hsz123
    have ST6 := Lib.hid (HS0.out.upd B173.out ((Ex.set (· = r) W159 r 0 (.slice sA168 sn166 sc169) rfl).trans (Ex.set _ _ r 1 (.slice none 0 0) rfl)) ((X172.out.put 0 (.slice sA168 sn166 sc169)).put 1 (.slice none 0 0)) (.inr (NewBy.of (l := D1 ++ LL.take kk) (by have h := R174.out; rw [← HSN170.out, List.nil_append] at h; rw [← HSN170.out, List.nil_append]; exact h) (Nat.le_refl _) (by have := HLL1.out; have := HB1.out; simp; omega) (HD1.out.by.app HLH.out.by))) (.inr (NewBy.nil _ _)) (.inl ⟨rfl, rfl⟩) (.inl ⟨rfl, rfl⟩))
    have BL6 := Lib.hid (((B173.out.mono (show base ≤ (W82).heap.size from Nat.le_trans HBASE.out B96.out.size)).setCell (p := ⟨r, 0, none⟩) H.out.hr (.slice sA168 sn166 sc169)).setCell (p := ⟨r, 1, none⟩) H.out.hr (.slice none 0 0))
    obtain ⟨W7, hW7⟩ : ∃ z, ((W159).setCell ⟨r, 0, none⟩ (.slice sA168 sn166 sc169)).setCell ⟨r, 1, none⟩ (.slice none 0 0) = z := ⟨_, rfl⟩
    rw [hW7] at ST6 BL6 ⊢
    clear hW7 r6
    have HX7 := Lib.hid ST6.out.1.box
    have HD7 := Lib.hid ST6.out.1.b3
    have HL7 := Lib.hid (HLB.out.ex ST6.out.2.1 (fun g9 e => by have := HLF.out g9 e; have := HRL.out; show ¬ g9 = r; omega))
    obtain ⟨V7, r7, hV7⟩ := HL7.out.cut1 (kk : Int) kk rfl (by have := HSN93.out; have := HLN.out; omega)
    have HV7 := Lib.hid hV7
    clear hV7
    have HB7 := Lib.hid (Below.refl W7.heap.size W7)
    have q185 : W7.cell? ⟨r, 0, none⟩ = some (.slice sA168 sn166 sc169) := HX7.out.cell 0
    have q186 : W7.cell? ⟨r, 1, none⟩ = some (.slice none 0 0) := HX7.out.cell 1
    have q187 : W7.cell? ⟨r, 2, none⟩ = some (.slice A3 d2 c3) := HX7.out.cell 2
    have q188 : W7.cell? ⟨r, 3, none⟩ = some (.slice A4 p2 c4) := HX7.out.cell 3
    go_wp2_with fail
    have hdr197 : Below (W7).heap.size (W7) (W7).drew := (Below.refl _ _).drew
    have lt193 := HX7.out.lt
    have lt194 := HX7.out.lt
    have lt195 := HX7.out.lt
    have lt196 := HX7.out.lt
    have hcall198 : ∀ X Y : World, (fun Wz => Wz.cell? ⟨r, 0, none⟩ = some (.slice sA168 sn166 sc169) ∧ Wz.cell? ⟨r, 1, none⟩ = some (.slice none 0 0) ∧ Wz.cell? ⟨r, 2, none⟩ = some (.slice A3 d2 c3) ∧ Wz.cell? ⟨r, 3, none⟩ = some (.slice A4 p2 c4) ∧ (W7).heap.size ≤ Wz.heap.size) X → Below X.heap.size X Y → (fun Wz => Wz.cell? ⟨r, 0, none⟩ = some (.slice sA168 sn166 sc169) ∧ Wz.cell? ⟨r, 1, none⟩ = some (.slice none 0 0) ∧ Wz.cell? ⟨r, 2, none⟩ = some (.slice A3 d2 c3) ∧ Wz.cell? ⟨r, 3, none⟩ = some (.slice A4 p2 c4) ∧ (W7).heap.size ≤ Wz.heap.size) Y := by
      rintro X Y ⟨z189, z190, z191, z192, xs⟩ hb
      have hb2 := Below.mono (B' := (W7).heap.size) hb xs
      exact ⟨keepd z189 hb2 lt193, keepd z190 hb2 lt194, keepd z191 hb2 lt195, keepd z192 hb2 lt196, Nat.le_trans xs hb.size⟩
    have LTB202 := Lib.hid (show r < (W7).heap.size from HX7.out.lt)
    have BLE203 := Lib.hid HB7.out.size
    have hgrow201 : ∀ X Y : World, (fun Wz => Wz.cell? ⟨r, 0, none⟩ = some (.slice sA168 sn166 sc169) ∧ Wz.cell? ⟨r, 1, none⟩ = some (.slice none 0 0) ∧ Wz.cell? ⟨r, 2, none⟩ = some (.slice A3 d2 c3) ∧ Wz.cell? ⟨r, 3, none⟩ = some (.slice A4 p2 c4) ∧ (W7).heap.size ≤ Wz.heap.size) X → Below (W7).heap.size X Y → (fun Wz => Wz.cell? ⟨r, 0, none⟩ = some (.slice sA168 sn166 sc169) ∧ Wz.cell? ⟨r, 1, none⟩ = some (.slice none 0 0) ∧ Wz.cell? ⟨r, 2, none⟩ = some (.slice A3 d2 c3) ∧ Wz.cell? ⟨r, 3, none⟩ = some (.slice A4 p2 c4) ∧ (W7).heap.size ≤ Wz.heap.size) Y := by
      rintro X Y ⟨z189, z190, z191, z192, xs⟩ hb2
      exact ⟨keepd z189 hb2 lt193, keepd z190 hb2 lt194, keepd z191 hb2 lt195, keepd z192 hb2 lt196, Nat.le_trans xs hb2.size⟩
    have hsz204 : ∀ X : World, (fun Wz => Wz.cell? ⟨r, 0, none⟩ = some (.slice sA168 sn166 sc169) ∧ Wz.cell? ⟨r, 1, none⟩ = some (.slice none 0 0) ∧ Wz.cell? ⟨r, 2, none⟩ = some (.slice A3 d2 c3) ∧ Wz.cell? ⟨r, 3, none⟩ = some (.slice A4 p2 c4) ∧ (W7).heap.size ≤ Wz.heap.size) X → (W7).heap.size ≤ X.heap.size := by
      rintro X ⟨_, _, _, _, xs⟩
      exact xs
    have hini199 : (fun Wz => Wz.cell? ⟨r, 0, none⟩ = some (.slice sA168 sn166 sc169) ∧ Wz.cell? ⟨r, 1, none⟩ = some (.slice none 0 0) ∧ Wz.cell? ⟨r, 2, none⟩ = some (.slice A3 d2 c3) ∧ Wz.cell? ⟨r, 3, none⟩ = some (.slice A4 p2 c4) ∧ (W7).heap.size ≤ Wz.heap.size) (W7).drew := ⟨keepd (HX7.out.cell 0) hdr197 lt193, keepd (HX7.out.cell 1) hdr197 lt194, keepd (HX7.out.cell 2) hdr197 lt195, keepd (HX7.out.cell 3) hdr197 lt196, Nat.le_refl _⟩
    have Hcall198 := Lib.hid hcall198
    have Hini199 := Lib.hid hini199
    have Hgrow201 := Lib.hid hgrow201
    have Hsz204 := Lib.hid hsz204
    clear hcall198 hgrow201 hsz204 hini199 lt193 lt194 lt195 lt196
    clear q185 q186 q187 q188
    refine wp_region_noPanic ?_
    refine wp_region_but 15 (S := (fun Wz => Wz.cell? ⟨r, 0, none⟩ = some (.slice sA168 sn166 sc169) ∧ Wz.cell? ⟨r, 1, none⟩ = some (.slice none 0 0) ∧ Wz.cell? ⟨r, 2, none⟩ = some (.slice A3 d2 c3) ∧ Wz.cell? ⟨r, 3, none⟩ = some (.slice A4 p2 c4) ∧ (W7).heap.size ≤ Wz.heap.size)) (by kernel_rfl) Hini199.out (fun hHeld => ?_)
    obtain ⟨W205, hW206⟩ : ∃ Wzz, (W7).drew = Wzz := ⟨_, rfl⟩
    rw [hW206] at hHeld hdr197 ⊢
    clear hW206
    have X207 := Lib.hid (HX7.out.later hdr197)
    have B208 := Lib.hid (HB7.out.trans (hdr197.mono HB7.out.size))
    clear hdr197
    refine AnyBut.take (i := 0) (oi := { dst := some 87, op := Op.move (Operand.tmp 0), type := 58, pos := "ref.go:262", after := #[], guard := none }) (v := ?vh209) rfl ?hzh209 ?hsh209 ?hfh209 ?hrh209 ?hQh209 ?hyh209 (by assumption) ?resth209
    case hsh209 => kernel_rfl
    case hzh209 => kernel_rfl
    case hfh209 => kernel_rfl
    case hrh209 => kernel_rfl
    case hQh209 => exact fun _ _ _ h => h
    case hyh209 => (refine Or.inl ⟨by rfl, ?_⟩; intro w hSw; (try dsimp only at hSw); go_simp; try with_reducible rfl)
    try simp only [Act.put, List.setIfInBounds_toArray, List.set_cons_zero, List.set_cons_succ]
    refine AnyBut.take (i := 2) (oi := { dst := some 89, op := Op.move (Operand.tmp 0), type := 58, pos := "ref.go:262", after := #[], guard := none }) (v := ?vh210) rfl ?hzh210 ?hsh210 ?hfh210 ?hrh210 ?hQh210 ?hyh210 (by assumption) ?resth210
    case hsh210 => kernel_rfl
    case hzh210 => kernel_rfl
    case hfh210 => kernel_rfl
    case hrh210 => kernel_rfl
    case hQh210 => exact fun _ _ _ h => h
    case hyh210 => (refine Or.inl ⟨by rfl, ?_⟩; intro w hSw; (try dsimp only at hSw); go_simp; try with_reducible rfl)
    try simp only [Act.put, List.setIfInBounds_toArray, List.set_cons_zero, List.set_cons_succ]
    refine AnyBut.take (i := 3) (oi := { dst := some 90, op := Op.nilCheck (Operand.tmp 89), type := 0, pos := "ref.go:262", after := #[{ on := 2, ground := Ground.data }], guard := none }) (v := ?vh211) rfl ?hzh211 ?hsh211 ?hfh211 ?hrh211 ?hQh211 ?hyh211 (by assumption) ?resth211
    case hsh211 => kernel_rfl
    case hzh211 => kernel_rfl
    case hfh211 => kernel_rfl
    case hrh211 => kernel_rfl
    case hQh211 => exact fun _ _ _ h => h
    case hyh211 => (refine Or.inl ⟨by rfl, ?_⟩; intro w hSw; (try dsimp only at hSw); go_simp; try with_reducible rfl)
    try simp only [Act.put, List.setIfInBounds_toArray, List.set_cons_zero, List.set_cons_succ]
    refine AnyBut.take (i := 4) (oi := { dst := some 91, op := Op.fieldAddr 62 (Operand.tmp 90) 1, type := 0, pos := "ref.go:262", after := #[{ on := 3, ground := Ground.data }], guard := none }) (v := ?vh212) rfl ?hzh212 ?hsh212 ?hfh212 ?hrh212 ?hQh212 ?hyh212 (by assumption) ?resth212
    case hsh212 => kernel_rfl
    case hzh212 => kernel_rfl
    case hfh212 => kernel_rfl
    case hrh212 => kernel_rfl
    case hQh212 => exact fun _ _ _ h => h
    case hyh212 => (refine Or.inl ⟨by rfl, ?_⟩; intro w hSw; (try dsimp only at hSw); go_simp; try with_reducible rfl)
    try simp only [Act.put, List.setIfInBounds_toArray, List.set_cons_zero, List.set_cons_succ]
    refine AnyBut.take (i := 5) (oi := { dst := some 92, op := Op.fieldAddr 60 (Operand.tmp 91) 0, type := 0, pos := "ref.go:262", after := #[{ on := 4, ground := Ground.data }], guard := none }) (v := ?vh213) rfl ?hzh213 ?hsh213 ?hfh213 ?hrh213 ?hQh213 ?hyh213 (by assumption) ?resth213
    case hsh213 => kernel_rfl
    case hzh213 => kernel_rfl
    case hfh213 => kernel_rfl
    case hrh213 => kernel_rfl
    case hQh213 => exact fun _ _ _ h => h
    case hyh213 => (refine Or.inl ⟨by rfl, ?_⟩; intro w hSw; (try dsimp only at hSw); go_simp; try with_reducible rfl)
    try simp only [Act.put, List.setIfInBounds_toArray, List.set_cons_zero, List.set_cons_succ]
    refine AnyBut.take (i := 6) (oi := { dst := some 93, op := Op.load 31 (Operand.tmp 92), type := 31, pos := "ref.go:262", after := #[{ on := 5, ground := Ground.data }], guard := none }) (v := ?vh214) rfl ?hzh214 ?hsh214 ?hfh214 ?hrh214 ?hQh214 ?hyh214 (by assumption) ?resth214
    case hsh214 => kernel_rfl
    case hzh214 => kernel_rfl
    case hfh214 => kernel_rfl
    case hrh214 => kernel_rfl
    case hQh214 => exact fun _ _ _ h => h
    case hyh214 => (refine Or.inl ⟨by rfl, ?_⟩; intro w hSw; (try dsimp only at hSw); go_simp; try with_reducible rfl)
    try simp only [Act.put, List.setIfInBounds_toArray, List.set_cons_zero, List.set_cons_succ]
    refine AnyBut.take (i := 8) (oi := { dst := some 95, op := Op.move (Operand.tmp 9), type := 31, pos := "ref.go:262", after := #[], guard := none }) (v := ?vh215) rfl ?hzh215 ?hsh215 ?hfh215 ?hrh215 ?hQh215 ?hyh215 (by assumption) ?resth215
    case hsh215 => kernel_rfl
    case hzh215 => kernel_rfl
    case hfh215 => kernel_rfl
    case hrh215 => kernel_rfl
    case hQh215 => exact fun _ _ _ h => h
    case hyh215 => (refine Or.inl ⟨by rfl, ?_⟩; intro w hSw; (try dsimp only at hSw); go_simp; try with_reducible rfl)
    try simp only [Act.put, List.setIfInBounds_toArray, List.set_cons_zero, List.set_cons_succ]
    refine AnyBut.take (i := 9) (oi := { dst := some 96, op := Op.move (Operand.tmp 1), type := 3, pos := "ref.go:262", after := #[], guard := none }) (v := ?vh216) rfl ?hzh216 ?hsh216 ?hfh216 ?hrh216 ?hQh216 ?hyh216 (by assumption) ?resth216
    case hsh216 => kernel_rfl
    case hzh216 => kernel_rfl
    case hfh216 => kernel_rfl
    case hrh216 => kernel_rfl
    case hQh216 => exact fun _ _ _ h => h
    case hyh216 => (refine Or.inl ⟨by rfl, ?_⟩; intro w hSw; (try dsimp only at hSw); go_simp; try with_reducible rfl)
    try simp only [Act.put, List.setIfInBounds_toArray, List.set_cons_zero, List.set_cons_succ]
    refine AnyBut.take (i := 10) (oi := { dst := some 97, op := Op.slice 31 (Operand.tmp 95) (some (Operand.tmp 96)) none none, type := 31, pos := "ref.go:262", after := #[{ on := 8, ground := Ground.data }, { on := 9, ground := Ground.data }], guard := none }) (v := ?vh217) rfl ?hzh217 ?hsh217 ?hfh217 ?hrh217 ?hQh217 ?hyh217 (by assumption) ?resth217
    case hsh217 => kernel_rfl
    case hzh217 => kernel_rfl
    case hfh217 => kernel_rfl
    case hrh217 => kernel_rfl
    case hQh217 => exact fun _ _ _ h => h
    case hyh217 => (refine Or.inl ⟨by rfl, ?_⟩; intro w hSw; (try dsimp only at hSw); go_simp; try with_reducible rfl)
    try simp only [Act.put, List.setIfInBounds_toArray, List.set_cons_zero, List.set_cons_succ]
    refine AnyBut.one (i := 1) (o := _) (by kernel_rfl) (by rfl) (by rfl) (fun K hK => ?_)
    go_simp
    obtain ⟨W218, hW219⟩ : ∃ Wzz, (W205.alloc (.cells #[] 5)) = Wzz := ⟨_, rfl⟩
    have sz222 := Hsz204.out _ hHeld
    have hb220 : Below (W205).heap.size (W205) W218 := by rw [← hW219]; exact (Below.refl _ _).alloc (Nat.le_refl _) _
    have R221 := Lib.hid (show W218.ownsRow (W7).heap.size 5 1 (.slice (some ⟨(W205).heap.size, 0, none⟩) 0 0) ([] : List Int).length (bys []) by rw [← hW219]; exact bys_lit (W205) (W7).heap.size [] sz222 (by simp))
    rw [hW219]
    have X223 := Lib.hid (X207.out.later hb220)
    have B224 := Lib.hid (B208.out.trans (hb220.mono B208.out.size))
    clear X207 B208
    refine hK.out _ _ (Hcall198.out _ _ hHeld hb220) (fun hHeld225 => ?_)
    clear hK K hHeld
    clear hb220 hW219 sz222
    have hHeld := hHeld225
    clear hHeld225
    try simp only [Act.put, List.setIfInBounds_toArray, List.set_cons_zero, List.set_cons_succ]
    refine AnyBut.one (i := 7) (o := { dst := some 94, op := Op.call { callee := Callee.builtin Builtin.append, args := #[Operand.tmp 88, Operand.tmp 93], argTypes := #[31, 31] }, type := 31, pos := "ref.go:262", after := #[{ on := 1, ground := Ground.data }, { on := 6, ground := Ground.data }], guard := none }) (by kernel_rfl) (by rfl) (by rfl) (fun K hK => ?_)
    have sz232 := Hsz204.out _ hHeld
    obtain ⟨rv226, W227, hr228, ho229, hg230, hn231⟩ := app_bytes (W218) (W7).heap.size _ (.slice (some ⟨(W205).heap.size, 0, none⟩) 0 0) ([] : List Int) R221.out (.slice A3 d2 c3) D2 (HD7.out.mono B224.out B224.out.size) (by have := HLL2.out; simp; omega) sz232
    refine opH_append 31 _ _ rfl rfl rfl rfl hr228 ?_
    try dsimp only
    have lo234 : ∀ k, (.slice (some ⟨(W205).heap.size, 0, none⟩) 0 0 : Value).ownBlock = some k → (W7).heap.size ≤ k := fun k e => (R221.out.lt k e).1
    have hgb233 : Below (W7).heap.size (W218) W227 := (Below.refl _ _).grown hg230 sz232 lo234
    have X235 := Lib.hid (X223.out.below hgb233 (by have := LTB202.out; omega))
    have B236 := Lib.hid (B224.out.trans (hgb233.mono BLE203.out))
    have R237 := Lib.hid ho229
    refine hK.out _ _ (Hgrow201.out _ _ hHeld hgb233) (fun hHeld238 => ?_)
    clear hK K hHeld
    clear sz232 hr228 ho229 hg230 hn231 lo234 hgb233
    have hHeld := hHeld238
    clear hHeld238
    try simp only [Act.put, List.setIfInBounds_toArray, List.set_cons_zero, List.set_cons_succ]
    refine AnyBut.one (i := 11) (o := { dst := some 98, op := Op.call { callee := Callee.builtin Builtin.append, args := #[Operand.tmp 94, Operand.tmp 97], argTypes := #[31, 31] }, type := 31, pos := "ref.go:262", after := #[{ on := 7, ground := Ground.data }, { on := 10, ground := Ground.data }, { on := 7, ground := Ground.chain }], guard := none }) (by kernel_rfl) (by rfl) (by rfl) (fun K hK => ?_)
    have sz245 := Hsz204.out _ hHeld
    obtain ⟨rv239, W240, hr241, ho242, hg243, hn244⟩ := app_bytes (W227) (W7).heap.size _ (rv226) (([] : List Int) ++ D2) R237.out (V7) (LL.drop kk) (HV7.out.mono B236.out B236.out.size) (by have := HLL2.out; have := HLN.out; have := HSN93.out; have := HB2.out; simp; omega) sz245
    refine opH_append 31 _ _ rfl rfl rfl rfl hr241 ?_
    try dsimp only
    obtain ⟨sn247, hsn248⟩ : ∃ z, ((([] : List Int) ++ D2) ++ (LL.drop kk)).length = z := ⟨_, rfl⟩
    rw [hsn248] at ho242
    obtain ⟨sA249, sc250, rfl⟩ := own_shape ho242
    have HSN251 := Lib.hid hsn248
    clear hsn248
    have lo252 : ∀ k, (rv226 : Value).ownBlock = some k → (W7).heap.size ≤ k := fun k e => (R237.out.lt k e).1
    have hgb246 : Below (W7).heap.size (W227) W240 := (Below.refl _ _).grown hg243 sz245 lo252
    have X253 := Lib.hid (X235.out.below hgb246 (by have := LTB202.out; omega))
    have B254 := Lib.hid (B236.out.trans (hgb246.mono BLE203.out))
    have R255 := Lib.hid ho242
    refine hK.out _ _ (Hgrow201.out _ _ hHeld hgb246) (fun hHeld256 => ?_)
    clear hK K hHeld
    clear sz245 hr241 ho242 hg243 hn244 lo252 hgb246
    have hHeld := hHeld256
    clear hHeld256
    try simp only [Act.put, List.setIfInBounds_toArray, List.set_cons_zero, List.set_cons_succ]
    refine AnyBut.take (i := 12) (oi := { dst := some 99, op := Op.build 60 #[(0, Operand.tmp 98)], type := 60, pos := "ref.go:262", after := #[{ on := 11, ground := Ground.data }], guard := none }) (v := ?vh257) rfl ?hzh257 ?hsh257 ?hfh257 ?hrh257 ?hQh257 ?hyh257 (by assumption) ?resth257
    case hsh257 => kernel_rfl
    case hzh257 => kernel_rfl
    case hfh257 => kernel_rfl
    case hrh257 => kernel_rfl
    case hQh257 => exact fun _ _ _ h => h
    case hyh257 => (refine Or.inl ⟨by rfl, ?_⟩; intro w hSw; (try dsimp only at hSw); go_simp; try with_reducible rfl)
    try simp only [Act.put, List.setIfInBounds_toArray, List.set_cons_zero, List.set_cons_succ]
    refine AnyBut.one (i := 13) (o := _) (by kernel_rfl) (by rfl) (by rfl) (fun K hK => ?_)
    go_simp
    refine hK.out _ _ hHeld (fun hHeld259 => ?_)
    clear hK K hHeld
    have hHeld := hHeld259
    clear hHeld259
    try simp only [Act.put, List.setIfInBounds_toArray, List.set_cons_zero, List.set_cons_succ]
    refine AnyBut.take (i := 14) (oi := { dst := some 101, op := Op.fieldAddr 62 (Operand.tmp 100) 1, type := 0, pos := "ref.go:262", after := #[{ on := 13, ground := Ground.data }, { on := 0, ground := Ground.phase }, { on := 1, ground := Ground.phase }, { on := 2, ground := Ground.phase }, { on := 3, ground := Ground.phase }, { on := 4, ground := Ground.phase }, { on := 5, ground := Ground.phase }, { on := 6, ground := Ground.phase }, { on := 7, ground := Ground.phase }, { on := 8, ground := Ground.phase }, { on := 9, ground := Ground.phase }, { on := 10, ground := Ground.phase }, { on := 11, ground := Ground.phase }, { on := 12, ground := Ground.phase }], guard := none }) (v := ?vh260) rfl ?hzh260 ?hsh260 ?hfh260 ?hrh260 ?hQh260 ?hyh260 (by assumption) ?resth260
    case hsh260 => kernel_rfl
    case hzh260 => kernel_rfl
    case hfh260 => kernel_rfl
    case hrh260 => kernel_rfl
    case hQh260 => exact fun _ _ _ h => h
    case hyh260 => (refine Or.inl ⟨by rfl, ?_⟩; intro w hSw; (try dsimp only at hSw); go_simp; try with_reducible rfl)
    try simp only [Act.put, List.setIfInBounds_toArray, List.set_cons_zero, List.set_cons_succ]
    refine AnyBut.last (o := _) (by kernel_rfl) (by rfl) (fun K hK => ?_)
    have q261 : W240.cell? ⟨r, 0, none⟩ = some (.slice sA168 sn166 sc169) := X253.out.cell 0
    have q262 : W240.cell? ⟨r, 1, none⟩ = some (.slice none 0 0) := X253.out.cell 1
    have q263 : W240.cell? ⟨r, 2, none⟩ = some (.slice A3 d2 c3) := X253.out.cell 2
    have q264 : W240.cell? ⟨r, 3, none⟩ = some (.slice A4 p2 c4) := X253.out.cell 3
    have q265 : ∀ o, W240.frozen? ⟨r, o, none⟩ = false := fun o => X253.out.free o
    go_simp
    clear q261 q262 q263 q264 q265
    refine hK.out _ _ ?_
    clear hK K hHeld
    try simp only [Act.put, List.setIfInBounds_toArray, List.set_cons_zero, List.set_cons_succ]
    refine AnyBut.done (by kernel_rfl) ?_ _
    refine NoPanic.normal ?_
    clear Hcall198 Hini199 Hgrow201 Hsz204
    have ST8 := Lib.hid (ST6.out.1.upd B254.out ((Ex.set (· = r) W240 r 2 (.slice sA249 sn247 sc250) rfl).trans (Ex.set _ _ r 3 (.slice none 0 0) rfl)) ((X253.out.put 2 (.slice sA249 sn247 sc250)).put 3 (.slice none 0 0)) (.inl ⟨rfl, rfl⟩) (.inl ⟨rfl, rfl⟩) (.inr (NewBy.of (l := D2 ++ LL.drop kk) (by have h := R255.out; rw [← HSN251.out, List.nil_append] at h; rw [← HSN251.out, List.nil_append]; exact h) (Nat.le_refl _) (by have := HLL2.out; have := HLN.out; have := HSN93.out; have := HB2.out; simp; omega) (HD7.out.by.app HV7.out.by))) (.inr (NewBy.nil _ _)))
    have BL8 := Lib.hid (((B254.out.mono (show base ≤ W7.heap.size from Nat.le_trans (Nat.le_trans HBASE.out B96.out.size) ST6.out.2.1.1)).setCell (p := ⟨r, 2, none⟩) H.out.hr (.slice sA249 sn247 sc250)).setCell (p := ⟨r, 3, none⟩) H.out.hr (.slice none 0 0))
    obtain ⟨W9, hW9⟩ : ∃ z, ((W240).setCell ⟨r, 2, none⟩ (.slice sA249 sn247 sc250)).setCell ⟨r, 3, none⟩ (.slice none 0 0) = z := ⟨_, rfl⟩
    rw [hW9] at ST8 BL8 ⊢
    clear hW9 r7
    go_wp2_with fail
    go_ret
    unfold RCrashPost crE crA crB crP
    rw [HOK.out]
    have hs := B96.out.size
    have hs6 := ST6.out.2.1.1
    have a6 := ST6.out.2.2
    have a8 := ST8.out.2.2
    refine ⟨_, _, _, _, by first | rfl | trivial, (by simp only [Int.toNat_natCast, if_true]; rw [HLEQ.out]; exact ST8.out.1), (Ex.of_below B96.out).trans (ST6.out.2.1.trans ST8.out.2.1), (B96.out.mono HBASE.out).trans (BL6.out.trans BL8.out), ?_, ?_, ?_, ?_⟩
    · exact Nw.trans (Nw.trans (W1 := W82) (.inl rfl) a6.1 hs) a8.1 (Nat.le_trans hs hs6)
    · exact Nw.trans (Nw.trans (W1 := W82) (.inl rfl) a6.2.1 hs) a8.2.1 (Nat.le_trans hs hs6)
    · exact Nw.trans (Nw.trans (W1 := W82) (.inl rfl) a6.2.2.1 hs) a8.2.2.1 (Nat.le_trans hs hs6)
    · exact Nw.trans (Nw.trans (W1 := W82) (.inl rfl) a6.2.2.2 hs) a8.2.2.2 (Nat.le_trans hs hs6)
  obtain ⟨T, rfl⟩ := Int.eq_ofNat_of_zero_le (show 0 ≤ t by omega)
  have e0 : decide ((0 : Int) ≤ (T : Int)) = true := decide_eq_true (by omega)
  have e0' : decide (0 ≤ T) = true := rfl
  have HT8 := Lib.hid (show T < 8 * (kk + mm) by have := HT.out.2; omega)
  clear z0
  obtain ⟨L0, hL0⟩ : ∃ z, P1.take kk ++ P2.take mm = z := ⟨_, rfl⟩
  have HY0 := Lib.hid (show IsBy L0 by rw [← hL0]; exact HH2.out.by.app HH4.out.by)
  have HL0e := Lib.hid hL0
  rw [HL0.out, hL0] at R97 HSN93
  clear hL0
  obtain ⟨q, hq⟩ : ∃ z, T / 8 = z := ⟨_, rfl⟩
  obtain ⟨j, hj⟩ : ∃ z, T % 8 = z := ⟨_, rfl⟩
  have HJ8 : j < 8 := by omega
  have t0 : (T : Int) / 8 = (q : Int) := by omega
  have t1 : Int.tdiv (T : Int) 8 = (q : Int) := by rw [Int.tdiv_eq_ediv_of_nonneg (by omega), t0]
  have t3 : (T : Int) % 8 = (j : Int) := by omega
  have t2 : Int.tmod (T : Int) 8 = (j : Int) := by rw [Int.tmod_eq_emod_of_nonneg (by omega), t3]
  have hqn : q < sn89 := by have := HT8.out; have := HLN.out; omega
  have HLEQ := Lib.hid (show crL P1 P2 kk mm (T : Int) = L0.set q (bits .xor .u8 (nth L0 q) (2 ^ j)) by unfold crL inv; rw [if_neg (by omega), HL0e.out, Int.toNat_natCast, hq, hj])
  have hBIT := bit_of (j := j) (HY0.out q).1 (HY0.out q).2 HJ8
  have HBIT := Lib.hid hBIT
  have hb1 := HB1.out
  have hb2 := HB2.out
  have ht8 := HT8.out
  have t4 : IntKind.wrap .i64 (q : Int) = (q : Int) := wrapI (by omega) (by omega)
  have t6 : wrap64 (q : Int) = (q : Int) := wrap64_id (by omega) (by omega)
  have i2 : (0 : Int) ≤ (q : Int) := Int.natCast_nonneg _
  have i3 : ((q : Int)).toNat = q := rfl
  have i1 : (q : Int) < (sn89 : Int) := Int.ofNat_lt.2 hqn
  have s5 : (2 : Int) ^ j % 256 = 2 ^ j := pow_mod HJ8
  clear hq hj t0 t3 hb1 hb2 ht8 hBIT
  have HQN := Lib.hid hqn
  have hrow := R97.out
  obtain ⟨g, rfl⟩ := own_addr hrow (Nat.lt_of_le_of_lt (Nat.zero_le q) hqn)
  obtain ⟨Wd, hWd⟩ : ∃ z, (W82).drew = z := ⟨_, rfl⟩
  have hrowd : Wd.ownsRow w.heap.size 5 1 (.slice (some ⟨g, 0, none⟩) sn89 sc92) sn89 (bys L0) := by rw [← hWd]; exact own_later hrow (below_drew _)
  have hx : Wd.cell? ⟨g, q, none⟩ = some (.int .u8 (nth L0 q)) := by
    rw [hrowd.cellAt q (by rw [Nat.mul_one]; exact HQN.out)]
    exact bys_at _ _ (by rw [HSN93.out]; exact HQN.out)
  have hfz : ∀ o, Wd.frozen? ⟨g, o, none⟩ = false := fun o => hrowd.frozenAt o
  have hst := hrowd.stored q (.int .u8 (bits .xor .u8 (nth L0 q) (2 ^ j)))
  obtain ⟨y, hy⟩ : ∃ z, bits .xor .u8 (nth L0 q) (2 ^ j) = z := ⟨_, rfl⟩
  have HYY := Lib.hid hy
  rw [hy] at hst HLEQ HBIT
  have eset : bys (L0.set q y) = (bys L0).set q (.int .u8 y) := by unfold bys; rw [List.map_set]
  have hR5 : (Wd.setCell ⟨g, q, none⟩ (.int .u8 y)).ownsRow w.heap.size 5 1 (.slice (some ⟨g, 0, none⟩) sn89 sc92) sn89 (bys (L0.set q y)) := by rw [eset]; exact hst.1
  have hgs : w.heap.size ≤ g := (hrowd.lt g rfl).1
  have hgr : r ≠ g := by have := H.out.box.lt; omega
  have hX5 : Box (Wd.setCell ⟨g, q, none⟩ (.int .u8 y)) r 62 #[.slice A1 d1 c1, .slice A2 p1 c2, .slice A3 d2 c3, .slice A4 p2 c4] := Box.far (p := ⟨g, q, none⟩) (by rw [← hWd]; exact X95.out.later (below_drew _)) hgr _
  have hB5 : Below w.heap.size w (Wd.setCell ⟨g, q, none⟩ (.int .u8 y)) := Below.setCell (p := ⟨g, q, none⟩) (by rw [← hWd]; exact B96.out.drew) hgs _
  have hY5 : IsBy (L0.set q y) := fun k => by rw [nth_set]; split; exact HBIT.out.2; exact HY0.out k
  have R5 := Lib.hid hR5
  have X5 := Lib.hid hX5
  have B5 := Lib.hid hB5
  have HS5 := Lib.hid (show (L0.set q y).length = sn89 by rw [List.length_set]; exact HSN93.out)
  obtain ⟨LL, hLL⟩ : ∃ z, L0.set q y = z := ⟨_, rfl⟩
  have HLY := Lib.hid hY5
  rw [hLL] at R5 HS5 HLY HLEQ
  have HXd := Lib.hid hx
  have HFd := Lib.hid hfz
  have T1 := Lib.hid t1
  have T2 := Lib.hid t2
  clear hrow hrowd hx hfz hst hy eset hR5 hgs hgr hX5 hB5 hY5 hLL hqn t1 t2
  iterate 40 (first | (with_reducible show Code.wp _ (Code.region 5 _ _) _ _ _) | go_values | go_skip | go_guarded | go_step | go_upon | go_back | (simp only [Int.not_lt, Int.not_le] at *; go_simp) | go_simp)
  have hx := HXd.out
  have hfz := HFd.out
  have t1 := T1.out
  have t2 := T2.out
  have hyy := HYY.out
  refine still_tail 12 Wd hWd (by kernel_rfl) (by kernel_rfl) ?_
  clear hWd
  simp only [List.take_succ_cons, List.take_zero, List.drop_succ_cons, List.drop_zero]
  repeat still_step
  refine wpStill_nil ?_
  go_wp2_with fail
  clear hx hfz t1 t2 t4 t6 i1 i2 i3 s5 hyy
  obtain ⟨W5, hW5⟩ : ∃ z, Wd.setCell ⟨g, q, none⟩ (.int .u8 y) = z := ⟨_, rfl⟩
  try rw [HYY.out]
  rw [hW5] at R5 X5 B5 ⊢
  clear hW5 HXd HFd
  have HLB := Lib.hid (own_bys R5.out HS5.out (by have := HS5.out; have := HLN.out; have := HB1.out; have := HB2.out; omega) HLY.out)
  have HLF := Lib.hid (fun g9 (e : (Value.slice (some ⟨g, 0, none⟩) sn89 sc92).ownBlock = some g9) => (R5.out.lt g9 e).1)
  have HKC := Lib.hid (show kk ≤ sc92 by have := own_cap R5.out; have := HLN.out; omega)
  have HS0 := Lib.hid (H.out.later B5.out)
  have HD1 := Lib.hid HS0.out.b1
  have HD2 := Lib.hid HS0.out.b3
  have HRL := Lib.hid H.out.box.lt
  have r6 := run_hd (some ⟨g, 0, none⟩) sn89 sc92 (kk : Int) kk rfl HKC.out
  have HLH := Lib.hid (HLB.out.hd (m := kk) (by have := HS5.out; have := HLN.out; omega))
  have HB6 := Lib.hid (Below.refl (W5).heap.size W5)
  have q266 : W5.cell? ⟨r, 0, none⟩ = some (.slice A1 d1 c1) := X5.out.cell 0
  have q267 : W5.cell? ⟨r, 1, none⟩ = some (.slice A2 p1 c2) := X5.out.cell 1
  have q268 : W5.cell? ⟨r, 2, none⟩ = some (.slice A3 d2 c3) := X5.out.cell 2
  have q269 : W5.cell? ⟨r, 3, none⟩ = some (.slice A4 p2 c4) := X5.out.cell 3
  go_wp2_with fail
  have hdr278 : Below (W5).heap.size (W5) (W5).drew := (Below.refl _ _).drew
  have lt274 := X5.out.lt
  have lt275 := X5.out.lt
  have lt276 := X5.out.lt
  have lt277 := X5.out.lt
  have hcall279 : ∀ X Y : World, (fun Wz => Wz.cell? ⟨r, 0, none⟩ = some (.slice A1 d1 c1) ∧ Wz.cell? ⟨r, 1, none⟩ = some (.slice A2 p1 c2) ∧ Wz.cell? ⟨r, 2, none⟩ = some (.slice A3 d2 c3) ∧ Wz.cell? ⟨r, 3, none⟩ = some (.slice A4 p2 c4) ∧ (W5).heap.size ≤ Wz.heap.size) X → Below X.heap.size X Y → (fun Wz => Wz.cell? ⟨r, 0, none⟩ = some (.slice A1 d1 c1) ∧ Wz.cell? ⟨r, 1, none⟩ = some (.slice A2 p1 c2) ∧ Wz.cell? ⟨r, 2, none⟩ = some (.slice A3 d2 c3) ∧ Wz.cell? ⟨r, 3, none⟩ = some (.slice A4 p2 c4) ∧ (W5).heap.size ≤ Wz.heap.size) Y := by
    rintro X Y ⟨z270, z271, z272, z273, xs⟩ hb
    have hb2 := Below.mono (B' := (W5).heap.size) hb xs
    exact ⟨keepd z270 hb2 lt274, keepd z271 hb2 lt275, keepd z272 hb2 lt276, keepd z273 hb2 lt277, Nat.le_trans xs hb.size⟩
  have LTB283 := Lib.hid (show r < (W5).heap.size from X5.out.lt)
  have BLE284 := Lib.hid HB6.out.size
  have hgrow282 : ∀ X Y : World, (fun Wz => Wz.cell? ⟨r, 0, none⟩ = some (.slice A1 d1 c1) ∧ Wz.cell? ⟨r, 1, none⟩ = some (.slice A2 p1 c2) ∧ Wz.cell? ⟨r, 2, none⟩ = some (.slice A3 d2 c3) ∧ Wz.cell? ⟨r, 3, none⟩ = some (.slice A4 p2 c4) ∧ (W5).heap.size ≤ Wz.heap.size) X → Below (W5).heap.size X Y → (fun Wz => Wz.cell? ⟨r, 0, none⟩ = some (.slice A1 d1 c1) ∧ Wz.cell? ⟨r, 1, none⟩ = some (.slice A2 p1 c2) ∧ Wz.cell? ⟨r, 2, none⟩ = some (.slice A3 d2 c3) ∧ Wz.cell? ⟨r, 3, none⟩ = some (.slice A4 p2 c4) ∧ (W5).heap.size ≤ Wz.heap.size) Y := by
    rintro X Y ⟨z270, z271, z272, z273, xs⟩ hb2
    exact ⟨keepd z270 hb2 lt274, keepd z271 hb2 lt275, keepd z272 hb2 lt276, keepd z273 hb2 lt277, Nat.le_trans xs hb2.size⟩
  have hsz285 : ∀ X : World, (fun Wz => Wz.cell? ⟨r, 0, none⟩ = some (.slice A1 d1 c1) ∧ Wz.cell? ⟨r, 1, none⟩ = some (.slice A2 p1 c2) ∧ Wz.cell? ⟨r, 2, none⟩ = some (.slice A3 d2 c3) ∧ Wz.cell? ⟨r, 3, none⟩ = some (.slice A4 p2 c4) ∧ (W5).heap.size ≤ Wz.heap.size) X → (W5).heap.size ≤ X.heap.size := by
    rintro X ⟨_, _, _, _, xs⟩
    exact xs
  have hini280 : (fun Wz => Wz.cell? ⟨r, 0, none⟩ = some (.slice A1 d1 c1) ∧ Wz.cell? ⟨r, 1, none⟩ = some (.slice A2 p1 c2) ∧ Wz.cell? ⟨r, 2, none⟩ = some (.slice A3 d2 c3) ∧ Wz.cell? ⟨r, 3, none⟩ = some (.slice A4 p2 c4) ∧ (W5).heap.size ≤ Wz.heap.size) (W5).drew := ⟨keepd (X5.out.cell 0) hdr278 lt274, keepd (X5.out.cell 1) hdr278 lt275, keepd (X5.out.cell 2) hdr278 lt276, keepd (X5.out.cell 3) hdr278 lt277, Nat.le_refl _⟩
  have Hcall279 := Lib.hid hcall279
  have Hini280 := Lib.hid hini280
  have Hgrow282 := Lib.hid hgrow282
  have Hsz285 := Lib.hid hsz285
  clear hcall279 hgrow282 hsz285 hini280 lt274 lt275 lt276 lt277
  clear q266 q267 q268 q269
  refine wp_region_noPanic ?_
  refine wp_region_but 15 (S := (fun Wz => Wz.cell? ⟨r, 0, none⟩ = some (.slice A1 d1 c1) ∧ Wz.cell? ⟨r, 1, none⟩ = some (.slice A2 p1 c2) ∧ Wz.cell? ⟨r, 2, none⟩ = some (.slice A3 d2 c3) ∧ Wz.cell? ⟨r, 3, none⟩ = some (.slice A4 p2 c4) ∧ (W5).heap.size ≤ Wz.heap.size)) (by kernel_rfl) Hini280.out (fun hHeld => ?_)
  obtain ⟨W286, hW287⟩ : ∃ Wzz, (W5).drew = Wzz := ⟨_, rfl⟩
  rw [hW287] at hHeld hdr278 ⊢
  clear hW287
  have X288 := Lib.hid (X5.out.later hdr278)
  have B289 := Lib.hid (HB6.out.trans (hdr278.mono HB6.out.size))
  clear hdr278
  refine AnyBut.take (i := 0) (oi := { dst := some 72, op := Op.move (Operand.tmp 0), type := 58, pos := "ref.go:261", after := #[], guard := none }) (v := ?vh290) rfl ?hzh290 ?hsh290 ?hfh290 ?hrh290 ?hQh290 ?hyh290 (by assumption) ?resth290
  case hsh290 => kernel_rfl
  case hzh290 => kernel_rfl
  case hfh290 => kernel_rfl
  case hrh290 => kernel_rfl
  case hQh290 => exact fun _ _ _ h => h
  case hyh290 => (refine Or.inl ⟨by rfl, ?_⟩; intro w hSw; (try dsimp only at hSw); go_simp; try with_reducible rfl)
  try simp only [Act.put, List.setIfInBounds_toArray, List.set_cons_zero, List.set_cons_succ]
  refine AnyBut.take (i := 2) (oi := { dst := some 74, op := Op.move (Operand.tmp 0), type := 58, pos := "ref.go:261", after := #[], guard := none }) (v := ?vh291) rfl ?hzh291 ?hsh291 ?hfh291 ?hrh291 ?hQh291 ?hyh291 (by assumption) ?resth291
  case hsh291 => kernel_rfl
  case hzh291 => kernel_rfl
  case hfh291 => kernel_rfl
  case hrh291 => kernel_rfl
  case hQh291 => exact fun _ _ _ h => h
  case hyh291 => (refine Or.inl ⟨by rfl, ?_⟩; intro w hSw; (try dsimp only at hSw); go_simp; try with_reducible rfl)
  try simp only [Act.put, List.setIfInBounds_toArray, List.set_cons_zero, List.set_cons_succ]
  refine AnyBut.take (i := 3) (oi := { dst := some 75, op := Op.nilCheck (Operand.tmp 74), type := 0, pos := "ref.go:261", after := #[{ on := 2, ground := Ground.data }], guard := none }) (v := ?vh292) rfl ?hzh292 ?hsh292 ?hfh292 ?hrh292 ?hQh292 ?hyh292 (by assumption) ?resth292
  case hsh292 => kernel_rfl
  case hzh292 => kernel_rfl
  case hfh292 => kernel_rfl
  case hrh292 => kernel_rfl
  case hQh292 => exact fun _ _ _ h => h
  case hyh292 => (refine Or.inl ⟨by rfl, ?_⟩; intro w hSw; (try dsimp only at hSw); go_simp; try with_reducible rfl)
  try simp only [Act.put, List.setIfInBounds_toArray, List.set_cons_zero, List.set_cons_succ]
  refine AnyBut.take (i := 4) (oi := { dst := some 76, op := Op.fieldAddr 62 (Operand.tmp 75) 0, type := 0, pos := "ref.go:261", after := #[{ on := 3, ground := Ground.data }], guard := none }) (v := ?vh293) rfl ?hzh293 ?hsh293 ?hfh293 ?hrh293 ?hQh293 ?hyh293 (by assumption) ?resth293
  case hsh293 => kernel_rfl
  case hzh293 => kernel_rfl
  case hfh293 => kernel_rfl
  case hrh293 => kernel_rfl
  case hQh293 => exact fun _ _ _ h => h
  case hyh293 => (refine Or.inl ⟨by rfl, ?_⟩; intro w hSw; (try dsimp only at hSw); go_simp; try with_reducible rfl)
  try simp only [Act.put, List.setIfInBounds_toArray, List.set_cons_zero, List.set_cons_succ]
  refine AnyBut.take (i := 5) (oi := { dst := some 77, op := Op.fieldAddr 60 (Operand.tmp 76) 0, type := 0, pos := "ref.go:261", after := #[{ on := 4, ground := Ground.data }], guard := none }) (v := ?vh294) rfl ?hzh294 ?hsh294 ?hfh294 ?hrh294 ?hQh294 ?hyh294 (by assumption) ?resth294
  case hsh294 => kernel_rfl
  case hzh294 => kernel_rfl
  case hfh294 => kernel_rfl
  case hrh294 => kernel_rfl
  case hQh294 => exact fun _ _ _ h => h
  case hyh294 => (refine Or.inl ⟨by rfl, ?_⟩; intro w hSw; (try dsimp only at hSw); go_simp; try with_reducible rfl)
  try simp only [Act.put, List.setIfInBounds_toArray, List.set_cons_zero, List.set_cons_succ]
  refine AnyBut.take (i := 6) (oi := { dst := some 78, op := Op.load 31 (Operand.tmp 77), type := 31, pos := "ref.go:261", after := #[{ on := 5, ground := Ground.data }], guard := none }) (v := ?vh295) rfl ?hzh295 ?hsh295 ?hfh295 ?hrh295 ?hQh295 ?hyh295 (by assumption) ?resth295
  case hsh295 => kernel_rfl
  case hzh295 => kernel_rfl
  case hfh295 => kernel_rfl
  case hrh295 => kernel_rfl
  case hQh295 => exact fun _ _ _ h => h
  case hyh295 => (refine Or.inl ⟨by rfl, ?_⟩; intro w hSw; (try dsimp only at hSw); go_simp; try with_reducible rfl)
  try simp only [Act.put, List.setIfInBounds_toArray, List.set_cons_zero, List.set_cons_succ]
  refine AnyBut.take (i := 8) (oi := { dst := some 80, op := Op.move (Operand.tmp 9), type := 31, pos := "ref.go:261", after := #[], guard := none }) (v := ?vh296) rfl ?hzh296 ?hsh296 ?hfh296 ?hrh296 ?hQh296 ?hyh296 (by assumption) ?resth296
  case hsh296 => kernel_rfl
  case hzh296 => kernel_rfl
  case hfh296 => kernel_rfl
  case hrh296 => kernel_rfl
  case hQh296 => exact fun _ _ _ h => h
  case hyh296 => (refine Or.inl ⟨by rfl, ?_⟩; intro w hSw; (try dsimp only at hSw); go_simp; try with_reducible rfl)
  try simp only [Act.put, List.setIfInBounds_toArray, List.set_cons_zero, List.set_cons_succ]
  refine AnyBut.take (i := 9) (oi := { dst := some 81, op := Op.move (Operand.tmp 1), type := 3, pos := "ref.go:261", after := #[], guard := none }) (v := ?vh297) rfl ?hzh297 ?hsh297 ?hfh297 ?hrh297 ?hQh297 ?hyh297 (by assumption) ?resth297
  case hsh297 => kernel_rfl
  case hzh297 => kernel_rfl
  case hfh297 => kernel_rfl
  case hrh297 => kernel_rfl
  case hQh297 => exact fun _ _ _ h => h
  case hyh297 => (refine Or.inl ⟨by rfl, ?_⟩; intro w hSw; (try dsimp only at hSw); go_simp; try with_reducible rfl)
  try simp only [Act.put, List.setIfInBounds_toArray, List.set_cons_zero, List.set_cons_succ]
  refine AnyBut.take (i := 10) (oi := { dst := some 82, op := Op.slice 31 (Operand.tmp 80) none (some (Operand.tmp 81)) none, type := 31, pos := "ref.go:261", after := #[{ on := 8, ground := Ground.data }, { on := 9, ground := Ground.data }], guard := none }) (v := ?vh298) rfl ?hzh298 ?hsh298 ?hfh298 ?hrh298 ?hQh298 ?hyh298 (by assumption) ?resth298
  case hsh298 => kernel_rfl
  case hzh298 => kernel_rfl
  case hfh298 => kernel_rfl
  case hrh298 => kernel_rfl
  case hQh298 => exact fun _ _ _ h => h
  case hyh298 => (refine Or.inl ⟨by rfl, ?_⟩; intro w hSw; (try dsimp only at hSw); go_simp; try with_reducible rfl)
  try simp only [Act.put, List.setIfInBounds_toArray, List.set_cons_zero, List.set_cons_succ]
  refine AnyBut.one (i := 1) (o := _) (by kernel_rfl) (by rfl) (by rfl) (fun K hK => ?_)
  go_simp
  obtain ⟨W299, hW300⟩ : ∃ Wzz, (W286.alloc (.cells #[] 5)) = Wzz := ⟨_, rfl⟩
  have sz303 := Hsz285.out _ hHeld
  have hb301 : Below (W286).heap.size (W286) W299 := by rw [← hW300]; exact (Below.refl _ _).alloc (Nat.le_refl _) _
  have R302 := Lib.hid (show W299.ownsRow (W5).heap.size 5 1 (.slice (some ⟨(W286).heap.size, 0, none⟩) 0 0) ([] : List Int).length (bys []) by rw [← hW300]; exact bys_lit (W286) (W5).heap.size [] sz303 (by simp))
  rw [hW300]
  have X304 := Lib.hid (X288.out.later hb301)
  have B305 := Lib.hid (B289.out.trans (hb301.mono B289.out.size))
  clear X288 B289
  refine hK.out _ _ (Hcall279.out _ _ hHeld hb301) (fun hHeld306 => ?_)
  clear hK K hHeld
  clear hb301 hW300 sz303
  have hHeld := hHeld306
  clear hHeld306
  try simp only [Act.put, List.setIfInBounds_toArray, List.set_cons_zero, List.set_cons_succ]
  refine AnyBut.one (i := 7) (o := { dst := some 79, op := Op.call { callee := Callee.builtin Builtin.append, args := #[Operand.tmp 73, Operand.tmp 78], argTypes := #[31, 31] }, type := 31, pos := "ref.go:261", after := #[{ on := 1, ground := Ground.data }, { on := 6, ground := Ground.data }], guard := none }) (by kernel_rfl) (by rfl) (by rfl) (fun K hK => ?_)
  have sz313 := Hsz285.out _ hHeld
  obtain ⟨rv307, W308, hr309, ho310, hg311, hn312⟩ := app_bytes (W299) (W5).heap.size _ (.slice (some ⟨(W286).heap.size, 0, none⟩) 0 0) ([] : List Int) R302.out (.slice A1 d1 c1) D1 (HD1.out.mono B305.out B305.out.size) (by have := HLL1.out; have := HB1.out; simp; omega) sz313
  refine opH_append 31 _ _ rfl rfl rfl rfl hr309 ?_
  try dsimp only
  have lo315 : ∀ k, (.slice (some ⟨(W286).heap.size, 0, none⟩) 0 0 : Value).ownBlock = some k → (W5).heap.size ≤ k := fun k e => (R302.out.lt k e).1
  have hgb314 : Below (W5).heap.size (W299) W308 := (Below.refl _ _).grown hg311 sz313 lo315
  have X316 := Lib.hid (X304.out.below hgb314 (by have := LTB283.out; omega))
  have B317 := Lib.hid (B305.out.trans (hgb314.mono BLE284.out))
  have R318 := Lib.hid ho310
  refine hK.out _ _ (Hgrow282.out _ _ hHeld hgb314) (fun hHeld319 => ?_)
  clear hK K hHeld
  clear sz313 hr309 ho310 hg311 hn312 lo315 hgb314
  have hHeld := hHeld319
  clear hHeld319
  try simp only [Act.put, List.setIfInBounds_toArray, List.set_cons_zero, List.set_cons_succ]
  refine AnyBut.one (i := 11) (o := { dst := some 83, op := Op.call { callee := Callee.builtin Builtin.append, args := #[Operand.tmp 79, Operand.tmp 82], argTypes := #[31, 31] }, type := 31, pos := "ref.go:261", after := #[{ on := 7, ground := Ground.data }, { on := 10, ground := Ground.data }, { on := 7, ground := Ground.chain }], guard := none }) (by kernel_rfl) (by rfl) (by rfl) (fun K hK => ?_)
  have sz326 := Hsz285.out _ hHeld
  obtain ⟨rv320, W321, hr322, ho323, hg324, hn325⟩ := app_bytes (W308) (W5).heap.size _ (rv307) (([] : List Int) ++ D1) R318.out (.slice (some ⟨g, 0, none⟩) kk sc92) (LL.take kk) (HLH.out.mono B317.out B317.out.size) (by have := HLL1.out; have := HB1.out; simp; omega) sz326
  refine opH_append 31 _ _ rfl rfl rfl rfl hr322 ?_
  try dsimp only
  obtain ⟨sn328, hsn329⟩ : ∃ z, ((([] : List Int) ++ D1) ++ (LL.take kk)).length = z := ⟨_, rfl⟩
  rw [hsn329] at ho323
  obtain ⟨sA330, sc331, rfl⟩ := own_shape ho323
  have HSN332 := Lib.hid hsn329
  clear hsn329
  have lo333 : ∀ k, (rv307 : Value).ownBlock = some k → (W5).heap.size ≤ k := fun k e => (R318.out.lt k e).1
  have hgb327 : Below (W5).heap.size (W308) W321 := (Below.refl _ _).grown hg324 sz326 lo333
  have X334 := Lib.hid (X316.out.below hgb327 (by have := LTB283.out; omega))
  have B335 := Lib.hid (B317.out.trans (hgb327.mono BLE284.out))
  have R336 := Lib.hid ho323
  refine hK.out _ _ (Hgrow282.out _ _ hHeld hgb327) (fun hHeld337 => ?_)
  clear hK K hHeld
  clear sz326 hr322 ho323 hg324 hn325 lo333 hgb327
  have hHeld := hHeld337
  clear hHeld337
  try simp only [Act.put, List.setIfInBounds_toArray, List.set_cons_zero, List.set_cons_succ]
  refine AnyBut.take (i := 12) (oi := { dst := some 84, op := Op.build 60 #[(0, Operand.tmp 83)], type := 60, pos := "ref.go:261", after := #[{ on := 11, ground := Ground.data }], guard := none }) (v := ?vh338) rfl ?hzh338 ?hsh338 ?hfh338 ?hrh338 ?hQh338 ?hyh338 (by assumption) ?resth338
  case hsh338 => kernel_rfl
  case hzh338 => kernel_rfl
  case hfh338 => kernel_rfl
  case hrh338 => kernel_rfl
  case hQh338 => exact fun _ _ _ h => h
  case hyh338 => (refine Or.inl ⟨by rfl, ?_⟩; intro w hSw; (try dsimp only at hSw); go_simp; try with_reducible rfl)
  try simp only [Act.put, List.setIfInBounds_toArray, List.set_cons_zero, List.set_cons_succ]
  refine AnyBut.one (i := 13) (o := _) (by kernel_rfl) (by rfl) (by rfl) (fun K hK => ?_)
  go_simp
  refine hK.out _ _ hHeld (fun hHeld340 => ?_)
  clear hK K hHeld
  have hHeld := hHeld340
  clear hHeld340
  try simp only [Act.put, List.setIfInBounds_toArray, List.set_cons_zero, List.set_cons_succ]
  refine AnyBut.take (i := 14) (oi := { dst := some 86, op := Op.fieldAddr 62 (Operand.tmp 85) 0, type := 0, pos := "ref.go:261", after := #[{ on := 13, ground := Ground.data }, { on := 0, ground := Ground.phase }, { on := 1, ground := Ground.phase }, { on := 2, ground := Ground.phase }, { on := 3, ground := Ground.phase }, { on := 4, ground := Ground.phase }, { on := 5, ground := Ground.phase }, { on := 6, ground := Ground.phase }, { on := 7, ground := Ground.phase }, { on := 8, ground := Ground.phase }, { on := 9, ground := Ground.phase }, { on := 10, ground := Ground.phase }, { on := 11, ground := Ground.phase }, { on := 12, ground := Ground.phase }], guard := none }) (v := ?vh341) rfl ?hzh341 ?hsh341 ?hfh341 ?hrh341 ?hQh341 ?hyh341 (by assumption) ?resth341
  case hsh341 => kernel_rfl
  case hzh341 => kernel_rfl
  case hfh341 => kernel_rfl
  case hrh341 => kernel_rfl
  case hQh341 => exact fun _ _ _ h => h
  case hyh341 => (refine Or.inl ⟨by rfl, ?_⟩; intro w hSw; (try dsimp only at hSw); go_simp; try with_reducible rfl)
  try simp only [Act.put, List.setIfInBounds_toArray, List.set_cons_zero, List.set_cons_succ]
  refine AnyBut.last (o := _) (by kernel_rfl) (by rfl) (fun K hK => ?_)
  have q342 : W321.cell? ⟨r, 0, none⟩ = some (.slice A1 d1 c1) := X334.out.cell 0
  have q343 : W321.cell? ⟨r, 1, none⟩ = some (.slice A2 p1 c2) := X334.out.cell 1
  have q344 : W321.cell? ⟨r, 2, none⟩ = some (.slice A3 d2 c3) := X334.out.cell 2
  have q345 : W321.cell? ⟨r, 3, none⟩ = some (.slice A4 p2 c4) := X334.out.cell 3
  have q346 : ∀ o, W321.frozen? ⟨r, o, none⟩ = false := fun o => X334.out.free o
  go_simp
  clear q342 q343 q344 q345 q346
  refine hK.out _ _ ?_
  clear hK K hHeld
  try simp only [Act.put, List.setIfInBounds_toArray, List.set_cons_zero, List.set_cons_succ]
  refine AnyBut.done (by kernel_rfl) ?_ _
  refine NoPanic.normal ?_
  clear Hcall279 Hini280 Hgrow282 Hsz285
  have ST6 := Lib.hid (HS0.out.upd B335.out ((Ex.set (· = r) W321 r 0 (.slice sA330 sn328 sc331) rfl).trans (Ex.set _ _ r 1 (.slice none 0 0) rfl)) ((X334.out.put 0 (.slice sA330 sn328 sc331)).put 1 (.slice none 0 0)) (.inr (NewBy.of (l := D1 ++ LL.take kk) (by have h := R336.out; rw [← HSN332.out, List.nil_append] at h; rw [← HSN332.out, List.nil_append]; exact h) (Nat.le_refl _) (by have := HLL1.out; have := HB1.out; simp; omega) (HD1.out.by.app HLH.out.by))) (.inr (NewBy.nil _ _)) (.inl ⟨rfl, rfl⟩) (.inl ⟨rfl, rfl⟩))
  have BL6 := Lib.hid (((B335.out.mono (show base ≤ (W5).heap.size from Nat.le_trans HBASE.out B5.out.size)).setCell (p := ⟨r, 0, none⟩) H.out.hr (.slice sA330 sn328 sc331)).setCell (p := ⟨r, 1, none⟩) H.out.hr (.slice none 0 0))
  obtain ⟨W7, hW7⟩ : ∃ z, ((W321).setCell ⟨r, 0, none⟩ (.slice sA330 sn328 sc331)).setCell ⟨r, 1, none⟩ (.slice none 0 0) = z := ⟨_, rfl⟩
  rw [hW7] at ST6 BL6 ⊢
  clear hW7 r6
  have HX7 := Lib.hid ST6.out.1.box
  have HD7 := Lib.hid ST6.out.1.b3
  have HL7 := Lib.hid (HLB.out.ex ST6.out.2.1 (fun g9 e => by have := HLF.out g9 e; have := HRL.out; show ¬ g9 = r; omega))
  obtain ⟨V7, r7, hV7⟩ := HL7.out.cut1 (kk : Int) kk rfl (by have := HS5.out; have := HLN.out; omega)
  have HV7 := Lib.hid hV7
  clear hV7
  have HB7 := Lib.hid (Below.refl W7.heap.size W7)
  have q347 : W7.cell? ⟨r, 0, none⟩ = some (.slice sA330 sn328 sc331) := HX7.out.cell 0
  have q348 : W7.cell? ⟨r, 1, none⟩ = some (.slice none 0 0) := HX7.out.cell 1
  have q349 : W7.cell? ⟨r, 2, none⟩ = some (.slice A3 d2 c3) := HX7.out.cell 2
  have q350 : W7.cell? ⟨r, 3, none⟩ = some (.slice A4 p2 c4) := HX7.out.cell 3
  go_wp2_with fail
  have hdr359 : Below (W7).heap.size (W7) (W7).drew := (Below.refl _ _).drew
  have lt355 := HX7.out.lt
  have lt356 := HX7.out.lt
  have lt357 := HX7.out.lt
  have lt358 := HX7.out.lt
  have hcall360 : ∀ X Y : World, (fun Wz => Wz.cell? ⟨r, 0, none⟩ = some (.slice sA330 sn328 sc331) ∧ Wz.cell? ⟨r, 1, none⟩ = some (.slice none 0 0) ∧ Wz.cell? ⟨r, 2, none⟩ = some (.slice A3 d2 c3) ∧ Wz.cell? ⟨r, 3, none⟩ = some (.slice A4 p2 c4) ∧ (W7).heap.size ≤ Wz.heap.size) X → Below X.heap.size X Y → (fun Wz => Wz.cell? ⟨r, 0, none⟩ = some (.slice sA330 sn328 sc331) ∧ Wz.cell? ⟨r, 1, none⟩ = some (.slice none 0 0) ∧ Wz.cell? ⟨r, 2, none⟩ = some (.slice A3 d2 c3) ∧ Wz.cell? ⟨r, 3, none⟩ = some (.slice A4 p2 c4) ∧ (W7).heap.size ≤ Wz.heap.size) Y := by
    rintro X Y ⟨z351, z352, z353, z354, xs⟩ hb
    have hb2 := Below.mono (B' := (W7).heap.size) hb xs
    exact ⟨keepd z351 hb2 lt355, keepd z352 hb2 lt356, keepd z353 hb2 lt357, keepd z354 hb2 lt358, Nat.le_trans xs hb.size⟩
  have LTB364 := Lib.hid (show r < (W7).heap.size from HX7.out.lt)
  have BLE365 := Lib.hid HB7.out.size
  have hgrow363 : ∀ X Y : World, (fun Wz => Wz.cell? ⟨r, 0, none⟩ = some (.slice sA330 sn328 sc331) ∧ Wz.cell? ⟨r, 1, none⟩ = some (.slice none 0 0) ∧ Wz.cell? ⟨r, 2, none⟩ = some (.slice A3 d2 c3) ∧ Wz.cell? ⟨r, 3, none⟩ = some (.slice A4 p2 c4) ∧ (W7).heap.size ≤ Wz.heap.size) X → Below (W7).heap.size X Y → (fun Wz => Wz.cell? ⟨r, 0, none⟩ = some (.slice sA330 sn328 sc331) ∧ Wz.cell? ⟨r, 1, none⟩ = some (.slice none 0 0) ∧ Wz.cell? ⟨r, 2, none⟩ = some (.slice A3 d2 c3) ∧ Wz.cell? ⟨r, 3, none⟩ = some (.slice A4 p2 c4) ∧ (W7).heap.size ≤ Wz.heap.size) Y := by
    rintro X Y ⟨z351, z352, z353, z354, xs⟩ hb2
    exact ⟨keepd z351 hb2 lt355, keepd z352 hb2 lt356, keepd z353 hb2 lt357, keepd z354 hb2 lt358, Nat.le_trans xs hb2.size⟩
  have hsz366 : ∀ X : World, (fun Wz => Wz.cell? ⟨r, 0, none⟩ = some (.slice sA330 sn328 sc331) ∧ Wz.cell? ⟨r, 1, none⟩ = some (.slice none 0 0) ∧ Wz.cell? ⟨r, 2, none⟩ = some (.slice A3 d2 c3) ∧ Wz.cell? ⟨r, 3, none⟩ = some (.slice A4 p2 c4) ∧ (W7).heap.size ≤ Wz.heap.size) X → (W7).heap.size ≤ X.heap.size := by
    rintro X ⟨_, _, _, _, xs⟩
    exact xs
  have hini361 : (fun Wz => Wz.cell? ⟨r, 0, none⟩ = some (.slice sA330 sn328 sc331) ∧ Wz.cell? ⟨r, 1, none⟩ = some (.slice none 0 0) ∧ Wz.cell? ⟨r, 2, none⟩ = some (.slice A3 d2 c3) ∧ Wz.cell? ⟨r, 3, none⟩ = some (.slice A4 p2 c4) ∧ (W7).heap.size ≤ Wz.heap.size) (W7).drew := ⟨keepd (HX7.out.cell 0) hdr359 lt355, keepd (HX7.out.cell 1) hdr359 lt356, keepd (HX7.out.cell 2) hdr359 lt357, keepd (HX7.out.cell 3) hdr359 lt358, Nat.le_refl _⟩
  have Hcall360 := Lib.hid hcall360
  have Hini361 := Lib.hid hini361
  have Hgrow363 := Lib.hid hgrow363
  have Hsz366 := Lib.hid hsz366
  clear hcall360 hgrow363 hsz366 hini361 lt355 lt356 lt357 lt358
  clear q347 q348 q349 q350
  refine wp_region_noPanic ?_
  refine wp_region_but 15 (S := (fun Wz => Wz.cell? ⟨r, 0, none⟩ = some (.slice sA330 sn328 sc331) ∧ Wz.cell? ⟨r, 1, none⟩ = some (.slice none 0 0) ∧ Wz.cell? ⟨r, 2, none⟩ = some (.slice A3 d2 c3) ∧ Wz.cell? ⟨r, 3, none⟩ = some (.slice A4 p2 c4) ∧ (W7).heap.size ≤ Wz.heap.size)) (by kernel_rfl) Hini361.out (fun hHeld => ?_)
  obtain ⟨W367, hW368⟩ : ∃ Wzz, (W7).drew = Wzz := ⟨_, rfl⟩
  rw [hW368] at hHeld hdr359 ⊢
  clear hW368
  have X369 := Lib.hid (HX7.out.later hdr359)
  have B370 := Lib.hid (HB7.out.trans (hdr359.mono HB7.out.size))
  clear hdr359
  refine AnyBut.take (i := 0) (oi := { dst := some 87, op := Op.move (Operand.tmp 0), type := 58, pos := "ref.go:262", after := #[], guard := none }) (v := ?vh371) rfl ?hzh371 ?hsh371 ?hfh371 ?hrh371 ?hQh371 ?hyh371 (by assumption) ?resth371
  case hsh371 => kernel_rfl
  case hzh371 => kernel_rfl
  case hfh371 => kernel_rfl
  case hrh371 => kernel_rfl
  case hQh371 => exact fun _ _ _ h => h
  case hyh371 => (refine Or.inl ⟨by rfl, ?_⟩; intro w hSw; (try dsimp only at hSw); go_simp; try with_reducible rfl)
  try simp only [Act.put, List.setIfInBounds_toArray, List.set_cons_zero, List.set_cons_succ]
  refine AnyBut.take (i := 2) (oi := { dst := some 89, op := Op.move (Operand.tmp 0), type := 58, pos := "ref.go:262", after := #[], guard := none }) (v := ?vh372) rfl ?hzh372 ?hsh372 ?hfh372 ?hrh372 ?hQh372 ?hyh372 (by assumption) ?resth372
  case hsh372 => kernel_rfl
  case hzh372 => kernel_rfl
  case hfh372 => kernel_rfl
  case hrh372 => kernel_rfl
  case hQh372 => exact fun _ _ _ h => h
  case hyh372 => (refine Or.inl ⟨by rfl, ?_⟩; intro w hSw; (try dsimp only at hSw); go_simp; try with_reducible rfl)
  try simp only [Act.put, List.setIfInBounds_toArray, List.set_cons_zero, List.set_cons_succ]
  refine AnyBut.take (i := 3) (oi := { dst := some 90, op := Op.nilCheck (Operand.tmp 89), type := 0, pos := "ref.go:262", after := #[{ on := 2, ground := Ground.data }], guard := none }) (v := ?vh373) rfl ?hzh373 ?hsh373 ?hfh373 ?hrh373 ?hQh373 ?hyh373 (by assumption) ?resth373
  case hsh373 => kernel_rfl
  case hzh373 => kernel_rfl
  case hfh373 => kernel_rfl
  case hrh373 => kernel_rfl
  case hQh373 => exact fun _ _ _ h => h
  case hyh373 => (refine Or.inl ⟨by rfl, ?_⟩; intro w hSw; (try dsimp only at hSw); go_simp; try with_reducible rfl)
  try simp only [Act.put, List.setIfInBounds_toArray, List.set_cons_zero, List.set_cons_succ]
  refine AnyBut.take (i := 4) (oi := { dst := some 91, op := Op.fieldAddr 62 (Operand.tmp 90) 1, type := 0, pos := "ref.go:262", after := #[{ on := 3, ground := Ground.data }], guard := none }) (v := ?vh374) rfl ?hzh374 ?hsh374 ?hfh374 ?hrh374 ?hQh374 ?hyh374 (by assumption) ?resth374
  case hsh374 => kernel_rfl
  case hzh374 => kernel_rfl
  case hfh374 => kernel_rfl
  case hrh374 => kernel_rfl
  case hQh374 => exact fun _ _ _ h => h
  case hyh374 => (refine Or.inl ⟨by rfl, ?_⟩; intro w hSw; (try dsimp only at hSw); go_simp; try with_reducible rfl)
  try simp only [Act.put, List.setIfInBounds_toArray, List.set_cons_zero, List.set_cons_succ]
  refine AnyBut.take (i := 5) (oi := { dst := some 92, op := Op.fieldAddr 60 (Operand.tmp 91) 0, type := 0, pos := "ref.go:262", after := #[{ on := 4, ground := Ground.data }], guard := none }) (v := ?vh375) rfl ?hzh375 ?hsh375 ?hfh375 ?hrh375 ?hQh375 ?hyh375 (by assumption) ?resth375
  case hsh375 => kernel_rfl
  case hzh375 => kernel_rfl
  case hfh375 => kernel_rfl
  case hrh375 => kernel_rfl
  case hQh375 => exact fun _ _ _ h => h
  case hyh375 => (refine Or.inl ⟨by rfl, ?_⟩; intro w hSw; (try dsimp only at hSw); go_simp; try with_reducible rfl)
  try simp only [Act.put, List.setIfInBounds_toArray, List.set_cons_zero, List.set_cons_succ]
  refine AnyBut.take (i := 6) (oi := { dst := some 93, op := Op.load 31 (Operand.tmp 92), type := 31, pos := "ref.go:262", after := #[{ on := 5, ground := Ground.data }], guard := none }) (v := ?vh376) rfl ?hzh376 ?hsh376 ?hfh376 ?hrh376 ?hQh376 ?hyh376 (by assumption) ?resth376
  case hsh376 => kernel_rfl
  case hzh376 => kernel_rfl
  case hfh376 => kernel_rfl
  case hrh376 => kernel_rfl
  case hQh376 => exact fun _ _ _ h => h
  case hyh376 => (refine Or.inl ⟨by rfl, ?_⟩; intro w hSw; (try dsimp only at hSw); go_simp; try with_reducible rfl)
  try simp only [Act.put, List.setIfInBounds_toArray, List.set_cons_zero, List.set_cons_succ]
  refine AnyBut.take (i := 8) (oi := { dst := some 95, op := Op.move (Operand.tmp 9), type := 31, pos := "ref.go:262", after := #[], guard := none }) (v := ?vh377) rfl ?hzh377 ?hsh377 ?hfh377 ?hrh377 ?hQh377 ?hyh377 (by assumption) ?resth377
  case hsh377 => kernel_rfl
  case hzh377 => kernel_rfl
  case hfh377 => kernel_rfl
  case hrh377 => kernel_rfl
  case hQh377 => exact fun _ _ _ h => h
  case hyh377 => (refine Or.inl ⟨by rfl, ?_⟩; intro w hSw; (try dsimp only at hSw); go_simp; try with_reducible rfl)
  try simp only [Act.put, List.setIfInBounds_toArray, List.set_cons_zero, List.set_cons_succ]
  refine AnyBut.take (i := 9) (oi := { dst := some 96, op := Op.move (Operand.tmp 1), type := 3, pos := "ref.go:262", after := #[], guard := none }) (v := ?vh378) rfl ?hzh378 ?hsh378 ?hfh378 ?hrh378 ?hQh378 ?hyh378 (by assumption) ?resth378
  case hsh378 => kernel_rfl
  case hzh378 => kernel_rfl
  case hfh378 => kernel_rfl
  case hrh378 => kernel_rfl
  case hQh378 => exact fun _ _ _ h => h
  case hyh378 => (refine Or.inl ⟨by rfl, ?_⟩; intro w hSw; (try dsimp only at hSw); go_simp; try with_reducible rfl)
  try simp only [Act.put, List.setIfInBounds_toArray, List.set_cons_zero, List.set_cons_succ]
  refine AnyBut.take (i := 10) (oi := { dst := some 97, op := Op.slice 31 (Operand.tmp 95) (some (Operand.tmp 96)) none none, type := 31, pos := "ref.go:262", after := #[{ on := 8, ground := Ground.data }, { on := 9, ground := Ground.data }], guard := none }) (v := ?vh379) rfl ?hzh379 ?hsh379 ?hfh379 ?hrh379 ?hQh379 ?hyh379 (by assumption) ?resth379
  case hsh379 => kernel_rfl
  case hzh379 => kernel_rfl
  case hfh379 => kernel_rfl
  case hrh379 => kernel_rfl
  case hQh379 => exact fun _ _ _ h => h
  case hyh379 => (refine Or.inl ⟨by rfl, ?_⟩; intro w hSw; (try dsimp only at hSw); go_simp; try with_reducible rfl)
  try simp only [Act.put, List.setIfInBounds_toArray, List.set_cons_zero, List.set_cons_succ]
  refine AnyBut.one (i := 1) (o := _) (by kernel_rfl) (by rfl) (by rfl) (fun K hK => ?_)
  go_simp
  obtain ⟨W380, hW381⟩ : ∃ Wzz, (W367.alloc (.cells #[] 5)) = Wzz := ⟨_, rfl⟩
  have sz384 := Hsz366.out _ hHeld
  have hb382 : Below (W367).heap.size (W367) W380 := by rw [← hW381]; exact (Below.refl _ _).alloc (Nat.le_refl _) _
  have R383 := Lib.hid (show W380.ownsRow (W7).heap.size 5 1 (.slice (some ⟨(W367).heap.size, 0, none⟩) 0 0) ([] : List Int).length (bys []) by rw [← hW381]; exact bys_lit (W367) (W7).heap.size [] sz384 (by simp))
  rw [hW381]
  have X385 := Lib.hid (X369.out.later hb382)
  have B386 := Lib.hid (B370.out.trans (hb382.mono B370.out.size))
  clear X369 B370
  refine hK.out _ _ (Hcall360.out _ _ hHeld hb382) (fun hHeld387 => ?_)
  clear hK K hHeld
  clear hb382 hW381 sz384
  have hHeld := hHeld387
  clear hHeld387
  try simp only [Act.put, List.setIfInBounds_toArray, List.set_cons_zero, List.set_cons_succ]
  refine AnyBut.one (i := 7) (o := { dst := some 94, op := Op.call { callee := Callee.builtin Builtin.append, args := #[Operand.tmp 88, Operand.tmp 93], argTypes := #[31, 31] }, type := 31, pos := "ref.go:262", after := #[{ on := 1, ground := Ground.data }, { on := 6, ground := Ground.data }], guard := none }) (by kernel_rfl) (by rfl) (by rfl) (fun K hK => ?_)
  have sz394 := Hsz366.out _ hHeld
  obtain ⟨rv388, W389, hr390, ho391, hg392, hn393⟩ := app_bytes (W380) (W7).heap.size _ (.slice (some ⟨(W367).heap.size, 0, none⟩) 0 0) ([] : List Int) R383.out (.slice A3 d2 c3) D2 (HD7.out.mono B386.out B386.out.size) (by have := HLL2.out; simp; omega) sz394
  refine opH_append 31 _ _ rfl rfl rfl rfl hr390 ?_
  try dsimp only
  have lo396 : ∀ k, (.slice (some ⟨(W367).heap.size, 0, none⟩) 0 0 : Value).ownBlock = some k → (W7).heap.size ≤ k := fun k e => (R383.out.lt k e).1
  have hgb395 : Below (W7).heap.size (W380) W389 := (Below.refl _ _).grown hg392 sz394 lo396
  have X397 := Lib.hid (X385.out.below hgb395 (by have := LTB364.out; omega))
  have B398 := Lib.hid (B386.out.trans (hgb395.mono BLE365.out))
  have R399 := Lib.hid ho391
  refine hK.out _ _ (Hgrow363.out _ _ hHeld hgb395) (fun hHeld400 => ?_)
  clear hK K hHeld
  clear sz394 hr390 ho391 hg392 hn393 lo396 hgb395
  have hHeld := hHeld400
  clear hHeld400
  try simp only [Act.put, List.setIfInBounds_toArray, List.set_cons_zero, List.set_cons_succ]
  refine AnyBut.one (i := 11) (o := { dst := some 98, op := Op.call { callee := Callee.builtin Builtin.append, args := #[Operand.tmp 94, Operand.tmp 97], argTypes := #[31, 31] }, type := 31, pos := "ref.go:262", after := #[{ on := 7, ground := Ground.data }, { on := 10, ground := Ground.data }, { on := 7, ground := Ground.chain }], guard := none }) (by kernel_rfl) (by rfl) (by rfl) (fun K hK => ?_)
  have sz407 := Hsz366.out _ hHeld
  obtain ⟨rv401, W402, hr403, ho404, hg405, hn406⟩ := app_bytes (W389) (W7).heap.size _ (rv388) (([] : List Int) ++ D2) R399.out (V7) (LL.drop kk) (HV7.out.mono B398.out B398.out.size) (by have := HLL2.out; have := HLN.out; have := HS5.out; have := HB2.out; simp; omega) sz407
  refine opH_append 31 _ _ rfl rfl rfl rfl hr403 ?_
  try dsimp only
  obtain ⟨sn409, hsn410⟩ : ∃ z, ((([] : List Int) ++ D2) ++ (LL.drop kk)).length = z := ⟨_, rfl⟩
  rw [hsn410] at ho404
  obtain ⟨sA411, sc412, rfl⟩ := own_shape ho404
  have HSN413 := Lib.hid hsn410
  clear hsn410
  have lo414 : ∀ k, (rv388 : Value).ownBlock = some k → (W7).heap.size ≤ k := fun k e => (R399.out.lt k e).1
  have hgb408 : Below (W7).heap.size (W389) W402 := (Below.refl _ _).grown hg405 sz407 lo414
  have X415 := Lib.hid (X397.out.below hgb408 (by have := LTB364.out; omega))
  have B416 := Lib.hid (B398.out.trans (hgb408.mono BLE365.out))
  have R417 := Lib.hid ho404
  refine hK.out _ _ (Hgrow363.out _ _ hHeld hgb408) (fun hHeld418 => ?_)
  clear hK K hHeld
  clear sz407 hr403 ho404 hg405 hn406 lo414 hgb408
  have hHeld := hHeld418
  clear hHeld418
  try simp only [Act.put, List.setIfInBounds_toArray, List.set_cons_zero, List.set_cons_succ]
  refine AnyBut.take (i := 12) (oi := { dst := some 99, op := Op.build 60 #[(0, Operand.tmp 98)], type := 60, pos := "ref.go:262", after := #[{ on := 11, ground := Ground.data }], guard := none }) (v := ?vh419) rfl ?hzh419 ?hsh419 ?hfh419 ?hrh419 ?hQh419 ?hyh419 (by assumption) ?resth419
  case hsh419 => kernel_rfl
  case hzh419 => kernel_rfl
  case hfh419 => kernel_rfl
  case hrh419 => kernel_rfl
  case hQh419 => exact fun _ _ _ h => h
  case hyh419 => (refine Or.inl ⟨by rfl, ?_⟩; intro w hSw; (try dsimp only at hSw); go_simp; try with_reducible rfl)
  try simp only [Act.put, List.setIfInBounds_toArray, List.set_cons_zero, List.set_cons_succ]
  refine AnyBut.one (i := 13) (o := _) (by kernel_rfl) (by rfl) (by rfl) (fun K hK => ?_)
  go_simp
  refine hK.out _ _ hHeld (fun hHeld421 => ?_)
  clear hK K hHeld
  have hHeld := hHeld421
  clear hHeld421
  try simp only [Act.put, List.setIfInBounds_toArray, List.set_cons_zero, List.set_cons_succ]
  refine AnyBut.take (i := 14) (oi := { dst := some 101, op := Op.fieldAddr 62 (Operand.tmp 100) 1, type := 0, pos := "ref.go:262", after := #[{ on := 13, ground := Ground.data }, { on := 0, ground := Ground.phase }, { on := 1, ground := Ground.phase }, { on := 2, ground := Ground.phase }, { on := 3, ground := Ground.phase }, { on := 4, ground := Ground.phase }, { on := 5, ground := Ground.phase }, { on := 6, ground := Ground.phase }, { on := 7, ground := Ground.phase }, { on := 8, ground := Ground.phase }, { on := 9, ground := Ground.phase }, { on := 10, ground := Ground.phase }, { on := 11, ground := Ground.phase }, { on := 12, ground := Ground.phase }], guard := none }) (v := ?vh422) rfl ?hzh422 ?hsh422 ?hfh422 ?hrh422 ?hQh422 ?hyh422 (by assumption) ?resth422
  case hsh422 => kernel_rfl
  case hzh422 => kernel_rfl
  case hfh422 => kernel_rfl
  case hrh422 => kernel_rfl
  case hQh422 => exact fun _ _ _ h => h
  case hyh422 => (refine Or.inl ⟨by rfl, ?_⟩; intro w hSw; (try dsimp only at hSw); go_simp; try with_reducible rfl)
  try simp only [Act.put, List.setIfInBounds_toArray, List.set_cons_zero, List.set_cons_succ]
  refine AnyBut.last (o := _) (by kernel_rfl) (by rfl) (fun K hK => ?_)
  have q423 : W402.cell? ⟨r, 0, none⟩ = some (.slice sA330 sn328 sc331) := X415.out.cell 0
  have q424 : W402.cell? ⟨r, 1, none⟩ = some (.slice none 0 0) := X415.out.cell 1
  have q425 : W402.cell? ⟨r, 2, none⟩ = some (.slice A3 d2 c3) := X415.out.cell 2
  have q426 : W402.cell? ⟨r, 3, none⟩ = some (.slice A4 p2 c4) := X415.out.cell 3
  have q427 : ∀ o, W402.frozen? ⟨r, o, none⟩ = false := fun o => X415.out.free o
  go_simp
  clear q423 q424 q425 q426 q427
  refine hK.out _ _ ?_
  clear hK K hHeld
  try simp only [Act.put, List.setIfInBounds_toArray, List.set_cons_zero, List.set_cons_succ]
  refine AnyBut.done (by kernel_rfl) ?_ _
  refine NoPanic.normal ?_
  clear Hcall360 Hini361 Hgrow363 Hsz366
  have ST8 := Lib.hid (ST6.out.1.upd B416.out ((Ex.set (· = r) W402 r 2 (.slice sA411 sn409 sc412) rfl).trans (Ex.set _ _ r 3 (.slice none 0 0) rfl)) ((X415.out.put 2 (.slice sA411 sn409 sc412)).put 3 (.slice none 0 0)) (.inl ⟨rfl, rfl⟩) (.inl ⟨rfl, rfl⟩) (.inr (NewBy.of (l := D2 ++ LL.drop kk) (by have h := R417.out; rw [← HSN413.out, List.nil_append] at h; rw [← HSN413.out, List.nil_append]; exact h) (Nat.le_refl _) (by have := HLL2.out; have := HLN.out; have := HS5.out; have := HB2.out; simp; omega) (HD7.out.by.app HV7.out.by))) (.inr (NewBy.nil _ _)))
  have BL8 := Lib.hid (((B416.out.mono (show base ≤ W7.heap.size from Nat.le_trans (Nat.le_trans HBASE.out B5.out.size) ST6.out.2.1.1)).setCell (p := ⟨r, 2, none⟩) H.out.hr (.slice sA411 sn409 sc412)).setCell (p := ⟨r, 3, none⟩) H.out.hr (.slice none 0 0))
  obtain ⟨W9, hW9⟩ : ∃ z, ((W402).setCell ⟨r, 2, none⟩ (.slice sA411 sn409 sc412)).setCell ⟨r, 3, none⟩ (.slice none 0 0) = z := ⟨_, rfl⟩
  rw [hW9] at ST8 BL8 ⊢
  clear hW9 r7
  go_wp2_with fail
  go_ret
  unfold RCrashPost crE crA crB crP
  rw [HOK.out]
  have hs := B5.out.size
  have hs6 := ST6.out.2.1.1
  have a6 := ST6.out.2.2
  have a8 := ST8.out.2.2
  refine ⟨_, _, _, _, by first | rfl | trivial, (by simp only [Int.toNat_natCast, if_true]; rw [HLEQ.out]; exact ST8.out.1), (Ex.of_below B5.out).trans (ST6.out.2.1.trans ST8.out.2.1), (B5.out.mono HBASE.out).trans (BL6.out.trans BL8.out), ?_, ?_, ?_, ?_⟩
  · exact Nw.trans (Nw.trans (W1 := W5) (.inl rfl) a6.1 hs) a8.1 (Nat.le_trans hs hs6)
  · exact Nw.trans (Nw.trans (W1 := W5) (.inl rfl) a6.2.1 hs) a8.2.1 (Nat.le_trans hs hs6)
  · exact Nw.trans (Nw.trans (W1 := W5) (.inl rfl) a6.2.2.1 hs) a8.2.2.1 (Nat.le_trans hs hs6)
  · exact Nw.trans (Nw.trans (W1 := W5) (.inl rfl) a6.2.2.2 hs) a8.2.2.2 (Nat.le_trans hs hs6)

end Go.Proofs.Ytbpbdgiglllncaa

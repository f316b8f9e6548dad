/- Layer 7: trains, and which are valid, on both sides. -/
import Derived.Test.YtmmfmanjajefcaaL7
set_option linter.all false
namespace Go.Proofs.Ytmmfmanjajefcaa
open Go.RowKit

abbrev Mh := Int × Int × Int
/-- meshes in memory -/
def Mss (w : World) (B : Nat) (v : Value) (ms : List Mh) : Prop :=
  ∃ A c, v = .slice A ms.length c ∧ ms.length ≤ c ∧
    (0 < ms.length → ∃ b off, A = some ⟨b, off, none⟩ ∧ b < B ∧ ∀ k (h : k < ms.length), w.cell? ⟨b, off + k * 3, none⟩ = some (.int .i64 ms[k].1) ∧ w.cell? ⟨b, off + k * 3 + 1, none⟩ = some (.int .i64 ms[k].2.1) ∧ w.cell? ⟨b, off + k * 3 + 2, none⟩ = some (.int .i64 ms[k].2.2))
/-- a train as a value -/
def IsTr (w : World) (B : Nat) (v : Value) (ms : List Mh) : Prop := ∃ s, v = .agg #[s] ∧ Mss w B s ms
theorem Mss.mono {w w' : World} {B B' : Nat} {v : Value} {ms : List Mh} (h : Mss w B v ms) (hb : Below B w w') (hB : B ≤ B') : Mss w' B' v ms := by
  obtain ⟨A, c, rfl, h2, h3⟩ := h
  refine ⟨A, c, rfl, h2, fun hp => ?_⟩
  obtain ⟨b, off, rfl, hlt, hc⟩ := h3 hp
  exact ⟨b, off, rfl, by omega, fun k hk => ⟨keepd (hc k hk).1 hb hlt, keepd (hc k hk).2.1 hb hlt, keepd (hc k hk).2.2 hb hlt⟩⟩
theorem IsTr.mono {w w' : World} {B B' : Nat} {v : Value} {ms : List Mh} (h : IsTr w B v ms) (hb : Below B w w') (hB : B ≤ B') : IsTr w' B' v ms := by
  obtain ⟨s, rfl, h⟩ := h
  exact ⟨s, rfl, h.mono hb hB⟩
theorem Mss.later {w w' : World} {v : Value} {ms : List Mh} (h : Mss w w.heap.size v ms) (hb : Below w.heap.size w w') : Mss w' w'.heap.size v ms := h.mono hb hb.size
theorem IsTr.later {w w' : World} {v : Value} {ms : List Mh} (h : IsTr w w.heap.size v ms) (hb : Below w.heap.size w w') : IsTr w' w'.heap.size v ms := h.mono hb hb.size
def mB (m : Mh) : Bool := meshB m.1 m.2.1 m.2.2
/-- a train is valid -/
def trB (ms : List Mh) : Bool := inB (ms.length : Int) 1 16 && ms.all mB
theorem all_take {ms : List Mh} {k : Nat} (h : k < ms.length) (ht : (ms.take k).all mB = true) : (ms.take (k + 1)).all mB = mB ms[k] := by
  rw [List.take_succ_eq_append_getElem h, List.all_append, ht]; simp
theorem all_false {ms : List Mh} {k : Nat} (h : k < ms.length) (hf : mB ms[k] = false) : ms.all mB = false := by
  rw [List.all_eq_false]
  exact ⟨ms[k], List.getElem_mem h, by simp [hf]⟩

set_option maxRecDepth 100000 in
set_option maxHeartbeats 4000000 in
theorem ValidTrain_c (ms : List Mh) (v : Value) (w : World) (h : IsTr w w.heap.size v ms) : Calls Try.prog 36 #[v] w fun e w' => e = .returned (.bool (trB ms)) ∧ Below w.heap.size w w' := by
  obtain ⟨s, rfl, A, c, rfl, hcap, hcell⟩ := h
  have HC := Lib.hid hcell
  clear hcell hcap
  obtain ⟨n, hn⟩ : ∃ n, ms.length = n := ⟨_, rfl⟩
  have HN := Lib.hid hn
  rw [hn]
  clear hn
  have HB0 := Lib.hid (show Below w.heap.size w (w.alloc (.cells #[.slice A n c] 35)) from (Below.refl _ _).alloc (Nat.le_refl _) _)
  cases h1 : inB (n : Int) 1 16
  · have HV := Lib.hid (show trB ms = false by unfold trB; rw [HN.out, h1]; rfl)
    go_enter Try.func36, Try.ntmps36
    go_wp2_with fail
    refine (fromTo_c (n : Int) 1 16 _).mono ?_; rintro e w1 ⟨rfl, rfl⟩
    rw [h1]
    clear h1
    go_wp2_with fail
    go_ret
    exact ⟨ret_bool HV.out.symm, HB0.out⟩
  have H1 := Lib.hid h1
  have h16 : n ≤ 16 := by have := inB_iff.1 h1; omega
  clear h1
  have HV := Lib.hid (show trB ms = ms.all mB by unfold trB; rw [HN.out, H1.out]; rfl)
  go_enter Try.func36, Try.ntmps36
  go_wp2_with fail
  refine (fromTo_c (n : Int) 1 16 _).mono ?_; rintro e w1 ⟨rfl, rfl⟩
  rw [H1.out]
  go_wp2_with fail
  go_loopw [13] (fun kv wr => ∃ k : Nat, k ≤ n ∧ kv = .int .i64 (k : Int) ∧ (ms.take k).all mB = true ∧ Below w.heap.size w wr) (fun kv _ => n - (intOf kv).toNat)
  case atStart => exact ⟨0, Nat.zero_le _, rfl, rfl, HB0.out⟩
  case round =>
    obtain ⟨k, hk, rfl, hall, hbr⟩ := hrel
    have HA := Lib.hid hall
    have HR := Lib.hid hbr
    clear hall hbr
    by_cases hlt : k < n
    · have hkf : k < ms.length := by rw [HN.out]; exact hlt
      obtain ⟨b, off, rfl, hbB, hcc⟩ := HC.out (by omega)
      obtain ⟨y0, y1, y2⟩ := hcc k hkf
      have HT := Lib.hid (all_take hkf HA.out)
      have HF := Lib.hid (fun hf => all_false hkf hf)
      obtain ⟨m, hm⟩ : ∃ m, ms[k] = m := ⟨_, rfl⟩
      rw [hm] at y0 y1 y2 HT HF
      obtain ⟨x, y, z⟩ := m
      have q0 := keepd y0 HR.out hbB
      have q1 := keepd y1 HR.out hbB
      have q2 := keepd y2 HR.out hbB
      have d1 : decide ((k : Int) < (n : Int)) = true := by simpa using hlt
      have d2 : decide (k < n) = true := by simpa using hlt
      have HK := Lib.hid hkf
      clear hcc y0 y1 y2 hm hkf
      dsimp only at q0 q1 q2
      go_wp2_with fail
      refine (isMesh_c x y z _).mono ?_; rintro e w1 ⟨rfl, hb1⟩
      have HB1 := Lib.hid (show Below w.heap.size w w1 from HR.out.trans ((boxed hb1).mono HR.out.size))
      clear hb1
      cases hz : meshB x y z
      · have HZ := Lib.hid (HF.out hz)
        clear hz
        go_wp2_with fail
        go_ret
        exact ⟨ret_bool (by rw [HV.out, HZ.out]), HB1.out⟩
      · have HZ := Lib.hid (HT.out.trans hz)
        clear hz
        go_wp2_with fail
        go_roundw
        case rel => exact ⟨k + 1, by omega, by go_num, HZ.out, HB1.out⟩
        case measure => simp [intOf]; omega
    · obtain rfl : k = n := by omega
      have d1 : decide ((k : Int) < (k : Int)) = false := by simp
      have d2 : decide (k < k) = false := by simp
      have HZ := Lib.hid (show ms.all mB = true by have := HA.out; rwa [← HN.out, List.take_length] at this)
      go_wp2_with fail
      go_ret
      exact ⟨ret_bool (by rw [HV.out, HZ.out]), HR.out⟩

set_option maxRecDepth 100000 in
set_option maxHeartbeats 4000000 in
theorem rValidTrain_c (ms : List Mh) (v : Value) (w : World) (h : IsTr w w.heap.size v ms) (hl : ms.length ≤ 100) : Calls Try.prog 37 #[v] w fun e w' => e = .returned (.bool (trB ms)) ∧ Below w.heap.size w w' := by
  obtain ⟨s, rfl, A, c, rfl, hcap, hcell⟩ := h
  have HC := Lib.hid hcell
  clear hcell hcap
  obtain ⟨n, hn⟩ : ∃ n, ms.length = n := ⟨_, rfl⟩
  have HN := Lib.hid hn
  rw [hn] at hl ⊢
  clear hn
  have HB0 := Lib.hid (show Below w.heap.size w (w.alloc (.cells #[.slice A n c] 35)) from (Below.refl _ _).alloc (Nat.le_refl _) _)
  have HX0 := Lib.hid (Box.made w 35 #[.slice A n c])
  go_enter Try.func37, Try.ntmps37
  go_wp2_with fail
  go_loopw [3] (fun kv wr => ∃ k : Nat, k ≤ n ∧ kv = .int .i64 (k : Int) ∧ (ms.take k).all mB = true ∧ Below w.heap.size w wr ∧ Box wr w.heap.size 35 #[.slice A n c]) (fun kv _ => n - (intOf kv).toNat)
  case atStart => exact ⟨0, Nat.zero_le _, rfl, rfl, HB0.out, HX0.out⟩
  case round =>
    obtain ⟨k, hk, rfl, hall, hbr, hbx⟩ := hrel
    have HA := Lib.hid hall
    have HR := Lib.hid hbr
    have HX := Lib.hid hbx
    have z0 : wr.cell? ⟨w.heap.size, 0, none⟩ = some (.slice A n c) := hbx.cell 0
    clear hall hbr hbx
    by_cases hlt : k < n
    · have hkf : k < ms.length := by rw [HN.out]; exact hlt
      obtain ⟨b, off, rfl, hbB, hcc⟩ := HC.out (by omega)
      obtain ⟨y0, y1, y2⟩ := hcc k hkf
      have HT := Lib.hid (all_take hkf HA.out)
      have HF := Lib.hid (fun hf => all_false hkf hf)
      obtain ⟨m, hm⟩ : ∃ m, ms[k] = m := ⟨_, rfl⟩
      rw [hm] at y0 y1 y2 HT HF
      obtain ⟨x, y, z⟩ := m
      have q0 := keepd y0 HR.out hbB
      have q1 := keepd y1 HR.out hbB
      have q2 := keepd y2 HR.out hbB
      have d1 : decide ((k : Int) < (n : Int)) = true := by simpa using hlt
      have d2 : decide (k < n) = true := by simpa using hlt
      have HK := Lib.hid hkf
      clear hcc y0 y1 y2 hm hkf
      dsimp only at q0 q1 q2
      go_wp2_with fail
      refine (rValidMesh_c x y z _).mono ?_; rintro e w1 ⟨rfl, hb1⟩
      have HB1 := Lib.hid (show Below w.heap.size w w1 from HR.out.trans (hb1.mono HR.out.size))
      have HX1 := Lib.hid (HX.out.later hb1)
      clear hb1
      cases hz : meshB x y z
      · have HZ := Lib.hid (HF.out hz)
        have HV := Lib.hid (show trB ms = false by unfold trB; rw [HZ.out, Bool.and_false])
        clear hz
        go_wp2_with fail
        go_ret
        exact ⟨ret_bool HV.out.symm, HB1.out⟩
      · have HZ := Lib.hid (HT.out.trans hz)
        clear hz
        go_wp2_with fail
        go_roundw
        case rel => exact ⟨k + 1, by omega, by go_num, HZ.out, HB1.out, HX1.out⟩
        case measure => simp [intOf]; omega
    · obtain rfl : k = n := by omega
      have d1 : decide ((k : Int) < (k : Int)) = false := by simp
      have d2 : decide (k < k) = false := by simp
      have HZ := Lib.hid (show ms.all mB = true by have := HA.out; rwa [← HN.out, List.take_length] at this)
      have HV := Lib.hid (show trB ms = inB (k : Int) 1 16 by unfold trB; rw [HZ.out, HN.out, Bool.and_true])
      go_wp2_with fail
      refine (within_c (k : Int) 1 16 _).mono ?_; rintro e w1 ⟨rfl, rfl⟩
      go_wp2_with fail
      go_ret
      exact ⟨ret_bool HV.out.symm, HR.out⟩
end Go.Proofs.Ytmmfmanjajefcaa

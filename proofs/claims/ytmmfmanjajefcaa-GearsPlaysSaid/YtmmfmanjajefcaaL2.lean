/- Layer 7: products of lists, on both sides. -/
import Derived.Test.YtmmfmanjajefcaaL1
set_option linter.all false
namespace Go.Proofs.Ytmmfmanjajefcaa
open Go.RowKit

def nats (l : List Nat) : List Int := l.map fun n : Nat => (n : Int)
theorem nats_len (l : List Nat) : (nats l).length = l.length := by simp [nats]
theorem nth_nats {l : List Nat} {k : Nat} (h : k < l.length) : nth (nats l) k = ((l[k] : Nat) : Int) := by
  unfold nth nats
  rw [List.getD_eq_getElem?_getD, List.getElem?_map, List.getElem?_eq_getElem h]; rfl
theorem prodL_take {l : List Nat} {k : Nat} (h : k < l.length) : prodL (l.take (k + 1)) = prodL (l.take k) * l[k] := by
  rw [List.take_succ_eq_append_getElem h, prodL_append]; simp [prodL]
theorem prodL_le_take {l : List Nat} (h0 : 0 ∉ l) (k : Nat) : prodL (l.take k) ≤ prodL l := by
  have h := prodL_append (l.take k) (l.drop k)
  rw [List.take_append_drop] at h
  rw [h]
  have : 0 < prodL (l.drop k) := prodL_pos fun x hx => by
    rcases Nat.eq_zero_or_pos x with rfl | hp
    · exact absurd (List.mem_of_mem_drop hx) h0
    · exact hp
  exact Nat.le_mul_of_pos_right _ this
theorem prodL_zero : ∀ {l : List Nat}, 0 ∈ l → prodL l = 0
  | x :: l, h => by
    rcases List.mem_cons.1 h with e | h
    · rw [prodL, ← e, Nat.zero_mul]
    · rw [prodL, prodL_zero h, Nat.mul_zero]

set_option maxHeartbeats 2000000 in
theorem index_c (ns : List Nat) (v : Value) (w : World) (B : Nat) (h : Ints w B v (nats ns)) :
    Calls Try.prog 97 #[v, .int .i64 0] w fun e w' => (∃ r : Int, e = .returned (.int .i64 r) ∧ (0 ≤ r ↔ 0 ∈ ns)) ∧ w = w' := by
  obtain ⟨hl, A, c, rfl, hcap, hcell⟩ := h
  rw [nats_len] at hl hcap hcell
  rw [nats_len]
  have HC := Lib.hid hcell
  have HL := Lib.hid hl
  clear hcell hl hcap
  go_enter Try.func97, Try.ntmps97
  go_wp2_with fail
  go_loopw [8] (fun iv wr => ∃ k : Nat, k ≤ ns.length ∧ iv = .int .i64 (k : Int) ∧ 0 ∉ ns.take k ∧ w = wr) (fun iv _ => ns.length - (intOf iv).toNat)
  case atStart => exact ⟨0, Nat.zero_le _, rfl, by simp, rfl⟩
  case round =>
    obtain ⟨k, hk, rfl, hn, rfl⟩ := hrel
    have HN := Lib.hid hn
    clear hn
    by_cases hlt : k < ns.length
    · obtain ⟨b, off, rfl, hbB, hcc⟩ := HC.out (by omega)
      have y0 := hcc k hlt
      rw [nth_nats hlt] at y0
      obtain ⟨x, hx⟩ : ∃ x, ns[k] = x := ⟨_, rfl⟩
      rw [hx] at y0
      have HX := Lib.hid hx
      have d1 : decide ((k : Int) < (ns.length : Int)) = true := by simpa using hlt
      have d1' : decide (k < ns.length) = true := by simpa using hlt
      have K1 : k ≤ 20000000000000 := by have := HL.out; omega
      clear hcc hx
      by_cases hx0 : x = 0
      · have e1 : ((0 : Int) == (x : Int)) = true := by subst hx0; rfl
        have e2 : decide ((0 : Int) = (x : Int)) = true := by subst hx0; rfl
        have e3 : decide (0 = x) = true := by subst hx0; rfl
        have HM := Lib.hid (show 0 ∈ ns by rw [← hx0, ← HX.out]; exact List.getElem_mem hlt)
        clear hx0
        go_wp2_with fail
        go_ret
        exact ⟨⟨_, rfl, fun _ => HM.out, fun _ => by omega⟩, rfl⟩
      · have e1 : ((0 : Int) == (x : Int)) = false := by
          rw [beq_eq_false_iff_ne]; omega
        have e2 : decide ((0 : Int) = (x : Int)) = false := by simp; omega
        have e3 : decide (0 = x) = false := by simp; omega
        have HM := Lib.hid (show 0 ∉ ns.take (k + 1) by
          rw [List.take_succ_eq_append_getElem hlt, HX.out]
          simp only [List.mem_append, List.mem_singleton]
          exact fun hh => hh.elim HN.out fun hh => hx0 hh.symm)
        clear hx0
        go_wp2_with fail
        go_roundw
        case rel => exact ⟨k + 1, by omega, by go_num, HM.out, by first | trivial | rfl⟩
        case measure => simp [intOf]; omega
    · obtain rfl : k = ns.length := by omega
      have d1 : decide ((ns.length : Int) < (ns.length : Int)) = false := by simp
      have d2 : decide (ns.length < ns.length) = false := by simp
      have HM := Lib.hid (show 0 ∉ ns by have := HN.out; rwa [List.take_length] at this)
      go_wp2_with fail
      go_ret
      exact ⟨⟨_, rfl, fun hh => absurd hh (by decide), fun hh => absurd hh HM.out⟩, rfl⟩
set_option maxHeartbeats 2000000 in
theorem contains_c (ns : List Nat) (v : Value) (w : World) (B : Nat) (h : Ints w B v (nats ns)) (z : Bool) (hz : decide (0 ∈ ns) = z) :
    Calls Try.prog 96 #[v, .int .i64 0] w fun e w' => e = .returned (.bool z) ∧ w = w' := by
  have HZ := Lib.hid hz
  have HI := Lib.hid h
  clear h hz
  go_enter Try.func96, Try.ntmps96
  go_wp2_with fail
  refine (index_c ns v w B HI.out).mono ?_; rintro e w1 ⟨⟨r, rfl, hr⟩, rfl⟩
  have HR := Lib.hid hr
  clear hr
  go_wp2_with fail
  go_ret
  exact ⟨ret_bool (by rw [← HZ.out]; exact decide_eq_decide.2 HR.out), rfl⟩

def muV (l : List Nat) : Nat := if prodL l ≤ mh then prodL l else 0
def muB (l : List Nat) : Bool := decide (prodL l ≤ mh)
set_option maxHeartbeats 2000000 in
theorem multiply_c (ns : List Nat) (v : Value) (w : World) (B : Nat) (h : Ints w B v (nats ns)) :
    Calls Try.prog 92 #[v] w fun e w' => e = .returned (.tuple #[.int .i64 (muV ns : Nat), .bool (muB ns)]) ∧ w = w' := by
  have HI := Lib.hid h
  obtain ⟨hl, A, c, rfl, hcap, hcell⟩ := h
  rw [nats_len] at hl hcap hcell
  rw [nats_len] at HI ⊢
  have HC := Lib.hid hcell
  have HL := Lib.hid hl
  clear hcell hl hcap
  go_enter Try.func92, Try.ntmps92
  go_wp2_with fail
  by_cases h0 : 0 ∈ ns
  · have HV := Lib.hid (show muV ns = 0 ∧ muB ns = true by unfold muV muB; rw [prodL_zero h0]; exact ⟨rfl, rfl⟩)
    have HZ := Lib.hid (decide_eq_true h0)
    clear h0
    refine (contains_c ns _ w B HI.out true HZ.out).mono ?_; rintro e w1 ⟨rfl, rfl⟩
    go_wp2_with fail
    go_ret2
    exact ⟨by rw [HV.out.1, HV.out.2]; rfl, rfl⟩
  · have HZ := Lib.hid (decide_eq_false h0)
    have H0 := Lib.hid h0
    clear h0
    refine (contains_c ns _ w B HI.out false HZ.out).mono ?_; rintro e w1 ⟨rfl, rfl⟩
    go_wp2_with fail
    go_loopw [4, 11] (fun pv iv wr => ∃ k p : Nat, k ≤ ns.length ∧ pv = .int .i64 (p : Int) ∧ iv = .int .i64 (k : Int) ∧ p = prodL (ns.take k) ∧ 0 < p ∧ p ≤ 1000000000 ∧ w = wr) (fun _ iv _ => ns.length - (intOf iv).toNat)
    case atStart => exact ⟨0, 1, Nat.zero_le _, rfl, rfl, rfl, by omega, by omega, rfl⟩
    case round =>
      obtain ⟨k, p, hk, rfl, rfl, hp, p0, p1, rfl⟩ := hrel
      have HP := Lib.hid hp
      clear hp
      by_cases hlt : k < ns.length
      · obtain ⟨b, off, rfl, hbB, hcc⟩ := HC.out (by omega)
        have y0 := hcc k hlt
        rw [nth_nats hlt] at y0
        obtain ⟨x, hx⟩ : ∃ x, ns[k] = x := ⟨_, rfl⟩
        rw [hx] at y0
        have HX := Lib.hid hx
        have d1 : decide ((k : Int) < (ns.length : Int)) = true := by simpa using hlt
        have d1' : decide (k < ns.length) = true := by simpa using hlt
        have K1 : k ≤ 20000000000000 := by have := HL.out; omega
        have x0 : 0 < x := by
          rcases Nat.eq_zero_or_pos x with h | h
          · exact absurd (show 0 ∈ ns by rw [← h, ← hx]; exact List.getElem_mem hlt) H0.out
          · exact h
        have z1 : decide ((p : Int) = 0) = false := by simp; omega
        have z2 : decide (p = 0) = false := by simp; omega
        have HQ := Lib.hid (show ((1000000000 : Int) / (p : Int)) = ((1000000000 / p : Nat) : Int) by simp)
        obtain ⟨q, hq⟩ : ∃ q : Nat, 1000000000 / p = q := ⟨_, rfl⟩
        have q1 : q ≤ 1000000000 := by rw [← hq]; exact Nat.div_le_self _ _
        have Q0 := Lib.hid hq
        have qe : (1000000000 : Int) / (p : Int) = (q : Int) := by rw [HQ.out, hq]
        have w1 : IntKind.i64.wrap ((1000000000 : Int) / (p : Int)) = (q : Int) := by rw [qe]; exact wrap_id (by omega) (by omega)
        have HT := Lib.hid (show prodL (ns.take (k + 1)) = p * x by rw [prodL_take hlt, HX.out, HP.out])
        clear hcc hx hq
        by_cases hxq : q < x
        · have e1 : decide ((q : Int) < (x : Int)) = true := by simpa using hxq
          have e2 : decide (q < x) = true := by simpa using hxq
          have e3 : decide ((1000000000 : Int) / (p : Int) < (x : Int)) = true := by rw [qe]; exact e1
          have HV := Lib.hid (show muV ns = 0 ∧ muB ns = false by
            have h1 := prodL_le_take H0.out (k + 1)
            rw [HT.out] at h1
            have h2 : 1000000000 < p * x := by
              have := Q0.out
              rw [← this] at hxq
              have h3 := (Nat.div_lt_iff_lt_mul p0).1 hxq
              rwa [Nat.mul_comm] at h3
            unfold muV muB mh
            rw [if_neg (by omega), decide_eq_false (by omega)]; exact ⟨rfl, rfl⟩)
          clear hxq
          go_wp2_with fail
          go_ret2
          exact ⟨by rw [HV.out.1, HV.out.2]; rfl, rfl⟩
        · have e1 : decide ((q : Int) < (x : Int)) = false := by simpa using hxq
          have e2 : decide (q < x) = false := by simpa using hxq
          have e3 : decide ((1000000000 : Int) / (p : Int) < (x : Int)) = false := by rw [qe]; exact e1
          have hm : p * x ≤ 1000000000 := by
            have h3 : x ≤ 1000000000 / p := by have := Q0.out; omega
            have := (Nat.le_div_iff_mul_le p0).1 h3
            rwa [Nat.mul_comm] at this
          have hm0 : 0 < p * x := Nat.mul_pos p0 x0
          obtain ⟨m, hmm⟩ : ∃ m, p * x = m := ⟨_, rfl⟩
          rw [hmm] at hm hm0
          have HM := Lib.hid hmm
          have w2 : IntKind.i64.wrap ((p : Int) * (x : Int)) = (m : Int) := by
            rw [show (p : Int) * (x : Int) = ((p * x : Nat) : Int) by simp, hmm]; exact wrap_id (by omega) (by omega)
          have HR := Lib.hid (And.intro hm hm0)
          clear hxq hm hm0 hmm qe
          go_wp2_with fail
          go_roundw
          case rel => exact ⟨k + 1, m, by omega, by go_num, by go_num, by rw [HT.out, HM.out], HR.out.2, HR.out.1, by first | trivial | rfl⟩
          case measure => simp [intOf]; omega
      · obtain rfl : k = ns.length := by omega
        have d1 : decide ((ns.length : Int) < (ns.length : Int)) = false := by simp
        have d2 : decide (ns.length < ns.length) = false := by simp
        have HV := Lib.hid (show muV ns = p ∧ muB ns = true by
          have := HP.out
          rw [List.take_length] at this
          unfold muV muB mh
          rw [← this, if_pos p1, decide_eq_true p1]; exact ⟨rfl, rfl⟩)
        go_wp2_with fail
        go_ret2
        exact ⟨by rw [HV.out.1, HV.out.2]; rfl, rfl⟩

def heV (l : List Nat) : Nat := if prodL l ≤ mh then prodL l else 1000000001
set_option maxHeartbeats 2000000 in
theorem held_c (ns : List Nat) (v : Value) (w : World) (B : Nat) (h : Ints w B v (nats ns)) (h0 : 0 ∉ ns) :
    Calls Try.prog 94 #[v] w fun e w' => e = .returned (.int .i64 (heV ns : Nat)) ∧ w = w' := by
  obtain ⟨hl, A, c, rfl, hcap, hcell⟩ := h
  rw [nats_len] at hl hcap hcell
  rw [nats_len]
  have HC := Lib.hid hcell
  have HL := Lib.hid hl
  have H0 := Lib.hid h0
  clear hcell hl hcap h0
  go_enter Try.func94, Try.ntmps94
  go_wp2_with fail
  go_loopw [3, 4] (fun pv iv wr => ∃ k p : Nat, k ≤ ns.length ∧ pv = .int .i64 (p : Int) ∧ iv = .int .i64 (k : Int) ∧ p = prodL (ns.take k) ∧ 0 < p ∧ p ≤ 1000000000 ∧ w = wr) (fun _ iv _ => ns.length - (intOf iv).toNat)
  case atStart => exact ⟨0, 1, Nat.zero_le _, rfl, rfl, rfl, by omega, by omega, rfl⟩
  case round =>
    obtain ⟨k, p, hk, rfl, rfl, hp, p0, p1, rfl⟩ := hrel
    have HP := Lib.hid hp
    clear hp
    by_cases hlt : k < ns.length
    · obtain ⟨b, off, rfl, hbB, hcc⟩ := HC.out (by omega)
      have y0 := hcc k hlt
      rw [nth_nats hlt] at y0
      obtain ⟨x, hx⟩ : ∃ x, ns[k] = x := ⟨_, rfl⟩
      rw [hx] at y0
      have HX := Lib.hid hx
      have d1 : decide ((k : Int) < (ns.length : Int)) = true := by simpa using hlt
      have d1' : decide (k < ns.length) = true := by simpa using hlt
      have K1 : k ≤ 20000000000000 := by have := HL.out; omega
      have x0 : 0 < x := by
        rcases Nat.eq_zero_or_pos x with h | h
        · exact absurd (show 0 ∈ ns by rw [← h, ← hx]; exact List.getElem_mem hlt) H0.out
        · exact h
      have z1 : decide ((x : Int) = 0) = false := by simp; omega
      have z2 : decide (x = 0) = false := by simp; omega
      have HQ := Lib.hid (show ((1000000000 : Int) / (x : Int)) = ((1000000000 / x : Nat) : Int) by simp)
      obtain ⟨q, hq⟩ : ∃ q : Nat, 1000000000 / x = q := ⟨_, rfl⟩
      have q1 : q ≤ 1000000000 := by rw [← hq]; exact Nat.div_le_self _ _
      have Q0 := Lib.hid hq
      have qe : (1000000000 : Int) / (x : Int) = (q : Int) := by rw [HQ.out, hq]
      have w1 : IntKind.i64.wrap ((1000000000 : Int) / (x : Int)) = (q : Int) := by rw [qe]; exact wrap_id (by omega) (by omega)
      have HT := Lib.hid (show prodL (ns.take (k + 1)) = p * x by rw [prodL_take hlt, HX.out, HP.out])
      clear hcc hx hq
      by_cases hxq : q < p
      · have e1 : decide ((q : Int) < (p : Int)) = true := by simpa using hxq
        have e2 : decide (q < p) = true := by simpa using hxq
        have e3 : decide ((1000000000 : Int) / (x : Int) < (p : Int)) = true := by rw [qe]; exact e1
        have HV := Lib.hid (show heV ns = 1000000001 by
          have h1 := prodL_le_take H0.out (k + 1)
          rw [HT.out] at h1
          have h2 : 1000000000 < p * x := by
            have := Q0.out
            rw [← this] at hxq
            exact (Nat.div_lt_iff_lt_mul x0).1 hxq
          unfold heV mh
          rw [if_neg (by omega)])
        clear hxq
        go_wp2_with fail
        go_ret
        exact ⟨by rw [HV.out]; rfl, rfl⟩
      · have e1 : decide ((q : Int) < (p : Int)) = false := by simpa using hxq
        have e2 : decide (q < p) = false := by simpa using hxq
        have e3 : decide ((1000000000 : Int) / (x : Int) < (p : Int)) = false := by rw [qe]; exact e1
        have hm : p * x ≤ 1000000000 := by
          have h3 : p ≤ 1000000000 / x := by have := Q0.out; omega
          exact (Nat.le_div_iff_mul_le x0).1 h3
        have hm0 : 0 < p * x := Nat.mul_pos p0 x0
        obtain ⟨m, hmm⟩ : ∃ m, p * x = m := ⟨_, rfl⟩
        rw [hmm] at hm hm0
        have HM := Lib.hid hmm
        have w2 : IntKind.i64.wrap ((p : Int) * (x : Int)) = (m : Int) := by
          rw [show (p : Int) * (x : Int) = ((p * x : Nat) : Int) by simp, hmm]; exact wrap_id (by omega) (by omega)
        have HR := Lib.hid (And.intro hm hm0)
        clear hxq hm hm0 hmm qe
        go_wp2_with fail
        go_roundw
        case rel => exact ⟨k + 1, m, by omega, by go_num, by go_num, by rw [HT.out, HM.out], HR.out.2, HR.out.1, by first | trivial | rfl⟩
        case measure => simp [intOf]; omega
    · obtain rfl : k = ns.length := by omega
      have d1 : decide ((ns.length : Int) < (ns.length : Int)) = false := by simp
      have d2 : decide (ns.length < ns.length) = false := by simp
      have HV := Lib.hid (show heV ns = p by
        have := HP.out
        rw [List.take_length] at this
        unfold heV mh
        rw [← this, if_pos p1])
      go_wp2_with fail
      go_ret
      exact ⟨by rw [HV.out]; rfl, rfl⟩
end Go.Proofs.Ytmmfmanjajefcaa

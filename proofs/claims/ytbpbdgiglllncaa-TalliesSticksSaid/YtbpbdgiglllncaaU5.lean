/- Layer 9: the tallies that two journals tell, told one by one. -/
import Derived.Test.YtbpbdgiglllncaaU4
import Derived.RangeFuncNested
import Derived.RangeFuncBound
import Derived.RangeFuncCalls
import Derived.RangeFuncLeaves
import Derived.Sort.QuietIn
import Derived.OwnWalkIn
import Derived.TacticsInMore
import Derived.LoopNIn
import Derived.LoopIn
set_option linter.all false
namespace Go.Proofs.Ytbpbdgiglllncaa
open Go.RowKit

theorem gb_drewN (w : World) (n : Nat) : w.grownBy (w.drewN n) none := ⟨rfl, rfl, rfl, Nat.le_refl _, fun _ _ _ => rfl⟩
theorem gb_below {w w' : World} (h : Below w.heap.size w w') : w.grownBy w' none := ⟨h.os, h.tape, h.output, h.size, fun i hi _ => h.block i hi⟩
/-- bytes that lie below the blocks of a world -/
def Pc (w : World) := {p : Value × List Int // Bys w w.heap.size p.1 p.2 ∧ p.2.length ≤ 8192}
def pcL {w : World} (l : List (Pc w)) : List (List Int) := l.map fun x => x.1.2
theorem pcL_snoc {w : World} (l : List (Pc w)) (x : Pc w) : pcL (l ++ [x]) = pcL l ++ [x.1.2] := by simp [pcL]
def lenV : Value → Nat
  | .slice _ n _ => n
  | _ => 0

set_option maxRecDepth 100000 in
set_option maxHeartbeats 4000000 in
theorem told1_in (n : Nat) (hn : 2 ≤ n) (w : World) (s f : List Int) (vs vf : Value) (hs : Bys w w.heap.size vs s) (hf : Bys w w.heap.size vf f) (hsL : s.length ≤ 33554432) (hfL : f.length ≤ 33554432) (l bs bf : Nat) (J Jx : List (Pc w) → World → Prop) (W0 : Nat) (hJ : AbidesFrom W0 J)
    (hY : ∀ pre x W, J pre W → pre.length < f.length → YieldAt Fence.wide (n - 1) Try.prog l #[x.1.1] W fun e W' =>
      (e = .returned (.bool true) ∧ J (pre ++ [x]) W' ∧ Below w.heap.size W W') ∨ (e = .returned (.bool false) ∧ Jx (pre ++ [x]) W'))
    (W : World) (hbW : Below w.heap.size w W) (h1 : Box W bs 31 #[vs]) (h2 : Box W bf 31 #[vf]) (h0 : J [] W) :
    CallsIn Fence.wide n Try.prog 75 #[.func (.yield l) #[] #[], .pointer (some ⟨bs, 0, none⟩), .pointer (some ⟨bf, 0, none⟩)] W fun e W' => (∃ v, e = .returned v) ∧
      ((∃ ys, pcL ys = joinL s f ∧ J ys W') ∨ (∃ pre, pcL pre <+: joinL s f ∧ Jx pre W')) := by
  have q0 : W.cell? ⟨bs, 0, none⟩ = some vs := h1.cell 0
  have q1 : W.cell? ⟨bf, 0, none⟩ = some vf := h2.cell 0
  have HS := Lib.hid hs
  have HF := Lib.hid hf
  have HBW := Lib.hid hbW
  have HJ := Lib.hid hJ
  have HYY := Lib.hid hY
  have H0 := Lib.hid h0
  have HSL := Lib.hid hsL
  have HFL := Lib.hid hfL
  obtain ⟨A, c, rfl, -⟩ := hs.shape
  obtain ⟨A', c', rfl, -⟩ := hf.shape
  clear hs hf hbW hJ hY h0 h1 h2 hsL hfL
  refine callsIn_of_wp Try.func75 rfl trivial ?_ rfl
  simp only [Try.ntmps75, List.size_toArray, List.length_cons, List.length_nil, Nat.reduceAdd, Nat.reduceSub, Array.replicate_succ, Array.replicate_zero, List.push_toArray, List.append_toArray, List.nil_append, List.cons_append]
  gi_wp2_with fail
  gi_quiet (fail)
  rename_i nq
  have H0' := Lib.hid (HJ.out _ _ _ none H0.out (gb_drewN _ nq) (fun r e => by cases e))
  have HBW' := Lib.hid (HBW.out.trans (below_drewN (B := w.heap.size) W nq))
  clear q0 q1 H0 HBW
  gi_wp2_with fail
  gi_loopw [4, 5] (fun us uf wr => ∃ (pre : List (Pc w)) (s' f' : List Int), J pre wr ∧ Below w.heap.size w wr ∧ Bys w w.heap.size us s' ∧ Bys w w.heap.size uf f' ∧ pcL pre ++ joinL s' f' = joinL s f ∧ pre.length + f'.length ≤ f.length ∧ s'.length ≤ s.length) (fun _ uf _ => lenV uf)
  case atStart => exact ⟨[], s, f, H0'.out, HBW'.out, HS.out, HF.out, by simp [pcL], by simp, Nat.le_refl _⟩
  case round =>
    clear H0' HBW' HS HF
    obtain ⟨pre, s', f', hj, hb, hs, hf, hpc, hle, hsl⟩ := hrel
    have Hj := Lib.hid hj
    have HB := Lib.hid hb
    have HS := Lib.hid hs
    have HF := Lib.hid hf
    have HPC := Lib.hid hpc
    have HLE := Lib.hid hle
    have HSLE := Lib.hid hsl
    obtain ⟨A, c, rfl, hc⟩ := hs.shape
    obtain ⟨A', c', rfl, hc'⟩ := hf.shape
    clear hj hb hs hf hpc hle hsl hc hc'
    cases hbg : beg s' f' with
    | false =>
      have HBG := Lib.hid hbg
      have kb := Lib.hid (begin_c s' f' _ _ wr (HS.out.mono HB.out HB.out.size) (HF.out.mono HB.out HB.out.size))
      rw [hbg] at kb
      clear hbg
      generalize s'.length = ns at *
      generalize f'.length = nf at *
      gi_wp2_with fail
      refine ⟨trivial, fun _ => by omega, (callsIn_wide.2 kb.out).mono ?_⟩
      rintro e W2 ⟨rfl, hb2⟩
      have Hj2 := Lib.hid (HJ.out _ _ _ none Hj.out (gb_below hb2) (fun r e => by cases e))
      clear hb2
      gi_wp2_with fail
      go_end0
      exact ⟨⟨_, rfl⟩, .inl ⟨pre, by rw [← HPC.out, joinL_stop HBG.out, List.append_nil], Hj2.out⟩⟩
    | true =>
      have HBG := Lib.hid (beg_iff.1 hbg)
      have HGO := Lib.hid (joinL_go hbg)
      have kb := Lib.hid (begin_c s' f' _ _ wr (HS.out.mono HB.out HB.out.size) (HF.out.mono HB.out HB.out.size))
      rw [hbg] at kb
      obtain ⟨p, hp⟩ := Int.eq_ofNat_of_zero_le (pr_bd HS.out.by).1
      have HP := Lib.hid hp
      have kp := Lib.hid (fun (W : World) (hb : Below w.heap.size w W) => pairOf_c s' _ W (HS.out.mono hb hb.size) HBG.out.1)
      rw [hp] at kp
      have hp9 : p ≤ 8192 := by have := HBG.out.2.2.1; omega
      obtain ⟨V1, s1, hV1⟩ := HS.out.cut 2 (2 + (p : Int)) 2 (2 + p) rfl (by omega) (by omega) (by have := HBG.out.2.2.2.2.1; omega)
      obtain ⟨V2, s2, hV2⟩ := HS.out.cut1 (2 + (p : Int)) (2 + p) (by omega) (by have := HBG.out.2.2.2.2.1; omega)
      obtain ⟨V3, s3, hV3⟩ := HF.out.cut1 4 4 rfl HBG.out.2.1
      have hH : hdL s' = (s'.drop 2).take (2 + p - 2) := by unfold hdL; rw [hp]; congr 1; omega
      have w1 : IntKind.wrap .i64 (2 + (p : Int)) = 2 + (p : Int) := wrapI (by omega) (by omega)
      rw [← hH] at hV1
      have hV1L : (hdL s').length ≤ 8192 := by have := hdL_len hbg HS.out.by; omega
      obtain ⟨x, hx1, hx2⟩ : ∃ x : Pc w, x.1.1 = V1 ∧ x.1.2 = hdL s' := ⟨⟨(V1, hdL s'), hV1, hV1L⟩, rfl, rfl⟩
      have HX1 := Lib.hid hx1
      have HX2 := Lib.hid hx2
      have HV2 := Lib.hid hV2
      have HV3 := Lib.hid hV3
      have HP9 := Lib.hid hp9
      clear hV2 hV3 hV1 hV1L hx1 hx2 hbg hp hH
      obtain ⟨ns, hns⟩ : ∃ ns, s'.length = ns := ⟨_, rfl⟩
      obtain ⟨nf, hnf⟩ : ∃ nf, f'.length = nf := ⟨_, rfl⟩
      have HNF := Lib.hid hnf
      have HNS := Lib.hid hns
      rw [hns] at s1 s2 kb kp ⊢
      rw [hnf] at s3 kb ⊢
      clear hns hnf
      gi_wp2_with fail
      refine ⟨trivial, fun _ => by omega, (callsIn_wide.2 kb.out).mono ?_⟩
      rintro e W2 ⟨rfl, hb2⟩
      have Hj2 := Lib.hid (HJ.out _ _ _ none Hj.out (gb_below hb2) (fun r e => by cases e))
      have HB2 := Lib.hid (HB.out.trans (hb2.mono HB.out.size))
      clear hb2 Hj HB kb
      gi_wp2_with fail
      refine ⟨trivial, fun _ => by omega, (callsIn_wide.2 (kp.out _ HB2.out)).mono ?_⟩
      rintro e W3 ⟨rfl, hb3⟩
      have Hj3 := Lib.hid (HJ.out _ _ _ none Hj2.out (gb_below hb3) (fun r e => by cases e))
      have HB3 := Lib.hid (HB2.out.trans (hb3.mono HB2.out.size))
      clear hb3 Hj2 HB2 kp
      obtain ⟨fn, tmps, assign, body, hy, hR⟩ := HYY.out pre x W3 Hj3.out (by have := HLE.out; have := HBG.out.2.1; omega)
      rw [HX1.out] at hy
      have HR := Lib.hid hR
      clear hR
      gi_wp2_with fail
      refine ⟨fun _ => by omega, HR.out.mono ?_⟩
      rintro e W4 (⟨rfl, hJ4, hk4⟩ | ⟨rfl, hJx4⟩)
      · have Hj4 := Lib.hid hJ4
        have HB4 := Lib.hid (HB3.out.trans hk4)
        clear hJ4 hk4 hy Hj3 HB3 HR
        gi_wp2_with fail
        gi_quiet (fail)
        have Hj5 := Lib.hid (HJ.out _ _ _ none Hj4.out (gb_drewN _ nq) (fun r e => by cases e))
        have HB5 := Lib.hid (HB4.out.trans (below_drewN (B := w.heap.size) _ nq))
        clear Hj4 HB4
        gi_wp2_with fail
        go_roundw
        case rel =>
          refine ⟨pre ++ [x], _, _, Hj5.out, HB5.out, HV2.out, HV3.out, ?_, ?_, ?_⟩
          · rw [pcL_snoc, HX2.out, ← HPC.out, HGO.out, HP.out]
            simp
          · have := HLE.out; have := HBG.out.2.1; simp; omega
          · have := HSLE.out; simp; omega
        case measure =>
          obtain ⟨A3, c3, e3, -⟩ := HV3.out.shape
          have := HBG.out.2.1
          have := HNF.out
          rw [e3]
          simp [lenV]; omega
      · have Hjx := Lib.hid hJx4
        clear hJx4 hy Hj3 HB3 HR
        gi_wp2_with fail
        refine bodyPost_ret (results_none rfl _ _ _) rfl ?_
        refine ⟨⟨_, rfl⟩, .inr ⟨pre ++ [x], ?_, Hjx.out⟩⟩
        rw [pcL_snoc, HX2.out, ← HPC.out, HGO.out]
        exact ⟨joinL (s'.drop (2 + (pr s').toNat)) (f'.drop 4), by simp⟩

/-- THE CONTRACT of the iterator over the tallies. -/
theorem told_stops (n : Nat) (hn : 2 ≤ n) (w0 : World) (s f : List Int) (vs vf : Value) (hs : Bys w0 w0.heap.size vs s) (hf : Bys w0 w0.heap.size vf f) (hsL : s.length ≤ 33554432) (hfL : f.length ≤ 33554432) (bs bf : Nat) (w : World) (hb : Below w0.heap.size w0 w)
    (h1 : Box w bs 31 #[vs]) (h2 : Box w bf 31 #[vf]) :
    SeqStopsK Fence.wide n Try.prog 75 #[.pointer (some ⟨bs, 0, none⟩), .pointer (some ⟨bf, 0, none⟩)] (fun x : Pc w0 => #[x.1.1]) (Below w0.heap.size) (fun xs => pcL xs = joinL s f) (fun pre => pcL pre <+: joinL s f) f.length w :=
  fun l J Jx W hW hJ _ hY h0 => told1_in n hn w0 s f vs vf hs hf hsL hfL l bs bf J Jx W.heap.size hJ hY W (hb.trans (hW.mono hb.size)) (h1.later hW) (h2.later hW) h0
end Go.Proofs.Ytbpbdgiglllncaa

/- Layer 3: the law on steps. -/
import Derived.Test.YtikfiallhmhicaaGreatE8
import Derived.Test.YtikfiallhmhicaaGreatTA
set_option linter.all false
namespace Go.Proofs.YtikfiallhmhicaaGreat
open Go.RowKit

set_option maxRecDepth 100000 in
set_option maxHeartbeats 8000000 in
theorem GrainSteps_c (m : Ml) (c0 c1 c2 c3 : Value) (a b t size cuts mo ms : Int) (mc : Bool) (c12 c13 c14 c15 c16 c17 : Value) (vm : Value) (w : World) (hm : IsMill w w.heap.size vm m) : Calls Tryz.prog 4 #[vm, askV c0 c1 c2 c3 a b t size cuts mo ms mc c12 c13 c14 c15 c16 c17] w fun e w' => e = .returned (.bool true) ∧ Below w.heap.size w w' := by
  obtain ⟨s0, r0, d0, g0, hmv, -, -, i3, i4⟩ := _root_.id hm
  subst hmv
  obtain ⟨-, DA, dc, rfl, -, -⟩ := i3
  obtain ⟨-, GA, gc, rfl, -, -⟩ := i4
  have HM0 := Lib.hid hm
  clear hm
  unfold millV at *
  unfold askV
  obtain ⟨dn, hdn⟩ : ∃ n, m.pr.drive.length = n := ⟨_, rfl⟩
  obtain ⟨gn, hgn⟩ : ∃ n, m.gap.length = n := ⟨_, rfl⟩
  rw [hdn, hgn] at HM0 ⊢
  clear hdn hgn
  go_enter Tryz.func4, Tryz.ntmps4
  go_wp2_with fail
  obtain ⟨W670, hW671⟩ : ∃ Wzz, ((w.alloc (.cells #[.int .i64 m.pr.bed.eye, .int .i64 m.pr.bed.rings, .int .i64 m.pr.bed.sectors, s0, .int .i64 m.pr.run.eye, .int .i64 m.pr.run.rings, .int .i64 m.pr.run.sectors, r0, .slice DA dn dc, .slice GA gn gc] 33)).alloc (.cells #[c0, c1, c2, c3, .int .i64 a, .int .i64 b, .int .i64 t, .int .i64 size, .int .i64 cuts, .int .i64 mo, .int .i64 ms, .bool mc, c12, c13, c14, c15, c16, c17] 53)) = Wzz := ⟨_, rfl⟩
  have B672 := Lib.hid (show Below w.heap.size w W670 by rw [← hW671]; exact (((Below.refl w.heap.size w).alloc (Nat.le_refl _) _).alloc (by first | (simp; done) | (simp; omega)) _))
  have X673 := Lib.hid (show Box W670 (w.heap.size) 33 #[.int .i64 m.pr.bed.eye, .int .i64 m.pr.bed.rings, .int .i64 m.pr.bed.sectors, s0, .int .i64 m.pr.run.eye, .int .i64 m.pr.run.rings, .int .i64 m.pr.run.sectors, r0, .slice DA dn dc, .slice GA gn gc] by rw [← hW671]; exact Box.alloc (Box.made w 33 #[.int .i64 m.pr.bed.eye, .int .i64 m.pr.bed.rings, .int .i64 m.pr.bed.sectors, s0, .int .i64 m.pr.run.eye, .int .i64 m.pr.run.rings, .int .i64 m.pr.run.sectors, r0, .slice DA dn dc, .slice GA gn gc]) (.cells #[c0, c1, c2, c3, .int .i64 a, .int .i64 b, .int .i64 t, .int .i64 size, .int .i64 cuts, .int .i64 mo, .int .i64 ms, .bool mc, c12, c13, c14, c15, c16, c17] 53))
  have X674 := Lib.hid (show Box W670 (w.heap.size + 1) 53 #[c0, c1, c2, c3, .int .i64 a, .int .i64 b, .int .i64 t, .int .i64 size, .int .i64 cuts, .int .i64 mo, .int .i64 ms, .bool mc, c12, c13, c14, c15, c16, c17] by
    have hz := Box.made (w.alloc (.cells #[.int .i64 m.pr.bed.eye, .int .i64 m.pr.bed.rings, .int .i64 m.pr.bed.sectors, s0, .int .i64 m.pr.run.eye, .int .i64 m.pr.run.rings, .int .i64 m.pr.run.sectors, r0, .slice DA dn dc, .slice GA gn gc] 33)) 53 #[c0, c1, c2, c3, .int .i64 a, .int .i64 b, .int .i64 t, .int .i64 size, .int .i64 cuts, .int .i64 mo, .int .i64 ms, .bool mc, c12, c13, c14, c15, c16, c17]
    rw [World.size_alloc] at hz
    rw [← hW671]; exact hz)
  have C675 := Lib.hid (HM0.out.later B672.out)
  have SZ676 := Lib.hid (show W670.heap.size = w.heap.size + 1 + 1 by rw [← hW671]; simp)
  rw [hW671]
  clear hW671
  have q677 : W670.cell? ⟨w.heap.size, 0, none⟩ = some (.int .i64 m.pr.bed.eye) := X673.out.cell 0
  have q678 : W670.cell? ⟨w.heap.size, 1, none⟩ = some (.int .i64 m.pr.bed.rings) := X673.out.cell 1
  have q679 : W670.cell? ⟨w.heap.size, 2, none⟩ = some (.int .i64 m.pr.bed.sectors) := X673.out.cell 2
  have q680 : W670.cell? ⟨w.heap.size, 3, none⟩ = some (s0) := X673.out.cell 3
  have q681 : W670.cell? ⟨w.heap.size, 4, none⟩ = some (.int .i64 m.pr.run.eye) := X673.out.cell 4
  have q682 : W670.cell? ⟨w.heap.size, 5, none⟩ = some (.int .i64 m.pr.run.rings) := X673.out.cell 5
  have q683 : W670.cell? ⟨w.heap.size, 6, none⟩ = some (.int .i64 m.pr.run.sectors) := X673.out.cell 6
  have q684 : W670.cell? ⟨w.heap.size, 7, none⟩ = some (r0) := X673.out.cell 7
  have q685 : W670.cell? ⟨w.heap.size, 8, none⟩ = some (.slice DA dn dc) := X673.out.cell 8
  have q686 : W670.cell? ⟨w.heap.size, 9, none⟩ = some (.slice GA gn gc) := X673.out.cell 9
  have q687 : W670.cell? ⟨w.heap.size + 1, 0, none⟩ = some (c0) := X674.out.cell 0
  have q688 : W670.cell? ⟨w.heap.size + 1, 1, none⟩ = some (c1) := X674.out.cell 1
  have q689 : W670.cell? ⟨w.heap.size + 1, 2, none⟩ = some (c2) := X674.out.cell 2
  have q690 : W670.cell? ⟨w.heap.size + 1, 3, none⟩ = some (c3) := X674.out.cell 3
  have q691 : W670.cell? ⟨w.heap.size + 1, 4, none⟩ = some (.int .i64 a) := X674.out.cell 4
  have q692 : W670.cell? ⟨w.heap.size + 1, 5, none⟩ = some (.int .i64 b) := X674.out.cell 5
  have q693 : W670.cell? ⟨w.heap.size + 1, 6, none⟩ = some (.int .i64 t) := X674.out.cell 6
  have q694 : W670.cell? ⟨w.heap.size + 1, 7, none⟩ = some (.int .i64 size) := X674.out.cell 7
  have q695 : W670.cell? ⟨w.heap.size + 1, 8, none⟩ = some (.int .i64 cuts) := X674.out.cell 8
  have q696 : W670.cell? ⟨w.heap.size + 1, 9, none⟩ = some (.int .i64 mo) := X674.out.cell 9
  have q697 : W670.cell? ⟨w.heap.size + 1, 10, none⟩ = some (.int .i64 ms) := X674.out.cell 10
  have q698 : W670.cell? ⟨w.heap.size + 1, 11, none⟩ = some (.bool mc) := X674.out.cell 11
  have q699 : W670.cell? ⟨w.heap.size + 1, 12, none⟩ = some (c12) := X674.out.cell 12
  have q700 : W670.cell? ⟨w.heap.size + 1, 13, none⟩ = some (c13) := X674.out.cell 13
  have q701 : W670.cell? ⟨w.heap.size + 1, 14, none⟩ = some (c14) := X674.out.cell 14
  have q702 : W670.cell? ⟨w.heap.size + 1, 15, none⟩ = some (c15) := X674.out.cell 15
  have q703 : W670.cell? ⟨w.heap.size + 1, 16, none⟩ = some (c16) := X674.out.cell 16
  have q704 : W670.cell? ⟨w.heap.size + 1, 17, none⟩ = some (c17) := X674.out.cell 17
  go_wp2_with fail
  refine (awake_c _).mono ?_; rintro e v705 ⟨rfl, hb706⟩
  have X707 := Lib.hid (X673.out.later hb706)
  have X708 := Lib.hid (X674.out.later hb706)
  have C709 := Lib.hid (C675.out.later hb706)
  have B710 := Lib.hid (B672.out.trans (hb706.mono B672.out.size))
  clear hb706
  clear q677 q678 q679 q680 q681 q682 q683 q684 q685 q686 q687 q688 q689 q690 q691 q692 q693 q694 q695 q696 q697 q698 q699 q700 q701 q702 q703 q704
  have q711 : v705.cell? ⟨w.heap.size, 0, none⟩ = some (.int .i64 m.pr.bed.eye) := X707.out.cell 0
  have q712 : v705.cell? ⟨w.heap.size, 1, none⟩ = some (.int .i64 m.pr.bed.rings) := X707.out.cell 1
  have q713 : v705.cell? ⟨w.heap.size, 2, none⟩ = some (.int .i64 m.pr.bed.sectors) := X707.out.cell 2
  have q714 : v705.cell? ⟨w.heap.size, 3, none⟩ = some (s0) := X707.out.cell 3
  have q715 : v705.cell? ⟨w.heap.size, 4, none⟩ = some (.int .i64 m.pr.run.eye) := X707.out.cell 4
  have q716 : v705.cell? ⟨w.heap.size, 5, none⟩ = some (.int .i64 m.pr.run.rings) := X707.out.cell 5
  have q717 : v705.cell? ⟨w.heap.size, 6, none⟩ = some (.int .i64 m.pr.run.sectors) := X707.out.cell 6
  have q718 : v705.cell? ⟨w.heap.size, 7, none⟩ = some (r0) := X707.out.cell 7
  have q719 : v705.cell? ⟨w.heap.size, 8, none⟩ = some (.slice DA dn dc) := X707.out.cell 8
  have q720 : v705.cell? ⟨w.heap.size, 9, none⟩ = some (.slice GA gn gc) := X707.out.cell 9
  have q721 : v705.cell? ⟨w.heap.size + 1, 0, none⟩ = some (c0) := X708.out.cell 0
  have q722 : v705.cell? ⟨w.heap.size + 1, 1, none⟩ = some (c1) := X708.out.cell 1
  have q723 : v705.cell? ⟨w.heap.size + 1, 2, none⟩ = some (c2) := X708.out.cell 2
  have q724 : v705.cell? ⟨w.heap.size + 1, 3, none⟩ = some (c3) := X708.out.cell 3
  have q725 : v705.cell? ⟨w.heap.size + 1, 4, none⟩ = some (.int .i64 a) := X708.out.cell 4
  have q726 : v705.cell? ⟨w.heap.size + 1, 5, none⟩ = some (.int .i64 b) := X708.out.cell 5
  have q727 : v705.cell? ⟨w.heap.size + 1, 6, none⟩ = some (.int .i64 t) := X708.out.cell 6
  have q728 : v705.cell? ⟨w.heap.size + 1, 7, none⟩ = some (.int .i64 size) := X708.out.cell 7
  have q729 : v705.cell? ⟨w.heap.size + 1, 8, none⟩ = some (.int .i64 cuts) := X708.out.cell 8
  have q730 : v705.cell? ⟨w.heap.size + 1, 9, none⟩ = some (.int .i64 mo) := X708.out.cell 9
  have q731 : v705.cell? ⟨w.heap.size + 1, 10, none⟩ = some (.int .i64 ms) := X708.out.cell 10
  have q732 : v705.cell? ⟨w.heap.size + 1, 11, none⟩ = some (.bool mc) := X708.out.cell 11
  have q733 : v705.cell? ⟨w.heap.size + 1, 12, none⟩ = some (c12) := X708.out.cell 12
  have q734 : v705.cell? ⟨w.heap.size + 1, 13, none⟩ = some (c13) := X708.out.cell 13
  have q735 : v705.cell? ⟨w.heap.size + 1, 14, none⟩ = some (c14) := X708.out.cell 14
  have q736 : v705.cell? ⟨w.heap.size + 1, 15, none⟩ = some (c15) := X708.out.cell 15
  have q737 : v705.cell? ⟨w.heap.size + 1, 16, none⟩ = some (c16) := X708.out.cell 16
  have q738 : v705.cell? ⟨w.heap.size + 1, 17, none⟩ = some (c17) := X708.out.cell 17
  by_cases c1 : 3000 < gn
  · have d1 : decide ((3000 : Int) < (gn : Int)) = true := by simp; omega
    have d1' : decide (3000 < gn) = true := by simp; omega
    clear c1
    go_wp2_with fail
    go_ret
    exact ⟨rfl, B710.out⟩
  · have d1 : decide ((3000 : Int) < (gn : Int)) = false := by simp; omega
    have d1' : decide (3000 < gn) = false := by simp; omega
    clear c1
    by_cases c2 : 20 < dn
    · have d2 : decide ((20 : Int) < (dn : Int)) = true := by simp; omega
      have d2' : decide (20 < dn) = true := by simp; omega
      clear c2
      go_wp2_with fail
      go_ret
      exact ⟨rfl, B710.out⟩
    · have d2 : decide ((20 : Int) < (dn : Int)) = false := by simp; omega
      have d2' : decide (20 < dn) = false := by simp; omega
      clear c2
      obtain ⟨GE, hge9⟩ : ∃ X9, grE m ⟨a, b, t⟩ size cuts = X9 := ⟨_, rfl⟩
      have HGE := Lib.hid hge9
      clear hge9
      obtain ⟨BB, hbb9⟩ : ∃ X9, biB m ⟨a, b, t⟩ size cuts = X9 := ⟨_, rfl⟩
      have HBB := Lib.hid hbb9
      clear hbb9
      obtain ⟨AE, hae9⟩ : ∃ X9, afE m ⟨a, b, t⟩ size cuts ⟨mo, ms, mc⟩ = X9 := ⟨_, rfl⟩
      have HAE := Lib.hid hae9
      clear hae9
      obtain ⟨AO, hao9⟩ : ∃ X9, afO m ⟨a, b, t⟩ size cuts ⟨mo, ms, mc⟩ = X9 := ⟨_, rfl⟩
      have HAO := Lib.hid hao9
      clear hao9
      obtain ⟨v0, v1, v2, v3, v4, hv9⟩ := afV_form m ⟨a, b, t⟩ size cuts ⟨mo, ms, mc⟩
      have HAV := Lib.hid hv9
      clear hv9
      have hE : ∀ w : World, (binOp .eql 48 (.agg #[.int .i64 v0, .int .i64 v1, .int .i64 v2, .int .i64 v3, .int .i64 v4]) (.agg #[.int .i64 v0, .int .i64 v1, .int .i64 v2, .int .i64 v3, .int .i64 v4])).run Tryz.prog w = .ok (.bool true) w := fun w => eqGrain v0 v1 v2 v3 v4 w
      have HEQ := Lib.hid hE
      clear hE
      have e0 : ∀ z : Int, (z == z) = true := fun z => by simp
      have e1 : ∀ z : Bool, (z == z) = true := fun z => by simp
      have e2 : (BB == BB) = true := e1 _
      have e3 : (AO == AO) = true := e1 _
      have e4 : (GE == GE) = true := e0 _
      have e5 : (AE == AE) = true := e0 _
      go_wp2_with fail
      refine (BitesB_c m a b t size cuts _ _ C709.out).mono ?_; rintro e v739 ⟨rfl, hb740⟩
      have X741 := Lib.hid (X707.out.later hb740)
      have X742 := Lib.hid (X708.out.later hb740)
      have C743 := Lib.hid (C709.out.later hb740)
      have B744 := Lib.hid (B710.out.trans (hb740.mono B710.out.size))
      clear hb740
      rw [HBB.out, HGE.out]
      clear q711 q712 q713 q714 q715 q716 q717 q718 q719 q720 q721 q722 q723 q724 q725 q726 q727 q728 q729 q730 q731 q732 q733 q734 q735 q736 q737 q738
      have q745 : v739.cell? ⟨w.heap.size, 0, none⟩ = some (.int .i64 m.pr.bed.eye) := X741.out.cell 0
      have q746 : v739.cell? ⟨w.heap.size, 1, none⟩ = some (.int .i64 m.pr.bed.rings) := X741.out.cell 1
      have q747 : v739.cell? ⟨w.heap.size, 2, none⟩ = some (.int .i64 m.pr.bed.sectors) := X741.out.cell 2
      have q748 : v739.cell? ⟨w.heap.size, 3, none⟩ = some (s0) := X741.out.cell 3
      have q749 : v739.cell? ⟨w.heap.size, 4, none⟩ = some (.int .i64 m.pr.run.eye) := X741.out.cell 4
      have q750 : v739.cell? ⟨w.heap.size, 5, none⟩ = some (.int .i64 m.pr.run.rings) := X741.out.cell 5
      have q751 : v739.cell? ⟨w.heap.size, 6, none⟩ = some (.int .i64 m.pr.run.sectors) := X741.out.cell 6
      have q752 : v739.cell? ⟨w.heap.size, 7, none⟩ = some (r0) := X741.out.cell 7
      have q753 : v739.cell? ⟨w.heap.size, 8, none⟩ = some (.slice DA dn dc) := X741.out.cell 8
      have q754 : v739.cell? ⟨w.heap.size, 9, none⟩ = some (.slice GA gn gc) := X741.out.cell 9
      have q755 : v739.cell? ⟨w.heap.size + 1, 0, none⟩ = some (c0) := X742.out.cell 0
      have q756 : v739.cell? ⟨w.heap.size + 1, 1, none⟩ = some (c1) := X742.out.cell 1
      have q757 : v739.cell? ⟨w.heap.size + 1, 2, none⟩ = some (c2) := X742.out.cell 2
      have q758 : v739.cell? ⟨w.heap.size + 1, 3, none⟩ = some (c3) := X742.out.cell 3
      have q759 : v739.cell? ⟨w.heap.size + 1, 4, none⟩ = some (.int .i64 a) := X742.out.cell 4
      have q760 : v739.cell? ⟨w.heap.size + 1, 5, none⟩ = some (.int .i64 b) := X742.out.cell 5
      have q761 : v739.cell? ⟨w.heap.size + 1, 6, none⟩ = some (.int .i64 t) := X742.out.cell 6
      have q762 : v739.cell? ⟨w.heap.size + 1, 7, none⟩ = some (.int .i64 size) := X742.out.cell 7
      have q763 : v739.cell? ⟨w.heap.size + 1, 8, none⟩ = some (.int .i64 cuts) := X742.out.cell 8
      have q764 : v739.cell? ⟨w.heap.size + 1, 9, none⟩ = some (.int .i64 mo) := X742.out.cell 9
      have q765 : v739.cell? ⟨w.heap.size + 1, 10, none⟩ = some (.int .i64 ms) := X742.out.cell 10
      have q766 : v739.cell? ⟨w.heap.size + 1, 11, none⟩ = some (.bool mc) := X742.out.cell 11
      have q767 : v739.cell? ⟨w.heap.size + 1, 12, none⟩ = some (c12) := X742.out.cell 12
      have q768 : v739.cell? ⟨w.heap.size + 1, 13, none⟩ = some (c13) := X742.out.cell 13
      have q769 : v739.cell? ⟨w.heap.size + 1, 14, none⟩ = some (c14) := X742.out.cell 14
      have q770 : v739.cell? ⟨w.heap.size + 1, 15, none⟩ = some (c15) := X742.out.cell 15
      have q771 : v739.cell? ⟨w.heap.size + 1, 16, none⟩ = some (c16) := X742.out.cell 16
      have q772 : v739.cell? ⟨w.heap.size + 1, 17, none⟩ = some (c17) := X742.out.cell 17
      go_wp2_with fail
      refine (rBitesB_c m a b t size cuts _ _ C743.out).mono ?_; rintro e v773 ⟨rfl, hb774⟩
      have X775 := Lib.hid (X741.out.later hb774)
      have X776 := Lib.hid (X742.out.later hb774)
      have C777 := Lib.hid (C743.out.later hb774)
      have B778 := Lib.hid (B744.out.trans (hb774.mono B744.out.size))
      clear hb774
      rw [HBB.out, HGE.out]
      clear q745 q746 q747 q748 q749 q750 q751 q752 q753 q754 q755 q756 q757 q758 q759 q760 q761 q762 q763 q764 q765 q766 q767 q768 q769 q770 q771 q772
      have q779 : v773.cell? ⟨w.heap.size, 0, none⟩ = some (.int .i64 m.pr.bed.eye) := X775.out.cell 0
      have q780 : v773.cell? ⟨w.heap.size, 1, none⟩ = some (.int .i64 m.pr.bed.rings) := X775.out.cell 1
      have q781 : v773.cell? ⟨w.heap.size, 2, none⟩ = some (.int .i64 m.pr.bed.sectors) := X775.out.cell 2
      have q782 : v773.cell? ⟨w.heap.size, 3, none⟩ = some (s0) := X775.out.cell 3
      have q783 : v773.cell? ⟨w.heap.size, 4, none⟩ = some (.int .i64 m.pr.run.eye) := X775.out.cell 4
      have q784 : v773.cell? ⟨w.heap.size, 5, none⟩ = some (.int .i64 m.pr.run.rings) := X775.out.cell 5
      have q785 : v773.cell? ⟨w.heap.size, 6, none⟩ = some (.int .i64 m.pr.run.sectors) := X775.out.cell 6
      have q786 : v773.cell? ⟨w.heap.size, 7, none⟩ = some (r0) := X775.out.cell 7
      have q787 : v773.cell? ⟨w.heap.size, 8, none⟩ = some (.slice DA dn dc) := X775.out.cell 8
      have q788 : v773.cell? ⟨w.heap.size, 9, none⟩ = some (.slice GA gn gc) := X775.out.cell 9
      have q789 : v773.cell? ⟨w.heap.size + 1, 0, none⟩ = some (c0) := X776.out.cell 0
      have q790 : v773.cell? ⟨w.heap.size + 1, 1, none⟩ = some (c1) := X776.out.cell 1
      have q791 : v773.cell? ⟨w.heap.size + 1, 2, none⟩ = some (c2) := X776.out.cell 2
      have q792 : v773.cell? ⟨w.heap.size + 1, 3, none⟩ = some (c3) := X776.out.cell 3
      have q793 : v773.cell? ⟨w.heap.size + 1, 4, none⟩ = some (.int .i64 a) := X776.out.cell 4
      have q794 : v773.cell? ⟨w.heap.size + 1, 5, none⟩ = some (.int .i64 b) := X776.out.cell 5
      have q795 : v773.cell? ⟨w.heap.size + 1, 6, none⟩ = some (.int .i64 t) := X776.out.cell 6
      have q796 : v773.cell? ⟨w.heap.size + 1, 7, none⟩ = some (.int .i64 size) := X776.out.cell 7
      have q797 : v773.cell? ⟨w.heap.size + 1, 8, none⟩ = some (.int .i64 cuts) := X776.out.cell 8
      have q798 : v773.cell? ⟨w.heap.size + 1, 9, none⟩ = some (.int .i64 mo) := X776.out.cell 9
      have q799 : v773.cell? ⟨w.heap.size + 1, 10, none⟩ = some (.int .i64 ms) := X776.out.cell 10
      have q800 : v773.cell? ⟨w.heap.size + 1, 11, none⟩ = some (.bool mc) := X776.out.cell 11
      have q801 : v773.cell? ⟨w.heap.size + 1, 12, none⟩ = some (c12) := X776.out.cell 12
      have q802 : v773.cell? ⟨w.heap.size + 1, 13, none⟩ = some (c13) := X776.out.cell 13
      have q803 : v773.cell? ⟨w.heap.size + 1, 14, none⟩ = some (c14) := X776.out.cell 14
      have q804 : v773.cell? ⟨w.heap.size + 1, 15, none⟩ = some (c15) := X776.out.cell 15
      have q805 : v773.cell? ⟨w.heap.size + 1, 16, none⟩ = some (c16) := X776.out.cell 16
      have q806 : v773.cell? ⟨w.heap.size + 1, 17, none⟩ = some (c17) := X776.out.cell 17
      go_wp2_with fail
      refine (AfterA_c m a b t size cuts mo ms mc _ _ C777.out).mono ?_; rintro e v807 ⟨rfl, hb808⟩
      have X809 := Lib.hid (X775.out.later hb808)
      have X810 := Lib.hid (X776.out.later hb808)
      have C811 := Lib.hid (C777.out.later hb808)
      have B812 := Lib.hid (B778.out.trans (hb808.mono B778.out.size))
      clear hb808
      rw [HAV.out, HAO.out, HAE.out]
      clear q779 q780 q781 q782 q783 q784 q785 q786 q787 q788 q789 q790 q791 q792 q793 q794 q795 q796 q797 q798 q799 q800 q801 q802 q803 q804 q805 q806
      have q813 : v807.cell? ⟨w.heap.size, 0, none⟩ = some (.int .i64 m.pr.bed.eye) := X809.out.cell 0
      have q814 : v807.cell? ⟨w.heap.size, 1, none⟩ = some (.int .i64 m.pr.bed.rings) := X809.out.cell 1
      have q815 : v807.cell? ⟨w.heap.size, 2, none⟩ = some (.int .i64 m.pr.bed.sectors) := X809.out.cell 2
      have q816 : v807.cell? ⟨w.heap.size, 3, none⟩ = some (s0) := X809.out.cell 3
      have q817 : v807.cell? ⟨w.heap.size, 4, none⟩ = some (.int .i64 m.pr.run.eye) := X809.out.cell 4
      have q818 : v807.cell? ⟨w.heap.size, 5, none⟩ = some (.int .i64 m.pr.run.rings) := X809.out.cell 5
      have q819 : v807.cell? ⟨w.heap.size, 6, none⟩ = some (.int .i64 m.pr.run.sectors) := X809.out.cell 6
      have q820 : v807.cell? ⟨w.heap.size, 7, none⟩ = some (r0) := X809.out.cell 7
      have q821 : v807.cell? ⟨w.heap.size, 8, none⟩ = some (.slice DA dn dc) := X809.out.cell 8
      have q822 : v807.cell? ⟨w.heap.size, 9, none⟩ = some (.slice GA gn gc) := X809.out.cell 9
      have q823 : v807.cell? ⟨w.heap.size + 1, 0, none⟩ = some (c0) := X810.out.cell 0
      have q824 : v807.cell? ⟨w.heap.size + 1, 1, none⟩ = some (c1) := X810.out.cell 1
      have q825 : v807.cell? ⟨w.heap.size + 1, 2, none⟩ = some (c2) := X810.out.cell 2
      have q826 : v807.cell? ⟨w.heap.size + 1, 3, none⟩ = some (c3) := X810.out.cell 3
      have q827 : v807.cell? ⟨w.heap.size + 1, 4, none⟩ = some (.int .i64 a) := X810.out.cell 4
      have q828 : v807.cell? ⟨w.heap.size + 1, 5, none⟩ = some (.int .i64 b) := X810.out.cell 5
      have q829 : v807.cell? ⟨w.heap.size + 1, 6, none⟩ = some (.int .i64 t) := X810.out.cell 6
      have q830 : v807.cell? ⟨w.heap.size + 1, 7, none⟩ = some (.int .i64 size) := X810.out.cell 7
      have q831 : v807.cell? ⟨w.heap.size + 1, 8, none⟩ = some (.int .i64 cuts) := X810.out.cell 8
      have q832 : v807.cell? ⟨w.heap.size + 1, 9, none⟩ = some (.int .i64 mo) := X810.out.cell 9
      have q833 : v807.cell? ⟨w.heap.size + 1, 10, none⟩ = some (.int .i64 ms) := X810.out.cell 10
      have q834 : v807.cell? ⟨w.heap.size + 1, 11, none⟩ = some (.bool mc) := X810.out.cell 11
      have q835 : v807.cell? ⟨w.heap.size + 1, 12, none⟩ = some (c12) := X810.out.cell 12
      have q836 : v807.cell? ⟨w.heap.size + 1, 13, none⟩ = some (c13) := X810.out.cell 13
      have q837 : v807.cell? ⟨w.heap.size + 1, 14, none⟩ = some (c14) := X810.out.cell 14
      have q838 : v807.cell? ⟨w.heap.size + 1, 15, none⟩ = some (c15) := X810.out.cell 15
      have q839 : v807.cell? ⟨w.heap.size + 1, 16, none⟩ = some (c16) := X810.out.cell 16
      have q840 : v807.cell? ⟨w.heap.size + 1, 17, none⟩ = some (c17) := X810.out.cell 17
      have X841 := Lib.hid (X809.out.alloc (.cells #[.int .i64 v0, .int .i64 v1, .int .i64 v2, .int .i64 v3, .int .i64 v4] 48))
      have X842 := Lib.hid (X810.out.alloc (.cells #[.int .i64 v0, .int .i64 v1, .int .i64 v2, .int .i64 v3, .int .i64 v4] 48))
      have C843 := Lib.hid (C811.out.later ((Below.refl v807.heap.size v807).alloc (Nat.le_refl _) (.cells #[.int .i64 v0, .int .i64 v1, .int .i64 v2, .int .i64 v3, .int .i64 v4] 48)))
      have B844 := Lib.hid (B812.out.alloc B812.out.size (.cells #[.int .i64 v0, .int .i64 v1, .int .i64 v2, .int .i64 v3, .int .i64 v4] 48))
      have X845 := Lib.hid (Box.made v807 48 #[.int .i64 v0, .int .i64 v1, .int .i64 v2, .int .i64 v3, .int .i64 v4])
      have q846 : (v807.alloc (.cells #[.int .i64 v0, .int .i64 v1, .int .i64 v2, .int .i64 v3, .int .i64 v4] 48)).cell? ⟨w.heap.size, 0, none⟩ = some (.int .i64 m.pr.bed.eye) := X841.out.cell 0
      have q847 : (v807.alloc (.cells #[.int .i64 v0, .int .i64 v1, .int .i64 v2, .int .i64 v3, .int .i64 v4] 48)).cell? ⟨w.heap.size, 1, none⟩ = some (.int .i64 m.pr.bed.rings) := X841.out.cell 1
      have q848 : (v807.alloc (.cells #[.int .i64 v0, .int .i64 v1, .int .i64 v2, .int .i64 v3, .int .i64 v4] 48)).cell? ⟨w.heap.size, 2, none⟩ = some (.int .i64 m.pr.bed.sectors) := X841.out.cell 2
      have q849 : (v807.alloc (.cells #[.int .i64 v0, .int .i64 v1, .int .i64 v2, .int .i64 v3, .int .i64 v4] 48)).cell? ⟨w.heap.size, 3, none⟩ = some (s0) := X841.out.cell 3
      have q850 : (v807.alloc (.cells #[.int .i64 v0, .int .i64 v1, .int .i64 v2, .int .i64 v3, .int .i64 v4] 48)).cell? ⟨w.heap.size, 4, none⟩ = some (.int .i64 m.pr.run.eye) := X841.out.cell 4
      have q851 : (v807.alloc (.cells #[.int .i64 v0, .int .i64 v1, .int .i64 v2, .int .i64 v3, .int .i64 v4] 48)).cell? ⟨w.heap.size, 5, none⟩ = some (.int .i64 m.pr.run.rings) := X841.out.cell 5
      have q852 : (v807.alloc (.cells #[.int .i64 v0, .int .i64 v1, .int .i64 v2, .int .i64 v3, .int .i64 v4] 48)).cell? ⟨w.heap.size, 6, none⟩ = some (.int .i64 m.pr.run.sectors) := X841.out.cell 6
      have q853 : (v807.alloc (.cells #[.int .i64 v0, .int .i64 v1, .int .i64 v2, .int .i64 v3, .int .i64 v4] 48)).cell? ⟨w.heap.size, 7, none⟩ = some (r0) := X841.out.cell 7
      have q854 : (v807.alloc (.cells #[.int .i64 v0, .int .i64 v1, .int .i64 v2, .int .i64 v3, .int .i64 v4] 48)).cell? ⟨w.heap.size, 8, none⟩ = some (.slice DA dn dc) := X841.out.cell 8
      have q855 : (v807.alloc (.cells #[.int .i64 v0, .int .i64 v1, .int .i64 v2, .int .i64 v3, .int .i64 v4] 48)).cell? ⟨w.heap.size, 9, none⟩ = some (.slice GA gn gc) := X841.out.cell 9
      have q856 : (v807.alloc (.cells #[.int .i64 v0, .int .i64 v1, .int .i64 v2, .int .i64 v3, .int .i64 v4] 48)).cell? ⟨w.heap.size + 1, 0, none⟩ = some (c0) := X842.out.cell 0
      have q857 : (v807.alloc (.cells #[.int .i64 v0, .int .i64 v1, .int .i64 v2, .int .i64 v3, .int .i64 v4] 48)).cell? ⟨w.heap.size + 1, 1, none⟩ = some (c1) := X842.out.cell 1
      have q858 : (v807.alloc (.cells #[.int .i64 v0, .int .i64 v1, .int .i64 v2, .int .i64 v3, .int .i64 v4] 48)).cell? ⟨w.heap.size + 1, 2, none⟩ = some (c2) := X842.out.cell 2
      have q859 : (v807.alloc (.cells #[.int .i64 v0, .int .i64 v1, .int .i64 v2, .int .i64 v3, .int .i64 v4] 48)).cell? ⟨w.heap.size + 1, 3, none⟩ = some (c3) := X842.out.cell 3
      have q860 : (v807.alloc (.cells #[.int .i64 v0, .int .i64 v1, .int .i64 v2, .int .i64 v3, .int .i64 v4] 48)).cell? ⟨w.heap.size + 1, 4, none⟩ = some (.int .i64 a) := X842.out.cell 4
      have q861 : (v807.alloc (.cells #[.int .i64 v0, .int .i64 v1, .int .i64 v2, .int .i64 v3, .int .i64 v4] 48)).cell? ⟨w.heap.size + 1, 5, none⟩ = some (.int .i64 b) := X842.out.cell 5
      have q862 : (v807.alloc (.cells #[.int .i64 v0, .int .i64 v1, .int .i64 v2, .int .i64 v3, .int .i64 v4] 48)).cell? ⟨w.heap.size + 1, 6, none⟩ = some (.int .i64 t) := X842.out.cell 6
      have q863 : (v807.alloc (.cells #[.int .i64 v0, .int .i64 v1, .int .i64 v2, .int .i64 v3, .int .i64 v4] 48)).cell? ⟨w.heap.size + 1, 7, none⟩ = some (.int .i64 size) := X842.out.cell 7
      have q864 : (v807.alloc (.cells #[.int .i64 v0, .int .i64 v1, .int .i64 v2, .int .i64 v3, .int .i64 v4] 48)).cell? ⟨w.heap.size + 1, 8, none⟩ = some (.int .i64 cuts) := X842.out.cell 8
      have q865 : (v807.alloc (.cells #[.int .i64 v0, .int .i64 v1, .int .i64 v2, .int .i64 v3, .int .i64 v4] 48)).cell? ⟨w.heap.size + 1, 9, none⟩ = some (.int .i64 mo) := X842.out.cell 9
      have q866 : (v807.alloc (.cells #[.int .i64 v0, .int .i64 v1, .int .i64 v2, .int .i64 v3, .int .i64 v4] 48)).cell? ⟨w.heap.size + 1, 10, none⟩ = some (.int .i64 ms) := X842.out.cell 10
      have q867 : (v807.alloc (.cells #[.int .i64 v0, .int .i64 v1, .int .i64 v2, .int .i64 v3, .int .i64 v4] 48)).cell? ⟨w.heap.size + 1, 11, none⟩ = some (.bool mc) := X842.out.cell 11
      have q868 : (v807.alloc (.cells #[.int .i64 v0, .int .i64 v1, .int .i64 v2, .int .i64 v3, .int .i64 v4] 48)).cell? ⟨w.heap.size + 1, 12, none⟩ = some (c12) := X842.out.cell 12
      have q869 : (v807.alloc (.cells #[.int .i64 v0, .int .i64 v1, .int .i64 v2, .int .i64 v3, .int .i64 v4] 48)).cell? ⟨w.heap.size + 1, 13, none⟩ = some (c13) := X842.out.cell 13
      have q870 : (v807.alloc (.cells #[.int .i64 v0, .int .i64 v1, .int .i64 v2, .int .i64 v3, .int .i64 v4] 48)).cell? ⟨w.heap.size + 1, 14, none⟩ = some (c14) := X842.out.cell 14
      have q871 : (v807.alloc (.cells #[.int .i64 v0, .int .i64 v1, .int .i64 v2, .int .i64 v3, .int .i64 v4] 48)).cell? ⟨w.heap.size + 1, 15, none⟩ = some (c15) := X842.out.cell 15
      have q872 : (v807.alloc (.cells #[.int .i64 v0, .int .i64 v1, .int .i64 v2, .int .i64 v3, .int .i64 v4] 48)).cell? ⟨w.heap.size + 1, 16, none⟩ = some (c16) := X842.out.cell 16
      have q873 : (v807.alloc (.cells #[.int .i64 v0, .int .i64 v1, .int .i64 v2, .int .i64 v3, .int .i64 v4] 48)).cell? ⟨w.heap.size + 1, 17, none⟩ = some (c17) := X842.out.cell 17
      have q874 : (v807.alloc (.cells #[.int .i64 v0, .int .i64 v1, .int .i64 v2, .int .i64 v3, .int .i64 v4] 48)).cell? ⟨v807.heap.size, 0, none⟩ = some (.int .i64 v0) := X845.out.cell 0
      have q875 : (v807.alloc (.cells #[.int .i64 v0, .int .i64 v1, .int .i64 v2, .int .i64 v3, .int .i64 v4] 48)).cell? ⟨v807.heap.size, 1, none⟩ = some (.int .i64 v1) := X845.out.cell 1
      have q876 : (v807.alloc (.cells #[.int .i64 v0, .int .i64 v1, .int .i64 v2, .int .i64 v3, .int .i64 v4] 48)).cell? ⟨v807.heap.size, 2, none⟩ = some (.int .i64 v2) := X845.out.cell 2
      have q877 : (v807.alloc (.cells #[.int .i64 v0, .int .i64 v1, .int .i64 v2, .int .i64 v3, .int .i64 v4] 48)).cell? ⟨v807.heap.size, 3, none⟩ = some (.int .i64 v3) := X845.out.cell 3
      have q878 : (v807.alloc (.cells #[.int .i64 v0, .int .i64 v1, .int .i64 v2, .int .i64 v3, .int .i64 v4] 48)).cell? ⟨v807.heap.size, 4, none⟩ = some (.int .i64 v4) := X845.out.cell 4
      go_wp2_with fail
      refine (rAfterA_c m a b t size cuts mo ms mc _ _ C843.out).mono ?_; rintro e v879 ⟨rfl, hb880⟩
      have X881 := Lib.hid (X841.out.later hb880)
      have X882 := Lib.hid (X842.out.later hb880)
      have X883 := Lib.hid (X845.out.later hb880)
      have C884 := Lib.hid (C843.out.later hb880)
      have B885 := Lib.hid (B844.out.trans (hb880.mono B844.out.size))
      clear hb880
      rw [HAV.out, HAO.out, HAE.out]
      clear q846 q847 q848 q849 q850 q851 q852 q853 q854 q855 q856 q857 q858 q859 q860 q861 q862 q863 q864 q865 q866 q867 q868 q869 q870 q871 q872 q873 q874 q875 q876 q877 q878 q813 q814 q815 q816 q817 q818 q819 q820 q821 q822 q823 q824 q825 q826 q827 q828 q829 q830 q831 q832 q833 q834 q835 q836 q837 q838 q839 q840
      have q886 : v879.cell? ⟨w.heap.size, 0, none⟩ = some (.int .i64 m.pr.bed.eye) := X881.out.cell 0
      have q887 : v879.cell? ⟨w.heap.size, 1, none⟩ = some (.int .i64 m.pr.bed.rings) := X881.out.cell 1
      have q888 : v879.cell? ⟨w.heap.size, 2, none⟩ = some (.int .i64 m.pr.bed.sectors) := X881.out.cell 2
      have q889 : v879.cell? ⟨w.heap.size, 3, none⟩ = some (s0) := X881.out.cell 3
      have q890 : v879.cell? ⟨w.heap.size, 4, none⟩ = some (.int .i64 m.pr.run.eye) := X881.out.cell 4
      have q891 : v879.cell? ⟨w.heap.size, 5, none⟩ = some (.int .i64 m.pr.run.rings) := X881.out.cell 5
      have q892 : v879.cell? ⟨w.heap.size, 6, none⟩ = some (.int .i64 m.pr.run.sectors) := X881.out.cell 6
      have q893 : v879.cell? ⟨w.heap.size, 7, none⟩ = some (r0) := X881.out.cell 7
      have q894 : v879.cell? ⟨w.heap.size, 8, none⟩ = some (.slice DA dn dc) := X881.out.cell 8
      have q895 : v879.cell? ⟨w.heap.size, 9, none⟩ = some (.slice GA gn gc) := X881.out.cell 9
      have q896 : v879.cell? ⟨w.heap.size + 1, 0, none⟩ = some (c0) := X882.out.cell 0
      have q897 : v879.cell? ⟨w.heap.size + 1, 1, none⟩ = some (c1) := X882.out.cell 1
      have q898 : v879.cell? ⟨w.heap.size + 1, 2, none⟩ = some (c2) := X882.out.cell 2
      have q899 : v879.cell? ⟨w.heap.size + 1, 3, none⟩ = some (c3) := X882.out.cell 3
      have q900 : v879.cell? ⟨w.heap.size + 1, 4, none⟩ = some (.int .i64 a) := X882.out.cell 4
      have q901 : v879.cell? ⟨w.heap.size + 1, 5, none⟩ = some (.int .i64 b) := X882.out.cell 5
      have q902 : v879.cell? ⟨w.heap.size + 1, 6, none⟩ = some (.int .i64 t) := X882.out.cell 6
      have q903 : v879.cell? ⟨w.heap.size + 1, 7, none⟩ = some (.int .i64 size) := X882.out.cell 7
      have q904 : v879.cell? ⟨w.heap.size + 1, 8, none⟩ = some (.int .i64 cuts) := X882.out.cell 8
      have q905 : v879.cell? ⟨w.heap.size + 1, 9, none⟩ = some (.int .i64 mo) := X882.out.cell 9
      have q906 : v879.cell? ⟨w.heap.size + 1, 10, none⟩ = some (.int .i64 ms) := X882.out.cell 10
      have q907 : v879.cell? ⟨w.heap.size + 1, 11, none⟩ = some (.bool mc) := X882.out.cell 11
      have q908 : v879.cell? ⟨w.heap.size + 1, 12, none⟩ = some (c12) := X882.out.cell 12
      have q909 : v879.cell? ⟨w.heap.size + 1, 13, none⟩ = some (c13) := X882.out.cell 13
      have q910 : v879.cell? ⟨w.heap.size + 1, 14, none⟩ = some (c14) := X882.out.cell 14
      have q911 : v879.cell? ⟨w.heap.size + 1, 15, none⟩ = some (c15) := X882.out.cell 15
      have q912 : v879.cell? ⟨w.heap.size + 1, 16, none⟩ = some (c16) := X882.out.cell 16
      have q913 : v879.cell? ⟨w.heap.size + 1, 17, none⟩ = some (c17) := X882.out.cell 17
      have q914 : v879.cell? ⟨v807.heap.size, 0, none⟩ = some (.int .i64 v0) := X883.out.cell 0
      have q915 : v879.cell? ⟨v807.heap.size, 1, none⟩ = some (.int .i64 v1) := X883.out.cell 1
      have q916 : v879.cell? ⟨v807.heap.size, 2, none⟩ = some (.int .i64 v2) := X883.out.cell 2
      have q917 : v879.cell? ⟨v807.heap.size, 3, none⟩ = some (.int .i64 v3) := X883.out.cell 3
      have q918 : v879.cell? ⟨v807.heap.size, 4, none⟩ = some (.int .i64 v4) := X883.out.cell 4
      have LT919 := Lib.hid X883.out.lt
      have X920 := Lib.hid (X881.out.alloc (.cells #[.int .i64 v0, .int .i64 v1, .int .i64 v2, .int .i64 v3, .int .i64 v4] 48))
      have X921 := Lib.hid (X882.out.alloc (.cells #[.int .i64 v0, .int .i64 v1, .int .i64 v2, .int .i64 v3, .int .i64 v4] 48))
      have X922 := Lib.hid (X883.out.alloc (.cells #[.int .i64 v0, .int .i64 v1, .int .i64 v2, .int .i64 v3, .int .i64 v4] 48))
      have C923 := Lib.hid (C884.out.later ((Below.refl v879.heap.size v879).alloc (Nat.le_refl _) (.cells #[.int .i64 v0, .int .i64 v1, .int .i64 v2, .int .i64 v3, .int .i64 v4] 48)))
      have B924 := Lib.hid (B885.out.alloc B885.out.size (.cells #[.int .i64 v0, .int .i64 v1, .int .i64 v2, .int .i64 v3, .int .i64 v4] 48))
      have X925 := Lib.hid (Box.made v879 48 #[.int .i64 v0, .int .i64 v1, .int .i64 v2, .int .i64 v3, .int .i64 v4])
      have q926 : (v879.alloc (.cells #[.int .i64 v0, .int .i64 v1, .int .i64 v2, .int .i64 v3, .int .i64 v4] 48)).cell? ⟨w.heap.size, 0, none⟩ = some (.int .i64 m.pr.bed.eye) := X920.out.cell 0
      have q927 : (v879.alloc (.cells #[.int .i64 v0, .int .i64 v1, .int .i64 v2, .int .i64 v3, .int .i64 v4] 48)).cell? ⟨w.heap.size, 1, none⟩ = some (.int .i64 m.pr.bed.rings) := X920.out.cell 1
      have q928 : (v879.alloc (.cells #[.int .i64 v0, .int .i64 v1, .int .i64 v2, .int .i64 v3, .int .i64 v4] 48)).cell? ⟨w.heap.size, 2, none⟩ = some (.int .i64 m.pr.bed.sectors) := X920.out.cell 2
      have q929 : (v879.alloc (.cells #[.int .i64 v0, .int .i64 v1, .int .i64 v2, .int .i64 v3, .int .i64 v4] 48)).cell? ⟨w.heap.size, 3, none⟩ = some (s0) := X920.out.cell 3
      have q930 : (v879.alloc (.cells #[.int .i64 v0, .int .i64 v1, .int .i64 v2, .int .i64 v3, .int .i64 v4] 48)).cell? ⟨w.heap.size, 4, none⟩ = some (.int .i64 m.pr.run.eye) := X920.out.cell 4
      have q931 : (v879.alloc (.cells #[.int .i64 v0, .int .i64 v1, .int .i64 v2, .int .i64 v3, .int .i64 v4] 48)).cell? ⟨w.heap.size, 5, none⟩ = some (.int .i64 m.pr.run.rings) := X920.out.cell 5
      have q932 : (v879.alloc (.cells #[.int .i64 v0, .int .i64 v1, .int .i64 v2, .int .i64 v3, .int .i64 v4] 48)).cell? ⟨w.heap.size, 6, none⟩ = some (.int .i64 m.pr.run.sectors) := X920.out.cell 6
      have q933 : (v879.alloc (.cells #[.int .i64 v0, .int .i64 v1, .int .i64 v2, .int .i64 v3, .int .i64 v4] 48)).cell? ⟨w.heap.size, 7, none⟩ = some (r0) := X920.out.cell 7
      have q934 : (v879.alloc (.cells #[.int .i64 v0, .int .i64 v1, .int .i64 v2, .int .i64 v3, .int .i64 v4] 48)).cell? ⟨w.heap.size, 8, none⟩ = some (.slice DA dn dc) := X920.out.cell 8
      have q935 : (v879.alloc (.cells #[.int .i64 v0, .int .i64 v1, .int .i64 v2, .int .i64 v3, .int .i64 v4] 48)).cell? ⟨w.heap.size, 9, none⟩ = some (.slice GA gn gc) := X920.out.cell 9
      have q936 : (v879.alloc (.cells #[.int .i64 v0, .int .i64 v1, .int .i64 v2, .int .i64 v3, .int .i64 v4] 48)).cell? ⟨w.heap.size + 1, 0, none⟩ = some (c0) := X921.out.cell 0
      have q937 : (v879.alloc (.cells #[.int .i64 v0, .int .i64 v1, .int .i64 v2, .int .i64 v3, .int .i64 v4] 48)).cell? ⟨w.heap.size + 1, 1, none⟩ = some (c1) := X921.out.cell 1
      have q938 : (v879.alloc (.cells #[.int .i64 v0, .int .i64 v1, .int .i64 v2, .int .i64 v3, .int .i64 v4] 48)).cell? ⟨w.heap.size + 1, 2, none⟩ = some (c2) := X921.out.cell 2
      have q939 : (v879.alloc (.cells #[.int .i64 v0, .int .i64 v1, .int .i64 v2, .int .i64 v3, .int .i64 v4] 48)).cell? ⟨w.heap.size + 1, 3, none⟩ = some (c3) := X921.out.cell 3
      have q940 : (v879.alloc (.cells #[.int .i64 v0, .int .i64 v1, .int .i64 v2, .int .i64 v3, .int .i64 v4] 48)).cell? ⟨w.heap.size + 1, 4, none⟩ = some (.int .i64 a) := X921.out.cell 4
      have q941 : (v879.alloc (.cells #[.int .i64 v0, .int .i64 v1, .int .i64 v2, .int .i64 v3, .int .i64 v4] 48)).cell? ⟨w.heap.size + 1, 5, none⟩ = some (.int .i64 b) := X921.out.cell 5
      have q942 : (v879.alloc (.cells #[.int .i64 v0, .int .i64 v1, .int .i64 v2, .int .i64 v3, .int .i64 v4] 48)).cell? ⟨w.heap.size + 1, 6, none⟩ = some (.int .i64 t) := X921.out.cell 6
      have q943 : (v879.alloc (.cells #[.int .i64 v0, .int .i64 v1, .int .i64 v2, .int .i64 v3, .int .i64 v4] 48)).cell? ⟨w.heap.size + 1, 7, none⟩ = some (.int .i64 size) := X921.out.cell 7
      have q944 : (v879.alloc (.cells #[.int .i64 v0, .int .i64 v1, .int .i64 v2, .int .i64 v3, .int .i64 v4] 48)).cell? ⟨w.heap.size + 1, 8, none⟩ = some (.int .i64 cuts) := X921.out.cell 8
      have q945 : (v879.alloc (.cells #[.int .i64 v0, .int .i64 v1, .int .i64 v2, .int .i64 v3, .int .i64 v4] 48)).cell? ⟨w.heap.size + 1, 9, none⟩ = some (.int .i64 mo) := X921.out.cell 9
      have q946 : (v879.alloc (.cells #[.int .i64 v0, .int .i64 v1, .int .i64 v2, .int .i64 v3, .int .i64 v4] 48)).cell? ⟨w.heap.size + 1, 10, none⟩ = some (.int .i64 ms) := X921.out.cell 10
      have q947 : (v879.alloc (.cells #[.int .i64 v0, .int .i64 v1, .int .i64 v2, .int .i64 v3, .int .i64 v4] 48)).cell? ⟨w.heap.size + 1, 11, none⟩ = some (.bool mc) := X921.out.cell 11
      have q948 : (v879.alloc (.cells #[.int .i64 v0, .int .i64 v1, .int .i64 v2, .int .i64 v3, .int .i64 v4] 48)).cell? ⟨w.heap.size + 1, 12, none⟩ = some (c12) := X921.out.cell 12
      have q949 : (v879.alloc (.cells #[.int .i64 v0, .int .i64 v1, .int .i64 v2, .int .i64 v3, .int .i64 v4] 48)).cell? ⟨w.heap.size + 1, 13, none⟩ = some (c13) := X921.out.cell 13
      have q950 : (v879.alloc (.cells #[.int .i64 v0, .int .i64 v1, .int .i64 v2, .int .i64 v3, .int .i64 v4] 48)).cell? ⟨w.heap.size + 1, 14, none⟩ = some (c14) := X921.out.cell 14
      have q951 : (v879.alloc (.cells #[.int .i64 v0, .int .i64 v1, .int .i64 v2, .int .i64 v3, .int .i64 v4] 48)).cell? ⟨w.heap.size + 1, 15, none⟩ = some (c15) := X921.out.cell 15
      have q952 : (v879.alloc (.cells #[.int .i64 v0, .int .i64 v1, .int .i64 v2, .int .i64 v3, .int .i64 v4] 48)).cell? ⟨w.heap.size + 1, 16, none⟩ = some (c16) := X921.out.cell 16
      have q953 : (v879.alloc (.cells #[.int .i64 v0, .int .i64 v1, .int .i64 v2, .int .i64 v3, .int .i64 v4] 48)).cell? ⟨w.heap.size + 1, 17, none⟩ = some (c17) := X921.out.cell 17
      have q954 : (v879.alloc (.cells #[.int .i64 v0, .int .i64 v1, .int .i64 v2, .int .i64 v3, .int .i64 v4] 48)).cell? ⟨v807.heap.size, 0, none⟩ = some (.int .i64 v0) := X922.out.cell 0
      have q955 : (v879.alloc (.cells #[.int .i64 v0, .int .i64 v1, .int .i64 v2, .int .i64 v3, .int .i64 v4] 48)).cell? ⟨v807.heap.size, 1, none⟩ = some (.int .i64 v1) := X922.out.cell 1
      have q956 : (v879.alloc (.cells #[.int .i64 v0, .int .i64 v1, .int .i64 v2, .int .i64 v3, .int .i64 v4] 48)).cell? ⟨v807.heap.size, 2, none⟩ = some (.int .i64 v2) := X922.out.cell 2
      have q957 : (v879.alloc (.cells #[.int .i64 v0, .int .i64 v1, .int .i64 v2, .int .i64 v3, .int .i64 v4] 48)).cell? ⟨v807.heap.size, 3, none⟩ = some (.int .i64 v3) := X922.out.cell 3
      have q958 : (v879.alloc (.cells #[.int .i64 v0, .int .i64 v1, .int .i64 v2, .int .i64 v3, .int .i64 v4] 48)).cell? ⟨v807.heap.size, 4, none⟩ = some (.int .i64 v4) := X922.out.cell 4
      have q959 : (v879.alloc (.cells #[.int .i64 v0, .int .i64 v1, .int .i64 v2, .int .i64 v3, .int .i64 v4] 48)).cell? ⟨v879.heap.size, 0, none⟩ = some (.int .i64 v0) := X925.out.cell 0
      have q960 : (v879.alloc (.cells #[.int .i64 v0, .int .i64 v1, .int .i64 v2, .int .i64 v3, .int .i64 v4] 48)).cell? ⟨v879.heap.size, 1, none⟩ = some (.int .i64 v1) := X925.out.cell 1
      have q961 : (v879.alloc (.cells #[.int .i64 v0, .int .i64 v1, .int .i64 v2, .int .i64 v3, .int .i64 v4] 48)).cell? ⟨v879.heap.size, 2, none⟩ = some (.int .i64 v2) := X925.out.cell 2
      have q962 : (v879.alloc (.cells #[.int .i64 v0, .int .i64 v1, .int .i64 v2, .int .i64 v3, .int .i64 v4] 48)).cell? ⟨v879.heap.size, 3, none⟩ = some (.int .i64 v3) := X925.out.cell 3
      have q963 : (v879.alloc (.cells #[.int .i64 v0, .int .i64 v1, .int .i64 v2, .int .i64 v3, .int .i64 v4] 48)).cell? ⟨v879.heap.size, 4, none⟩ = some (.int .i64 v4) := X925.out.cell 4
      have hE := HEQ.out
      go_wp2_with fail
      go_ret
      exact ⟨rfl, B924.out⟩

end Go.Proofs.YtikfiallhmhicaaGreat

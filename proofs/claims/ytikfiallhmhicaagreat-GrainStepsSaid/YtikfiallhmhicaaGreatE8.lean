/- Layer 3: grains behind moves, with all errors, and the law on steps. -/
import Derived.Test.YtikfiallhmhicaaGreatE6
import Derived.Test.YtikfiallhmhicaaGreatE7
set_option linter.all false
namespace Go.Proofs.YtikfiallhmhicaaGreat
open Go.RowKit

set_option maxRecDepth 100000 in
set_option maxHeartbeats 8000000 in
theorem rAfter_bad (m : Ml) (a b t size cuts mo ms : Int) (mc : Bool) (v : Value) (w : World) (hm : IsMill w w.heap.size v m) (h0 : grE m ⟨a, b, t⟩ size cuts ≠ 0) : Calls Tryz.prog 19 #[v, .agg #[.int .i64 a, .int .i64 b, .int .i64 t, .int .i64 size, .int .i64 cuts], .agg #[.int .i64 mo, .int .i64 ms, .bool mc]] w fun e w' => e = .returned (.tuple #[.agg #[.int .i64 0, .int .i64 0, .int .i64 0, .int .i64 0, .int .i64 0], .bool false, .int .i64 (grE m ⟨a, b, t⟩ size cuts)]) ∧ Below w.heap.size w w' := by
  obtain ⟨s, r, d, gv, hmv, i1, i2, i3, i4⟩ := _root_.id hm
  subst hmv
  have HM0 := Lib.hid hm
  have HP0 := Lib.hid (show IsPair w w.heap.size (pairV m.pr s r d) m.pr from ⟨s, r, d, rfl, i1, i2, i3⟩)
  clear hm i1 i2 i3 i4
  unfold millV pairV at *
  have HE := Lib.hid h0
  have n1 : (grE m ⟨a, b, t⟩ size cuts != 0) = true := by simpa using h0
  have n2 : decide (grE m ⟨a, b, t⟩ size cuts = 0) = false := by simpa using h0
  clear h0
  go_enter Tryz.func19, Tryz.ntmps19
  go_wp2_with fail
  obtain ⟨W180, hW181⟩ : ∃ Wzz, ((((w.alloc (.cells #[.int .i64 m.pr.bed.eye, .int .i64 m.pr.bed.rings, .int .i64 m.pr.bed.sectors, s, .int .i64 m.pr.run.eye, .int .i64 m.pr.run.rings, .int .i64 m.pr.run.sectors, r, d, gv] 33)).alloc (.cells #[.int .i64 a, .int .i64 b, .int .i64 t, .int .i64 size, .int .i64 cuts] 48)).alloc (.cells #[.int .i64 mo, .int .i64 ms, .bool mc] 50)).alloc (.cells #[.int .i64 0, .int .i64 0, .int .i64 0, .int .i64 0, .int .i64 0] 48)) = Wzz := ⟨_, rfl⟩
  have B182 := Lib.hid (show Below w.heap.size w W180 by rw [← hW181]; exact (((((Below.refl w.heap.size w).alloc (Nat.le_refl _) _).alloc (by first | (simp; done) | (simp; omega)) _).alloc (by first | (simp; done) | (simp; omega)) _).alloc (by first | (simp; done) | (simp; omega)) _))
  have X183 := Lib.hid (show Box W180 (w.heap.size) 33 #[.int .i64 m.pr.bed.eye, .int .i64 m.pr.bed.rings, .int .i64 m.pr.bed.sectors, s, .int .i64 m.pr.run.eye, .int .i64 m.pr.run.rings, .int .i64 m.pr.run.sectors, r, d, gv] by rw [← hW181]; exact Box.alloc (Box.alloc (Box.alloc (Box.made w 33 #[.int .i64 m.pr.bed.eye, .int .i64 m.pr.bed.rings, .int .i64 m.pr.bed.sectors, s, .int .i64 m.pr.run.eye, .int .i64 m.pr.run.rings, .int .i64 m.pr.run.sectors, r, d, gv]) (.cells #[.int .i64 a, .int .i64 b, .int .i64 t, .int .i64 size, .int .i64 cuts] 48)) (.cells #[.int .i64 mo, .int .i64 ms, .bool mc] 50)) (.cells #[.int .i64 0, .int .i64 0, .int .i64 0, .int .i64 0, .int .i64 0] 48))
  have X184 := Lib.hid (show Box W180 (w.heap.size + 1) 48 #[.int .i64 a, .int .i64 b, .int .i64 t, .int .i64 size, .int .i64 cuts] by
    have hz := Box.alloc (Box.alloc (Box.made (w.alloc (.cells #[.int .i64 m.pr.bed.eye, .int .i64 m.pr.bed.rings, .int .i64 m.pr.bed.sectors, s, .int .i64 m.pr.run.eye, .int .i64 m.pr.run.rings, .int .i64 m.pr.run.sectors, r, d, gv] 33)) 48 #[.int .i64 a, .int .i64 b, .int .i64 t, .int .i64 size, .int .i64 cuts]) (.cells #[.int .i64 mo, .int .i64 ms, .bool mc] 50)) (.cells #[.int .i64 0, .int .i64 0, .int .i64 0, .int .i64 0, .int .i64 0] 48)
    rw [World.size_alloc] at hz
    rw [← hW181]; exact hz)
  have X185 := Lib.hid (show Box W180 (w.heap.size + 1 + 1) 50 #[.int .i64 mo, .int .i64 ms, .bool mc] by
    have hz := Box.alloc (Box.made ((w.alloc (.cells #[.int .i64 m.pr.bed.eye, .int .i64 m.pr.bed.rings, .int .i64 m.pr.bed.sectors, s, .int .i64 m.pr.run.eye, .int .i64 m.pr.run.rings, .int .i64 m.pr.run.sectors, r, d, gv] 33)).alloc (.cells #[.int .i64 a, .int .i64 b, .int .i64 t, .int .i64 size, .int .i64 cuts] 48)) 50 #[.int .i64 mo, .int .i64 ms, .bool mc]) (.cells #[.int .i64 0, .int .i64 0, .int .i64 0, .int .i64 0, .int .i64 0] 48)
    rw [World.size_alloc, World.size_alloc] at hz
    rw [← hW181]; exact hz)
  have X186 := Lib.hid (show Box W180 (w.heap.size + 1 + 1 + 1) 48 #[.int .i64 0, .int .i64 0, .int .i64 0, .int .i64 0, .int .i64 0] by
    have hz := Box.made (((w.alloc (.cells #[.int .i64 m.pr.bed.eye, .int .i64 m.pr.bed.rings, .int .i64 m.pr.bed.sectors, s, .int .i64 m.pr.run.eye, .int .i64 m.pr.run.rings, .int .i64 m.pr.run.sectors, r, d, gv] 33)).alloc (.cells #[.int .i64 a, .int .i64 b, .int .i64 t, .int .i64 size, .int .i64 cuts] 48)).alloc (.cells #[.int .i64 mo, .int .i64 ms, .bool mc] 50)) 48 #[.int .i64 0, .int .i64 0, .int .i64 0, .int .i64 0, .int .i64 0]
    rw [World.size_alloc, World.size_alloc, World.size_alloc] at hz
    rw [← hW181]; exact hz)
  have C187 := Lib.hid (HM0.out.later B182.out)
  have C188 := Lib.hid (HP0.out.later B182.out)
  have SZ189 := Lib.hid (show W180.heap.size = w.heap.size + 1 + 1 + 1 + 1 by rw [← hW181]; simp)
  rw [hW181]
  clear hW181
  have q190 : W180.cell? ⟨w.heap.size, 0, none⟩ = some (.int .i64 m.pr.bed.eye) := X183.out.cell 0
  have q191 : W180.cell? ⟨w.heap.size, 1, none⟩ = some (.int .i64 m.pr.bed.rings) := X183.out.cell 1
  have q192 : W180.cell? ⟨w.heap.size, 2, none⟩ = some (.int .i64 m.pr.bed.sectors) := X183.out.cell 2
  have q193 : W180.cell? ⟨w.heap.size, 3, none⟩ = some (s) := X183.out.cell 3
  have q194 : W180.cell? ⟨w.heap.size, 4, none⟩ = some (.int .i64 m.pr.run.eye) := X183.out.cell 4
  have q195 : W180.cell? ⟨w.heap.size, 5, none⟩ = some (.int .i64 m.pr.run.rings) := X183.out.cell 5
  have q196 : W180.cell? ⟨w.heap.size, 6, none⟩ = some (.int .i64 m.pr.run.sectors) := X183.out.cell 6
  have q197 : W180.cell? ⟨w.heap.size, 7, none⟩ = some (r) := X183.out.cell 7
  have q198 : W180.cell? ⟨w.heap.size, 8, none⟩ = some (d) := X183.out.cell 8
  have q199 : W180.cell? ⟨w.heap.size, 9, none⟩ = some (gv) := X183.out.cell 9
  have q200 : W180.cell? ⟨w.heap.size + 1, 0, none⟩ = some (.int .i64 a) := X184.out.cell 0
  have q201 : W180.cell? ⟨w.heap.size + 1, 1, none⟩ = some (.int .i64 b) := X184.out.cell 1
  have q202 : W180.cell? ⟨w.heap.size + 1, 2, none⟩ = some (.int .i64 t) := X184.out.cell 2
  have q203 : W180.cell? ⟨w.heap.size + 1, 3, none⟩ = some (.int .i64 size) := X184.out.cell 3
  have q204 : W180.cell? ⟨w.heap.size + 1, 4, none⟩ = some (.int .i64 cuts) := X184.out.cell 4
  have q205 : W180.cell? ⟨w.heap.size + 1 + 1, 0, none⟩ = some (.int .i64 mo) := X185.out.cell 0
  have q206 : W180.cell? ⟨w.heap.size + 1 + 1, 1, none⟩ = some (.int .i64 ms) := X185.out.cell 1
  have q207 : W180.cell? ⟨w.heap.size + 1 + 1, 2, none⟩ = some (.bool mc) := X185.out.cell 2
  have q208 : W180.cell? ⟨w.heap.size + 1 + 1 + 1, 0, none⟩ = some (.int .i64 0) := X186.out.cell 0
  have q209 : W180.cell? ⟨w.heap.size + 1 + 1 + 1, 1, none⟩ = some (.int .i64 0) := X186.out.cell 1
  have q210 : W180.cell? ⟨w.heap.size + 1 + 1 + 1, 2, none⟩ = some (.int .i64 0) := X186.out.cell 2
  have q211 : W180.cell? ⟨w.heap.size + 1 + 1 + 1, 3, none⟩ = some (.int .i64 0) := X186.out.cell 3
  have q212 : W180.cell? ⟨w.heap.size + 1 + 1 + 1, 4, none⟩ = some (.int .i64 0) := X186.out.cell 4
  have fz213 : ∀ o, W180.frozen? ⟨w.heap.size + 1 + 1 + 1, o, none⟩ = false := fun o => X186.out.free o
  go_wp2_with fail
  refine (rBites_bad m a b t size cuts _ _ C187.out HE.out).mono ?_; rintro e v214 ⟨rfl, hb215⟩
  have X216 := Lib.hid (X183.out.later hb215)
  have X217 := Lib.hid (X184.out.later hb215)
  have X218 := Lib.hid (X185.out.later hb215)
  have X219 := Lib.hid (X186.out.later hb215)
  have C220 := Lib.hid (C187.out.later hb215)
  have C221 := Lib.hid (C188.out.later hb215)
  have B222 := Lib.hid (B182.out.trans (hb215.mono B182.out.size))
  clear hb215
  clear q190 q191 q192 q193 q194 q195 q196 q197 q198 q199 q200 q201 q202 q203 q204 q205 q206 q207 q208 q209 q210 q211 q212 fz213
  have q223 : v214.cell? ⟨w.heap.size, 0, none⟩ = some (.int .i64 m.pr.bed.eye) := X216.out.cell 0
  have q224 : v214.cell? ⟨w.heap.size, 1, none⟩ = some (.int .i64 m.pr.bed.rings) := X216.out.cell 1
  have q225 : v214.cell? ⟨w.heap.size, 2, none⟩ = some (.int .i64 m.pr.bed.sectors) := X216.out.cell 2
  have q226 : v214.cell? ⟨w.heap.size, 3, none⟩ = some (s) := X216.out.cell 3
  have q227 : v214.cell? ⟨w.heap.size, 4, none⟩ = some (.int .i64 m.pr.run.eye) := X216.out.cell 4
  have q228 : v214.cell? ⟨w.heap.size, 5, none⟩ = some (.int .i64 m.pr.run.rings) := X216.out.cell 5
  have q229 : v214.cell? ⟨w.heap.size, 6, none⟩ = some (.int .i64 m.pr.run.sectors) := X216.out.cell 6
  have q230 : v214.cell? ⟨w.heap.size, 7, none⟩ = some (r) := X216.out.cell 7
  have q231 : v214.cell? ⟨w.heap.size, 8, none⟩ = some (d) := X216.out.cell 8
  have q232 : v214.cell? ⟨w.heap.size, 9, none⟩ = some (gv) := X216.out.cell 9
  have q233 : v214.cell? ⟨w.heap.size + 1, 0, none⟩ = some (.int .i64 a) := X217.out.cell 0
  have q234 : v214.cell? ⟨w.heap.size + 1, 1, none⟩ = some (.int .i64 b) := X217.out.cell 1
  have q235 : v214.cell? ⟨w.heap.size + 1, 2, none⟩ = some (.int .i64 t) := X217.out.cell 2
  have q236 : v214.cell? ⟨w.heap.size + 1, 3, none⟩ = some (.int .i64 size) := X217.out.cell 3
  have q237 : v214.cell? ⟨w.heap.size + 1, 4, none⟩ = some (.int .i64 cuts) := X217.out.cell 4
  have q238 : v214.cell? ⟨w.heap.size + 1 + 1, 0, none⟩ = some (.int .i64 mo) := X218.out.cell 0
  have q239 : v214.cell? ⟨w.heap.size + 1 + 1, 1, none⟩ = some (.int .i64 ms) := X218.out.cell 1
  have q240 : v214.cell? ⟨w.heap.size + 1 + 1, 2, none⟩ = some (.bool mc) := X218.out.cell 2
  have q241 : v214.cell? ⟨w.heap.size + 1 + 1 + 1, 0, none⟩ = some (.int .i64 0) := X219.out.cell 0
  have q242 : v214.cell? ⟨w.heap.size + 1 + 1 + 1, 1, none⟩ = some (.int .i64 0) := X219.out.cell 1
  have q243 : v214.cell? ⟨w.heap.size + 1 + 1 + 1, 2, none⟩ = some (.int .i64 0) := X219.out.cell 2
  have q244 : v214.cell? ⟨w.heap.size + 1 + 1 + 1, 3, none⟩ = some (.int .i64 0) := X219.out.cell 3
  have q245 : v214.cell? ⟨w.heap.size + 1 + 1 + 1, 4, none⟩ = some (.int .i64 0) := X219.out.cell 4
  have fz246 : ∀ o, v214.frozen? ⟨w.heap.size + 1 + 1 + 1, o, none⟩ = false := fun o => X219.out.free o
  go_wp2_with fail
  (try simp only [Exit.inBlock, Exit.then])
  refine grainEnd3 (t := 6) (u := 7) (q := 8) (x := .bool false) (y := .int .i64 (grE m ⟨a, b, t⟩ size cuts)) (v := .tuple #[.agg #[.int .i64 0, .int .i64 0, .int .i64 0, .int .i64 0, .int .i64 0], .bool false, .int .i64 (grE m ⟨a, b, t⟩ size cuts)]) ?_ ?_ ?_ ?_ (((((X219.out.put 0 (.int .i64 0)).put 1 (.int .i64 0)).put 2 (.int .i64 0)).put 3 (.int .i64 0)).put 4 (.int .i64 0)) (((((B222.out.setCell (by first | (simp; done) | (simp; omega) | omega) _).setCell (by first | (simp; done) | (simp; omega) | omega) _).setCell (by first | (simp; done) | (simp; omega) | omega) _).setCell (by first | (simp; done) | (simp; omega) | omega) _).setCell (by first | (simp; done) | (simp; omega) | omega) _) ?_
  all_goals first | rfl | skip

set_option maxRecDepth 100000 in
set_option maxHeartbeats 8000000 in
theorem rAfter_none (m : Ml) (a b t size cuts mo ms : Int) (mc : Bool) (v : Value) (w : World) (hm : IsMill w w.heap.size v m) (h0 : grE m ⟨a, b, t⟩ size cuts = 0) (hh : hasM (movesL m.pr ⟨a, b, t⟩) ⟨mo, ms, mc⟩ = false) : Calls Tryz.prog 19 #[v, .agg #[.int .i64 a, .int .i64 b, .int .i64 t, .int .i64 size, .int .i64 cuts], .agg #[.int .i64 mo, .int .i64 ms, .bool mc]] w fun e w' => e = .returned (.tuple #[.agg #[.int .i64 0, .int .i64 0, .int .i64 0, .int .i64 0, .int .i64 0], .bool false, .int .i64 1]) ∧ Below w.heap.size w w' := by
  obtain ⟨s, r, d, gv, hmv, i1, i2, i3, i4⟩ := _root_.id hm
  subst hmv
  have HM0 := Lib.hid hm
  have HP0 := Lib.hid (show IsPair w w.heap.size (pairV m.pr s r d) m.pr from ⟨s, r, d, rfl, i1, i2, i3⟩)
  clear hm i1 i2 i3 i4
  unfold millV pairV at *
  have HE := Lib.hid h0
  have HH := Lib.hid hh
  clear h0 hh
  go_enter Tryz.func19, Tryz.ntmps19
  go_wp2_with fail
  obtain ⟨W247, hW248⟩ : ∃ Wzz, ((((w.alloc (.cells #[.int .i64 m.pr.bed.eye, .int .i64 m.pr.bed.rings, .int .i64 m.pr.bed.sectors, s, .int .i64 m.pr.run.eye, .int .i64 m.pr.run.rings, .int .i64 m.pr.run.sectors, r, d, gv] 33)).alloc (.cells #[.int .i64 a, .int .i64 b, .int .i64 t, .int .i64 size, .int .i64 cuts] 48)).alloc (.cells #[.int .i64 mo, .int .i64 ms, .bool mc] 50)).alloc (.cells #[.int .i64 0, .int .i64 0, .int .i64 0, .int .i64 0, .int .i64 0] 48)) = Wzz := ⟨_, rfl⟩
  have B249 := Lib.hid (show Below w.heap.size w W247 by rw [← hW248]; exact (((((Below.refl w.heap.size w).alloc (Nat.le_refl _) _).alloc (by first | (simp; done) | (simp; omega)) _).alloc (by first | (simp; done) | (simp; omega)) _).alloc (by first | (simp; done) | (simp; omega)) _))
  have X250 := Lib.hid (show Box W247 (w.heap.size) 33 #[.int .i64 m.pr.bed.eye, .int .i64 m.pr.bed.rings, .int .i64 m.pr.bed.sectors, s, .int .i64 m.pr.run.eye, .int .i64 m.pr.run.rings, .int .i64 m.pr.run.sectors, r, d, gv] by rw [← hW248]; exact Box.alloc (Box.alloc (Box.alloc (Box.made w 33 #[.int .i64 m.pr.bed.eye, .int .i64 m.pr.bed.rings, .int .i64 m.pr.bed.sectors, s, .int .i64 m.pr.run.eye, .int .i64 m.pr.run.rings, .int .i64 m.pr.run.sectors, r, d, gv]) (.cells #[.int .i64 a, .int .i64 b, .int .i64 t, .int .i64 size, .int .i64 cuts] 48)) (.cells #[.int .i64 mo, .int .i64 ms, .bool mc] 50)) (.cells #[.int .i64 0, .int .i64 0, .int .i64 0, .int .i64 0, .int .i64 0] 48))
  have X251 := Lib.hid (show Box W247 (w.heap.size + 1) 48 #[.int .i64 a, .int .i64 b, .int .i64 t, .int .i64 size, .int .i64 cuts] by
    have hz := Box.alloc (Box.alloc (Box.made (w.alloc (.cells #[.int .i64 m.pr.bed.eye, .int .i64 m.pr.bed.rings, .int .i64 m.pr.bed.sectors, s, .int .i64 m.pr.run.eye, .int .i64 m.pr.run.rings, .int .i64 m.pr.run.sectors, r, d, gv] 33)) 48 #[.int .i64 a, .int .i64 b, .int .i64 t, .int .i64 size, .int .i64 cuts]) (.cells #[.int .i64 mo, .int .i64 ms, .bool mc] 50)) (.cells #[.int .i64 0, .int .i64 0, .int .i64 0, .int .i64 0, .int .i64 0] 48)
    rw [World.size_alloc] at hz
    rw [← hW248]; exact hz)
  have X252 := Lib.hid (show Box W247 (w.heap.size + 1 + 1) 50 #[.int .i64 mo, .int .i64 ms, .bool mc] by
    have hz := Box.alloc (Box.made ((w.alloc (.cells #[.int .i64 m.pr.bed.eye, .int .i64 m.pr.bed.rings, .int .i64 m.pr.bed.sectors, s, .int .i64 m.pr.run.eye, .int .i64 m.pr.run.rings, .int .i64 m.pr.run.sectors, r, d, gv] 33)).alloc (.cells #[.int .i64 a, .int .i64 b, .int .i64 t, .int .i64 size, .int .i64 cuts] 48)) 50 #[.int .i64 mo, .int .i64 ms, .bool mc]) (.cells #[.int .i64 0, .int .i64 0, .int .i64 0, .int .i64 0, .int .i64 0] 48)
    rw [World.size_alloc, World.size_alloc] at hz
    rw [← hW248]; exact hz)
  have X253 := Lib.hid (show Box W247 (w.heap.size + 1 + 1 + 1) 48 #[.int .i64 0, .int .i64 0, .int .i64 0, .int .i64 0, .int .i64 0] by
    have hz := Box.made (((w.alloc (.cells #[.int .i64 m.pr.bed.eye, .int .i64 m.pr.bed.rings, .int .i64 m.pr.bed.sectors, s, .int .i64 m.pr.run.eye, .int .i64 m.pr.run.rings, .int .i64 m.pr.run.sectors, r, d, gv] 33)).alloc (.cells #[.int .i64 a, .int .i64 b, .int .i64 t, .int .i64 size, .int .i64 cuts] 48)).alloc (.cells #[.int .i64 mo, .int .i64 ms, .bool mc] 50)) 48 #[.int .i64 0, .int .i64 0, .int .i64 0, .int .i64 0, .int .i64 0]
    rw [World.size_alloc, World.size_alloc, World.size_alloc] at hz
    rw [← hW248]; exact hz)
  have C254 := Lib.hid (HM0.out.later B249.out)
  have C255 := Lib.hid (HP0.out.later B249.out)
  have SZ256 := Lib.hid (show W247.heap.size = w.heap.size + 1 + 1 + 1 + 1 by rw [← hW248]; simp)
  rw [hW248]
  clear hW248
  have q257 : W247.cell? ⟨w.heap.size, 0, none⟩ = some (.int .i64 m.pr.bed.eye) := X250.out.cell 0
  have q258 : W247.cell? ⟨w.heap.size, 1, none⟩ = some (.int .i64 m.pr.bed.rings) := X250.out.cell 1
  have q259 : W247.cell? ⟨w.heap.size, 2, none⟩ = some (.int .i64 m.pr.bed.sectors) := X250.out.cell 2
  have q260 : W247.cell? ⟨w.heap.size, 3, none⟩ = some (s) := X250.out.cell 3
  have q261 : W247.cell? ⟨w.heap.size, 4, none⟩ = some (.int .i64 m.pr.run.eye) := X250.out.cell 4
  have q262 : W247.cell? ⟨w.heap.size, 5, none⟩ = some (.int .i64 m.pr.run.rings) := X250.out.cell 5
  have q263 : W247.cell? ⟨w.heap.size, 6, none⟩ = some (.int .i64 m.pr.run.sectors) := X250.out.cell 6
  have q264 : W247.cell? ⟨w.heap.size, 7, none⟩ = some (r) := X250.out.cell 7
  have q265 : W247.cell? ⟨w.heap.size, 8, none⟩ = some (d) := X250.out.cell 8
  have q266 : W247.cell? ⟨w.heap.size, 9, none⟩ = some (gv) := X250.out.cell 9
  have q267 : W247.cell? ⟨w.heap.size + 1, 0, none⟩ = some (.int .i64 a) := X251.out.cell 0
  have q268 : W247.cell? ⟨w.heap.size + 1, 1, none⟩ = some (.int .i64 b) := X251.out.cell 1
  have q269 : W247.cell? ⟨w.heap.size + 1, 2, none⟩ = some (.int .i64 t) := X251.out.cell 2
  have q270 : W247.cell? ⟨w.heap.size + 1, 3, none⟩ = some (.int .i64 size) := X251.out.cell 3
  have q271 : W247.cell? ⟨w.heap.size + 1, 4, none⟩ = some (.int .i64 cuts) := X251.out.cell 4
  have q272 : W247.cell? ⟨w.heap.size + 1 + 1, 0, none⟩ = some (.int .i64 mo) := X252.out.cell 0
  have q273 : W247.cell? ⟨w.heap.size + 1 + 1, 1, none⟩ = some (.int .i64 ms) := X252.out.cell 1
  have q274 : W247.cell? ⟨w.heap.size + 1 + 1, 2, none⟩ = some (.bool mc) := X252.out.cell 2
  have q275 : W247.cell? ⟨w.heap.size + 1 + 1 + 1, 0, none⟩ = some (.int .i64 0) := X253.out.cell 0
  have q276 : W247.cell? ⟨w.heap.size + 1 + 1 + 1, 1, none⟩ = some (.int .i64 0) := X253.out.cell 1
  have q277 : W247.cell? ⟨w.heap.size + 1 + 1 + 1, 2, none⟩ = some (.int .i64 0) := X253.out.cell 2
  have q278 : W247.cell? ⟨w.heap.size + 1 + 1 + 1, 3, none⟩ = some (.int .i64 0) := X253.out.cell 3
  have q279 : W247.cell? ⟨w.heap.size + 1 + 1 + 1, 4, none⟩ = some (.int .i64 0) := X253.out.cell 4
  have fz280 : ∀ o, W247.frozen? ⟨w.heap.size + 1 + 1 + 1, o, none⟩ = false := fun o => X253.out.free o
  go_wp2_with fail
  refine (rBites_ok m a b t size cuts _ _ C254.out HE.out).mono ?_; rintro e v281 ⟨rfl, hb282⟩
  have X283 := Lib.hid (X250.out.later hb282)
  have X284 := Lib.hid (X251.out.later hb282)
  have X285 := Lib.hid (X252.out.later hb282)
  have X286 := Lib.hid (X253.out.later hb282)
  have C287 := Lib.hid (C254.out.later hb282)
  have C288 := Lib.hid (C255.out.later hb282)
  have B289 := Lib.hid (B249.out.trans (hb282.mono B249.out.size))
  clear hb282
  clear q257 q258 q259 q260 q261 q262 q263 q264 q265 q266 q267 q268 q269 q270 q271 q272 q273 q274 q275 q276 q277 q278 q279 fz280
  have q290 : v281.cell? ⟨w.heap.size, 0, none⟩ = some (.int .i64 m.pr.bed.eye) := X283.out.cell 0
  have q291 : v281.cell? ⟨w.heap.size, 1, none⟩ = some (.int .i64 m.pr.bed.rings) := X283.out.cell 1
  have q292 : v281.cell? ⟨w.heap.size, 2, none⟩ = some (.int .i64 m.pr.bed.sectors) := X283.out.cell 2
  have q293 : v281.cell? ⟨w.heap.size, 3, none⟩ = some (s) := X283.out.cell 3
  have q294 : v281.cell? ⟨w.heap.size, 4, none⟩ = some (.int .i64 m.pr.run.eye) := X283.out.cell 4
  have q295 : v281.cell? ⟨w.heap.size, 5, none⟩ = some (.int .i64 m.pr.run.rings) := X283.out.cell 5
  have q296 : v281.cell? ⟨w.heap.size, 6, none⟩ = some (.int .i64 m.pr.run.sectors) := X283.out.cell 6
  have q297 : v281.cell? ⟨w.heap.size, 7, none⟩ = some (r) := X283.out.cell 7
  have q298 : v281.cell? ⟨w.heap.size, 8, none⟩ = some (d) := X283.out.cell 8
  have q299 : v281.cell? ⟨w.heap.size, 9, none⟩ = some (gv) := X283.out.cell 9
  have q300 : v281.cell? ⟨w.heap.size + 1, 0, none⟩ = some (.int .i64 a) := X284.out.cell 0
  have q301 : v281.cell? ⟨w.heap.size + 1, 1, none⟩ = some (.int .i64 b) := X284.out.cell 1
  have q302 : v281.cell? ⟨w.heap.size + 1, 2, none⟩ = some (.int .i64 t) := X284.out.cell 2
  have q303 : v281.cell? ⟨w.heap.size + 1, 3, none⟩ = some (.int .i64 size) := X284.out.cell 3
  have q304 : v281.cell? ⟨w.heap.size + 1, 4, none⟩ = some (.int .i64 cuts) := X284.out.cell 4
  have q305 : v281.cell? ⟨w.heap.size + 1 + 1, 0, none⟩ = some (.int .i64 mo) := X285.out.cell 0
  have q306 : v281.cell? ⟨w.heap.size + 1 + 1, 1, none⟩ = some (.int .i64 ms) := X285.out.cell 1
  have q307 : v281.cell? ⟨w.heap.size + 1 + 1, 2, none⟩ = some (.bool mc) := X285.out.cell 2
  have q308 : v281.cell? ⟨w.heap.size + 1 + 1 + 1, 0, none⟩ = some (.int .i64 0) := X286.out.cell 0
  have q309 : v281.cell? ⟨w.heap.size + 1 + 1 + 1, 1, none⟩ = some (.int .i64 0) := X286.out.cell 1
  have q310 : v281.cell? ⟨w.heap.size + 1 + 1 + 1, 2, none⟩ = some (.int .i64 0) := X286.out.cell 2
  have q311 : v281.cell? ⟨w.heap.size + 1 + 1 + 1, 3, none⟩ = some (.int .i64 0) := X286.out.cell 3
  have q312 : v281.cell? ⟨w.heap.size + 1 + 1 + 1, 4, none⟩ = some (.int .i64 0) := X286.out.cell 4
  have fz313 : ∀ o, v281.frozen? ⟨w.heap.size + 1 + 1 + 1, o, none⟩ = false := fun o => X286.out.free o
  go_wp2_with fail
  have hdr360 : Below (v281).heap.size (v281) (v281).drew := (Below.refl _ _).drew
  have lt337 := X283.out.lt
  have lt338 := X283.out.lt
  have lt339 := X283.out.lt
  have lt340 := X283.out.lt
  have lt341 := X283.out.lt
  have lt342 := X283.out.lt
  have lt343 := X283.out.lt
  have lt344 := X283.out.lt
  have lt345 := X283.out.lt
  have lt346 := X283.out.lt
  have lt347 := X284.out.lt
  have lt348 := X284.out.lt
  have lt349 := X284.out.lt
  have lt350 := X284.out.lt
  have lt351 := X284.out.lt
  have lt352 := X285.out.lt
  have lt353 := X285.out.lt
  have lt354 := X285.out.lt
  have lt355 := X286.out.lt
  have lt356 := X286.out.lt
  have lt357 := X286.out.lt
  have lt358 := X286.out.lt
  have lt359 := X286.out.lt
  have hcall361 : ∀ X Y : World, (fun Wz => Wz.cell? ⟨w.heap.size, 0, none⟩ = some (.int .i64 m.pr.bed.eye) ∧ Wz.cell? ⟨w.heap.size, 1, none⟩ = some (.int .i64 m.pr.bed.rings) ∧ Wz.cell? ⟨w.heap.size, 2, none⟩ = some (.int .i64 m.pr.bed.sectors) ∧ Wz.cell? ⟨w.heap.size, 3, none⟩ = some (s) ∧ Wz.cell? ⟨w.heap.size, 4, none⟩ = some (.int .i64 m.pr.run.eye) ∧ Wz.cell? ⟨w.heap.size, 5, none⟩ = some (.int .i64 m.pr.run.rings) ∧ Wz.cell? ⟨w.heap.size, 6, none⟩ = some (.int .i64 m.pr.run.sectors) ∧ Wz.cell? ⟨w.heap.size, 7, none⟩ = some (r) ∧ Wz.cell? ⟨w.heap.size, 8, none⟩ = some (d) ∧ Wz.cell? ⟨w.heap.size, 9, none⟩ = some (gv) ∧ Wz.cell? ⟨w.heap.size + 1, 0, none⟩ = some (.int .i64 a) ∧ Wz.cell? ⟨w.heap.size + 1, 1, none⟩ = some (.int .i64 b) ∧ Wz.cell? ⟨w.heap.size + 1, 2, none⟩ = some (.int .i64 t) ∧ Wz.cell? ⟨w.heap.size + 1, 3, none⟩ = some (.int .i64 size) ∧ Wz.cell? ⟨w.heap.size + 1, 4, none⟩ = some (.int .i64 cuts) ∧ Wz.cell? ⟨w.heap.size + 1 + 1, 0, none⟩ = some (.int .i64 mo) ∧ Wz.cell? ⟨w.heap.size + 1 + 1, 1, none⟩ = some (.int .i64 ms) ∧ Wz.cell? ⟨w.heap.size + 1 + 1, 2, none⟩ = some (.bool mc) ∧ Wz.cell? ⟨w.heap.size + 1 + 1 + 1, 0, none⟩ = some (.int .i64 0) ∧ Wz.cell? ⟨w.heap.size + 1 + 1 + 1, 1, none⟩ = some (.int .i64 0) ∧ Wz.cell? ⟨w.heap.size + 1 + 1 + 1, 2, none⟩ = some (.int .i64 0) ∧ Wz.cell? ⟨w.heap.size + 1 + 1 + 1, 3, none⟩ = some (.int .i64 0) ∧ Wz.cell? ⟨w.heap.size + 1 + 1 + 1, 4, none⟩ = some (.int .i64 0) ∧ (v281).heap.size ≤ Wz.heap.size) X → Below X.heap.size X Y → (fun Wz => Wz.cell? ⟨w.heap.size, 0, none⟩ = some (.int .i64 m.pr.bed.eye) ∧ Wz.cell? ⟨w.heap.size, 1, none⟩ = some (.int .i64 m.pr.bed.rings) ∧ Wz.cell? ⟨w.heap.size, 2, none⟩ = some (.int .i64 m.pr.bed.sectors) ∧ Wz.cell? ⟨w.heap.size, 3, none⟩ = some (s) ∧ Wz.cell? ⟨w.heap.size, 4, none⟩ = some (.int .i64 m.pr.run.eye) ∧ Wz.cell? ⟨w.heap.size, 5, none⟩ = some (.int .i64 m.pr.run.rings) ∧ Wz.cell? ⟨w.heap.size, 6, none⟩ = some (.int .i64 m.pr.run.sectors) ∧ Wz.cell? ⟨w.heap.size, 7, none⟩ = some (r) ∧ Wz.cell? ⟨w.heap.size, 8, none⟩ = some (d) ∧ Wz.cell? ⟨w.heap.size, 9, none⟩ = some (gv) ∧ Wz.cell? ⟨w.heap.size + 1, 0, none⟩ = some (.int .i64 a) ∧ Wz.cell? ⟨w.heap.size + 1, 1, none⟩ = some (.int .i64 b) ∧ Wz.cell? ⟨w.heap.size + 1, 2, none⟩ = some (.int .i64 t) ∧ Wz.cell? ⟨w.heap.size + 1, 3, none⟩ = some (.int .i64 size) ∧ Wz.cell? ⟨w.heap.size + 1, 4, none⟩ = some (.int .i64 cuts) ∧ Wz.cell? ⟨w.heap.size + 1 + 1, 0, none⟩ = some (.int .i64 mo) ∧ Wz.cell? ⟨w.heap.size + 1 + 1, 1, none⟩ = some (.int .i64 ms) ∧ Wz.cell? ⟨w.heap.size + 1 + 1, 2, none⟩ = some (.bool mc) ∧ Wz.cell? ⟨w.heap.size + 1 + 1 + 1, 0, none⟩ = some (.int .i64 0) ∧ Wz.cell? ⟨w.heap.size + 1 + 1 + 1, 1, none⟩ = some (.int .i64 0) ∧ Wz.cell? ⟨w.heap.size + 1 + 1 + 1, 2, none⟩ = some (.int .i64 0) ∧ Wz.cell? ⟨w.heap.size + 1 + 1 + 1, 3, none⟩ = some (.int .i64 0) ∧ Wz.cell? ⟨w.heap.size + 1 + 1 + 1, 4, none⟩ = some (.int .i64 0) ∧ (v281).heap.size ≤ Wz.heap.size) Y := by
    rintro X Y ⟨z314, z315, z316, z317, z318, z319, z320, z321, z322, z323, z324, z325, z326, z327, z328, z329, z330, z331, z332, z333, z334, z335, z336, xs⟩ hb
    have hb2 := Below.mono (B' := (v281).heap.size) hb xs
    exact ⟨keepd z314 hb2 lt337, keepd z315 hb2 lt338, keepd z316 hb2 lt339, keepd z317 hb2 lt340, keepd z318 hb2 lt341, keepd z319 hb2 lt342, keepd z320 hb2 lt343, keepd z321 hb2 lt344, keepd z322 hb2 lt345, keepd z323 hb2 lt346, keepd z324 hb2 lt347, keepd z325 hb2 lt348, keepd z326 hb2 lt349, keepd z327 hb2 lt350, keepd z328 hb2 lt351, keepd z329 hb2 lt352, keepd z330 hb2 lt353, keepd z331 hb2 lt354, keepd z332 hb2 lt355, keepd z333 hb2 lt356, keepd z334 hb2 lt357, keepd z335 hb2 lt358, keepd z336 hb2 lt359, Nat.le_trans xs hb.size⟩
  have hini362 : (fun Wz => Wz.cell? ⟨w.heap.size, 0, none⟩ = some (.int .i64 m.pr.bed.eye) ∧ Wz.cell? ⟨w.heap.size, 1, none⟩ = some (.int .i64 m.pr.bed.rings) ∧ Wz.cell? ⟨w.heap.size, 2, none⟩ = some (.int .i64 m.pr.bed.sectors) ∧ Wz.cell? ⟨w.heap.size, 3, none⟩ = some (s) ∧ Wz.cell? ⟨w.heap.size, 4, none⟩ = some (.int .i64 m.pr.run.eye) ∧ Wz.cell? ⟨w.heap.size, 5, none⟩ = some (.int .i64 m.pr.run.rings) ∧ Wz.cell? ⟨w.heap.size, 6, none⟩ = some (.int .i64 m.pr.run.sectors) ∧ Wz.cell? ⟨w.heap.size, 7, none⟩ = some (r) ∧ Wz.cell? ⟨w.heap.size, 8, none⟩ = some (d) ∧ Wz.cell? ⟨w.heap.size, 9, none⟩ = some (gv) ∧ Wz.cell? ⟨w.heap.size + 1, 0, none⟩ = some (.int .i64 a) ∧ Wz.cell? ⟨w.heap.size + 1, 1, none⟩ = some (.int .i64 b) ∧ Wz.cell? ⟨w.heap.size + 1, 2, none⟩ = some (.int .i64 t) ∧ Wz.cell? ⟨w.heap.size + 1, 3, none⟩ = some (.int .i64 size) ∧ Wz.cell? ⟨w.heap.size + 1, 4, none⟩ = some (.int .i64 cuts) ∧ Wz.cell? ⟨w.heap.size + 1 + 1, 0, none⟩ = some (.int .i64 mo) ∧ Wz.cell? ⟨w.heap.size + 1 + 1, 1, none⟩ = some (.int .i64 ms) ∧ Wz.cell? ⟨w.heap.size + 1 + 1, 2, none⟩ = some (.bool mc) ∧ Wz.cell? ⟨w.heap.size + 1 + 1 + 1, 0, none⟩ = some (.int .i64 0) ∧ Wz.cell? ⟨w.heap.size + 1 + 1 + 1, 1, none⟩ = some (.int .i64 0) ∧ Wz.cell? ⟨w.heap.size + 1 + 1 + 1, 2, none⟩ = some (.int .i64 0) ∧ Wz.cell? ⟨w.heap.size + 1 + 1 + 1, 3, none⟩ = some (.int .i64 0) ∧ Wz.cell? ⟨w.heap.size + 1 + 1 + 1, 4, none⟩ = some (.int .i64 0) ∧ (v281).heap.size ≤ Wz.heap.size) (v281).drew := ⟨keepd (X283.out.cell 0) hdr360 lt337, keepd (X283.out.cell 1) hdr360 lt338, keepd (X283.out.cell 2) hdr360 lt339, keepd (X283.out.cell 3) hdr360 lt340, keepd (X283.out.cell 4) hdr360 lt341, keepd (X283.out.cell 5) hdr360 lt342, keepd (X283.out.cell 6) hdr360 lt343, keepd (X283.out.cell 7) hdr360 lt344, keepd (X283.out.cell 8) hdr360 lt345, keepd (X283.out.cell 9) hdr360 lt346, keepd (X284.out.cell 0) hdr360 lt347, keepd (X284.out.cell 1) hdr360 lt348, keepd (X284.out.cell 2) hdr360 lt349, keepd (X284.out.cell 3) hdr360 lt350, keepd (X284.out.cell 4) hdr360 lt351, keepd (X285.out.cell 0) hdr360 lt352, keepd (X285.out.cell 1) hdr360 lt353, keepd (X285.out.cell 2) hdr360 lt354, keepd (X286.out.cell 0) hdr360 lt355, keepd (X286.out.cell 1) hdr360 lt356, keepd (X286.out.cell 2) hdr360 lt357, keepd (X286.out.cell 3) hdr360 lt358, keepd (X286.out.cell 4) hdr360 lt359, Nat.le_refl _⟩
  have Hcall361 := Lib.hid hcall361
  have Hini362 := Lib.hid hini362
  clear hcall361 hini362 lt337 lt338 lt339 lt340 lt341 lt342 lt343 lt344 lt345 lt346 lt347 lt348 lt349 lt350 lt351 lt352 lt353 lt354 lt355 lt356 lt357 lt358 lt359
  clear q290 q291 q292 q293 q294 q295 q296 q297 q298 q299 q300 q301 q302 q303 q304 q305 q306 q307 q308 q309 q310 q311 q312 fz313
  refine wp_region_noPanic ?_
  refine wp_region_held_drew (S := (fun Wz => Wz.cell? ⟨w.heap.size, 0, none⟩ = some (.int .i64 m.pr.bed.eye) ∧ Wz.cell? ⟨w.heap.size, 1, none⟩ = some (.int .i64 m.pr.bed.rings) ∧ Wz.cell? ⟨w.heap.size, 2, none⟩ = some (.int .i64 m.pr.bed.sectors) ∧ Wz.cell? ⟨w.heap.size, 3, none⟩ = some (s) ∧ Wz.cell? ⟨w.heap.size, 4, none⟩ = some (.int .i64 m.pr.run.eye) ∧ Wz.cell? ⟨w.heap.size, 5, none⟩ = some (.int .i64 m.pr.run.rings) ∧ Wz.cell? ⟨w.heap.size, 6, none⟩ = some (.int .i64 m.pr.run.sectors) ∧ Wz.cell? ⟨w.heap.size, 7, none⟩ = some (r) ∧ Wz.cell? ⟨w.heap.size, 8, none⟩ = some (d) ∧ Wz.cell? ⟨w.heap.size, 9, none⟩ = some (gv) ∧ Wz.cell? ⟨w.heap.size + 1, 0, none⟩ = some (.int .i64 a) ∧ Wz.cell? ⟨w.heap.size + 1, 1, none⟩ = some (.int .i64 b) ∧ Wz.cell? ⟨w.heap.size + 1, 2, none⟩ = some (.int .i64 t) ∧ Wz.cell? ⟨w.heap.size + 1, 3, none⟩ = some (.int .i64 size) ∧ Wz.cell? ⟨w.heap.size + 1, 4, none⟩ = some (.int .i64 cuts) ∧ Wz.cell? ⟨w.heap.size + 1 + 1, 0, none⟩ = some (.int .i64 mo) ∧ Wz.cell? ⟨w.heap.size + 1 + 1, 1, none⟩ = some (.int .i64 ms) ∧ Wz.cell? ⟨w.heap.size + 1 + 1, 2, none⟩ = some (.bool mc) ∧ Wz.cell? ⟨w.heap.size + 1 + 1 + 1, 0, none⟩ = some (.int .i64 0) ∧ Wz.cell? ⟨w.heap.size + 1 + 1 + 1, 1, none⟩ = some (.int .i64 0) ∧ Wz.cell? ⟨w.heap.size + 1 + 1 + 1, 2, none⟩ = some (.int .i64 0) ∧ Wz.cell? ⟨w.heap.size + 1 + 1 + 1, 3, none⟩ = some (.int .i64 0) ∧ Wz.cell? ⟨w.heap.size + 1 + 1 + 1, 4, none⟩ = some (.int .i64 0) ∧ (v281).heap.size ≤ Wz.heap.size)) (by kernel_rfl) Hini362.out (fun hHeld => ?_)
  obtain ⟨W364, hW365⟩ : ∃ Wzz, (v281).drew = Wzz := ⟨_, rfl⟩
  rw [hW365] at hHeld hdr360 ⊢
  clear hW365
  have X366 := Lib.hid (X283.out.later hdr360)
  have X367 := Lib.hid (X284.out.later hdr360)
  have X368 := Lib.hid (X285.out.later hdr360)
  have X369 := Lib.hid (X286.out.later hdr360)
  have C370 := Lib.hid (C287.out.later hdr360)
  have C371 := Lib.hid (C288.out.later hdr360)
  have B372 := Lib.hid (B289.out.trans (hdr360.mono B289.out.size))
  clear hdr360
  refine wpAnyH_take (i := 0) (oi := { dst := some 23, op := Op.fieldAddr 33 (Operand.tmp 3) 0, type := 0, pos := "ref.go:158", after := #[], guard := none }) (v := ?vh373) rfl ?hsh373 ?hfh373 ?hrh373 ?hQh373 ?hyh373 (by assumption) ?resth373
  case hsh373 => kernel_rfl
  case hfh373 => kernel_rfl
  case hrh373 => kernel_rfl
  case hQh373 => exact fun _ _ _ h => h
  case hyh373 => (refine Or.inl ⟨by rfl, ?_⟩; intro w hSw; (try dsimp only at hSw); go_simp; try with_reducible rfl)
  try simp only [Act.put, List.setIfInBounds_toArray, List.set_cons_zero, List.set_cons_succ]
  refine wpAnyH_take (i := 1) (oi := { dst := some 24, op := Op.load 31 (Operand.tmp 23), type := 31, pos := "ref.go:158", after := #[{ on := 0, ground := Ground.data }], guard := none }) (v := ?vh374) rfl ?hsh374 ?hfh374 ?hrh374 ?hQh374 ?hyh374 (by assumption) ?resth374
  case hsh374 => kernel_rfl
  case hfh374 => kernel_rfl
  case hrh374 => kernel_rfl
  case hQh374 => exact fun _ _ _ h => h
  case hyh374 => (refine Or.inl ⟨by rfl, ?_⟩; intro w hSw; (try dsimp only at hSw); go_simp; try with_reducible rfl)
  try simp only [Act.put, List.setIfInBounds_toArray, List.set_cons_zero, List.set_cons_succ]
  refine wpAnyH_take (i := 2) (oi := { dst := some 25, op := Op.fieldAddr 48 (Operand.tmp 4) 0, type := 0, pos := "ref.go:158", after := #[], guard := none }) (v := ?vh375) rfl ?hsh375 ?hfh375 ?hrh375 ?hQh375 ?hyh375 (by assumption) ?resth375
  case hsh375 => kernel_rfl
  case hfh375 => kernel_rfl
  case hrh375 => kernel_rfl
  case hQh375 => exact fun _ _ _ h => h
  case hyh375 => (refine Or.inl ⟨by rfl, ?_⟩; intro w hSw; (try dsimp only at hSw); go_simp; try with_reducible rfl)
  try simp only [Act.put, List.setIfInBounds_toArray, List.set_cons_zero, List.set_cons_succ]
  refine wpAnyH_take (i := 3) (oi := { dst := some 26, op := Op.load 46 (Operand.tmp 25), type := 46, pos := "ref.go:158", after := #[{ on := 2, ground := Ground.data }], guard := none }) (v := ?vh376) rfl ?hsh376 ?hfh376 ?hrh376 ?hQh376 ?hyh376 (by assumption) ?resth376
  case hsh376 => kernel_rfl
  case hfh376 => kernel_rfl
  case hrh376 => kernel_rfl
  case hQh376 => exact fun _ _ _ h => h
  case hyh376 => (refine Or.inl ⟨by rfl, ?_⟩; intro w hSw; (try dsimp only at hSw); go_simp; try with_reducible rfl)
  try simp only [Act.put, List.setIfInBounds_toArray, List.set_cons_zero, List.set_cons_succ]
  refine wpAnyH_take (i := 5) (oi := { dst := some 28, op := Op.load 50 (Operand.tmp 5), type := 50, pos := "ref.go:158", after := #[], guard := none }) (v := ?vh377) rfl ?hsh377 ?hfh377 ?hrh377 ?hQh377 ?hyh377 (by assumption) ?resth377
  case hsh377 => kernel_rfl
  case hfh377 => kernel_rfl
  case hrh377 => kernel_rfl
  case hQh377 => exact fun _ _ _ h => h
  case hyh377 => (refine Or.inl ⟨by rfl, ?_⟩; intro w hSw; (try dsimp only at hSw); go_simp; try with_reducible rfl)
  try simp only [Act.put, List.setIfInBounds_toArray, List.set_cons_zero, List.set_cons_succ]
  refine wpAnyH_ready (rs := [4]) (by kernel_rfl) (by simp) ?_
  refine AllReadyH.cons (o := _) (by rfl) (fun K hK => ?_) AllReadyH.nil
  go_simp
  go_at_call 54
  refine (rmoves_c m.pr a b t _ _ C371.out (ckM_zero (agE_zero (grE_zero HE.out).1).1).1 (agE_zero (grE_zero HE.out).1).2.1).mono ?_; rintro e v378 ⟨⟨u, rfl, hu⟩, hb379⟩
  have X380 := Lib.hid (X366.out.later hb379)
  have X381 := Lib.hid (X367.out.later hb379)
  have X382 := Lib.hid (X368.out.later hb379)
  have X383 := Lib.hid (X369.out.later hb379)
  have C384 := Lib.hid (C370.out.later hb379)
  have C385 := Lib.hid (C371.out.later hb379)
  have B386 := Lib.hid (B372.out.trans (hb379.mono B372.out.size))
  clear X366 X367 X368 X369 C370 C371 B372
  have HUV := Lib.hid hu
  clear hu
  go_wp2_with fail
  refine hK.out _ _ (Hcall361.out _ _ hHeld (by assumption)) (fun hHeld387 => ?_)
  clear hK K hHeld
  clear hb379
  have hHeld := hHeld387
  clear hHeld387
  try simp only [Act.put, List.setIfInBounds_toArray, List.set_cons_zero, List.set_cons_succ]
  refine wpAnyH_ready (rs := [6]) (by kernel_rfl) (by simp) ?_
  refine AllReadyH.cons (o := _) (by rfl) (fun K hK => ?_) AllReadyH.nil
  go_simp
  go_at_call 53
  refine (rhas_c (movesL m.pr ⟨a, b, t⟩) mo ms mc u _ HUV.out (listB_parts (movesL_ok (ckM_zero (agE_zero (grE_zero HE.out).1).1).1 (agE_zero (grE_zero HE.out).1).2.1)).1.2).mono ?_; rintro e v388 ⟨rfl, hb389⟩
  have X390 := Lib.hid (X380.out.later hb389)
  have X391 := Lib.hid (X381.out.later hb389)
  have X392 := Lib.hid (X382.out.later hb389)
  have X393 := Lib.hid (X383.out.later hb389)
  have C394 := Lib.hid (C384.out.later hb389)
  have C395 := Lib.hid (C385.out.later hb389)
  have B396 := Lib.hid (B386.out.trans (hb389.mono B386.out.size))
  clear X380 X381 X382 X383 C384 C385 B386
  rw [HH.out]
  go_wp2_with fail
  refine hK.out _ _ (Hcall361.out _ _ hHeld (by assumption)) (fun hHeld397 => ?_)
  clear hK K hHeld
  clear hb389
  have hHeld := hHeld397
  clear hHeld397
  try simp only [Act.put, List.setIfInBounds_toArray, List.set_cons_zero, List.set_cons_succ]
  refine wpAnyH_take (i := 7) (oi := { dst := some 30, op := Op.unOp UnOp.not 4 (Operand.tmp 29), type := 4, pos := "ref.go:158", after := #[{ on := 6, ground := Ground.data }], guard := none }) (v := ?vh398) rfl ?hsh398 ?hfh398 ?hrh398 ?hQh398 ?hyh398 (by assumption) ?resth398
  case hsh398 => kernel_rfl
  case hfh398 => kernel_rfl
  case hrh398 => kernel_rfl
  case hQh398 => exact fun _ _ _ h => h
  case hyh398 => (refine Or.inl ⟨by rfl, ?_⟩; intro w hSw; (try dsimp only at hSw); go_simp; try with_reducible rfl)
  try simp only [Act.put, List.setIfInBounds_toArray, List.set_cons_zero, List.set_cons_succ]
  refine wpAnyH_done (by kernel_rfl) ?_ _
  refine NoPanic.normal ?_
  clear hHeld Hcall361 Hini362
  have q399 : v388.cell? ⟨w.heap.size, 0, none⟩ = some (.int .i64 m.pr.bed.eye) := X390.out.cell 0
  have q400 : v388.cell? ⟨w.heap.size, 1, none⟩ = some (.int .i64 m.pr.bed.rings) := X390.out.cell 1
  have q401 : v388.cell? ⟨w.heap.size, 2, none⟩ = some (.int .i64 m.pr.bed.sectors) := X390.out.cell 2
  have q402 : v388.cell? ⟨w.heap.size, 3, none⟩ = some (s) := X390.out.cell 3
  have q403 : v388.cell? ⟨w.heap.size, 4, none⟩ = some (.int .i64 m.pr.run.eye) := X390.out.cell 4
  have q404 : v388.cell? ⟨w.heap.size, 5, none⟩ = some (.int .i64 m.pr.run.rings) := X390.out.cell 5
  have q405 : v388.cell? ⟨w.heap.size, 6, none⟩ = some (.int .i64 m.pr.run.sectors) := X390.out.cell 6
  have q406 : v388.cell? ⟨w.heap.size, 7, none⟩ = some (r) := X390.out.cell 7
  have q407 : v388.cell? ⟨w.heap.size, 8, none⟩ = some (d) := X390.out.cell 8
  have q408 : v388.cell? ⟨w.heap.size, 9, none⟩ = some (gv) := X390.out.cell 9
  have q409 : v388.cell? ⟨w.heap.size + 1, 0, none⟩ = some (.int .i64 a) := X391.out.cell 0
  have q410 : v388.cell? ⟨w.heap.size + 1, 1, none⟩ = some (.int .i64 b) := X391.out.cell 1
  have q411 : v388.cell? ⟨w.heap.size + 1, 2, none⟩ = some (.int .i64 t) := X391.out.cell 2
  have q412 : v388.cell? ⟨w.heap.size + 1, 3, none⟩ = some (.int .i64 size) := X391.out.cell 3
  have q413 : v388.cell? ⟨w.heap.size + 1, 4, none⟩ = some (.int .i64 cuts) := X391.out.cell 4
  have q414 : v388.cell? ⟨w.heap.size + 1 + 1, 0, none⟩ = some (.int .i64 mo) := X392.out.cell 0
  have q415 : v388.cell? ⟨w.heap.size + 1 + 1, 1, none⟩ = some (.int .i64 ms) := X392.out.cell 1
  have q416 : v388.cell? ⟨w.heap.size + 1 + 1, 2, none⟩ = some (.bool mc) := X392.out.cell 2
  have q417 : v388.cell? ⟨w.heap.size + 1 + 1 + 1, 0, none⟩ = some (.int .i64 0) := X393.out.cell 0
  have q418 : v388.cell? ⟨w.heap.size + 1 + 1 + 1, 1, none⟩ = some (.int .i64 0) := X393.out.cell 1
  have q419 : v388.cell? ⟨w.heap.size + 1 + 1 + 1, 2, none⟩ = some (.int .i64 0) := X393.out.cell 2
  have q420 : v388.cell? ⟨w.heap.size + 1 + 1 + 1, 3, none⟩ = some (.int .i64 0) := X393.out.cell 3
  have q421 : v388.cell? ⟨w.heap.size + 1 + 1 + 1, 4, none⟩ = some (.int .i64 0) := X393.out.cell 4
  have fz422 : ∀ o, v388.frozen? ⟨w.heap.size + 1 + 1 + 1, o, none⟩ = false := fun o => X393.out.free o
  go_wp2_with fail
  (try simp only [Exit.inBlock, Exit.then])
  refine grainEnd3 (t := 6) (u := 7) (q := 8) (x := .bool false) (y := .int .i64 1) (v := .tuple #[.agg #[.int .i64 0, .int .i64 0, .int .i64 0, .int .i64 0, .int .i64 0], .bool false, .int .i64 1]) ?_ ?_ ?_ ?_ (((((X393.out.put 0 (.int .i64 0)).put 1 (.int .i64 0)).put 2 (.int .i64 0)).put 3 (.int .i64 0)).put 4 (.int .i64 0)) (((((B396.out.setCell (by first | (simp; done) | (simp; omega) | omega) _).setCell (by first | (simp; done) | (simp; omega) | omega) _).setCell (by first | (simp; done) | (simp; omega) | omega) _).setCell (by first | (simp; done) | (simp; omega) | omega) _).setCell (by first | (simp; done) | (simp; omega) | omega) _) ?_
  all_goals first | rfl | skip

set_option maxRecDepth 100000 in
set_option maxHeartbeats 8000000 in
theorem rAfter_ok (m : Ml) (a b t size cuts mo ms : Int) (mc : Bool) (v : Value) (w : World) (hm : IsMill w w.heap.size v m) (h0 : grE m ⟨a, b, t⟩ size cuts = 0) (hh : hasM (movesL m.pr ⟨a, b, t⟩) ⟨mo, ms, mc⟩ = true) : Calls Tryz.prog 19 #[v, .agg #[.int .i64 a, .int .i64 b, .int .i64 t, .int .i64 size, .int .i64 cuts], .agg #[.int .i64 mo, .int .i64 ms, .bool mc]] w fun e w' => e = .returned (.tuple #[stepV m ⟨a, b, t⟩ size cuts ⟨mo, ms, mc⟩, .bool (outB m.pr ⟨a, b, t⟩ ⟨mo, ms, mc⟩), .int .i64 0]) ∧ Below w.heap.size w w' := by
  obtain ⟨s, r, d, gv, hmv, i1, i2, i3, i4⟩ := _root_.id hm
  subst hmv
  have HM0 := Lib.hid hm
  have HP0 := Lib.hid (show IsPair w w.heap.size (pairV m.pr s r d) m.pr from ⟨s, r, d, rfl, i1, i2, i3⟩)
  clear hm i1 i2 i3 i4
  unfold millV pairV at *
  have HE := Lib.hid h0
  have HH := Lib.hid hh
  have HMV := Lib.hid (mvB_of_has (movesL_ok (ckM_zero (agE_zero (grE_zero HE.out).1).1).1 (agE_zero (grE_zero HE.out).1).2.1) hh)
  obtain ⟨ob, ho⟩ : ∃ s, outB m.pr ⟨a, b, t⟩ ⟨mo, ms, mc⟩ = s := ⟨_, rfl⟩
  obtain ⟨r0, r1, r2, r3, r4, hst⟩ : ∃ r0 r1 r2 r3 r4, stepV m ⟨a, b, t⟩ size cuts ⟨mo, ms, mc⟩ = .agg #[.int .i64 r0, .int .i64 r1, .int .i64 r2, .int .i64 r3, .int .i64 r4] := ⟨_, _, _, _, _, rfl⟩
  rw [ho, hst]
  have HO := Lib.hid ho
  have HST := Lib.hid hst
  clear h0 hh ho hst
  go_enter Tryz.func19, Tryz.ntmps19
  go_wp2_with fail
  obtain ⟨W423, hW424⟩ : ∃ Wzz, ((((w.alloc (.cells #[.int .i64 m.pr.bed.eye, .int .i64 m.pr.bed.rings, .int .i64 m.pr.bed.sectors, s, .int .i64 m.pr.run.eye, .int .i64 m.pr.run.rings, .int .i64 m.pr.run.sectors, r, d, gv] 33)).alloc (.cells #[.int .i64 a, .int .i64 b, .int .i64 t, .int .i64 size, .int .i64 cuts] 48)).alloc (.cells #[.int .i64 mo, .int .i64 ms, .bool mc] 50)).alloc (.cells #[.int .i64 0, .int .i64 0, .int .i64 0, .int .i64 0, .int .i64 0] 48)) = Wzz := ⟨_, rfl⟩
  have B425 := Lib.hid (show Below w.heap.size w W423 by rw [← hW424]; exact (((((Below.refl w.heap.size w).alloc (Nat.le_refl _) _).alloc (by first | (simp; done) | (simp; omega)) _).alloc (by first | (simp; done) | (simp; omega)) _).alloc (by first | (simp; done) | (simp; omega)) _))
  have X426 := Lib.hid (show Box W423 (w.heap.size) 33 #[.int .i64 m.pr.bed.eye, .int .i64 m.pr.bed.rings, .int .i64 m.pr.bed.sectors, s, .int .i64 m.pr.run.eye, .int .i64 m.pr.run.rings, .int .i64 m.pr.run.sectors, r, d, gv] by rw [← hW424]; exact Box.alloc (Box.alloc (Box.alloc (Box.made w 33 #[.int .i64 m.pr.bed.eye, .int .i64 m.pr.bed.rings, .int .i64 m.pr.bed.sectors, s, .int .i64 m.pr.run.eye, .int .i64 m.pr.run.rings, .int .i64 m.pr.run.sectors, r, d, gv]) (.cells #[.int .i64 a, .int .i64 b, .int .i64 t, .int .i64 size, .int .i64 cuts] 48)) (.cells #[.int .i64 mo, .int .i64 ms, .bool mc] 50)) (.cells #[.int .i64 0, .int .i64 0, .int .i64 0, .int .i64 0, .int .i64 0] 48))
  have X427 := Lib.hid (show Box W423 (w.heap.size + 1) 48 #[.int .i64 a, .int .i64 b, .int .i64 t, .int .i64 size, .int .i64 cuts] by
    have hz := Box.alloc (Box.alloc (Box.made (w.alloc (.cells #[.int .i64 m.pr.bed.eye, .int .i64 m.pr.bed.rings, .int .i64 m.pr.bed.sectors, s, .int .i64 m.pr.run.eye, .int .i64 m.pr.run.rings, .int .i64 m.pr.run.sectors, r, d, gv] 33)) 48 #[.int .i64 a, .int .i64 b, .int .i64 t, .int .i64 size, .int .i64 cuts]) (.cells #[.int .i64 mo, .int .i64 ms, .bool mc] 50)) (.cells #[.int .i64 0, .int .i64 0, .int .i64 0, .int .i64 0, .int .i64 0] 48)
    rw [World.size_alloc] at hz
    rw [← hW424]; exact hz)
  have X428 := Lib.hid (show Box W423 (w.heap.size + 1 + 1) 50 #[.int .i64 mo, .int .i64 ms, .bool mc] by
    have hz := Box.alloc (Box.made ((w.alloc (.cells #[.int .i64 m.pr.bed.eye, .int .i64 m.pr.bed.rings, .int .i64 m.pr.bed.sectors, s, .int .i64 m.pr.run.eye, .int .i64 m.pr.run.rings, .int .i64 m.pr.run.sectors, r, d, gv] 33)).alloc (.cells #[.int .i64 a, .int .i64 b, .int .i64 t, .int .i64 size, .int .i64 cuts] 48)) 50 #[.int .i64 mo, .int .i64 ms, .bool mc]) (.cells #[.int .i64 0, .int .i64 0, .int .i64 0, .int .i64 0, .int .i64 0] 48)
    rw [World.size_alloc, World.size_alloc] at hz
    rw [← hW424]; exact hz)
  have X429 := Lib.hid (show Box W423 (w.heap.size + 1 + 1 + 1) 48 #[.int .i64 0, .int .i64 0, .int .i64 0, .int .i64 0, .int .i64 0] by
    have hz := Box.made (((w.alloc (.cells #[.int .i64 m.pr.bed.eye, .int .i64 m.pr.bed.rings, .int .i64 m.pr.bed.sectors, s, .int .i64 m.pr.run.eye, .int .i64 m.pr.run.rings, .int .i64 m.pr.run.sectors, r, d, gv] 33)).alloc (.cells #[.int .i64 a, .int .i64 b, .int .i64 t, .int .i64 size, .int .i64 cuts] 48)).alloc (.cells #[.int .i64 mo, .int .i64 ms, .bool mc] 50)) 48 #[.int .i64 0, .int .i64 0, .int .i64 0, .int .i64 0, .int .i64 0]
    rw [World.size_alloc, World.size_alloc, World.size_alloc] at hz
    rw [← hW424]; exact hz)
  have C430 := Lib.hid (HM0.out.later B425.out)
  have C431 := Lib.hid (HP0.out.later B425.out)
  have SZ432 := Lib.hid (show W423.heap.size = w.heap.size + 1 + 1 + 1 + 1 by rw [← hW424]; simp)
  rw [hW424]
  clear hW424
  have q433 : W423.cell? ⟨w.heap.size, 0, none⟩ = some (.int .i64 m.pr.bed.eye) := X426.out.cell 0
  have q434 : W423.cell? ⟨w.heap.size, 1, none⟩ = some (.int .i64 m.pr.bed.rings) := X426.out.cell 1
  have q435 : W423.cell? ⟨w.heap.size, 2, none⟩ = some (.int .i64 m.pr.bed.sectors) := X426.out.cell 2
  have q436 : W423.cell? ⟨w.heap.size, 3, none⟩ = some (s) := X426.out.cell 3
  have q437 : W423.cell? ⟨w.heap.size, 4, none⟩ = some (.int .i64 m.pr.run.eye) := X426.out.cell 4
  have q438 : W423.cell? ⟨w.heap.size, 5, none⟩ = some (.int .i64 m.pr.run.rings) := X426.out.cell 5
  have q439 : W423.cell? ⟨w.heap.size, 6, none⟩ = some (.int .i64 m.pr.run.sectors) := X426.out.cell 6
  have q440 : W423.cell? ⟨w.heap.size, 7, none⟩ = some (r) := X426.out.cell 7
  have q441 : W423.cell? ⟨w.heap.size, 8, none⟩ = some (d) := X426.out.cell 8
  have q442 : W423.cell? ⟨w.heap.size, 9, none⟩ = some (gv) := X426.out.cell 9
  have q443 : W423.cell? ⟨w.heap.size + 1, 0, none⟩ = some (.int .i64 a) := X427.out.cell 0
  have q444 : W423.cell? ⟨w.heap.size + 1, 1, none⟩ = some (.int .i64 b) := X427.out.cell 1
  have q445 : W423.cell? ⟨w.heap.size + 1, 2, none⟩ = some (.int .i64 t) := X427.out.cell 2
  have q446 : W423.cell? ⟨w.heap.size + 1, 3, none⟩ = some (.int .i64 size) := X427.out.cell 3
  have q447 : W423.cell? ⟨w.heap.size + 1, 4, none⟩ = some (.int .i64 cuts) := X427.out.cell 4
  have q448 : W423.cell? ⟨w.heap.size + 1 + 1, 0, none⟩ = some (.int .i64 mo) := X428.out.cell 0
  have q449 : W423.cell? ⟨w.heap.size + 1 + 1, 1, none⟩ = some (.int .i64 ms) := X428.out.cell 1
  have q450 : W423.cell? ⟨w.heap.size + 1 + 1, 2, none⟩ = some (.bool mc) := X428.out.cell 2
  have q451 : W423.cell? ⟨w.heap.size + 1 + 1 + 1, 0, none⟩ = some (.int .i64 0) := X429.out.cell 0
  have q452 : W423.cell? ⟨w.heap.size + 1 + 1 + 1, 1, none⟩ = some (.int .i64 0) := X429.out.cell 1
  have q453 : W423.cell? ⟨w.heap.size + 1 + 1 + 1, 2, none⟩ = some (.int .i64 0) := X429.out.cell 2
  have q454 : W423.cell? ⟨w.heap.size + 1 + 1 + 1, 3, none⟩ = some (.int .i64 0) := X429.out.cell 3
  have q455 : W423.cell? ⟨w.heap.size + 1 + 1 + 1, 4, none⟩ = some (.int .i64 0) := X429.out.cell 4
  have fz456 : ∀ o, W423.frozen? ⟨w.heap.size + 1 + 1 + 1, o, none⟩ = false := fun o => X429.out.free o
  go_wp2_with fail
  refine (rBites_ok m a b t size cuts _ _ C430.out HE.out).mono ?_; rintro e v457 ⟨rfl, hb458⟩
  have X459 := Lib.hid (X426.out.later hb458)
  have X460 := Lib.hid (X427.out.later hb458)
  have X461 := Lib.hid (X428.out.later hb458)
  have X462 := Lib.hid (X429.out.later hb458)
  have C463 := Lib.hid (C430.out.later hb458)
  have C464 := Lib.hid (C431.out.later hb458)
  have B465 := Lib.hid (B425.out.trans (hb458.mono B425.out.size))
  clear hb458
  clear q433 q434 q435 q436 q437 q438 q439 q440 q441 q442 q443 q444 q445 q446 q447 q448 q449 q450 q451 q452 q453 q454 q455 fz456
  have q466 : v457.cell? ⟨w.heap.size, 0, none⟩ = some (.int .i64 m.pr.bed.eye) := X459.out.cell 0
  have q467 : v457.cell? ⟨w.heap.size, 1, none⟩ = some (.int .i64 m.pr.bed.rings) := X459.out.cell 1
  have q468 : v457.cell? ⟨w.heap.size, 2, none⟩ = some (.int .i64 m.pr.bed.sectors) := X459.out.cell 2
  have q469 : v457.cell? ⟨w.heap.size, 3, none⟩ = some (s) := X459.out.cell 3
  have q470 : v457.cell? ⟨w.heap.size, 4, none⟩ = some (.int .i64 m.pr.run.eye) := X459.out.cell 4
  have q471 : v457.cell? ⟨w.heap.size, 5, none⟩ = some (.int .i64 m.pr.run.rings) := X459.out.cell 5
  have q472 : v457.cell? ⟨w.heap.size, 6, none⟩ = some (.int .i64 m.pr.run.sectors) := X459.out.cell 6
  have q473 : v457.cell? ⟨w.heap.size, 7, none⟩ = some (r) := X459.out.cell 7
  have q474 : v457.cell? ⟨w.heap.size, 8, none⟩ = some (d) := X459.out.cell 8
  have q475 : v457.cell? ⟨w.heap.size, 9, none⟩ = some (gv) := X459.out.cell 9
  have q476 : v457.cell? ⟨w.heap.size + 1, 0, none⟩ = some (.int .i64 a) := X460.out.cell 0
  have q477 : v457.cell? ⟨w.heap.size + 1, 1, none⟩ = some (.int .i64 b) := X460.out.cell 1
  have q478 : v457.cell? ⟨w.heap.size + 1, 2, none⟩ = some (.int .i64 t) := X460.out.cell 2
  have q479 : v457.cell? ⟨w.heap.size + 1, 3, none⟩ = some (.int .i64 size) := X460.out.cell 3
  have q480 : v457.cell? ⟨w.heap.size + 1, 4, none⟩ = some (.int .i64 cuts) := X460.out.cell 4
  have q481 : v457.cell? ⟨w.heap.size + 1 + 1, 0, none⟩ = some (.int .i64 mo) := X461.out.cell 0
  have q482 : v457.cell? ⟨w.heap.size + 1 + 1, 1, none⟩ = some (.int .i64 ms) := X461.out.cell 1
  have q483 : v457.cell? ⟨w.heap.size + 1 + 1, 2, none⟩ = some (.bool mc) := X461.out.cell 2
  have q484 : v457.cell? ⟨w.heap.size + 1 + 1 + 1, 0, none⟩ = some (.int .i64 0) := X462.out.cell 0
  have q485 : v457.cell? ⟨w.heap.size + 1 + 1 + 1, 1, none⟩ = some (.int .i64 0) := X462.out.cell 1
  have q486 : v457.cell? ⟨w.heap.size + 1 + 1 + 1, 2, none⟩ = some (.int .i64 0) := X462.out.cell 2
  have q487 : v457.cell? ⟨w.heap.size + 1 + 1 + 1, 3, none⟩ = some (.int .i64 0) := X462.out.cell 3
  have q488 : v457.cell? ⟨w.heap.size + 1 + 1 + 1, 4, none⟩ = some (.int .i64 0) := X462.out.cell 4
  have fz489 : ∀ o, v457.frozen? ⟨w.heap.size + 1 + 1 + 1, o, none⟩ = false := fun o => X462.out.free o
  go_wp2_with fail
  have hdr536 : Below (v457).heap.size (v457) (v457).drew := (Below.refl _ _).drew
  have lt513 := X459.out.lt
  have lt514 := X459.out.lt
  have lt515 := X459.out.lt
  have lt516 := X459.out.lt
  have lt517 := X459.out.lt
  have lt518 := X459.out.lt
  have lt519 := X459.out.lt
  have lt520 := X459.out.lt
  have lt521 := X459.out.lt
  have lt522 := X459.out.lt
  have lt523 := X460.out.lt
  have lt524 := X460.out.lt
  have lt525 := X460.out.lt
  have lt526 := X460.out.lt
  have lt527 := X460.out.lt
  have lt528 := X461.out.lt
  have lt529 := X461.out.lt
  have lt530 := X461.out.lt
  have lt531 := X462.out.lt
  have lt532 := X462.out.lt
  have lt533 := X462.out.lt
  have lt534 := X462.out.lt
  have lt535 := X462.out.lt
  have hcall537 : ∀ X Y : World, (fun Wz => Wz.cell? ⟨w.heap.size, 0, none⟩ = some (.int .i64 m.pr.bed.eye) ∧ Wz.cell? ⟨w.heap.size, 1, none⟩ = some (.int .i64 m.pr.bed.rings) ∧ Wz.cell? ⟨w.heap.size, 2, none⟩ = some (.int .i64 m.pr.bed.sectors) ∧ Wz.cell? ⟨w.heap.size, 3, none⟩ = some (s) ∧ Wz.cell? ⟨w.heap.size, 4, none⟩ = some (.int .i64 m.pr.run.eye) ∧ Wz.cell? ⟨w.heap.size, 5, none⟩ = some (.int .i64 m.pr.run.rings) ∧ Wz.cell? ⟨w.heap.size, 6, none⟩ = some (.int .i64 m.pr.run.sectors) ∧ Wz.cell? ⟨w.heap.size, 7, none⟩ = some (r) ∧ Wz.cell? ⟨w.heap.size, 8, none⟩ = some (d) ∧ Wz.cell? ⟨w.heap.size, 9, none⟩ = some (gv) ∧ Wz.cell? ⟨w.heap.size + 1, 0, none⟩ = some (.int .i64 a) ∧ Wz.cell? ⟨w.heap.size + 1, 1, none⟩ = some (.int .i64 b) ∧ Wz.cell? ⟨w.heap.size + 1, 2, none⟩ = some (.int .i64 t) ∧ Wz.cell? ⟨w.heap.size + 1, 3, none⟩ = some (.int .i64 size) ∧ Wz.cell? ⟨w.heap.size + 1, 4, none⟩ = some (.int .i64 cuts) ∧ Wz.cell? ⟨w.heap.size + 1 + 1, 0, none⟩ = some (.int .i64 mo) ∧ Wz.cell? ⟨w.heap.size + 1 + 1, 1, none⟩ = some (.int .i64 ms) ∧ Wz.cell? ⟨w.heap.size + 1 + 1, 2, none⟩ = some (.bool mc) ∧ Wz.cell? ⟨w.heap.size + 1 + 1 + 1, 0, none⟩ = some (.int .i64 0) ∧ Wz.cell? ⟨w.heap.size + 1 + 1 + 1, 1, none⟩ = some (.int .i64 0) ∧ Wz.cell? ⟨w.heap.size + 1 + 1 + 1, 2, none⟩ = some (.int .i64 0) ∧ Wz.cell? ⟨w.heap.size + 1 + 1 + 1, 3, none⟩ = some (.int .i64 0) ∧ Wz.cell? ⟨w.heap.size + 1 + 1 + 1, 4, none⟩ = some (.int .i64 0) ∧ (v457).heap.size ≤ Wz.heap.size) X → Below X.heap.size X Y → (fun Wz => Wz.cell? ⟨w.heap.size, 0, none⟩ = some (.int .i64 m.pr.bed.eye) ∧ Wz.cell? ⟨w.heap.size, 1, none⟩ = some (.int .i64 m.pr.bed.rings) ∧ Wz.cell? ⟨w.heap.size, 2, none⟩ = some (.int .i64 m.pr.bed.sectors) ∧ Wz.cell? ⟨w.heap.size, 3, none⟩ = some (s) ∧ Wz.cell? ⟨w.heap.size, 4, none⟩ = some (.int .i64 m.pr.run.eye) ∧ Wz.cell? ⟨w.heap.size, 5, none⟩ = some (.int .i64 m.pr.run.rings) ∧ Wz.cell? ⟨w.heap.size, 6, none⟩ = some (.int .i64 m.pr.run.sectors) ∧ Wz.cell? ⟨w.heap.size, 7, none⟩ = some (r) ∧ Wz.cell? ⟨w.heap.size, 8, none⟩ = some (d) ∧ Wz.cell? ⟨w.heap.size, 9, none⟩ = some (gv) ∧ Wz.cell? ⟨w.heap.size + 1, 0, none⟩ = some (.int .i64 a) ∧ Wz.cell? ⟨w.heap.size + 1, 1, none⟩ = some (.int .i64 b) ∧ Wz.cell? ⟨w.heap.size + 1, 2, none⟩ = some (.int .i64 t) ∧ Wz.cell? ⟨w.heap.size + 1, 3, none⟩ = some (.int .i64 size) ∧ Wz.cell? ⟨w.heap.size + 1, 4, none⟩ = some (.int .i64 cuts) ∧ Wz.cell? ⟨w.heap.size + 1 + 1, 0, none⟩ = some (.int .i64 mo) ∧ Wz.cell? ⟨w.heap.size + 1 + 1, 1, none⟩ = some (.int .i64 ms) ∧ Wz.cell? ⟨w.heap.size + 1 + 1, 2, none⟩ = some (.bool mc) ∧ Wz.cell? ⟨w.heap.size + 1 + 1 + 1, 0, none⟩ = some (.int .i64 0) ∧ Wz.cell? ⟨w.heap.size + 1 + 1 + 1, 1, none⟩ = some (.int .i64 0) ∧ Wz.cell? ⟨w.heap.size + 1 + 1 + 1, 2, none⟩ = some (.int .i64 0) ∧ Wz.cell? ⟨w.heap.size + 1 + 1 + 1, 3, none⟩ = some (.int .i64 0) ∧ Wz.cell? ⟨w.heap.size + 1 + 1 + 1, 4, none⟩ = some (.int .i64 0) ∧ (v457).heap.size ≤ Wz.heap.size) Y := by
    rintro X Y ⟨z490, z491, z492, z493, z494, z495, z496, z497, z498, z499, z500, z501, z502, z503, z504, z505, z506, z507, z508, z509, z510, z511, z512, xs⟩ hb
    have hb2 := Below.mono (B' := (v457).heap.size) hb xs
    exact ⟨keepd z490 hb2 lt513, keepd z491 hb2 lt514, keepd z492 hb2 lt515, keepd z493 hb2 lt516, keepd z494 hb2 lt517, keepd z495 hb2 lt518, keepd z496 hb2 lt519, keepd z497 hb2 lt520, keepd z498 hb2 lt521, keepd z499 hb2 lt522, keepd z500 hb2 lt523, keepd z501 hb2 lt524, keepd z502 hb2 lt525, keepd z503 hb2 lt526, keepd z504 hb2 lt527, keepd z505 hb2 lt528, keepd z506 hb2 lt529, keepd z507 hb2 lt530, keepd z508 hb2 lt531, keepd z509 hb2 lt532, keepd z510 hb2 lt533, keepd z511 hb2 lt534, keepd z512 hb2 lt535, Nat.le_trans xs hb.size⟩
  have hini538 : (fun Wz => Wz.cell? ⟨w.heap.size, 0, none⟩ = some (.int .i64 m.pr.bed.eye) ∧ Wz.cell? ⟨w.heap.size, 1, none⟩ = some (.int .i64 m.pr.bed.rings) ∧ Wz.cell? ⟨w.heap.size, 2, none⟩ = some (.int .i64 m.pr.bed.sectors) ∧ Wz.cell? ⟨w.heap.size, 3, none⟩ = some (s) ∧ Wz.cell? ⟨w.heap.size, 4, none⟩ = some (.int .i64 m.pr.run.eye) ∧ Wz.cell? ⟨w.heap.size, 5, none⟩ = some (.int .i64 m.pr.run.rings) ∧ Wz.cell? ⟨w.heap.size, 6, none⟩ = some (.int .i64 m.pr.run.sectors) ∧ Wz.cell? ⟨w.heap.size, 7, none⟩ = some (r) ∧ Wz.cell? ⟨w.heap.size, 8, none⟩ = some (d) ∧ Wz.cell? ⟨w.heap.size, 9, none⟩ = some (gv) ∧ Wz.cell? ⟨w.heap.size + 1, 0, none⟩ = some (.int .i64 a) ∧ Wz.cell? ⟨w.heap.size + 1, 1, none⟩ = some (.int .i64 b) ∧ Wz.cell? ⟨w.heap.size + 1, 2, none⟩ = some (.int .i64 t) ∧ Wz.cell? ⟨w.heap.size + 1, 3, none⟩ = some (.int .i64 size) ∧ Wz.cell? ⟨w.heap.size + 1, 4, none⟩ = some (.int .i64 cuts) ∧ Wz.cell? ⟨w.heap.size + 1 + 1, 0, none⟩ = some (.int .i64 mo) ∧ Wz.cell? ⟨w.heap.size + 1 + 1, 1, none⟩ = some (.int .i64 ms) ∧ Wz.cell? ⟨w.heap.size + 1 + 1, 2, none⟩ = some (.bool mc) ∧ Wz.cell? ⟨w.heap.size + 1 + 1 + 1, 0, none⟩ = some (.int .i64 0) ∧ Wz.cell? ⟨w.heap.size + 1 + 1 + 1, 1, none⟩ = some (.int .i64 0) ∧ Wz.cell? ⟨w.heap.size + 1 + 1 + 1, 2, none⟩ = some (.int .i64 0) ∧ Wz.cell? ⟨w.heap.size + 1 + 1 + 1, 3, none⟩ = some (.int .i64 0) ∧ Wz.cell? ⟨w.heap.size + 1 + 1 + 1, 4, none⟩ = some (.int .i64 0) ∧ (v457).heap.size ≤ Wz.heap.size) (v457).drew := ⟨keepd (X459.out.cell 0) hdr536 lt513, keepd (X459.out.cell 1) hdr536 lt514, keepd (X459.out.cell 2) hdr536 lt515, keepd (X459.out.cell 3) hdr536 lt516, keepd (X459.out.cell 4) hdr536 lt517, keepd (X459.out.cell 5) hdr536 lt518, keepd (X459.out.cell 6) hdr536 lt519, keepd (X459.out.cell 7) hdr536 lt520, keepd (X459.out.cell 8) hdr536 lt521, keepd (X459.out.cell 9) hdr536 lt522, keepd (X460.out.cell 0) hdr536 lt523, keepd (X460.out.cell 1) hdr536 lt524, keepd (X460.out.cell 2) hdr536 lt525, keepd (X460.out.cell 3) hdr536 lt526, keepd (X460.out.cell 4) hdr536 lt527, keepd (X461.out.cell 0) hdr536 lt528, keepd (X461.out.cell 1) hdr536 lt529, keepd (X461.out.cell 2) hdr536 lt530, keepd (X462.out.cell 0) hdr536 lt531, keepd (X462.out.cell 1) hdr536 lt532, keepd (X462.out.cell 2) hdr536 lt533, keepd (X462.out.cell 3) hdr536 lt534, keepd (X462.out.cell 4) hdr536 lt535, Nat.le_refl _⟩
  have Hcall537 := Lib.hid hcall537
  have Hini538 := Lib.hid hini538
  clear hcall537 hini538 lt513 lt514 lt515 lt516 lt517 lt518 lt519 lt520 lt521 lt522 lt523 lt524 lt525 lt526 lt527 lt528 lt529 lt530 lt531 lt532 lt533 lt534 lt535
  clear q466 q467 q468 q469 q470 q471 q472 q473 q474 q475 q476 q477 q478 q479 q480 q481 q482 q483 q484 q485 q486 q487 q488 fz489
  refine wp_region_noPanic ?_
  refine wp_region_held_drew (S := (fun Wz => Wz.cell? ⟨w.heap.size, 0, none⟩ = some (.int .i64 m.pr.bed.eye) ∧ Wz.cell? ⟨w.heap.size, 1, none⟩ = some (.int .i64 m.pr.bed.rings) ∧ Wz.cell? ⟨w.heap.size, 2, none⟩ = some (.int .i64 m.pr.bed.sectors) ∧ Wz.cell? ⟨w.heap.size, 3, none⟩ = some (s) ∧ Wz.cell? ⟨w.heap.size, 4, none⟩ = some (.int .i64 m.pr.run.eye) ∧ Wz.cell? ⟨w.heap.size, 5, none⟩ = some (.int .i64 m.pr.run.rings) ∧ Wz.cell? ⟨w.heap.size, 6, none⟩ = some (.int .i64 m.pr.run.sectors) ∧ Wz.cell? ⟨w.heap.size, 7, none⟩ = some (r) ∧ Wz.cell? ⟨w.heap.size, 8, none⟩ = some (d) ∧ Wz.cell? ⟨w.heap.size, 9, none⟩ = some (gv) ∧ Wz.cell? ⟨w.heap.size + 1, 0, none⟩ = some (.int .i64 a) ∧ Wz.cell? ⟨w.heap.size + 1, 1, none⟩ = some (.int .i64 b) ∧ Wz.cell? ⟨w.heap.size + 1, 2, none⟩ = some (.int .i64 t) ∧ Wz.cell? ⟨w.heap.size + 1, 3, none⟩ = some (.int .i64 size) ∧ Wz.cell? ⟨w.heap.size + 1, 4, none⟩ = some (.int .i64 cuts) ∧ Wz.cell? ⟨w.heap.size + 1 + 1, 0, none⟩ = some (.int .i64 mo) ∧ Wz.cell? ⟨w.heap.size + 1 + 1, 1, none⟩ = some (.int .i64 ms) ∧ Wz.cell? ⟨w.heap.size + 1 + 1, 2, none⟩ = some (.bool mc) ∧ Wz.cell? ⟨w.heap.size + 1 + 1 + 1, 0, none⟩ = some (.int .i64 0) ∧ Wz.cell? ⟨w.heap.size + 1 + 1 + 1, 1, none⟩ = some (.int .i64 0) ∧ Wz.cell? ⟨w.heap.size + 1 + 1 + 1, 2, none⟩ = some (.int .i64 0) ∧ Wz.cell? ⟨w.heap.size + 1 + 1 + 1, 3, none⟩ = some (.int .i64 0) ∧ Wz.cell? ⟨w.heap.size + 1 + 1 + 1, 4, none⟩ = some (.int .i64 0) ∧ (v457).heap.size ≤ Wz.heap.size)) (by kernel_rfl) Hini538.out (fun hHeld => ?_)
  obtain ⟨W540, hW541⟩ : ∃ Wzz, (v457).drew = Wzz := ⟨_, rfl⟩
  rw [hW541] at hHeld hdr536 ⊢
  clear hW541
  have X542 := Lib.hid (X459.out.later hdr536)
  have X543 := Lib.hid (X460.out.later hdr536)
  have X544 := Lib.hid (X461.out.later hdr536)
  have X545 := Lib.hid (X462.out.later hdr536)
  have C546 := Lib.hid (C463.out.later hdr536)
  have C547 := Lib.hid (C464.out.later hdr536)
  have B548 := Lib.hid (B465.out.trans (hdr536.mono B465.out.size))
  clear hdr536
  refine wpAnyH_take (i := 0) (oi := { dst := some 23, op := Op.fieldAddr 33 (Operand.tmp 3) 0, type := 0, pos := "ref.go:158", after := #[], guard := none }) (v := ?vh549) rfl ?hsh549 ?hfh549 ?hrh549 ?hQh549 ?hyh549 (by assumption) ?resth549
  case hsh549 => kernel_rfl
  case hfh549 => kernel_rfl
  case hrh549 => kernel_rfl
  case hQh549 => exact fun _ _ _ h => h
  case hyh549 => (refine Or.inl ⟨by rfl, ?_⟩; intro w hSw; (try dsimp only at hSw); go_simp; try with_reducible rfl)
  try simp only [Act.put, List.setIfInBounds_toArray, List.set_cons_zero, List.set_cons_succ]
  refine wpAnyH_take (i := 1) (oi := { dst := some 24, op := Op.load 31 (Operand.tmp 23), type := 31, pos := "ref.go:158", after := #[{ on := 0, ground := Ground.data }], guard := none }) (v := ?vh550) rfl ?hsh550 ?hfh550 ?hrh550 ?hQh550 ?hyh550 (by assumption) ?resth550
  case hsh550 => kernel_rfl
  case hfh550 => kernel_rfl
  case hrh550 => kernel_rfl
  case hQh550 => exact fun _ _ _ h => h
  case hyh550 => (refine Or.inl ⟨by rfl, ?_⟩; intro w hSw; (try dsimp only at hSw); go_simp; try with_reducible rfl)
  try simp only [Act.put, List.setIfInBounds_toArray, List.set_cons_zero, List.set_cons_succ]
  refine wpAnyH_take (i := 2) (oi := { dst := some 25, op := Op.fieldAddr 48 (Operand.tmp 4) 0, type := 0, pos := "ref.go:158", after := #[], guard := none }) (v := ?vh551) rfl ?hsh551 ?hfh551 ?hrh551 ?hQh551 ?hyh551 (by assumption) ?resth551
  case hsh551 => kernel_rfl
  case hfh551 => kernel_rfl
  case hrh551 => kernel_rfl
  case hQh551 => exact fun _ _ _ h => h
  case hyh551 => (refine Or.inl ⟨by rfl, ?_⟩; intro w hSw; (try dsimp only at hSw); go_simp; try with_reducible rfl)
  try simp only [Act.put, List.setIfInBounds_toArray, List.set_cons_zero, List.set_cons_succ]
  refine wpAnyH_take (i := 3) (oi := { dst := some 26, op := Op.load 46 (Operand.tmp 25), type := 46, pos := "ref.go:158", after := #[{ on := 2, ground := Ground.data }], guard := none }) (v := ?vh552) rfl ?hsh552 ?hfh552 ?hrh552 ?hQh552 ?hyh552 (by assumption) ?resth552
  case hsh552 => kernel_rfl
  case hfh552 => kernel_rfl
  case hrh552 => kernel_rfl
  case hQh552 => exact fun _ _ _ h => h
  case hyh552 => (refine Or.inl ⟨by rfl, ?_⟩; intro w hSw; (try dsimp only at hSw); go_simp; try with_reducible rfl)
  try simp only [Act.put, List.setIfInBounds_toArray, List.set_cons_zero, List.set_cons_succ]
  refine wpAnyH_take (i := 5) (oi := { dst := some 28, op := Op.load 50 (Operand.tmp 5), type := 50, pos := "ref.go:158", after := #[], guard := none }) (v := ?vh553) rfl ?hsh553 ?hfh553 ?hrh553 ?hQh553 ?hyh553 (by assumption) ?resth553
  case hsh553 => kernel_rfl
  case hfh553 => kernel_rfl
  case hrh553 => kernel_rfl
  case hQh553 => exact fun _ _ _ h => h
  case hyh553 => (refine Or.inl ⟨by rfl, ?_⟩; intro w hSw; (try dsimp only at hSw); go_simp; try with_reducible rfl)
  try simp only [Act.put, List.setIfInBounds_toArray, List.set_cons_zero, List.set_cons_succ]
  refine wpAnyH_ready (rs := [4]) (by kernel_rfl) (by simp) ?_
  refine AllReadyH.cons (o := _) (by rfl) (fun K hK => ?_) AllReadyH.nil
  go_simp
  go_at_call 54
  refine (rmoves_c m.pr a b t _ _ C547.out (ckM_zero (agE_zero (grE_zero HE.out).1).1).1 (agE_zero (grE_zero HE.out).1).2.1).mono ?_; rintro e v554 ⟨⟨u, rfl, hu⟩, hb555⟩
  have X556 := Lib.hid (X542.out.later hb555)
  have X557 := Lib.hid (X543.out.later hb555)
  have X558 := Lib.hid (X544.out.later hb555)
  have X559 := Lib.hid (X545.out.later hb555)
  have C560 := Lib.hid (C546.out.later hb555)
  have C561 := Lib.hid (C547.out.later hb555)
  have B562 := Lib.hid (B548.out.trans (hb555.mono B548.out.size))
  clear X542 X543 X544 X545 C546 C547 B548
  have HUV := Lib.hid hu
  clear hu
  go_wp2_with fail
  refine hK.out _ _ (Hcall537.out _ _ hHeld (by assumption)) (fun hHeld563 => ?_)
  clear hK K hHeld
  clear hb555
  have hHeld := hHeld563
  clear hHeld563
  try simp only [Act.put, List.setIfInBounds_toArray, List.set_cons_zero, List.set_cons_succ]
  refine wpAnyH_ready (rs := [6]) (by kernel_rfl) (by simp) ?_
  refine AllReadyH.cons (o := _) (by rfl) (fun K hK => ?_) AllReadyH.nil
  go_simp
  go_at_call 53
  refine (rhas_c (movesL m.pr ⟨a, b, t⟩) mo ms mc u _ HUV.out (listB_parts (movesL_ok (ckM_zero (agE_zero (grE_zero HE.out).1).1).1 (agE_zero (grE_zero HE.out).1).2.1)).1.2).mono ?_; rintro e v564 ⟨rfl, hb565⟩
  have X566 := Lib.hid (X556.out.later hb565)
  have X567 := Lib.hid (X557.out.later hb565)
  have X568 := Lib.hid (X558.out.later hb565)
  have X569 := Lib.hid (X559.out.later hb565)
  have C570 := Lib.hid (C560.out.later hb565)
  have C571 := Lib.hid (C561.out.later hb565)
  have B572 := Lib.hid (B562.out.trans (hb565.mono B562.out.size))
  clear X556 X557 X558 X559 C560 C561 B562
  rw [HH.out]
  go_wp2_with fail
  refine hK.out _ _ (Hcall537.out _ _ hHeld (by assumption)) (fun hHeld573 => ?_)
  clear hK K hHeld
  clear hb565
  have hHeld := hHeld573
  clear hHeld573
  try simp only [Act.put, List.setIfInBounds_toArray, List.set_cons_zero, List.set_cons_succ]
  refine wpAnyH_take (i := 7) (oi := { dst := some 30, op := Op.unOp UnOp.not 4 (Operand.tmp 29), type := 4, pos := "ref.go:158", after := #[{ on := 6, ground := Ground.data }], guard := none }) (v := ?vh574) rfl ?hsh574 ?hfh574 ?hrh574 ?hQh574 ?hyh574 (by assumption) ?resth574
  case hsh574 => kernel_rfl
  case hfh574 => kernel_rfl
  case hrh574 => kernel_rfl
  case hQh574 => exact fun _ _ _ h => h
  case hyh574 => (refine Or.inl ⟨by rfl, ?_⟩; intro w hSw; (try dsimp only at hSw); go_simp; try with_reducible rfl)
  try simp only [Act.put, List.setIfInBounds_toArray, List.set_cons_zero, List.set_cons_succ]
  refine wpAnyH_done (by kernel_rfl) ?_ _
  refine NoPanic.normal ?_
  clear hHeld Hcall537 Hini538
  have q575 : v564.cell? ⟨w.heap.size, 0, none⟩ = some (.int .i64 m.pr.bed.eye) := X566.out.cell 0
  have q576 : v564.cell? ⟨w.heap.size, 1, none⟩ = some (.int .i64 m.pr.bed.rings) := X566.out.cell 1
  have q577 : v564.cell? ⟨w.heap.size, 2, none⟩ = some (.int .i64 m.pr.bed.sectors) := X566.out.cell 2
  have q578 : v564.cell? ⟨w.heap.size, 3, none⟩ = some (s) := X566.out.cell 3
  have q579 : v564.cell? ⟨w.heap.size, 4, none⟩ = some (.int .i64 m.pr.run.eye) := X566.out.cell 4
  have q580 : v564.cell? ⟨w.heap.size, 5, none⟩ = some (.int .i64 m.pr.run.rings) := X566.out.cell 5
  have q581 : v564.cell? ⟨w.heap.size, 6, none⟩ = some (.int .i64 m.pr.run.sectors) := X566.out.cell 6
  have q582 : v564.cell? ⟨w.heap.size, 7, none⟩ = some (r) := X566.out.cell 7
  have q583 : v564.cell? ⟨w.heap.size, 8, none⟩ = some (d) := X566.out.cell 8
  have q584 : v564.cell? ⟨w.heap.size, 9, none⟩ = some (gv) := X566.out.cell 9
  have q585 : v564.cell? ⟨w.heap.size + 1, 0, none⟩ = some (.int .i64 a) := X567.out.cell 0
  have q586 : v564.cell? ⟨w.heap.size + 1, 1, none⟩ = some (.int .i64 b) := X567.out.cell 1
  have q587 : v564.cell? ⟨w.heap.size + 1, 2, none⟩ = some (.int .i64 t) := X567.out.cell 2
  have q588 : v564.cell? ⟨w.heap.size + 1, 3, none⟩ = some (.int .i64 size) := X567.out.cell 3
  have q589 : v564.cell? ⟨w.heap.size + 1, 4, none⟩ = some (.int .i64 cuts) := X567.out.cell 4
  have q590 : v564.cell? ⟨w.heap.size + 1 + 1, 0, none⟩ = some (.int .i64 mo) := X568.out.cell 0
  have q591 : v564.cell? ⟨w.heap.size + 1 + 1, 1, none⟩ = some (.int .i64 ms) := X568.out.cell 1
  have q592 : v564.cell? ⟨w.heap.size + 1 + 1, 2, none⟩ = some (.bool mc) := X568.out.cell 2
  have q593 : v564.cell? ⟨w.heap.size + 1 + 1 + 1, 0, none⟩ = some (.int .i64 0) := X569.out.cell 0
  have q594 : v564.cell? ⟨w.heap.size + 1 + 1 + 1, 1, none⟩ = some (.int .i64 0) := X569.out.cell 1
  have q595 : v564.cell? ⟨w.heap.size + 1 + 1 + 1, 2, none⟩ = some (.int .i64 0) := X569.out.cell 2
  have q596 : v564.cell? ⟨w.heap.size + 1 + 1 + 1, 3, none⟩ = some (.int .i64 0) := X569.out.cell 3
  have q597 : v564.cell? ⟨w.heap.size + 1 + 1 + 1, 4, none⟩ = some (.int .i64 0) := X569.out.cell 4
  have fz598 : ∀ o, v564.frozen? ⟨w.heap.size + 1 + 1 + 1, o, none⟩ = false := fun o => X569.out.free o
  go_wp2_with fail
  refine (rstep_c m a b t size cuts mo ms mc _ _ C570.out (agE_zero (grE_zero HE.out).1).1 (agE_zero (grE_zero HE.out).1).2.1 HMV.out (agE_zero (grE_zero HE.out).1).2.2 (grE_zero HE.out).2).mono ?_; rintro e v599 ⟨rfl, hb600⟩
  have X601 := Lib.hid (X566.out.later hb600)
  have X602 := Lib.hid (X567.out.later hb600)
  have X603 := Lib.hid (X568.out.later hb600)
  have X604 := Lib.hid (X569.out.later hb600)
  have C605 := Lib.hid (C570.out.later hb600)
  have C606 := Lib.hid (C571.out.later hb600)
  have B607 := Lib.hid (B572.out.trans (hb600.mono B572.out.size))
  clear hb600
  rw [HO.out, HST.out]
  clear q575 q576 q577 q578 q579 q580 q581 q582 q583 q584 q585 q586 q587 q588 q589 q590 q591 q592 q593 q594 q595 q596 q597 fz598
  have q608 : v599.cell? ⟨w.heap.size, 0, none⟩ = some (.int .i64 m.pr.bed.eye) := X601.out.cell 0
  have q609 : v599.cell? ⟨w.heap.size, 1, none⟩ = some (.int .i64 m.pr.bed.rings) := X601.out.cell 1
  have q610 : v599.cell? ⟨w.heap.size, 2, none⟩ = some (.int .i64 m.pr.bed.sectors) := X601.out.cell 2
  have q611 : v599.cell? ⟨w.heap.size, 3, none⟩ = some (s) := X601.out.cell 3
  have q612 : v599.cell? ⟨w.heap.size, 4, none⟩ = some (.int .i64 m.pr.run.eye) := X601.out.cell 4
  have q613 : v599.cell? ⟨w.heap.size, 5, none⟩ = some (.int .i64 m.pr.run.rings) := X601.out.cell 5
  have q614 : v599.cell? ⟨w.heap.size, 6, none⟩ = some (.int .i64 m.pr.run.sectors) := X601.out.cell 6
  have q615 : v599.cell? ⟨w.heap.size, 7, none⟩ = some (r) := X601.out.cell 7
  have q616 : v599.cell? ⟨w.heap.size, 8, none⟩ = some (d) := X601.out.cell 8
  have q617 : v599.cell? ⟨w.heap.size, 9, none⟩ = some (gv) := X601.out.cell 9
  have q618 : v599.cell? ⟨w.heap.size + 1, 0, none⟩ = some (.int .i64 a) := X602.out.cell 0
  have q619 : v599.cell? ⟨w.heap.size + 1, 1, none⟩ = some (.int .i64 b) := X602.out.cell 1
  have q620 : v599.cell? ⟨w.heap.size + 1, 2, none⟩ = some (.int .i64 t) := X602.out.cell 2
  have q621 : v599.cell? ⟨w.heap.size + 1, 3, none⟩ = some (.int .i64 size) := X602.out.cell 3
  have q622 : v599.cell? ⟨w.heap.size + 1, 4, none⟩ = some (.int .i64 cuts) := X602.out.cell 4
  have q623 : v599.cell? ⟨w.heap.size + 1 + 1, 0, none⟩ = some (.int .i64 mo) := X603.out.cell 0
  have q624 : v599.cell? ⟨w.heap.size + 1 + 1, 1, none⟩ = some (.int .i64 ms) := X603.out.cell 1
  have q625 : v599.cell? ⟨w.heap.size + 1 + 1, 2, none⟩ = some (.bool mc) := X603.out.cell 2
  have q626 : v599.cell? ⟨w.heap.size + 1 + 1 + 1, 0, none⟩ = some (.int .i64 0) := X604.out.cell 0
  have q627 : v599.cell? ⟨w.heap.size + 1 + 1 + 1, 1, none⟩ = some (.int .i64 0) := X604.out.cell 1
  have q628 : v599.cell? ⟨w.heap.size + 1 + 1 + 1, 2, none⟩ = some (.int .i64 0) := X604.out.cell 2
  have q629 : v599.cell? ⟨w.heap.size + 1 + 1 + 1, 3, none⟩ = some (.int .i64 0) := X604.out.cell 3
  have q630 : v599.cell? ⟨w.heap.size + 1 + 1 + 1, 4, none⟩ = some (.int .i64 0) := X604.out.cell 4
  have fz631 : ∀ o, v599.frozen? ⟨w.heap.size + 1 + 1 + 1, o, none⟩ = false := fun o => X604.out.free o
  have LT632 := Lib.hid X603.out.lt
  have X633 := Lib.hid (X601.out.alloc (.cells #[.int .i64 r0, .int .i64 r1, .int .i64 r2, .int .i64 r3, .int .i64 r4] 48))
  have X634 := Lib.hid (X602.out.alloc (.cells #[.int .i64 r0, .int .i64 r1, .int .i64 r2, .int .i64 r3, .int .i64 r4] 48))
  have X635 := Lib.hid (X603.out.alloc (.cells #[.int .i64 r0, .int .i64 r1, .int .i64 r2, .int .i64 r3, .int .i64 r4] 48))
  have X636 := Lib.hid (X604.out.alloc (.cells #[.int .i64 r0, .int .i64 r1, .int .i64 r2, .int .i64 r3, .int .i64 r4] 48))
  have C637 := Lib.hid (C605.out.later ((Below.refl v599.heap.size v599).alloc (Nat.le_refl _) (.cells #[.int .i64 r0, .int .i64 r1, .int .i64 r2, .int .i64 r3, .int .i64 r4] 48)))
  have C638 := Lib.hid (C606.out.later ((Below.refl v599.heap.size v599).alloc (Nat.le_refl _) (.cells #[.int .i64 r0, .int .i64 r1, .int .i64 r2, .int .i64 r3, .int .i64 r4] 48)))
  have B639 := Lib.hid (B607.out.alloc B607.out.size (.cells #[.int .i64 r0, .int .i64 r1, .int .i64 r2, .int .i64 r3, .int .i64 r4] 48))
  have X640 := Lib.hid (Box.made v599 48 #[.int .i64 r0, .int .i64 r1, .int .i64 r2, .int .i64 r3, .int .i64 r4])
  have q641 : (v599.alloc (.cells #[.int .i64 r0, .int .i64 r1, .int .i64 r2, .int .i64 r3, .int .i64 r4] 48)).cell? ⟨w.heap.size, 0, none⟩ = some (.int .i64 m.pr.bed.eye) := X633.out.cell 0
  have q642 : (v599.alloc (.cells #[.int .i64 r0, .int .i64 r1, .int .i64 r2, .int .i64 r3, .int .i64 r4] 48)).cell? ⟨w.heap.size, 1, none⟩ = some (.int .i64 m.pr.bed.rings) := X633.out.cell 1
  have q643 : (v599.alloc (.cells #[.int .i64 r0, .int .i64 r1, .int .i64 r2, .int .i64 r3, .int .i64 r4] 48)).cell? ⟨w.heap.size, 2, none⟩ = some (.int .i64 m.pr.bed.sectors) := X633.out.cell 2
  have q644 : (v599.alloc (.cells #[.int .i64 r0, .int .i64 r1, .int .i64 r2, .int .i64 r3, .int .i64 r4] 48)).cell? ⟨w.heap.size, 3, none⟩ = some (s) := X633.out.cell 3
  have q645 : (v599.alloc (.cells #[.int .i64 r0, .int .i64 r1, .int .i64 r2, .int .i64 r3, .int .i64 r4] 48)).cell? ⟨w.heap.size, 4, none⟩ = some (.int .i64 m.pr.run.eye) := X633.out.cell 4
  have q646 : (v599.alloc (.cells #[.int .i64 r0, .int .i64 r1, .int .i64 r2, .int .i64 r3, .int .i64 r4] 48)).cell? ⟨w.heap.size, 5, none⟩ = some (.int .i64 m.pr.run.rings) := X633.out.cell 5
  have q647 : (v599.alloc (.cells #[.int .i64 r0, .int .i64 r1, .int .i64 r2, .int .i64 r3, .int .i64 r4] 48)).cell? ⟨w.heap.size, 6, none⟩ = some (.int .i64 m.pr.run.sectors) := X633.out.cell 6
  have q648 : (v599.alloc (.cells #[.int .i64 r0, .int .i64 r1, .int .i64 r2, .int .i64 r3, .int .i64 r4] 48)).cell? ⟨w.heap.size, 7, none⟩ = some (r) := X633.out.cell 7
  have q649 : (v599.alloc (.cells #[.int .i64 r0, .int .i64 r1, .int .i64 r2, .int .i64 r3, .int .i64 r4] 48)).cell? ⟨w.heap.size, 8, none⟩ = some (d) := X633.out.cell 8
  have q650 : (v599.alloc (.cells #[.int .i64 r0, .int .i64 r1, .int .i64 r2, .int .i64 r3, .int .i64 r4] 48)).cell? ⟨w.heap.size, 9, none⟩ = some (gv) := X633.out.cell 9
  have q651 : (v599.alloc (.cells #[.int .i64 r0, .int .i64 r1, .int .i64 r2, .int .i64 r3, .int .i64 r4] 48)).cell? ⟨w.heap.size + 1, 0, none⟩ = some (.int .i64 a) := X634.out.cell 0
  have q652 : (v599.alloc (.cells #[.int .i64 r0, .int .i64 r1, .int .i64 r2, .int .i64 r3, .int .i64 r4] 48)).cell? ⟨w.heap.size + 1, 1, none⟩ = some (.int .i64 b) := X634.out.cell 1
  have q653 : (v599.alloc (.cells #[.int .i64 r0, .int .i64 r1, .int .i64 r2, .int .i64 r3, .int .i64 r4] 48)).cell? ⟨w.heap.size + 1, 2, none⟩ = some (.int .i64 t) := X634.out.cell 2
  have q654 : (v599.alloc (.cells #[.int .i64 r0, .int .i64 r1, .int .i64 r2, .int .i64 r3, .int .i64 r4] 48)).cell? ⟨w.heap.size + 1, 3, none⟩ = some (.int .i64 size) := X634.out.cell 3
  have q655 : (v599.alloc (.cells #[.int .i64 r0, .int .i64 r1, .int .i64 r2, .int .i64 r3, .int .i64 r4] 48)).cell? ⟨w.heap.size + 1, 4, none⟩ = some (.int .i64 cuts) := X634.out.cell 4
  have q656 : (v599.alloc (.cells #[.int .i64 r0, .int .i64 r1, .int .i64 r2, .int .i64 r3, .int .i64 r4] 48)).cell? ⟨w.heap.size + 1 + 1, 0, none⟩ = some (.int .i64 mo) := X635.out.cell 0
  have q657 : (v599.alloc (.cells #[.int .i64 r0, .int .i64 r1, .int .i64 r2, .int .i64 r3, .int .i64 r4] 48)).cell? ⟨w.heap.size + 1 + 1, 1, none⟩ = some (.int .i64 ms) := X635.out.cell 1
  have q658 : (v599.alloc (.cells #[.int .i64 r0, .int .i64 r1, .int .i64 r2, .int .i64 r3, .int .i64 r4] 48)).cell? ⟨w.heap.size + 1 + 1, 2, none⟩ = some (.bool mc) := X635.out.cell 2
  have q659 : (v599.alloc (.cells #[.int .i64 r0, .int .i64 r1, .int .i64 r2, .int .i64 r3, .int .i64 r4] 48)).cell? ⟨w.heap.size + 1 + 1 + 1, 0, none⟩ = some (.int .i64 0) := X636.out.cell 0
  have q660 : (v599.alloc (.cells #[.int .i64 r0, .int .i64 r1, .int .i64 r2, .int .i64 r3, .int .i64 r4] 48)).cell? ⟨w.heap.size + 1 + 1 + 1, 1, none⟩ = some (.int .i64 0) := X636.out.cell 1
  have q661 : (v599.alloc (.cells #[.int .i64 r0, .int .i64 r1, .int .i64 r2, .int .i64 r3, .int .i64 r4] 48)).cell? ⟨w.heap.size + 1 + 1 + 1, 2, none⟩ = some (.int .i64 0) := X636.out.cell 2
  have q662 : (v599.alloc (.cells #[.int .i64 r0, .int .i64 r1, .int .i64 r2, .int .i64 r3, .int .i64 r4] 48)).cell? ⟨w.heap.size + 1 + 1 + 1, 3, none⟩ = some (.int .i64 0) := X636.out.cell 3
  have q663 : (v599.alloc (.cells #[.int .i64 r0, .int .i64 r1, .int .i64 r2, .int .i64 r3, .int .i64 r4] 48)).cell? ⟨w.heap.size + 1 + 1 + 1, 4, none⟩ = some (.int .i64 0) := X636.out.cell 4
  have fz664 : ∀ o, (v599.alloc (.cells #[.int .i64 r0, .int .i64 r1, .int .i64 r2, .int .i64 r3, .int .i64 r4] 48)).frozen? ⟨w.heap.size + 1 + 1 + 1, o, none⟩ = false := fun o => X636.out.free o
  have q665 : (v599.alloc (.cells #[.int .i64 r0, .int .i64 r1, .int .i64 r2, .int .i64 r3, .int .i64 r4] 48)).cell? ⟨v599.heap.size, 0, none⟩ = some (.int .i64 r0) := X640.out.cell 0
  have q666 : (v599.alloc (.cells #[.int .i64 r0, .int .i64 r1, .int .i64 r2, .int .i64 r3, .int .i64 r4] 48)).cell? ⟨v599.heap.size, 1, none⟩ = some (.int .i64 r1) := X640.out.cell 1
  have q667 : (v599.alloc (.cells #[.int .i64 r0, .int .i64 r1, .int .i64 r2, .int .i64 r3, .int .i64 r4] 48)).cell? ⟨v599.heap.size, 2, none⟩ = some (.int .i64 r2) := X640.out.cell 2
  have q668 : (v599.alloc (.cells #[.int .i64 r0, .int .i64 r1, .int .i64 r2, .int .i64 r3, .int .i64 r4] 48)).cell? ⟨v599.heap.size, 3, none⟩ = some (.int .i64 r3) := X640.out.cell 3
  have q669 : (v599.alloc (.cells #[.int .i64 r0, .int .i64 r1, .int .i64 r2, .int .i64 r3, .int .i64 r4] 48)).cell? ⟨v599.heap.size, 4, none⟩ = some (.int .i64 r4) := X640.out.cell 4
  go_wp2_with fail
  (try simp only [Exit.inBlock, Exit.then])
  refine grainEnd3 (t := 6) (u := 7) (q := 8) (x := .bool ob) (y := .int .i64 0) (v := .tuple #[.agg #[.int .i64 r0, .int .i64 r1, .int .i64 r2, .int .i64 r3, .int .i64 r4], .bool ob, .int .i64 0]) ?_ ?_ ?_ ?_ (((((X636.out.put 0 (.int .i64 r0)).put 1 (.int .i64 r1)).put 2 (.int .i64 r2)).put 3 (.int .i64 r3)).put 4 (.int .i64 r4)) (((((B639.out.setCell (by first | (simp; done) | (simp; omega) | omega) _).setCell (by first | (simp; done) | (simp; omega) | omega) _).setCell (by first | (simp; done) | (simp; omega) | omega) _).setCell (by first | (simp; done) | (simp; omega) | omega) _).setCell (by first | (simp; done) | (simp; omega) | omega) _) ?_
  all_goals first | rfl | skip


def biB (m : Ml) (s : St3) (size cuts : Int) : Bool := decide (grE m s size cuts = 0) && bitesB m s size
def afE (m : Ml) (s : St3) (size cuts : Int) (x : Mv) : Int := if grE m s size cuts = 0 then (if hasM (movesL m.pr s) x then 0 else 1) else grE m s size cuts
def afO (m : Ml) (s : St3) (size cuts : Int) (x : Mv) : Bool := decide (afE m s size cuts x = 0) && outB m.pr s x
def afV (m : Ml) (s : St3) (size cuts : Int) (x : Mv) : Value := if afE m s size cuts x = 0 then stepV m s size cuts x else .agg #[.int .i64 0, .int .i64 0, .int .i64 0, .int .i64 0, .int .i64 0]
theorem afV_form (m : Ml) (s : St3) (size cuts : Int) (x : Mv) : ∃ r0 r1 r2 r3 r4, afV m s size cuts x = .agg #[.int .i64 r0, .int .i64 r1, .int .i64 r2, .int .i64 r3, .int .i64 r4] := by
  unfold afV
  split
  · exact ⟨_, _, _, _, _, rfl⟩
  · exact ⟨_, _, _, _, _, rfl⟩
theorem BitesB_c (m : Ml) (a b t size cuts : Int) (v : Value) (w : World) (hm : IsMill w w.heap.size v m) : Calls Tryz.prog 16 #[v, .agg #[.int .i64 a, .int .i64 b, .int .i64 t, .int .i64 size, .int .i64 cuts]] w fun e w' => e = .returned (.tuple #[.bool (biB m ⟨a, b, t⟩ size cuts), .int .i64 (grE m ⟨a, b, t⟩ size cuts)]) ∧ Below w.heap.size w w' := by
  by_cases h0 : grE m ⟨a, b, t⟩ size cuts = 0
  · rw [show biB m ⟨a, b, t⟩ size cuts = bitesB m ⟨a, b, t⟩ size by unfold biB; rw [h0]; rfl, h0]
    exact Bites_ok m a b t size cuts v w hm h0
  · rw [show biB m ⟨a, b, t⟩ size cuts = false by unfold biB; rw [decide_eq_false h0]; rfl]
    exact Bites_bad m a b t size cuts v w hm h0
theorem rBitesB_c (m : Ml) (a b t size cuts : Int) (v : Value) (w : World) (hm : IsMill w w.heap.size v m) : Calls Tryz.prog 17 #[v, .agg #[.int .i64 a, .int .i64 b, .int .i64 t, .int .i64 size, .int .i64 cuts]] w fun e w' => e = .returned (.tuple #[.bool (biB m ⟨a, b, t⟩ size cuts), .int .i64 (grE m ⟨a, b, t⟩ size cuts)]) ∧ Below w.heap.size w w' := by
  by_cases h0 : grE m ⟨a, b, t⟩ size cuts = 0
  · rw [show biB m ⟨a, b, t⟩ size cuts = bitesB m ⟨a, b, t⟩ size by unfold biB; rw [h0]; rfl, h0]
    exact rBites_ok m a b t size cuts v w hm h0
  · rw [show biB m ⟨a, b, t⟩ size cuts = false by unfold biB; rw [decide_eq_false h0]; rfl]
    exact rBites_bad m a b t size cuts v w hm h0
theorem AfterA_c (m : Ml) (a b t size cuts mo ms : Int) (mc : Bool) (v : Value) (w : World) (hm : IsMill w w.heap.size v m) : Calls Tryz.prog 18 #[v, .agg #[.int .i64 a, .int .i64 b, .int .i64 t, .int .i64 size, .int .i64 cuts], .agg #[.int .i64 mo, .int .i64 ms, .bool mc]] w fun e w' => e = .returned (.tuple #[afV m ⟨a, b, t⟩ size cuts ⟨mo, ms, mc⟩, .bool (afO m ⟨a, b, t⟩ size cuts ⟨mo, ms, mc⟩), .int .i64 (afE m ⟨a, b, t⟩ size cuts ⟨mo, ms, mc⟩)]) ∧ Below w.heap.size w w' := by
  by_cases h0 : grE m ⟨a, b, t⟩ size cuts = 0
  · cases hh : hasM (movesL m.pr ⟨a, b, t⟩) ⟨mo, ms, mc⟩
    · have h1 : afE m ⟨a, b, t⟩ size cuts ⟨mo, ms, mc⟩ = 1 := by unfold afE; rw [if_pos h0, hh]; rfl
      rw [show afV m ⟨a, b, t⟩ size cuts ⟨mo, ms, mc⟩ = .agg #[.int .i64 0, .int .i64 0, .int .i64 0, .int .i64 0, .int .i64 0] from by unfold afV; exact if_neg (by rw [h1]; decide), show afO m ⟨a, b, t⟩ size cuts ⟨mo, ms, mc⟩ = false by unfold afO; simp [h1], h1]
      exact After_none m a b t size cuts mo ms mc v w hm h0 hh
    · have h1 : afE m ⟨a, b, t⟩ size cuts ⟨mo, ms, mc⟩ = 0 := by unfold afE; rw [if_pos h0, hh]; rfl
      rw [show afV m ⟨a, b, t⟩ size cuts ⟨mo, ms, mc⟩ = _ from by unfold afV; exact if_pos h1, show afO m ⟨a, b, t⟩ size cuts ⟨mo, ms, mc⟩ = outB m.pr ⟨a, b, t⟩ ⟨mo, ms, mc⟩ by unfold afO; rw [h1]; rfl, h1]
      exact After_ok m a b t size cuts mo ms mc v w hm h0 hh
  · have h1 : afE m ⟨a, b, t⟩ size cuts ⟨mo, ms, mc⟩ = grE m ⟨a, b, t⟩ size cuts := by unfold afE; exact if_neg h0
    rw [show afV m ⟨a, b, t⟩ size cuts ⟨mo, ms, mc⟩ = .agg #[.int .i64 0, .int .i64 0, .int .i64 0, .int .i64 0, .int .i64 0] from by unfold afV; exact if_neg (by rw [h1]; exact h0), show afO m ⟨a, b, t⟩ size cuts ⟨mo, ms, mc⟩ = false by unfold afO; rw [h1]; simp [h0], h1]
    exact After_bad m a b t size cuts mo ms mc v w hm h0
theorem rAfterA_c (m : Ml) (a b t size cuts mo ms : Int) (mc : Bool) (v : Value) (w : World) (hm : IsMill w w.heap.size v m) : Calls Tryz.prog 19 #[v, .agg #[.int .i64 a, .int .i64 b, .int .i64 t, .int .i64 size, .int .i64 cuts], .agg #[.int .i64 mo, .int .i64 ms, .bool mc]] w fun e w' => e = .returned (.tuple #[afV m ⟨a, b, t⟩ size cuts ⟨mo, ms, mc⟩, .bool (afO m ⟨a, b, t⟩ size cuts ⟨mo, ms, mc⟩), .int .i64 (afE m ⟨a, b, t⟩ size cuts ⟨mo, ms, mc⟩)]) ∧ Below w.heap.size w w' := by
  by_cases h0 : grE m ⟨a, b, t⟩ size cuts = 0
  · cases hh : hasM (movesL m.pr ⟨a, b, t⟩) ⟨mo, ms, mc⟩
    · have h1 : afE m ⟨a, b, t⟩ size cuts ⟨mo, ms, mc⟩ = 1 := by unfold afE; rw [if_pos h0, hh]; rfl
      rw [show afV m ⟨a, b, t⟩ size cuts ⟨mo, ms, mc⟩ = .agg #[.int .i64 0, .int .i64 0, .int .i64 0, .int .i64 0, .int .i64 0] from by unfold afV; exact if_neg (by rw [h1]; decide), show afO m ⟨a, b, t⟩ size cuts ⟨mo, ms, mc⟩ = false by unfold afO; simp [h1], h1]
      exact rAfter_none m a b t size cuts mo ms mc v w hm h0 hh
    · have h1 : afE m ⟨a, b, t⟩ size cuts ⟨mo, ms, mc⟩ = 0 := by unfold afE; rw [if_pos h0, hh]; rfl
      rw [show afV m ⟨a, b, t⟩ size cuts ⟨mo, ms, mc⟩ = _ from by unfold afV; exact if_pos h1, show afO m ⟨a, b, t⟩ size cuts ⟨mo, ms, mc⟩ = outB m.pr ⟨a, b, t⟩ ⟨mo, ms, mc⟩ by unfold afO; rw [h1]; rfl, h1]
      exact rAfter_ok m a b t size cuts mo ms mc v w hm h0 hh
  · have h1 : afE m ⟨a, b, t⟩ size cuts ⟨mo, ms, mc⟩ = grE m ⟨a, b, t⟩ size cuts := by unfold afE; exact if_neg h0
    rw [show afV m ⟨a, b, t⟩ size cuts ⟨mo, ms, mc⟩ = .agg #[.int .i64 0, .int .i64 0, .int .i64 0, .int .i64 0, .int .i64 0] from by unfold afV; exact if_neg (by rw [h1]; exact h0), show afO m ⟨a, b, t⟩ size cuts ⟨mo, ms, mc⟩ = false by unfold afO; rw [h1]; simp [h0], h1]
    exact rAfter_bad m a b t size cuts mo ms mc v w hm h0
end Go.Proofs.YtikfiallhmhicaaGreat

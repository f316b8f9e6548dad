/- Layer 3: the specification: a grain behind a move. -/
import Derived.Test.YtikfiallhmhicaaGreatE5
set_option linter.all false
namespace Go.Proofs.YtikfiallhmhicaaGreat
open Go.RowKit

set_option maxRecDepth 100000 in
set_option maxHeartbeats 8000000 in
theorem rstep_c (m : Ml) (a b t size cuts mo ms : Int) (mc : Bool) (v : Value) (w : World) (hm : IsMill w w.heap.size v m) (h0 : ckM m = 0) (hs : hasB m.pr ⟨a, b, t⟩ = true) (hx : mvB ⟨mo, ms, mc⟩ = true) (hz : inB size 1 4095 = true) (hc : inB cuts 0 70000 = true) : Calls Tryz.prog 55 #[v, .agg #[.int .i64 a, .int .i64 b, .int .i64 t, .int .i64 size, .int .i64 cuts], .agg #[.int .i64 mo, .int .i64 ms, .bool mc]] w fun e w' => e = .returned (.tuple #[stepV m ⟨a, b, t⟩ size cuts ⟨mo, ms, mc⟩, .bool (outB m.pr ⟨a, b, t⟩ ⟨mo, ms, mc⟩)]) ∧ Below w.heap.size w w' := by
  obtain ⟨s, r, d, gv, hmv, i1, i2, i3, i4⟩ := _root_.id hm
  subst hmv
  have HM0 := Lib.hid hm
  have HPW := Lib.hid (show IsPair w w.heap.size (pairV m.pr s r d) m.pr from ⟨s, r, d, rfl, i1, i2, i3⟩)
  clear hm i1 i2 i3 i4
  unfold millV at *
  have HK := Lib.hid h0
  have HHS := Lib.hid hs
  have HMV := Lib.hid hx
  have hk := inB_iff.1 hc
  obtain ⟨⟨x, y, z⟩, hn⟩ : ∃ s, nextS m.pr ⟨a, b, t⟩ ⟨mo, ms, mc⟩ = s := ⟨_, rfl⟩
  obtain ⟨ob, ho⟩ : ∃ s, outB m.pr ⟨a, b, t⟩ ⟨mo, ms, mc⟩ = s := ⟨_, rfl⟩
  have HST := Lib.hid (show stepV m ⟨a, b, t⟩ size cuts ⟨mo, ms, mc⟩ = .agg #[.int .i64 x, .int .i64 y, .int .i64 z, .int .i64 (hvN (cutsI m ⟨a, b, t⟩ size mc).toNat size), .int .i64 (cuts + cutsI m ⟨a, b, t⟩ size mc)] by unfold stepV; rw [hn])
  rw [ho]
  have HS := Lib.hid hn
  have HO := Lib.hid ho
  have HSZ := Lib.hid (show szOk size 1 = true by rw [szOk_iff]; have := inB_iff.1 hz; omega)
  obtain ⟨hv9, hh⟩ : ∃ k, hvN (1 : Int).toNat size = k := ⟨_, rfl⟩
  have w1 : IntKind.i64.wrap (cuts + 1) = cuts + 1 := wrap_id (by omega) (by omega)
  obtain ⟨k, hkk⟩ : ∃ k, cuts + 1 = k := ⟨_, rfl⟩
  have w2 : IntKind.i64.wrap (cuts + 1) = k := by rw [w1]; exact hkk
  have HKK := Lib.hid hkk
  have HHV := Lib.hid hh
  clear h0 hs hx hz hc hk hn ho hh w1 hkk
  cases mc
  · have HR := Lib.hid (show stepV m ⟨a, b, t⟩ size cuts ⟨mo, ms, false⟩ = .agg #[.int .i64 x, .int .i64 y, .int .i64 z, .int .i64 size, .int .i64 cuts] by rw [HST.out]; rw [show cutsI m ⟨a, b, t⟩ size false = 0 from rfl, Int.add_zero]; rfl)
    go_enter Tryz.func55, Tryz.ntmps55
    go_wp2_with fail
    obtain ⟨W180, hW181⟩ : ∃ Wzz, (((((w.alloc (.cells #[.int .i64 m.pr.bed.eye, .int .i64 m.pr.bed.rings, .int .i64 m.pr.bed.sectors, s, .int .i64 m.pr.run.eye, .int .i64 m.pr.run.rings, .int .i64 m.pr.run.sectors, r, d, gv] 33)).alloc (.cells #[.int .i64 a, .int .i64 b, .int .i64 t, .int .i64 size, .int .i64 cuts] 48)).alloc (.cells #[.int .i64 mo, .int .i64 ms, .bool false] 50)).alloc (.cells #[.int .i64 0, .int .i64 0, .int .i64 0, .int .i64 0, .int .i64 0] 48)).alloc (.cells #[.int .i64 a, .int .i64 b, .int .i64 t, .int .i64 size, .int .i64 cuts] 48)) = Wzz := ⟨_, rfl⟩
    have B182 := Lib.hid (show Below w.heap.size w W180 by rw [← hW181]; exact ((((((Below.refl w.heap.size w).alloc (Nat.le_refl _) _).alloc (by first | (simp; done) | (simp; omega)) _).alloc (by first | (simp; done) | (simp; omega)) _).alloc (by first | (simp; done) | (simp; omega)) _).alloc (by first | (simp; done) | (simp; omega)) _))
    have X183 := Lib.hid (show Box W180 (w.heap.size) 33 #[.int .i64 m.pr.bed.eye, .int .i64 m.pr.bed.rings, .int .i64 m.pr.bed.sectors, s, .int .i64 m.pr.run.eye, .int .i64 m.pr.run.rings, .int .i64 m.pr.run.sectors, r, d, gv] by rw [← hW181]; exact Box.alloc (Box.alloc (Box.alloc (Box.alloc (Box.made w 33 #[.int .i64 m.pr.bed.eye, .int .i64 m.pr.bed.rings, .int .i64 m.pr.bed.sectors, s, .int .i64 m.pr.run.eye, .int .i64 m.pr.run.rings, .int .i64 m.pr.run.sectors, r, d, gv]) (.cells #[.int .i64 a, .int .i64 b, .int .i64 t, .int .i64 size, .int .i64 cuts] 48)) (.cells #[.int .i64 mo, .int .i64 ms, .bool false] 50)) (.cells #[.int .i64 0, .int .i64 0, .int .i64 0, .int .i64 0, .int .i64 0] 48)) (.cells #[.int .i64 a, .int .i64 b, .int .i64 t, .int .i64 size, .int .i64 cuts] 48))
    have X184 := Lib.hid (show Box W180 (w.heap.size + 1) 48 #[.int .i64 a, .int .i64 b, .int .i64 t, .int .i64 size, .int .i64 cuts] by
      have hz := Box.alloc (Box.alloc (Box.alloc (Box.made (w.alloc (.cells #[.int .i64 m.pr.bed.eye, .int .i64 m.pr.bed.rings, .int .i64 m.pr.bed.sectors, s, .int .i64 m.pr.run.eye, .int .i64 m.pr.run.rings, .int .i64 m.pr.run.sectors, r, d, gv] 33)) 48 #[.int .i64 a, .int .i64 b, .int .i64 t, .int .i64 size, .int .i64 cuts]) (.cells #[.int .i64 mo, .int .i64 ms, .bool false] 50)) (.cells #[.int .i64 0, .int .i64 0, .int .i64 0, .int .i64 0, .int .i64 0] 48)) (.cells #[.int .i64 a, .int .i64 b, .int .i64 t, .int .i64 size, .int .i64 cuts] 48)
      rw [World.size_alloc] at hz
      rw [← hW181]; exact hz)
    have X185 := Lib.hid (show Box W180 (w.heap.size + 1 + 1) 50 #[.int .i64 mo, .int .i64 ms, .bool false] by
      have hz := Box.alloc (Box.alloc (Box.made ((w.alloc (.cells #[.int .i64 m.pr.bed.eye, .int .i64 m.pr.bed.rings, .int .i64 m.pr.bed.sectors, s, .int .i64 m.pr.run.eye, .int .i64 m.pr.run.rings, .int .i64 m.pr.run.sectors, r, d, gv] 33)).alloc (.cells #[.int .i64 a, .int .i64 b, .int .i64 t, .int .i64 size, .int .i64 cuts] 48)) 50 #[.int .i64 mo, .int .i64 ms, .bool false]) (.cells #[.int .i64 0, .int .i64 0, .int .i64 0, .int .i64 0, .int .i64 0] 48)) (.cells #[.int .i64 a, .int .i64 b, .int .i64 t, .int .i64 size, .int .i64 cuts] 48)
      rw [World.size_alloc, World.size_alloc] at hz
      rw [← hW181]; exact hz)
    have X186 := Lib.hid (show Box W180 (w.heap.size + 1 + 1 + 1) 48 #[.int .i64 0, .int .i64 0, .int .i64 0, .int .i64 0, .int .i64 0] by
      have hz := Box.alloc (Box.made (((w.alloc (.cells #[.int .i64 m.pr.bed.eye, .int .i64 m.pr.bed.rings, .int .i64 m.pr.bed.sectors, s, .int .i64 m.pr.run.eye, .int .i64 m.pr.run.rings, .int .i64 m.pr.run.sectors, r, d, gv] 33)).alloc (.cells #[.int .i64 a, .int .i64 b, .int .i64 t, .int .i64 size, .int .i64 cuts] 48)).alloc (.cells #[.int .i64 mo, .int .i64 ms, .bool false] 50)) 48 #[.int .i64 0, .int .i64 0, .int .i64 0, .int .i64 0, .int .i64 0]) (.cells #[.int .i64 a, .int .i64 b, .int .i64 t, .int .i64 size, .int .i64 cuts] 48)
      rw [World.size_alloc, World.size_alloc, World.size_alloc] at hz
      rw [← hW181]; exact hz)
    have X187 := Lib.hid (show Box W180 (w.heap.size + 1 + 1 + 1 + 1) 48 #[.int .i64 a, .int .i64 b, .int .i64 t, .int .i64 size, .int .i64 cuts] by
      have hz := Box.made ((((w.alloc (.cells #[.int .i64 m.pr.bed.eye, .int .i64 m.pr.bed.rings, .int .i64 m.pr.bed.sectors, s, .int .i64 m.pr.run.eye, .int .i64 m.pr.run.rings, .int .i64 m.pr.run.sectors, r, d, gv] 33)).alloc (.cells #[.int .i64 a, .int .i64 b, .int .i64 t, .int .i64 size, .int .i64 cuts] 48)).alloc (.cells #[.int .i64 mo, .int .i64 ms, .bool false] 50)).alloc (.cells #[.int .i64 0, .int .i64 0, .int .i64 0, .int .i64 0, .int .i64 0] 48)) 48 #[.int .i64 a, .int .i64 b, .int .i64 t, .int .i64 size, .int .i64 cuts]
      rw [World.size_alloc, World.size_alloc, World.size_alloc, World.size_alloc] at hz
      rw [← hW181]; exact hz)
    have SZ188 := Lib.hid (show W180.heap.size = w.heap.size + 1 + 1 + 1 + 1 + 1 by rw [← hW181]; simp)
    rw [hW181]
    clear hW181
    have q189 : W180.cell? ⟨w.heap.size, 0, none⟩ = some (.int .i64 m.pr.bed.eye) := X183.out.cell 0
    have q190 : W180.cell? ⟨w.heap.size, 1, none⟩ = some (.int .i64 m.pr.bed.rings) := X183.out.cell 1
    have q191 : W180.cell? ⟨w.heap.size, 2, none⟩ = some (.int .i64 m.pr.bed.sectors) := X183.out.cell 2
    have q192 : W180.cell? ⟨w.heap.size, 3, none⟩ = some (s) := X183.out.cell 3
    have q193 : W180.cell? ⟨w.heap.size, 4, none⟩ = some (.int .i64 m.pr.run.eye) := X183.out.cell 4
    have q194 : W180.cell? ⟨w.heap.size, 5, none⟩ = some (.int .i64 m.pr.run.rings) := X183.out.cell 5
    have q195 : W180.cell? ⟨w.heap.size, 6, none⟩ = some (.int .i64 m.pr.run.sectors) := X183.out.cell 6
    have q196 : W180.cell? ⟨w.heap.size, 7, none⟩ = some (r) := X183.out.cell 7
    have q197 : W180.cell? ⟨w.heap.size, 8, none⟩ = some (d) := X183.out.cell 8
    have q198 : W180.cell? ⟨w.heap.size, 9, none⟩ = some (gv) := X183.out.cell 9
    have q199 : W180.cell? ⟨w.heap.size + 1, 0, none⟩ = some (.int .i64 a) := X184.out.cell 0
    have q200 : W180.cell? ⟨w.heap.size + 1, 1, none⟩ = some (.int .i64 b) := X184.out.cell 1
    have q201 : W180.cell? ⟨w.heap.size + 1, 2, none⟩ = some (.int .i64 t) := X184.out.cell 2
    have q202 : W180.cell? ⟨w.heap.size + 1, 3, none⟩ = some (.int .i64 size) := X184.out.cell 3
    have q203 : W180.cell? ⟨w.heap.size + 1, 4, none⟩ = some (.int .i64 cuts) := X184.out.cell 4
    have q204 : W180.cell? ⟨w.heap.size + 1 + 1, 0, none⟩ = some (.int .i64 mo) := X185.out.cell 0
    have q205 : W180.cell? ⟨w.heap.size + 1 + 1, 1, none⟩ = some (.int .i64 ms) := X185.out.cell 1
    have q206 : W180.cell? ⟨w.heap.size + 1 + 1, 2, none⟩ = some (.bool false) := X185.out.cell 2
    have q207 : W180.cell? ⟨w.heap.size + 1 + 1 + 1, 0, none⟩ = some (.int .i64 0) := X186.out.cell 0
    have q208 : W180.cell? ⟨w.heap.size + 1 + 1 + 1, 1, none⟩ = some (.int .i64 0) := X186.out.cell 1
    have q209 : W180.cell? ⟨w.heap.size + 1 + 1 + 1, 2, none⟩ = some (.int .i64 0) := X186.out.cell 2
    have q210 : W180.cell? ⟨w.heap.size + 1 + 1 + 1, 3, none⟩ = some (.int .i64 0) := X186.out.cell 3
    have q211 : W180.cell? ⟨w.heap.size + 1 + 1 + 1, 4, none⟩ = some (.int .i64 0) := X186.out.cell 4
    have fz212 : ∀ o, W180.frozen? ⟨w.heap.size + 1 + 1 + 1, o, none⟩ = false := fun o => X186.out.free o
    have q213 : W180.cell? ⟨w.heap.size + 1 + 1 + 1 + 1, 0, none⟩ = some (.int .i64 a) := X187.out.cell 0
    have q214 : W180.cell? ⟨w.heap.size + 1 + 1 + 1 + 1, 1, none⟩ = some (.int .i64 b) := X187.out.cell 1
    have q215 : W180.cell? ⟨w.heap.size + 1 + 1 + 1 + 1, 2, none⟩ = some (.int .i64 t) := X187.out.cell 2
    have q216 : W180.cell? ⟨w.heap.size + 1 + 1 + 1 + 1, 3, none⟩ = some (.int .i64 size) := X187.out.cell 3
    have q217 : W180.cell? ⟨w.heap.size + 1 + 1 + 1 + 1, 4, none⟩ = some (.int .i64 cuts) := X187.out.cell 4
    have fz218 : ∀ o, W180.frozen? ⟨w.heap.size + 1 + 1 + 1 + 1, o, none⟩ = false := fun o => X187.out.free o
    have HPN := Lib.hid (IsPair.mono HPW.out B182.out B182.out.size)
    have HPV := HPN.out
    unfold pairV at HPV
    have HPX := Lib.hid HPV
    clear HPV
    go_wp2_with fail
    refine (rnext_c m.pr a b t mo ms false _ _ HPX.out (ckM_zero HK.out).1 HHS.out HMV.out).mono ?_; rintro e v219 ⟨rfl, hb220⟩
    have X221 := Lib.hid (X183.out.later hb220)
    have X222 := Lib.hid (X184.out.later hb220)
    have X223 := Lib.hid (X185.out.later hb220)
    have X224 := Lib.hid (X186.out.later hb220)
    have X225 := Lib.hid (X187.out.later hb220)
    have B226 := Lib.hid (B182.out.trans (hb220.mono B182.out.size))
    clear hb220
    rw [HS.out, HO.out]
    unfold stV
    dsimp only
    have LTQ := Lib.hid X225.out.lt
    clear q189 q190 q191 q192 q193 q194 q195 q196 q197 q198 q199 q200 q201 q202 q203 q204 q205 q206 q207 q208 q209 q210 q211 fz212 q213 q214 q215 q216 q217 fz218
    have q227 : v219.cell? ⟨w.heap.size, 0, none⟩ = some (.int .i64 m.pr.bed.eye) := X221.out.cell 0
    have q228 : v219.cell? ⟨w.heap.size, 1, none⟩ = some (.int .i64 m.pr.bed.rings) := X221.out.cell 1
    have q229 : v219.cell? ⟨w.heap.size, 2, none⟩ = some (.int .i64 m.pr.bed.sectors) := X221.out.cell 2
    have q230 : v219.cell? ⟨w.heap.size, 3, none⟩ = some (s) := X221.out.cell 3
    have q231 : v219.cell? ⟨w.heap.size, 4, none⟩ = some (.int .i64 m.pr.run.eye) := X221.out.cell 4
    have q232 : v219.cell? ⟨w.heap.size, 5, none⟩ = some (.int .i64 m.pr.run.rings) := X221.out.cell 5
    have q233 : v219.cell? ⟨w.heap.size, 6, none⟩ = some (.int .i64 m.pr.run.sectors) := X221.out.cell 6
    have q234 : v219.cell? ⟨w.heap.size, 7, none⟩ = some (r) := X221.out.cell 7
    have q235 : v219.cell? ⟨w.heap.size, 8, none⟩ = some (d) := X221.out.cell 8
    have q236 : v219.cell? ⟨w.heap.size, 9, none⟩ = some (gv) := X221.out.cell 9
    have q237 : v219.cell? ⟨w.heap.size + 1, 0, none⟩ = some (.int .i64 a) := X222.out.cell 0
    have q238 : v219.cell? ⟨w.heap.size + 1, 1, none⟩ = some (.int .i64 b) := X222.out.cell 1
    have q239 : v219.cell? ⟨w.heap.size + 1, 2, none⟩ = some (.int .i64 t) := X222.out.cell 2
    have q240 : v219.cell? ⟨w.heap.size + 1, 3, none⟩ = some (.int .i64 size) := X222.out.cell 3
    have q241 : v219.cell? ⟨w.heap.size + 1, 4, none⟩ = some (.int .i64 cuts) := X222.out.cell 4
    have q242 : v219.cell? ⟨w.heap.size + 1 + 1, 0, none⟩ = some (.int .i64 mo) := X223.out.cell 0
    have q243 : v219.cell? ⟨w.heap.size + 1 + 1, 1, none⟩ = some (.int .i64 ms) := X223.out.cell 1
    have q244 : v219.cell? ⟨w.heap.size + 1 + 1, 2, none⟩ = some (.bool false) := X223.out.cell 2
    have q245 : v219.cell? ⟨w.heap.size + 1 + 1 + 1, 0, none⟩ = some (.int .i64 0) := X224.out.cell 0
    have q246 : v219.cell? ⟨w.heap.size + 1 + 1 + 1, 1, none⟩ = some (.int .i64 0) := X224.out.cell 1
    have q247 : v219.cell? ⟨w.heap.size + 1 + 1 + 1, 2, none⟩ = some (.int .i64 0) := X224.out.cell 2
    have q248 : v219.cell? ⟨w.heap.size + 1 + 1 + 1, 3, none⟩ = some (.int .i64 0) := X224.out.cell 3
    have q249 : v219.cell? ⟨w.heap.size + 1 + 1 + 1, 4, none⟩ = some (.int .i64 0) := X224.out.cell 4
    have fz250 : ∀ o, v219.frozen? ⟨w.heap.size + 1 + 1 + 1, o, none⟩ = false := fun o => X224.out.free o
    have q251 : v219.cell? ⟨w.heap.size + 1 + 1 + 1 + 1, 0, none⟩ = some (.int .i64 a) := X225.out.cell 0
    have q252 : v219.cell? ⟨w.heap.size + 1 + 1 + 1 + 1, 1, none⟩ = some (.int .i64 b) := X225.out.cell 1
    have q253 : v219.cell? ⟨w.heap.size + 1 + 1 + 1 + 1, 2, none⟩ = some (.int .i64 t) := X225.out.cell 2
    have q254 : v219.cell? ⟨w.heap.size + 1 + 1 + 1 + 1, 3, none⟩ = some (.int .i64 size) := X225.out.cell 3
    have q255 : v219.cell? ⟨w.heap.size + 1 + 1 + 1 + 1, 4, none⟩ = some (.int .i64 cuts) := X225.out.cell 4
    have fz256 : ∀ o, v219.frozen? ⟨w.heap.size + 1 + 1 + 1 + 1, o, none⟩ = false := fun o => X225.out.free o
    have LT257 := Lib.hid X223.out.lt
    have X258 := Lib.hid (X221.out.alloc (.cells #[.int .i64 x, .int .i64 y, .int .i64 z] 46))
    have X259 := Lib.hid (X222.out.alloc (.cells #[.int .i64 x, .int .i64 y, .int .i64 z] 46))
    have X260 := Lib.hid (X223.out.alloc (.cells #[.int .i64 x, .int .i64 y, .int .i64 z] 46))
    have X261 := Lib.hid (X224.out.alloc (.cells #[.int .i64 x, .int .i64 y, .int .i64 z] 46))
    have X262 := Lib.hid (X225.out.alloc (.cells #[.int .i64 x, .int .i64 y, .int .i64 z] 46))
    have B263 := Lib.hid (B226.out.alloc B226.out.size (.cells #[.int .i64 x, .int .i64 y, .int .i64 z] 46))
    have X264 := Lib.hid (Box.made v219 46 #[.int .i64 x, .int .i64 y, .int .i64 z])
    have q265 : (v219.alloc (.cells #[.int .i64 x, .int .i64 y, .int .i64 z] 46)).cell? ⟨w.heap.size, 0, none⟩ = some (.int .i64 m.pr.bed.eye) := X258.out.cell 0
    have q266 : (v219.alloc (.cells #[.int .i64 x, .int .i64 y, .int .i64 z] 46)).cell? ⟨w.heap.size, 1, none⟩ = some (.int .i64 m.pr.bed.rings) := X258.out.cell 1
    have q267 : (v219.alloc (.cells #[.int .i64 x, .int .i64 y, .int .i64 z] 46)).cell? ⟨w.heap.size, 2, none⟩ = some (.int .i64 m.pr.bed.sectors) := X258.out.cell 2
    have q268 : (v219.alloc (.cells #[.int .i64 x, .int .i64 y, .int .i64 z] 46)).cell? ⟨w.heap.size, 3, none⟩ = some (s) := X258.out.cell 3
    have q269 : (v219.alloc (.cells #[.int .i64 x, .int .i64 y, .int .i64 z] 46)).cell? ⟨w.heap.size, 4, none⟩ = some (.int .i64 m.pr.run.eye) := X258.out.cell 4
    have q270 : (v219.alloc (.cells #[.int .i64 x, .int .i64 y, .int .i64 z] 46)).cell? ⟨w.heap.size, 5, none⟩ = some (.int .i64 m.pr.run.rings) := X258.out.cell 5
    have q271 : (v219.alloc (.cells #[.int .i64 x, .int .i64 y, .int .i64 z] 46)).cell? ⟨w.heap.size, 6, none⟩ = some (.int .i64 m.pr.run.sectors) := X258.out.cell 6
    have q272 : (v219.alloc (.cells #[.int .i64 x, .int .i64 y, .int .i64 z] 46)).cell? ⟨w.heap.size, 7, none⟩ = some (r) := X258.out.cell 7
    have q273 : (v219.alloc (.cells #[.int .i64 x, .int .i64 y, .int .i64 z] 46)).cell? ⟨w.heap.size, 8, none⟩ = some (d) := X258.out.cell 8
    have q274 : (v219.alloc (.cells #[.int .i64 x, .int .i64 y, .int .i64 z] 46)).cell? ⟨w.heap.size, 9, none⟩ = some (gv) := X258.out.cell 9
    have q275 : (v219.alloc (.cells #[.int .i64 x, .int .i64 y, .int .i64 z] 46)).cell? ⟨w.heap.size + 1, 0, none⟩ = some (.int .i64 a) := X259.out.cell 0
    have q276 : (v219.alloc (.cells #[.int .i64 x, .int .i64 y, .int .i64 z] 46)).cell? ⟨w.heap.size + 1, 1, none⟩ = some (.int .i64 b) := X259.out.cell 1
    have q277 : (v219.alloc (.cells #[.int .i64 x, .int .i64 y, .int .i64 z] 46)).cell? ⟨w.heap.size + 1, 2, none⟩ = some (.int .i64 t) := X259.out.cell 2
    have q278 : (v219.alloc (.cells #[.int .i64 x, .int .i64 y, .int .i64 z] 46)).cell? ⟨w.heap.size + 1, 3, none⟩ = some (.int .i64 size) := X259.out.cell 3
    have q279 : (v219.alloc (.cells #[.int .i64 x, .int .i64 y, .int .i64 z] 46)).cell? ⟨w.heap.size + 1, 4, none⟩ = some (.int .i64 cuts) := X259.out.cell 4
    have q280 : (v219.alloc (.cells #[.int .i64 x, .int .i64 y, .int .i64 z] 46)).cell? ⟨w.heap.size + 1 + 1, 0, none⟩ = some (.int .i64 mo) := X260.out.cell 0
    have q281 : (v219.alloc (.cells #[.int .i64 x, .int .i64 y, .int .i64 z] 46)).cell? ⟨w.heap.size + 1 + 1, 1, none⟩ = some (.int .i64 ms) := X260.out.cell 1
    have q282 : (v219.alloc (.cells #[.int .i64 x, .int .i64 y, .int .i64 z] 46)).cell? ⟨w.heap.size + 1 + 1, 2, none⟩ = some (.bool false) := X260.out.cell 2
    have q283 : (v219.alloc (.cells #[.int .i64 x, .int .i64 y, .int .i64 z] 46)).cell? ⟨w.heap.size + 1 + 1 + 1, 0, none⟩ = some (.int .i64 0) := X261.out.cell 0
    have q284 : (v219.alloc (.cells #[.int .i64 x, .int .i64 y, .int .i64 z] 46)).cell? ⟨w.heap.size + 1 + 1 + 1, 1, none⟩ = some (.int .i64 0) := X261.out.cell 1
    have q285 : (v219.alloc (.cells #[.int .i64 x, .int .i64 y, .int .i64 z] 46)).cell? ⟨w.heap.size + 1 + 1 + 1, 2, none⟩ = some (.int .i64 0) := X261.out.cell 2
    have q286 : (v219.alloc (.cells #[.int .i64 x, .int .i64 y, .int .i64 z] 46)).cell? ⟨w.heap.size + 1 + 1 + 1, 3, none⟩ = some (.int .i64 0) := X261.out.cell 3
    have q287 : (v219.alloc (.cells #[.int .i64 x, .int .i64 y, .int .i64 z] 46)).cell? ⟨w.heap.size + 1 + 1 + 1, 4, none⟩ = some (.int .i64 0) := X261.out.cell 4
    have fz288 : ∀ o, (v219.alloc (.cells #[.int .i64 x, .int .i64 y, .int .i64 z] 46)).frozen? ⟨w.heap.size + 1 + 1 + 1, o, none⟩ = false := fun o => X261.out.free o
    have q289 : (v219.alloc (.cells #[.int .i64 x, .int .i64 y, .int .i64 z] 46)).cell? ⟨w.heap.size + 1 + 1 + 1 + 1, 0, none⟩ = some (.int .i64 a) := X262.out.cell 0
    have q290 : (v219.alloc (.cells #[.int .i64 x, .int .i64 y, .int .i64 z] 46)).cell? ⟨w.heap.size + 1 + 1 + 1 + 1, 1, none⟩ = some (.int .i64 b) := X262.out.cell 1
    have q291 : (v219.alloc (.cells #[.int .i64 x, .int .i64 y, .int .i64 z] 46)).cell? ⟨w.heap.size + 1 + 1 + 1 + 1, 2, none⟩ = some (.int .i64 t) := X262.out.cell 2
    have q292 : (v219.alloc (.cells #[.int .i64 x, .int .i64 y, .int .i64 z] 46)).cell? ⟨w.heap.size + 1 + 1 + 1 + 1, 3, none⟩ = some (.int .i64 size) := X262.out.cell 3
    have q293 : (v219.alloc (.cells #[.int .i64 x, .int .i64 y, .int .i64 z] 46)).cell? ⟨w.heap.size + 1 + 1 + 1 + 1, 4, none⟩ = some (.int .i64 cuts) := X262.out.cell 4
    have fz294 : ∀ o, (v219.alloc (.cells #[.int .i64 x, .int .i64 y, .int .i64 z] 46)).frozen? ⟨w.heap.size + 1 + 1 + 1 + 1, o, none⟩ = false := fun o => X262.out.free o
    have q295 : (v219.alloc (.cells #[.int .i64 x, .int .i64 y, .int .i64 z] 46)).cell? ⟨v219.heap.size, 0, none⟩ = some (.int .i64 x) := X264.out.cell 0
    have q296 : (v219.alloc (.cells #[.int .i64 x, .int .i64 y, .int .i64 z] 46)).cell? ⟨v219.heap.size, 1, none⟩ = some (.int .i64 y) := X264.out.cell 1
    have q297 : (v219.alloc (.cells #[.int .i64 x, .int .i64 y, .int .i64 z] 46)).cell? ⟨v219.heap.size, 2, none⟩ = some (.int .i64 z) := X264.out.cell 2
    iterate 40 (first | (with_reducible show Code.wp _ (Code.region 7 _ _) _ _ _) | go_values | go_skip | go_guarded | go_step | go_upon | go_back | (simp only [Int.not_lt, Int.not_le] at *; go_simp) | go_simp)
    obtain ⟨W298, hW299⟩ : ∃ Wzz, ((((v219.alloc (.cells #[.int .i64 x, .int .i64 y, .int .i64 z] 46)).setCell ⟨w.heap.size + 1 + 1 + 1 + 1, 0, none⟩ (.int .i64 x)).setCell ⟨w.heap.size + 1 + 1 + 1 + 1, 1, none⟩ (.int .i64 y)).setCell ⟨w.heap.size + 1 + 1 + 1 + 1, 2, none⟩ (.int .i64 z)) = Wzz := ⟨_, rfl⟩
    have X300 := Lib.hid (show Box W298 (w.heap.size) 33 #[.int .i64 m.pr.bed.eye, .int .i64 m.pr.bed.rings, .int .i64 m.pr.bed.sectors, s, .int .i64 m.pr.run.eye, .int .i64 m.pr.run.rings, .int .i64 m.pr.run.sectors, r, d, gv] by rw [← hW299]; exact (((X258.out.far (p := ⟨w.heap.size + 1 + 1 + 1 + 1, 0, none⟩) (by first | (simp; done) | (simp; omega) | omega | (have := LTQ.out; first | omega | (dsimp only; omega))) (.int .i64 x)).far (p := ⟨w.heap.size + 1 + 1 + 1 + 1, 1, none⟩) (by first | (simp; done) | (simp; omega) | omega | (have := LTQ.out; first | omega | (dsimp only; omega))) (.int .i64 y)).far (p := ⟨w.heap.size + 1 + 1 + 1 + 1, 2, none⟩) (by first | (simp; done) | (simp; omega) | omega | (have := LTQ.out; first | omega | (dsimp only; omega))) (.int .i64 z)))
    have X301 := Lib.hid (show Box W298 (w.heap.size + 1) 48 #[.int .i64 a, .int .i64 b, .int .i64 t, .int .i64 size, .int .i64 cuts] by rw [← hW299]; exact (((X259.out.far (p := ⟨w.heap.size + 1 + 1 + 1 + 1, 0, none⟩) (by first | (simp; done) | (simp; omega) | omega | (have := LTQ.out; first | omega | (dsimp only; omega))) (.int .i64 x)).far (p := ⟨w.heap.size + 1 + 1 + 1 + 1, 1, none⟩) (by first | (simp; done) | (simp; omega) | omega | (have := LTQ.out; first | omega | (dsimp only; omega))) (.int .i64 y)).far (p := ⟨w.heap.size + 1 + 1 + 1 + 1, 2, none⟩) (by first | (simp; done) | (simp; omega) | omega | (have := LTQ.out; first | omega | (dsimp only; omega))) (.int .i64 z)))
    have X302 := Lib.hid (show Box W298 (w.heap.size + 1 + 1) 50 #[.int .i64 mo, .int .i64 ms, .bool false] by rw [← hW299]; exact (((X260.out.far (p := ⟨w.heap.size + 1 + 1 + 1 + 1, 0, none⟩) (by first | (simp; done) | (simp; omega) | omega | (have := LTQ.out; first | omega | (dsimp only; omega))) (.int .i64 x)).far (p := ⟨w.heap.size + 1 + 1 + 1 + 1, 1, none⟩) (by first | (simp; done) | (simp; omega) | omega | (have := LTQ.out; first | omega | (dsimp only; omega))) (.int .i64 y)).far (p := ⟨w.heap.size + 1 + 1 + 1 + 1, 2, none⟩) (by first | (simp; done) | (simp; omega) | omega | (have := LTQ.out; first | omega | (dsimp only; omega))) (.int .i64 z)))
    have X303 := Lib.hid (show Box W298 (w.heap.size + 1 + 1 + 1) 48 #[.int .i64 0, .int .i64 0, .int .i64 0, .int .i64 0, .int .i64 0] by rw [← hW299]; exact (((X261.out.far (p := ⟨w.heap.size + 1 + 1 + 1 + 1, 0, none⟩) (by first | (simp; done) | (simp; omega) | omega | (have := LTQ.out; first | omega | (dsimp only; omega))) (.int .i64 x)).far (p := ⟨w.heap.size + 1 + 1 + 1 + 1, 1, none⟩) (by first | (simp; done) | (simp; omega) | omega | (have := LTQ.out; first | omega | (dsimp only; omega))) (.int .i64 y)).far (p := ⟨w.heap.size + 1 + 1 + 1 + 1, 2, none⟩) (by first | (simp; done) | (simp; omega) | omega | (have := LTQ.out; first | omega | (dsimp only; omega))) (.int .i64 z)))
    have X304 := Lib.hid (show Box W298 (w.heap.size + 1 + 1 + 1 + 1) 48 #[.int .i64 x, .int .i64 y, .int .i64 z, .int .i64 size, .int .i64 cuts] by rw [← hW299]; exact (((X262.out.put 0 (.int .i64 x)).put 1 (.int .i64 y)).put 2 (.int .i64 z)))
    have X305 := Lib.hid (show Box W298 (v219.heap.size) 46 #[.int .i64 x, .int .i64 y, .int .i64 z] by rw [← hW299]; exact (((X264.out.far (p := ⟨w.heap.size + 1 + 1 + 1 + 1, 0, none⟩) (by first | (simp; done) | (simp; omega) | omega | (have := LTQ.out; first | omega | (dsimp only; omega))) (.int .i64 x)).far (p := ⟨w.heap.size + 1 + 1 + 1 + 1, 1, none⟩) (by first | (simp; done) | (simp; omega) | omega | (have := LTQ.out; first | omega | (dsimp only; omega))) (.int .i64 y)).far (p := ⟨w.heap.size + 1 + 1 + 1 + 1, 2, none⟩) (by first | (simp; done) | (simp; omega) | omega | (have := LTQ.out; first | omega | (dsimp only; omega))) (.int .i64 z)))
    have B306 := Lib.hid (show Below w.heap.size w W298 by rw [← hW299]; exact (((B263.out.setCell (p := ⟨w.heap.size + 1 + 1 + 1 + 1, 0, none⟩) (by first | (simp; done) | (simp; omega) | omega) (.int .i64 x)).setCell (p := ⟨w.heap.size + 1 + 1 + 1 + 1, 1, none⟩) (by first | (simp; done) | (simp; omega) | omega) (.int .i64 y)).setCell (p := ⟨w.heap.size + 1 + 1 + 1 + 1, 2, none⟩) (by first | (simp; done) | (simp; omega) | omega) (.int .i64 z)))
    clear q265 q266 q267 q268 q269 q270 q271 q272 q273 q274 q275 q276 q277 q278 q279 q280 q281 q282 q283 q284 q285 q286 q287 fz288 q289 q290 q291 q292 q293 fz294 q295 q296 q297 q227 q228 q229 q230 q231 q232 q233 q234 q235 q236 q237 q238 q239 q240 q241 q242 q243 q244 q245 q246 q247 q248 q249 fz250 q251 q252 q253 q254 q255 fz256
    rw [hW299]
    clear hW299
    have q307 : W298.cell? ⟨w.heap.size, 0, none⟩ = some (.int .i64 m.pr.bed.eye) := X300.out.cell 0
    have q308 : W298.cell? ⟨w.heap.size, 1, none⟩ = some (.int .i64 m.pr.bed.rings) := X300.out.cell 1
    have q309 : W298.cell? ⟨w.heap.size, 2, none⟩ = some (.int .i64 m.pr.bed.sectors) := X300.out.cell 2
    have q310 : W298.cell? ⟨w.heap.size, 3, none⟩ = some (s) := X300.out.cell 3
    have q311 : W298.cell? ⟨w.heap.size, 4, none⟩ = some (.int .i64 m.pr.run.eye) := X300.out.cell 4
    have q312 : W298.cell? ⟨w.heap.size, 5, none⟩ = some (.int .i64 m.pr.run.rings) := X300.out.cell 5
    have q313 : W298.cell? ⟨w.heap.size, 6, none⟩ = some (.int .i64 m.pr.run.sectors) := X300.out.cell 6
    have q314 : W298.cell? ⟨w.heap.size, 7, none⟩ = some (r) := X300.out.cell 7
    have q315 : W298.cell? ⟨w.heap.size, 8, none⟩ = some (d) := X300.out.cell 8
    have q316 : W298.cell? ⟨w.heap.size, 9, none⟩ = some (gv) := X300.out.cell 9
    have q317 : W298.cell? ⟨w.heap.size + 1, 0, none⟩ = some (.int .i64 a) := X301.out.cell 0
    have q318 : W298.cell? ⟨w.heap.size + 1, 1, none⟩ = some (.int .i64 b) := X301.out.cell 1
    have q319 : W298.cell? ⟨w.heap.size + 1, 2, none⟩ = some (.int .i64 t) := X301.out.cell 2
    have q320 : W298.cell? ⟨w.heap.size + 1, 3, none⟩ = some (.int .i64 size) := X301.out.cell 3
    have q321 : W298.cell? ⟨w.heap.size + 1, 4, none⟩ = some (.int .i64 cuts) := X301.out.cell 4
    have q322 : W298.cell? ⟨w.heap.size + 1 + 1, 0, none⟩ = some (.int .i64 mo) := X302.out.cell 0
    have q323 : W298.cell? ⟨w.heap.size + 1 + 1, 1, none⟩ = some (.int .i64 ms) := X302.out.cell 1
    have q324 : W298.cell? ⟨w.heap.size + 1 + 1, 2, none⟩ = some (.bool false) := X302.out.cell 2
    have q325 : W298.cell? ⟨w.heap.size + 1 + 1 + 1, 0, none⟩ = some (.int .i64 0) := X303.out.cell 0
    have q326 : W298.cell? ⟨w.heap.size + 1 + 1 + 1, 1, none⟩ = some (.int .i64 0) := X303.out.cell 1
    have q327 : W298.cell? ⟨w.heap.size + 1 + 1 + 1, 2, none⟩ = some (.int .i64 0) := X303.out.cell 2
    have q328 : W298.cell? ⟨w.heap.size + 1 + 1 + 1, 3, none⟩ = some (.int .i64 0) := X303.out.cell 3
    have q329 : W298.cell? ⟨w.heap.size + 1 + 1 + 1, 4, none⟩ = some (.int .i64 0) := X303.out.cell 4
    have fz330 : ∀ o, W298.frozen? ⟨w.heap.size + 1 + 1 + 1, o, none⟩ = false := fun o => X303.out.free o
    have q331 : W298.cell? ⟨w.heap.size + 1 + 1 + 1 + 1, 0, none⟩ = some (.int .i64 x) := X304.out.cell 0
    have q332 : W298.cell? ⟨w.heap.size + 1 + 1 + 1 + 1, 1, none⟩ = some (.int .i64 y) := X304.out.cell 1
    have q333 : W298.cell? ⟨w.heap.size + 1 + 1 + 1 + 1, 2, none⟩ = some (.int .i64 z) := X304.out.cell 2
    have q334 : W298.cell? ⟨w.heap.size + 1 + 1 + 1 + 1, 3, none⟩ = some (.int .i64 size) := X304.out.cell 3
    have q335 : W298.cell? ⟨w.heap.size + 1 + 1 + 1 + 1, 4, none⟩ = some (.int .i64 cuts) := X304.out.cell 4
    have fz336 : ∀ o, W298.frozen? ⟨w.heap.size + 1 + 1 + 1 + 1, o, none⟩ = false := fun o => X304.out.free o
    have q337 : W298.cell? ⟨v219.heap.size, 0, none⟩ = some (.int .i64 x) := X305.out.cell 0
    have q338 : W298.cell? ⟨v219.heap.size, 1, none⟩ = some (.int .i64 y) := X305.out.cell 1
    have q339 : W298.cell? ⟨v219.heap.size, 2, none⟩ = some (.int .i64 z) := X305.out.cell 2
    go_wp2_with fail
    (try simp only [Exit.inBlock, Exit.then])
    refine grainEnd2 (t := 6) (u := 7) (x := .bool ob) (v := .tuple #[stepV m ⟨a, b, t⟩ size cuts ⟨mo, ms, false⟩, .bool ob]) ?_ ?_ ?_ (((((X303.out.put 0 (.int .i64 x)).put 1 (.int .i64 y)).put 2 (.int .i64 z)).put 3 (.int .i64 size)).put 4 (.int .i64 cuts)) (((((B306.out.setCell (by first | (simp; done) | (simp; omega) | omega) _).setCell (by first | (simp; done) | (simp; omega) | omega) _).setCell (by first | (simp; done) | (simp; omega) | omega) _).setCell (by first | (simp; done) | (simp; omega) | omega) _).setCell (by first | (simp; done) | (simp; omega) | omega) _) ?_
    all_goals first | rfl | (rw [HR.out]; rfl) | (rw [HR.out])
  · skip
    go_enter Tryz.func55, Tryz.ntmps55
    go_wp2_with fail
    obtain ⟨W340, hW341⟩ : ∃ Wzz, (((((w.alloc (.cells #[.int .i64 m.pr.bed.eye, .int .i64 m.pr.bed.rings, .int .i64 m.pr.bed.sectors, s, .int .i64 m.pr.run.eye, .int .i64 m.pr.run.rings, .int .i64 m.pr.run.sectors, r, d, gv] 33)).alloc (.cells #[.int .i64 a, .int .i64 b, .int .i64 t, .int .i64 size, .int .i64 cuts] 48)).alloc (.cells #[.int .i64 mo, .int .i64 ms, .bool true] 50)).alloc (.cells #[.int .i64 0, .int .i64 0, .int .i64 0, .int .i64 0, .int .i64 0] 48)).alloc (.cells #[.int .i64 a, .int .i64 b, .int .i64 t, .int .i64 size, .int .i64 cuts] 48)) = Wzz := ⟨_, rfl⟩
    have B342 := Lib.hid (show Below w.heap.size w W340 by rw [← hW341]; exact ((((((Below.refl w.heap.size w).alloc (Nat.le_refl _) _).alloc (by first | (simp; done) | (simp; omega)) _).alloc (by first | (simp; done) | (simp; omega)) _).alloc (by first | (simp; done) | (simp; omega)) _).alloc (by first | (simp; done) | (simp; omega)) _))
    have X343 := Lib.hid (show Box W340 (w.heap.size) 33 #[.int .i64 m.pr.bed.eye, .int .i64 m.pr.bed.rings, .int .i64 m.pr.bed.sectors, s, .int .i64 m.pr.run.eye, .int .i64 m.pr.run.rings, .int .i64 m.pr.run.sectors, r, d, gv] by rw [← hW341]; exact Box.alloc (Box.alloc (Box.alloc (Box.alloc (Box.made w 33 #[.int .i64 m.pr.bed.eye, .int .i64 m.pr.bed.rings, .int .i64 m.pr.bed.sectors, s, .int .i64 m.pr.run.eye, .int .i64 m.pr.run.rings, .int .i64 m.pr.run.sectors, r, d, gv]) (.cells #[.int .i64 a, .int .i64 b, .int .i64 t, .int .i64 size, .int .i64 cuts] 48)) (.cells #[.int .i64 mo, .int .i64 ms, .bool true] 50)) (.cells #[.int .i64 0, .int .i64 0, .int .i64 0, .int .i64 0, .int .i64 0] 48)) (.cells #[.int .i64 a, .int .i64 b, .int .i64 t, .int .i64 size, .int .i64 cuts] 48))
    have X344 := Lib.hid (show Box W340 (w.heap.size + 1) 48 #[.int .i64 a, .int .i64 b, .int .i64 t, .int .i64 size, .int .i64 cuts] by
      have hz := Box.alloc (Box.alloc (Box.alloc (Box.made (w.alloc (.cells #[.int .i64 m.pr.bed.eye, .int .i64 m.pr.bed.rings, .int .i64 m.pr.bed.sectors, s, .int .i64 m.pr.run.eye, .int .i64 m.pr.run.rings, .int .i64 m.pr.run.sectors, r, d, gv] 33)) 48 #[.int .i64 a, .int .i64 b, .int .i64 t, .int .i64 size, .int .i64 cuts]) (.cells #[.int .i64 mo, .int .i64 ms, .bool true] 50)) (.cells #[.int .i64 0, .int .i64 0, .int .i64 0, .int .i64 0, .int .i64 0] 48)) (.cells #[.int .i64 a, .int .i64 b, .int .i64 t, .int .i64 size, .int .i64 cuts] 48)
      rw [World.size_alloc] at hz
      rw [← hW341]; exact hz)
    have X345 := Lib.hid (show Box W340 (w.heap.size + 1 + 1) 50 #[.int .i64 mo, .int .i64 ms, .bool true] by
      have hz := Box.alloc (Box.alloc (Box.made ((w.alloc (.cells #[.int .i64 m.pr.bed.eye, .int .i64 m.pr.bed.rings, .int .i64 m.pr.bed.sectors, s, .int .i64 m.pr.run.eye, .int .i64 m.pr.run.rings, .int .i64 m.pr.run.sectors, r, d, gv] 33)).alloc (.cells #[.int .i64 a, .int .i64 b, .int .i64 t, .int .i64 size, .int .i64 cuts] 48)) 50 #[.int .i64 mo, .int .i64 ms, .bool true]) (.cells #[.int .i64 0, .int .i64 0, .int .i64 0, .int .i64 0, .int .i64 0] 48)) (.cells #[.int .i64 a, .int .i64 b, .int .i64 t, .int .i64 size, .int .i64 cuts] 48)
      rw [World.size_alloc, World.size_alloc] at hz
      rw [← hW341]; exact hz)
    have X346 := Lib.hid (show Box W340 (w.heap.size + 1 + 1 + 1) 48 #[.int .i64 0, .int .i64 0, .int .i64 0, .int .i64 0, .int .i64 0] by
      have hz := Box.alloc (Box.made (((w.alloc (.cells #[.int .i64 m.pr.bed.eye, .int .i64 m.pr.bed.rings, .int .i64 m.pr.bed.sectors, s, .int .i64 m.pr.run.eye, .int .i64 m.pr.run.rings, .int .i64 m.pr.run.sectors, r, d, gv] 33)).alloc (.cells #[.int .i64 a, .int .i64 b, .int .i64 t, .int .i64 size, .int .i64 cuts] 48)).alloc (.cells #[.int .i64 mo, .int .i64 ms, .bool true] 50)) 48 #[.int .i64 0, .int .i64 0, .int .i64 0, .int .i64 0, .int .i64 0]) (.cells #[.int .i64 a, .int .i64 b, .int .i64 t, .int .i64 size, .int .i64 cuts] 48)
      rw [World.size_alloc, World.size_alloc, World.size_alloc] at hz
      rw [← hW341]; exact hz)
    have X347 := Lib.hid (show Box W340 (w.heap.size + 1 + 1 + 1 + 1) 48 #[.int .i64 a, .int .i64 b, .int .i64 t, .int .i64 size, .int .i64 cuts] by
      have hz := Box.made ((((w.alloc (.cells #[.int .i64 m.pr.bed.eye, .int .i64 m.pr.bed.rings, .int .i64 m.pr.bed.sectors, s, .int .i64 m.pr.run.eye, .int .i64 m.pr.run.rings, .int .i64 m.pr.run.sectors, r, d, gv] 33)).alloc (.cells #[.int .i64 a, .int .i64 b, .int .i64 t, .int .i64 size, .int .i64 cuts] 48)).alloc (.cells #[.int .i64 mo, .int .i64 ms, .bool true] 50)).alloc (.cells #[.int .i64 0, .int .i64 0, .int .i64 0, .int .i64 0, .int .i64 0] 48)) 48 #[.int .i64 a, .int .i64 b, .int .i64 t, .int .i64 size, .int .i64 cuts]
      rw [World.size_alloc, World.size_alloc, World.size_alloc, World.size_alloc] at hz
      rw [← hW341]; exact hz)
    have C348 := Lib.hid (HM0.out.later B342.out)
    have SZ349 := Lib.hid (show W340.heap.size = w.heap.size + 1 + 1 + 1 + 1 + 1 by rw [← hW341]; simp)
    rw [hW341]
    clear hW341
    have q350 : W340.cell? ⟨w.heap.size, 0, none⟩ = some (.int .i64 m.pr.bed.eye) := X343.out.cell 0
    have q351 : W340.cell? ⟨w.heap.size, 1, none⟩ = some (.int .i64 m.pr.bed.rings) := X343.out.cell 1
    have q352 : W340.cell? ⟨w.heap.size, 2, none⟩ = some (.int .i64 m.pr.bed.sectors) := X343.out.cell 2
    have q353 : W340.cell? ⟨w.heap.size, 3, none⟩ = some (s) := X343.out.cell 3
    have q354 : W340.cell? ⟨w.heap.size, 4, none⟩ = some (.int .i64 m.pr.run.eye) := X343.out.cell 4
    have q355 : W340.cell? ⟨w.heap.size, 5, none⟩ = some (.int .i64 m.pr.run.rings) := X343.out.cell 5
    have q356 : W340.cell? ⟨w.heap.size, 6, none⟩ = some (.int .i64 m.pr.run.sectors) := X343.out.cell 6
    have q357 : W340.cell? ⟨w.heap.size, 7, none⟩ = some (r) := X343.out.cell 7
    have q358 : W340.cell? ⟨w.heap.size, 8, none⟩ = some (d) := X343.out.cell 8
    have q359 : W340.cell? ⟨w.heap.size, 9, none⟩ = some (gv) := X343.out.cell 9
    have q360 : W340.cell? ⟨w.heap.size + 1, 0, none⟩ = some (.int .i64 a) := X344.out.cell 0
    have q361 : W340.cell? ⟨w.heap.size + 1, 1, none⟩ = some (.int .i64 b) := X344.out.cell 1
    have q362 : W340.cell? ⟨w.heap.size + 1, 2, none⟩ = some (.int .i64 t) := X344.out.cell 2
    have q363 : W340.cell? ⟨w.heap.size + 1, 3, none⟩ = some (.int .i64 size) := X344.out.cell 3
    have q364 : W340.cell? ⟨w.heap.size + 1, 4, none⟩ = some (.int .i64 cuts) := X344.out.cell 4
    have q365 : W340.cell? ⟨w.heap.size + 1 + 1, 0, none⟩ = some (.int .i64 mo) := X345.out.cell 0
    have q366 : W340.cell? ⟨w.heap.size + 1 + 1, 1, none⟩ = some (.int .i64 ms) := X345.out.cell 1
    have q367 : W340.cell? ⟨w.heap.size + 1 + 1, 2, none⟩ = some (.bool true) := X345.out.cell 2
    have q368 : W340.cell? ⟨w.heap.size + 1 + 1 + 1, 0, none⟩ = some (.int .i64 0) := X346.out.cell 0
    have q369 : W340.cell? ⟨w.heap.size + 1 + 1 + 1, 1, none⟩ = some (.int .i64 0) := X346.out.cell 1
    have q370 : W340.cell? ⟨w.heap.size + 1 + 1 + 1, 2, none⟩ = some (.int .i64 0) := X346.out.cell 2
    have q371 : W340.cell? ⟨w.heap.size + 1 + 1 + 1, 3, none⟩ = some (.int .i64 0) := X346.out.cell 3
    have q372 : W340.cell? ⟨w.heap.size + 1 + 1 + 1, 4, none⟩ = some (.int .i64 0) := X346.out.cell 4
    have fz373 : ∀ o, W340.frozen? ⟨w.heap.size + 1 + 1 + 1, o, none⟩ = false := fun o => X346.out.free o
    have q374 : W340.cell? ⟨w.heap.size + 1 + 1 + 1 + 1, 0, none⟩ = some (.int .i64 a) := X347.out.cell 0
    have q375 : W340.cell? ⟨w.heap.size + 1 + 1 + 1 + 1, 1, none⟩ = some (.int .i64 b) := X347.out.cell 1
    have q376 : W340.cell? ⟨w.heap.size + 1 + 1 + 1 + 1, 2, none⟩ = some (.int .i64 t) := X347.out.cell 2
    have q377 : W340.cell? ⟨w.heap.size + 1 + 1 + 1 + 1, 3, none⟩ = some (.int .i64 size) := X347.out.cell 3
    have q378 : W340.cell? ⟨w.heap.size + 1 + 1 + 1 + 1, 4, none⟩ = some (.int .i64 cuts) := X347.out.cell 4
    have fz379 : ∀ o, W340.frozen? ⟨w.heap.size + 1 + 1 + 1 + 1, o, none⟩ = false := fun o => X347.out.free o
    go_wp2_with fail
    refine (rbitten_c m a b t size _ _ C348.out HK.out HHS.out).mono ?_; rintro e v380 ⟨rfl, hb381⟩
    have X382 := Lib.hid (X343.out.later hb381)
    have X383 := Lib.hid (X344.out.later hb381)
    have X384 := Lib.hid (X345.out.later hb381)
    have X385 := Lib.hid (X346.out.later hb381)
    have X386 := Lib.hid (X347.out.later hb381)
    have C387 := Lib.hid (C348.out.later hb381)
    have B388 := Lib.hid (B342.out.trans (hb381.mono B342.out.size))
    clear hb381
    clear q350 q351 q352 q353 q354 q355 q356 q357 q358 q359 q360 q361 q362 q363 q364 q365 q366 q367 q368 q369 q370 q371 q372 fz373 q374 q375 q376 q377 q378 fz379
    have q389 : v380.cell? ⟨w.heap.size, 0, none⟩ = some (.int .i64 m.pr.bed.eye) := X382.out.cell 0
    have q390 : v380.cell? ⟨w.heap.size, 1, none⟩ = some (.int .i64 m.pr.bed.rings) := X382.out.cell 1
    have q391 : v380.cell? ⟨w.heap.size, 2, none⟩ = some (.int .i64 m.pr.bed.sectors) := X382.out.cell 2
    have q392 : v380.cell? ⟨w.heap.size, 3, none⟩ = some (s) := X382.out.cell 3
    have q393 : v380.cell? ⟨w.heap.size, 4, none⟩ = some (.int .i64 m.pr.run.eye) := X382.out.cell 4
    have q394 : v380.cell? ⟨w.heap.size, 5, none⟩ = some (.int .i64 m.pr.run.rings) := X382.out.cell 5
    have q395 : v380.cell? ⟨w.heap.size, 6, none⟩ = some (.int .i64 m.pr.run.sectors) := X382.out.cell 6
    have q396 : v380.cell? ⟨w.heap.size, 7, none⟩ = some (r) := X382.out.cell 7
    have q397 : v380.cell? ⟨w.heap.size, 8, none⟩ = some (d) := X382.out.cell 8
    have q398 : v380.cell? ⟨w.heap.size, 9, none⟩ = some (gv) := X382.out.cell 9
    have q399 : v380.cell? ⟨w.heap.size + 1, 0, none⟩ = some (.int .i64 a) := X383.out.cell 0
    have q400 : v380.cell? ⟨w.heap.size + 1, 1, none⟩ = some (.int .i64 b) := X383.out.cell 1
    have q401 : v380.cell? ⟨w.heap.size + 1, 2, none⟩ = some (.int .i64 t) := X383.out.cell 2
    have q402 : v380.cell? ⟨w.heap.size + 1, 3, none⟩ = some (.int .i64 size) := X383.out.cell 3
    have q403 : v380.cell? ⟨w.heap.size + 1, 4, none⟩ = some (.int .i64 cuts) := X383.out.cell 4
    have q404 : v380.cell? ⟨w.heap.size + 1 + 1, 0, none⟩ = some (.int .i64 mo) := X384.out.cell 0
    have q405 : v380.cell? ⟨w.heap.size + 1 + 1, 1, none⟩ = some (.int .i64 ms) := X384.out.cell 1
    have q406 : v380.cell? ⟨w.heap.size + 1 + 1, 2, none⟩ = some (.bool true) := X384.out.cell 2
    have q407 : v380.cell? ⟨w.heap.size + 1 + 1 + 1, 0, none⟩ = some (.int .i64 0) := X385.out.cell 0
    have q408 : v380.cell? ⟨w.heap.size + 1 + 1 + 1, 1, none⟩ = some (.int .i64 0) := X385.out.cell 1
    have q409 : v380.cell? ⟨w.heap.size + 1 + 1 + 1, 2, none⟩ = some (.int .i64 0) := X385.out.cell 2
    have q410 : v380.cell? ⟨w.heap.size + 1 + 1 + 1, 3, none⟩ = some (.int .i64 0) := X385.out.cell 3
    have q411 : v380.cell? ⟨w.heap.size + 1 + 1 + 1, 4, none⟩ = some (.int .i64 0) := X385.out.cell 4
    have fz412 : ∀ o, v380.frozen? ⟨w.heap.size + 1 + 1 + 1, o, none⟩ = false := fun o => X385.out.free o
    have q413 : v380.cell? ⟨w.heap.size + 1 + 1 + 1 + 1, 0, none⟩ = some (.int .i64 a) := X386.out.cell 0
    have q414 : v380.cell? ⟨w.heap.size + 1 + 1 + 1 + 1, 1, none⟩ = some (.int .i64 b) := X386.out.cell 1
    have q415 : v380.cell? ⟨w.heap.size + 1 + 1 + 1 + 1, 2, none⟩ = some (.int .i64 t) := X386.out.cell 2
    have q416 : v380.cell? ⟨w.heap.size + 1 + 1 + 1 + 1, 3, none⟩ = some (.int .i64 size) := X386.out.cell 3
    have q417 : v380.cell? ⟨w.heap.size + 1 + 1 + 1 + 1, 4, none⟩ = some (.int .i64 cuts) := X386.out.cell 4
    have fz418 : ∀ o, v380.frozen? ⟨w.heap.size + 1 + 1 + 1 + 1, o, none⟩ = false := fun o => X386.out.free o
    cases hq : bitesB m ⟨a, b, t⟩ size
    · have HR := Lib.hid (show stepV m ⟨a, b, t⟩ size cuts ⟨mo, ms, true⟩ = .agg #[.int .i64 x, .int .i64 y, .int .i64 z, .int .i64 size, .int .i64 cuts] by rw [HST.out]; rw [show cutsI m ⟨a, b, t⟩ size true = 0 by unfold cutsI; rw [hq]; rfl, Int.add_zero]; rfl)
      clear hq
      have HPN := Lib.hid (IsPair.mono HPW.out B388.out B388.out.size)
      have HPV := HPN.out
      unfold pairV at HPV
      have HPX := Lib.hid HPV
      clear HPV
      go_wp2_with fail
      refine (rnext_c m.pr a b t mo ms true _ _ HPX.out (ckM_zero HK.out).1 HHS.out HMV.out).mono ?_; rintro e v419 ⟨rfl, hb420⟩
      have X421 := Lib.hid (X382.out.later hb420)
      have X422 := Lib.hid (X383.out.later hb420)
      have X423 := Lib.hid (X384.out.later hb420)
      have X424 := Lib.hid (X385.out.later hb420)
      have X425 := Lib.hid (X386.out.later hb420)
      have B426 := Lib.hid (B388.out.trans (hb420.mono B388.out.size))
      clear hb420
      rw [HS.out, HO.out]
      unfold stV
      dsimp only
      have LTQ := Lib.hid X425.out.lt
      clear q389 q390 q391 q392 q393 q394 q395 q396 q397 q398 q399 q400 q401 q402 q403 q404 q405 q406 q407 q408 q409 q410 q411 fz412 q413 q414 q415 q416 q417 fz418
      have q427 : v419.cell? ⟨w.heap.size, 0, none⟩ = some (.int .i64 m.pr.bed.eye) := X421.out.cell 0
      have q428 : v419.cell? ⟨w.heap.size, 1, none⟩ = some (.int .i64 m.pr.bed.rings) := X421.out.cell 1
      have q429 : v419.cell? ⟨w.heap.size, 2, none⟩ = some (.int .i64 m.pr.bed.sectors) := X421.out.cell 2
      have q430 : v419.cell? ⟨w.heap.size, 3, none⟩ = some (s) := X421.out.cell 3
      have q431 : v419.cell? ⟨w.heap.size, 4, none⟩ = some (.int .i64 m.pr.run.eye) := X421.out.cell 4
      have q432 : v419.cell? ⟨w.heap.size, 5, none⟩ = some (.int .i64 m.pr.run.rings) := X421.out.cell 5
      have q433 : v419.cell? ⟨w.heap.size, 6, none⟩ = some (.int .i64 m.pr.run.sectors) := X421.out.cell 6
      have q434 : v419.cell? ⟨w.heap.size, 7, none⟩ = some (r) := X421.out.cell 7
      have q435 : v419.cell? ⟨w.heap.size, 8, none⟩ = some (d) := X421.out.cell 8
      have q436 : v419.cell? ⟨w.heap.size, 9, none⟩ = some (gv) := X421.out.cell 9
      have q437 : v419.cell? ⟨w.heap.size + 1, 0, none⟩ = some (.int .i64 a) := X422.out.cell 0
      have q438 : v419.cell? ⟨w.heap.size + 1, 1, none⟩ = some (.int .i64 b) := X422.out.cell 1
      have q439 : v419.cell? ⟨w.heap.size + 1, 2, none⟩ = some (.int .i64 t) := X422.out.cell 2
      have q440 : v419.cell? ⟨w.heap.size + 1, 3, none⟩ = some (.int .i64 size) := X422.out.cell 3
      have q441 : v419.cell? ⟨w.heap.size + 1, 4, none⟩ = some (.int .i64 cuts) := X422.out.cell 4
      have q442 : v419.cell? ⟨w.heap.size + 1 + 1, 0, none⟩ = some (.int .i64 mo) := X423.out.cell 0
      have q443 : v419.cell? ⟨w.heap.size + 1 + 1, 1, none⟩ = some (.int .i64 ms) := X423.out.cell 1
      have q444 : v419.cell? ⟨w.heap.size + 1 + 1, 2, none⟩ = some (.bool true) := X423.out.cell 2
      have q445 : v419.cell? ⟨w.heap.size + 1 + 1 + 1, 0, none⟩ = some (.int .i64 0) := X424.out.cell 0
      have q446 : v419.cell? ⟨w.heap.size + 1 + 1 + 1, 1, none⟩ = some (.int .i64 0) := X424.out.cell 1
      have q447 : v419.cell? ⟨w.heap.size + 1 + 1 + 1, 2, none⟩ = some (.int .i64 0) := X424.out.cell 2
      have q448 : v419.cell? ⟨w.heap.size + 1 + 1 + 1, 3, none⟩ = some (.int .i64 0) := X424.out.cell 3
      have q449 : v419.cell? ⟨w.heap.size + 1 + 1 + 1, 4, none⟩ = some (.int .i64 0) := X424.out.cell 4
      have fz450 : ∀ o, v419.frozen? ⟨w.heap.size + 1 + 1 + 1, o, none⟩ = false := fun o => X424.out.free o
      have q451 : v419.cell? ⟨w.heap.size + 1 + 1 + 1 + 1, 0, none⟩ = some (.int .i64 a) := X425.out.cell 0
      have q452 : v419.cell? ⟨w.heap.size + 1 + 1 + 1 + 1, 1, none⟩ = some (.int .i64 b) := X425.out.cell 1
      have q453 : v419.cell? ⟨w.heap.size + 1 + 1 + 1 + 1, 2, none⟩ = some (.int .i64 t) := X425.out.cell 2
      have q454 : v419.cell? ⟨w.heap.size + 1 + 1 + 1 + 1, 3, none⟩ = some (.int .i64 size) := X425.out.cell 3
      have q455 : v419.cell? ⟨w.heap.size + 1 + 1 + 1 + 1, 4, none⟩ = some (.int .i64 cuts) := X425.out.cell 4
      have fz456 : ∀ o, v419.frozen? ⟨w.heap.size + 1 + 1 + 1 + 1, o, none⟩ = false := fun o => X425.out.free o
      have LT457 := Lib.hid X423.out.lt
      have X458 := Lib.hid (X421.out.alloc (.cells #[.int .i64 x, .int .i64 y, .int .i64 z] 46))
      have X459 := Lib.hid (X422.out.alloc (.cells #[.int .i64 x, .int .i64 y, .int .i64 z] 46))
      have X460 := Lib.hid (X423.out.alloc (.cells #[.int .i64 x, .int .i64 y, .int .i64 z] 46))
      have X461 := Lib.hid (X424.out.alloc (.cells #[.int .i64 x, .int .i64 y, .int .i64 z] 46))
      have X462 := Lib.hid (X425.out.alloc (.cells #[.int .i64 x, .int .i64 y, .int .i64 z] 46))
      have B463 := Lib.hid (B426.out.alloc B426.out.size (.cells #[.int .i64 x, .int .i64 y, .int .i64 z] 46))
      have X464 := Lib.hid (Box.made v419 46 #[.int .i64 x, .int .i64 y, .int .i64 z])
      have q465 : (v419.alloc (.cells #[.int .i64 x, .int .i64 y, .int .i64 z] 46)).cell? ⟨w.heap.size, 0, none⟩ = some (.int .i64 m.pr.bed.eye) := X458.out.cell 0
      have q466 : (v419.alloc (.cells #[.int .i64 x, .int .i64 y, .int .i64 z] 46)).cell? ⟨w.heap.size, 1, none⟩ = some (.int .i64 m.pr.bed.rings) := X458.out.cell 1
      have q467 : (v419.alloc (.cells #[.int .i64 x, .int .i64 y, .int .i64 z] 46)).cell? ⟨w.heap.size, 2, none⟩ = some (.int .i64 m.pr.bed.sectors) := X458.out.cell 2
      have q468 : (v419.alloc (.cells #[.int .i64 x, .int .i64 y, .int .i64 z] 46)).cell? ⟨w.heap.size, 3, none⟩ = some (s) := X458.out.cell 3
      have q469 : (v419.alloc (.cells #[.int .i64 x, .int .i64 y, .int .i64 z] 46)).cell? ⟨w.heap.size, 4, none⟩ = some (.int .i64 m.pr.run.eye) := X458.out.cell 4
      have q470 : (v419.alloc (.cells #[.int .i64 x, .int .i64 y, .int .i64 z] 46)).cell? ⟨w.heap.size, 5, none⟩ = some (.int .i64 m.pr.run.rings) := X458.out.cell 5
      have q471 : (v419.alloc (.cells #[.int .i64 x, .int .i64 y, .int .i64 z] 46)).cell? ⟨w.heap.size, 6, none⟩ = some (.int .i64 m.pr.run.sectors) := X458.out.cell 6
      have q472 : (v419.alloc (.cells #[.int .i64 x, .int .i64 y, .int .i64 z] 46)).cell? ⟨w.heap.size, 7, none⟩ = some (r) := X458.out.cell 7
      have q473 : (v419.alloc (.cells #[.int .i64 x, .int .i64 y, .int .i64 z] 46)).cell? ⟨w.heap.size, 8, none⟩ = some (d) := X458.out.cell 8
      have q474 : (v419.alloc (.cells #[.int .i64 x, .int .i64 y, .int .i64 z] 46)).cell? ⟨w.heap.size, 9, none⟩ = some (gv) := X458.out.cell 9
      have q475 : (v419.alloc (.cells #[.int .i64 x, .int .i64 y, .int .i64 z] 46)).cell? ⟨w.heap.size + 1, 0, none⟩ = some (.int .i64 a) := X459.out.cell 0
      have q476 : (v419.alloc (.cells #[.int .i64 x, .int .i64 y, .int .i64 z] 46)).cell? ⟨w.heap.size + 1, 1, none⟩ = some (.int .i64 b) := X459.out.cell 1
      have q477 : (v419.alloc (.cells #[.int .i64 x, .int .i64 y, .int .i64 z] 46)).cell? ⟨w.heap.size + 1, 2, none⟩ = some (.int .i64 t) := X459.out.cell 2
      have q478 : (v419.alloc (.cells #[.int .i64 x, .int .i64 y, .int .i64 z] 46)).cell? ⟨w.heap.size + 1, 3, none⟩ = some (.int .i64 size) := X459.out.cell 3
      have q479 : (v419.alloc (.cells #[.int .i64 x, .int .i64 y, .int .i64 z] 46)).cell? ⟨w.heap.size + 1, 4, none⟩ = some (.int .i64 cuts) := X459.out.cell 4
      have q480 : (v419.alloc (.cells #[.int .i64 x, .int .i64 y, .int .i64 z] 46)).cell? ⟨w.heap.size + 1 + 1, 0, none⟩ = some (.int .i64 mo) := X460.out.cell 0
      have q481 : (v419.alloc (.cells #[.int .i64 x, .int .i64 y, .int .i64 z] 46)).cell? ⟨w.heap.size + 1 + 1, 1, none⟩ = some (.int .i64 ms) := X460.out.cell 1
      have q482 : (v419.alloc (.cells #[.int .i64 x, .int .i64 y, .int .i64 z] 46)).cell? ⟨w.heap.size + 1 + 1, 2, none⟩ = some (.bool true) := X460.out.cell 2
      have q483 : (v419.alloc (.cells #[.int .i64 x, .int .i64 y, .int .i64 z] 46)).cell? ⟨w.heap.size + 1 + 1 + 1, 0, none⟩ = some (.int .i64 0) := X461.out.cell 0
      have q484 : (v419.alloc (.cells #[.int .i64 x, .int .i64 y, .int .i64 z] 46)).cell? ⟨w.heap.size + 1 + 1 + 1, 1, none⟩ = some (.int .i64 0) := X461.out.cell 1
      have q485 : (v419.alloc (.cells #[.int .i64 x, .int .i64 y, .int .i64 z] 46)).cell? ⟨w.heap.size + 1 + 1 + 1, 2, none⟩ = some (.int .i64 0) := X461.out.cell 2
      have q486 : (v419.alloc (.cells #[.int .i64 x, .int .i64 y, .int .i64 z] 46)).cell? ⟨w.heap.size + 1 + 1 + 1, 3, none⟩ = some (.int .i64 0) := X461.out.cell 3
      have q487 : (v419.alloc (.cells #[.int .i64 x, .int .i64 y, .int .i64 z] 46)).cell? ⟨w.heap.size + 1 + 1 + 1, 4, none⟩ = some (.int .i64 0) := X461.out.cell 4
      have fz488 : ∀ o, (v419.alloc (.cells #[.int .i64 x, .int .i64 y, .int .i64 z] 46)).frozen? ⟨w.heap.size + 1 + 1 + 1, o, none⟩ = false := fun o => X461.out.free o
      have q489 : (v419.alloc (.cells #[.int .i64 x, .int .i64 y, .int .i64 z] 46)).cell? ⟨w.heap.size + 1 + 1 + 1 + 1, 0, none⟩ = some (.int .i64 a) := X462.out.cell 0
      have q490 : (v419.alloc (.cells #[.int .i64 x, .int .i64 y, .int .i64 z] 46)).cell? ⟨w.heap.size + 1 + 1 + 1 + 1, 1, none⟩ = some (.int .i64 b) := X462.out.cell 1
      have q491 : (v419.alloc (.cells #[.int .i64 x, .int .i64 y, .int .i64 z] 46)).cell? ⟨w.heap.size + 1 + 1 + 1 + 1, 2, none⟩ = some (.int .i64 t) := X462.out.cell 2
      have q492 : (v419.alloc (.cells #[.int .i64 x, .int .i64 y, .int .i64 z] 46)).cell? ⟨w.heap.size + 1 + 1 + 1 + 1, 3, none⟩ = some (.int .i64 size) := X462.out.cell 3
      have q493 : (v419.alloc (.cells #[.int .i64 x, .int .i64 y, .int .i64 z] 46)).cell? ⟨w.heap.size + 1 + 1 + 1 + 1, 4, none⟩ = some (.int .i64 cuts) := X462.out.cell 4
      have fz494 : ∀ o, (v419.alloc (.cells #[.int .i64 x, .int .i64 y, .int .i64 z] 46)).frozen? ⟨w.heap.size + 1 + 1 + 1 + 1, o, none⟩ = false := fun o => X462.out.free o
      have q495 : (v419.alloc (.cells #[.int .i64 x, .int .i64 y, .int .i64 z] 46)).cell? ⟨v419.heap.size, 0, none⟩ = some (.int .i64 x) := X464.out.cell 0
      have q496 : (v419.alloc (.cells #[.int .i64 x, .int .i64 y, .int .i64 z] 46)).cell? ⟨v419.heap.size, 1, none⟩ = some (.int .i64 y) := X464.out.cell 1
      have q497 : (v419.alloc (.cells #[.int .i64 x, .int .i64 y, .int .i64 z] 46)).cell? ⟨v419.heap.size, 2, none⟩ = some (.int .i64 z) := X464.out.cell 2
      iterate 40 (first | (with_reducible show Code.wp _ (Code.region 7 _ _) _ _ _) | go_values | go_skip | go_guarded | go_step | go_upon | go_back | (simp only [Int.not_lt, Int.not_le] at *; go_simp) | go_simp)
      obtain ⟨W498, hW499⟩ : ∃ Wzz, ((((v419.alloc (.cells #[.int .i64 x, .int .i64 y, .int .i64 z] 46)).setCell ⟨w.heap.size + 1 + 1 + 1 + 1, 0, none⟩ (.int .i64 x)).setCell ⟨w.heap.size + 1 + 1 + 1 + 1, 1, none⟩ (.int .i64 y)).setCell ⟨w.heap.size + 1 + 1 + 1 + 1, 2, none⟩ (.int .i64 z)) = Wzz := ⟨_, rfl⟩
      have X500 := Lib.hid (show Box W498 (w.heap.size) 33 #[.int .i64 m.pr.bed.eye, .int .i64 m.pr.bed.rings, .int .i64 m.pr.bed.sectors, s, .int .i64 m.pr.run.eye, .int .i64 m.pr.run.rings, .int .i64 m.pr.run.sectors, r, d, gv] by rw [← hW499]; exact (((X458.out.far (p := ⟨w.heap.size + 1 + 1 + 1 + 1, 0, none⟩) (by first | (simp; done) | (simp; omega) | omega | (have := LTQ.out; first | omega | (dsimp only; omega))) (.int .i64 x)).far (p := ⟨w.heap.size + 1 + 1 + 1 + 1, 1, none⟩) (by first | (simp; done) | (simp; omega) | omega | (have := LTQ.out; first | omega | (dsimp only; omega))) (.int .i64 y)).far (p := ⟨w.heap.size + 1 + 1 + 1 + 1, 2, none⟩) (by first | (simp; done) | (simp; omega) | omega | (have := LTQ.out; first | omega | (dsimp only; omega))) (.int .i64 z)))
      have X501 := Lib.hid (show Box W498 (w.heap.size + 1) 48 #[.int .i64 a, .int .i64 b, .int .i64 t, .int .i64 size, .int .i64 cuts] by rw [← hW499]; exact (((X459.out.far (p := ⟨w.heap.size + 1 + 1 + 1 + 1, 0, none⟩) (by first | (simp; done) | (simp; omega) | omega | (have := LTQ.out; first | omega | (dsimp only; omega))) (.int .i64 x)).far (p := ⟨w.heap.size + 1 + 1 + 1 + 1, 1, none⟩) (by first | (simp; done) | (simp; omega) | omega | (have := LTQ.out; first | omega | (dsimp only; omega))) (.int .i64 y)).far (p := ⟨w.heap.size + 1 + 1 + 1 + 1, 2, none⟩) (by first | (simp; done) | (simp; omega) | omega | (have := LTQ.out; first | omega | (dsimp only; omega))) (.int .i64 z)))
      have X502 := Lib.hid (show Box W498 (w.heap.size + 1 + 1) 50 #[.int .i64 mo, .int .i64 ms, .bool true] by rw [← hW499]; exact (((X460.out.far (p := ⟨w.heap.size + 1 + 1 + 1 + 1, 0, none⟩) (by first | (simp; done) | (simp; omega) | omega | (have := LTQ.out; first | omega | (dsimp only; omega))) (.int .i64 x)).far (p := ⟨w.heap.size + 1 + 1 + 1 + 1, 1, none⟩) (by first | (simp; done) | (simp; omega) | omega | (have := LTQ.out; first | omega | (dsimp only; omega))) (.int .i64 y)).far (p := ⟨w.heap.size + 1 + 1 + 1 + 1, 2, none⟩) (by first | (simp; done) | (simp; omega) | omega | (have := LTQ.out; first | omega | (dsimp only; omega))) (.int .i64 z)))
      have X503 := Lib.hid (show Box W498 (w.heap.size + 1 + 1 + 1) 48 #[.int .i64 0, .int .i64 0, .int .i64 0, .int .i64 0, .int .i64 0] by rw [← hW499]; exact (((X461.out.far (p := ⟨w.heap.size + 1 + 1 + 1 + 1, 0, none⟩) (by first | (simp; done) | (simp; omega) | omega | (have := LTQ.out; first | omega | (dsimp only; omega))) (.int .i64 x)).far (p := ⟨w.heap.size + 1 + 1 + 1 + 1, 1, none⟩) (by first | (simp; done) | (simp; omega) | omega | (have := LTQ.out; first | omega | (dsimp only; omega))) (.int .i64 y)).far (p := ⟨w.heap.size + 1 + 1 + 1 + 1, 2, none⟩) (by first | (simp; done) | (simp; omega) | omega | (have := LTQ.out; first | omega | (dsimp only; omega))) (.int .i64 z)))
      have X504 := Lib.hid (show Box W498 (w.heap.size + 1 + 1 + 1 + 1) 48 #[.int .i64 x, .int .i64 y, .int .i64 z, .int .i64 size, .int .i64 cuts] by rw [← hW499]; exact (((X462.out.put 0 (.int .i64 x)).put 1 (.int .i64 y)).put 2 (.int .i64 z)))
      have X505 := Lib.hid (show Box W498 (v419.heap.size) 46 #[.int .i64 x, .int .i64 y, .int .i64 z] by rw [← hW499]; exact (((X464.out.far (p := ⟨w.heap.size + 1 + 1 + 1 + 1, 0, none⟩) (by first | (simp; done) | (simp; omega) | omega | (have := LTQ.out; first | omega | (dsimp only; omega))) (.int .i64 x)).far (p := ⟨w.heap.size + 1 + 1 + 1 + 1, 1, none⟩) (by first | (simp; done) | (simp; omega) | omega | (have := LTQ.out; first | omega | (dsimp only; omega))) (.int .i64 y)).far (p := ⟨w.heap.size + 1 + 1 + 1 + 1, 2, none⟩) (by first | (simp; done) | (simp; omega) | omega | (have := LTQ.out; first | omega | (dsimp only; omega))) (.int .i64 z)))
      have B506 := Lib.hid (show Below w.heap.size w W498 by rw [← hW499]; exact (((B463.out.setCell (p := ⟨w.heap.size + 1 + 1 + 1 + 1, 0, none⟩) (by first | (simp; done) | (simp; omega) | omega) (.int .i64 x)).setCell (p := ⟨w.heap.size + 1 + 1 + 1 + 1, 1, none⟩) (by first | (simp; done) | (simp; omega) | omega) (.int .i64 y)).setCell (p := ⟨w.heap.size + 1 + 1 + 1 + 1, 2, none⟩) (by first | (simp; done) | (simp; omega) | omega) (.int .i64 z)))
      clear q465 q466 q467 q468 q469 q470 q471 q472 q473 q474 q475 q476 q477 q478 q479 q480 q481 q482 q483 q484 q485 q486 q487 fz488 q489 q490 q491 q492 q493 fz494 q495 q496 q497 q427 q428 q429 q430 q431 q432 q433 q434 q435 q436 q437 q438 q439 q440 q441 q442 q443 q444 q445 q446 q447 q448 q449 fz450 q451 q452 q453 q454 q455 fz456
      rw [hW499]
      clear hW499
      have q507 : W498.cell? ⟨w.heap.size, 0, none⟩ = some (.int .i64 m.pr.bed.eye) := X500.out.cell 0
      have q508 : W498.cell? ⟨w.heap.size, 1, none⟩ = some (.int .i64 m.pr.bed.rings) := X500.out.cell 1
      have q509 : W498.cell? ⟨w.heap.size, 2, none⟩ = some (.int .i64 m.pr.bed.sectors) := X500.out.cell 2
      have q510 : W498.cell? ⟨w.heap.size, 3, none⟩ = some (s) := X500.out.cell 3
      have q511 : W498.cell? ⟨w.heap.size, 4, none⟩ = some (.int .i64 m.pr.run.eye) := X500.out.cell 4
      have q512 : W498.cell? ⟨w.heap.size, 5, none⟩ = some (.int .i64 m.pr.run.rings) := X500.out.cell 5
      have q513 : W498.cell? ⟨w.heap.size, 6, none⟩ = some (.int .i64 m.pr.run.sectors) := X500.out.cell 6
      have q514 : W498.cell? ⟨w.heap.size, 7, none⟩ = some (r) := X500.out.cell 7
      have q515 : W498.cell? ⟨w.heap.size, 8, none⟩ = some (d) := X500.out.cell 8
      have q516 : W498.cell? ⟨w.heap.size, 9, none⟩ = some (gv) := X500.out.cell 9
      have q517 : W498.cell? ⟨w.heap.size + 1, 0, none⟩ = some (.int .i64 a) := X501.out.cell 0
      have q518 : W498.cell? ⟨w.heap.size + 1, 1, none⟩ = some (.int .i64 b) := X501.out.cell 1
      have q519 : W498.cell? ⟨w.heap.size + 1, 2, none⟩ = some (.int .i64 t) := X501.out.cell 2
      have q520 : W498.cell? ⟨w.heap.size + 1, 3, none⟩ = some (.int .i64 size) := X501.out.cell 3
      have q521 : W498.cell? ⟨w.heap.size + 1, 4, none⟩ = some (.int .i64 cuts) := X501.out.cell 4
      have q522 : W498.cell? ⟨w.heap.size + 1 + 1, 0, none⟩ = some (.int .i64 mo) := X502.out.cell 0
      have q523 : W498.cell? ⟨w.heap.size + 1 + 1, 1, none⟩ = some (.int .i64 ms) := X502.out.cell 1
      have q524 : W498.cell? ⟨w.heap.size + 1 + 1, 2, none⟩ = some (.bool true) := X502.out.cell 2
      have q525 : W498.cell? ⟨w.heap.size + 1 + 1 + 1, 0, none⟩ = some (.int .i64 0) := X503.out.cell 0
      have q526 : W498.cell? ⟨w.heap.size + 1 + 1 + 1, 1, none⟩ = some (.int .i64 0) := X503.out.cell 1
      have q527 : W498.cell? ⟨w.heap.size + 1 + 1 + 1, 2, none⟩ = some (.int .i64 0) := X503.out.cell 2
      have q528 : W498.cell? ⟨w.heap.size + 1 + 1 + 1, 3, none⟩ = some (.int .i64 0) := X503.out.cell 3
      have q529 : W498.cell? ⟨w.heap.size + 1 + 1 + 1, 4, none⟩ = some (.int .i64 0) := X503.out.cell 4
      have fz530 : ∀ o, W498.frozen? ⟨w.heap.size + 1 + 1 + 1, o, none⟩ = false := fun o => X503.out.free o
      have q531 : W498.cell? ⟨w.heap.size + 1 + 1 + 1 + 1, 0, none⟩ = some (.int .i64 x) := X504.out.cell 0
      have q532 : W498.cell? ⟨w.heap.size + 1 + 1 + 1 + 1, 1, none⟩ = some (.int .i64 y) := X504.out.cell 1
      have q533 : W498.cell? ⟨w.heap.size + 1 + 1 + 1 + 1, 2, none⟩ = some (.int .i64 z) := X504.out.cell 2
      have q534 : W498.cell? ⟨w.heap.size + 1 + 1 + 1 + 1, 3, none⟩ = some (.int .i64 size) := X504.out.cell 3
      have q535 : W498.cell? ⟨w.heap.size + 1 + 1 + 1 + 1, 4, none⟩ = some (.int .i64 cuts) := X504.out.cell 4
      have fz536 : ∀ o, W498.frozen? ⟨w.heap.size + 1 + 1 + 1 + 1, o, none⟩ = false := fun o => X504.out.free o
      have q537 : W498.cell? ⟨v419.heap.size, 0, none⟩ = some (.int .i64 x) := X505.out.cell 0
      have q538 : W498.cell? ⟨v419.heap.size, 1, none⟩ = some (.int .i64 y) := X505.out.cell 1
      have q539 : W498.cell? ⟨v419.heap.size, 2, none⟩ = some (.int .i64 z) := X505.out.cell 2
      go_wp2_with fail
      (try simp only [Exit.inBlock, Exit.then])
      refine grainEnd2 (t := 6) (u := 7) (x := .bool ob) (v := .tuple #[stepV m ⟨a, b, t⟩ size cuts ⟨mo, ms, true⟩, .bool ob]) ?_ ?_ ?_ (((((X503.out.put 0 (.int .i64 x)).put 1 (.int .i64 y)).put 2 (.int .i64 z)).put 3 (.int .i64 size)).put 4 (.int .i64 cuts)) (((((B506.out.setCell (by first | (simp; done) | (simp; omega) | omega) _).setCell (by first | (simp; done) | (simp; omega) | omega) _).setCell (by first | (simp; done) | (simp; omega) | omega) _).setCell (by first | (simp; done) | (simp; omega) | omega) _).setCell (by first | (simp; done) | (simp; omega) | omega) _) ?_
      all_goals first | rfl | (rw [HR.out]; rfl) | (rw [HR.out])
    · have HR := Lib.hid (show stepV m ⟨a, b, t⟩ size cuts ⟨mo, ms, true⟩ = .agg #[.int .i64 x, .int .i64 y, .int .i64 z, .int .i64 hv9, .int .i64 k] by rw [HST.out]; rw [show cutsI m ⟨a, b, t⟩ size true = 1 by unfold cutsI; rw [hq]; rfl]; rw [show cuts + 1 = k from HKK.out, show hvN (1 : Int).toNat size = hv9 from HHV.out])
      clear hq
      iterate 40 (first | (with_reducible show Code.wp _ (Code.region 4 _ _) _ _ _) | go_values | go_skip | go_guarded | go_step | go_upon | go_back | (simp only [Int.not_lt, Int.not_le] at *; go_simp) | go_simp)
      obtain ⟨W540, hW541⟩ : ∃ Wzz, (v380.setCell ⟨w.heap.size + 1 + 1 + 1 + 1, 4, none⟩ (.int .i64 k)) = Wzz := ⟨_, rfl⟩
      have X542 := Lib.hid (show Box W540 (w.heap.size) 33 #[.int .i64 m.pr.bed.eye, .int .i64 m.pr.bed.rings, .int .i64 m.pr.bed.sectors, s, .int .i64 m.pr.run.eye, .int .i64 m.pr.run.rings, .int .i64 m.pr.run.sectors, r, d, gv] by rw [← hW541]; exact (X382.out.far (p := ⟨w.heap.size + 1 + 1 + 1 + 1, 4, none⟩) (by first | (simp; done) | (simp; omega) | omega | (have := LTQ.out; first | omega | (dsimp only; omega))) (.int .i64 k)))
      have X543 := Lib.hid (show Box W540 (w.heap.size + 1) 48 #[.int .i64 a, .int .i64 b, .int .i64 t, .int .i64 size, .int .i64 cuts] by rw [← hW541]; exact (X383.out.far (p := ⟨w.heap.size + 1 + 1 + 1 + 1, 4, none⟩) (by first | (simp; done) | (simp; omega) | omega | (have := LTQ.out; first | omega | (dsimp only; omega))) (.int .i64 k)))
      have X544 := Lib.hid (show Box W540 (w.heap.size + 1 + 1) 50 #[.int .i64 mo, .int .i64 ms, .bool true] by rw [← hW541]; exact (X384.out.far (p := ⟨w.heap.size + 1 + 1 + 1 + 1, 4, none⟩) (by first | (simp; done) | (simp; omega) | omega | (have := LTQ.out; first | omega | (dsimp only; omega))) (.int .i64 k)))
      have X545 := Lib.hid (show Box W540 (w.heap.size + 1 + 1 + 1) 48 #[.int .i64 0, .int .i64 0, .int .i64 0, .int .i64 0, .int .i64 0] by rw [← hW541]; exact (X385.out.far (p := ⟨w.heap.size + 1 + 1 + 1 + 1, 4, none⟩) (by first | (simp; done) | (simp; omega) | omega | (have := LTQ.out; first | omega | (dsimp only; omega))) (.int .i64 k)))
      have X546 := Lib.hid (show Box W540 (w.heap.size + 1 + 1 + 1 + 1) 48 #[.int .i64 a, .int .i64 b, .int .i64 t, .int .i64 size, .int .i64 k] by rw [← hW541]; exact (X386.out.put 4 (.int .i64 k)))
      have B547 := Lib.hid (show Below w.heap.size w W540 by rw [← hW541]; exact (B388.out.setCell (p := ⟨w.heap.size + 1 + 1 + 1 + 1, 4, none⟩) (by first | (simp; done) | (simp; omega) | omega) (.int .i64 k)))
      clear q389 q390 q391 q392 q393 q394 q395 q396 q397 q398 q399 q400 q401 q402 q403 q404 q405 q406 q407 q408 q409 q410 q411 fz412 q413 q414 q415 q416 q417 fz418
      rw [hW541]
      clear hW541
      have q548 : W540.cell? ⟨w.heap.size, 0, none⟩ = some (.int .i64 m.pr.bed.eye) := X542.out.cell 0
      have q549 : W540.cell? ⟨w.heap.size, 1, none⟩ = some (.int .i64 m.pr.bed.rings) := X542.out.cell 1
      have q550 : W540.cell? ⟨w.heap.size, 2, none⟩ = some (.int .i64 m.pr.bed.sectors) := X542.out.cell 2
      have q551 : W540.cell? ⟨w.heap.size, 3, none⟩ = some (s) := X542.out.cell 3
      have q552 : W540.cell? ⟨w.heap.size, 4, none⟩ = some (.int .i64 m.pr.run.eye) := X542.out.cell 4
      have q553 : W540.cell? ⟨w.heap.size, 5, none⟩ = some (.int .i64 m.pr.run.rings) := X542.out.cell 5
      have q554 : W540.cell? ⟨w.heap.size, 6, none⟩ = some (.int .i64 m.pr.run.sectors) := X542.out.cell 6
      have q555 : W540.cell? ⟨w.heap.size, 7, none⟩ = some (r) := X542.out.cell 7
      have q556 : W540.cell? ⟨w.heap.size, 8, none⟩ = some (d) := X542.out.cell 8
      have q557 : W540.cell? ⟨w.heap.size, 9, none⟩ = some (gv) := X542.out.cell 9
      have q558 : W540.cell? ⟨w.heap.size + 1, 0, none⟩ = some (.int .i64 a) := X543.out.cell 0
      have q559 : W540.cell? ⟨w.heap.size + 1, 1, none⟩ = some (.int .i64 b) := X543.out.cell 1
      have q560 : W540.cell? ⟨w.heap.size + 1, 2, none⟩ = some (.int .i64 t) := X543.out.cell 2
      have q561 : W540.cell? ⟨w.heap.size + 1, 3, none⟩ = some (.int .i64 size) := X543.out.cell 3
      have q562 : W540.cell? ⟨w.heap.size + 1, 4, none⟩ = some (.int .i64 cuts) := X543.out.cell 4
      have q563 : W540.cell? ⟨w.heap.size + 1 + 1, 0, none⟩ = some (.int .i64 mo) := X544.out.cell 0
      have q564 : W540.cell? ⟨w.heap.size + 1 + 1, 1, none⟩ = some (.int .i64 ms) := X544.out.cell 1
      have q565 : W540.cell? ⟨w.heap.size + 1 + 1, 2, none⟩ = some (.bool true) := X544.out.cell 2
      have q566 : W540.cell? ⟨w.heap.size + 1 + 1 + 1, 0, none⟩ = some (.int .i64 0) := X545.out.cell 0
      have q567 : W540.cell? ⟨w.heap.size + 1 + 1 + 1, 1, none⟩ = some (.int .i64 0) := X545.out.cell 1
      have q568 : W540.cell? ⟨w.heap.size + 1 + 1 + 1, 2, none⟩ = some (.int .i64 0) := X545.out.cell 2
      have q569 : W540.cell? ⟨w.heap.size + 1 + 1 + 1, 3, none⟩ = some (.int .i64 0) := X545.out.cell 3
      have q570 : W540.cell? ⟨w.heap.size + 1 + 1 + 1, 4, none⟩ = some (.int .i64 0) := X545.out.cell 4
      have fz571 : ∀ o, W540.frozen? ⟨w.heap.size + 1 + 1 + 1, o, none⟩ = false := fun o => X545.out.free o
      have q572 : W540.cell? ⟨w.heap.size + 1 + 1 + 1 + 1, 0, none⟩ = some (.int .i64 a) := X546.out.cell 0
      have q573 : W540.cell? ⟨w.heap.size + 1 + 1 + 1 + 1, 1, none⟩ = some (.int .i64 b) := X546.out.cell 1
      have q574 : W540.cell? ⟨w.heap.size + 1 + 1 + 1 + 1, 2, none⟩ = some (.int .i64 t) := X546.out.cell 2
      have q575 : W540.cell? ⟨w.heap.size + 1 + 1 + 1 + 1, 3, none⟩ = some (.int .i64 size) := X546.out.cell 3
      have q576 : W540.cell? ⟨w.heap.size + 1 + 1 + 1 + 1, 4, none⟩ = some (.int .i64 k) := X546.out.cell 4
      have fz577 : ∀ o, W540.frozen? ⟨w.heap.size + 1 + 1 + 1 + 1, o, none⟩ = false := fun o => X546.out.free o
      go_wp2_with fail
      refine (rhalved_c size 1 _ HSZ.out).mono ?_; rintro e v578 ⟨rfl, rfl⟩
      rw [show hvN (1 : Int).toNat size = hv9 from HHV.out]
      iterate 40 (first | (with_reducible show Code.wp _ (Code.region 5 _ _) _ _ _) | go_values | go_skip | go_guarded | go_step | go_upon | go_back | (simp only [Int.not_lt, Int.not_le] at *; go_simp) | go_simp)
      obtain ⟨W579, hW580⟩ : ∃ Wzz, (W540.setCell ⟨w.heap.size + 1 + 1 + 1 + 1, 3, none⟩ (.int .i64 hv9)) = Wzz := ⟨_, rfl⟩
      have X581 := Lib.hid (show Box W579 (w.heap.size) 33 #[.int .i64 m.pr.bed.eye, .int .i64 m.pr.bed.rings, .int .i64 m.pr.bed.sectors, s, .int .i64 m.pr.run.eye, .int .i64 m.pr.run.rings, .int .i64 m.pr.run.sectors, r, d, gv] by rw [← hW580]; exact (X542.out.far (p := ⟨w.heap.size + 1 + 1 + 1 + 1, 3, none⟩) (by first | (simp; done) | (simp; omega) | omega | (have := LTQ.out; first | omega | (dsimp only; omega))) (.int .i64 hv9)))
      have X582 := Lib.hid (show Box W579 (w.heap.size + 1) 48 #[.int .i64 a, .int .i64 b, .int .i64 t, .int .i64 size, .int .i64 cuts] by rw [← hW580]; exact (X543.out.far (p := ⟨w.heap.size + 1 + 1 + 1 + 1, 3, none⟩) (by first | (simp; done) | (simp; omega) | omega | (have := LTQ.out; first | omega | (dsimp only; omega))) (.int .i64 hv9)))
      have X583 := Lib.hid (show Box W579 (w.heap.size + 1 + 1) 50 #[.int .i64 mo, .int .i64 ms, .bool true] by rw [← hW580]; exact (X544.out.far (p := ⟨w.heap.size + 1 + 1 + 1 + 1, 3, none⟩) (by first | (simp; done) | (simp; omega) | omega | (have := LTQ.out; first | omega | (dsimp only; omega))) (.int .i64 hv9)))
      have X584 := Lib.hid (show Box W579 (w.heap.size + 1 + 1 + 1) 48 #[.int .i64 0, .int .i64 0, .int .i64 0, .int .i64 0, .int .i64 0] by rw [← hW580]; exact (X545.out.far (p := ⟨w.heap.size + 1 + 1 + 1 + 1, 3, none⟩) (by first | (simp; done) | (simp; omega) | omega | (have := LTQ.out; first | omega | (dsimp only; omega))) (.int .i64 hv9)))
      have X585 := Lib.hid (show Box W579 (w.heap.size + 1 + 1 + 1 + 1) 48 #[.int .i64 a, .int .i64 b, .int .i64 t, .int .i64 hv9, .int .i64 k] by rw [← hW580]; exact (X546.out.put 3 (.int .i64 hv9)))
      have B586 := Lib.hid (show Below w.heap.size w W579 by rw [← hW580]; exact (B547.out.setCell (p := ⟨w.heap.size + 1 + 1 + 1 + 1, 3, none⟩) (by first | (simp; done) | (simp; omega) | omega) (.int .i64 hv9)))
      clear q548 q549 q550 q551 q552 q553 q554 q555 q556 q557 q558 q559 q560 q561 q562 q563 q564 q565 q566 q567 q568 q569 q570 fz571 q572 q573 q574 q575 q576 fz577
      rw [hW580]
      clear hW580
      have q587 : W579.cell? ⟨w.heap.size, 0, none⟩ = some (.int .i64 m.pr.bed.eye) := X581.out.cell 0
      have q588 : W579.cell? ⟨w.heap.size, 1, none⟩ = some (.int .i64 m.pr.bed.rings) := X581.out.cell 1
      have q589 : W579.cell? ⟨w.heap.size, 2, none⟩ = some (.int .i64 m.pr.bed.sectors) := X581.out.cell 2
      have q590 : W579.cell? ⟨w.heap.size, 3, none⟩ = some (s) := X581.out.cell 3
      have q591 : W579.cell? ⟨w.heap.size, 4, none⟩ = some (.int .i64 m.pr.run.eye) := X581.out.cell 4
      have q592 : W579.cell? ⟨w.heap.size, 5, none⟩ = some (.int .i64 m.pr.run.rings) := X581.out.cell 5
      have q593 : W579.cell? ⟨w.heap.size, 6, none⟩ = some (.int .i64 m.pr.run.sectors) := X581.out.cell 6
      have q594 : W579.cell? ⟨w.heap.size, 7, none⟩ = some (r) := X581.out.cell 7
      have q595 : W579.cell? ⟨w.heap.size, 8, none⟩ = some (d) := X581.out.cell 8
      have q596 : W579.cell? ⟨w.heap.size, 9, none⟩ = some (gv) := X581.out.cell 9
      have q597 : W579.cell? ⟨w.heap.size + 1, 0, none⟩ = some (.int .i64 a) := X582.out.cell 0
      have q598 : W579.cell? ⟨w.heap.size + 1, 1, none⟩ = some (.int .i64 b) := X582.out.cell 1
      have q599 : W579.cell? ⟨w.heap.size + 1, 2, none⟩ = some (.int .i64 t) := X582.out.cell 2
      have q600 : W579.cell? ⟨w.heap.size + 1, 3, none⟩ = some (.int .i64 size) := X582.out.cell 3
      have q601 : W579.cell? ⟨w.heap.size + 1, 4, none⟩ = some (.int .i64 cuts) := X582.out.cell 4
      have q602 : W579.cell? ⟨w.heap.size + 1 + 1, 0, none⟩ = some (.int .i64 mo) := X583.out.cell 0
      have q603 : W579.cell? ⟨w.heap.size + 1 + 1, 1, none⟩ = some (.int .i64 ms) := X583.out.cell 1
      have q604 : W579.cell? ⟨w.heap.size + 1 + 1, 2, none⟩ = some (.bool true) := X583.out.cell 2
      have q605 : W579.cell? ⟨w.heap.size + 1 + 1 + 1, 0, none⟩ = some (.int .i64 0) := X584.out.cell 0
      have q606 : W579.cell? ⟨w.heap.size + 1 + 1 + 1, 1, none⟩ = some (.int .i64 0) := X584.out.cell 1
      have q607 : W579.cell? ⟨w.heap.size + 1 + 1 + 1, 2, none⟩ = some (.int .i64 0) := X584.out.cell 2
      have q608 : W579.cell? ⟨w.heap.size + 1 + 1 + 1, 3, none⟩ = some (.int .i64 0) := X584.out.cell 3
      have q609 : W579.cell? ⟨w.heap.size + 1 + 1 + 1, 4, none⟩ = some (.int .i64 0) := X584.out.cell 4
      have fz610 : ∀ o, W579.frozen? ⟨w.heap.size + 1 + 1 + 1, o, none⟩ = false := fun o => X584.out.free o
      have q611 : W579.cell? ⟨w.heap.size + 1 + 1 + 1 + 1, 0, none⟩ = some (.int .i64 a) := X585.out.cell 0
      have q612 : W579.cell? ⟨w.heap.size + 1 + 1 + 1 + 1, 1, none⟩ = some (.int .i64 b) := X585.out.cell 1
      have q613 : W579.cell? ⟨w.heap.size + 1 + 1 + 1 + 1, 2, none⟩ = some (.int .i64 t) := X585.out.cell 2
      have q614 : W579.cell? ⟨w.heap.size + 1 + 1 + 1 + 1, 3, none⟩ = some (.int .i64 hv9) := X585.out.cell 3
      have q615 : W579.cell? ⟨w.heap.size + 1 + 1 + 1 + 1, 4, none⟩ = some (.int .i64 k) := X585.out.cell 4
      have fz616 : ∀ o, W579.frozen? ⟨w.heap.size + 1 + 1 + 1 + 1, o, none⟩ = false := fun o => X585.out.free o
      have HPN := Lib.hid (IsPair.mono HPW.out B586.out B586.out.size)
      have HPV := HPN.out
      unfold pairV at HPV
      have HPX := Lib.hid HPV
      clear HPV
      go_wp2_with fail
      refine (rnext_c m.pr a b t mo ms true _ _ HPX.out (ckM_zero HK.out).1 HHS.out HMV.out).mono ?_; rintro e v617 ⟨rfl, hb618⟩
      have X619 := Lib.hid (X581.out.later hb618)
      have X620 := Lib.hid (X582.out.later hb618)
      have X621 := Lib.hid (X583.out.later hb618)
      have X622 := Lib.hid (X584.out.later hb618)
      have X623 := Lib.hid (X585.out.later hb618)
      have B624 := Lib.hid (B586.out.trans (hb618.mono B586.out.size))
      clear hb618
      rw [HS.out, HO.out]
      unfold stV
      dsimp only
      have LTQ := Lib.hid X623.out.lt
      clear q587 q588 q589 q590 q591 q592 q593 q594 q595 q596 q597 q598 q599 q600 q601 q602 q603 q604 q605 q606 q607 q608 q609 fz610 q611 q612 q613 q614 q615 fz616
      have q625 : v617.cell? ⟨w.heap.size, 0, none⟩ = some (.int .i64 m.pr.bed.eye) := X619.out.cell 0
      have q626 : v617.cell? ⟨w.heap.size, 1, none⟩ = some (.int .i64 m.pr.bed.rings) := X619.out.cell 1
      have q627 : v617.cell? ⟨w.heap.size, 2, none⟩ = some (.int .i64 m.pr.bed.sectors) := X619.out.cell 2
      have q628 : v617.cell? ⟨w.heap.size, 3, none⟩ = some (s) := X619.out.cell 3
      have q629 : v617.cell? ⟨w.heap.size, 4, none⟩ = some (.int .i64 m.pr.run.eye) := X619.out.cell 4
      have q630 : v617.cell? ⟨w.heap.size, 5, none⟩ = some (.int .i64 m.pr.run.rings) := X619.out.cell 5
      have q631 : v617.cell? ⟨w.heap.size, 6, none⟩ = some (.int .i64 m.pr.run.sectors) := X619.out.cell 6
      have q632 : v617.cell? ⟨w.heap.size, 7, none⟩ = some (r) := X619.out.cell 7
      have q633 : v617.cell? ⟨w.heap.size, 8, none⟩ = some (d) := X619.out.cell 8
      have q634 : v617.cell? ⟨w.heap.size, 9, none⟩ = some (gv) := X619.out.cell 9
      have q635 : v617.cell? ⟨w.heap.size + 1, 0, none⟩ = some (.int .i64 a) := X620.out.cell 0
      have q636 : v617.cell? ⟨w.heap.size + 1, 1, none⟩ = some (.int .i64 b) := X620.out.cell 1
      have q637 : v617.cell? ⟨w.heap.size + 1, 2, none⟩ = some (.int .i64 t) := X620.out.cell 2
      have q638 : v617.cell? ⟨w.heap.size + 1, 3, none⟩ = some (.int .i64 size) := X620.out.cell 3
      have q639 : v617.cell? ⟨w.heap.size + 1, 4, none⟩ = some (.int .i64 cuts) := X620.out.cell 4
      have q640 : v617.cell? ⟨w.heap.size + 1 + 1, 0, none⟩ = some (.int .i64 mo) := X621.out.cell 0
      have q641 : v617.cell? ⟨w.heap.size + 1 + 1, 1, none⟩ = some (.int .i64 ms) := X621.out.cell 1
      have q642 : v617.cell? ⟨w.heap.size + 1 + 1, 2, none⟩ = some (.bool true) := X621.out.cell 2
      have q643 : v617.cell? ⟨w.heap.size + 1 + 1 + 1, 0, none⟩ = some (.int .i64 0) := X622.out.cell 0
      have q644 : v617.cell? ⟨w.heap.size + 1 + 1 + 1, 1, none⟩ = some (.int .i64 0) := X622.out.cell 1
      have q645 : v617.cell? ⟨w.heap.size + 1 + 1 + 1, 2, none⟩ = some (.int .i64 0) := X622.out.cell 2
      have q646 : v617.cell? ⟨w.heap.size + 1 + 1 + 1, 3, none⟩ = some (.int .i64 0) := X622.out.cell 3
      have q647 : v617.cell? ⟨w.heap.size + 1 + 1 + 1, 4, none⟩ = some (.int .i64 0) := X622.out.cell 4
      have fz648 : ∀ o, v617.frozen? ⟨w.heap.size + 1 + 1 + 1, o, none⟩ = false := fun o => X622.out.free o
      have q649 : v617.cell? ⟨w.heap.size + 1 + 1 + 1 + 1, 0, none⟩ = some (.int .i64 a) := X623.out.cell 0
      have q650 : v617.cell? ⟨w.heap.size + 1 + 1 + 1 + 1, 1, none⟩ = some (.int .i64 b) := X623.out.cell 1
      have q651 : v617.cell? ⟨w.heap.size + 1 + 1 + 1 + 1, 2, none⟩ = some (.int .i64 t) := X623.out.cell 2
      have q652 : v617.cell? ⟨w.heap.size + 1 + 1 + 1 + 1, 3, none⟩ = some (.int .i64 hv9) := X623.out.cell 3
      have q653 : v617.cell? ⟨w.heap.size + 1 + 1 + 1 + 1, 4, none⟩ = some (.int .i64 k) := X623.out.cell 4
      have fz654 : ∀ o, v617.frozen? ⟨w.heap.size + 1 + 1 + 1 + 1, o, none⟩ = false := fun o => X623.out.free o
      have LT655 := Lib.hid X621.out.lt
      have X656 := Lib.hid (X619.out.alloc (.cells #[.int .i64 x, .int .i64 y, .int .i64 z] 46))
      have X657 := Lib.hid (X620.out.alloc (.cells #[.int .i64 x, .int .i64 y, .int .i64 z] 46))
      have X658 := Lib.hid (X621.out.alloc (.cells #[.int .i64 x, .int .i64 y, .int .i64 z] 46))
      have X659 := Lib.hid (X622.out.alloc (.cells #[.int .i64 x, .int .i64 y, .int .i64 z] 46))
      have X660 := Lib.hid (X623.out.alloc (.cells #[.int .i64 x, .int .i64 y, .int .i64 z] 46))
      have B661 := Lib.hid (B624.out.alloc B624.out.size (.cells #[.int .i64 x, .int .i64 y, .int .i64 z] 46))
      have X662 := Lib.hid (Box.made v617 46 #[.int .i64 x, .int .i64 y, .int .i64 z])
      have q663 : (v617.alloc (.cells #[.int .i64 x, .int .i64 y, .int .i64 z] 46)).cell? ⟨w.heap.size, 0, none⟩ = some (.int .i64 m.pr.bed.eye) := X656.out.cell 0
      have q664 : (v617.alloc (.cells #[.int .i64 x, .int .i64 y, .int .i64 z] 46)).cell? ⟨w.heap.size, 1, none⟩ = some (.int .i64 m.pr.bed.rings) := X656.out.cell 1
      have q665 : (v617.alloc (.cells #[.int .i64 x, .int .i64 y, .int .i64 z] 46)).cell? ⟨w.heap.size, 2, none⟩ = some (.int .i64 m.pr.bed.sectors) := X656.out.cell 2
      have q666 : (v617.alloc (.cells #[.int .i64 x, .int .i64 y, .int .i64 z] 46)).cell? ⟨w.heap.size, 3, none⟩ = some (s) := X656.out.cell 3
      have q667 : (v617.alloc (.cells #[.int .i64 x, .int .i64 y, .int .i64 z] 46)).cell? ⟨w.heap.size, 4, none⟩ = some (.int .i64 m.pr.run.eye) := X656.out.cell 4
      have q668 : (v617.alloc (.cells #[.int .i64 x, .int .i64 y, .int .i64 z] 46)).cell? ⟨w.heap.size, 5, none⟩ = some (.int .i64 m.pr.run.rings) := X656.out.cell 5
      have q669 : (v617.alloc (.cells #[.int .i64 x, .int .i64 y, .int .i64 z] 46)).cell? ⟨w.heap.size, 6, none⟩ = some (.int .i64 m.pr.run.sectors) := X656.out.cell 6
      have q670 : (v617.alloc (.cells #[.int .i64 x, .int .i64 y, .int .i64 z] 46)).cell? ⟨w.heap.size, 7, none⟩ = some (r) := X656.out.cell 7
      have q671 : (v617.alloc (.cells #[.int .i64 x, .int .i64 y, .int .i64 z] 46)).cell? ⟨w.heap.size, 8, none⟩ = some (d) := X656.out.cell 8
      have q672 : (v617.alloc (.cells #[.int .i64 x, .int .i64 y, .int .i64 z] 46)).cell? ⟨w.heap.size, 9, none⟩ = some (gv) := X656.out.cell 9
      have q673 : (v617.alloc (.cells #[.int .i64 x, .int .i64 y, .int .i64 z] 46)).cell? ⟨w.heap.size + 1, 0, none⟩ = some (.int .i64 a) := X657.out.cell 0
      have q674 : (v617.alloc (.cells #[.int .i64 x, .int .i64 y, .int .i64 z] 46)).cell? ⟨w.heap.size + 1, 1, none⟩ = some (.int .i64 b) := X657.out.cell 1
      have q675 : (v617.alloc (.cells #[.int .i64 x, .int .i64 y, .int .i64 z] 46)).cell? ⟨w.heap.size + 1, 2, none⟩ = some (.int .i64 t) := X657.out.cell 2
      have q676 : (v617.alloc (.cells #[.int .i64 x, .int .i64 y, .int .i64 z] 46)).cell? ⟨w.heap.size + 1, 3, none⟩ = some (.int .i64 size) := X657.out.cell 3
      have q677 : (v617.alloc (.cells #[.int .i64 x, .int .i64 y, .int .i64 z] 46)).cell? ⟨w.heap.size + 1, 4, none⟩ = some (.int .i64 cuts) := X657.out.cell 4
      have q678 : (v617.alloc (.cells #[.int .i64 x, .int .i64 y, .int .i64 z] 46)).cell? ⟨w.heap.size + 1 + 1, 0, none⟩ = some (.int .i64 mo) := X658.out.cell 0
      have q679 : (v617.alloc (.cells #[.int .i64 x, .int .i64 y, .int .i64 z] 46)).cell? ⟨w.heap.size + 1 + 1, 1, none⟩ = some (.int .i64 ms) := X658.out.cell 1
      have q680 : (v617.alloc (.cells #[.int .i64 x, .int .i64 y, .int .i64 z] 46)).cell? ⟨w.heap.size + 1 + 1, 2, none⟩ = some (.bool true) := X658.out.cell 2
      have q681 : (v617.alloc (.cells #[.int .i64 x, .int .i64 y, .int .i64 z] 46)).cell? ⟨w.heap.size + 1 + 1 + 1, 0, none⟩ = some (.int .i64 0) := X659.out.cell 0
      have q682 : (v617.alloc (.cells #[.int .i64 x, .int .i64 y, .int .i64 z] 46)).cell? ⟨w.heap.size + 1 + 1 + 1, 1, none⟩ = some (.int .i64 0) := X659.out.cell 1
      have q683 : (v617.alloc (.cells #[.int .i64 x, .int .i64 y, .int .i64 z] 46)).cell? ⟨w.heap.size + 1 + 1 + 1, 2, none⟩ = some (.int .i64 0) := X659.out.cell 2
      have q684 : (v617.alloc (.cells #[.int .i64 x, .int .i64 y, .int .i64 z] 46)).cell? ⟨w.heap.size + 1 + 1 + 1, 3, none⟩ = some (.int .i64 0) := X659.out.cell 3
      have q685 : (v617.alloc (.cells #[.int .i64 x, .int .i64 y, .int .i64 z] 46)).cell? ⟨w.heap.size + 1 + 1 + 1, 4, none⟩ = some (.int .i64 0) := X659.out.cell 4
      have fz686 : ∀ o, (v617.alloc (.cells #[.int .i64 x, .int .i64 y, .int .i64 z] 46)).frozen? ⟨w.heap.size + 1 + 1 + 1, o, none⟩ = false := fun o => X659.out.free o
      have q687 : (v617.alloc (.cells #[.int .i64 x, .int .i64 y, .int .i64 z] 46)).cell? ⟨w.heap.size + 1 + 1 + 1 + 1, 0, none⟩ = some (.int .i64 a) := X660.out.cell 0
      have q688 : (v617.alloc (.cells #[.int .i64 x, .int .i64 y, .int .i64 z] 46)).cell? ⟨w.heap.size + 1 + 1 + 1 + 1, 1, none⟩ = some (.int .i64 b) := X660.out.cell 1
      have q689 : (v617.alloc (.cells #[.int .i64 x, .int .i64 y, .int .i64 z] 46)).cell? ⟨w.heap.size + 1 + 1 + 1 + 1, 2, none⟩ = some (.int .i64 t) := X660.out.cell 2
      have q690 : (v617.alloc (.cells #[.int .i64 x, .int .i64 y, .int .i64 z] 46)).cell? ⟨w.heap.size + 1 + 1 + 1 + 1, 3, none⟩ = some (.int .i64 hv9) := X660.out.cell 3
      have q691 : (v617.alloc (.cells #[.int .i64 x, .int .i64 y, .int .i64 z] 46)).cell? ⟨w.heap.size + 1 + 1 + 1 + 1, 4, none⟩ = some (.int .i64 k) := X660.out.cell 4
      have fz692 : ∀ o, (v617.alloc (.cells #[.int .i64 x, .int .i64 y, .int .i64 z] 46)).frozen? ⟨w.heap.size + 1 + 1 + 1 + 1, o, none⟩ = false := fun o => X660.out.free o
      have q693 : (v617.alloc (.cells #[.int .i64 x, .int .i64 y, .int .i64 z] 46)).cell? ⟨v617.heap.size, 0, none⟩ = some (.int .i64 x) := X662.out.cell 0
      have q694 : (v617.alloc (.cells #[.int .i64 x, .int .i64 y, .int .i64 z] 46)).cell? ⟨v617.heap.size, 1, none⟩ = some (.int .i64 y) := X662.out.cell 1
      have q695 : (v617.alloc (.cells #[.int .i64 x, .int .i64 y, .int .i64 z] 46)).cell? ⟨v617.heap.size, 2, none⟩ = some (.int .i64 z) := X662.out.cell 2
      iterate 40 (first | (with_reducible show Code.wp _ (Code.region 7 _ _) _ _ _) | go_values | go_skip | go_guarded | go_step | go_upon | go_back | (simp only [Int.not_lt, Int.not_le] at *; go_simp) | go_simp)
      obtain ⟨W696, hW697⟩ : ∃ Wzz, ((((v617.alloc (.cells #[.int .i64 x, .int .i64 y, .int .i64 z] 46)).setCell ⟨w.heap.size + 1 + 1 + 1 + 1, 0, none⟩ (.int .i64 x)).setCell ⟨w.heap.size + 1 + 1 + 1 + 1, 1, none⟩ (.int .i64 y)).setCell ⟨w.heap.size + 1 + 1 + 1 + 1, 2, none⟩ (.int .i64 z)) = Wzz := ⟨_, rfl⟩
      have X698 := Lib.hid (show Box W696 (w.heap.size) 33 #[.int .i64 m.pr.bed.eye, .int .i64 m.pr.bed.rings, .int .i64 m.pr.bed.sectors, s, .int .i64 m.pr.run.eye, .int .i64 m.pr.run.rings, .int .i64 m.pr.run.sectors, r, d, gv] by rw [← hW697]; exact (((X656.out.far (p := ⟨w.heap.size + 1 + 1 + 1 + 1, 0, none⟩) (by first | (simp; done) | (simp; omega) | omega | (have := LTQ.out; first | omega | (dsimp only; omega))) (.int .i64 x)).far (p := ⟨w.heap.size + 1 + 1 + 1 + 1, 1, none⟩) (by first | (simp; done) | (simp; omega) | omega | (have := LTQ.out; first | omega | (dsimp only; omega))) (.int .i64 y)).far (p := ⟨w.heap.size + 1 + 1 + 1 + 1, 2, none⟩) (by first | (simp; done) | (simp; omega) | omega | (have := LTQ.out; first | omega | (dsimp only; omega))) (.int .i64 z)))
      have X699 := Lib.hid (show Box W696 (w.heap.size + 1) 48 #[.int .i64 a, .int .i64 b, .int .i64 t, .int .i64 size, .int .i64 cuts] by rw [← hW697]; exact (((X657.out.far (p := ⟨w.heap.size + 1 + 1 + 1 + 1, 0, none⟩) (by first | (simp; done) | (simp; omega) | omega | (have := LTQ.out; first | omega | (dsimp only; omega))) (.int .i64 x)).far (p := ⟨w.heap.size + 1 + 1 + 1 + 1, 1, none⟩) (by first | (simp; done) | (simp; omega) | omega | (have := LTQ.out; first | omega | (dsimp only; omega))) (.int .i64 y)).far (p := ⟨w.heap.size + 1 + 1 + 1 + 1, 2, none⟩) (by first | (simp; done) | (simp; omega) | omega | (have := LTQ.out; first | omega | (dsimp only; omega))) (.int .i64 z)))
      have X700 := Lib.hid (show Box W696 (w.heap.size + 1 + 1) 50 #[.int .i64 mo, .int .i64 ms, .bool true] by rw [← hW697]; exact (((X658.out.far (p := ⟨w.heap.size + 1 + 1 + 1 + 1, 0, none⟩) (by first | (simp; done) | (simp; omega) | omega | (have := LTQ.out; first | omega | (dsimp only; omega))) (.int .i64 x)).far (p := ⟨w.heap.size + 1 + 1 + 1 + 1, 1, none⟩) (by first | (simp; done) | (simp; omega) | omega | (have := LTQ.out; first | omega | (dsimp only; omega))) (.int .i64 y)).far (p := ⟨w.heap.size + 1 + 1 + 1 + 1, 2, none⟩) (by first | (simp; done) | (simp; omega) | omega | (have := LTQ.out; first | omega | (dsimp only; omega))) (.int .i64 z)))
      have X701 := Lib.hid (show Box W696 (w.heap.size + 1 + 1 + 1) 48 #[.int .i64 0, .int .i64 0, .int .i64 0, .int .i64 0, .int .i64 0] by rw [← hW697]; exact (((X659.out.far (p := ⟨w.heap.size + 1 + 1 + 1 + 1, 0, none⟩) (by first | (simp; done) | (simp; omega) | omega | (have := LTQ.out; first | omega | (dsimp only; omega))) (.int .i64 x)).far (p := ⟨w.heap.size + 1 + 1 + 1 + 1, 1, none⟩) (by first | (simp; done) | (simp; omega) | omega | (have := LTQ.out; first | omega | (dsimp only; omega))) (.int .i64 y)).far (p := ⟨w.heap.size + 1 + 1 + 1 + 1, 2, none⟩) (by first | (simp; done) | (simp; omega) | omega | (have := LTQ.out; first | omega | (dsimp only; omega))) (.int .i64 z)))
      have X702 := Lib.hid (show Box W696 (w.heap.size + 1 + 1 + 1 + 1) 48 #[.int .i64 x, .int .i64 y, .int .i64 z, .int .i64 hv9, .int .i64 k] by rw [← hW697]; exact (((X660.out.put 0 (.int .i64 x)).put 1 (.int .i64 y)).put 2 (.int .i64 z)))
      have X703 := Lib.hid (show Box W696 (v617.heap.size) 46 #[.int .i64 x, .int .i64 y, .int .i64 z] by rw [← hW697]; exact (((X662.out.far (p := ⟨w.heap.size + 1 + 1 + 1 + 1, 0, none⟩) (by first | (simp; done) | (simp; omega) | omega | (have := LTQ.out; first | omega | (dsimp only; omega))) (.int .i64 x)).far (p := ⟨w.heap.size + 1 + 1 + 1 + 1, 1, none⟩) (by first | (simp; done) | (simp; omega) | omega | (have := LTQ.out; first | omega | (dsimp only; omega))) (.int .i64 y)).far (p := ⟨w.heap.size + 1 + 1 + 1 + 1, 2, none⟩) (by first | (simp; done) | (simp; omega) | omega | (have := LTQ.out; first | omega | (dsimp only; omega))) (.int .i64 z)))
      have B704 := Lib.hid (show Below w.heap.size w W696 by rw [← hW697]; exact (((B661.out.setCell (p := ⟨w.heap.size + 1 + 1 + 1 + 1, 0, none⟩) (by first | (simp; done) | (simp; omega) | omega) (.int .i64 x)).setCell (p := ⟨w.heap.size + 1 + 1 + 1 + 1, 1, none⟩) (by first | (simp; done) | (simp; omega) | omega) (.int .i64 y)).setCell (p := ⟨w.heap.size + 1 + 1 + 1 + 1, 2, none⟩) (by first | (simp; done) | (simp; omega) | omega) (.int .i64 z)))
      clear q663 q664 q665 q666 q667 q668 q669 q670 q671 q672 q673 q674 q675 q676 q677 q678 q679 q680 q681 q682 q683 q684 q685 fz686 q687 q688 q689 q690 q691 fz692 q693 q694 q695 q625 q626 q627 q628 q629 q630 q631 q632 q633 q634 q635 q636 q637 q638 q639 q640 q641 q642 q643 q644 q645 q646 q647 fz648 q649 q650 q651 q652 q653 fz654
      rw [hW697]
      clear hW697
      have q705 : W696.cell? ⟨w.heap.size, 0, none⟩ = some (.int .i64 m.pr.bed.eye) := X698.out.cell 0
      have q706 : W696.cell? ⟨w.heap.size, 1, none⟩ = some (.int .i64 m.pr.bed.rings) := X698.out.cell 1
      have q707 : W696.cell? ⟨w.heap.size, 2, none⟩ = some (.int .i64 m.pr.bed.sectors) := X698.out.cell 2
      have q708 : W696.cell? ⟨w.heap.size, 3, none⟩ = some (s) := X698.out.cell 3
      have q709 : W696.cell? ⟨w.heap.size, 4, none⟩ = some (.int .i64 m.pr.run.eye) := X698.out.cell 4
      have q710 : W696.cell? ⟨w.heap.size, 5, none⟩ = some (.int .i64 m.pr.run.rings) := X698.out.cell 5
      have q711 : W696.cell? ⟨w.heap.size, 6, none⟩ = some (.int .i64 m.pr.run.sectors) := X698.out.cell 6
      have q712 : W696.cell? ⟨w.heap.size, 7, none⟩ = some (r) := X698.out.cell 7
      have q713 : W696.cell? ⟨w.heap.size, 8, none⟩ = some (d) := X698.out.cell 8
      have q714 : W696.cell? ⟨w.heap.size, 9, none⟩ = some (gv) := X698.out.cell 9
      have q715 : W696.cell? ⟨w.heap.size + 1, 0, none⟩ = some (.int .i64 a) := X699.out.cell 0
      have q716 : W696.cell? ⟨w.heap.size + 1, 1, none⟩ = some (.int .i64 b) := X699.out.cell 1
      have q717 : W696.cell? ⟨w.heap.size + 1, 2, none⟩ = some (.int .i64 t) := X699.out.cell 2
      have q718 : W696.cell? ⟨w.heap.size + 1, 3, none⟩ = some (.int .i64 size) := X699.out.cell 3
      have q719 : W696.cell? ⟨w.heap.size + 1, 4, none⟩ = some (.int .i64 cuts) := X699.out.cell 4
      have q720 : W696.cell? ⟨w.heap.size + 1 + 1, 0, none⟩ = some (.int .i64 mo) := X700.out.cell 0
      have q721 : W696.cell? ⟨w.heap.size + 1 + 1, 1, none⟩ = some (.int .i64 ms) := X700.out.cell 1
      have q722 : W696.cell? ⟨w.heap.size + 1 + 1, 2, none⟩ = some (.bool true) := X700.out.cell 2
      have q723 : W696.cell? ⟨w.heap.size + 1 + 1 + 1, 0, none⟩ = some (.int .i64 0) := X701.out.cell 0
      have q724 : W696.cell? ⟨w.heap.size + 1 + 1 + 1, 1, none⟩ = some (.int .i64 0) := X701.out.cell 1
      have q725 : W696.cell? ⟨w.heap.size + 1 + 1 + 1, 2, none⟩ = some (.int .i64 0) := X701.out.cell 2
      have q726 : W696.cell? ⟨w.heap.size + 1 + 1 + 1, 3, none⟩ = some (.int .i64 0) := X701.out.cell 3
      have q727 : W696.cell? ⟨w.heap.size + 1 + 1 + 1, 4, none⟩ = some (.int .i64 0) := X701.out.cell 4
      have fz728 : ∀ o, W696.frozen? ⟨w.heap.size + 1 + 1 + 1, o, none⟩ = false := fun o => X701.out.free o
      have q729 : W696.cell? ⟨w.heap.size + 1 + 1 + 1 + 1, 0, none⟩ = some (.int .i64 x) := X702.out.cell 0
      have q730 : W696.cell? ⟨w.heap.size + 1 + 1 + 1 + 1, 1, none⟩ = some (.int .i64 y) := X702.out.cell 1
      have q731 : W696.cell? ⟨w.heap.size + 1 + 1 + 1 + 1, 2, none⟩ = some (.int .i64 z) := X702.out.cell 2
      have q732 : W696.cell? ⟨w.heap.size + 1 + 1 + 1 + 1, 3, none⟩ = some (.int .i64 hv9) := X702.out.cell 3
      have q733 : W696.cell? ⟨w.heap.size + 1 + 1 + 1 + 1, 4, none⟩ = some (.int .i64 k) := X702.out.cell 4
      have fz734 : ∀ o, W696.frozen? ⟨w.heap.size + 1 + 1 + 1 + 1, o, none⟩ = false := fun o => X702.out.free o
      have q735 : W696.cell? ⟨v617.heap.size, 0, none⟩ = some (.int .i64 x) := X703.out.cell 0
      have q736 : W696.cell? ⟨v617.heap.size, 1, none⟩ = some (.int .i64 y) := X703.out.cell 1
      have q737 : W696.cell? ⟨v617.heap.size, 2, none⟩ = some (.int .i64 z) := X703.out.cell 2
      go_wp2_with fail
      (try simp only [Exit.inBlock, Exit.then])
      refine grainEnd2 (t := 6) (u := 7) (x := .bool ob) (v := .tuple #[stepV m ⟨a, b, t⟩ size cuts ⟨mo, ms, true⟩, .bool ob]) ?_ ?_ ?_ (((((X701.out.put 0 (.int .i64 x)).put 1 (.int .i64 y)).put 2 (.int .i64 z)).put 3 (.int .i64 hv9)).put 4 (.int .i64 k)) (((((B704.out.setCell (by first | (simp; done) | (simp; omega) | omega) _).setCell (by first | (simp; done) | (simp; omega) | omega) _).setCell (by first | (simp; done) | (simp; omega) | omega) _).setCell (by first | (simp; done) | (simp; omega) | omega) _).setCell (by first | (simp; done) | (simp; omega) | omega) _) ?_
      all_goals first | rfl | (rw [HR.out]; rfl) | (rw [HR.out])

end Go.Proofs.YtikfiallhmhicaaGreat

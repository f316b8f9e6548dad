/- The walks of turned, Turn. -/
import Derived.Test.YtpejcdjgggcjlaaGreatDoorA4
namespace Go.Proofs.YtpejcdjgggcjlaaGreatDoor
open Go.RowKit

/-- a face that is turned -/
def turnF (f : Fc) (by_ : Int) : Fc := { eye := f.eye, rings := f.rings, sectors := f.sectors, kinds := redL f f.sectors.toNat (fun i => rnd (i - rnd by_ f.sectors) f.sectors) (f.rings.toNat * f.sectors.toNat) }

theorem turnF_eye (f : Fc) (b : Int) : (turnF f b).eye = f.eye := rfl
theorem turnF_rings (f : Fc) (b : Int) : (turnF f b).rings = f.rings := rfl
theorem turnF_sectors (f : Fc) (b : Int) : (turnF f b).sectors = f.sectors := rfl
attribute [go_sem] turnF_eye turnF_rings turnF_sectors
theorem endPut {fn : Func} {t : Nat} {w wr : World} {g lo : Nat} {G : Fc} {A : Option Addr} {n c : Nat} {tmps : Array Value} {z0 z1 z2 z3 : Value} (hfn : fn.results = #[.cell t 24]) (ht : tmps[t]? = some (.pointer (some ⟨g, 0, none⟩)))
    (hb : Box wr g 24 #[z0, z1, z2, z3]) (hi : Ints wr wr.heap.size (.slice A n c) G.kinds) (hn : NewS lo (.slice A n c)) (hg : g < lo) (hw : w.heap.size ≤ g) (hbel : Below w.heap.size w wr) :
    bodyPost Tryz.prog fn (RetFace w G) Exit.ret { tmps, defers := [] } (putF wr g G (.slice A n c)) :=
  endFace hfn ht (putF_box hb) (by rw [putF_size]; exact putF_ints hi hn hg) (hn.mono (by omega)) (putF_below hbel hw)
theorem endPutE {fn : Func} {t u : Nat} {w wr : World} {g lo : Nat} {G : Fc} {er : Int} {A : Option Addr} {n c : Nat} {tmps : Array Value} {z0 z1 z2 z3 : Value} (hfn : fn.results = #[.cell t 24, .tmp u]) (ht : tmps[t]? = some (.pointer (some ⟨g, 0, none⟩))) (hu : tmps[u]? = some (.int .i64 er))
    (hb : Box wr g 24 #[z0, z1, z2, z3]) (hi : Ints wr wr.heap.size (.slice A n c) G.kinds) (hn : NewS lo (.slice A n c)) (hg : g < lo) (hw : w.heap.size ≤ g) (hbel : Below w.heap.size w wr) :
    bodyPost Tryz.prog fn (RetFaceE w G er) Exit.ret { tmps, defers := [] } (putF wr g G (.slice A n c)) :=
  endFaceE hfn ht hu (putF_box hb) (by rw [putF_size]; exact putF_ints hi hn hg) (hn.mono (by omega)) (putF_below hbel hw)

set_option maxRecDepth 100000 in
set_option maxHeartbeats 800000 in
theorem turned_c (f : Fc) (v : Value) (by_ : Int) (w : World) (h : IsFace w w.heap.size v f) (hv : validB f = true) :
    Calls Tryz.prog 62 #[v, .int .i64 by_] w (RetFace w (turnF f by_)) := by
  have hF := h
  obtain ⟨s, rfl, hlen, A, cp, rfl, hcap, hcell⟩ := h
  obtain ⟨⟨⟨a1, a2⟩, ⟨a3, a4⟩, a5, a6⟩, -, -⟩ := validB_iff.1 hv
  obtain ⟨S, hS⟩ := Int.eq_ofNat_of_zero_le (show 0 ≤ f.sectors by omega)
  have HS := Lib.hid hS
  obtain ⟨r1, r2⟩ := rnd_bd (a := by_) (s := f.sectors) (by omega)
  clear hcell hS
  go_enter Tryz.func62, Tryz.ntmps62
  go_wp2_with fail
  refine (round_c _ _ _ (by omega) a6).mono ?_; rintro e w' ⟨rfl, rfl⟩
  go_wp2_with fail
  refine (redrawnT f _ _ _ _ _ _ (((hF.box _).box _).box _) hv (by omega) (Int.le_refl _) r1 (by omega) ?c1 ?c2 ?c3 ?c4).mono ?_
  case c1 => simp
  case c2 => simp; omega
  case c3 => go_simp
  case c4 => go_simp
  rintro e w3 ⟨A3, n3, c3, rfl, hI, hN, hb3⟩
  have hbx : Box w3 (w.heap.size + 1) 24 #[.int .i64 0, .int .i64 0, .int .i64 0, .slice none 0 0] := by
    have e1 := Box.made (w.alloc (.cells #[.int .i64 f.eye, .int .i64 f.rings, .int .i64 f.sectors, .slice A f.kinds.length cp] 24)) 24 #[.int .i64 0, .int .i64 0, .int .i64 0, .slice none 0 0]
    rw [World.size_alloc] at e1
    exact (e1.alloc _).later hb3
  have hbw : Below w.heap.size w w3 := boxed (boxed (boxed hb3))
  have h10 : w3.cell? ⟨w.heap.size + 1, 0, none⟩ = some (.int .i64 0) := hbx.cell 0
  have h11 : w3.cell? ⟨w.heap.size + 1, 1, none⟩ = some (.int .i64 0) := hbx.cell 1
  have h12 : w3.cell? ⟨w.heap.size + 1, 2, none⟩ = some (.int .i64 0) := hbx.cell 2
  have h13 : w3.cell? ⟨w.heap.size + 1, 3, none⟩ = some (.slice none 0 0) := hbx.cell 3
  have f10 := hbx.free 0
  have f11 := hbx.free 1
  have f12 := hbx.free 2
  have f13 := hbx.free 3
  clear hb3
  go_wp2_with fail
  exact endPut (G := turnF f by_) Tryz.results62 rfl hbx hI hN (by simp) (by omega) hbw

end Go.Proofs.YtpejcdjgggcjlaaGreatDoor

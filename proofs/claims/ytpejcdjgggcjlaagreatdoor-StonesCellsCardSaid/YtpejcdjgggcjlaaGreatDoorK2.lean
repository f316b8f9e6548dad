/- One world in which the listed variables hold what their text lays. -/
import Derived.Test.YtpejcdjgggcjlaaGreatDoorK1
namespace Go.Proofs.YtpejcdjgggcjlaaGreatDoor
open Go.ChangeShapes Go.WideShapes Go.ChangeAt Go.RowKit

/-- the cells of a table's datum -/
def dat1 : DataW Unit → List Value
  | .lit (.int k z) => [.int k z]
  | _ => []
def dat2 : DataW Unit → List Value
  | .agg l => l.flatMap dat1
  | d => dat1 d
def dat3 : DataW Unit → List Value
  | .agg l => l.flatMap dat2
  | d => dat1 d
def putRow (h : Array Obj) (g : Nat) (cs : List Value) : Array Obj := h.modify g fun
  | .cells _ t frozen => .cells cs.toArray t frozen
  | o => o
noncomputable def laidWorld (os : Os) : World :=
  let N := (World.settled Tryz.prog os).heap.size
  let w0 := World.holding Tryz.prog os ⟨#[.cells #[.string ⟨#[118, 97, 108, 117, 101, 32, 111, 117, 116, 32, 111, 102, 32, 114, 97, 110, 103, 101]⟩] 149, .cells #[.string ⟨#[105, 110, 118, 97, 108, 105, 100, 32, 115, 121, 110, 116, 97, 120]⟩] 149], #[], []⟩
  let h1 := putRow w0.heap 2 [.iface 147 (.pointer (some ⟨N, 0, none⟩))]
  let h2 := putRow h1 1 [.iface 147 (.pointer (some ⟨N + 1, 0, none⟩))]
  let h3 := putRow h2 6 (dat3 Rows.laid_math_bits_deBruijn32tab)
  let h4 := putRow h3 7 (dat3 Rows.laid_math_bits_deBruijn64tab)
  let h5 := putRow h4 3 (dat3 Rows.laid_internal_strconv_uint64pow10)
  let h6 := putRow h5 5 (dat3 Rows.laid_unicode_utf8_acceptRanges)
  let h7 := putRow h6 4 (dat3 Rows.laid_unicode_utf8_first)
  { w0 with heap := h7 }
/-- the seven listed variables -/
def laidL : List (String × DataW Unit) := Rows.stonesAreasRow.laid
theorem laid_met (os : Os) (args : Array Value) : laidMet Tryz.prog laidL ((laidWorld os).forCall (fun _ _ => 0) ⟨#[], args, []⟩).memory :=
  laidMet_of_run' 8 (by kernel_rfl) (by kernel_rfl)

theorem ml_of {W : World} (h : W.ShapedOpen Tryz.prog) : ML W := by
  obtain ⟨m, hm⟩ := Go.Proofs.cell_of_shapedOpen_int (g := 0) (zero := #[.int .i64 0]) (t := 3) h (of_decide_eq_true (by kernel_rfl)) (by kernel_rfl) rfl (by kernel_rfl) (by kernel_rfl) Tryz.underlying3
  exact ⟨⟨m, hm⟩, cell_lt hm⟩

end Go.Proofs.YtpejcdjgggcjlaaGreatDoor

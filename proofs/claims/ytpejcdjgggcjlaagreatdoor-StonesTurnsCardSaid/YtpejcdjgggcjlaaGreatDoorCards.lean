/-
  DERIVED. GIVEN WITH THE SEED: THE CARDS: each row of YtpejcdjgggcjlaaGreatDoorRows.lean that lists a variable, with what it lists TIED to the program's text (the seventh form; the later family's looks); each row that meets fmt, with fmt's text TOLD by the authors' own Lean function (tested against real Go, not proved from fmt's source: count such statements apart). THE CARD IS WHAT COUNTS. Prove the row's statement (the work); the ties are given (YtpejcdjgggcjlaaGreatDoorTie.lean); close each card by the builder's one call (the guide's Derived/Test/ToyasCard.lean, 'card_holds'). Laid BY PROGRAM, IN A SANDBOX (cutbox-door.mjs). By AI agents, Wed Nov 11 2026. No macro, syntax, notation, axiom, sorry.
-/
import Derived.Test.YtpejcdjgggcjlaaGreatDoorRows
import GoSem.ClaimSeven
namespace Go.Proofs.YtpejcdjgggcjlaaGreatDoor
namespace Rows

/-- THE TIED CARD OF 'millrindlaw01.StonesCells'. -/
def stonesCellsCard : Claim7 := { stood := { row := stonesCellsRow, standIns := [], harness := (true, "aeefd05339c903d47e8b99e74a02ab2b3842c83d5bacac331814e96e9aad8df2"), looks := true }, kinds := [], alts := [], laidByText := true, laidKinds := [.data, .data, .data, .data, .sentinel, .sentinel, .pinned], laidTests := true, laidLooks := .later }
def StonesCellsCardSaid : Prop := Claim7.holds Tryz.pinned (.plain (OpenSpec.ofChange stonesCellsSpec)) stonesCellsCard

/-- THE TIED CARD OF 'millrindlaw01.StonesAreas'. -/
def stonesAreasCard : Claim7 := { stood := { row := stonesAreasRow, standIns := [], harness := (true, "aeefd05339c903d47e8b99e74a02ab2b3842c83d5bacac331814e96e9aad8df2"), looks := true }, kinds := [], alts := [], laidByText := true, laidKinds := [.data, .data, .data, .data, .sentinel, .sentinel, .pinned], laidTests := true, laidLooks := .later }
def StonesAreasCardSaid : Prop := Claim7.holds Tryz.pinned (.plain (OpenSpec.ofChange stonesAreasSpec)) stonesAreasCard

/-- THE TIED CARD OF 'millrindlaw01.StonesTurns'. -/
def stonesTurnsCard : Claim7 := { stood := { row := stonesTurnsRow, standIns := [], harness := (true, "aeefd05339c903d47e8b99e74a02ab2b3842c83d5bacac331814e96e9aad8df2"), looks := true }, kinds := [], alts := [], laidByText := true, laidKinds := [.data, .data, .data, .data, .sentinel, .sentinel, .pinned], laidTests := true, laidLooks := .later }
def StonesTurnsCardSaid : Prop := Claim7.holds Tryz.pinned (.plain (OpenSpec.ofChange stonesTurnsSpec)) stonesTurnsCard

/-- THE TIED CARD OF 'millrindlaw01.StonesPlaces'. -/
def stonesPlacesCard : Claim7 := { stood := { row := stonesPlacesRow, standIns := [], harness := (true, "aeefd05339c903d47e8b99e74a02ab2b3842c83d5bacac331814e96e9aad8df2"), looks := true }, kinds := [], alts := [], laidByText := true, laidKinds := [.data, .data, .data, .data, .sentinel, .sentinel, .pinned], laidTests := true, laidLooks := .later }
def StonesPlacesCardSaid : Prop := Claim7.holds Tryz.pinned (.plain (OpenSpec.ofChange stonesPlacesSpec)) stonesPlacesCard

/-- THE SECOND FORM's CARD OF 'millrindlaw01.StonesCells'. -/
def stonesCellsUptoCard : Claim7 := { stood := { row := stonesCellsUptoRow, standIns := [], harness := (true, "aeefd05339c903d47e8b99e74a02ab2b3842c83d5bacac331814e96e9aad8df2"), looks := true }, kinds := [], alts := [], laidByText := true, laidKinds := [.data, .data, .data, .data, .sentinel, .sentinel, .pinned], laidTests := true, laidLooks := .later }
def StonesCellsUptoCardSaid : Prop := Claim7.holds Tryz.pinned (.plain (OpenSpec.upto stonesCellsSpec)) stonesCellsUptoCard

/-- THE SECOND FORM's CARD OF 'millrindlaw01.StonesAreas'. -/
def stonesAreasUptoCard : Claim7 := { stood := { row := stonesAreasUptoRow, standIns := [], harness := (true, "aeefd05339c903d47e8b99e74a02ab2b3842c83d5bacac331814e96e9aad8df2"), looks := true }, kinds := [], alts := [], laidByText := true, laidKinds := [.data, .data, .data, .data, .sentinel, .sentinel, .pinned], laidTests := true, laidLooks := .later }
def StonesAreasUptoCardSaid : Prop := Claim7.holds Tryz.pinned (.plain (OpenSpec.upto stonesAreasSpec)) stonesAreasUptoCard

/-- THE SECOND FORM's CARD OF 'millrindlaw01.StonesTurns'. -/
def stonesTurnsUptoCard : Claim7 := { stood := { row := stonesTurnsUptoRow, standIns := [], harness := (true, "aeefd05339c903d47e8b99e74a02ab2b3842c83d5bacac331814e96e9aad8df2"), looks := true }, kinds := [], alts := [], laidByText := true, laidKinds := [.data, .data, .data, .data, .sentinel, .sentinel, .pinned], laidTests := true, laidLooks := .later }
def StonesTurnsUptoCardSaid : Prop := Claim7.holds Tryz.pinned (.plain (OpenSpec.upto stonesTurnsSpec)) stonesTurnsUptoCard

/-- THE SECOND FORM's CARD OF 'millrindlaw01.StonesPlaces'. -/
def stonesPlacesUptoCard : Claim7 := { stood := { row := stonesPlacesUptoRow, standIns := [], harness := (true, "aeefd05339c903d47e8b99e74a02ab2b3842c83d5bacac331814e96e9aad8df2"), looks := true }, kinds := [], alts := [], laidByText := true, laidKinds := [.data, .data, .data, .data, .sentinel, .sentinel, .pinned], laidTests := true, laidLooks := .later }
def StonesPlacesUptoCardSaid : Prop := Claim7.holds Tryz.pinned (.plain (OpenSpec.upto stonesPlacesSpec)) stonesPlacesUptoCard
end Rows
end Go.Proofs.YtpejcdjgggcjlaaGreatDoor

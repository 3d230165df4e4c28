/-
  DERIVED. GIVEN WITH THE SEED: THE CARDS: each row of YtnaooaciloiaiaaGreatDoorRows.lean that lists a variable, with what it lists TIED to the program's text (the seventh form; the later family's looks); each row that meets fmt, with fmt's text TOLD by the authors' own Lean function (tested against real Go, not proved from fmt's source: count such statements apart). THE CARD IS WHAT COUNTS. Prove the row's statement (the work); the ties are given (YtnaooaciloiaiaaGreatDoorTie.lean); close each card by the builder's one call (the guide's Derived/Test/ToyasCard.lean, 'card_holds'). Laid BY PROGRAM, IN A SANDBOX (cutbox-door.mjs). By AI agents, Wed Nov 11 2026. No macro, syntax, notation, axiom, sorry.
-/
import Derived.Test.YtnaooaciloiaiaaGreatDoorRows
import GoSem.ClaimSeven
namespace Go.Proofs.YtnaooaciloiaiaaGreatDoor
namespace Rows

/-- THE TIED CARD OF 'warrantlaw.Programs'. -/
def programsCard : Claim7 := { stood := { row := programsRow, standIns := [], harness := (true, "f50fe45714c4423f290252db3a6e34b7f18e07ce66ad0326566bf8eeea2ec810"), looks := false }, kinds := [], alts := [], laidByText := true, laidKinds := [.data, .data, .data], laidTests := true, laidLooks := .later }
def ProgramsCardSaid : Prop := Claim7.holds Tryz.pinned (.plain (OpenSpec.ofChange programsSpec)) programsCard

/-- THE TIED CARD OF 'warrantlaw.Queries'. -/
def queriesCard : Claim7 := { stood := { row := queriesRow, standIns := [], harness := (true, "f50fe45714c4423f290252db3a6e34b7f18e07ce66ad0326566bf8eeea2ec810"), looks := false }, kinds := [], alts := [], laidByText := true, laidKinds := [.data, .data, .data], laidTests := true, laidLooks := .later }
def QueriesCardSaid : Prop := Claim7.holds Tryz.pinned (.plain (OpenSpec.ofChange queriesSpec)) queriesCard

/-- THE SECOND FORM's CARD OF 'warrantlaw.Programs'. -/
def programsUptoCard : Claim7 := { stood := { row := programsUptoRow, standIns := [], harness := (true, "f50fe45714c4423f290252db3a6e34b7f18e07ce66ad0326566bf8eeea2ec810"), looks := false }, kinds := [], alts := [], laidByText := true, laidKinds := [.data, .data, .data], laidTests := true, laidLooks := .later }
def ProgramsUptoCardSaid : Prop := Claim7.holds Tryz.pinned (.plain (OpenSpec.upto programsSpec)) programsUptoCard

/-- THE SECOND FORM's CARD OF 'warrantlaw.Queries'. -/
def queriesUptoCard : Claim7 := { stood := { row := queriesUptoRow, standIns := [], harness := (true, "f50fe45714c4423f290252db3a6e34b7f18e07ce66ad0326566bf8eeea2ec810"), looks := false }, kinds := [], alts := [], laidByText := true, laidKinds := [.data, .data, .data], laidTests := true, laidLooks := .later }
def QueriesUptoCardSaid : Prop := Claim7.holds Tryz.pinned (.plain (OpenSpec.upto queriesSpec)) queriesUptoCard
end Rows
end Go.Proofs.YtnaooaciloiaiaaGreatDoor

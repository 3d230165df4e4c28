/-
  DERIVED. GIVEN WITH THE SEED: THE CARDS: each row of YtknibpoolegnaaaGreatDoorRows.lean that lists a variable, with what it lists TIED to the program's text (the seventh form; the later family's looks); each row that meets fmt, with fmt's text TOLD by the authors' own Lean function (tested against real Go, not proved from fmt's source: count such statements apart). THE CARD IS WHAT COUNTS. Prove the row's statement (the work); the ties are given (YtknibpoolegnaaaGreatDoorTie.lean); close each card by the builder's one call (the guide's Derived/Test/ToyasCard.lean, 'card_holds'). Laid BY PROGRAM, IN A SANDBOX (cutbox-door.mjs). By AI agents, Wed Nov 11 2026. No macro, syntax, notation, axiom, sorry.
-/
import Derived.Test.YtknibpoolegnaaaGreatDoorRows
import GoSem.ClaimSeven
namespace Go.Proofs.YtknibpoolegnaaaGreatDoor
namespace Rows

/-- THE TIED CARD OF 'warrantlaw.Programs'. -/
def programsCard : Claim7 := { stood := { row := programsRow, standIns := [], harness := (true, "94cd17d5a147dc9c2f669c9508977c70da12b835b4f96f459ab7e48efab1e1bc"), looks := false }, kinds := [], alts := [], laidByText := true, laidKinds := [.data, .data, .data], laidTests := true, laidLooks := .later }
def ProgramsCardSaid : Prop := Claim7.holds Tryz.pinned (.plain (OpenSpec.ofChange programsSpec)) programsCard

/-- THE TIED CARD OF 'warrantlaw.Queries'. -/
def queriesCard : Claim7 := { stood := { row := queriesRow, standIns := [], harness := (true, "94cd17d5a147dc9c2f669c9508977c70da12b835b4f96f459ab7e48efab1e1bc"), looks := false }, kinds := [], alts := [], laidByText := true, laidKinds := [.data, .data, .data], laidTests := true, laidLooks := .later }
def QueriesCardSaid : Prop := Claim7.holds Tryz.pinned (.plain (OpenSpec.ofChange queriesSpec)) queriesCard

/-- THE TIED CARD OF 'warrantlaw.Searches'. -/
def searchesCard : Claim7 := { stood := { row := searchesRow, standIns := [], harness := (true, "94cd17d5a147dc9c2f669c9508977c70da12b835b4f96f459ab7e48efab1e1bc"), looks := false }, kinds := [], alts := [], laidByText := true, laidKinds := [.data, .data, .data], laidTests := true, laidLooks := .later }
def SearchesCardSaid : Prop := Claim7.holds Tryz.pinned (.plain (OpenSpec.ofChange searchesSpec)) searchesCard

/-- THE TIED CARD OF 'warrantlaw.Yeses'. -/
def yesesCard : Claim7 := { stood := { row := yesesRow, standIns := [], harness := (true, "94cd17d5a147dc9c2f669c9508977c70da12b835b4f96f459ab7e48efab1e1bc"), looks := false }, kinds := [], alts := [], laidByText := true, laidKinds := [.data, .data, .data], laidTests := true, laidLooks := .later }
def YesesCardSaid : Prop := Claim7.holds Tryz.pinned (.plain (OpenSpec.ofChange yesesSpec)) yesesCard

/-- THE TIED CARD OF 'warrantlaw.Explains'. -/
def explainsCard : Claim7 := { stood := { row := explainsRow, standIns := [], harness := (true, "94cd17d5a147dc9c2f669c9508977c70da12b835b4f96f459ab7e48efab1e1bc"), looks := false }, kinds := [], alts := [], laidByText := true, laidKinds := [.data, .data, .data], laidTests := true, laidLooks := .later }
def ExplainsCardSaid : Prop := Claim7.holds Tryz.pinned (.plain (OpenSpec.ofChange explainsSpec)) explainsCard

/-- THE SECOND FORM's CARD OF 'warrantlaw.Programs'. -/
def programsUptoCard : Claim7 := { stood := { row := programsUptoRow, standIns := [], harness := (true, "94cd17d5a147dc9c2f669c9508977c70da12b835b4f96f459ab7e48efab1e1bc"), looks := false }, kinds := [], alts := [], laidByText := true, laidKinds := [.data, .data, .data], laidTests := true, laidLooks := .later }
def ProgramsUptoCardSaid : Prop := Claim7.holds Tryz.pinned (.plain (OpenSpec.upto programsSpec)) programsUptoCard

/-- THE SECOND FORM's CARD OF 'warrantlaw.Queries'. -/
def queriesUptoCard : Claim7 := { stood := { row := queriesUptoRow, standIns := [], harness := (true, "94cd17d5a147dc9c2f669c9508977c70da12b835b4f96f459ab7e48efab1e1bc"), looks := false }, kinds := [], alts := [], laidByText := true, laidKinds := [.data, .data, .data], laidTests := true, laidLooks := .later }
def QueriesUptoCardSaid : Prop := Claim7.holds Tryz.pinned (.plain (OpenSpec.upto queriesSpec)) queriesUptoCard

/-- THE SECOND FORM's CARD OF 'warrantlaw.Searches'. -/
def searchesUptoCard : Claim7 := { stood := { row := searchesUptoRow, standIns := [], harness := (true, "94cd17d5a147dc9c2f669c9508977c70da12b835b4f96f459ab7e48efab1e1bc"), looks := false }, kinds := [], alts := [], laidByText := true, laidKinds := [.data, .data, .data], laidTests := true, laidLooks := .later }
def SearchesUptoCardSaid : Prop := Claim7.holds Tryz.pinned (.plain (OpenSpec.upto searchesSpec)) searchesUptoCard

/-- THE SECOND FORM's CARD OF 'warrantlaw.Yeses'. -/
def yesesUptoCard : Claim7 := { stood := { row := yesesUptoRow, standIns := [], harness := (true, "94cd17d5a147dc9c2f669c9508977c70da12b835b4f96f459ab7e48efab1e1bc"), looks := false }, kinds := [], alts := [], laidByText := true, laidKinds := [.data, .data, .data], laidTests := true, laidLooks := .later }
def YesesUptoCardSaid : Prop := Claim7.holds Tryz.pinned (.plain (OpenSpec.upto yesesSpec)) yesesUptoCard

/-- THE SECOND FORM's CARD OF 'warrantlaw.Explains'. -/
def explainsUptoCard : Claim7 := { stood := { row := explainsUptoRow, standIns := [], harness := (true, "94cd17d5a147dc9c2f669c9508977c70da12b835b4f96f459ab7e48efab1e1bc"), looks := false }, kinds := [], alts := [], laidByText := true, laidKinds := [.data, .data, .data], laidTests := true, laidLooks := .later }
def ExplainsUptoCardSaid : Prop := Claim7.holds Tryz.pinned (.plain (OpenSpec.upto explainsSpec)) explainsUptoCard
end Rows
end Go.Proofs.YtknibpoolegnaaaGreatDoor

/-
  DERIVED. GIVEN WITH THE SEED: THE CARDS: each row of YtlmjilpjmgjjcaaGreatDoorRows.lean that lists a variable, with what it lists TIED to the program's text (the seventh form; the later family's looks); each row that meets fmt, with fmt's text TOLD by the authors' own Lean function (tested against real Go, not proved from fmt's source: count such statements apart). THE CARD IS WHAT COUNTS. Prove the row's statement (the work); the ties are given (YtlmjilpjmgjjcaaGreatDoorTie.lean); close each card by the builder's one call (the guide's Derived/Test/ToyasCard.lean, 'card_holds'). Laid BY PROGRAM, IN A SANDBOX (cutbox-door.mjs). By AI agents, Wed Nov 11 2026. No macro, syntax, notation, axiom, sorry.
-/
import Derived.Test.YtlmjilpjmgjjcaaGreatDoorRows
import GoSem.ClaimSeven
namespace Go.Proofs.YtlmjilpjmgjjcaaGreatDoor
namespace Rows

/-- THE TIED CARD OF 'warrantlaw.Programs'. -/
def programsCard : Claim7 := { stood := { row := programsRow, standIns := [], harness := (true, "418771b8c955fabe95aaa2b7f0e00f0188e03bc5da1ef259b9f821d6d95dbde1"), looks := false }, kinds := [], alts := [], laidByText := true, laidKinds := [.data, .data, .data], laidTests := true, laidLooks := .later }
def ProgramsCardSaid : Prop := Claim7.holds Tryz.pinned (.plain (OpenSpec.ofChange programsSpec)) programsCard

/-- THE TIED CARD OF 'warrantlaw.Queries'. -/
def queriesCard : Claim7 := { stood := { row := queriesRow, standIns := [], harness := (true, "418771b8c955fabe95aaa2b7f0e00f0188e03bc5da1ef259b9f821d6d95dbde1"), looks := false }, kinds := [], alts := [], laidByText := true, laidKinds := [.data, .data, .data], laidTests := true, laidLooks := .later }
def QueriesCardSaid : Prop := Claim7.holds Tryz.pinned (.plain (OpenSpec.ofChange queriesSpec)) queriesCard

/-- THE TIED CARD OF 'warrantlaw.Searches'. -/
def searchesCard : Claim7 := { stood := { row := searchesRow, standIns := [], harness := (true, "418771b8c955fabe95aaa2b7f0e00f0188e03bc5da1ef259b9f821d6d95dbde1"), looks := false }, kinds := [], alts := [], laidByText := true, laidKinds := [.data, .data, .data], laidTests := true, laidLooks := .later }
def SearchesCardSaid : Prop := Claim7.holds Tryz.pinned (.plain (OpenSpec.ofChange searchesSpec)) searchesCard

/-- THE TIED CARD OF 'warrantlaw.Yeses'. -/
def yesesCard : Claim7 := { stood := { row := yesesRow, standIns := [], harness := (true, "418771b8c955fabe95aaa2b7f0e00f0188e03bc5da1ef259b9f821d6d95dbde1"), looks := false }, kinds := [], alts := [], laidByText := true, laidKinds := [.data, .data, .data], laidTests := true, laidLooks := .later }
def YesesCardSaid : Prop := Claim7.holds Tryz.pinned (.plain (OpenSpec.ofChange yesesSpec)) yesesCard

/-- THE TIED CARD OF 'warrantlaw.Explains'. -/
def explainsCard : Claim7 := { stood := { row := explainsRow, standIns := [], harness := (true, "418771b8c955fabe95aaa2b7f0e00f0188e03bc5da1ef259b9f821d6d95dbde1"), looks := false }, kinds := [], alts := [], laidByText := true, laidKinds := [.data, .data, .data], laidTests := true, laidLooks := .later }
def ExplainsCardSaid : Prop := Claim7.holds Tryz.pinned (.plain (OpenSpec.ofChange explainsSpec)) explainsCard

/-- THE TIED CARD OF 'warrantlaw.Alls'. -/
def allsCard : Claim7 := { stood := { row := allsRow, standIns := [], harness := (true, "418771b8c955fabe95aaa2b7f0e00f0188e03bc5da1ef259b9f821d6d95dbde1"), looks := false }, kinds := [], alts := [], laidByText := true, laidKinds := [.data, .data, .data], laidTests := true, laidLooks := .later }
def AllsCardSaid : Prop := Claim7.holds Tryz.pinned (.plain (OpenSpec.ofChange allsSpec)) allsCard

/-- THE TIED CARD OF 'warrantlaw.Whole'. -/
def wholeCard : Claim7 := { stood := { row := wholeRow, standIns := [], harness := (true, "418771b8c955fabe95aaa2b7f0e00f0188e03bc5da1ef259b9f821d6d95dbde1"), looks := false }, kinds := [], alts := [], laidByText := true, laidKinds := [.data, .data, .data], laidTests := true, laidLooks := .later }
def WholeCardSaid : Prop := Claim7.holds Tryz.pinned (.plain (OpenSpec.ofChange wholeSpec)) wholeCard

/-- THE TIED CARD OF 'warrantkeep.Sound'. -/
def soundCard : Claim7 := { stood := { row := soundRow, standIns := [], harness := (true, "418771b8c955fabe95aaa2b7f0e00f0188e03bc5da1ef259b9f821d6d95dbde1"), looks := false }, kinds := [], alts := [], laidByText := true, laidKinds := [.data, .data, .data], laidTests := true, laidLooks := .later }
def SoundCardSaid : Prop := Claim7.holds Tryz.pinned (.plain (OpenSpec.ofChange soundSpec)) soundCard

/-- THE TIED CARD OF 'warrantkeep.Complete'. -/
def completeCard : Claim7 := { stood := { row := completeRow, standIns := [], harness := (true, "418771b8c955fabe95aaa2b7f0e00f0188e03bc5da1ef259b9f821d6d95dbde1"), looks := false }, kinds := [], alts := [], laidByText := true, laidKinds := [.data, .data, .data], laidTests := true, laidLooks := .later }
def CompleteCardSaid : Prop := Claim7.holds Tryz.pinned (.plain (OpenSpec.ofChange completeSpec)) completeCard

/-- THE TIED CARD OF 'warrantkeep.Warranted'. -/
def warrantedCard : Claim7 := { stood := { row := warrantedRow, standIns := [], harness := (true, "418771b8c955fabe95aaa2b7f0e00f0188e03bc5da1ef259b9f821d6d95dbde1"), looks := false }, kinds := [], alts := [], laidByText := true, laidKinds := [.data, .data, .data], laidTests := true, laidLooks := .later }
def WarrantedCardSaid : Prop := Claim7.holds Tryz.pinned (.plain (OpenSpec.ofChange warrantedSpec)) warrantedCard

/-- THE SECOND FORM's CARD OF 'warrantlaw.Programs'. -/
def programsUptoCard : Claim7 := { stood := { row := programsUptoRow, standIns := [], harness := (true, "418771b8c955fabe95aaa2b7f0e00f0188e03bc5da1ef259b9f821d6d95dbde1"), looks := false }, kinds := [], alts := [], laidByText := true, laidKinds := [.data, .data, .data], laidTests := true, laidLooks := .later }
def ProgramsUptoCardSaid : Prop := Claim7.holds Tryz.pinned (.plain (OpenSpec.upto programsSpec)) programsUptoCard

/-- THE SECOND FORM's CARD OF 'warrantlaw.Queries'. -/
def queriesUptoCard : Claim7 := { stood := { row := queriesUptoRow, standIns := [], harness := (true, "418771b8c955fabe95aaa2b7f0e00f0188e03bc5da1ef259b9f821d6d95dbde1"), looks := false }, kinds := [], alts := [], laidByText := true, laidKinds := [.data, .data, .data], laidTests := true, laidLooks := .later }
def QueriesUptoCardSaid : Prop := Claim7.holds Tryz.pinned (.plain (OpenSpec.upto queriesSpec)) queriesUptoCard

/-- THE SECOND FORM's CARD OF 'warrantlaw.Searches'. -/
def searchesUptoCard : Claim7 := { stood := { row := searchesUptoRow, standIns := [], harness := (true, "418771b8c955fabe95aaa2b7f0e00f0188e03bc5da1ef259b9f821d6d95dbde1"), looks := false }, kinds := [], alts := [], laidByText := true, laidKinds := [.data, .data, .data], laidTests := true, laidLooks := .later }
def SearchesUptoCardSaid : Prop := Claim7.holds Tryz.pinned (.plain (OpenSpec.upto searchesSpec)) searchesUptoCard

/-- THE SECOND FORM's CARD OF 'warrantlaw.Yeses'. -/
def yesesUptoCard : Claim7 := { stood := { row := yesesUptoRow, standIns := [], harness := (true, "418771b8c955fabe95aaa2b7f0e00f0188e03bc5da1ef259b9f821d6d95dbde1"), looks := false }, kinds := [], alts := [], laidByText := true, laidKinds := [.data, .data, .data], laidTests := true, laidLooks := .later }
def YesesUptoCardSaid : Prop := Claim7.holds Tryz.pinned (.plain (OpenSpec.upto yesesSpec)) yesesUptoCard

/-- THE SECOND FORM's CARD OF 'warrantlaw.Explains'. -/
def explainsUptoCard : Claim7 := { stood := { row := explainsUptoRow, standIns := [], harness := (true, "418771b8c955fabe95aaa2b7f0e00f0188e03bc5da1ef259b9f821d6d95dbde1"), looks := false }, kinds := [], alts := [], laidByText := true, laidKinds := [.data, .data, .data], laidTests := true, laidLooks := .later }
def ExplainsUptoCardSaid : Prop := Claim7.holds Tryz.pinned (.plain (OpenSpec.upto explainsSpec)) explainsUptoCard

/-- THE SECOND FORM's CARD OF 'warrantlaw.Alls'. -/
def allsUptoCard : Claim7 := { stood := { row := allsUptoRow, standIns := [], harness := (true, "418771b8c955fabe95aaa2b7f0e00f0188e03bc5da1ef259b9f821d6d95dbde1"), looks := false }, kinds := [], alts := [], laidByText := true, laidKinds := [.data, .data, .data], laidTests := true, laidLooks := .later }
def AllsUptoCardSaid : Prop := Claim7.holds Tryz.pinned (.plain (OpenSpec.upto allsSpec)) allsUptoCard

/-- THE SECOND FORM's CARD OF 'warrantlaw.Whole'. -/
def wholeUptoCard : Claim7 := { stood := { row := wholeUptoRow, standIns := [], harness := (true, "418771b8c955fabe95aaa2b7f0e00f0188e03bc5da1ef259b9f821d6d95dbde1"), looks := false }, kinds := [], alts := [], laidByText := true, laidKinds := [.data, .data, .data], laidTests := true, laidLooks := .later }
def WholeUptoCardSaid : Prop := Claim7.holds Tryz.pinned (.plain (OpenSpec.upto wholeSpec)) wholeUptoCard

/-- THE SECOND FORM's CARD OF 'warrantkeep.Sound'. -/
def soundUptoCard : Claim7 := { stood := { row := soundUptoRow, standIns := [], harness := (true, "418771b8c955fabe95aaa2b7f0e00f0188e03bc5da1ef259b9f821d6d95dbde1"), looks := false }, kinds := [], alts := [], laidByText := true, laidKinds := [.data, .data, .data], laidTests := true, laidLooks := .later }
def SoundUptoCardSaid : Prop := Claim7.holds Tryz.pinned (.plain (OpenSpec.upto soundSpec)) soundUptoCard

/-- THE SECOND FORM's CARD OF 'warrantkeep.Complete'. -/
def completeUptoCard : Claim7 := { stood := { row := completeUptoRow, standIns := [], harness := (true, "418771b8c955fabe95aaa2b7f0e00f0188e03bc5da1ef259b9f821d6d95dbde1"), looks := false }, kinds := [], alts := [], laidByText := true, laidKinds := [.data, .data, .data], laidTests := true, laidLooks := .later }
def CompleteUptoCardSaid : Prop := Claim7.holds Tryz.pinned (.plain (OpenSpec.upto completeSpec)) completeUptoCard

/-- THE SECOND FORM's CARD OF 'warrantkeep.Warranted'. -/
def warrantedUptoCard : Claim7 := { stood := { row := warrantedUptoRow, standIns := [], harness := (true, "418771b8c955fabe95aaa2b7f0e00f0188e03bc5da1ef259b9f821d6d95dbde1"), looks := false }, kinds := [], alts := [], laidByText := true, laidKinds := [.data, .data, .data], laidTests := true, laidLooks := .later }
def WarrantedUptoCardSaid : Prop := Claim7.holds Tryz.pinned (.plain (OpenSpec.upto warrantedSpec)) warrantedUptoCard
end Rows
end Go.Proofs.YtlmjilpjmgjjcaaGreatDoor

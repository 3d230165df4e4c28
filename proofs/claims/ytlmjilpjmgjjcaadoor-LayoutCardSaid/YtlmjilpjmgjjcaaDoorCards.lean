/-
  DERIVED. GIVEN WITH THE SEED: THE CARDS: each row of YtlmjilpjmgjjcaaDoorRows.lean that lists a variable, with what it lists TIED to the program's text (the seventh form; the later family's looks); each row that meets fmt, with fmt's text TOLD by the authors' own Lean function (tested against real Go, not proved from fmt's source: count such statements apart). THE CARD IS WHAT COUNTS. Prove the row's statement (the work); the ties are given (YtlmjilpjmgjjcaaDoorTie.lean); close each card by the builder's one call (the guide's Derived/Test/ToyasCard.lean, 'card_holds'). Laid BY PROGRAM, IN A SANDBOX (cutbox-door.mjs). By AI agents, Wed Nov 11 2026. No macro, syntax, notation, axiom, sorry.
-/
import Derived.Test.YtlmjilpjmgjjcaaDoorRows
import GoSem.ClaimSeven
namespace Go.Proofs.YtlmjilpjmgjjcaaDoor
namespace Rows

/-- THE TIED CARD OF 'warrantkeep.Layout'. -/
def layoutCard : Claim7 := { stood := { row := layoutRow, standIns := [], harness := (true, "e7906a50e107e8dae5a16ecb63b4458c0542dcee0ae76959b61cb551a863fc78"), looks := false }, kinds := [], alts := [], laidByText := true, laidKinds := [.data, .data, .data], laidTests := true, laidLooks := .later }
def LayoutCardSaid : Prop := Claim7.holds Tryd.pinned (.plain (OpenSpec.ofChange layoutSpec)) layoutCard

/-- THE SECOND FORM's CARD OF 'warrantkeep.Layout'. -/
def layoutUptoCard : Claim7 := { stood := { row := layoutUptoRow, standIns := [], harness := (true, "e7906a50e107e8dae5a16ecb63b4458c0542dcee0ae76959b61cb551a863fc78"), looks := false }, kinds := [], alts := [], laidByText := true, laidKinds := [.data, .data, .data], laidTests := true, laidLooks := .later }
def LayoutUptoCardSaid : Prop := Claim7.holds Tryd.pinned (.plain (OpenSpec.upto layoutSpec)) layoutUptoCard
end Rows
end Go.Proofs.YtlmjilpjmgjjcaaDoor

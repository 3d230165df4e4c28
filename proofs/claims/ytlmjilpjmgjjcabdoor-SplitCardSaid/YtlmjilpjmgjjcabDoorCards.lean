/-
  DERIVED. GIVEN WITH THE SEED: THE CARDS: each row of YtlmjilpjmgjjcabDoorRows.lean that lists a variable, with what it lists TIED to the program's text (the seventh form; the later family's looks); each row that meets fmt, with fmt's text TOLD by the authors' own Lean function (tested against real Go, not proved from fmt's source: count such statements apart). THE CARD IS WHAT COUNTS. Prove the row's statement (the work); the ties are given (YtlmjilpjmgjjcabDoorTie.lean); close each card by the builder's one call (the guide's Derived/Test/ToyasCard.lean, 'card_holds'). Laid BY PROGRAM, IN A SANDBOX (cutbox-door.mjs). By AI agents, Wed Nov 11 2026. No macro, syntax, notation, axiom, sorry.
-/
import Derived.Test.YtlmjilpjmgjjcabDoorRows
import GoSem.ClaimSeven
namespace Go.Proofs.YtlmjilpjmgjjcabDoor
namespace Rows

/-- THE TIED CARD OF 'warrantkeep.Split'. -/
def splitCard : Claim7 := { stood := { row := splitRow, standIns := [], harness := (true, "d52edc3b654a02e5692ad12b762653e6673c3f5a1d179cbc980bc2163651515a"), looks := false }, kinds := [], alts := [], laidByText := true, laidKinds := [.data, .data, .data], laidTests := true, laidLooks := .later }
def SplitCardSaid : Prop := Claim7.holds Tryd.pinned (.plain (OpenSpec.ofChange splitSpec)) splitCard

/-- THE TIED CARD OF 'warrantkeep.Grown'. -/
def grownCard : Claim7 := { stood := { row := grownRow, standIns := [], harness := (true, "d52edc3b654a02e5692ad12b762653e6673c3f5a1d179cbc980bc2163651515a"), looks := false }, kinds := [], alts := [], laidByText := true, laidKinds := [.data, .data, .data], laidTests := true, laidLooks := .later }
def GrownCardSaid : Prop := Claim7.holds Tryd.pinned (.plain (OpenSpec.ofChange grownSpec)) grownCard

/-- THE TIED CARD OF 'warrantkeep.Circles'. -/
def circlesCard : Claim7 := { stood := { row := circlesRow, standIns := [], harness := (true, "d52edc3b654a02e5692ad12b762653e6673c3f5a1d179cbc980bc2163651515a"), looks := false }, kinds := [], alts := [], laidByText := true, laidKinds := [.data, .data, .data], laidTests := true, laidLooks := .later }
def CirclesCardSaid : Prop := Claim7.holds Tryd.pinned (.plain (OpenSpec.ofChange circlesSpec)) circlesCard

/-- THE TIED CARD OF 'warrantkeep.Goals'. -/
def goalsCard : Claim7 := { stood := { row := goalsRow, standIns := [], harness := (true, "d52edc3b654a02e5692ad12b762653e6673c3f5a1d179cbc980bc2163651515a"), looks := false }, kinds := [], alts := [], laidByText := true, laidKinds := [.data, .data, .data], laidTests := true, laidLooks := .later }
def GoalsCardSaid : Prop := Claim7.holds Tryd.pinned (.plain (OpenSpec.ofChange goalsSpec)) goalsCard

/-- THE SECOND FORM's CARD OF 'warrantkeep.Split'. -/
def splitUptoCard : Claim7 := { stood := { row := splitUptoRow, standIns := [], harness := (true, "d52edc3b654a02e5692ad12b762653e6673c3f5a1d179cbc980bc2163651515a"), looks := false }, kinds := [], alts := [], laidByText := true, laidKinds := [.data, .data, .data], laidTests := true, laidLooks := .later }
def SplitUptoCardSaid : Prop := Claim7.holds Tryd.pinned (.plain (OpenSpec.upto splitSpec)) splitUptoCard

/-- THE SECOND FORM's CARD OF 'warrantkeep.Grown'. -/
def grownUptoCard : Claim7 := { stood := { row := grownUptoRow, standIns := [], harness := (true, "d52edc3b654a02e5692ad12b762653e6673c3f5a1d179cbc980bc2163651515a"), looks := false }, kinds := [], alts := [], laidByText := true, laidKinds := [.data, .data, .data], laidTests := true, laidLooks := .later }
def GrownUptoCardSaid : Prop := Claim7.holds Tryd.pinned (.plain (OpenSpec.upto grownSpec)) grownUptoCard

/-- THE SECOND FORM's CARD OF 'warrantkeep.Circles'. -/
def circlesUptoCard : Claim7 := { stood := { row := circlesUptoRow, standIns := [], harness := (true, "d52edc3b654a02e5692ad12b762653e6673c3f5a1d179cbc980bc2163651515a"), looks := false }, kinds := [], alts := [], laidByText := true, laidKinds := [.data, .data, .data], laidTests := true, laidLooks := .later }
def CirclesUptoCardSaid : Prop := Claim7.holds Tryd.pinned (.plain (OpenSpec.upto circlesSpec)) circlesUptoCard

/-- THE SECOND FORM's CARD OF 'warrantkeep.Goals'. -/
def goalsUptoCard : Claim7 := { stood := { row := goalsUptoRow, standIns := [], harness := (true, "d52edc3b654a02e5692ad12b762653e6673c3f5a1d179cbc980bc2163651515a"), looks := false }, kinds := [], alts := [], laidByText := true, laidKinds := [.data, .data, .data], laidTests := true, laidLooks := .later }
def GoalsUptoCardSaid : Prop := Claim7.holds Tryd.pinned (.plain (OpenSpec.upto goalsSpec)) goalsUptoCard
end Rows
end Go.Proofs.YtlmjilpjmgjjcabDoor

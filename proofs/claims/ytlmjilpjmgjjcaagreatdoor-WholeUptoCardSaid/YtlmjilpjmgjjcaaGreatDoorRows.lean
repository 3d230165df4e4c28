/-
  NARROWER THAN 'FOR EVERY INPUT', by the rows' own cells (each row's printed sentence says how): Programs: laid · Queries: laid · Searches: laid · Yeses: laid · Explains: laid · Alls: laid · Whole: laid · Sound: laid · Complete: laid · Warranted: laid.
  DERIVED. THE GIVEN ROWS OF THIS SEAT. 10 by the template 'for every input the law returns true; each argument reads behind the call as it read before'; 0 by the template 'total and deterministic' (their statements: YtlmjilpjmgjjcaaGreatDoorTotals.lean).
  GIVEN WITH THE SEED: the statements are not yours to turn. If you find one false, say at which input.
  Laid BY PROGRAM, IN A SANDBOX (cutbox-rows.mjs): the forced cells as the released guide's own fill.sh prints them over the translation ccac960409dba4f6… (all of the seat's roots in one cut). By AI agents, Wed Nov 11 2026. No macro, syntax, notation, axiom, sorry.
-/
import Derived.Test.YtlmjilpjmgjjcaaGreatDoorChecked
import GoSem.Claim
import GoSem.ClaimJoined
import GoSem.ClaimMapViews
import Derived.JoinedTies
import Derived.KernelRfl
namespace Go.Proofs.YtlmjilpjmgjjcaaGreatDoor
/- THE CELL 'sum', in the pinned program and in every row, IS THE sha256 OF THE DUMP (.gsa) THAT YtlmjilpjmgjjcaaGreatDoorProg.lean LOADS. Nothing in Lean hashes anything: it is a label: what it is worth is what the hold of that sum in a sandbox is worth. -/
noncomputable def Tryz.pinned : Pinned := { name := "ytlmjilpjmgjjcaagreatdoor", sum := "ccac960409dba4f6cb72408cb2cfc04f49311e3c9c3e30d74feec0bf95666078", checked := Tryz.checked }
namespace Rows
def none {H : Type} : Left H := { results := [], args := [] }

/- WHAT THE LISTED PACKAGE-LEVEL VARIABLES READ AS WHEN THE CALL BEGINS. Each datum BY PROGRAM (the guide's laid-datum.mjs) off the statement by which the dump's own 'gosem.cut.vars' lays the variable. In a bare row this is a premise. The card (YtlmjilpjmgjjcaaGreatDoorCards.lean) ties it to the program's text. -/
def laid_math_bits_deBruijn32tab {H : Type} : DataW H := .agg [.lit (.int .u8 0), .lit (.int .u8 1), .lit (.int .u8 28), .lit (.int .u8 2), .lit (.int .u8 29), .lit (.int .u8 14), .lit (.int .u8 24), .lit (.int .u8 3), .lit (.int .u8 30), .lit (.int .u8 22), .lit (.int .u8 20), .lit (.int .u8 15), .lit (.int .u8 25), .lit (.int .u8 17), .lit (.int .u8 4), .lit (.int .u8 8), .lit (.int .u8 31), .lit (.int .u8 27), .lit (.int .u8 13), .lit (.int .u8 23), .lit (.int .u8 21), .lit (.int .u8 19), .lit (.int .u8 16), .lit (.int .u8 7), .lit (.int .u8 26), .lit (.int .u8 12), .lit (.int .u8 18), .lit (.int .u8 6), .lit (.int .u8 11), .lit (.int .u8 5), .lit (.int .u8 10), .lit (.int .u8 9)]
def laid_math_bits_deBruijn64tab {H : Type} : DataW H := .agg [.lit (.int .u8 0), .lit (.int .u8 1), .lit (.int .u8 56), .lit (.int .u8 2), .lit (.int .u8 57), .lit (.int .u8 49), .lit (.int .u8 28), .lit (.int .u8 3), .lit (.int .u8 61), .lit (.int .u8 58), .lit (.int .u8 42), .lit (.int .u8 50), .lit (.int .u8 38), .lit (.int .u8 29), .lit (.int .u8 17), .lit (.int .u8 4), .lit (.int .u8 62), .lit (.int .u8 47), .lit (.int .u8 59), .lit (.int .u8 36), .lit (.int .u8 45), .lit (.int .u8 43), .lit (.int .u8 51), .lit (.int .u8 22), .lit (.int .u8 53), .lit (.int .u8 39), .lit (.int .u8 33), .lit (.int .u8 30), .lit (.int .u8 24), .lit (.int .u8 18), .lit (.int .u8 12), .lit (.int .u8 5), .lit (.int .u8 63), .lit (.int .u8 55), .lit (.int .u8 48), .lit (.int .u8 27), .lit (.int .u8 60), .lit (.int .u8 41), .lit (.int .u8 37), .lit (.int .u8 16), .lit (.int .u8 46), .lit (.int .u8 35), .lit (.int .u8 44), .lit (.int .u8 21), .lit (.int .u8 52), .lit (.int .u8 32), .lit (.int .u8 23), .lit (.int .u8 11), .lit (.int .u8 54), .lit (.int .u8 26), .lit (.int .u8 40), .lit (.int .u8 15), .lit (.int .u8 34), .lit (.int .u8 20), .lit (.int .u8 31), .lit (.int .u8 10), .lit (.int .u8 25), .lit (.int .u8 14), .lit (.int .u8 19), .lit (.int .u8 9), .lit (.int .u8 13), .lit (.int .u8 8), .lit (.int .u8 7), .lit (.int .u8 6)]
def laid_internal_strconv_uint64pow10 {H : Type} : DataW H := .agg [.lit (.int .u64 1), .lit (.int .u64 10), .lit (.int .u64 100), .lit (.int .u64 1000), .lit (.int .u64 10000), .lit (.int .u64 100000), .lit (.int .u64 1000000), .lit (.int .u64 10000000), .lit (.int .u64 100000000), .lit (.int .u64 1000000000), .lit (.int .u64 10000000000), .lit (.int .u64 100000000000), .lit (.int .u64 1000000000000), .lit (.int .u64 10000000000000), .lit (.int .u64 100000000000000), .lit (.int .u64 1000000000000000), .lit (.int .u64 10000000000000000), .lit (.int .u64 100000000000000000), .lit (.int .u64 1000000000000000000), .lit (.int .u64 10000000000000000000)]

/-- 'warrantlaw.Programs': WHATEVER THE INPUT: true; the input reads as it did. -/
def programsSpec : ChangeSpec := { name := "programs", fn := fun _ => fun
  | [d] => { results := [.lit (.bool true)], args := [d] }
  | _ => none }
def programsRow : OpenClaim := { program := "ytlmjilpjmgjjcaagreatdoor", sum := "ccac960409dba4f6cb72408cb2cfc04f49311e3c9c3e30d74feec0bf95666078", func := "warrant/warrantlaw.Programs", spec := "programs", recurses := true, named := ["internal/strconv.uint64pow10", "math/bits.deBruijn32tab", "math/bits.deBruijn64tab"], apart := false, laid := [("math/bits.deBruijn32tab", laid_math_bits_deBruijn32tab), ("math/bits.deBruijn64tab", laid_math_bits_deBruijn64tab), ("internal/strconv.uint64pow10", laid_internal_strconv_uint64pow10)] }
def ProgramsSaid : Prop := programsRow.holds Tryz.pinned (OpenSpec.ofChange programsSpec)

/-- ITS FALSE NEIGHBOUR: 'it returns false'. Refute it at one input. -/
def programsWrong : ChangeSpec := { name := "programs", fn := fun _ => fun
  | [d] => { results := [.lit (.bool false)], args := [d] }
  | _ => none }
def ProgramsWrongFalsely : Prop := programsRow.holds Tryz.pinned (OpenSpec.ofChange programsWrong)

/-- 'warrantlaw.Queries': WHATEVER THE INPUT: true; the input reads as it did. -/
def queriesSpec : ChangeSpec := { name := "queries", fn := fun _ => fun
  | [d] => { results := [.lit (.bool true)], args := [d] }
  | _ => none }
def queriesRow : OpenClaim := { program := "ytlmjilpjmgjjcaagreatdoor", sum := "ccac960409dba4f6cb72408cb2cfc04f49311e3c9c3e30d74feec0bf95666078", func := "warrant/warrantlaw.Queries", spec := "queries", recurses := true, named := ["internal/strconv.uint64pow10", "math/bits.deBruijn32tab", "math/bits.deBruijn64tab"], apart := false, laid := [("math/bits.deBruijn32tab", laid_math_bits_deBruijn32tab), ("math/bits.deBruijn64tab", laid_math_bits_deBruijn64tab), ("internal/strconv.uint64pow10", laid_internal_strconv_uint64pow10)] }
def QueriesSaid : Prop := queriesRow.holds Tryz.pinned (OpenSpec.ofChange queriesSpec)

/-- ITS FALSE NEIGHBOUR: 'it returns false'. Refute it at one input. -/
def queriesWrong : ChangeSpec := { name := "queries", fn := fun _ => fun
  | [d] => { results := [.lit (.bool false)], args := [d] }
  | _ => none }
def QueriesWrongFalsely : Prop := queriesRow.holds Tryz.pinned (OpenSpec.ofChange queriesWrong)

/-- 'warrantlaw.Searches': WHATEVER THE INPUT: true; the input reads as it did. -/
def searchesSpec : ChangeSpec := { name := "searches", fn := fun _ => fun
  | [d] => { results := [.lit (.bool true)], args := [d] }
  | _ => none }
def searchesRow : OpenClaim := { program := "ytlmjilpjmgjjcaagreatdoor", sum := "ccac960409dba4f6cb72408cb2cfc04f49311e3c9c3e30d74feec0bf95666078", func := "warrant/warrantlaw.Searches", spec := "searches", recurses := true, named := ["internal/strconv.uint64pow10", "math/bits.deBruijn32tab", "math/bits.deBruijn64tab"], apart := false, laid := [("math/bits.deBruijn32tab", laid_math_bits_deBruijn32tab), ("math/bits.deBruijn64tab", laid_math_bits_deBruijn64tab), ("internal/strconv.uint64pow10", laid_internal_strconv_uint64pow10)] }
def SearchesSaid : Prop := searchesRow.holds Tryz.pinned (OpenSpec.ofChange searchesSpec)

/-- ITS FALSE NEIGHBOUR: 'it returns false'. Refute it at one input. -/
def searchesWrong : ChangeSpec := { name := "searches", fn := fun _ => fun
  | [d] => { results := [.lit (.bool false)], args := [d] }
  | _ => none }
def SearchesWrongFalsely : Prop := searchesRow.holds Tryz.pinned (OpenSpec.ofChange searchesWrong)

/-- 'warrantlaw.Yeses': WHATEVER THE INPUT: true; the input reads as it did. -/
def yesesSpec : ChangeSpec := { name := "yeses", fn := fun _ => fun
  | [d] => { results := [.lit (.bool true)], args := [d] }
  | _ => none }
def yesesRow : OpenClaim := { program := "ytlmjilpjmgjjcaagreatdoor", sum := "ccac960409dba4f6cb72408cb2cfc04f49311e3c9c3e30d74feec0bf95666078", func := "warrant/warrantlaw.Yeses", spec := "yeses", recurses := true, named := ["internal/strconv.uint64pow10", "math/bits.deBruijn32tab", "math/bits.deBruijn64tab"], apart := false, laid := [("math/bits.deBruijn32tab", laid_math_bits_deBruijn32tab), ("math/bits.deBruijn64tab", laid_math_bits_deBruijn64tab), ("internal/strconv.uint64pow10", laid_internal_strconv_uint64pow10)] }
def YesesSaid : Prop := yesesRow.holds Tryz.pinned (OpenSpec.ofChange yesesSpec)

/-- ITS FALSE NEIGHBOUR: 'it returns false'. Refute it at one input. -/
def yesesWrong : ChangeSpec := { name := "yeses", fn := fun _ => fun
  | [d] => { results := [.lit (.bool false)], args := [d] }
  | _ => none }
def YesesWrongFalsely : Prop := yesesRow.holds Tryz.pinned (OpenSpec.ofChange yesesWrong)

/-- 'warrantlaw.Explains': WHATEVER THE INPUT: true; the input reads as it did. -/
def explainsSpec : ChangeSpec := { name := "explains", fn := fun _ => fun
  | [d] => { results := [.lit (.bool true)], args := [d] }
  | _ => none }
def explainsRow : OpenClaim := { program := "ytlmjilpjmgjjcaagreatdoor", sum := "ccac960409dba4f6cb72408cb2cfc04f49311e3c9c3e30d74feec0bf95666078", func := "warrant/warrantlaw.Explains", spec := "explains", recurses := true, named := ["internal/strconv.uint64pow10", "math/bits.deBruijn32tab", "math/bits.deBruijn64tab"], apart := false, laid := [("math/bits.deBruijn32tab", laid_math_bits_deBruijn32tab), ("math/bits.deBruijn64tab", laid_math_bits_deBruijn64tab), ("internal/strconv.uint64pow10", laid_internal_strconv_uint64pow10)] }
def ExplainsSaid : Prop := explainsRow.holds Tryz.pinned (OpenSpec.ofChange explainsSpec)

/-- ITS FALSE NEIGHBOUR: 'it returns false'. Refute it at one input. -/
def explainsWrong : ChangeSpec := { name := "explains", fn := fun _ => fun
  | [d] => { results := [.lit (.bool false)], args := [d] }
  | _ => none }
def ExplainsWrongFalsely : Prop := explainsRow.holds Tryz.pinned (OpenSpec.ofChange explainsWrong)

/-- 'warrantlaw.Alls': WHATEVER THE INPUT: true; the input reads as it did. -/
def allsSpec : ChangeSpec := { name := "alls", fn := fun _ => fun
  | [d] => { results := [.lit (.bool true)], args := [d] }
  | _ => none }
def allsRow : OpenClaim := { program := "ytlmjilpjmgjjcaagreatdoor", sum := "ccac960409dba4f6cb72408cb2cfc04f49311e3c9c3e30d74feec0bf95666078", func := "warrant/warrantlaw.Alls", spec := "alls", recurses := true, named := ["internal/strconv.uint64pow10", "math/bits.deBruijn32tab", "math/bits.deBruijn64tab"], apart := false, laid := [("math/bits.deBruijn32tab", laid_math_bits_deBruijn32tab), ("math/bits.deBruijn64tab", laid_math_bits_deBruijn64tab), ("internal/strconv.uint64pow10", laid_internal_strconv_uint64pow10)] }
def AllsSaid : Prop := allsRow.holds Tryz.pinned (OpenSpec.ofChange allsSpec)

/-- ITS FALSE NEIGHBOUR: 'it returns false'. Refute it at one input. -/
def allsWrong : ChangeSpec := { name := "alls", fn := fun _ => fun
  | [d] => { results := [.lit (.bool false)], args := [d] }
  | _ => none }
def AllsWrongFalsely : Prop := allsRow.holds Tryz.pinned (OpenSpec.ofChange allsWrong)

/-- 'warrantlaw.Whole': WHATEVER THE INPUT: true; the input reads as it did. -/
def wholeSpec : ChangeSpec := { name := "whole", fn := fun _ => fun
  | [d] => { results := [.lit (.bool true)], args := [d] }
  | _ => none }
def wholeRow : OpenClaim := { program := "ytlmjilpjmgjjcaagreatdoor", sum := "ccac960409dba4f6cb72408cb2cfc04f49311e3c9c3e30d74feec0bf95666078", func := "warrant/warrantlaw.Whole", spec := "whole", recurses := true, named := ["internal/strconv.uint64pow10", "math/bits.deBruijn32tab", "math/bits.deBruijn64tab"], apart := false, laid := [("math/bits.deBruijn32tab", laid_math_bits_deBruijn32tab), ("math/bits.deBruijn64tab", laid_math_bits_deBruijn64tab), ("internal/strconv.uint64pow10", laid_internal_strconv_uint64pow10)] }
def WholeSaid : Prop := wholeRow.holds Tryz.pinned (OpenSpec.ofChange wholeSpec)

/-- ITS FALSE NEIGHBOUR: 'it returns false'. Refute it at one input. -/
def wholeWrong : ChangeSpec := { name := "whole", fn := fun _ => fun
  | [d] => { results := [.lit (.bool false)], args := [d] }
  | _ => none }
def WholeWrongFalsely : Prop := wholeRow.holds Tryz.pinned (OpenSpec.ofChange wholeWrong)

/-- 'warrantkeep.Sound': WHATEVER THE INPUT: true; the input reads as it did. -/
def soundSpec : ChangeSpec := { name := "sound", fn := fun _ => fun
  | [d1, d2] => { results := [.lit (.bool true)], args := [d1, d2] }
  | _ => none }
def soundRow : OpenClaim := { program := "ytlmjilpjmgjjcaagreatdoor", sum := "ccac960409dba4f6cb72408cb2cfc04f49311e3c9c3e30d74feec0bf95666078", func := "warrant/warrantkeep.Sound", spec := "sound", recurses := true, named := ["internal/strconv.uint64pow10", "math/bits.deBruijn32tab", "math/bits.deBruijn64tab"], apart := false, laid := [("math/bits.deBruijn32tab", laid_math_bits_deBruijn32tab), ("math/bits.deBruijn64tab", laid_math_bits_deBruijn64tab), ("internal/strconv.uint64pow10", laid_internal_strconv_uint64pow10)] }
def SoundSaid : Prop := soundRow.holds Tryz.pinned (OpenSpec.ofChange soundSpec)

/-- ITS FALSE NEIGHBOUR: 'it returns false'. Refute it at one input. -/
def soundWrong : ChangeSpec := { name := "sound", fn := fun _ => fun
  | [d1, d2] => { results := [.lit (.bool false)], args := [d1, d2] }
  | _ => none }
def SoundWrongFalsely : Prop := soundRow.holds Tryz.pinned (OpenSpec.ofChange soundWrong)

/-- 'warrantkeep.Complete': WHATEVER THE INPUT: true; the input reads as it did. -/
def completeSpec : ChangeSpec := { name := "complete", fn := fun _ => fun
  | [d] => { results := [.lit (.bool true)], args := [d] }
  | _ => none }
def completeRow : OpenClaim := { program := "ytlmjilpjmgjjcaagreatdoor", sum := "ccac960409dba4f6cb72408cb2cfc04f49311e3c9c3e30d74feec0bf95666078", func := "warrant/warrantkeep.Complete", spec := "complete", recurses := true, named := ["internal/strconv.uint64pow10", "math/bits.deBruijn32tab", "math/bits.deBruijn64tab"], apart := false, laid := [("math/bits.deBruijn32tab", laid_math_bits_deBruijn32tab), ("math/bits.deBruijn64tab", laid_math_bits_deBruijn64tab), ("internal/strconv.uint64pow10", laid_internal_strconv_uint64pow10)] }
def CompleteSaid : Prop := completeRow.holds Tryz.pinned (OpenSpec.ofChange completeSpec)

/-- ITS FALSE NEIGHBOUR: 'it returns false'. Refute it at one input. -/
def completeWrong : ChangeSpec := { name := "complete", fn := fun _ => fun
  | [d] => { results := [.lit (.bool false)], args := [d] }
  | _ => none }
def CompleteWrongFalsely : Prop := completeRow.holds Tryz.pinned (OpenSpec.ofChange completeWrong)

/-- 'warrantkeep.Warranted': WHATEVER THE INPUT: true; the input reads as it did. -/
def warrantedSpec : ChangeSpec := { name := "warranted", fn := fun _ => fun
  | [d] => { results := [.lit (.bool true)], args := [d] }
  | _ => none }
def warrantedRow : OpenClaim := { program := "ytlmjilpjmgjjcaagreatdoor", sum := "ccac960409dba4f6cb72408cb2cfc04f49311e3c9c3e30d74feec0bf95666078", func := "warrant/warrantkeep.Warranted", spec := "warranted", recurses := true, named := ["internal/strconv.uint64pow10", "math/bits.deBruijn32tab", "math/bits.deBruijn64tab"], apart := false, laid := [("math/bits.deBruijn32tab", laid_math_bits_deBruijn32tab), ("math/bits.deBruijn64tab", laid_math_bits_deBruijn64tab), ("internal/strconv.uint64pow10", laid_internal_strconv_uint64pow10)] }
def WarrantedSaid : Prop := warrantedRow.holds Tryz.pinned (OpenSpec.ofChange warrantedSpec)

/-- ITS FALSE NEIGHBOUR: 'it returns false'. Refute it at one input. -/
def warrantedWrong : ChangeSpec := { name := "warranted", fn := fun _ => fun
  | [d] => { results := [.lit (.bool false)], args := [d] }
  | _ => none }
def WarrantedWrongFalsely : Prop := warrantedRow.holds Tryz.pinned (OpenSpec.ofChange warrantedWrong)

/- THE SECOND FORM. 'bulk': how many values and letters a reading holds, each counted each time it is reached (what is shared counts as often as it is met; a slice's spare places count too). A statement '..UptoSaid' is the law's where the arguments, and the package variables that the reading takes, are together of bulk at most 1048576: NARROWER than '..Said'. Prove '..Said' where nothing that the law and all that it calls make is longer than what came in: it says more and counts as full. Else prove '..UptoSaid'. A law counts once. -/
mutual
def uptoBulk {H : Type} : DataW H → Nat
  | .lit (.string bytes) => bytes.length + 1
  | .lit _ => 1
  | .nil => 1
  | .ptr d => uptoBulk d + 1
  | .slice elems spare => uptoBulkAll elems + uptoBulkAll spare + 1
  | .agg parts => uptoBulkAll parts + 1
  | .iface _ d => uptoBulk d + 1
  | .map entries => uptoBulkEntries entries + 1
  | .held _ => 1
def uptoBulkAll {H : Type} : List (DataW H) → Nat
  | [] => 0
  | d :: r => uptoBulk d + uptoBulkAll r
def uptoBulkEntries {H : Type} : List (Lit × DataW H) → Nat
  | [] => 0
  | x :: r => uptoBulkEntry x + uptoBulkEntries r
def uptoBulkEntry {H : Type} : Lit × DataW H → Nat
  | (.string bytes, d) => bytes.length + uptoBulk d + 1
  | (_, d) => uptoBulk d + 1
 end
def uptoSmall : (H : Type) → List (DataW H) → Bool := fun _ ds => decide (uptoBulkAll ds ≤ 1048576)
def OpenSpec.upto (s : _root_.Go.ChangeSpec) : _root_.Go.OpenSpec := { _root_.Go.OpenSpec.ofChange s with cond := some uptoSmall }

/-- 'warrantlaw.Programs', WHERE WHAT IT READS IS OF BULK AT MOST 1048576: true; the input reads as it did. -/
def programsUptoRow : OpenClaim := { program := "ytlmjilpjmgjjcaagreatdoor", sum := "ccac960409dba4f6cb72408cb2cfc04f49311e3c9c3e30d74feec0bf95666078", func := "warrant/warrantlaw.Programs", spec := "programs", recurses := true, named := ["internal/strconv.uint64pow10", "math/bits.deBruijn32tab", "math/bits.deBruijn64tab"], apart := false, laid := [("math/bits.deBruijn32tab", laid_math_bits_deBruijn32tab), ("math/bits.deBruijn64tab", laid_math_bits_deBruijn64tab), ("internal/strconv.uint64pow10", laid_internal_strconv_uint64pow10)], narrowed := true }
def ProgramsUptoSaid : Prop := programsUptoRow.holds Tryz.pinned (OpenSpec.upto programsSpec)

/-- 'warrantlaw.Queries', WHERE WHAT IT READS IS OF BULK AT MOST 1048576: true; the input reads as it did. -/
def queriesUptoRow : OpenClaim := { program := "ytlmjilpjmgjjcaagreatdoor", sum := "ccac960409dba4f6cb72408cb2cfc04f49311e3c9c3e30d74feec0bf95666078", func := "warrant/warrantlaw.Queries", spec := "queries", recurses := true, named := ["internal/strconv.uint64pow10", "math/bits.deBruijn32tab", "math/bits.deBruijn64tab"], apart := false, laid := [("math/bits.deBruijn32tab", laid_math_bits_deBruijn32tab), ("math/bits.deBruijn64tab", laid_math_bits_deBruijn64tab), ("internal/strconv.uint64pow10", laid_internal_strconv_uint64pow10)], narrowed := true }
def QueriesUptoSaid : Prop := queriesUptoRow.holds Tryz.pinned (OpenSpec.upto queriesSpec)

/-- 'warrantlaw.Searches', WHERE WHAT IT READS IS OF BULK AT MOST 1048576: true; the input reads as it did. -/
def searchesUptoRow : OpenClaim := { program := "ytlmjilpjmgjjcaagreatdoor", sum := "ccac960409dba4f6cb72408cb2cfc04f49311e3c9c3e30d74feec0bf95666078", func := "warrant/warrantlaw.Searches", spec := "searches", recurses := true, named := ["internal/strconv.uint64pow10", "math/bits.deBruijn32tab", "math/bits.deBruijn64tab"], apart := false, laid := [("math/bits.deBruijn32tab", laid_math_bits_deBruijn32tab), ("math/bits.deBruijn64tab", laid_math_bits_deBruijn64tab), ("internal/strconv.uint64pow10", laid_internal_strconv_uint64pow10)], narrowed := true }
def SearchesUptoSaid : Prop := searchesUptoRow.holds Tryz.pinned (OpenSpec.upto searchesSpec)

/-- 'warrantlaw.Yeses', WHERE WHAT IT READS IS OF BULK AT MOST 1048576: true; the input reads as it did. -/
def yesesUptoRow : OpenClaim := { program := "ytlmjilpjmgjjcaagreatdoor", sum := "ccac960409dba4f6cb72408cb2cfc04f49311e3c9c3e30d74feec0bf95666078", func := "warrant/warrantlaw.Yeses", spec := "yeses", recurses := true, named := ["internal/strconv.uint64pow10", "math/bits.deBruijn32tab", "math/bits.deBruijn64tab"], apart := false, laid := [("math/bits.deBruijn32tab", laid_math_bits_deBruijn32tab), ("math/bits.deBruijn64tab", laid_math_bits_deBruijn64tab), ("internal/strconv.uint64pow10", laid_internal_strconv_uint64pow10)], narrowed := true }
def YesesUptoSaid : Prop := yesesUptoRow.holds Tryz.pinned (OpenSpec.upto yesesSpec)

/-- 'warrantlaw.Explains', WHERE WHAT IT READS IS OF BULK AT MOST 1048576: true; the input reads as it did. -/
def explainsUptoRow : OpenClaim := { program := "ytlmjilpjmgjjcaagreatdoor", sum := "ccac960409dba4f6cb72408cb2cfc04f49311e3c9c3e30d74feec0bf95666078", func := "warrant/warrantlaw.Explains", spec := "explains", recurses := true, named := ["internal/strconv.uint64pow10", "math/bits.deBruijn32tab", "math/bits.deBruijn64tab"], apart := false, laid := [("math/bits.deBruijn32tab", laid_math_bits_deBruijn32tab), ("math/bits.deBruijn64tab", laid_math_bits_deBruijn64tab), ("internal/strconv.uint64pow10", laid_internal_strconv_uint64pow10)], narrowed := true }
def ExplainsUptoSaid : Prop := explainsUptoRow.holds Tryz.pinned (OpenSpec.upto explainsSpec)

/-- 'warrantlaw.Alls', WHERE WHAT IT READS IS OF BULK AT MOST 1048576: true; the input reads as it did. -/
def allsUptoRow : OpenClaim := { program := "ytlmjilpjmgjjcaagreatdoor", sum := "ccac960409dba4f6cb72408cb2cfc04f49311e3c9c3e30d74feec0bf95666078", func := "warrant/warrantlaw.Alls", spec := "alls", recurses := true, named := ["internal/strconv.uint64pow10", "math/bits.deBruijn32tab", "math/bits.deBruijn64tab"], apart := false, laid := [("math/bits.deBruijn32tab", laid_math_bits_deBruijn32tab), ("math/bits.deBruijn64tab", laid_math_bits_deBruijn64tab), ("internal/strconv.uint64pow10", laid_internal_strconv_uint64pow10)], narrowed := true }
def AllsUptoSaid : Prop := allsUptoRow.holds Tryz.pinned (OpenSpec.upto allsSpec)

/-- 'warrantlaw.Whole', WHERE WHAT IT READS IS OF BULK AT MOST 1048576: true; the input reads as it did. -/
def wholeUptoRow : OpenClaim := { program := "ytlmjilpjmgjjcaagreatdoor", sum := "ccac960409dba4f6cb72408cb2cfc04f49311e3c9c3e30d74feec0bf95666078", func := "warrant/warrantlaw.Whole", spec := "whole", recurses := true, named := ["internal/strconv.uint64pow10", "math/bits.deBruijn32tab", "math/bits.deBruijn64tab"], apart := false, laid := [("math/bits.deBruijn32tab", laid_math_bits_deBruijn32tab), ("math/bits.deBruijn64tab", laid_math_bits_deBruijn64tab), ("internal/strconv.uint64pow10", laid_internal_strconv_uint64pow10)], narrowed := true }
def WholeUptoSaid : Prop := wholeUptoRow.holds Tryz.pinned (OpenSpec.upto wholeSpec)

/-- 'warrantkeep.Sound', WHERE WHAT IT READS IS OF BULK AT MOST 1048576: true; the input reads as it did. -/
def soundUptoRow : OpenClaim := { program := "ytlmjilpjmgjjcaagreatdoor", sum := "ccac960409dba4f6cb72408cb2cfc04f49311e3c9c3e30d74feec0bf95666078", func := "warrant/warrantkeep.Sound", spec := "sound", recurses := true, named := ["internal/strconv.uint64pow10", "math/bits.deBruijn32tab", "math/bits.deBruijn64tab"], apart := false, laid := [("math/bits.deBruijn32tab", laid_math_bits_deBruijn32tab), ("math/bits.deBruijn64tab", laid_math_bits_deBruijn64tab), ("internal/strconv.uint64pow10", laid_internal_strconv_uint64pow10)], narrowed := true }
def SoundUptoSaid : Prop := soundUptoRow.holds Tryz.pinned (OpenSpec.upto soundSpec)

/-- 'warrantkeep.Complete', WHERE WHAT IT READS IS OF BULK AT MOST 1048576: true; the input reads as it did. -/
def completeUptoRow : OpenClaim := { program := "ytlmjilpjmgjjcaagreatdoor", sum := "ccac960409dba4f6cb72408cb2cfc04f49311e3c9c3e30d74feec0bf95666078", func := "warrant/warrantkeep.Complete", spec := "complete", recurses := true, named := ["internal/strconv.uint64pow10", "math/bits.deBruijn32tab", "math/bits.deBruijn64tab"], apart := false, laid := [("math/bits.deBruijn32tab", laid_math_bits_deBruijn32tab), ("math/bits.deBruijn64tab", laid_math_bits_deBruijn64tab), ("internal/strconv.uint64pow10", laid_internal_strconv_uint64pow10)], narrowed := true }
def CompleteUptoSaid : Prop := completeUptoRow.holds Tryz.pinned (OpenSpec.upto completeSpec)

/-- 'warrantkeep.Warranted', WHERE WHAT IT READS IS OF BULK AT MOST 1048576: true; the input reads as it did. -/
def warrantedUptoRow : OpenClaim := { program := "ytlmjilpjmgjjcaagreatdoor", sum := "ccac960409dba4f6cb72408cb2cfc04f49311e3c9c3e30d74feec0bf95666078", func := "warrant/warrantkeep.Warranted", spec := "warranted", recurses := true, named := ["internal/strconv.uint64pow10", "math/bits.deBruijn32tab", "math/bits.deBruijn64tab"], apart := false, laid := [("math/bits.deBruijn32tab", laid_math_bits_deBruijn32tab), ("math/bits.deBruijn64tab", laid_math_bits_deBruijn64tab), ("internal/strconv.uint64pow10", laid_internal_strconv_uint64pow10)], narrowed := true }
def WarrantedUptoSaid : Prop := warrantedUptoRow.holds Tryz.pinned (OpenSpec.upto warrantedSpec)

end Rows
end Go.Proofs.YtlmjilpjmgjjcaaGreatDoor

/-
  NARROWER THAN 'FOR EVERY INPUT', by the rows' own cells (each row's printed sentence says how): Loads: laid · Ranks: laid · Weighs: laid · Evals: laid · Clashes: laid · All: laid · Spaced: laid.
  DERIVED. THE GIVEN ROWS OF THIS SEAT. 7 by the template 'for every input the law returns true; each argument reads behind the call as it read before'; 0 by the template 'total and deterministic' (their statements: YtnbpdffdnphbeaaGreatDoorTotals.lean).
  GIVEN WITH THE SEED: the statements are not yours to turn. If you find one false, say at which input.
  Laid BY PROGRAM, IN A SANDBOX (cutbox-rows.mjs): the forced cells as the released guide's own fill.sh prints them over the translation 4ca9eea00de8edeb… (all of the seat's roots in one cut). By AI agents, Wed Nov 11 2026. No macro, syntax, notation, axiom, sorry.
-/
import Derived.Test.YtnbpdffdnphbeaaGreatDoorChecked
import GoSem.Claim
import GoSem.ClaimJoined
import GoSem.ClaimMapViews
import Derived.JoinedTies
import Derived.KernelRfl
namespace Go.Proofs.YtnbpdffdnphbeaaGreatDoor
/- THE CELL 'sum', in the pinned program and in every row, IS THE sha256 OF THE DUMP (.gsa) THAT YtnbpdffdnphbeaaGreatDoorProg.lean LOADS. Nothing in Lean hashes anything: it is a label: what it is worth is what the hold of that sum in a sandbox is worth. -/
noncomputable def Tryz.pinned : Pinned := { name := "ytnbpdffdnphbeaagreatdoor", sum := "4ca9eea00de8edeb725aaab702909c73f634327f47e909b789320093f3294287", checked := Tryz.checked }
namespace Rows
def none {H : Type} : Left H := { results := [], args := [] }

/- WHAT THE LISTED PACKAGE-LEVEL VARIABLES READ AS WHEN THE CALL BEGINS. Each datum BY PROGRAM (the guide's laid-datum.mjs) off the statement by which the dump's own 'gosem.cut.vars' lays the variable. In a bare row this is a premise. The card (YtnbpdffdnphbeaaGreatDoorCards.lean) ties it to the program's text. -/
def laid_statute_statuteref_follows {H : Type} : DataW H := .agg [.agg [.lit (.string [108, 105, 110, 101]), .lit (.string [110, 117, 109]), .lit (.string [110, 117, 109])], .agg [.lit (.string [110, 117, 109]), .lit (.string [78, 65, 77, 69]), .lit (.string [102, 114, 111, 109])], .agg [.lit (.string [102, 114, 111, 109]), .lit (.string [78, 85, 77, 66, 69, 82]), .lit (.string [116, 111])], .agg [.lit (.string [116, 111]), .lit (.string [46, 46]), .lit (.string [116, 105, 108, 108])], .agg [.lit (.string [116, 105, 108, 108]), .lit (.string [78, 85, 77, 66, 69, 82]), .lit (.string [101, 110, 100])], .agg [.lit (.string [108, 105, 110, 101]), .lit (.string [102, 108, 97, 103]), .lit (.string [108, 97, 115, 116])], .agg [.lit (.string [108, 97, 115, 116]), .lit (.string [78, 65, 77, 69]), .lit (.string [101, 110, 100])], .agg [.lit (.string [108, 105, 110, 101]), .lit (.string [111, 118, 101, 114]), .lit (.string [111, 118, 101, 114])], .agg [.lit (.string [111, 118, 101, 114]), .lit (.string [78, 65, 77, 69]), .lit (.string [108, 97, 115, 116])], .agg [.lit (.string [101, 110, 100]), .lit (.string [59]), .lit (.string [108, 105, 110, 101])], .agg [.lit (.string [108, 105, 110, 101]), .lit (.string [114, 117, 108, 101]), .lit (.string [114, 117, 108, 101])], .agg [.lit (.string [114, 117, 108, 101]), .lit (.string [78, 65, 77, 69]), .lit (.string [108, 97, 98, 101, 108])], .agg [.lit (.string [108, 97, 98, 101, 108]), .lit (.string [58]), .lit (.string [99, 111, 108, 111, 110])], .agg [.lit (.string [99, 111, 108, 111, 110]), .lit (.string [78, 65, 77, 69]), .lit (.string [104, 101, 97, 100])], .agg [.lit (.string [104, 101, 97, 100]), .lit (.string [61]), .lit (.string [112, 97, 114, 116])], .agg [.lit (.string [112, 97, 114, 116]), .lit (.string [78, 65, 77, 69]), .lit (.string [112, 97, 114, 116, 101, 100])], .agg [.lit (.string [112, 97, 114, 116]), .lit (.string [78, 85, 77, 66, 69, 82]), .lit (.string [99, 111, 117, 110, 116, 101, 100])], .agg [.lit (.string [99, 111, 117, 110, 116, 101, 100]), .lit (.string [42]), .lit (.string [116, 105, 109, 101, 115])], .agg [.lit (.string [99, 111, 117, 110, 116, 101, 100]), .lit (.string [43]), .lit (.string [112, 97, 114, 116])], .agg [.lit (.string [99, 111, 117, 110, 116, 101, 100]), .lit (.string [45]), .lit (.string [112, 97, 114, 116])], .agg [.lit (.string [99, 111, 117, 110, 116, 101, 100]), .lit (.string [119, 104, 101, 110]), .lit (.string [102, 97, 99, 116])], .agg [.lit (.string [116, 105, 109, 101, 115]), .lit (.string [78, 65, 77, 69]), .lit (.string [112, 97, 114, 116, 101, 100])], .agg [.lit (.string [112, 97, 114, 116, 101, 100]), .lit (.string [43]), .lit (.string [112, 97, 114, 116])], .agg [.lit (.string [112, 97, 114, 116, 101, 100]), .lit (.string [45]), .lit (.string [112, 97, 114, 116])], .agg [.lit (.string [112, 97, 114, 116, 101, 100]), .lit (.string [119, 104, 101, 110]), .lit (.string [102, 97, 99, 116])], .agg [.lit (.string [102, 97, 99, 116]), .lit (.string [110, 111, 116]), .lit (.string [102, 97, 99, 116])], .agg [.lit (.string [102, 97, 99, 116]), .lit (.string [40]), .lit (.string [102, 97, 99, 116])], .agg [.lit (.string [102, 97, 99, 116]), .lit (.string [97, 108, 119, 97, 121, 115]), .lit (.string [100, 111, 110, 101])], .agg [.lit (.string [102, 97, 99, 116]), .lit (.string [104, 97, 115]), .lit (.string [104, 97, 115])], .agg [.lit (.string [102, 97, 99, 116]), .lit (.string [78, 65, 77, 69]), .lit (.string [110, 97, 109, 101, 100])], .agg [.lit (.string [104, 97, 115]), .lit (.string [78, 65, 77, 69]), .lit (.string [100, 111, 110, 101])], .agg [.lit (.string [110, 97, 109, 101, 100]), .lit (.string [60]), .lit (.string [116, 104, 97, 110])], .agg [.lit (.string [110, 97, 109, 101, 100]), .lit (.string [60, 61]), .lit (.string [116, 104, 97, 110])], .agg [.lit (.string [110, 97, 109, 101, 100]), .lit (.string [61]), .lit (.string [116, 104, 97, 110])], .agg [.lit (.string [110, 97, 109, 101, 100]), .lit (.string [33, 61]), .lit (.string [116, 104, 97, 110])], .agg [.lit (.string [110, 97, 109, 101, 100]), .lit (.string [62, 61]), .lit (.string [116, 104, 97, 110])], .agg [.lit (.string [110, 97, 109, 101, 100]), .lit (.string [62]), .lit (.string [116, 104, 97, 110])], .agg [.lit (.string [116, 104, 97, 110]), .lit (.string [78, 65, 77, 69]), .lit (.string [100, 111, 110, 101])], .agg [.lit (.string [116, 104, 97, 110]), .lit (.string [78, 85, 77, 66, 69, 82]), .lit (.string [100, 111, 110, 101])], .agg [.lit (.string [100, 111, 110, 101]), .lit (.string [111, 114]), .lit (.string [102, 97, 99, 116])], .agg [.lit (.string [100, 111, 110, 101]), .lit (.string [97, 110, 100]), .lit (.string [102, 97, 99, 116])], .agg [.lit (.string [100, 111, 110, 101]), .lit (.string [41]), .lit (.string [100, 111, 110, 101])], .agg [.lit (.string [100, 111, 110, 101]), .lit (.string [59]), .lit (.string [108, 105, 110, 101])]]
def laid_math_bits_deBruijn32tab {H : Type} : DataW H := .agg [.lit (.int .u8 0), .lit (.int .u8 1), .lit (.int .u8 28), .lit (.int .u8 2), .lit (.int .u8 29), .lit (.int .u8 14), .lit (.int .u8 24), .lit (.int .u8 3), .lit (.int .u8 30), .lit (.int .u8 22), .lit (.int .u8 20), .lit (.int .u8 15), .lit (.int .u8 25), .lit (.int .u8 17), .lit (.int .u8 4), .lit (.int .u8 8), .lit (.int .u8 31), .lit (.int .u8 27), .lit (.int .u8 13), .lit (.int .u8 23), .lit (.int .u8 21), .lit (.int .u8 19), .lit (.int .u8 16), .lit (.int .u8 7), .lit (.int .u8 26), .lit (.int .u8 12), .lit (.int .u8 18), .lit (.int .u8 6), .lit (.int .u8 11), .lit (.int .u8 5), .lit (.int .u8 10), .lit (.int .u8 9)]
def laid_math_bits_deBruijn64tab {H : Type} : DataW H := .agg [.lit (.int .u8 0), .lit (.int .u8 1), .lit (.int .u8 56), .lit (.int .u8 2), .lit (.int .u8 57), .lit (.int .u8 49), .lit (.int .u8 28), .lit (.int .u8 3), .lit (.int .u8 61), .lit (.int .u8 58), .lit (.int .u8 42), .lit (.int .u8 50), .lit (.int .u8 38), .lit (.int .u8 29), .lit (.int .u8 17), .lit (.int .u8 4), .lit (.int .u8 62), .lit (.int .u8 47), .lit (.int .u8 59), .lit (.int .u8 36), .lit (.int .u8 45), .lit (.int .u8 43), .lit (.int .u8 51), .lit (.int .u8 22), .lit (.int .u8 53), .lit (.int .u8 39), .lit (.int .u8 33), .lit (.int .u8 30), .lit (.int .u8 24), .lit (.int .u8 18), .lit (.int .u8 12), .lit (.int .u8 5), .lit (.int .u8 63), .lit (.int .u8 55), .lit (.int .u8 48), .lit (.int .u8 27), .lit (.int .u8 60), .lit (.int .u8 41), .lit (.int .u8 37), .lit (.int .u8 16), .lit (.int .u8 46), .lit (.int .u8 35), .lit (.int .u8 44), .lit (.int .u8 21), .lit (.int .u8 52), .lit (.int .u8 32), .lit (.int .u8 23), .lit (.int .u8 11), .lit (.int .u8 54), .lit (.int .u8 26), .lit (.int .u8 40), .lit (.int .u8 15), .lit (.int .u8 34), .lit (.int .u8 20), .lit (.int .u8 31), .lit (.int .u8 10), .lit (.int .u8 25), .lit (.int .u8 14), .lit (.int .u8 19), .lit (.int .u8 9), .lit (.int .u8 13), .lit (.int .u8 8), .lit (.int .u8 7), .lit (.int .u8 6)]
def laid_internal_strconv_uint64pow10 {H : Type} : DataW H := .agg [.lit (.int .u64 1), .lit (.int .u64 10), .lit (.int .u64 100), .lit (.int .u64 1000), .lit (.int .u64 10000), .lit (.int .u64 100000), .lit (.int .u64 1000000), .lit (.int .u64 10000000), .lit (.int .u64 100000000), .lit (.int .u64 1000000000), .lit (.int .u64 10000000000), .lit (.int .u64 100000000000), .lit (.int .u64 1000000000000), .lit (.int .u64 10000000000000), .lit (.int .u64 100000000000000), .lit (.int .u64 1000000000000000), .lit (.int .u64 10000000000000000), .lit (.int .u64 100000000000000000), .lit (.int .u64 1000000000000000000), .lit (.int .u64 10000000000000000000)]

/-- 'statutelaw.Loads': WHATEVER THE INPUT: true; the input reads as it did. -/
def loadsSpec : ChangeSpec := { name := "loads", fn := fun _ => fun
  | [d1, d2] => { results := [.lit (.bool true)], args := [d1, d2] }
  | _ => none }
def loadsRow : OpenClaim := { program := "ytnbpdffdnphbeaagreatdoor", sum := "4ca9eea00de8edeb725aaab702909c73f634327f47e909b789320093f3294287", func := "statute/statutelaw.Loads", spec := "loads", recurses := true, named := ["statute/statuteref.follows"], apart := false, laid := [("statute/statuteref.follows", laid_statute_statuteref_follows)] }
def LoadsSaid : Prop := loadsRow.holds Tryz.pinned (OpenSpec.ofChange loadsSpec)

/-- ITS FALSE NEIGHBOUR: 'it returns false'. Refute it at one input. -/
def loadsWrong : ChangeSpec := { name := "loads", fn := fun _ => fun
  | [d1, d2] => { results := [.lit (.bool false)], args := [d1, d2] }
  | _ => none }
def LoadsWrongFalsely : Prop := loadsRow.holds Tryz.pinned (OpenSpec.ofChange loadsWrong)

/-- 'statutelaw.Ranks': WHATEVER THE INPUT: true; the input reads as it did. -/
def ranksSpec : ChangeSpec := { name := "ranks", fn := fun _ => fun
  | [d] => { results := [.lit (.bool true)], args := [d] }
  | _ => none }
def ranksRow : OpenClaim := { program := "ytnbpdffdnphbeaagreatdoor", sum := "4ca9eea00de8edeb725aaab702909c73f634327f47e909b789320093f3294287", func := "statute/statutelaw.Ranks", spec := "ranks", recurses := true, named := ["statute/statuteref.follows"], apart := false, laid := [("statute/statuteref.follows", laid_statute_statuteref_follows)] }
def RanksSaid : Prop := ranksRow.holds Tryz.pinned (OpenSpec.ofChange ranksSpec)

/-- ITS FALSE NEIGHBOUR: 'it returns false'. Refute it at one input. -/
def ranksWrong : ChangeSpec := { name := "ranks", fn := fun _ => fun
  | [d] => { results := [.lit (.bool false)], args := [d] }
  | _ => none }
def RanksWrongFalsely : Prop := ranksRow.holds Tryz.pinned (OpenSpec.ofChange ranksWrong)

/-- 'statutelaw.Weighs': WHATEVER THE INPUT: true; the input reads as it did. -/
def weighsSpec : ChangeSpec := { name := "weighs", fn := fun _ => fun
  | [d1, d2] => { results := [.lit (.bool true)], args := [d1, d2] }
  | _ => none }
def weighsRow : OpenClaim := { program := "ytnbpdffdnphbeaagreatdoor", sum := "4ca9eea00de8edeb725aaab702909c73f634327f47e909b789320093f3294287", func := "statute/statutelaw.Weighs", spec := "weighs", recurses := true, named := ["statute/statuteref.follows"], apart := false, laid := [("statute/statuteref.follows", laid_statute_statuteref_follows)] }
def WeighsSaid : Prop := weighsRow.holds Tryz.pinned (OpenSpec.ofChange weighsSpec)

/-- ITS FALSE NEIGHBOUR: 'it returns false'. Refute it at one input. -/
def weighsWrong : ChangeSpec := { name := "weighs", fn := fun _ => fun
  | [d1, d2] => { results := [.lit (.bool false)], args := [d1, d2] }
  | _ => none }
def WeighsWrongFalsely : Prop := weighsRow.holds Tryz.pinned (OpenSpec.ofChange weighsWrong)

/-- 'statutelaw.Evals': WHATEVER THE INPUT: true; the input reads as it did. -/
def evalsSpec : ChangeSpec := { name := "evals", fn := fun _ => fun
  | [d1, d2] => { results := [.lit (.bool true)], args := [d1, d2] }
  | _ => none }
def evalsRow : OpenClaim := { program := "ytnbpdffdnphbeaagreatdoor", sum := "4ca9eea00de8edeb725aaab702909c73f634327f47e909b789320093f3294287", func := "statute/statutelaw.Evals", spec := "evals", recurses := true, named := ["statute/statuteref.follows"], apart := false, laid := [("statute/statuteref.follows", laid_statute_statuteref_follows)] }
def EvalsSaid : Prop := evalsRow.holds Tryz.pinned (OpenSpec.ofChange evalsSpec)

/-- ITS FALSE NEIGHBOUR: 'it returns false'. Refute it at one input. -/
def evalsWrong : ChangeSpec := { name := "evals", fn := fun _ => fun
  | [d1, d2] => { results := [.lit (.bool false)], args := [d1, d2] }
  | _ => none }
def EvalsWrongFalsely : Prop := evalsRow.holds Tryz.pinned (OpenSpec.ofChange evalsWrong)

/-- 'statutelaw.Clashes': WHATEVER THE INPUT: true; the input reads as it did. -/
def clashesSpec : ChangeSpec := { name := "clashes", fn := fun _ => fun
  | [d] => { results := [.lit (.bool true)], args := [d] }
  | _ => none }
def clashesRow : OpenClaim := { program := "ytnbpdffdnphbeaagreatdoor", sum := "4ca9eea00de8edeb725aaab702909c73f634327f47e909b789320093f3294287", func := "statute/statutelaw.Clashes", spec := "clashes", recurses := true, named := ["statute/statuteref.follows"], apart := false, laid := [("statute/statuteref.follows", laid_statute_statuteref_follows)] }
def ClashesSaid : Prop := clashesRow.holds Tryz.pinned (OpenSpec.ofChange clashesSpec)

/-- ITS FALSE NEIGHBOUR: 'it returns false'. Refute it at one input. -/
def clashesWrong : ChangeSpec := { name := "clashes", fn := fun _ => fun
  | [d] => { results := [.lit (.bool false)], args := [d] }
  | _ => none }
def ClashesWrongFalsely : Prop := clashesRow.holds Tryz.pinned (OpenSpec.ofChange clashesWrong)

/-- 'statutelaw.All': WHATEVER THE INPUT: true; the input reads as it did. -/
def allSpec : ChangeSpec := { name := "all", fn := fun _ => fun
  | [d] => { results := [.lit (.bool true)], args := [d] }
  | _ => none }
def allRow : OpenClaim := { program := "ytnbpdffdnphbeaagreatdoor", sum := "4ca9eea00de8edeb725aaab702909c73f634327f47e909b789320093f3294287", func := "statute/statutelaw.All", spec := "all", recurses := true, named := ["statute/statuteref.follows", "internal/strconv.uint64pow10", "math/bits.deBruijn32tab", "math/bits.deBruijn64tab"], apart := false, laid := [("math/bits.deBruijn32tab", laid_math_bits_deBruijn32tab), ("math/bits.deBruijn64tab", laid_math_bits_deBruijn64tab), ("internal/strconv.uint64pow10", laid_internal_strconv_uint64pow10), ("statute/statuteref.follows", laid_statute_statuteref_follows)] }
def AllSaid : Prop := allRow.holds Tryz.pinned (OpenSpec.ofChange allSpec)

/-- ITS FALSE NEIGHBOUR: 'it returns false'. Refute it at one input. -/
def allWrong : ChangeSpec := { name := "all", fn := fun _ => fun
  | [d] => { results := [.lit (.bool false)], args := [d] }
  | _ => none }
def AllWrongFalsely : Prop := allRow.holds Tryz.pinned (OpenSpec.ofChange allWrong)

/-- 'statutekeep.Spaced': WHATEVER THE INPUT: true; the input reads as it did. -/
def spacedSpec : ChangeSpec := { name := "spaced", fn := fun _ => fun
  | [d1, d2] => { results := [.lit (.bool true)], args := [d1, d2] }
  | _ => none }
def spacedRow : OpenClaim := { program := "ytnbpdffdnphbeaagreatdoor", sum := "4ca9eea00de8edeb725aaab702909c73f634327f47e909b789320093f3294287", func := "statute/statutekeep.Spaced", spec := "spaced", recurses := true, named := ["internal/strconv.uint64pow10", "math/bits.deBruijn32tab", "math/bits.deBruijn64tab"], apart := false, laid := [("math/bits.deBruijn32tab", laid_math_bits_deBruijn32tab), ("math/bits.deBruijn64tab", laid_math_bits_deBruijn64tab), ("internal/strconv.uint64pow10", laid_internal_strconv_uint64pow10)] }
def SpacedSaid : Prop := spacedRow.holds Tryz.pinned (OpenSpec.ofChange spacedSpec)

/-- ITS FALSE NEIGHBOUR: 'it returns false'. Refute it at one input. -/
def spacedWrong : ChangeSpec := { name := "spaced", fn := fun _ => fun
  | [d1, d2] => { results := [.lit (.bool false)], args := [d1, d2] }
  | _ => none }
def SpacedWrongFalsely : Prop := spacedRow.holds Tryz.pinned (OpenSpec.ofChange spacedWrong)

/- THE SECOND FORM. 'bulk': how many values and letters a reading holds, each counted each time it is reached (what is shared counts as often as it is met; a slice's spare places count too). A statement '..UptoSaid' is the law's where the arguments, and the package variables that the reading takes, are together of bulk at most 1048576: NARROWER than '..Said'. Prove '..Said' where nothing that the law and all that it calls make is longer than what came in: it says more and counts as full. Else prove '..UptoSaid'. A law counts once. -/
mutual
def uptoBulk {H : Type} : DataW H → Nat
  | .lit (.string bytes) => bytes.length + 1
  | .lit _ => 1
  | .nil => 1
  | .ptr d => uptoBulk d + 1
  | .slice elems spare => uptoBulkAll elems + uptoBulkAll spare + 1
  | .agg parts => uptoBulkAll parts + 1
  | .iface _ d => uptoBulk d + 1
  | .map entries => uptoBulkEntries entries + 1
  | .held _ => 1
def uptoBulkAll {H : Type} : List (DataW H) → Nat
  | [] => 0
  | d :: r => uptoBulk d + uptoBulkAll r
def uptoBulkEntries {H : Type} : List (Lit × DataW H) → Nat
  | [] => 0
  | x :: r => uptoBulkEntry x + uptoBulkEntries r
def uptoBulkEntry {H : Type} : Lit × DataW H → Nat
  | (.string bytes, d) => bytes.length + uptoBulk d + 1
  | (_, d) => uptoBulk d + 1
 end
def uptoSmall : (H : Type) → List (DataW H) → Bool := fun _ ds => decide (uptoBulkAll ds ≤ 1048576)
def OpenSpec.upto (s : _root_.Go.ChangeSpec) : _root_.Go.OpenSpec := { _root_.Go.OpenSpec.ofChange s with cond := some uptoSmall }

/-- 'statutelaw.Loads', WHERE WHAT IT READS IS OF BULK AT MOST 1048576: true; the input reads as it did. -/
def loadsUptoRow : OpenClaim := { program := "ytnbpdffdnphbeaagreatdoor", sum := "4ca9eea00de8edeb725aaab702909c73f634327f47e909b789320093f3294287", func := "statute/statutelaw.Loads", spec := "loads", recurses := true, named := ["statute/statuteref.follows"], apart := false, laid := [("statute/statuteref.follows", laid_statute_statuteref_follows)], narrowed := true }
def LoadsUptoSaid : Prop := loadsUptoRow.holds Tryz.pinned (OpenSpec.upto loadsSpec)

/-- 'statutelaw.Ranks', WHERE WHAT IT READS IS OF BULK AT MOST 1048576: true; the input reads as it did. -/
def ranksUptoRow : OpenClaim := { program := "ytnbpdffdnphbeaagreatdoor", sum := "4ca9eea00de8edeb725aaab702909c73f634327f47e909b789320093f3294287", func := "statute/statutelaw.Ranks", spec := "ranks", recurses := true, named := ["statute/statuteref.follows"], apart := false, laid := [("statute/statuteref.follows", laid_statute_statuteref_follows)], narrowed := true }
def RanksUptoSaid : Prop := ranksUptoRow.holds Tryz.pinned (OpenSpec.upto ranksSpec)

/-- 'statutelaw.Weighs', WHERE WHAT IT READS IS OF BULK AT MOST 1048576: true; the input reads as it did. -/
def weighsUptoRow : OpenClaim := { program := "ytnbpdffdnphbeaagreatdoor", sum := "4ca9eea00de8edeb725aaab702909c73f634327f47e909b789320093f3294287", func := "statute/statutelaw.Weighs", spec := "weighs", recurses := true, named := ["statute/statuteref.follows"], apart := false, laid := [("statute/statuteref.follows", laid_statute_statuteref_follows)], narrowed := true }
def WeighsUptoSaid : Prop := weighsUptoRow.holds Tryz.pinned (OpenSpec.upto weighsSpec)

/-- 'statutelaw.Evals', WHERE WHAT IT READS IS OF BULK AT MOST 1048576: true; the input reads as it did. -/
def evalsUptoRow : OpenClaim := { program := "ytnbpdffdnphbeaagreatdoor", sum := "4ca9eea00de8edeb725aaab702909c73f634327f47e909b789320093f3294287", func := "statute/statutelaw.Evals", spec := "evals", recurses := true, named := ["statute/statuteref.follows"], apart := false, laid := [("statute/statuteref.follows", laid_statute_statuteref_follows)], narrowed := true }
def EvalsUptoSaid : Prop := evalsUptoRow.holds Tryz.pinned (OpenSpec.upto evalsSpec)

/-- 'statutelaw.Clashes', WHERE WHAT IT READS IS OF BULK AT MOST 1048576: true; the input reads as it did. -/
def clashesUptoRow : OpenClaim := { program := "ytnbpdffdnphbeaagreatdoor", sum := "4ca9eea00de8edeb725aaab702909c73f634327f47e909b789320093f3294287", func := "statute/statutelaw.Clashes", spec := "clashes", recurses := true, named := ["statute/statuteref.follows"], apart := false, laid := [("statute/statuteref.follows", laid_statute_statuteref_follows)], narrowed := true }
def ClashesUptoSaid : Prop := clashesUptoRow.holds Tryz.pinned (OpenSpec.upto clashesSpec)

/-- 'statutelaw.All', WHERE WHAT IT READS IS OF BULK AT MOST 1048576: true; the input reads as it did. -/
def allUptoRow : OpenClaim := { program := "ytnbpdffdnphbeaagreatdoor", sum := "4ca9eea00de8edeb725aaab702909c73f634327f47e909b789320093f3294287", func := "statute/statutelaw.All", spec := "all", recurses := true, named := ["statute/statuteref.follows", "internal/strconv.uint64pow10", "math/bits.deBruijn32tab", "math/bits.deBruijn64tab"], apart := false, laid := [("math/bits.deBruijn32tab", laid_math_bits_deBruijn32tab), ("math/bits.deBruijn64tab", laid_math_bits_deBruijn64tab), ("internal/strconv.uint64pow10", laid_internal_strconv_uint64pow10), ("statute/statuteref.follows", laid_statute_statuteref_follows)], narrowed := true }
def AllUptoSaid : Prop := allUptoRow.holds Tryz.pinned (OpenSpec.upto allSpec)

/-- 'statutekeep.Spaced', WHERE WHAT IT READS IS OF BULK AT MOST 1048576: true; the input reads as it did. -/
def spacedUptoRow : OpenClaim := { program := "ytnbpdffdnphbeaagreatdoor", sum := "4ca9eea00de8edeb725aaab702909c73f634327f47e909b789320093f3294287", func := "statute/statutekeep.Spaced", spec := "spaced", recurses := true, named := ["internal/strconv.uint64pow10", "math/bits.deBruijn32tab", "math/bits.deBruijn64tab"], apart := false, laid := [("math/bits.deBruijn32tab", laid_math_bits_deBruijn32tab), ("math/bits.deBruijn64tab", laid_math_bits_deBruijn64tab), ("internal/strconv.uint64pow10", laid_internal_strconv_uint64pow10)], narrowed := true }
def SpacedUptoSaid : Prop := spacedUptoRow.holds Tryz.pinned (OpenSpec.upto spacedSpec)

end Rows
end Go.Proofs.YtnbpdffdnphbeaaGreatDoor

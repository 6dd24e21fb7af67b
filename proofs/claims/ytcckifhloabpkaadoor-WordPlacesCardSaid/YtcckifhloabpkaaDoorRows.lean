/-
  NARROWER THAN 'FOR EVERY INPUT', by the rows' own cells (each row's printed sentence says how): WordLexes: laid · WordBack: laid · WordPlaces: laid · WordJoins: laid · WordLong: laid.
  DERIVED. THE GIVEN ROWS OF THIS SEAT. 5 by the template 'for every input the law returns true; each argument reads behind the call as it read before'; 0 by the template 'total and deterministic' (their statements: YtcckifhloabpkaaDoorTotals.lean).
  GIVEN WITH THE SEED: the statements are not yours to turn. If you find one false, say at which input.
  Laid BY PROGRAM, IN A SANDBOX (cutbox-rows.mjs): the forced cells as the released guide's own fill.sh prints them over the translation a7ca74f07874c931… (all of the seat's roots in one cut). By AI agents, Wed Nov 11 2026. No macro, syntax, notation, axiom, sorry.
-/
import Derived.Test.YtcckifhloabpkaaDoorChecked
import GoSem.Claim
import GoSem.ClaimJoined
import GoSem.ClaimMapViews
import Derived.JoinedTies
import Derived.KernelRfl
namespace Go.Proofs.YtcckifhloabpkaaDoor
/- THE CELL 'sum', in the pinned program and in every row, IS THE sha256 OF THE DUMP (.gsa) THAT YtcckifhloabpkaaDoorProg.lean LOADS. Nothing in Lean hashes anything: it is a label: what it is worth is what the hold of that sum in a sandbox is worth. -/
noncomputable def Tryd.pinned : Pinned := { name := "ytcckifhloabpkaadoor", sum := "a7ca74f07874c93193b2f2b8905826d1047ff9b3518ca4d6103d629f8f5711b2", checked := Tryd.checked }
namespace Rows
def none {H : Type} : Left H := { results := [], args := [] }

/- WHAT THE LISTED PACKAGE-LEVEL VARIABLES READ AS WHEN THE CALL BEGINS. Each datum BY PROGRAM (the guide's laid-datum.mjs) off the statement by which the dump's own 'gosem.cut.vars' lays the variable. In a bare row this is a premise. The card (YtcckifhloabpkaaDoorCards.lean) ties it to the program's text. -/
def laid_debenture_word_longest {H : Type} : DataW H := .agg [.lit (.int .i64 20), .lit (.int .i64 100), .lit (.int .i64 1)]

/-- 'debenturelaw09.WordLexes': WHATEVER THE INPUT: true; the input reads as it did. -/
def wordLexesSpec : ChangeSpec := { name := "wordLexes", fn := fun _ => fun
  | [d1, d2] => { results := [.lit (.bool true)], args := [d1, d2] }
  | _ => none }
def wordLexesRow : OpenClaim := { program := "ytcckifhloabpkaadoor", sum := "a7ca74f07874c93193b2f2b8905826d1047ff9b3518ca4d6103d629f8f5711b2", func := "debenture/debenturelaw09.WordLexes", spec := "wordLexes", inPlace := ["internal/bytealg.IndexByteString", "internal/abi.NoEscape", "internal/bytealg.MakeNoZero"], unfollowed := true, recurses := true, named := ["debenture/word.longest"], apart := false, laid := [("debenture/word.longest", laid_debenture_word_longest)] }
def WordLexesSaid : Prop := wordLexesRow.holds Tryd.pinned (OpenSpec.ofChange wordLexesSpec)

/-- ITS FALSE NEIGHBOUR: 'it returns false'. Refute it at one input. -/
def wordLexesWrong : ChangeSpec := { name := "wordLexes", fn := fun _ => fun
  | [d1, d2] => { results := [.lit (.bool false)], args := [d1, d2] }
  | _ => none }
def WordLexesWrongFalsely : Prop := wordLexesRow.holds Tryd.pinned (OpenSpec.ofChange wordLexesWrong)

/-- 'debenturelaw09.WordBack': WHATEVER THE INPUT: true; the input reads as it did. -/
def wordBackSpec : ChangeSpec := { name := "wordBack", fn := fun _ => fun
  | [d] => { results := [.lit (.bool true)], args := [d] }
  | _ => none }
def wordBackRow : OpenClaim := { program := "ytcckifhloabpkaadoor", sum := "a7ca74f07874c93193b2f2b8905826d1047ff9b3518ca4d6103d629f8f5711b2", func := "debenture/debenturelaw09.WordBack", spec := "wordBack", inPlace := ["internal/bytealg.IndexByteString", "internal/abi.NoEscape", "internal/bytealg.MakeNoZero"], unfollowed := true, recurses := true, named := ["debenture/word.longest"], apart := false, laid := [("debenture/word.longest", laid_debenture_word_longest)] }
def WordBackSaid : Prop := wordBackRow.holds Tryd.pinned (OpenSpec.ofChange wordBackSpec)

/-- ITS FALSE NEIGHBOUR: 'it returns false'. Refute it at one input. -/
def wordBackWrong : ChangeSpec := { name := "wordBack", fn := fun _ => fun
  | [d] => { results := [.lit (.bool false)], args := [d] }
  | _ => none }
def WordBackWrongFalsely : Prop := wordBackRow.holds Tryd.pinned (OpenSpec.ofChange wordBackWrong)

/-- 'debenturelaw09.WordPlaces': WHATEVER THE INPUT: true; the input reads as it did. -/
def wordPlacesSpec : ChangeSpec := { name := "wordPlaces", fn := fun _ => fun
  | [d1, d2, d3] => { results := [.lit (.bool true)], args := [d1, d2, d3] }
  | _ => none }
def wordPlacesRow : OpenClaim := { program := "ytcckifhloabpkaadoor", sum := "a7ca74f07874c93193b2f2b8905826d1047ff9b3518ca4d6103d629f8f5711b2", func := "debenture/debenturelaw09.WordPlaces", spec := "wordPlaces", inPlace := ["internal/bytealg.IndexByteString", "internal/abi.NoEscape", "internal/bytealg.MakeNoZero"], unfollowed := true, recurses := true, named := ["debenture/word.longest"], apart := false, laid := [("debenture/word.longest", laid_debenture_word_longest)] }
def WordPlacesSaid : Prop := wordPlacesRow.holds Tryd.pinned (OpenSpec.ofChange wordPlacesSpec)

/-- ITS FALSE NEIGHBOUR: 'it returns false'. Refute it at one input. -/
def wordPlacesWrong : ChangeSpec := { name := "wordPlaces", fn := fun _ => fun
  | [d1, d2, d3] => { results := [.lit (.bool false)], args := [d1, d2, d3] }
  | _ => none }
def WordPlacesWrongFalsely : Prop := wordPlacesRow.holds Tryd.pinned (OpenSpec.ofChange wordPlacesWrong)

/-- 'debenturelaw09.WordJoins': WHATEVER THE INPUT: true; the input reads as it did. -/
def wordJoinsSpec : ChangeSpec := { name := "wordJoins", fn := fun _ => fun
  | [d1, d2] => { results := [.lit (.bool true)], args := [d1, d2] }
  | _ => none }
def wordJoinsRow : OpenClaim := { program := "ytcckifhloabpkaadoor", sum := "a7ca74f07874c93193b2f2b8905826d1047ff9b3518ca4d6103d629f8f5711b2", func := "debenture/debenturelaw09.WordJoins", spec := "wordJoins", inPlace := ["internal/bytealg.IndexByteString", "internal/abi.NoEscape", "internal/bytealg.MakeNoZero"], unfollowed := true, recurses := true, named := ["debenture/word.longest"], apart := false, laid := [("debenture/word.longest", laid_debenture_word_longest)] }
def WordJoinsSaid : Prop := wordJoinsRow.holds Tryd.pinned (OpenSpec.ofChange wordJoinsSpec)

/-- ITS FALSE NEIGHBOUR: 'it returns false'. Refute it at one input. -/
def wordJoinsWrong : ChangeSpec := { name := "wordJoins", fn := fun _ => fun
  | [d1, d2] => { results := [.lit (.bool false)], args := [d1, d2] }
  | _ => none }
def WordJoinsWrongFalsely : Prop := wordJoinsRow.holds Tryd.pinned (OpenSpec.ofChange wordJoinsWrong)

/-- 'debenturelaw09.WordLong': WHATEVER THE INPUT: true; the input reads as it did. -/
def wordLongSpec : ChangeSpec := { name := "wordLong", fn := fun _ => fun
  | [d] => { results := [.lit (.bool true)], args := [d] }
  | _ => none }
def wordLongRow : OpenClaim := { program := "ytcckifhloabpkaadoor", sum := "a7ca74f07874c93193b2f2b8905826d1047ff9b3518ca4d6103d629f8f5711b2", func := "debenture/debenturelaw09.WordLong", spec := "wordLong", inPlace := ["internal/bytealg.IndexByteString", "internal/abi.NoEscape", "internal/bytealg.MakeNoZero"], unfollowed := true, recurses := true, named := ["debenture/word.longest"], apart := false, laid := [("debenture/word.longest", laid_debenture_word_longest)] }
def WordLongSaid : Prop := wordLongRow.holds Tryd.pinned (OpenSpec.ofChange wordLongSpec)

/-- ITS FALSE NEIGHBOUR: 'it returns false'. Refute it at one input. -/
def wordLongWrong : ChangeSpec := { name := "wordLong", fn := fun _ => fun
  | [d] => { results := [.lit (.bool false)], args := [d] }
  | _ => none }
def WordLongWrongFalsely : Prop := wordLongRow.holds Tryd.pinned (OpenSpec.ofChange wordLongWrong)

/- THE SECOND FORM. 'bulk': how many values and letters a reading holds, each counted each time it is reached (what is shared counts as often as it is met; a slice's spare places count too). A statement '..UptoSaid' is the law's where the arguments, and the package variables that the reading takes, are together of bulk at most 1048576: NARROWER than '..Said'. Prove '..Said' where nothing that the law and all that it calls make is longer than what came in: it says more and counts as full. Else prove '..UptoSaid'. A law counts once. -/
mutual
def uptoBulk {H : Type} : DataW H → Nat
  | .lit (.string bytes) => bytes.length + 1
  | .lit _ => 1
  | .nil => 1
  | .ptr d => uptoBulk d + 1
  | .slice elems spare => uptoBulkAll elems + uptoBulkAll spare + 1
  | .agg parts => uptoBulkAll parts + 1
  | .iface _ d => uptoBulk d + 1
  | .map entries => uptoBulkEntries entries + 1
  | .held _ => 1
def uptoBulkAll {H : Type} : List (DataW H) → Nat
  | [] => 0
  | d :: r => uptoBulk d + uptoBulkAll r
def uptoBulkEntries {H : Type} : List (Lit × DataW H) → Nat
  | [] => 0
  | x :: r => uptoBulkEntry x + uptoBulkEntries r
def uptoBulkEntry {H : Type} : Lit × DataW H → Nat
  | (.string bytes, d) => bytes.length + uptoBulk d + 1
  | (_, d) => uptoBulk d + 1
 end
def uptoSmall : (H : Type) → List (DataW H) → Bool := fun _ ds => decide (uptoBulkAll ds ≤ 1048576)
def OpenSpec.upto (s : _root_.Go.ChangeSpec) : _root_.Go.OpenSpec := { _root_.Go.OpenSpec.ofChange s with cond := some uptoSmall }

/-- 'debenturelaw09.WordLexes', WHERE WHAT IT READS IS OF BULK AT MOST 1048576: true; the input reads as it did. -/
def wordLexesUptoRow : OpenClaim := { program := "ytcckifhloabpkaadoor", sum := "a7ca74f07874c93193b2f2b8905826d1047ff9b3518ca4d6103d629f8f5711b2", func := "debenture/debenturelaw09.WordLexes", spec := "wordLexes", inPlace := ["internal/bytealg.IndexByteString", "internal/abi.NoEscape", "internal/bytealg.MakeNoZero"], unfollowed := true, recurses := true, named := ["debenture/word.longest"], apart := false, laid := [("debenture/word.longest", laid_debenture_word_longest)], narrowed := true }
def WordLexesUptoSaid : Prop := wordLexesUptoRow.holds Tryd.pinned (OpenSpec.upto wordLexesSpec)

/-- 'debenturelaw09.WordBack', WHERE WHAT IT READS IS OF BULK AT MOST 1048576: true; the input reads as it did. -/
def wordBackUptoRow : OpenClaim := { program := "ytcckifhloabpkaadoor", sum := "a7ca74f07874c93193b2f2b8905826d1047ff9b3518ca4d6103d629f8f5711b2", func := "debenture/debenturelaw09.WordBack", spec := "wordBack", inPlace := ["internal/bytealg.IndexByteString", "internal/abi.NoEscape", "internal/bytealg.MakeNoZero"], unfollowed := true, recurses := true, named := ["debenture/word.longest"], apart := false, laid := [("debenture/word.longest", laid_debenture_word_longest)], narrowed := true }
def WordBackUptoSaid : Prop := wordBackUptoRow.holds Tryd.pinned (OpenSpec.upto wordBackSpec)

/-- 'debenturelaw09.WordPlaces', WHERE WHAT IT READS IS OF BULK AT MOST 1048576: true; the input reads as it did. -/
def wordPlacesUptoRow : OpenClaim := { program := "ytcckifhloabpkaadoor", sum := "a7ca74f07874c93193b2f2b8905826d1047ff9b3518ca4d6103d629f8f5711b2", func := "debenture/debenturelaw09.WordPlaces", spec := "wordPlaces", inPlace := ["internal/bytealg.IndexByteString", "internal/abi.NoEscape", "internal/bytealg.MakeNoZero"], unfollowed := true, recurses := true, named := ["debenture/word.longest"], apart := false, laid := [("debenture/word.longest", laid_debenture_word_longest)], narrowed := true }
def WordPlacesUptoSaid : Prop := wordPlacesUptoRow.holds Tryd.pinned (OpenSpec.upto wordPlacesSpec)

/-- 'debenturelaw09.WordJoins', WHERE WHAT IT READS IS OF BULK AT MOST 1048576: true; the input reads as it did. -/
def wordJoinsUptoRow : OpenClaim := { program := "ytcckifhloabpkaadoor", sum := "a7ca74f07874c93193b2f2b8905826d1047ff9b3518ca4d6103d629f8f5711b2", func := "debenture/debenturelaw09.WordJoins", spec := "wordJoins", inPlace := ["internal/bytealg.IndexByteString", "internal/abi.NoEscape", "internal/bytealg.MakeNoZero"], unfollowed := true, recurses := true, named := ["debenture/word.longest"], apart := false, laid := [("debenture/word.longest", laid_debenture_word_longest)], narrowed := true }
def WordJoinsUptoSaid : Prop := wordJoinsUptoRow.holds Tryd.pinned (OpenSpec.upto wordJoinsSpec)

/-- 'debenturelaw09.WordLong', WHERE WHAT IT READS IS OF BULK AT MOST 1048576: true; the input reads as it did. -/
def wordLongUptoRow : OpenClaim := { program := "ytcckifhloabpkaadoor", sum := "a7ca74f07874c93193b2f2b8905826d1047ff9b3518ca4d6103d629f8f5711b2", func := "debenture/debenturelaw09.WordLong", spec := "wordLong", inPlace := ["internal/bytealg.IndexByteString", "internal/abi.NoEscape", "internal/bytealg.MakeNoZero"], unfollowed := true, recurses := true, named := ["debenture/word.longest"], apart := false, laid := [("debenture/word.longest", laid_debenture_word_longest)], narrowed := true }
def WordLongUptoSaid : Prop := wordLongUptoRow.holds Tryd.pinned (OpenSpec.upto wordLongSpec)

end Rows
end Go.Proofs.YtcckifhloabpkaaDoor

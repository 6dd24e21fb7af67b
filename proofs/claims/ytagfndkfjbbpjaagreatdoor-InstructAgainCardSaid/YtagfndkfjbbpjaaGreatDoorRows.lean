/-
  NARROWER THAN 'FOR EVERY INPUT', by the rows' own cells (each row's printed sentence says how): InstructTells: laid · InstructWhole: laid · InstructAgain: laid · InstructLines: laid · InstructDays: laid.
  DERIVED. THE GIVEN ROWS OF THIS SEAT. 5 by the template 'for every input the law returns true; each argument reads behind the call as it read before'; 0 by the template 'total and deterministic' (their statements: YtagfndkfjbbpjaaGreatDoorTotals.lean).
  GIVEN WITH THE SEED: the statements are not yours to turn. If you find one false, say at which input.
  Laid BY PROGRAM, IN A SANDBOX (cutbox-rows.mjs): the forced cells as the released guide's own fill.sh prints them over the translation 8fb26660eb609c58… (all of the seat's roots in one cut). By AI agents, Wed Nov 11 2026. No macro, syntax, notation, axiom, sorry.
-/
import Derived.Test.YtagfndkfjbbpjaaGreatDoorChecked
import GoSem.PinnedTables
import GoSem.Claim
import GoSem.ClaimJoined
import GoSem.ClaimMapViews
import Derived.JoinedTies
import Derived.KernelRfl
namespace Go.Proofs.YtagfndkfjbbpjaaGreatDoor
/- THE CELL 'sum', in the pinned program and in every row, IS THE sha256 OF THE DUMP (.gsa) THAT YtagfndkfjbbpjaaGreatDoorProg.lean LOADS. Nothing in Lean hashes anything: it is a label: what it is worth is what the hold of that sum in a sandbox is worth. -/
noncomputable def Tryz.pinned : Pinned := { name := "ytagfndkfjbbpjaagreatdoor", sum := "8fb26660eb609c5819c038b96692812be2462a2ad92f24445721447d460f010e", checked := Tryz.checked }
namespace Rows
def none {H : Type} : Left H := { results := [], args := [] }

/- WHAT THE LISTED PACKAGE-LEVEL VARIABLES READ AS WHEN THE CALL BEGINS. Each datum BY PROGRAM (the guide's laid-datum.mjs) off the statement by which the dump's own 'gosem.cut.vars' lays the variable. In a bare row this is a premise. The card (YtagfndkfjbbpjaaGreatDoorCards.lean) ties it to the program's text. -/
def laid_unicode_utf8_acceptRanges {H : Type} : DataW H := .agg [.agg [.lit (.int .u8 128), .lit (.int .u8 191)], .agg [.lit (.int .u8 160), .lit (.int .u8 191)], .agg [.lit (.int .u8 128), .lit (.int .u8 159)], .agg [.lit (.int .u8 144), .lit (.int .u8 191)], .agg [.lit (.int .u8 128), .lit (.int .u8 143)], .agg [.lit (.int .u8 0), .lit (.int .u8 0)], .agg [.lit (.int .u8 0), .lit (.int .u8 0)], .agg [.lit (.int .u8 0), .lit (.int .u8 0)], .agg [.lit (.int .u8 0), .lit (.int .u8 0)], .agg [.lit (.int .u8 0), .lit (.int .u8 0)], .agg [.lit (.int .u8 0), .lit (.int .u8 0)], .agg [.lit (.int .u8 0), .lit (.int .u8 0)], .agg [.lit (.int .u8 0), .lit (.int .u8 0)], .agg [.lit (.int .u8 0), .lit (.int .u8 0)], .agg [.lit (.int .u8 0), .lit (.int .u8 0)], .agg [.lit (.int .u8 0), .lit (.int .u8 0)]]
/-- One of Go's own tables, pinned by name: the form's constant. -/
def laid_unicode_utf8_first : DataW Unit := Go.Pinned.utf8First

/-- 'debenturelaw08.InstructTells': WHATEVER THE INPUT: true; the input reads as it did. -/
def instructTellsSpec : ChangeSpec := { name := "instructTells", fn := fun _ => fun
  | [d1, d2, d3] => { results := [.lit (.bool true)], args := [d1, d2, d3] }
  | _ => none }
def instructTellsRow : OpenClaim := { program := "ytagfndkfjbbpjaagreatdoor", sum := "8fb26660eb609c5819c038b96692812be2462a2ad92f24445721447d460f010e", func := "debenture/debenturelaw08.InstructTells", spec := "instructTells", inPlace := ["internal/bytealg.IndexByteString", "internal/bytealg.IndexString", "internal/bytealg.abigen_runtime_cmpstring"], unfollowed := true, recurses := true, named := ["unicode/utf8.first", "unicode/utf8.acceptRanges", "internal/bytealg.MaxLen"], plainKeys := false, apart := false, laid := [("unicode/utf8.acceptRanges", laid_unicode_utf8_acceptRanges), ("unicode/utf8.first", laid_unicode_utf8_first)] }
def InstructTellsSaid : Prop := instructTellsRow.holds Tryz.pinned (OpenSpec.ofChange instructTellsSpec)

/-- ITS FALSE NEIGHBOUR: 'it returns false'. Refute it at one input. -/
def instructTellsWrong : ChangeSpec := { name := "instructTells", fn := fun _ => fun
  | [d1, d2, d3] => { results := [.lit (.bool false)], args := [d1, d2, d3] }
  | _ => none }
def InstructTellsWrongFalsely : Prop := instructTellsRow.holds Tryz.pinned (OpenSpec.ofChange instructTellsWrong)

/-- 'debenturelaw08.InstructWhole': WHATEVER THE INPUT: true; the input reads as it did. -/
def instructWholeSpec : ChangeSpec := { name := "instructWhole", fn := fun _ => fun
  | [d1, d2, d3] => { results := [.lit (.bool true)], args := [d1, d2, d3] }
  | _ => none }
def instructWholeRow : OpenClaim := { program := "ytagfndkfjbbpjaagreatdoor", sum := "8fb26660eb609c5819c038b96692812be2462a2ad92f24445721447d460f010e", func := "debenture/debenturelaw08.InstructWhole", spec := "instructWhole", inPlace := ["internal/bytealg.IndexByteString", "internal/bytealg.IndexString", "internal/bytealg.abigen_runtime_cmpstring"], unfollowed := true, recurses := true, named := ["unicode/utf8.first", "unicode/utf8.acceptRanges", "internal/bytealg.MaxLen"], plainKeys := false, apart := false, laid := [("unicode/utf8.acceptRanges", laid_unicode_utf8_acceptRanges), ("unicode/utf8.first", laid_unicode_utf8_first)] }
def InstructWholeSaid : Prop := instructWholeRow.holds Tryz.pinned (OpenSpec.ofChange instructWholeSpec)

/-- ITS FALSE NEIGHBOUR: 'it returns false'. Refute it at one input. -/
def instructWholeWrong : ChangeSpec := { name := "instructWhole", fn := fun _ => fun
  | [d1, d2, d3] => { results := [.lit (.bool false)], args := [d1, d2, d3] }
  | _ => none }
def InstructWholeWrongFalsely : Prop := instructWholeRow.holds Tryz.pinned (OpenSpec.ofChange instructWholeWrong)

/-- 'debenturelaw08.InstructAgain': WHATEVER THE INPUT: true; the input reads as it did. -/
def instructAgainSpec : ChangeSpec := { name := "instructAgain", fn := fun _ => fun
  | [d1, d2, d3] => { results := [.lit (.bool true)], args := [d1, d2, d3] }
  | _ => none }
def instructAgainRow : OpenClaim := { program := "ytagfndkfjbbpjaagreatdoor", sum := "8fb26660eb609c5819c038b96692812be2462a2ad92f24445721447d460f010e", func := "debenture/debenturelaw08.InstructAgain", spec := "instructAgain", inPlace := ["internal/bytealg.IndexByteString", "internal/bytealg.IndexString", "internal/bytealg.abigen_runtime_cmpstring"], unfollowed := true, recurses := true, named := ["unicode/utf8.first", "unicode/utf8.acceptRanges", "internal/bytealg.MaxLen"], plainKeys := false, apart := false, laid := [("unicode/utf8.acceptRanges", laid_unicode_utf8_acceptRanges), ("unicode/utf8.first", laid_unicode_utf8_first)] }
def InstructAgainSaid : Prop := instructAgainRow.holds Tryz.pinned (OpenSpec.ofChange instructAgainSpec)

/-- ITS FALSE NEIGHBOUR: 'it returns false'. Refute it at one input. -/
def instructAgainWrong : ChangeSpec := { name := "instructAgain", fn := fun _ => fun
  | [d1, d2, d3] => { results := [.lit (.bool false)], args := [d1, d2, d3] }
  | _ => none }
def InstructAgainWrongFalsely : Prop := instructAgainRow.holds Tryz.pinned (OpenSpec.ofChange instructAgainWrong)

/-- 'debenturelaw08.InstructLines': WHATEVER THE INPUT: true; the input reads as it did. -/
def instructLinesSpec : ChangeSpec := { name := "instructLines", fn := fun _ => fun
  | [d] => { results := [.lit (.bool true)], args := [d] }
  | _ => none }
def instructLinesRow : OpenClaim := { program := "ytagfndkfjbbpjaagreatdoor", sum := "8fb26660eb609c5819c038b96692812be2462a2ad92f24445721447d460f010e", func := "debenture/debenturelaw08.InstructLines", spec := "instructLines", inPlace := ["internal/bytealg.IndexByteString", "internal/bytealg.IndexString", "internal/bytealg.abigen_runtime_cmpstring"], unfollowed := true, recurses := true, named := ["unicode/utf8.first", "unicode/utf8.acceptRanges", "internal/bytealg.MaxLen"], plainKeys := false, apart := false, laid := [("unicode/utf8.acceptRanges", laid_unicode_utf8_acceptRanges), ("unicode/utf8.first", laid_unicode_utf8_first)] }
def InstructLinesSaid : Prop := instructLinesRow.holds Tryz.pinned (OpenSpec.ofChange instructLinesSpec)

/-- ITS FALSE NEIGHBOUR: 'it returns false'. Refute it at one input. -/
def instructLinesWrong : ChangeSpec := { name := "instructLines", fn := fun _ => fun
  | [d] => { results := [.lit (.bool false)], args := [d] }
  | _ => none }
def InstructLinesWrongFalsely : Prop := instructLinesRow.holds Tryz.pinned (OpenSpec.ofChange instructLinesWrong)

/-- 'debenturelaw08.InstructDays': WHATEVER THE INPUT: true; the input reads as it did. -/
def instructDaysSpec : ChangeSpec := { name := "instructDays", fn := fun _ => fun
  | [d1, d2, d3] => { results := [.lit (.bool true)], args := [d1, d2, d3] }
  | _ => none }
def instructDaysRow : OpenClaim := { program := "ytagfndkfjbbpjaagreatdoor", sum := "8fb26660eb609c5819c038b96692812be2462a2ad92f24445721447d460f010e", func := "debenture/debenturelaw08.InstructDays", spec := "instructDays", inPlace := ["internal/bytealg.IndexByteString", "internal/bytealg.IndexString", "internal/bytealg.abigen_runtime_cmpstring"], unfollowed := true, recurses := true, named := ["unicode/utf8.first", "unicode/utf8.acceptRanges", "internal/bytealg.MaxLen"], plainKeys := false, apart := false, laid := [("unicode/utf8.acceptRanges", laid_unicode_utf8_acceptRanges), ("unicode/utf8.first", laid_unicode_utf8_first)] }
def InstructDaysSaid : Prop := instructDaysRow.holds Tryz.pinned (OpenSpec.ofChange instructDaysSpec)

/-- ITS FALSE NEIGHBOUR: 'it returns false'. Refute it at one input. -/
def instructDaysWrong : ChangeSpec := { name := "instructDays", fn := fun _ => fun
  | [d1, d2, d3] => { results := [.lit (.bool false)], args := [d1, d2, d3] }
  | _ => none }
def InstructDaysWrongFalsely : Prop := instructDaysRow.holds Tryz.pinned (OpenSpec.ofChange instructDaysWrong)

/- THE SECOND FORM. 'bulk': how many values and letters a reading holds, each counted each time it is reached (what is shared counts as often as it is met; a slice's spare places count too). A statement '..UptoSaid' is the law's where the arguments, and the package variables that the reading takes, are together of bulk at most 1048576: NARROWER than '..Said'. Prove '..Said' where nothing that the law and all that it calls make is longer than what came in: it says more and counts as full. Else prove '..UptoSaid'. A law counts once. -/
mutual
def uptoBulk {H : Type} : DataW H → Nat
  | .lit (.string bytes) => bytes.length + 1
  | .lit _ => 1
  | .nil => 1
  | .ptr d => uptoBulk d + 1
  | .slice elems spare => uptoBulkAll elems + uptoBulkAll spare + 1
  | .agg parts => uptoBulkAll parts + 1
  | .iface _ d => uptoBulk d + 1
  | .map entries => uptoBulkEntries entries + 1
  | .held _ => 1
def uptoBulkAll {H : Type} : List (DataW H) → Nat
  | [] => 0
  | d :: r => uptoBulk d + uptoBulkAll r
def uptoBulkEntries {H : Type} : List (Lit × DataW H) → Nat
  | [] => 0
  | x :: r => uptoBulkEntry x + uptoBulkEntries r
def uptoBulkEntry {H : Type} : Lit × DataW H → Nat
  | (.string bytes, d) => bytes.length + uptoBulk d + 1
  | (_, d) => uptoBulk d + 1
 end
def uptoSmall : (H : Type) → List (DataW H) → Bool := fun _ ds => decide (uptoBulkAll ds ≤ 1048576)
def OpenSpec.upto (s : _root_.Go.ChangeSpec) : _root_.Go.OpenSpec := { _root_.Go.OpenSpec.ofChange s with cond := some uptoSmall }

/-- 'debenturelaw08.InstructTells', WHERE WHAT IT READS IS OF BULK AT MOST 1048576: true; the input reads as it did. -/
def instructTellsUptoRow : OpenClaim := { program := "ytagfndkfjbbpjaagreatdoor", sum := "8fb26660eb609c5819c038b96692812be2462a2ad92f24445721447d460f010e", func := "debenture/debenturelaw08.InstructTells", spec := "instructTells", inPlace := ["internal/bytealg.IndexByteString", "internal/bytealg.IndexString", "internal/bytealg.abigen_runtime_cmpstring"], unfollowed := true, recurses := true, named := ["unicode/utf8.first", "unicode/utf8.acceptRanges", "internal/bytealg.MaxLen"], plainKeys := false, apart := false, laid := [("unicode/utf8.acceptRanges", laid_unicode_utf8_acceptRanges), ("unicode/utf8.first", laid_unicode_utf8_first)], narrowed := true }
def InstructTellsUptoSaid : Prop := instructTellsUptoRow.holds Tryz.pinned (OpenSpec.upto instructTellsSpec)

/-- 'debenturelaw08.InstructWhole', WHERE WHAT IT READS IS OF BULK AT MOST 1048576: true; the input reads as it did. -/
def instructWholeUptoRow : OpenClaim := { program := "ytagfndkfjbbpjaagreatdoor", sum := "8fb26660eb609c5819c038b96692812be2462a2ad92f24445721447d460f010e", func := "debenture/debenturelaw08.InstructWhole", spec := "instructWhole", inPlace := ["internal/bytealg.IndexByteString", "internal/bytealg.IndexString", "internal/bytealg.abigen_runtime_cmpstring"], unfollowed := true, recurses := true, named := ["unicode/utf8.first", "unicode/utf8.acceptRanges", "internal/bytealg.MaxLen"], plainKeys := false, apart := false, laid := [("unicode/utf8.acceptRanges", laid_unicode_utf8_acceptRanges), ("unicode/utf8.first", laid_unicode_utf8_first)], narrowed := true }
def InstructWholeUptoSaid : Prop := instructWholeUptoRow.holds Tryz.pinned (OpenSpec.upto instructWholeSpec)

/-- 'debenturelaw08.InstructAgain', WHERE WHAT IT READS IS OF BULK AT MOST 1048576: true; the input reads as it did. -/
def instructAgainUptoRow : OpenClaim := { program := "ytagfndkfjbbpjaagreatdoor", sum := "8fb26660eb609c5819c038b96692812be2462a2ad92f24445721447d460f010e", func := "debenture/debenturelaw08.InstructAgain", spec := "instructAgain", inPlace := ["internal/bytealg.IndexByteString", "internal/bytealg.IndexString", "internal/bytealg.abigen_runtime_cmpstring"], unfollowed := true, recurses := true, named := ["unicode/utf8.first", "unicode/utf8.acceptRanges", "internal/bytealg.MaxLen"], plainKeys := false, apart := false, laid := [("unicode/utf8.acceptRanges", laid_unicode_utf8_acceptRanges), ("unicode/utf8.first", laid_unicode_utf8_first)], narrowed := true }
def InstructAgainUptoSaid : Prop := instructAgainUptoRow.holds Tryz.pinned (OpenSpec.upto instructAgainSpec)

/-- 'debenturelaw08.InstructLines', WHERE WHAT IT READS IS OF BULK AT MOST 1048576: true; the input reads as it did. -/
def instructLinesUptoRow : OpenClaim := { program := "ytagfndkfjbbpjaagreatdoor", sum := "8fb26660eb609c5819c038b96692812be2462a2ad92f24445721447d460f010e", func := "debenture/debenturelaw08.InstructLines", spec := "instructLines", inPlace := ["internal/bytealg.IndexByteString", "internal/bytealg.IndexString", "internal/bytealg.abigen_runtime_cmpstring"], unfollowed := true, recurses := true, named := ["unicode/utf8.first", "unicode/utf8.acceptRanges", "internal/bytealg.MaxLen"], plainKeys := false, apart := false, laid := [("unicode/utf8.acceptRanges", laid_unicode_utf8_acceptRanges), ("unicode/utf8.first", laid_unicode_utf8_first)], narrowed := true }
def InstructLinesUptoSaid : Prop := instructLinesUptoRow.holds Tryz.pinned (OpenSpec.upto instructLinesSpec)

/-- 'debenturelaw08.InstructDays', WHERE WHAT IT READS IS OF BULK AT MOST 1048576: true; the input reads as it did. -/
def instructDaysUptoRow : OpenClaim := { program := "ytagfndkfjbbpjaagreatdoor", sum := "8fb26660eb609c5819c038b96692812be2462a2ad92f24445721447d460f010e", func := "debenture/debenturelaw08.InstructDays", spec := "instructDays", inPlace := ["internal/bytealg.IndexByteString", "internal/bytealg.IndexString", "internal/bytealg.abigen_runtime_cmpstring"], unfollowed := true, recurses := true, named := ["unicode/utf8.first", "unicode/utf8.acceptRanges", "internal/bytealg.MaxLen"], plainKeys := false, apart := false, laid := [("unicode/utf8.acceptRanges", laid_unicode_utf8_acceptRanges), ("unicode/utf8.first", laid_unicode_utf8_first)], narrowed := true }
def InstructDaysUptoSaid : Prop := instructDaysUptoRow.holds Tryz.pinned (OpenSpec.upto instructDaysSpec)

end Rows
end Go.Proofs.YtagfndkfjbbpjaaGreatDoor

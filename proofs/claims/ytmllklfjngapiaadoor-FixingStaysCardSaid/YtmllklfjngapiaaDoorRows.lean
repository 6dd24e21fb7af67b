/-
  NARROWER THAN 'FOR EVERY INPUT', by the rows' own cells (each row's printed sentence says how): FixingTells: laid · FixingStays: laid · FixingLast: laid · FixingMany: laid.
  DERIVED. THE GIVEN ROWS OF THIS SEAT. 4 by the template 'for every input the law returns true; each argument reads behind the call as it read before'; 0 by the template 'total and deterministic' (their statements: YtmllklfjngapiaaDoorTotals.lean).
  GIVEN WITH THE SEED: the statements are not yours to turn. If you find one false, say at which input.
  Laid BY PROGRAM, IN A SANDBOX (cutbox-rows.mjs): the forced cells as the released guide's own fill.sh prints them over the translation ad48d7add7589c93… (all of the seat's roots in one cut). By AI agents, Wed Nov 11 2026. No macro, syntax, notation, axiom, sorry.
-/
import Derived.Test.YtmllklfjngapiaaDoorChecked
import GoSem.PinnedTables
import GoSem.Claim
import GoSem.ClaimJoined
import GoSem.ClaimMapViews
import Derived.JoinedTies
import Derived.KernelRfl
namespace Go.Proofs.YtmllklfjngapiaaDoor
/- THE CELL 'sum', in the pinned program and in every row, IS THE sha256 OF THE DUMP (.gsa) THAT YtmllklfjngapiaaDoorProg.lean LOADS. Nothing in Lean hashes anything: it is a label: what it is worth is what the hold of that sum in a sandbox is worth. -/
noncomputable def Tryd.pinned : Pinned := { name := "ytmllklfjngapiaadoor", sum := "ad48d7add7589c9302b0c851e521a20192123b427ef8c0c739383e1837b20b67", checked := Tryd.checked }
namespace Rows
def none {H : Type} : Left H := { results := [], args := [] }

/- WHAT THE LISTED PACKAGE-LEVEL VARIABLES READ AS WHEN THE CALL BEGINS. Each datum BY PROGRAM (the guide's laid-datum.mjs) off the statement by which the dump's own 'gosem.cut.vars' lays the variable. In a bare row this is a premise. The card (YtmllklfjngapiaaDoorCards.lean) ties it to the program's text. -/
def laid_unicode_utf8_acceptRanges {H : Type} : DataW H := .agg [.agg [.lit (.int .u8 128), .lit (.int .u8 191)], .agg [.lit (.int .u8 160), .lit (.int .u8 191)], .agg [.lit (.int .u8 128), .lit (.int .u8 159)], .agg [.lit (.int .u8 144), .lit (.int .u8 191)], .agg [.lit (.int .u8 128), .lit (.int .u8 143)], .agg [.lit (.int .u8 0), .lit (.int .u8 0)], .agg [.lit (.int .u8 0), .lit (.int .u8 0)], .agg [.lit (.int .u8 0), .lit (.int .u8 0)], .agg [.lit (.int .u8 0), .lit (.int .u8 0)], .agg [.lit (.int .u8 0), .lit (.int .u8 0)], .agg [.lit (.int .u8 0), .lit (.int .u8 0)], .agg [.lit (.int .u8 0), .lit (.int .u8 0)], .agg [.lit (.int .u8 0), .lit (.int .u8 0)], .agg [.lit (.int .u8 0), .lit (.int .u8 0)], .agg [.lit (.int .u8 0), .lit (.int .u8 0)], .agg [.lit (.int .u8 0), .lit (.int .u8 0)]]
/-- One of Go's own tables, pinned by name: the form's constant. -/
def laid_unicode_utf8_first : DataW Unit := Go.Pinned.utf8First

/-- 'debenturelaw12.FixingTells': WHATEVER THE INPUT: true; the input reads as it did. -/
def fixingTellsSpec : ChangeSpec := { name := "fixingTells", fn := fun _ => fun
  | [d1, d2] => { results := [.lit (.bool true)], args := [d1, d2] }
  | _ => none }
def fixingTellsRow : OpenClaim := { program := "ytmllklfjngapiaadoor", sum := "ad48d7add7589c9302b0c851e521a20192123b427ef8c0c739383e1837b20b67", func := "debenture/debenturelaw12.FixingTells", spec := "fixingTells", inPlace := ["internal/bytealg.abigen_runtime_cmpstring", "internal/bytealg.IndexByteString", "internal/bytealg.IndexString"], unfollowed := true, recurses := true, named := ["unicode/utf8.first", "unicode/utf8.acceptRanges", "internal/bytealg.MaxLen"], apart := false, laid := [("unicode/utf8.acceptRanges", laid_unicode_utf8_acceptRanges), ("unicode/utf8.first", laid_unicode_utf8_first)] }
def FixingTellsSaid : Prop := fixingTellsRow.holds Tryd.pinned (OpenSpec.ofChange fixingTellsSpec)

/-- ITS FALSE NEIGHBOUR: 'it returns false'. Refute it at one input. -/
def fixingTellsWrong : ChangeSpec := { name := "fixingTells", fn := fun _ => fun
  | [d1, d2] => { results := [.lit (.bool false)], args := [d1, d2] }
  | _ => none }
def FixingTellsWrongFalsely : Prop := fixingTellsRow.holds Tryd.pinned (OpenSpec.ofChange fixingTellsWrong)

/-- 'debenturelaw12.FixingStays': WHATEVER THE INPUT: true; the input reads as it did. -/
def fixingStaysSpec : ChangeSpec := { name := "fixingStays", fn := fun _ => fun
  | [d1, d2, d3] => { results := [.lit (.bool true)], args := [d1, d2, d3] }
  | _ => none }
def fixingStaysRow : OpenClaim := { program := "ytmllklfjngapiaadoor", sum := "ad48d7add7589c9302b0c851e521a20192123b427ef8c0c739383e1837b20b67", func := "debenture/debenturelaw12.FixingStays", spec := "fixingStays", inPlace := ["internal/bytealg.abigen_runtime_cmpstring", "internal/bytealg.IndexByteString", "internal/bytealg.IndexString"], unfollowed := true, recurses := true, named := ["unicode/utf8.first", "unicode/utf8.acceptRanges", "internal/bytealg.MaxLen"], apart := false, laid := [("unicode/utf8.acceptRanges", laid_unicode_utf8_acceptRanges), ("unicode/utf8.first", laid_unicode_utf8_first)] }
def FixingStaysSaid : Prop := fixingStaysRow.holds Tryd.pinned (OpenSpec.ofChange fixingStaysSpec)

/-- ITS FALSE NEIGHBOUR: 'it returns false'. Refute it at one input. -/
def fixingStaysWrong : ChangeSpec := { name := "fixingStays", fn := fun _ => fun
  | [d1, d2, d3] => { results := [.lit (.bool false)], args := [d1, d2, d3] }
  | _ => none }
def FixingStaysWrongFalsely : Prop := fixingStaysRow.holds Tryd.pinned (OpenSpec.ofChange fixingStaysWrong)

/-- 'debenturelaw12.FixingLast': WHATEVER THE INPUT: true; the input reads as it did. -/
def fixingLastSpec : ChangeSpec := { name := "fixingLast", fn := fun _ => fun
  | [d1, d2, d3] => { results := [.lit (.bool true)], args := [d1, d2, d3] }
  | _ => none }
def fixingLastRow : OpenClaim := { program := "ytmllklfjngapiaadoor", sum := "ad48d7add7589c9302b0c851e521a20192123b427ef8c0c739383e1837b20b67", func := "debenture/debenturelaw12.FixingLast", spec := "fixingLast", inPlace := ["internal/bytealg.abigen_runtime_cmpstring", "internal/bytealg.IndexByteString", "internal/bytealg.IndexString"], unfollowed := true, recurses := true, named := ["unicode/utf8.first", "unicode/utf8.acceptRanges", "internal/bytealg.MaxLen"], apart := false, laid := [("unicode/utf8.acceptRanges", laid_unicode_utf8_acceptRanges), ("unicode/utf8.first", laid_unicode_utf8_first)] }
def FixingLastSaid : Prop := fixingLastRow.holds Tryd.pinned (OpenSpec.ofChange fixingLastSpec)

/-- ITS FALSE NEIGHBOUR: 'it returns false'. Refute it at one input. -/
def fixingLastWrong : ChangeSpec := { name := "fixingLast", fn := fun _ => fun
  | [d1, d2, d3] => { results := [.lit (.bool false)], args := [d1, d2, d3] }
  | _ => none }
def FixingLastWrongFalsely : Prop := fixingLastRow.holds Tryd.pinned (OpenSpec.ofChange fixingLastWrong)

/-- 'debenturelaw12.FixingMany': WHATEVER THE INPUT: true; the input reads as it did. -/
def fixingManySpec : ChangeSpec := { name := "fixingMany", fn := fun _ => fun
  | [d] => { results := [.lit (.bool true)], args := [d] }
  | _ => none }
def fixingManyRow : OpenClaim := { program := "ytmllklfjngapiaadoor", sum := "ad48d7add7589c9302b0c851e521a20192123b427ef8c0c739383e1837b20b67", func := "debenture/debenturelaw12.FixingMany", spec := "fixingMany", inPlace := ["internal/bytealg.abigen_runtime_cmpstring", "internal/bytealg.IndexByteString", "internal/bytealg.IndexString"], unfollowed := true, recurses := true, named := ["unicode/utf8.first", "unicode/utf8.acceptRanges", "internal/bytealg.MaxLen"], apart := false, laid := [("unicode/utf8.acceptRanges", laid_unicode_utf8_acceptRanges), ("unicode/utf8.first", laid_unicode_utf8_first)] }
def FixingManySaid : Prop := fixingManyRow.holds Tryd.pinned (OpenSpec.ofChange fixingManySpec)

/-- ITS FALSE NEIGHBOUR: 'it returns false'. Refute it at one input. -/
def fixingManyWrong : ChangeSpec := { name := "fixingMany", fn := fun _ => fun
  | [d] => { results := [.lit (.bool false)], args := [d] }
  | _ => none }
def FixingManyWrongFalsely : Prop := fixingManyRow.holds Tryd.pinned (OpenSpec.ofChange fixingManyWrong)

/- THE SECOND FORM. 'bulk': how many values and letters a reading holds, each counted each time it is reached (what is shared counts as often as it is met; a slice's spare places count too). A statement '..UptoSaid' is the law's where the arguments, and the package variables that the reading takes, are together of bulk at most 1048576: NARROWER than '..Said'. Prove '..Said' where nothing that the law and all that it calls make is longer than what came in: it says more and counts as full. Else prove '..UptoSaid'. A law counts once. -/
mutual
def uptoBulk {H : Type} : DataW H → Nat
  | .lit (.string bytes) => bytes.length + 1
  | .lit _ => 1
  | .nil => 1
  | .ptr d => uptoBulk d + 1
  | .slice elems spare => uptoBulkAll elems + uptoBulkAll spare + 1
  | .agg parts => uptoBulkAll parts + 1
  | .iface _ d => uptoBulk d + 1
  | .map entries => uptoBulkEntries entries + 1
  | .held _ => 1
def uptoBulkAll {H : Type} : List (DataW H) → Nat
  | [] => 0
  | d :: r => uptoBulk d + uptoBulkAll r
def uptoBulkEntries {H : Type} : List (Lit × DataW H) → Nat
  | [] => 0
  | x :: r => uptoBulkEntry x + uptoBulkEntries r
def uptoBulkEntry {H : Type} : Lit × DataW H → Nat
  | (.string bytes, d) => bytes.length + uptoBulk d + 1
  | (_, d) => uptoBulk d + 1
 end
def uptoSmall : (H : Type) → List (DataW H) → Bool := fun _ ds => decide (uptoBulkAll ds ≤ 1048576)
def OpenSpec.upto (s : _root_.Go.ChangeSpec) : _root_.Go.OpenSpec := { _root_.Go.OpenSpec.ofChange s with cond := some uptoSmall }

/-- 'debenturelaw12.FixingTells', WHERE WHAT IT READS IS OF BULK AT MOST 1048576: true; the input reads as it did. -/
def fixingTellsUptoRow : OpenClaim := { program := "ytmllklfjngapiaadoor", sum := "ad48d7add7589c9302b0c851e521a20192123b427ef8c0c739383e1837b20b67", func := "debenture/debenturelaw12.FixingTells", spec := "fixingTells", inPlace := ["internal/bytealg.abigen_runtime_cmpstring", "internal/bytealg.IndexByteString", "internal/bytealg.IndexString"], unfollowed := true, recurses := true, named := ["unicode/utf8.first", "unicode/utf8.acceptRanges", "internal/bytealg.MaxLen"], apart := false, laid := [("unicode/utf8.acceptRanges", laid_unicode_utf8_acceptRanges), ("unicode/utf8.first", laid_unicode_utf8_first)], narrowed := true }
def FixingTellsUptoSaid : Prop := fixingTellsUptoRow.holds Tryd.pinned (OpenSpec.upto fixingTellsSpec)

/-- 'debenturelaw12.FixingStays', WHERE WHAT IT READS IS OF BULK AT MOST 1048576: true; the input reads as it did. -/
def fixingStaysUptoRow : OpenClaim := { program := "ytmllklfjngapiaadoor", sum := "ad48d7add7589c9302b0c851e521a20192123b427ef8c0c739383e1837b20b67", func := "debenture/debenturelaw12.FixingStays", spec := "fixingStays", inPlace := ["internal/bytealg.abigen_runtime_cmpstring", "internal/bytealg.IndexByteString", "internal/bytealg.IndexString"], unfollowed := true, recurses := true, named := ["unicode/utf8.first", "unicode/utf8.acceptRanges", "internal/bytealg.MaxLen"], apart := false, laid := [("unicode/utf8.acceptRanges", laid_unicode_utf8_acceptRanges), ("unicode/utf8.first", laid_unicode_utf8_first)], narrowed := true }
def FixingStaysUptoSaid : Prop := fixingStaysUptoRow.holds Tryd.pinned (OpenSpec.upto fixingStaysSpec)

/-- 'debenturelaw12.FixingLast', WHERE WHAT IT READS IS OF BULK AT MOST 1048576: true; the input reads as it did. -/
def fixingLastUptoRow : OpenClaim := { program := "ytmllklfjngapiaadoor", sum := "ad48d7add7589c9302b0c851e521a20192123b427ef8c0c739383e1837b20b67", func := "debenture/debenturelaw12.FixingLast", spec := "fixingLast", inPlace := ["internal/bytealg.abigen_runtime_cmpstring", "internal/bytealg.IndexByteString", "internal/bytealg.IndexString"], unfollowed := true, recurses := true, named := ["unicode/utf8.first", "unicode/utf8.acceptRanges", "internal/bytealg.MaxLen"], apart := false, laid := [("unicode/utf8.acceptRanges", laid_unicode_utf8_acceptRanges), ("unicode/utf8.first", laid_unicode_utf8_first)], narrowed := true }
def FixingLastUptoSaid : Prop := fixingLastUptoRow.holds Tryd.pinned (OpenSpec.upto fixingLastSpec)

/-- 'debenturelaw12.FixingMany', WHERE WHAT IT READS IS OF BULK AT MOST 1048576: true; the input reads as it did. -/
def fixingManyUptoRow : OpenClaim := { program := "ytmllklfjngapiaadoor", sum := "ad48d7add7589c9302b0c851e521a20192123b427ef8c0c739383e1837b20b67", func := "debenture/debenturelaw12.FixingMany", spec := "fixingMany", inPlace := ["internal/bytealg.abigen_runtime_cmpstring", "internal/bytealg.IndexByteString", "internal/bytealg.IndexString"], unfollowed := true, recurses := true, named := ["unicode/utf8.first", "unicode/utf8.acceptRanges", "internal/bytealg.MaxLen"], apart := false, laid := [("unicode/utf8.acceptRanges", laid_unicode_utf8_acceptRanges), ("unicode/utf8.first", laid_unicode_utf8_first)], narrowed := true }
def FixingManyUptoSaid : Prop := fixingManyUptoRow.holds Tryd.pinned (OpenSpec.upto fixingManySpec)

end Rows
end Go.Proofs.YtmllklfjngapiaaDoor

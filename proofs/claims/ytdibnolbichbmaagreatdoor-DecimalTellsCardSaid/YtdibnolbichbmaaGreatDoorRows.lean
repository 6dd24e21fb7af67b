/-
  NARROWER THAN 'FOR EVERY INPUT', by the rows' own cells (each row's printed sentence says how): DecimalTells: laid · DecimalBack: laid · DecimalPlaces: laid · DecimalParts: laid · DecimalWhole: laid.
  DERIVED. THE GIVEN ROWS OF THIS SEAT. 5 by the template 'for every input the law returns true; each argument reads behind the call as it read before'; 0 by the template 'total and deterministic' (their statements: YtdibnolbichbmaaGreatDoorTotals.lean).
  GIVEN WITH THE SEED: the statements are not yours to turn. If you find one false, say at which input.
  Laid BY PROGRAM, IN A SANDBOX (cutbox-rows.mjs): the forced cells as the released guide's own fill.sh prints them over the translation aaf3296df42945c0… (all of the seat's roots in one cut). By AI agents, Wed Nov 11 2026. No macro, syntax, notation, axiom, sorry.
-/
import Derived.Test.YtdibnolbichbmaaGreatDoorChecked
import GoSem.PinnedTables
import GoSem.Claim
import GoSem.ClaimJoined
import GoSem.ClaimMapViews
import Derived.JoinedTies
import Derived.KernelRfl
namespace Go.Proofs.YtdibnolbichbmaaGreatDoor
/- THE CELL 'sum', in the pinned program and in every row, IS THE sha256 OF THE DUMP (.gsa) THAT YtdibnolbichbmaaGreatDoorProg.lean LOADS. Nothing in Lean hashes anything: it is a label: what it is worth is what the hold of that sum in a sandbox is worth. -/
noncomputable def Tryz.pinned : Pinned := { name := "ytdibnolbichbmaagreatdoor", sum := "aaf3296df42945c0f788559bb72b023c4827066eac38d5acceeb0f0dc8ba9aca", checked := Tryz.checked }
namespace Rows
def none {H : Type} : Left H := { results := [], args := [] }

/- WHAT THE LISTED PACKAGE-LEVEL VARIABLES READ AS WHEN THE CALL BEGINS. Each datum BY PROGRAM (the guide's laid-datum.mjs) off the statement by which the dump's own 'gosem.cut.vars' lays the variable. In a bare row this is a premise. The card (YtdibnolbichbmaaGreatDoorCards.lean) ties it to the program's text. -/
def laid_unicode_utf8_acceptRanges {H : Type} : DataW H := .agg [.agg [.lit (.int .u8 128), .lit (.int .u8 191)], .agg [.lit (.int .u8 160), .lit (.int .u8 191)], .agg [.lit (.int .u8 128), .lit (.int .u8 159)], .agg [.lit (.int .u8 144), .lit (.int .u8 191)], .agg [.lit (.int .u8 128), .lit (.int .u8 143)], .agg [.lit (.int .u8 0), .lit (.int .u8 0)], .agg [.lit (.int .u8 0), .lit (.int .u8 0)], .agg [.lit (.int .u8 0), .lit (.int .u8 0)], .agg [.lit (.int .u8 0), .lit (.int .u8 0)], .agg [.lit (.int .u8 0), .lit (.int .u8 0)], .agg [.lit (.int .u8 0), .lit (.int .u8 0)], .agg [.lit (.int .u8 0), .lit (.int .u8 0)], .agg [.lit (.int .u8 0), .lit (.int .u8 0)], .agg [.lit (.int .u8 0), .lit (.int .u8 0)], .agg [.lit (.int .u8 0), .lit (.int .u8 0)], .agg [.lit (.int .u8 0), .lit (.int .u8 0)]]
def laid_debenture_decimal_powers {H : Type} : DataW H := .agg [.agg [.lit (.string [53, 51, 54, 56, 55, 48, 57, 49, 50]), .lit (.int .i64 29)], .agg [.lit (.string [50]), .lit (.int .i64 1)], .agg [.lit (.string [50, 52, 52, 49, 52, 48, 54, 50, 53]), .lit (.int .i64 12)], .agg [.lit (.string [53]), .lit (.int .i64 1)]]
/-- One of Go's own tables, pinned by name: the form's constant. -/
def laid_unicode_utf8_first : DataW Unit := Go.Pinned.utf8First

/-- 'debenturelaw04.DecimalTells': WHATEVER THE INPUT: true; the input reads as it did. -/
def decimalTellsSpec : ChangeSpec := { name := "decimalTells", fn := fun _ => fun
  | [d1, d2] => { results := [.lit (.bool true)], args := [d1, d2] }
  | _ => none }
def decimalTellsRow : OpenClaim := { program := "ytdibnolbichbmaagreatdoor", sum := "aaf3296df42945c0f788559bb72b023c4827066eac38d5acceeb0f0dc8ba9aca", func := "debenture/debenturelaw04.DecimalTells", spec := "decimalTells", inPlace := ["internal/bytealg.IndexByteString", "internal/bytealg.IndexString", "internal/abi.NoEscape", "internal/bytealg.MakeNoZero", "internal/bytealg.abigen_runtime_cmpstring"], unfollowed := true, recurses := true, named := ["internal/bytealg.MaxLen", "unicode/utf8.first", "unicode/utf8.acceptRanges", "debenture/decimal.powers"], apart := false, laid := [("unicode/utf8.acceptRanges", laid_unicode_utf8_acceptRanges), ("debenture/decimal.powers", laid_debenture_decimal_powers), ("unicode/utf8.first", laid_unicode_utf8_first)] }
def DecimalTellsSaid : Prop := decimalTellsRow.holds Tryz.pinned (OpenSpec.ofChange decimalTellsSpec)

/-- ITS FALSE NEIGHBOUR: 'it returns false'. Refute it at one input. -/
def decimalTellsWrong : ChangeSpec := { name := "decimalTells", fn := fun _ => fun
  | [d1, d2] => { results := [.lit (.bool false)], args := [d1, d2] }
  | _ => none }
def DecimalTellsWrongFalsely : Prop := decimalTellsRow.holds Tryz.pinned (OpenSpec.ofChange decimalTellsWrong)

/-- 'debenturelaw04.DecimalBack': WHATEVER THE INPUT: true; the input reads as it did. -/
def decimalBackSpec : ChangeSpec := { name := "decimalBack", fn := fun _ => fun
  | [d1, d2, d3] => { results := [.lit (.bool true)], args := [d1, d2, d3] }
  | _ => none }
def decimalBackRow : OpenClaim := { program := "ytdibnolbichbmaagreatdoor", sum := "aaf3296df42945c0f788559bb72b023c4827066eac38d5acceeb0f0dc8ba9aca", func := "debenture/debenturelaw04.DecimalBack", spec := "decimalBack", inPlace := ["internal/bytealg.IndexByteString", "internal/bytealg.IndexString", "internal/abi.NoEscape", "internal/bytealg.MakeNoZero", "internal/bytealg.abigen_runtime_cmpstring"], unfollowed := true, recurses := true, named := ["internal/bytealg.MaxLen", "unicode/utf8.first", "unicode/utf8.acceptRanges", "debenture/decimal.powers"], apart := false, laid := [("unicode/utf8.acceptRanges", laid_unicode_utf8_acceptRanges), ("debenture/decimal.powers", laid_debenture_decimal_powers), ("unicode/utf8.first", laid_unicode_utf8_first)] }
def DecimalBackSaid : Prop := decimalBackRow.holds Tryz.pinned (OpenSpec.ofChange decimalBackSpec)

/-- ITS FALSE NEIGHBOUR: 'it returns false'. Refute it at one input. -/
def decimalBackWrong : ChangeSpec := { name := "decimalBack", fn := fun _ => fun
  | [d1, d2, d3] => { results := [.lit (.bool false)], args := [d1, d2, d3] }
  | _ => none }
def DecimalBackWrongFalsely : Prop := decimalBackRow.holds Tryz.pinned (OpenSpec.ofChange decimalBackWrong)

/-- 'debenturelaw04.DecimalPlaces': WHATEVER THE INPUT: true; the input reads as it did. -/
def decimalPlacesSpec : ChangeSpec := { name := "decimalPlaces", fn := fun _ => fun
  | [d1, d2] => { results := [.lit (.bool true)], args := [d1, d2] }
  | _ => none }
def decimalPlacesRow : OpenClaim := { program := "ytdibnolbichbmaagreatdoor", sum := "aaf3296df42945c0f788559bb72b023c4827066eac38d5acceeb0f0dc8ba9aca", func := "debenture/debenturelaw04.DecimalPlaces", spec := "decimalPlaces", inPlace := ["internal/bytealg.IndexByteString", "internal/bytealg.IndexString", "internal/abi.NoEscape", "internal/bytealg.MakeNoZero", "internal/bytealg.abigen_runtime_cmpstring"], unfollowed := true, recurses := true, named := ["internal/bytealg.MaxLen", "unicode/utf8.first", "unicode/utf8.acceptRanges", "debenture/decimal.powers"], apart := false, laid := [("unicode/utf8.acceptRanges", laid_unicode_utf8_acceptRanges), ("debenture/decimal.powers", laid_debenture_decimal_powers), ("unicode/utf8.first", laid_unicode_utf8_first)] }
def DecimalPlacesSaid : Prop := decimalPlacesRow.holds Tryz.pinned (OpenSpec.ofChange decimalPlacesSpec)

/-- ITS FALSE NEIGHBOUR: 'it returns false'. Refute it at one input. -/
def decimalPlacesWrong : ChangeSpec := { name := "decimalPlaces", fn := fun _ => fun
  | [d1, d2] => { results := [.lit (.bool false)], args := [d1, d2] }
  | _ => none }
def DecimalPlacesWrongFalsely : Prop := decimalPlacesRow.holds Tryz.pinned (OpenSpec.ofChange decimalPlacesWrong)

/-- 'debenturelaw04.DecimalParts': WHATEVER THE INPUT: true; the input reads as it did. -/
def decimalPartsSpec : ChangeSpec := { name := "decimalParts", fn := fun _ => fun
  | [d1, d2, d3] => { results := [.lit (.bool true)], args := [d1, d2, d3] }
  | _ => none }
def decimalPartsRow : OpenClaim := { program := "ytdibnolbichbmaagreatdoor", sum := "aaf3296df42945c0f788559bb72b023c4827066eac38d5acceeb0f0dc8ba9aca", func := "debenture/debenturelaw04.DecimalParts", spec := "decimalParts", inPlace := ["internal/bytealg.IndexByteString", "internal/bytealg.IndexString", "internal/abi.NoEscape", "internal/bytealg.MakeNoZero", "internal/bytealg.abigen_runtime_cmpstring"], unfollowed := true, recurses := true, named := ["internal/bytealg.MaxLen", "unicode/utf8.first", "unicode/utf8.acceptRanges", "debenture/decimal.powers"], apart := false, laid := [("unicode/utf8.acceptRanges", laid_unicode_utf8_acceptRanges), ("debenture/decimal.powers", laid_debenture_decimal_powers), ("unicode/utf8.first", laid_unicode_utf8_first)] }
def DecimalPartsSaid : Prop := decimalPartsRow.holds Tryz.pinned (OpenSpec.ofChange decimalPartsSpec)

/-- ITS FALSE NEIGHBOUR: 'it returns false'. Refute it at one input. -/
def decimalPartsWrong : ChangeSpec := { name := "decimalParts", fn := fun _ => fun
  | [d1, d2, d3] => { results := [.lit (.bool false)], args := [d1, d2, d3] }
  | _ => none }
def DecimalPartsWrongFalsely : Prop := decimalPartsRow.holds Tryz.pinned (OpenSpec.ofChange decimalPartsWrong)

/-- 'debenturelaw04.DecimalWhole': WHATEVER THE INPUT: true; the input reads as it did. -/
def decimalWholeSpec : ChangeSpec := { name := "decimalWhole", fn := fun _ => fun
  | [d] => { results := [.lit (.bool true)], args := [d] }
  | _ => none }
def decimalWholeRow : OpenClaim := { program := "ytdibnolbichbmaagreatdoor", sum := "aaf3296df42945c0f788559bb72b023c4827066eac38d5acceeb0f0dc8ba9aca", func := "debenture/debenturelaw04.DecimalWhole", spec := "decimalWhole", inPlace := ["internal/bytealg.IndexByteString", "internal/bytealg.IndexString", "internal/abi.NoEscape", "internal/bytealg.MakeNoZero", "internal/bytealg.abigen_runtime_cmpstring"], unfollowed := true, recurses := true, named := ["internal/bytealg.MaxLen", "unicode/utf8.first", "unicode/utf8.acceptRanges", "debenture/decimal.powers"], apart := false, laid := [("unicode/utf8.acceptRanges", laid_unicode_utf8_acceptRanges), ("debenture/decimal.powers", laid_debenture_decimal_powers), ("unicode/utf8.first", laid_unicode_utf8_first)] }
def DecimalWholeSaid : Prop := decimalWholeRow.holds Tryz.pinned (OpenSpec.ofChange decimalWholeSpec)

/-- ITS FALSE NEIGHBOUR: 'it returns false'. Refute it at one input. -/
def decimalWholeWrong : ChangeSpec := { name := "decimalWhole", fn := fun _ => fun
  | [d] => { results := [.lit (.bool false)], args := [d] }
  | _ => none }
def DecimalWholeWrongFalsely : Prop := decimalWholeRow.holds Tryz.pinned (OpenSpec.ofChange decimalWholeWrong)

/- THE SECOND FORM. 'bulk': how many values and letters a reading holds, each counted each time it is reached (what is shared counts as often as it is met; a slice's spare places count too). A statement '..UptoSaid' is the law's where the arguments, and the package variables that the reading takes, are together of bulk at most 1048576: NARROWER than '..Said'. Prove '..Said' where nothing that the law and all that it calls make is longer than what came in: it says more and counts as full. Else prove '..UptoSaid'. A law counts once. -/
mutual
def uptoBulk {H : Type} : DataW H → Nat
  | .lit (.string bytes) => bytes.length + 1
  | .lit _ => 1
  | .nil => 1
  | .ptr d => uptoBulk d + 1
  | .slice elems spare => uptoBulkAll elems + uptoBulkAll spare + 1
  | .agg parts => uptoBulkAll parts + 1
  | .iface _ d => uptoBulk d + 1
  | .map entries => uptoBulkEntries entries + 1
  | .held _ => 1
def uptoBulkAll {H : Type} : List (DataW H) → Nat
  | [] => 0
  | d :: r => uptoBulk d + uptoBulkAll r
def uptoBulkEntries {H : Type} : List (Lit × DataW H) → Nat
  | [] => 0
  | x :: r => uptoBulkEntry x + uptoBulkEntries r
def uptoBulkEntry {H : Type} : Lit × DataW H → Nat
  | (.string bytes, d) => bytes.length + uptoBulk d + 1
  | (_, d) => uptoBulk d + 1
 end
def uptoSmall : (H : Type) → List (DataW H) → Bool := fun _ ds => decide (uptoBulkAll ds ≤ 1048576)
def OpenSpec.upto (s : _root_.Go.ChangeSpec) : _root_.Go.OpenSpec := { _root_.Go.OpenSpec.ofChange s with cond := some uptoSmall }

/-- 'debenturelaw04.DecimalTells', WHERE WHAT IT READS IS OF BULK AT MOST 1048576: true; the input reads as it did. -/
def decimalTellsUptoRow : OpenClaim := { program := "ytdibnolbichbmaagreatdoor", sum := "aaf3296df42945c0f788559bb72b023c4827066eac38d5acceeb0f0dc8ba9aca", func := "debenture/debenturelaw04.DecimalTells", spec := "decimalTells", inPlace := ["internal/bytealg.IndexByteString", "internal/bytealg.IndexString", "internal/abi.NoEscape", "internal/bytealg.MakeNoZero", "internal/bytealg.abigen_runtime_cmpstring"], unfollowed := true, recurses := true, named := ["internal/bytealg.MaxLen", "unicode/utf8.first", "unicode/utf8.acceptRanges", "debenture/decimal.powers"], apart := false, laid := [("unicode/utf8.acceptRanges", laid_unicode_utf8_acceptRanges), ("debenture/decimal.powers", laid_debenture_decimal_powers), ("unicode/utf8.first", laid_unicode_utf8_first)], narrowed := true }
def DecimalTellsUptoSaid : Prop := decimalTellsUptoRow.holds Tryz.pinned (OpenSpec.upto decimalTellsSpec)

/-- 'debenturelaw04.DecimalBack', WHERE WHAT IT READS IS OF BULK AT MOST 1048576: true; the input reads as it did. -/
def decimalBackUptoRow : OpenClaim := { program := "ytdibnolbichbmaagreatdoor", sum := "aaf3296df42945c0f788559bb72b023c4827066eac38d5acceeb0f0dc8ba9aca", func := "debenture/debenturelaw04.DecimalBack", spec := "decimalBack", inPlace := ["internal/bytealg.IndexByteString", "internal/bytealg.IndexString", "internal/abi.NoEscape", "internal/bytealg.MakeNoZero", "internal/bytealg.abigen_runtime_cmpstring"], unfollowed := true, recurses := true, named := ["internal/bytealg.MaxLen", "unicode/utf8.first", "unicode/utf8.acceptRanges", "debenture/decimal.powers"], apart := false, laid := [("unicode/utf8.acceptRanges", laid_unicode_utf8_acceptRanges), ("debenture/decimal.powers", laid_debenture_decimal_powers), ("unicode/utf8.first", laid_unicode_utf8_first)], narrowed := true }
def DecimalBackUptoSaid : Prop := decimalBackUptoRow.holds Tryz.pinned (OpenSpec.upto decimalBackSpec)

/-- 'debenturelaw04.DecimalPlaces', WHERE WHAT IT READS IS OF BULK AT MOST 1048576: true; the input reads as it did. -/
def decimalPlacesUptoRow : OpenClaim := { program := "ytdibnolbichbmaagreatdoor", sum := "aaf3296df42945c0f788559bb72b023c4827066eac38d5acceeb0f0dc8ba9aca", func := "debenture/debenturelaw04.DecimalPlaces", spec := "decimalPlaces", inPlace := ["internal/bytealg.IndexByteString", "internal/bytealg.IndexString", "internal/abi.NoEscape", "internal/bytealg.MakeNoZero", "internal/bytealg.abigen_runtime_cmpstring"], unfollowed := true, recurses := true, named := ["internal/bytealg.MaxLen", "unicode/utf8.first", "unicode/utf8.acceptRanges", "debenture/decimal.powers"], apart := false, laid := [("unicode/utf8.acceptRanges", laid_unicode_utf8_acceptRanges), ("debenture/decimal.powers", laid_debenture_decimal_powers), ("unicode/utf8.first", laid_unicode_utf8_first)], narrowed := true }
def DecimalPlacesUptoSaid : Prop := decimalPlacesUptoRow.holds Tryz.pinned (OpenSpec.upto decimalPlacesSpec)

/-- 'debenturelaw04.DecimalParts', WHERE WHAT IT READS IS OF BULK AT MOST 1048576: true; the input reads as it did. -/
def decimalPartsUptoRow : OpenClaim := { program := "ytdibnolbichbmaagreatdoor", sum := "aaf3296df42945c0f788559bb72b023c4827066eac38d5acceeb0f0dc8ba9aca", func := "debenture/debenturelaw04.DecimalParts", spec := "decimalParts", inPlace := ["internal/bytealg.IndexByteString", "internal/bytealg.IndexString", "internal/abi.NoEscape", "internal/bytealg.MakeNoZero", "internal/bytealg.abigen_runtime_cmpstring"], unfollowed := true, recurses := true, named := ["internal/bytealg.MaxLen", "unicode/utf8.first", "unicode/utf8.acceptRanges", "debenture/decimal.powers"], apart := false, laid := [("unicode/utf8.acceptRanges", laid_unicode_utf8_acceptRanges), ("debenture/decimal.powers", laid_debenture_decimal_powers), ("unicode/utf8.first", laid_unicode_utf8_first)], narrowed := true }
def DecimalPartsUptoSaid : Prop := decimalPartsUptoRow.holds Tryz.pinned (OpenSpec.upto decimalPartsSpec)

/-- 'debenturelaw04.DecimalWhole', WHERE WHAT IT READS IS OF BULK AT MOST 1048576: true; the input reads as it did. -/
def decimalWholeUptoRow : OpenClaim := { program := "ytdibnolbichbmaagreatdoor", sum := "aaf3296df42945c0f788559bb72b023c4827066eac38d5acceeb0f0dc8ba9aca", func := "debenture/debenturelaw04.DecimalWhole", spec := "decimalWhole", inPlace := ["internal/bytealg.IndexByteString", "internal/bytealg.IndexString", "internal/abi.NoEscape", "internal/bytealg.MakeNoZero", "internal/bytealg.abigen_runtime_cmpstring"], unfollowed := true, recurses := true, named := ["internal/bytealg.MaxLen", "unicode/utf8.first", "unicode/utf8.acceptRanges", "debenture/decimal.powers"], apart := false, laid := [("unicode/utf8.acceptRanges", laid_unicode_utf8_acceptRanges), ("debenture/decimal.powers", laid_debenture_decimal_powers), ("unicode/utf8.first", laid_unicode_utf8_first)], narrowed := true }
def DecimalWholeUptoSaid : Prop := decimalWholeUptoRow.holds Tryz.pinned (OpenSpec.upto decimalWholeSpec)

end Rows
end Go.Proofs.YtdibnolbichbmaaGreatDoor

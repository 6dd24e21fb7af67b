/- The program's package word answers as the laws of layer 9 want; what the row's list of variables gives. -/
import Derived.Lib.LaidTab
import Derived.Test.YtcckifhloabpkaaDoorRows
import Derived.Test.YtcckifhloabpkaaDoorAllWdD
namespace Go.Proofs.YtcckifhloabpkaaDoor
open Go.RowKit
theorem wordC : WordC GoodL where
  below := fun h hb => h.below hb
  lex := fun s w hs hg => wlex_any s w hs hg
  print := fun p c ns w hc hn hp h _ => wprint_any p c ns w hc hn hp h
theorem gLongest : Tryd.prog.globalNamed "debenture/word.longest" = some 0 := by kernel_rfl
theorem gLongestType : (Tryd.prog.globals[0]?).map (·.type) = some 42 := by kernel_rfl
theorem cellsLongest : Tryd.prog.cellsOf 42 = 3 := by kernel_rfl
theorem cellsIntW : Tryd.prog.cellsOf 3 = 1 := by kernel_rfl
theorem goodL_of {r : List (String × DataW Unit)} {W : World} (hL : laidMet Tryd.prog (("debenture/word.longest", Rows.laid_debenture_word_longest) :: r) W) : GoodL W := by
  have h : Lib.TabIs Tryd.prog W "debenture/word.longest" .i64 [20, 100, 1] := Lib.tabIs_of_head (rest := r) gLongest gLongestType Tryd.underlying42 Tryd.underlying3 cellsIntW cellsLongest hL
  exact ⟨h.cell gLongest 0 (by decide), h.cell gLongest 1 (by decide), h.cell gLongest 2 (by decide)⟩
end Go.Proofs.YtcckifhloabpkaaDoor

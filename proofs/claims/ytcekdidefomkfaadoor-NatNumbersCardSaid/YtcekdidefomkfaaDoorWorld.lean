/- What the library's two package variables that matter here hold, in a law's world and behind whatever only makes new memory. -/
import Derived.LaidMore
import Derived.MakeChecks
import Derived.Stop.LaidErr
import Derived.Lib.LaidTab
import Derived.Lib.ItoaNum
import Derived.WalkSmall
import Derived.Test.YtcekdidefomkfaaDoorRows
namespace Go.Proofs.YtcekdidefomkfaaDoor
open Go.RowKit Go.ChangeShapes

/-- The table of powers of ten is there. -/
def GoodT (w : World) : Prop := Lib.TabIs Tryd.prog w "internal/strconv.uint64pow10" .u64 Lib.pow10Tab
theorem var_lt {P : Program} {W : World} {n : String} {cs : Array Value} {g : Nat} (hg : P.globalNamed n = some g) (h : W.var? P n = some cs) : g < W.heap.size := by
  rcases Nat.lt_or_ge g W.heap.size with h' | h'
  · exact h'
  · unfold World.var? at h
    simp [hg, Array.getElem?_eq_none h'] at h
theorem gTab : Tryd.prog.globalNamed "internal/strconv.uint64pow10" = some 3 := by kernel_rfl
theorem gTabType : (Tryd.prog.globals[3]?).map (·.type) = some 116 := by kernel_rfl
theorem cellsTab : Tryd.prog.cellsOf 116 = 20 := by kernel_rfl
theorem cellsU64 : Tryd.prog.cellsOf 62 = 1 := by kernel_rfl
theorem GoodT.below {w w' : World} (h : GoodT w) (hb : Below w.heap.size w w') : GoodT w' := var?_below hb gTab (var_lt gTab h) h
theorem tab_eq {H : Type} : (Rows.laid_internal_strconv_uint64pow10 : DataW H) = Lib.tabData .u64 Lib.pow10Tab := by kernel_rfl
theorem goodT_of {x0 x1 : String × DataW Unit} {r : List (String × DataW Unit)} {W : World} (h : laidMet Tryd.prog (x0 :: x1 :: ("internal/strconv.uint64pow10", Rows.laid_internal_strconv_uint64pow10) :: r) W) : GoodT W := by
  rw [tab_eq] at h
  exact Lib.tabIs_of_head gTab gTabType Tryd.underlying116 Tryd.underlying62 cellsU64 cellsTab h.tail.tail

/-- The sentinel is there. -/
def GoodE (w : World) : Prop := ∃ tp p, w.var? Tryd.prog "strconv.ErrRange" = some #[.iface tp p]
theorem gErr : Tryd.prog.globalNamed "strconv.ErrRange" = some 2 := by kernel_rfl
theorem gErrType : (Tryd.prog.globals[2]?).map (·.type) = some 52 := by kernel_rfl
theorem GoodE.below {w w' : World} (h : GoodE w) (hb : Below w.heap.size w w') : GoodE w' := by
  obtain ⟨tp, p, h⟩ := h
  exact ⟨tp, p, var?_below hb gErr (var_lt gErr h) h⟩
theorem star_err : "*" ++ "errors.errorString" = "*errors.errorString" := by decide
theorem row_err (u : TypeId) (h : Tryd.prog.typeName? 3 u = some "*errors.errorString") : u = 111 :=
  typeName_ptr_named (nm := "errors.errorString") (by rw [star_err]; kernel_rfl) (by kernel_rfl) (by decide) u (by rw [star_err]; exact h)
theorem cells_err : Tryd.prog.cellsOf 113 = 1 := by kernel_rfl
theorem cells_str : Tryd.prog.cellsOf 9 = 1 := by kernel_rfl
theorem goodE_of {x0 x1 x2 x3 : String × DataW Unit} {r : List (String × DataW Unit)} {W : World} (h : laidMet Tryd.prog (x0 :: x1 :: x2 :: x3 :: ("strconv.ErrRange", Rows.laid_strconv_ErrRange) :: r) W) : GoodE W := by
  obtain ⟨a, s, hv, _⟩ := laid_sentinel h.tail.tail.tail.tail gErr gErrType Tryd.underlying52 row_err Tryd.underlying111 Tryd.underlying113 rfl rfl Tryd.underlying9 cells_err cells_str
  exact ⟨_, _, hv⟩
end Go.Proofs.YtcekdidefomkfaaDoor

/- What the library's two package variables that matter here hold, in a law's world and behind whatever only makes new memory. -/
import Derived.LaidMore
import Derived.MakeChecks
import Derived.Stop.LaidErr
import Derived.Lib.LaidTab
import Derived.Lib.ItoaNum
import Derived.WalkSmall
import Derived.Test.YtcekdidefomkfaaDoorRows
import Derived.Test.YtcekdidefomkfaaDoorAllRef
namespace Go.Proofs.YtcekdidefomkfaaDoor
open Go.RowKit Go.ChangeShapes

/-- The table of powers of ten is there. -/
def GoodT (w : World) : Prop := Lib.TabIs Tryd.prog w "internal/strconv.uint64pow10" .u64 Lib.pow10Tab
theorem var_lt {P : Program} {W : World} {n : String} {cs : Array Value} {g : Nat} (hg : P.globalNamed n = some g) (h : W.var? P n = some cs) : g < W.heap.size := by
  rcases Nat.lt_or_ge g W.heap.size with h' | h'
  · exact h'
  · unfold World.var? at h
    simp [hg, Array.getElem?_eq_none h'] at h
theorem gTab : Tryd.prog.globalNamed "internal/strconv.uint64pow10" = some 3 := by kernel_rfl
theorem gTabType : (Tryd.prog.globals[3]?).map (·.type) = some 116 := by kernel_rfl
theorem cellsTab : Tryd.prog.cellsOf 116 = 20 := by kernel_rfl
theorem cellsU64 : Tryd.prog.cellsOf 62 = 1 := by kernel_rfl
theorem GoodT.below {w w' : World} (h : GoodT w) (hb : Below w.heap.size w w') : GoodT w' := var?_below hb gTab (var_lt gTab h) h
theorem tab_eq {H : Type} : (Rows.laid_internal_strconv_uint64pow10 : DataW H) = Lib.tabData .u64 Lib.pow10Tab := by kernel_rfl
theorem goodT_of {x0 x1 : String × DataW Unit} {r : List (String × DataW Unit)} {W : World} (h : laidMet Tryd.prog (x0 :: x1 :: ("internal/strconv.uint64pow10", Rows.laid_internal_strconv_uint64pow10) :: r) W) : GoodT W := by
  rw [tab_eq] at h
  exact Lib.tabIs_of_head gTab gTabType Tryd.underlying116 Tryd.underlying62 cellsU64 cellsTab h.tail.tail

/-- The sentinel is there. -/
def GoodE (w : World) : Prop := ∃ tp p, w.var? Tryd.prog "strconv.ErrRange" = some #[.iface tp p]
theorem gErr : Tryd.prog.globalNamed "strconv.ErrRange" = some 2 := by kernel_rfl
theorem gErrType : (Tryd.prog.globals[2]?).map (·.type) = some 52 := by kernel_rfl
theorem GoodE.below {w w' : World} (h : GoodE w) (hb : Below w.heap.size w w') : GoodE w' := by
  obtain ⟨tp, p, h⟩ := h
  exact ⟨tp, p, var?_below hb gErr (var_lt gErr h) h⟩
theorem star_err : "*" ++ "errors.errorString" = "*errors.errorString" := by decide
theorem row_err (u : TypeId) (h : Tryd.prog.typeName? 3 u = some "*errors.errorString") : u = 111 :=
  typeName_ptr_named (nm := "errors.errorString") (by rw [star_err]; kernel_rfl) (by kernel_rfl) (by decide) u (by rw [star_err]; exact h)
theorem cells_err : Tryd.prog.cellsOf 113 = 1 := by kernel_rfl
theorem cells_str : Tryd.prog.cellsOf 9 = 1 := by kernel_rfl
theorem goodE_of {x0 x1 x2 x3 : String × DataW Unit} {r : List (String × DataW Unit)} {W : World} (h : laidMet Tryd.prog (x0 :: x1 :: x2 :: x3 :: ("strconv.ErrRange", Rows.laid_strconv_ErrRange) :: r) W) : GoodE W := by
  obtain ⟨a, s, hv, _⟩ := laid_sentinel h.tail.tail.tail.tail gErr gErrType Tryd.underlying52 row_err Tryd.underlying111 Tryd.underlying113 rfl rfl Tryd.underlying9 cells_err cells_str
  exact ⟨_, _, hv⟩
end Go.Proofs.YtcekdidefomkfaaDoor

/- The fixed calls at the head of each statement of layer 1, and constants. -/
namespace Go.Proofs.YtcekdidefomkfaaDoor
open Go.RowKit

theorem addS_const {a b q : List UInt8} (h : (isNat a && isNat b && isNat q && decide (valS a + valS b = valS q)) = true) : addS a b = q := by
  simp only [Bool.and_eq_true, decide_eq_true_eq] at h
  obtain ⟨⟨⟨h1, h2⟩, h3⟩, h4⟩ := h
  unfold addS; rw [h1, h2, h4]; exact dig_valS h3
theorem mulS_const {a b q : List UInt8} (h : (isNat a && isNat b && isNat q && decide (valS a * valS b = valS q)) = true) : mulS a b = q := by
  simp only [Bool.and_eq_true, decide_eq_true_eq] at h
  obtain ⟨⟨⟨h1, h2⟩, h3⟩, h4⟩ := h
  unfold mulS; rw [h1, h2, h4]; exact dig_valS h3
theorem gcdS_const {a b q : List UInt8} (h : (isNat a && isNat b && isNat q && decide (Nat.gcd (valS a) (valS b) = valS q)) = true) : gcdS a b = q := by
  simp only [Bool.and_eq_true, decide_eq_true_eq] at h
  obtain ⟨⟨⟨h1, h2⟩, h3⟩, h4⟩ := h
  unfold gcdS; rw [h1, h2, h4]; exact dig_valS h3
theorem subS_const {a b q : List UInt8} (h : (isNat a && isNat b && isNat q && decide (valS b ≤ valS a) && decide (valS a - valS b = valS q)) = true) : subS a b = (q, true) := by
  simp only [Bool.and_eq_true, decide_eq_true_eq] at h
  obtain ⟨⟨⟨⟨h1, h2⟩, h3⟩, h4⟩, h5⟩ := h
  unfold subS; rw [h1, h2, decide_eq_true h4, h5, dig_valS h3]; rfl
theorem subS_none {a b : List UInt8} (h : (isNat a && isNat b && decide (valS b ≤ valS a)) = false) : subS a b = ([], false) := by
  unfold subS; rw [h]; rfl
theorem divS_const {a b q r : List UInt8} (h : (isNat a && isNat b && isNat q && isNat r && decide (0 < valS b) && decide (valS a / valS b = valS q) && decide (valS a % valS b = valS r)) = true) : divS a b = (q, r, true) := by
  simp only [Bool.and_eq_true, decide_eq_true_eq] at h
  obtain ⟨⟨⟨⟨⟨⟨h1, h2⟩, h3⟩, h4⟩, h5⟩, h6⟩, h7⟩ := h
  unfold divS; rw [h1, h2, decide_eq_true h5, h6, h7, dig_valS h3, dig_valS h4]; rfl
theorem divS_none {a b : List UInt8} (h : (isNat a && isNat b && decide (0 < valS b)) = false) : divS a b = ([], [], false) := by
  unfold divS; rw [h]; rfl
/-- A call's answer, and nothing that was there has turned. -/
def GiveB (w : World) (b : Bool) (e : Ending) (w' : World) : Prop := e = .returned (.bool b) ∧ Below w.heap.size w w'
theorem Below.more {u v w : World} (h : Below u.heap.size u v) (k : Below v.heap.size v w) : Below u.heap.size u w := h.trans (k.mono h.size)

theorem fx1 (w : World) : Calls Tryd.prog 20 #[.string ⟨#[49, 48, 48, 48, 48, 48, 48, 48, 48, 48, 48, 48, 48, 48, 48, 48, 48, 48, 48, 48, 48, 48]⟩, .string ⟨#[55]⟩] w (GiveSSB w ([49, 52, 50, 56, 53, 55, 49, 52, 50, 56, 53, 55, 49, 52, 50, 56, 53, 55, 49, 52, 50], [54], true)) := by
  have h := div_any ⟨#[49, 48, 48, 48, 48, 48, 48, 48, 48, 48, 48, 48, 48, 48, 48, 48, 48, 48, 48, 48, 48, 48]⟩ ⟨#[55]⟩ w (by decide) (by decide)
  rw [show divS ((⟨#[49, 48, 48, 48, 48, 48, 48, 48, 48, 48, 48, 48, 48, 48, 48, 48, 48, 48, 48, 48, 48, 48]⟩ : ByteArray)).data.toList ((⟨#[55]⟩ : ByteArray)).data.toList = ([49, 52, 50, 56, 53, 55, 49, 52, 50, 56, 53, 55, 49, 52, 50, 56, 53, 55, 49, 52, 50], [54], true) from divS_const (by decide)] at h
  exact h
theorem fx2 (w : World) : Calls Tryd.prog 20 #[.string ⟨#[55]⟩, .string ⟨#[48]⟩] w (GiveSSB w ([], [], false)) := by
  have h := div_any ⟨#[55]⟩ ⟨#[48]⟩ w (by decide) (by decide)
  rw [show divS ((⟨#[55]⟩ : ByteArray)).data.toList ((⟨#[48]⟩ : ByteArray)).data.toList = ([], [], false) from divS_none (by decide)] at h
  exact h
theorem fx3 (w : World) : Calls Tryd.prog 18 #[.string ⟨#[49, 48, 48, 48, 48]⟩, .string ⟨#[49]⟩] w (GiveSB w ([57, 57, 57, 57], true)) := by
  have h := sub_any ⟨#[49, 48, 48, 48, 48]⟩ ⟨#[49]⟩ w (by decide) (by decide)
  rw [show subS ((⟨#[49, 48, 48, 48, 48]⟩ : ByteArray)).data.toList ((⟨#[49]⟩ : ByteArray)).data.toList = ([57, 57, 57, 57], true) from subS_const (by decide)] at h
  exact h
theorem fx4 (w : World) : Calls Tryd.prog 18 #[.string ⟨#[49]⟩, .string ⟨#[50]⟩] w (GiveSB w ([], false)) := by
  have h := sub_any ⟨#[49]⟩ ⟨#[50]⟩ w (by decide) (by decide)
  rw [show subS ((⟨#[49]⟩ : ByteArray)).data.toList ((⟨#[50]⟩ : ByteArray)).data.toList = ([], false) from subS_none (by decide)] at h
  exact h
theorem fx5 (w : World) (he : GoodE w) : Calls Tryd.prog 22 #[.string ⟨#[57, 50, 50, 51, 51, 55, 50, 48, 51, 54, 56, 53, 52, 55, 55, 53, 56, 48, 55]⟩] w (GiveIB w (9223372036854775807, true)) := by
  obtain ⟨tp, p, hv⟩ := he
  have h := small_any ⟨#[57, 50, 50, 51, 51, 55, 50, 48, 51, 54, 56, 53, 52, 55, 55, 53, 56, 48, 55]⟩ w (by decide) tp p hv
  rw [show smallS ((⟨#[57, 50, 50, 51, 51, 55, 50, 48, 51, 54, 56, 53, 52, 55, 55, 53, 56, 48, 55]⟩ : ByteArray)).data.toList = (9223372036854775807, true) from by decide] at h
  exact h
theorem fx6 (w : World) (he : GoodE w) : Calls Tryd.prog 22 #[.string ⟨#[57, 50, 50, 51, 51, 55, 50, 48, 51, 54, 56, 53, 52, 55, 55, 53, 56, 48, 56]⟩] w (GiveIB w (0, false)) := by
  obtain ⟨tp, p, hv⟩ := he
  have h := small_any ⟨#[57, 50, 50, 51, 51, 55, 50, 48, 51, 54, 56, 53, 52, 55, 55, 53, 56, 48, 56]⟩ w (by decide) tp p hv
  rw [show smallS ((⟨#[57, 50, 50, 51, 51, 55, 50, 48, 51, 54, 56, 53, 52, 55, 55, 53, 56, 48, 56]⟩ : ByteArray)).data.toList = (0, false) from by decide] at h
  exact h
theorem fx7 (w : World) : Calls Tryd.prog 30 #[.string ⟨#[57, 57, 57, 57]⟩, .string ⟨#[49]⟩] w (GiveS w [49, 48, 48, 48, 48]) := by
  have h := add_any ⟨#[57, 57, 57, 57]⟩ ⟨#[49]⟩ w (by decide) (by decide)
  rw [show addS ((⟨#[57, 57, 57, 57]⟩ : ByteArray)).data.toList ((⟨#[49]⟩ : ByteArray)).data.toList = [49, 48, 48, 48, 48] from addS_const (by decide)] at h
  exact h
theorem fx8 (w : World) : Calls Tryd.prog 32 #[.string ⟨#[57, 57, 57, 57, 57]⟩, .string ⟨#[57, 57, 57, 57, 57]⟩] w (GiveS w [57, 57, 57, 57, 56, 48, 48, 48, 48, 49]) := by
  have h := mul_any ⟨#[57, 57, 57, 57, 57]⟩ ⟨#[57, 57, 57, 57, 57]⟩ w (by decide) (by decide)
  rw [show mulS ((⟨#[57, 57, 57, 57, 57]⟩ : ByteArray)).data.toList ((⟨#[57, 57, 57, 57, 57]⟩ : ByteArray)).data.toList = [57, 57, 57, 57, 56, 48, 48, 48, 48, 49] from mulS_const (by decide)] at h
  exact h
theorem fx9 (w : World) : Calls Tryd.prog 34 #[.string ⟨#[49, 50]⟩, .string ⟨#[49, 56]⟩] w (GiveS w [54]) := by
  have h := gcd_any ⟨#[49, 50]⟩ ⟨#[49, 56]⟩ w (by decide) (by decide)
  rw [show gcdS ((⟨#[49, 50]⟩ : ByteArray)).data.toList ((⟨#[49, 56]⟩ : ByteArray)).data.toList = [54] from gcdS_const (by decide)] at h
  exact h
theorem fx10 (w : World) : Calls Tryd.prog 34 #[.string ⟨#[48]⟩, .string ⟨#[53]⟩] w (GiveS w [53]) := by
  have h := gcd_any ⟨#[48]⟩ ⟨#[53]⟩ w (by decide) (by decide)
  rw [show gcdS ((⟨#[48]⟩ : ByteArray)).data.toList ((⟨#[53]⟩ : ByteArray)).data.toList = [53] from gcdS_const (by decide)] at h
  exact h
theorem fx11 (w : World) : Calls Tryd.prog 28 #[.string ⟨#[57]⟩, .string ⟨#[49, 48]⟩] w fun e w' => e = .returned (.int .i64 (-1)) ∧ w = w' := by
  have h := cmp_any ⟨#[57]⟩ ⟨#[49, 48]⟩ w (by decide) (by decide)
  rw [show cmpS ((⟨#[57]⟩ : ByteArray)).data.toList ((⟨#[49, 48]⟩ : ByteArray)).data.toList = -1 from by decide] at h
  exact h
theorem fx12 (w : World) : Calls Tryd.prog 24 #[.string ⟨#[48]⟩] w fun e w' => e = .returned (.bool true) ∧ w = w' := by
  have h := may_any ⟨#[48]⟩ w (by decide)
  rw [show isNat ((⟨#[48]⟩ : ByteArray)).data.toList = true from by decide] at h
  exact h
theorem fx13 (w : World) : Calls Tryd.prog 24 #[.string ⟨#[48, 49]⟩] w fun e w' => e = .returned (.bool false) ∧ w = w' := by
  have h := may_any ⟨#[48, 49]⟩ w (by decide)
  rw [show isNat ((⟨#[48, 49]⟩ : ByteArray)).data.toList = false from by decide] at h
  exact h
theorem fx14 (w : World) (ht : GoodT w) : Calls Tryd.prog 26 #[.int .i64 7] w (GiveS w [55]) := by
  have h := of_any 7 w (by decide) (by decide) ht
  rw [show ofS 7 = [55] from (by unfold ofS; rw [if_neg (by decide)]; exact dig_valS (l := [55]) (by decide))] at h
  exact h
theorem fx15 (w : World) : Calls Tryd.prog 30 #[.string ⟨#[]⟩, .string ⟨#[49]⟩] w (GiveS w []) := by
  have h := add_any ⟨#[]⟩ ⟨#[49]⟩ w (by decide) (by decide)
  rw [show addS ((⟨#[]⟩ : ByteArray)).data.toList ((⟨#[49]⟩ : ByteArray)).data.toList = [] from rfl] at h
  exact h

set_option maxRecDepth 100000 in
set_option maxHeartbeats 1000000 in
theorem fixed1_any (w : World) (ht : GoodT w) (he : GoodE w) :
    Calls Tryd.prog 17 #[] w (GiveB w true) := by
  have HT := Lib.hid ht; have HE := Lib.hid he
  clear ht he
  go_enter Tryd.func17, Tryd.ntmps17
  go_wp2_with fail
  refine (fx1 _).mono ?_
  rintro e w1 ⟨rfl, b⟩
  have B1 := b
  clear b
  go_wp2_with fail
  refine (fx2 _).mono ?_
  rintro e w2 ⟨rfl, b⟩
  have B2 := Below.more B1 b
  clear b
  go_wp2_with fail
  refine (fx3 _).mono ?_
  rintro e w3 ⟨rfl, b⟩
  have B3 := Below.more B2 b
  clear b
  go_wp2_with fail
  refine (fx4 _).mono ?_
  rintro e w4 ⟨rfl, b⟩
  have B4 := Below.more B3 b
  clear b
  go_wp2_with fail
  refine (fx5 _ (HE.out.below B4)).mono ?_
  rintro e w5 ⟨rfl, b⟩
  have B5 := Below.more B4 b
  clear b
  go_wp2_with fail
  refine (fx6 _ (HE.out.below B5)).mono ?_
  rintro e w6 ⟨rfl, b⟩
  have B6 := Below.more B5 b
  clear b
  go_wp2_with fail
  refine (fx7 _).mono ?_
  rintro e w7 ⟨rfl, b⟩
  have B7 := Below.more B6 b
  clear b
  go_wp2_with fail
  refine (fx8 _).mono ?_
  rintro e w8 ⟨rfl, b⟩
  have B8 := Below.more B7 b
  clear b
  go_wp2_with fail
  refine (fx9 _).mono ?_
  rintro e w9 ⟨rfl, b⟩
  have B9 := Below.more B8 b
  clear b
  go_wp2_with fail
  refine (fx10 _).mono ?_
  rintro e w10 ⟨rfl, b⟩
  have B10 := Below.more B9 b
  clear b
  go_wp2_with fail
  refine (fx11 _).mono ?_
  rintro e w' ⟨rfl, rfl⟩
  go_wp2_with fail
  refine (fx12 _).mono ?_
  rintro e w' ⟨rfl, rfl⟩
  go_wp2_with fail
  refine (fx13 _).mono ?_
  rintro e w' ⟨rfl, rfl⟩
  go_wp2_with fail
  refine (fx14 _ (HT.out.below B10)).mono ?_
  rintro e w11 ⟨rfl, b⟩
  have B11 := Below.more B10 b
  clear b
  go_wp2_with fail
  refine (fx15 _).mono ?_
  rintro e w12 ⟨rfl, b⟩
  have B12 := Below.more B11 b
  clear b
  go_wp2_with fail
  go_ret
  exact ⟨rfl, B12⟩
end Go.Proofs.YtcekdidefomkfaaDoor

/- nat's calls on the digits of numbers. -/
namespace Go.Proofs.YtcekdidefomkfaaDoor
open Go.RowKit

/-- A number of at most k digits, and k is not too great. -/
structure Lt (a k : Nat) : Prop where
  lt : a < 10 ^ k
  pos : 0 < k
  le : k ≤ 900000
theorem Lt.len {a k : Nat} (h : Lt a k) : (dig a).length ≤ 900000 := Nat.le_trans (dig_length h.pos h.lt) h.le
theorem Lt.size {a k : Nat} (h : Lt a k) : (⟨(dig a).toArray⟩ : ByteArray).size ≤ 900000 := by rw [size_dig]; exact h.len
theorem Lt.add {a b j k : Nat} (ha : Lt a j) (hb : Lt b k) (h : j + k + 1 ≤ 900000) : Lt (a + b) (j + k + 1) := ⟨add_lt ha.lt hb.lt, Nat.succ_pos _, h⟩
theorem Lt.mul {a b j k : Nat} (ha : Lt a j) (hb : Lt b k) (h : j + k ≤ 900000) : Lt (a * b) (j + k) := ⟨mul_lt ha.lt hb.lt, Nat.add_pos_left ha.pos _, h⟩
theorem Lt.mono {a b k : Nat} (ha : Lt a k) (h : b ≤ a) : Lt b k := ⟨Nat.lt_of_le_of_lt h ha.lt, ha.pos, ha.le⟩
theorem Lt.of_text {s : ByteArray} {k : Nat} (h : isNat s.data.toList = true) (hs : s.size ≤ k) (h0 : 0 < k) (hk : k ≤ 900000) : Lt (valS s.data.toList) k :=
  ⟨Nat.lt_of_lt_of_le (nat_lt h) (Nat.pow_le_pow_right (by decide) hs), h0, hk⟩

section
variable {a b j k : Nat}
theorem nAdd {x : Nat} (ha : Lt a j) (hb : Lt b k) (h : a + b = x) (w : World) :
    Calls Tryd.prog 30 #[.string ⟨(dig a).toArray⟩, .string ⟨(dig b).toArray⟩] w (GiveS w (dig x)) := by
  have c := add_any ⟨(dig a).toArray⟩ ⟨(dig b).toArray⟩ w (Nat.le_trans ha.size (by decide)) (Nat.le_trans hb.size (by decide))
  have e : addS (⟨(dig a).toArray⟩ : ByteArray).data.toList (⟨(dig b).toArray⟩ : ByteArray).data.toList = dig x := by
    show addS (dig a) (dig b) = _
    unfold addS; rw [isNat_dig, isNat_dig, valS_dig, valS_dig, h]; rfl
  rw [e] at c; exact c
theorem nMul {x : Nat} (ha : Lt a j) (hb : Lt b k) (h : a * b = x) (w : World) :
    Calls Tryd.prog 32 #[.string ⟨(dig a).toArray⟩, .string ⟨(dig b).toArray⟩] w (GiveS w (dig x)) := by
  have c := mul_any ⟨(dig a).toArray⟩ ⟨(dig b).toArray⟩ w (Nat.le_trans ha.size (by decide)) (Nat.le_trans hb.size (by decide))
  have e : mulS (⟨(dig a).toArray⟩ : ByteArray).data.toList (⟨(dig b).toArray⟩ : ByteArray).data.toList = dig x := by
    show mulS (dig a) (dig b) = _
    unfold mulS; rw [isNat_dig, isNat_dig, valS_dig, valS_dig, h]; rfl
  rw [e] at c; exact c
theorem nGcd {x : Nat} (ha : Lt a j) (hb : Lt b k) (h : Nat.gcd a b = x) (w : World) :
    Calls Tryd.prog 34 #[.string ⟨(dig a).toArray⟩, .string ⟨(dig b).toArray⟩] w (GiveS w (dig x)) := by
  have c := gcd_any ⟨(dig a).toArray⟩ ⟨(dig b).toArray⟩ w (Nat.le_trans ha.size (by decide)) (Nat.le_trans hb.size (by decide))
  have e : gcdS (⟨(dig a).toArray⟩ : ByteArray).data.toList (⟨(dig b).toArray⟩ : ByteArray).data.toList = dig x := by
    show gcdS (dig a) (dig b) = _
    unfold gcdS; rw [isNat_dig, isNat_dig, valS_dig, valS_dig, h]; rfl
  rw [e] at c; exact c
theorem nSub {x : Nat} (ha : Lt a j) (hb : Lt b k) (hle : b ≤ a) (h : a - b = x) (w : World) :
    Calls Tryd.prog 18 #[.string ⟨(dig a).toArray⟩, .string ⟨(dig b).toArray⟩] w (GiveSB w (dig x, true)) := by
  have c := sub_any ⟨(dig a).toArray⟩ ⟨(dig b).toArray⟩ w (Nat.le_trans ha.size (by decide)) (Nat.le_trans hb.size (by decide))
  have e : subS (⟨(dig a).toArray⟩ : ByteArray).data.toList (⟨(dig b).toArray⟩ : ByteArray).data.toList = (dig x, true) := by
    show subS (dig a) (dig b) = _
    unfold subS; rw [isNat_dig, isNat_dig, valS_dig, valS_dig, decide_eq_true hle, h]; rfl
  rw [e] at c; exact c
theorem nSubNo (ha : Lt a j) (hb : Lt b k) (hlt : a < b) (w : World) :
    Calls Tryd.prog 18 #[.string ⟨(dig a).toArray⟩, .string ⟨(dig b).toArray⟩] w (GiveSB w ([], false)) := by
  have c := sub_any ⟨(dig a).toArray⟩ ⟨(dig b).toArray⟩ w (Nat.le_trans ha.size (by decide)) (Nat.le_trans hb.size (by decide))
  have e : subS (⟨(dig a).toArray⟩ : ByteArray).data.toList (⟨(dig b).toArray⟩ : ByteArray).data.toList = ([], false) := by
    show subS (dig a) (dig b) = _
    unfold subS; rw [isNat_dig, isNat_dig, valS_dig, valS_dig, decide_eq_false (by omega)]; rfl
  rw [e] at c; exact c
theorem nDiv {q r : Nat} (ha : Lt a j) (hb : Lt b k) (h0 : 0 < b) (hq : a / b = q) (hr : a % b = r) (w : World) :
    Calls Tryd.prog 20 #[.string ⟨(dig a).toArray⟩, .string ⟨(dig b).toArray⟩] w (GiveSSB w (dig q, dig r, true)) := by
  have c := div_any ⟨(dig a).toArray⟩ ⟨(dig b).toArray⟩ w (Nat.le_trans ha.size (by decide)) (Nat.le_trans hb.size (by decide))
  have e : divS (⟨(dig a).toArray⟩ : ByteArray).data.toList (⟨(dig b).toArray⟩ : ByteArray).data.toList = (dig q, dig r, true) := by
    show divS (dig a) (dig b) = _
    unfold divS; rw [isNat_dig, isNat_dig, valS_dig, valS_dig, decide_eq_true h0, hq, hr]; rfl
  rw [e] at c; exact c
theorem nDivNo (ha : Lt a j) (hb : Lt b k) (h0 : b = 0) (w : World) :
    Calls Tryd.prog 20 #[.string ⟨(dig a).toArray⟩, .string ⟨(dig b).toArray⟩] w (GiveSSB w ([], [], false)) := by
  have c := div_any ⟨(dig a).toArray⟩ ⟨(dig b).toArray⟩ w (Nat.le_trans ha.size (by decide)) (Nat.le_trans hb.size (by decide))
  have e : divS (⟨(dig a).toArray⟩ : ByteArray).data.toList (⟨(dig b).toArray⟩ : ByteArray).data.toList = ([], [], false) := by
    show divS (dig a) (dig b) = _
    unfold divS; rw [isNat_dig, isNat_dig, valS_dig, valS_dig, decide_eq_false (by omega)]; rfl
  rw [e] at c; exact c
theorem nCmp {c : Int} (ha : Lt a j) (hb : Lt b k) (h : cmpN a b = c) (w : World) :
    Calls Tryd.prog 28 #[.string ⟨(dig a).toArray⟩, .string ⟨(dig b).toArray⟩] w fun e w' => e = .returned (.int .i64 c) ∧ w = w' := by
  have c := cmp_any ⟨(dig a).toArray⟩ ⟨(dig b).toArray⟩ w (Nat.le_trans ha.size (by decide)) (Nat.le_trans hb.size (by decide))
  have e : cmpS (⟨(dig a).toArray⟩ : ByteArray).data.toList (⟨(dig b).toArray⟩ : ByteArray).data.toList = cmpN a b := by
    show cmpS (dig a) (dig b) = _
    rw [cmpS_nat (isNat_dig a) (isNat_dig b), valS_dig, valS_dig]
  rw [e, h] at c; exact c
theorem nMay (ha : Lt a j) (w : World) :
    Calls Tryd.prog 25 #[.string ⟨(dig a).toArray⟩] w fun e w' => e = .returned (.bool true) ∧ w = w' := by
  have c := rmay_any ⟨(dig a).toArray⟩ w (Nat.le_trans ha.size (by decide))
  have e : isNat (⟨(dig a).toArray⟩ : ByteArray).data.toList = true := isNat_dig a
  rw [e] at c; exact c
end
theorem cmpN_eq (a : Nat) : cmpN a a = 0 := by unfold cmpN; simp
theorem cmpN_gt {m n : Nat} (h : n < m) : cmpN m n = 1 := by unfold cmpN; rw [if_neg (by omega), if_neg (by omega)]
theorem dig_inj {m n : Nat} (h : dig m = dig n) : m = n := by rw [← valS_dig m, h, valS_dig]
theorem dig_beq {m n : Nat} (h : m ≠ n) : (dig m == dig n) = false := beq_false_of_ne (fun e => h (dig_inj e))
theorem dig_neq {m n : Nat} (h : m ≠ n) : ¬ dig m = dig n := fun e => h (dig_inj e)
theorem dig_0 : dig 0 = [48] := by rw [dig_small (by decide)]; rfl
theorem dig_1 : dig 1 = [49] := by rw [dig_small (by decide)]; rfl
theorem dig_e (n : Nat) : (dig n).isEmpty = false := by rw [List.isEmpty_eq_false_iff]; exact dig_ne n
theorem dig_eB (n : Nat) : (dig n == []) = false := beq_false_of_ne (dig_ne n)

def two (s t : ByteArray) (j : Nat) : ByteArray := if j = 0 then s else t
theorem strs_two (w : World) (s t : ByteArray) (ty : TypeId) : Strs (w.alloc (.cells #[.string s, .string t] ty)) w.heap.size 2 (two s t) := fun j hj => by
  rw [cell_of_row _ _ _ _ _ _ (World.alloc_heap_new w _)]
  match j, hj with
  | 0, _ => rfl
  | 1, _ => rfl
theorem short_two {s t : ByteArray} (h : s.size ≤ 200 ∧ t.size ≤ 200) : shortF (two s t) 2 = true := shortF_true (fun j hj => by
  match j, hj with
  | 0, _ => exact h.1
  | 1, _ => exact h.2)
theorem long_two {s t : ByteArray} (h : ¬ (s.size ≤ 200 ∧ t.size ≤ 200)) : shortF (two s t) 2 = false := by
  by_cases h1 : s.size ≤ 200
  · exact shortF_false (j := 1) (by decide) (by show 200 < t.size; omega)
  · exact shortF_false (j := 0) (by decide) (by show 200 < s.size; omega)
/-- Short of two texts, in the block that the law has just laid. -/
theorem short2_any {s t : ByteArray} {b : Bool} (h : shortF (two s t) 2 = b) (w : World) :
    Calls Tryd.prog 16 #[.slice (some ⟨w.heap.size, 0, none⟩) 2 2] (w.alloc (.cells #[.string s, .string t] 9)) fun e w' => e = .returned (.bool b) ∧ Below w.heap.size w w' :=
  (short_any _ w.heap.size 2 2 (two s t) (by decide) (by decide) (strs_two w s t _)).mono fun _ _ ⟨he, hw⟩ => ⟨by rw [he, h], by rw [← hw]; exact (Below.refl _ w).alloc (Nat.le_refl _) _⟩

/-- Three texts. -/
def three (s t u : ByteArray) (j : Nat) : ByteArray := if j = 0 then s else if j = 1 then t else u
theorem strs_three (w : World) (s t u : ByteArray) (ty : TypeId) : Strs (w.alloc (.cells #[.string s, .string t, .string u] ty)) w.heap.size 3 (three s t u) := fun j hj => by
  rw [cell_of_row _ _ _ _ _ _ (World.alloc_heap_new w _)]
  match j, hj with
  | 0, _ => rfl
  | 1, _ => rfl
  | 2, _ => rfl
theorem short_three {s t u : ByteArray} (h : s.size ≤ 200 ∧ t.size ≤ 200 ∧ u.size ≤ 200) : shortF (three s t u) 3 = true := shortF_true (fun j hj => by
  match j, hj with
  | 0, _ => exact h.1
  | 1, _ => exact h.2.1
  | 2, _ => exact h.2.2)
theorem long_three {s t u : ByteArray} (h : ¬ (s.size ≤ 200 ∧ t.size ≤ 200 ∧ u.size ≤ 200)) : shortF (three s t u) 3 = false := by
  by_cases h1 : s.size ≤ 200
  · by_cases h2 : t.size ≤ 200
    · exact shortF_false (j := 2) (by decide) (by show 200 < u.size; omega)
    · exact shortF_false (j := 1) (by decide) (by show 200 < t.size; omega)
  · exact shortF_false (j := 0) (by decide) (by show 200 < s.size; omega)
theorem short3_any {s t u : ByteArray} {b : Bool} (h : shortF (three s t u) 3 = b) (w : World) :
    Calls Tryd.prog 16 #[.slice (some ⟨w.heap.size, 0, none⟩) 3 3] (w.alloc (.cells #[.string s, .string t, .string u] 9)) fun e w' => e = .returned (.bool b) ∧ Below w.heap.size w w' :=
  (short_any _ w.heap.size 3 3 (three s t u) (by decide) (by decide) (strs_three w s t u _)).mono fun _ _ ⟨he, hw⟩ => ⟨by rw [he, h], by rw [← hw]; exact (Below.refl _ w).alloc (Nat.le_refl _) _⟩
end Go.Proofs.YtcekdidefomkfaaDoor

/- nat.digits; nat's calls on texts. -/
import Derived.Deep.QuietTactic
import Derived.BigQuiet
import Derived.Lib.AtoiErrMem
import Derived.Test.YtcckifhloabpkaaDoorAllRead
import Derived.Test.YtcckifhloabpkaaDoorShelf
/- nat.digits: the text of a number's limbs. -/
namespace Go.Proofs.YtcckifhloabpkaaDoor
open Go.RowKit

/-- A row of n bytes that may be written. -/
def ByF (w : World) (b n : Nat) : Prop := ∀ j, j < n → (∃ x, w.cell? ⟨b, j, none⟩ = some (.int .u8 x)) ∧ w.frozen? ⟨b, j, none⟩ = false
/-- From behind, q digits stand there. -/
def Tx (w : World) (b n : Nat) (f : Nat → Nat) (q : Nat) : Prop := ∀ j, j < n → n - 1 - j < q → w.cell? ⟨b, j, none⟩ = some (.int .u8 ((48 + f (n - 1 - j) : Nat) : Int))
structure MadeB (w w' : World) (n : Nat) : Prop where
  size : w'.heap.size = w.heap.size + 1
  row : ByF w' w.heap.size n
  below : Below w.heap.size w w'
theorem madeB (w : World) (n t : Nat) : MadeB w (w.alloc (.cells (madeCells #[.int .u8 0] n) t)) n := by
  have hb := World.alloc_heap_new w (.cells (madeCells #[.int .u8 0] n) t)
  have hl : (madeCells #[Value.int .u8 0] n).toList = List.replicate n (.int .u8 0) := toList_madeCells_one _ _
  refine ⟨by simp, fun j hj => ⟨⟨0, ?_⟩, ?_⟩, (Below.refl _ _).alloc (Nat.le_refl _) _⟩
  · rw [cell_of_row _ _ _ _ _ _ hb, ← Array.getElem?_toList, hl]
    simp [hj]
  · unfold World.frozen?
    rw [hb]
    simp
theorem info_u8 : (Tryd.prog.info? 5).map (fun i => (i.zero, i.size, i.bytes)) = some (some (.int .u8 0), 1, 1) := by kernel_rfl
theorem wpList_make_bytes (w : World) {ops : Array Oper} {rest : List Oper} {o : Oper} {a : Act} {Q : Exit → Act → World → Prop}
    (hg : o.guard = none) (l c : Operand) (hop : o.op = Op.makeSlice 57 l c) (kl kc : IntKind) (L C : Int) (n : Nat) (hl : a.eval l = .int kl L) (hc : a.eval c = .int kc C) (hL : L = (n : Int)) (hC : C = (n : Int))
    (h : n ≤ 281474976710656) (hK : ∀ w', MadeB w w' n → wpList Tryd.prog ops Q rest (a.put o.dst (.slice (some ⟨w.heap.size, 0, none⟩) n n)) w') :
    wpList Tryd.prog ops Q (o :: rest) a w := by
  obtain ⟨i, hi, hz0, hz1, hz2⟩ := info_parts info_u8
  subst hL
  subst hC
  exact wpList_make_row w hg l c 57 hop 5 i (.int .u8 0) Tryd.underlying57 hi hz0 hz1 rfl kl kc n hl hc (by rw [hz2]; omega) (by omega) (hK _ (madeB w n 5))

theorem ByF.set {w : World} {b n : Nat} (h : ByF w b n) {i : Nat} (x : Int) (hi : i < n) : ByF (w.setCell ⟨b, i, none⟩ (.int .u8 x)) b n := fun j hj => by
  refine ⟨?_, (World.frozen?_setCell _ _ _ _).trans (h j hj).2⟩
  by_cases e : i = j
  · subst e
    obtain ⟨y, hy⟩ := (h i hi).1
    exact ⟨x, World.cell?_setCell_same' _ _ _ (by rw [hy]; rfl)⟩
  · rw [cell?_setCell_ne _ _ _ _ _ e]
    exact (h j hj).1
theorem Tx.set {w : World} {b n : Nat} {f : Nat → Nat} {q i : Nat} (h : Tx w b n f q) (hb : ByF w b n) (hi : i < n) (hq : n - 1 - i = q) : Tx (w.setCell ⟨b, i, none⟩ (.int .u8 ((48 + f q : Nat) : Int))) b n f (q + 1) := fun j hj hjq => by
  by_cases e : i = j
  · subst e
    obtain ⟨y, hy⟩ := (hb i hi).1
    rw [World.cell?_setCell_same' _ _ _ (by rw [hy]; rfl), hq]
  · rw [cell?_setCell_ne _ _ _ _ _ e]
    exact h j hj (by omega)
theorem addr_add (b j : Nat) : (⟨b, 0, none⟩ : Addr).add j = ⟨b, j, none⟩ := by
  unfold Addr.add
  by_cases h : j = 0
  · subst h; rfl
  · rw [if_neg h, Nat.zero_add]
theorem ret_str {a b : ByteArray} (h : a = b) : Ending.returned (.string a) = .returned (.string b) := by rw [h]
theorem Tx.cells {w : World} {b n : Nat} {f : Nat → Nat} (hf : ∀ q, f q < 10) (h : Tx w b n f n) (j : Nat) (hj : j < (txt f n).length) :
    w.cell? ((⟨b, 0, none⟩ : Addr).add j) = some (.int .u8 (((txt f n)[j]).toNat : Int)) := by
  have hj' : j < n := by rwa [txt_length] at hj
  have h1 := h j hj' (by omega)
  have h2 := gb_txt f hj'
  unfold gb at h2
  rw [List.getElem?_eq_getElem hj] at h2
  have h3 : (txt f n)[j] = UInt8.ofNat (48 + f (n - 1 - j)) := h2
  rw [h3, toNat_dg (hf _)]
  rw [addr_add, h1]
theorem dig_zero : (dig 0).toArray = #[48] := by rw [dig_small (by omega)]; rfl

end Go.Proofs.YtcckifhloabpkaaDoor

/- nat's calls on texts: Add, Mul, Gcd. -/
namespace Go.Proofs.YtcckifhloabpkaaDoor
open Go.RowKit

theorem big_of_lt {n e : Nat} (h : n < 10 ^ e) (he : e ≤ 9663676416) : Big n :=
  ⟨Nat.lt_of_lt_of_le h (by rw [← pow_nine]; exact Nat.pow_le_pow_right (by decide) (by rw [top_eq]; omega))⟩
theorem isNat_all {l : List UInt8} (h : isNat l = true) : l.all isDig = true := by
  unfold isNat at h
  simp only [Bool.and_eq_true] at h
  exact h.2
theorem isNat_pos {l : List UInt8} (h : isNat l = true) : 0 < l.length := by
  cases l with
  | nil => cases h
  | cons c r => simp
theorem nat_lt {s : ByteArray} (h : isNat s.data.toList = true) : valS s.data.toList < 10 ^ s.size := valS_lt (isNat_all h)
theorem nat_size {s : ByteArray} (h : isNat s.data.toList = true) : 0 < s.size := isNat_pos h
theorem nat_big {s : ByteArray} (h : isNat s.data.toList = true) (hs : s.size ≤ 1000000000) : Big (valS s.data.toList) := big_of_lt (nat_lt h) (by omega)
theorem add_lt {m n a b : Nat} (h1 : m < 10 ^ a) (h2 : n < 10 ^ b) : m + n < 10 ^ (a + b + 1) := by
  have e1 : 10 ^ a ≤ 10 ^ (a + b) := Nat.pow_le_pow_right (by decide) (by omega)
  have e2 : 10 ^ b ≤ 10 ^ (a + b) := Nat.pow_le_pow_right (by decide) (by omega)
  rw [Nat.pow_succ]
  omega
theorem mul_lt {m n a b : Nat} (h1 : m < 10 ^ a) (h2 : n < 10 ^ b) : m * n < 10 ^ (a + b) := by
  rw [Nat.pow_add]
  exact Nat.mul_lt_mul'' h1 h2
theorem gcd_lt {m n a b : Nat} (h1 : m < 10 ^ a) (h2 : n < 10 ^ b) : Nat.gcd m n < 10 ^ (a + b + 1) := by
  have h3 := add_lt h1 h2
  rcases Nat.eq_zero_or_pos m with h | h
  · subst h; rw [Nat.gcd_zero_left]; omega
  · have := Nat.le_of_dvd h (Nat.gcd_dvd_left m n)
    omega

/-- A text comes back; what was there is as it was. -/
def GiveS (w : World) (l : List UInt8) (e : Ending) (w' : World) : Prop := e = .returned (.string ⟨l.toArray⟩) ∧ Below w.heap.size w w'
def addS (l r : List UInt8) : List UInt8 := if isNat l && isNat r then dig (valS l + valS r) else []
def mulS (l r : List UInt8) : List UInt8 := if isNat l && isNat r then dig (valS l * valS r) else []
def gcdS (l r : List UInt8) : List UInt8 := if isNat l && isNat r then dig (Nat.gcd (valS l) (valS r)) else []



end Go.Proofs.YtcckifhloabpkaaDoor

/- nat's calls on texts: Cmp, Sub, Div. -/
namespace Go.Proofs.YtcckifhloabpkaaDoor
open Go.RowKit

def cmpS (l r : List UInt8) : Int := if isNat l && isNat r then cmpN (valS l) (valS r) else 0

/-- A text, and whether there is one. -/
def GiveSB (w : World) (x : List UInt8 × Bool) (e : Ending) (w' : World) : Prop := e = .returned (.tuple #[.string ⟨x.1.toArray⟩, .bool x.2]) ∧ Below w.heap.size w w'
def subS (l r : List UInt8) : List UInt8 × Bool := if (isNat l && isNat r) && decide (valS r ≤ valS l) then (dig (valS l - valS r), true) else ([], false)
/-- Two texts, and whether there are. -/
def GiveSSB (w : World) (x : List UInt8 × List UInt8 × Bool) (e : Ending) (w' : World) : Prop := e = .returned (.tuple #[.string ⟨x.1.toArray⟩, .string ⟨x.2.1.toArray⟩, .bool x.2.2]) ∧ Below w.heap.size w w'
def divS (l r : List UInt8) : List UInt8 × List UInt8 × Bool := if (isNat l && isNat r) && decide (0 < valS r) then (dig (valS l / valS r), dig (valS l % valS r), true) else ([], [], false)
theorem nat_zero {l : List UInt8} (h : isNat l = true) (h0 : valS l = 0) : l = [48] := by
  have := dig_valS h
  rw [h0, dig_small (by omega)] at this
  exact this.symm
theorem cmpS_nat {l r : List UInt8} (h1 : isNat l = true) (h2 : isNat r = true) : cmpS l r = cmpN (valS l) (valS r) := by unfold cmpS; rw [h1, h2]; rfl

end Go.Proofs.YtcckifhloabpkaaDoor

/- nat.Div on texts. -/
namespace Go.Proofs.YtcckifhloabpkaaDoor
open Go.RowKit

end Go.Proofs.YtcckifhloabpkaaDoor

/- nat.Small, nat.Of. -/
namespace Go.Proofs.YtcckifhloabpkaaDoor
open Go.RowKit

/-- The number that a text is, and whether an int holds it. -/
def GiveIB (w : World) (x : Int × Bool) (e : Ending) (w' : World) : Prop := e = .returned (.tuple #[.int .i64 x.1, .bool x.2]) ∧ Below w.heap.size w w'
def smallS (l : List UInt8) : Int × Bool := if isNat l && decide (valS l ≤ 9223372036854775807) then ((valS l : Int), true) else (0, false)


def ofS (n : Int) : List UInt8 := if n < 0 then [] else dig n.toNat

end Go.Proofs.YtcckifhloabpkaaDoor

/- Words for slices of limbs in memory: what they hold, what writes keep. Own work; no program text. -/
import Derived.WalkKit
import Derived.WalkSpells
import Derived.WalkLawsBesides
import Derived.RangeFuncBox
import Derived.Deep.OwnRows
import Derived.Lib.Hide
import Derived.Test.YtcekdidefomkfaaDoorNumA
namespace Go.Proofs.YtcekdidefomkfaaDoor
open Go.RowKit

theorem ret_int {k : IntKind} {a b : Int} (h : a = b) : Ending.returned (.int k a) = .returned (.int k b) := by rw [h]

/-- The cells from off on, in block b, hold xs. -/
def Arr (w : World) (b off : Nat) (xs : List Nat) : Prop :=
  ∀ j, j < xs.length → w.cell? ⟨b, off + j, none⟩ = some (.int .u64 ((gl xs j : Nat) : Int))

/-- Every cell from off on, n of them, may be written. -/
def Free (w : World) (b off n : Nat) : Prop := ∀ j, j < n → w.frozen? ⟨b, off + j, none⟩ = false

/-- v reads as the limbs xs; what it reads lies in blocks that are there. -/
def Lim (w : World) (v : Value) (xs : List Nat) : Prop :=
  Small xs ∧ ((v = .slice none 0 0 ∧ xs = []) ∨
    ∃ b off cap, v = .slice (some ⟨b, off, none⟩) xs.length cap ∧ xs.length ≤ cap ∧ cap ≤ 4611686018427387904 ∧ b < w.heap.size ∧ Arr w b off xs)

/-- v reads as the number n, by limbs that do not end in 0. -/
def LimN (w : World) (v : Value) (n : Nat) : Prop := ∃ xs, Lim w v xs ∧ Norm xs ∧ valL xs = n

/-- A natural of limbs comes back. -/
def GiveN (w : World) (n : Nat) (e : Ending) (w' : World) : Prop := ∃ v, e = .returned v ∧ LimN w' v n ∧ Below w.heap.size w w'

theorem Arr.below {B : Nat} {w w' : World} {b off : Nat} {xs : List Nat} (h : Below B w w') (hb : b < B) (ha : Arr w b off xs) : Arr w' b off xs :=
  fun j hj => (h.cell (p := ⟨b, off + j, none⟩) hb).trans (ha j hj)
theorem Free.below {B : Nat} {w w' : World} {b off n : Nat} (h : Below B w w') (hb : b < B) (ha : Free w b off n) : Free w' b off n :=
  fun j hj => (h.frozen (p := ⟨b, off + j, none⟩) hb).trans (ha j hj)
theorem Lim.below {w w' : World} {v : Value} {xs : List Nat} (hl : Lim w v xs) (h : Below w.heap.size w w') : Lim w' v xs := by
  obtain ⟨hs, h0 | ⟨b, off, cap, hv, hc, hm, hb, ha⟩⟩ := hl
  · exact ⟨hs, .inl h0⟩
  · exact ⟨hs, .inr ⟨b, off, cap, hv, hc, hm, Nat.lt_of_lt_of_le hb h.size, ha.below h hb⟩⟩
theorem Lim.form {w : World} {v : Value} {xs : List Nat} (h : Lim w v xs) : ∃ a c, v = .slice a xs.length c := by
  obtain ⟨_, ⟨rfl, rfl⟩ | ⟨b, off, cap, rfl, _⟩⟩ := h
  · exact ⟨none, 0, rfl⟩
  · exact ⟨_, _, rfl⟩
theorem LimN.below {w w' : World} {v : Value} {n : Nat} (hl : LimN w v n) (h : Below w.heap.size w w') : LimN w' v n := by
  obtain ⟨xs, h1, h2⟩ := hl
  exact ⟨xs, h1.below h, h2⟩

/-- From w to w' only cells lo to hi of block b have been written. -/
structure Wr (w w' : World) (b lo hi : Nat) : Prop where
  grown : w.grownBy w' (some b)
  size : w'.heap.size = w.heap.size
  cell : ∀ j, j < lo ∨ hi ≤ j → w'.cell? ⟨b, j, none⟩ = w.cell? ⟨b, j, none⟩
  frozen : ∀ j, w'.frozen? ⟨b, j, none⟩ = w.frozen? ⟨b, j, none⟩
  keeps : KeepsOthers w w'

theorem grownBy_refl (w : World) (r : Option Nat) : w.grownBy w r := ⟨rfl, rfl, rfl, Nat.le_refl _, fun _ _ _ => rfl⟩
theorem grownBy_trans {a b c : World} {r : Option Nat} (h : a.grownBy b r) (k : b.grownBy c r) : a.grownBy c r :=
  ⟨k.os.trans h.os, k.tape.trans h.tape, k.output.trans h.output, Nat.le_trans h.size k.size, fun i hi hr => (k.block i (Nat.lt_of_lt_of_le hi h.size) hr).trans (h.block i hi hr)⟩
theorem size_setCell (w : World) (a : Addr) (v : Value) : (w.setCell a v).heap.size = w.heap.size := by simp [World.setCell]
theorem cell?_setCell_ne (w : World) (b i j : Nat) (v : Value) (h : i ≠ j) : (w.setCell ⟨b, i, none⟩ v).cell? ⟨b, j, none⟩ = w.cell? ⟨b, j, none⟩ := by
  exact World.cell?_setCell_other _ _ _ _ (fun e => h (by cases e; rfl))
theorem Wr.refl (w : World) (b lo hi : Nat) : Wr w w b lo hi := ⟨grownBy_refl _ _, rfl, fun _ _ => rfl, fun _ => rfl, KeepsOthers.refl _⟩
theorem Wr.trans {u w w' : World} {b lo hi : Nat} (h : Wr u w b lo hi) (k : Wr w w' b lo hi) : Wr u w' b lo hi :=
  ⟨grownBy_trans h.grown k.grown, k.size.trans h.size, fun j hj => (k.cell j hj).trans (h.cell j hj), fun j => (k.frozen j).trans (h.frozen j), h.keeps.trans k.keeps⟩
theorem Wr.mono {w w' : World} {b lo hi lo' hi' : Nat} (h : Wr w w' b lo hi) (h1 : lo' ≤ lo) (h2 : hi ≤ hi') : Wr w w' b lo' hi' :=
  ⟨h.grown, h.size, fun j hj => h.cell j (by omega), h.frozen, h.keeps⟩
theorem Wr.one (w : World) (b k : Nat) (v : Value) : Wr w (w.setCell ⟨b, k, none⟩ v) b k (k + 1) :=
  ⟨⟨rfl, rfl, rfl, by rw [size_setCell]; exact Nat.le_refl _, fun i _ hi => Below.heap_setCell w _ v i (fun e => hi (by rw [e]))⟩, size_setCell _ _ _,
    fun j hj => cell?_setCell_ne w b k j v (by omega), fun j => World.frozen?_setCell _ _ _ _, KeepsOthers.setCell _ _ _⟩
theorem Wr.set {u w : World} {b lo hi : Nat} (h : Wr u w b lo hi) {k : Nat} (v : Value) (h1 : lo ≤ k) (h2 : k < hi) : Wr u (w.setCell ⟨b, k, none⟩ v) b lo hi :=
  h.trans ((Wr.one w b k v).mono h1 h2)
theorem Wr.below {w w' : World} {b lo hi B : Nat} (h : Wr w w' b lo hi) (hb : B ≤ b) (hB : B ≤ w.heap.size) : Below B w w' :=
  (Below.refl B w).grown h.grown hB (fun k e => by cases e; exact hb)
theorem Wr.heap {w w' : World} {b lo hi : Nat} (h : Wr w w' b lo hi) {k : Nat} (hk : k ≠ b) : w'.heap[k]? = w.heap[k]? := by
  by_cases hlt : k < w.heap.size
  · exact h.grown.block k hlt (fun e => hk (by cases e; rfl))
  · rw [Array.getElem?_eq_none (by rw [h.size]; omega), Array.getElem?_eq_none (by omega)]
theorem Wr.far {w w' : World} {b lo hi : Nat} (h : Wr w w' b lo hi) {k : Nat} (hk : k ≠ b) (j : Nat) : w'.cell? ⟨k, j, none⟩ = w.cell? ⟨k, j, none⟩ := World.cell?_of_block (h.heap hk)
theorem Wr.farFrozen {w w' : World} {b lo hi : Nat} (h : Wr w w' b lo hi) {k : Nat} (hk : k ≠ b) (j : Nat) : w'.frozen? ⟨k, j, none⟩ = w.frozen? ⟨k, j, none⟩ := World.frozen?_of_block (h.heap hk)
theorem Wr.boxed {w w' : World} {b lo hi B : Nat} {t : TypeId} {v : Value} (h : Wr w w' b lo hi) (hb : B ≠ b) (hx : Boxed w B t v) : Boxed w' B t v := (h.heap hb).trans hx
theorem Wr.arr {w w' : World} {b lo hi b' off : Nat} {xs : List Nat} (h : Wr w w' b lo hi) (hb : b' ≠ b) (ha : Arr w b' off xs) : Arr w' b' off xs :=
  fun j hj => h.grown.cell (ha j hj) (fun e => hb (by cases e; rfl))
theorem Wr.free {w w' : World} {b lo hi off n : Nat} (h : Wr w w' b lo hi) (ha : Free w b off n) : Free w' b off n :=
  fun j hj => (h.frozen _).trans (ha j hj)
theorem Wr.drew {u w : World} {b lo hi : Nat} (h : Wr u w b lo hi) : Wr u w.drew b lo hi :=
  ⟨⟨h.grown.os, h.grown.tape, h.grown.output, h.grown.size, h.grown.block⟩, h.size, h.cell, h.frozen, ⟨h.keeps.size, h.keeps.same⟩⟩

theorem Wr.drewN {u w : World} {b lo hi : Nat} (h : Wr u w b lo hi) (n : Nat) : Wr u (w.drewN n) b lo hi :=
  ⟨⟨h.grown.os, h.grown.tape, h.grown.output, h.grown.size, h.grown.block⟩, h.size, h.cell, h.frozen, ⟨h.keeps.size, h.keeps.same⟩⟩
theorem Arr.drewN {w : World} {b off : Nat} {xs : List Nat} (h : Arr w b off xs) (n : Nat) : Arr (w.drewN n) b off xs := h
theorem Lim.drewN {w : World} {v : Value} {xs : List Nat} (h : Lim w v xs) (n : Nat) : Lim (w.drewN n) v xs := h
theorem Below.drewN {B : Nat} {u w : World} (h : Below B u w) (n : Nat) : Below B u (w.drewN n) := ⟨h.os, h.tape, h.output, h.size, h.block⟩

theorem Arr.set {w : World} {b off : Nat} {xs : List Nat} (ha : Arr w b off xs) {k : Nat} (hk : k < xs.length) (v : Nat) :
    Arr (w.setCell ⟨b, off + k, none⟩ (.int .u64 (v : Int))) b off (xs.set k v) := fun j hj => by
  rw [List.length_set] at hj
  by_cases e : k = j
  · subst e
    rw [World.cell?_setCell_same' _ _ _ (by rw [ha k hk]; rfl), gl_set_same hk]
  · rw [cell?_setCell_ne _ _ _ _ _ (by omega), gl_set_other e]
    exact ha j hj
theorem Free.setCell {w : World} {b off n : Nat} (h : Free w b off n) (a : Addr) (v : Value) : Free (w.setCell a v) b off n :=
  fun j hj => (World.frozen?_setCell _ _ _ _).trans (h j hj)

/-- A window of a row is a row; what is written there is laid over the whole. -/
theorem Arr.window {w : World} {b off : Nat} {zs : List Nat} (h : Arr w b off zs) {k n : Nat} (hk : k + n ≤ zs.length) : Arr w b (off + k) (window zs k n) := fun j hj => by
  rw [window_length hk] at hj
  rw [gl_window hj, Nat.add_assoc]
  exact h (k + j) (by omega)
theorem Arr.splice {w w' : World} {b off : Nat} {zs ws : List Nat} (h : Arr w b off zs) {k : Nat} (hk : k + ws.length ≤ zs.length) (hw : Wr w w' b (off + k) (off + k + ws.length)) (ha : Arr w' b (off + k) ws) :
    Arr w' b off (splice zs k ws) := fun j hj => by
  rw [splice_length hk] at hj
  rw [gl_splice hk]
  by_cases h1 : j < k
  · rw [if_pos h1]
    exact (hw.cell (off + j) (by omega)).trans (h j hj)
  · rw [if_neg h1]
    by_cases h2 : j < k + ws.length
    · rw [if_pos h2]
      have := ha (j - k) (by omega)
      rwa [show off + k + (j - k) = off + j from by omega] at this
    · rw [if_neg h2]
      exact (hw.cell (off + j) (by omega)).trans (h j hj)
theorem Free.window {w : World} {b off n : Nat} (h : Free w b off n) {k m : Nat} (hk : k + m ≤ n) : Free w b (off + k) m := fun j hj => by
  rw [Nat.add_assoc]; exact h (k + j) (by omega)

/-- A new row of n zero limbs. -/
structure Made (w w' : World) (n : Nat) : Prop where
  size : w'.heap.size = w.heap.size + 1
  arr : Arr w' w.heap.size 0 (List.replicate n 0)
  free : Free w' w.heap.size 0 n
  below : Below w.heap.size w w'
  keeps : KeepsOthers w w'
theorem made (w : World) (n t : Nat) : Made w (w.alloc (.cells (madeCells #[.int .u64 0] n) t)) n := by
  have hb := World.alloc_heap_new w (.cells (madeCells #[.int .u64 0] n) t)
  have hl : (madeCells #[Value.int .u64 0] n).toList = List.replicate n (.int .u64 0) := toList_madeCells_one _ _
  refine ⟨by simp, fun j hj => ?_, fun j hj => ?_, (Below.refl _ _).alloc (Nat.le_refl _) _, KeepsOthers.alloc _ _⟩
  · rw [List.length_replicate] at hj
    rw [cell_of_row _ _ _ _ _ _ hb, ← Array.getElem?_toList, hl, gl_zeros]
    simp [hj]
  · unfold World.frozen?
    rw [hb]
    simp
end Go.Proofs.YtcekdidefomkfaaDoor

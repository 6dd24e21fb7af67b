/- Words for slices of limbs in memory: what they hold, what writes keep. Own work; no program text. -/
import Derived.WalkKit
import Derived.WalkSpells
import Derived.WalkLawsBesides
import Derived.RangeFuncBox
import Derived.Deep.OwnRows
import Derived.Lib.Hide
import Derived.RangeFuncNested
import Derived.RangeFuncBound
import Derived.RangeFuncCalls
import Derived.RangeFuncLeaves
import Derived.Shelf.Abstract
import Derived.Shelf.RegionOpen
import Derived.OwnWalkIn
import Derived.TacticsInMore
import Derived.LoopNIn
import Derived.LoopIn
import Derived.Deep.QuietTactic
import Derived.BigQuiet
import Derived.OrdersHeld
import Derived.OrdersIn
import Derived.Deep.RegionHeld3
import Derived.ScopeJumps
import Derived.Scope
import Derived.Deep.LoopGhost
import Derived.Test.YtcckifhloabpkaaDoorAllNum
import Derived.Test.YtcckifhloabpkaaDoorRows
namespace Go.Proofs.YtcckifhloabpkaaDoor
open Go.RowKit

theorem ret_int {k : IntKind} {a b : Int} (h : a = b) : Ending.returned (.int k a) = .returned (.int k b) := by rw [h]

/-- The cells from off on, in block b, hold xs. -/
def Arr (w : World) (b off : Nat) (xs : List Nat) : Prop :=
  ∀ j, j < xs.length → w.cell? ⟨b, off + j, none⟩ = some (.int .u64 ((gl xs j : Nat) : Int))

/-- Every cell from off on, n of them, may be written. -/
def Free (w : World) (b off n : Nat) : Prop := ∀ j, j < n → w.frozen? ⟨b, off + j, none⟩ = false

/-- v reads as the limbs xs; what it reads lies in blocks that are there. -/
def Lim (w : World) (v : Value) (xs : List Nat) : Prop :=
  Small xs ∧ ((v = .slice none 0 0 ∧ xs = []) ∨
    ∃ b off cap, v = .slice (some ⟨b, off, none⟩) xs.length cap ∧ xs.length ≤ cap ∧ cap ≤ 4611686018427387904 ∧ b < w.heap.size ∧ Arr w b off xs)

/-- v reads as the number n, by limbs that do not end in 0. -/
def LimN (w : World) (v : Value) (n : Nat) : Prop := ∃ xs, Lim w v xs ∧ Norm xs ∧ valL xs = n

/-- A natural of limbs comes back. -/
def GiveN (w : World) (n : Nat) (e : Ending) (w' : World) : Prop := ∃ v, e = .returned v ∧ LimN w' v n ∧ Below w.heap.size w w'

theorem Arr.below {B : Nat} {w w' : World} {b off : Nat} {xs : List Nat} (h : Below B w w') (hb : b < B) (ha : Arr w b off xs) : Arr w' b off xs :=
  fun j hj => (h.cell (p := ⟨b, off + j, none⟩) hb).trans (ha j hj)
theorem Free.below {B : Nat} {w w' : World} {b off n : Nat} (h : Below B w w') (hb : b < B) (ha : Free w b off n) : Free w' b off n :=
  fun j hj => (h.frozen (p := ⟨b, off + j, none⟩) hb).trans (ha j hj)
theorem Lim.below {w w' : World} {v : Value} {xs : List Nat} (hl : Lim w v xs) (h : Below w.heap.size w w') : Lim w' v xs := by
  obtain ⟨hs, h0 | ⟨b, off, cap, hv, hc, hm, hb, ha⟩⟩ := hl
  · exact ⟨hs, .inl h0⟩
  · exact ⟨hs, .inr ⟨b, off, cap, hv, hc, hm, Nat.lt_of_lt_of_le hb h.size, ha.below h hb⟩⟩
theorem Lim.form {w : World} {v : Value} {xs : List Nat} (h : Lim w v xs) : ∃ a c, v = .slice a xs.length c := by
  obtain ⟨_, ⟨rfl, rfl⟩ | ⟨b, off, cap, rfl, _⟩⟩ := h
  · exact ⟨none, 0, rfl⟩
  · exact ⟨_, _, rfl⟩
theorem LimN.below {w w' : World} {v : Value} {n : Nat} (hl : LimN w v n) (h : Below w.heap.size w w') : LimN w' v n := by
  obtain ⟨xs, h1, h2⟩ := hl
  exact ⟨xs, h1.below h, h2⟩

/-- From w to w' only cells lo to hi of block b have been written. -/
structure Wr (w w' : World) (b lo hi : Nat) : Prop where
  grown : w.grownBy w' (some b)
  size : w'.heap.size = w.heap.size
  cell : ∀ j, j < lo ∨ hi ≤ j → w'.cell? ⟨b, j, none⟩ = w.cell? ⟨b, j, none⟩
  frozen : ∀ j, w'.frozen? ⟨b, j, none⟩ = w.frozen? ⟨b, j, none⟩
  keeps : KeepsOthers w w'

theorem grownBy_refl (w : World) (r : Option Nat) : w.grownBy w r := ⟨rfl, rfl, rfl, Nat.le_refl _, fun _ _ _ => rfl⟩
theorem grownBy_trans {a b c : World} {r : Option Nat} (h : a.grownBy b r) (k : b.grownBy c r) : a.grownBy c r :=
  ⟨k.os.trans h.os, k.tape.trans h.tape, k.output.trans h.output, Nat.le_trans h.size k.size, fun i hi hr => (k.block i (Nat.lt_of_lt_of_le hi h.size) hr).trans (h.block i hi hr)⟩
theorem size_setCell (w : World) (a : Addr) (v : Value) : (w.setCell a v).heap.size = w.heap.size := by simp [World.setCell]
theorem cell?_setCell_ne (w : World) (b i j : Nat) (v : Value) (h : i ≠ j) : (w.setCell ⟨b, i, none⟩ v).cell? ⟨b, j, none⟩ = w.cell? ⟨b, j, none⟩ := by
  exact World.cell?_setCell_other _ _ _ _ (fun e => h (by cases e; rfl))
theorem Wr.refl (w : World) (b lo hi : Nat) : Wr w w b lo hi := ⟨grownBy_refl _ _, rfl, fun _ _ => rfl, fun _ => rfl, KeepsOthers.refl _⟩
theorem Wr.trans {u w w' : World} {b lo hi : Nat} (h : Wr u w b lo hi) (k : Wr w w' b lo hi) : Wr u w' b lo hi :=
  ⟨grownBy_trans h.grown k.grown, k.size.trans h.size, fun j hj => (k.cell j hj).trans (h.cell j hj), fun j => (k.frozen j).trans (h.frozen j), h.keeps.trans k.keeps⟩
theorem Wr.mono {w w' : World} {b lo hi lo' hi' : Nat} (h : Wr w w' b lo hi) (h1 : lo' ≤ lo) (h2 : hi ≤ hi') : Wr w w' b lo' hi' :=
  ⟨h.grown, h.size, fun j hj => h.cell j (by omega), h.frozen, h.keeps⟩
theorem Wr.one (w : World) (b k : Nat) (v : Value) : Wr w (w.setCell ⟨b, k, none⟩ v) b k (k + 1) :=
  ⟨⟨rfl, rfl, rfl, by rw [size_setCell]; exact Nat.le_refl _, fun i _ hi => Below.heap_setCell w _ v i (fun e => hi (by rw [e]))⟩, size_setCell _ _ _,
    fun j hj => cell?_setCell_ne w b k j v (by omega), fun j => World.frozen?_setCell _ _ _ _, KeepsOthers.setCell _ _ _⟩
theorem Wr.set {u w : World} {b lo hi : Nat} (h : Wr u w b lo hi) {k : Nat} (v : Value) (h1 : lo ≤ k) (h2 : k < hi) : Wr u (w.setCell ⟨b, k, none⟩ v) b lo hi :=
  h.trans ((Wr.one w b k v).mono h1 h2)
theorem Wr.below {w w' : World} {b lo hi B : Nat} (h : Wr w w' b lo hi) (hb : B ≤ b) (hB : B ≤ w.heap.size) : Below B w w' :=
  (Below.refl B w).grown h.grown hB (fun k e => by cases e; exact hb)
theorem Wr.heap {w w' : World} {b lo hi : Nat} (h : Wr w w' b lo hi) {k : Nat} (hk : k ≠ b) : w'.heap[k]? = w.heap[k]? := by
  by_cases hlt : k < w.heap.size
  · exact h.grown.block k hlt (fun e => hk (by cases e; rfl))
  · rw [Array.getElem?_eq_none (by rw [h.size]; omega), Array.getElem?_eq_none (by omega)]
theorem Wr.far {w w' : World} {b lo hi : Nat} (h : Wr w w' b lo hi) {k : Nat} (hk : k ≠ b) (j : Nat) : w'.cell? ⟨k, j, none⟩ = w.cell? ⟨k, j, none⟩ := World.cell?_of_block (h.heap hk)
theorem Wr.farFrozen {w w' : World} {b lo hi : Nat} (h : Wr w w' b lo hi) {k : Nat} (hk : k ≠ b) (j : Nat) : w'.frozen? ⟨k, j, none⟩ = w.frozen? ⟨k, j, none⟩ := World.frozen?_of_block (h.heap hk)
theorem Wr.boxed {w w' : World} {b lo hi B : Nat} {t : TypeId} {v : Value} (h : Wr w w' b lo hi) (hb : B ≠ b) (hx : Boxed w B t v) : Boxed w' B t v := (h.heap hb).trans hx
theorem Wr.arr {w w' : World} {b lo hi b' off : Nat} {xs : List Nat} (h : Wr w w' b lo hi) (hb : b' ≠ b) (ha : Arr w b' off xs) : Arr w' b' off xs :=
  fun j hj => h.grown.cell (ha j hj) (fun e => hb (by cases e; rfl))
theorem Wr.free {w w' : World} {b lo hi off n : Nat} (h : Wr w w' b lo hi) (ha : Free w b off n) : Free w' b off n :=
  fun j hj => (h.frozen _).trans (ha j hj)
theorem Wr.drew {u w : World} {b lo hi : Nat} (h : Wr u w b lo hi) : Wr u w.drew b lo hi :=
  ⟨⟨h.grown.os, h.grown.tape, h.grown.output, h.grown.size, h.grown.block⟩, h.size, h.cell, h.frozen, ⟨h.keeps.size, h.keeps.same⟩⟩

theorem Wr.drewN {u w : World} {b lo hi : Nat} (h : Wr u w b lo hi) (n : Nat) : Wr u (w.drewN n) b lo hi :=
  ⟨⟨h.grown.os, h.grown.tape, h.grown.output, h.grown.size, h.grown.block⟩, h.size, h.cell, h.frozen, ⟨h.keeps.size, h.keeps.same⟩⟩
theorem Arr.drewN {w : World} {b off : Nat} {xs : List Nat} (h : Arr w b off xs) (n : Nat) : Arr (w.drewN n) b off xs := h
theorem Lim.drewN {w : World} {v : Value} {xs : List Nat} (h : Lim w v xs) (n : Nat) : Lim (w.drewN n) v xs := h
theorem Below.drewN {B : Nat} {u w : World} (h : Below B u w) (n : Nat) : Below B u (w.drewN n) := ⟨h.os, h.tape, h.output, h.size, h.block⟩

theorem Arr.set {w : World} {b off : Nat} {xs : List Nat} (ha : Arr w b off xs) {k : Nat} (hk : k < xs.length) (v : Nat) :
    Arr (w.setCell ⟨b, off + k, none⟩ (.int .u64 (v : Int))) b off (xs.set k v) := fun j hj => by
  rw [List.length_set] at hj
  by_cases e : k = j
  · subst e
    rw [World.cell?_setCell_same' _ _ _ (by rw [ha k hk]; rfl), gl_set_same hk]
  · rw [cell?_setCell_ne _ _ _ _ _ (by omega), gl_set_other e]
    exact ha j hj
theorem Free.setCell {w : World} {b off n : Nat} (h : Free w b off n) (a : Addr) (v : Value) : Free (w.setCell a v) b off n :=
  fun j hj => (World.frozen?_setCell _ _ _ _).trans (h j hj)

/-- A window of a row is a row; what is written there is laid over the whole. -/
theorem Arr.window {w : World} {b off : Nat} {zs : List Nat} (h : Arr w b off zs) {k n : Nat} (hk : k + n ≤ zs.length) : Arr w b (off + k) (window zs k n) := fun j hj => by
  rw [window_length hk] at hj
  rw [gl_window hj, Nat.add_assoc]
  exact h (k + j) (by omega)
theorem Arr.splice {w w' : World} {b off : Nat} {zs ws : List Nat} (h : Arr w b off zs) {k : Nat} (hk : k + ws.length ≤ zs.length) (hw : Wr w w' b (off + k) (off + k + ws.length)) (ha : Arr w' b (off + k) ws) :
    Arr w' b off (splice zs k ws) := fun j hj => by
  rw [splice_length hk] at hj
  rw [gl_splice hk]
  by_cases h1 : j < k
  · rw [if_pos h1]
    exact (hw.cell (off + j) (by omega)).trans (h j hj)
  · rw [if_neg h1]
    by_cases h2 : j < k + ws.length
    · rw [if_pos h2]
      have := ha (j - k) (by omega)
      rwa [show off + k + (j - k) = off + j from by omega] at this
    · rw [if_neg h2]
      exact (hw.cell (off + j) (by omega)).trans (h j hj)
theorem Free.window {w : World} {b off n : Nat} (h : Free w b off n) {k m : Nat} (hk : k + m ≤ n) : Free w b (off + k) m := fun j hj => by
  rw [Nat.add_assoc]; exact h (k + j) (by omega)

/-- A new row of n zero limbs. -/
structure Made (w w' : World) (n : Nat) : Prop where
  size : w'.heap.size = w.heap.size + 1
  arr : Arr w' w.heap.size 0 (List.replicate n 0)
  free : Free w' w.heap.size 0 n
  below : Below w.heap.size w w'
  keeps : KeepsOthers w w'
theorem made (w : World) (n t : Nat) : Made w (w.alloc (.cells (madeCells #[.int .u64 0] n) t)) n := by
  have hb := World.alloc_heap_new w (.cells (madeCells #[.int .u64 0] n) t)
  have hl : (madeCells #[Value.int .u64 0] n).toList = List.replicate n (.int .u64 0) := toList_madeCells_one _ _
  refine ⟨by simp, fun j hj => ?_, fun j hj => ?_, (Below.refl _ _).alloc (Nat.le_refl _) _, KeepsOthers.alloc _ _⟩
  · rw [List.length_replicate] at hj
    rw [cell_of_row _ _ _ _ _ _ hb, ← Array.getElem?_toList, hl, gl_zeros]
    simp [hj]
  · unfold World.frozen?
    rw [hb]
    simp
end Go.Proofs.YtcckifhloabpkaaDoor

/- nat.at: the limb there, 0 beyond the end. -/
namespace Go.Proofs.YtcckifhloabpkaaDoor
open Go.RowKit

/-- The limb at place i; 0 where there is none. -/
def atL (xs : List Nat) (i : Int) : Nat := if i < 0 then 0 else gl xs i.toNat

theorem atL_nat (xs : List Nat) (k : Nat) : atL xs (k : Int) = gl xs k := by unfold atL; rw [if_neg (by omega)]; rfl
theorem atL_lt {xs : List Nat} (h : Small xs) (i : Int) : atL xs i < 1000000000 := by
  unfold atL; split
  · decide
  · exact h.gl _


end Go.Proofs.YtcckifhloabpkaaDoor

/- nat.addTimes, nat.takeTimes: they write the limbs of one slice. -/
namespace Go.Proofs.YtcckifhloabpkaaDoor
open Go.RowKit

/-- What addTimes leaves. -/
def AddPost (w : World) (bo oo n t : Nat) (xs ys : List Nat) (e : Ending) (w' : World) : Prop :=
  ∃ (zs : List Nat) (cy : Nat), e = .returned (.int .u64 (cy : Int)) ∧ zs.length = n ∧ Small zs ∧ cy ≤ t ∧ valL zs + cy * Bp n = valL xs + t * valL ys ∧ Arr w' bo oo zs ∧ Wr w w' bo oo (oo + n)





/-- What takeTimes leaves. -/
def TakePost (w : World) (bo oo n t : Nat) (xs ys : List Nat) (e : Ending) (w' : World) : Prop :=
  ∃ (zs : List Nat) (bw : Nat), e = .returned (.int .u64 (bw : Int)) ∧ zs.length = n ∧ Small zs ∧ bw ≤ t + 1 ∧ valL zs + t * valL ys = valL xs + bw * Bp n ∧ Arr w' bo oo zs ∧ Wr w w' bo oo (oo + n)

end Go.Proofs.YtcckifhloabpkaaDoor

/- nat.behind: the iterator over limbs from behind: its contract. -/
namespace Go.Proofs.YtcckifhloabpkaaDoor
open Go.RowKit Go.Shelf
attribute [local go_sem] Oper.semAt_some

/-- The places that have come when k rounds are over, from len - 1 down. -/
def dn (len k : Nat) : List Nat := (List.range k).map (fun j => len - 1 - j)
theorem dn_succ (len k : Nat) : dn len (k + 1) = dn len k ++ [len - 1 - k] := by simp [dn, List.range_succ]
theorem dn_length (len k : Nat) : (dn len k).length = k := by simp [dn]

theorem dn_step {len m : Nat} (h : m < len) : dn len (len - 1 - m) ++ [m] = dn len (len - m) := by
  rw [show len - m = len - 1 - m + 1 from by omega, dn_succ, show len - 1 - (len - 1 - m) = m from by omega]

/-- What is handed to a round: a place below len, and a limb that may stand there. -/
abbrev Pl (len : Nat) (V : Nat → Nat → Prop) := { p : Nat × Nat // p.1 < len ∧ V p.1 p.2 }
def idx {len : Nat} {V : Nat → Nat → Prop} (l : List (Pl len V)) : List Nat := l.map (fun p => p.1.1)
theorem idx_snoc {len : Nat} {V : Nat → Nat → Prop} (l : List (Pl len V)) (x : Pl len V) : idx (l ++ [x]) = idx l ++ [x.1.1] := by simp [idx]
def encP {len : Nat} {V : Nat → Nat → Prop} (x : Pl len V) : Array Value := #[.int .i64 (x.1.1 : Int), .int .u64 (x.1.2 : Int)]

/-- The box holds the slice, and each of its cells a limb that may stand there. -/
def Ready (Bs b off len cap : Nat) (V : Nat → Nat → Prop) (W : World) : Prop :=
  W.cell? ⟨Bs, 0, none⟩ = some (.slice (some ⟨b, off, none⟩) len cap) ∧ ∀ j, j < len → ∃ x : Nat, V j x ∧ W.cell? ⟨b, off + j, none⟩ = some (.int .u64 (x : Int))
def ReadyK (Bs b off len cap : Nat) (V : Nat → Nat → Prop) (A B : World) : Prop := Ready Bs b off len cap V A → Ready Bs b off len cap V B

theorem readyK_t {Bs b off len cap : Nat} {V : Nat → Nat → Prop} {A B C : World} (h : ReadyK Bs b off len cap V A B) (k : ReadyK Bs b off len cap V B C) : ReadyK Bs b off len cap V A C := fun r => k (h r)
theorem readyK_b {Bs b off len cap : Nat} {V : Nat → Nat → Prop} (W : World) (l : Nat) (o o' : Obj) (hl : W.heap[l]? = some o) (ho : o.isCells = false) : ReadyK Bs b off len cap V W (W.putObj l o') := fun hR =>
  ⟨cell_kept hR.1 (grownBy_putObj' W l o') (fun r e => by cases e; exact ⟨o, hl, ho⟩), fun j hj => by
    obtain ⟨x, hx, hc⟩ := hR.2 j hj
    exact ⟨x, hx, cell_kept hc (grownBy_putObj' W l o') (fun r e => by cases e; exact ⟨o, hl, ho⟩)⟩⟩
/-- What reads the same cells is as ready. -/
theorem ReadyK.of {Bs b off len cap : Nat} {V : Nat → Nat → Prop} {A B : World} (h1 : B.cell? ⟨Bs, 0, none⟩ = A.cell? ⟨Bs, 0, none⟩) (h2 : ∀ j, j < len → B.cell? ⟨b, off + j, none⟩ = A.cell? ⟨b, off + j, none⟩) : ReadyK Bs b off len cap V A B :=
  fun hR => ⟨h1.trans hR.1, fun j hj => by obtain ⟨x, hx, hc⟩ := hR.2 j hj; exact ⟨x, hx, (h2 j hj).trans hc⟩⟩




/-- What a value reads as it reads behind the turn of a block that is no cells. -/
theorem LimN.putObj {W : World} {v : Value} {n : Nat} (h : LimN W v n) {l : Nat} {o : Obj} (hl : W.heap[l]? = some o) (ho : o.isCells = false) (o' : Obj) : LimN (W.putObj l o') v n := by
  obtain ⟨xs, ⟨h1, h2⟩, h3⟩ := h
  refine ⟨xs, ⟨h1, ?_⟩, h3⟩
  rcases h2 with h2 | ⟨b, off, cap, hv, hc, hm, hb, ha⟩
  · exact .inl h2
  · exact .inr ⟨b, off, cap, hv, hc, hm, Nat.lt_of_lt_of_le hb (grownBy_putObj' W l o').size, fun j hj => cell_kept (ha j hj) (grownBy_putObj' W l o') (fun r e => by cases e; exact ⟨o, hl, ho⟩)⟩

/-- That a row holds what it holds, and may be written, speaks of cells alone. -/
theorem arr_own {β : Type} (b off n : Nat) (f : β → List Nat) : Own (fun s W => (f s).length = n ∧ Arr W b off (f s) ∧ Free W b off n) := fun s X Y row hs hg hr => by
  obtain ⟨h0, h1, h2⟩ := hs
  exact ⟨h0, fun j hj => cell_kept (h1 j hj) hg hr, fun j hj => (frozen_kept (h1 j (by omega)) hg hr).trans (h2 j hj)⟩
end Go.Proofs.YtcckifhloabpkaaDoor

/- nat.trim: what is 0 at the end is taken away. -/
namespace Go.Proofs.YtcckifhloabpkaaDoor
open Go.RowKit Go.Shelf
attribute [local go_sem] Oper.semAt_some

/-- All limbs from k on are 0. -/
def ZeroFrom (xs : List Nat) (k : Nat) : Prop := ∀ j, k ≤ j → gl xs j = 0
theorem ZeroFrom.val {xs : List Nat} {k : Nat} (h : ZeroFrom xs k) (hk : k ≤ xs.length) : valL (xs.take k) = valL xs := by
  unfold valL
  rw [List.length_take, Nat.min_eq_left hk, sumTo_congr (g := gl xs) (fun j hj => gl_take hj)]
  exact (sumTo_more hk (fun j hj => h j hj)).symm

/-- Of the places that have come all hold 0. -/
theorem zero_of_dn {xs : List Nat} {V : Nat → Nat → Prop} {pre : List (Pl xs.length V)} {k : Nat} (hk : k ≤ xs.length) (hp : idx pre = dn xs.length k) (hV : ∀ j x, V j x → x = gl xs j) (hz : ∀ p ∈ pre, p.1.2 = 0) : ZeroFrom xs (xs.length - k) := fun j hj => by
  by_cases hl : j < xs.length
  · have hm : j ∈ idx pre := by
      rw [hp]
      unfold dn
      rw [List.mem_map]
      exact ⟨xs.length - 1 - j, by rw [List.mem_range]; omega, by omega⟩
    unfold idx at hm
    obtain ⟨p, h1, h2⟩ := List.mem_map.1 hm
    rw [← h2, ← hV _ _ p.2.2]
    exact hz p h1
  · exact gl_beyond (by omega)




end Go.Proofs.YtcckifhloabpkaaDoor

/- nat.sum, nat.difference. -/
namespace Go.Proofs.YtcckifhloabpkaaDoor
open Go.RowKit




end Go.Proofs.YtcckifhloabpkaaDoor

/- nat.product. -/
namespace Go.Proofs.YtcckifhloabpkaaDoor
open Go.RowKit



end Go.Proofs.YtcckifhloabpkaaDoor

/- make(limbs, n), inside a fence. -/
namespace Go.Proofs.YtcckifhloabpkaaDoor
open Go.RowKit
end Go.Proofs.YtcckifhloabpkaaDoor

/- A region that draws its order, within a round of a range over a function: by the plain laws. Own work; no program text. -/
namespace Go.Proofs.YtcckifhloabpkaaDoor
open Go Go.RowKit

/-- An operation that is no defer statement does in a round of the wide fence what it does anywhere. -/
theorem operIn_of_oper {l n : Nat} {P : Program} {o : Oper} {a : Act} {w : World} {K : Act → World → Prop} {Q : Exit → Act → World → Prop} (hd : ∀ c, o.op ≠ .defer c) (h : o.wp P a w K Q) :
    o.wpIn (Fence.wide.inRound l) n P a w K Q := by
  refine ⟨fun _ _ => trivial, ?_⟩
  rw [Oper.semAt_eq _ _ _ hd]
  unfold Oper.wp at h
  generalize (execOp a.eval o).run P w = r at *
  cases r with
  | ok x w' =>
    cases x with
    | value v => exact h
    | skip => exact h
    | defer d => exact h
    | enter f args =>
      refine (show _ ∧ _ from ⟨fun hs => (by cases hs), ?_⟩)
      exact CallsIn.inRound l (callsIn_wide.2 (Calls.mono h fun e w'' he => by cases e <;> exact he))
    | row row args =>
      refine (show _ ∧ _ from ⟨fun hs => (by cases hs), ?_⟩)
      intro c cs _
      obtain ⟨v, w2, r, s⟩ := h c cs
      exact ⟨v, w2, r, stepsIn_wide.2 s⟩
    | _ => exact h.elim
  | halt x w' => cases x <;> exact h

theorem anyIn_of_any {l n : Nat} {P : Program} {md : Region.Mode} {ops : Array Oper} {Q : Exit → Act → World → Prop} (hno : ¬ LetsOut Q) (hd : ∀ (i : Nat) (o : Oper), ops[i]? = some o → ∀ c, o.op ≠ .defer c) :
    ∀ (fuel : Nat) (listed : Array Bool) (a : Act) (w : World), wpAny P md ops Q fuel listed a w → wpAnyIn (Fence.wide.inRound l) n P md ops Q fuel listed a w
  | 0, _, _, _, h => h
  | fuel + 1, _, _, _, h => ⟨h.1, fun i hi => by
    have h2 := h.2 i hi
    unfold wpOp at h2
    unfold wpOpIn
    split
    · rename_i ho
      simp only [ho] at h2
      exact anyIn_of_any hno hd fuel _ _ _ h2
    · rename_i o ho
      simp only [ho] at h2
      split
      · rename_i hw
        simp only [hw, if_true] at h2
        rcases h2 with h3 | h3
        · exact Oper.wpIn_mono (fun a' w' => anyIn_of_any hno hd fuel _ a' w') (operIn_of_oper (hd i o ho) h3)
        · exact absurd h3.2 hno
      · rename_i hw
        simp only [hw] at h2
        exact ⟨fun _ _ => trivial, anyIn_of_any hno hd fuel _ _ _ h2⟩⟩

/-- A region that draws its order, within a round: S is shown once; then whatever order, by the plain laws under S. -/
theorem inRound_held {l n id : Nat} {P : Program} {ops : Array Oper} {Q : Exit → Act → World → Prop} {a : Act} {w : World} {S : World → Prop} (hm : P.follows .mixedOrders = true) (hno : ¬ LetsOut Q) (hd : (ops.toList.all fun o => match o.op with | .defer _ => false | _ => true) = true)
    (hS : S w.drew) (h : S w.drew → wpAnyH P .any ops Q S ops.size (Array.replicate ops.size false) a w.drew) : (Code.region id ops true).wpIn (Fence.wide.inRound l) n P Q a w :=
  wpIn_region_any hm (anyIn_of_any hno (fun i o ho c hc => by
    have h1 := List.all_eq_true.1 hd o (Array.mem_toList_iff.2 (Array.mem_of_getElem? ho))
    rw [hc] at h1
    cases h1) _ _ _ _ (wpAny_of_held _ _ _ _ (h hS)))
end Go.Proofs.YtcckifhloabpkaaDoor

/- nat.unscaled. -/
namespace Go.Proofs.YtcckifhloabpkaaDoor
open Go.RowKit Go.Shelf
attribute [local go_sem] Oper.semAt_some



end Go.Proofs.YtcckifhloabpkaaDoor

/- nat.scaled, nat.takeOut. -/
namespace Go.Proofs.YtcckifhloabpkaaDoor
open Go.RowKit


/-- How things stand at the label. -/
def OutInv (w : World) (bl ol cl bb ob cb m : Nat) (xs ys : List Nat) (a' : Act) (w' : World) : Prop :=
  ∃ (t bw : Nat) (zs : List Nat) (u8 u9 u10 u11 u12 u13 u14 u15 u16 u17 u18 u19 u20 u21 u22 u23 u24 u25 u26 u27 u28 u29 u30 u31 u32 u33 u34 u35 u36 u37 u38 u39 u40 u41 : Value), a' = { tmps := #[.slice (some ⟨bl, ol, none⟩) (m + 1) cl, .slice (some ⟨bb, ob, none⟩) (m + 1) cb, undef, undef, .int .u64 0, .int .i64 (m : Int), .int .u64 (t : Int), .int .u64 (bw : Int), u8, u9, u10, u11, u12, u13, u14, u15, u16, u17, u18, u19, u20, u21, u22, u23, u24, u25, u26, u27, u28, u29, u30, u31, u32, u33, u34, u35, u36, u37, u38, u39, u40, u41], defers := [] } ∧
    OutRel xs ys zs (m + 1) t bw ∧ Arr w' bl ol zs ∧ Wr w w' bl ol (ol + (m + 1))
def OutPost (w : World) (bl ol m : Nat) (xs ys : List Nat) (e : Ending) (w' : World) : Prop :=
  ∃ zs, e = .returned (.int .u64 ((valL xs / valL ys : Nat) : Int)) ∧ zs.length = m + 1 ∧ Small zs ∧ valL zs = valL xs % valL ys ∧ Arr w' bl ol zs ∧ Wr w w' bl ol (ol + (m + 1))

end Go.Proofs.YtcckifhloabpkaaDoor

/- nat.divide. -/
namespace Go.Proofs.YtcckifhloabpkaaDoor
open Go.RowKit Go.Shelf
attribute [local go_sem] Oper.semAt_some

theorem inF {F : Fence} {n f : Nat} {P : Program} {args : Array Value} {w : World} {R : Ending → World → Prop} (hF : Hid (F = Fence.wide)) (h : Calls P f args w R) : CallsIn F n P f args w R := by
  rw [hF.out]; exact callsIn_wide.2 h



theorem arr_kept {b off : Nat} {xs : List Nat} {A B : World} {row : Option Nat} (h : Arr A b off xs) (hg : A.grownBy B row) (hr : ∀ r, row = some r → ∃ o : Obj, A.heap[r]? = some o ∧ o.isCells = false) : Arr B b off xs :=
  fun j hj => cell_kept (h j hj) hg hr
theorem free_kept {b off n : Nat} {xs : List Nat} {A B : World} {row : Option Nat} (h : Arr A b off xs) (hl : n ≤ xs.length) (hf : Free A b off n) (hg : A.grownBy B row) (hr : ∀ r, row = some r → ∃ o : Obj, A.heap[r]? = some o ∧ o.isCells = false) : Free B b off n :=
  fun j hj => (frozen_kept (h j (by omega)) hg hr).trans (hf j hj)


end Go.Proofs.YtcckifhloabpkaaDoor

/- nat.combine: m times a and n times b together. -/
namespace Go.Proofs.YtcckifhloabpkaaDoor
open Go.RowKit

end Go.Proofs.YtcckifhloabpkaaDoor

/- nat.highest, nat.foresee: what the highest limbs tell of the divisions ahead. -/
namespace Go.Proofs.YtcckifhloabpkaaDoor
open Go.RowKit

/-- x0 and y0 are the highest places of A and B, by one and the same scale. -/
def Hi (A B : Nat) (x0 y0 : Int) : Prop :=
  (0 ≤ x0 ∧ x0 < 1000000000000000000) ∧ (0 ≤ y0 ∧ y0 < 1000000000000000000) ∧
    ∃ K R p r : Int, 1 ≤ K ∧ 1 ≤ R ∧ K * A = x0 * R + p ∧ K * B = y0 * R + r ∧ 0 ≤ p ∧ p ≤ R ∧ 0 ≤ r ∧ r ≤ R
theorem high_val {xs : List Nat} {s : Nat} (h : xs.length ≤ s + 2) : (valL xs : Int) = ((gl xs (s + 1) : Int) * 1000000000 + gl xs s) * Bp s + sumTo (gl xs) s := by
  rw [← valL_to h, sumTo, sumTo, Bp_succ]
  generalize sumTo (gl xs) s = S
  generalize gl xs (s + 1) = a
  generalize gl xs s = b
  generalize Bp s = B
  have e : ((S + b * B + a * (1000000000 * B) : Nat) : Int) = S + b * B + a * (1000000000 * B) := by
    have c4 : ((1000000000 * B : Nat) : Int) = 1000000000 * B := by omega
    rw [Int.natCast_add, Int.natCast_add, Int.natCast_mul, Int.natCast_mul, c4]
  rw [e]
  grind
theorem Hi.make {xs ys : List Nat} {t : Nat} (hx : Small xs) (hy : Small ys) (h1 : xs.length ≤ t + 1) (h2 : ys.length ≤ t + 1) :
    Hi (valL xs) (valL ys) ((gl xs t : Int) * 1000000000 + atL xs ((t : Int) - 1)) ((gl ys t : Int) * 1000000000 + atL ys ((t : Int) - 1)) := by
  have a1 := hx.gl t
  have a2 := hy.gl t
  have a3 := atL_lt hx ((t : Int) - 1)
  have a4 := atL_lt hy ((t : Int) - 1)
  refine ⟨⟨by omega, by omega⟩, ⟨by omega, by omega⟩, ?_⟩
  cases t with
  | zero =>
    have z : ∀ zs : List Nat, zs.length ≤ 1 → (1000000000 : Int) * valL zs = ((gl zs 0 : Int) * 1000000000 + atL zs (((0 : Nat) : Int) - 1)) * 1 + 0 := fun zs hz => by
      have e1 : valL zs = gl zs 0 := by
        rw [← valL_to hz, sumTo, sumTo, Bp_zero]; omega
      have e2 : atL zs (((0 : Nat) : Int) - 1) = 0 := by unfold atL; rw [if_pos (by omega)]
      rw [e1, e2]; omega
    exact ⟨1000000000, 1, 0, 0, by omega, by omega, z xs h1, z ys h2, by omega, by omega, by omega, by omega⟩
  | succ s =>
    have e : ∀ zs, atL zs (((s + 1 : Nat) : Int) - 1) = gl zs s := fun zs => by
      rw [show ((s + 1 : Nat) : Int) - 1 = (s : Int) from by omega, atL_nat]
    rw [e, e]
    have l1 := sumTo_lt (f := gl xs) (k := s) (fun j _ => hx.gl j)
    have l2 := sumTo_lt (f := gl ys) (k := s) (fun j _ => hy.gl j)
    have l3 := Bp_pos s
    exact ⟨1, Bp s, sumTo (gl xs) s, sumTo (gl ys) s, by omega, by omega, by rw [Int.one_mul]; exact high_val h1, by rw [Int.one_mul]; exact high_val h2, by omega, by omega, by omega, by omega⟩


theorem steps_below (w : World) (X Y : Obj) : Below w.heap.size w ((w.alloc X).alloc Y) :=
  ((Below.refl _ w).alloc (Nat.le_refl _) X).alloc (by show w.heap.size ≤ (w.heap.push X).size; simp) Y
/-- What foresee tells: nothing, or many divisions at once. -/
def Told (A B : Nat) (a b c d : Int) : Prop :=
  b = 0 ∨ ((-1000000000 < a ∧ a < 1000000000) ∧ (-1000000000 < b ∧ b < 1000000000) ∧ (-1000000000 < c ∧ c < 1000000000) ∧ (-1000000000 < d ∧ d < 1000000000) ∧ (a * d - b * c = 1 ∨ a * d - b * c = -1) ∧
    0 ≤ a * A + b * B ∧ 0 ≤ c * A + d * B ∧ a * A + b * B ≤ B ∧ c * A + d * B < B)
/-- Where the loop stands. -/
def FoI (A B : Nat) (x0 y0 a b c d x y : Int) : Prop := ∃ K R p r : Int, 1 ≤ K ∧ 1 ≤ R ∧ K * A = x0 * R + p ∧ K * B = y0 * R + r ∧ 0 ≤ p ∧ p ≤ R ∧ 0 ≤ r ∧ r ≤ R ∧ x0 < 1000000000000000000 ∧ y0 < 1000000000000000000 ∧ Fo (K * A) (K * B) x0 y0 a b c d x y
theorem FoI.start {A B : Nat} {x0 y0 : Int} (h : Hi A B x0 y0) : FoI A B x0 y0 1 0 0 1 x0 y0 := by
  obtain ⟨hx, hy, K, R, p, r, h1, h2, h3, h4, h5, h6, h7, h8⟩ := h
  exact ⟨K, R, p, r, h1, h2, h3, h4, h5, h6, h7, h8, hx.2, hy.2, Fo.start (Int.mul_nonneg (by omega) (by omega)) (Int.mul_nonneg (by omega) (by omega)) hx hy⟩
theorem FoI.told {A B : Nat} {x0 y0 a b c d x y : Int} (h : FoI A B x0 y0 a b c d x y) : Told A B a b c d := by
  obtain ⟨K, R, p, r, h1, h2, h3, h4, h5, h6, h7, h8, _, _, hf⟩ := h
  obtain ⟨ex, ey, sg, ba, bb, bc, bd, bx, bY, pa, pb, pc, pd, nA, nB, tr⟩ := hf
  rcases tr with ⟨_, hb, _⟩ | ⟨t1, t2⟩
  · exact .inl hb
  · have e1 : a * (K * A) + b * (K * B) = K * (a * A + b * B) := by grind
    have e2 : c * (K * A) + d * (K * B) = K * (c * A + d * B) := by grind
    rw [e1] at nA t1
    rw [e2] at nB t2
    have hK : 0 < K := by omega
    exact .inr ⟨ba, bb, bc, bd, by rcases sg with s | s <;> omega, Int.nonneg_of_mul_nonneg_right nA hK, Int.nonneg_of_mul_nonneg_right nB hK, Int.le_of_mul_le_mul_left t1 hK, Int.lt_of_mul_lt_mul_left t2 (by omega)⟩
theorem tdiv_range {n m : Int} (h : 0 ≤ n) (hm : 0 < m) : 0 ≤ n.tdiv m ∧ n.tdiv m ≤ n := by
  rw [Int.tdiv_eq_ediv_of_nonneg h]
  exact ⟨Int.ediv_nonneg h (by omega), Int.ediv_le_self _ h⟩
theorem FoI.step {A B : Nat} {x0 y0 a b c d x y q : Int} (h : FoI A B x0 y0 a b c d x y) (hc : 0 < y + c) (hd : 0 < y + d) (hq1 : (x + a).tdiv (y + c) = q) (hq2 : (x + b).tdiv (y + d) = q) :
    FoI A B x0 y0 c d (a - q * c) (b - q * d) y (x - q * y) ∧ x - q * y < y ∧ 0 ≤ x - q * y ∧ (-1000000000 < q * c ∧ q * c < 1000000000) ∧ (-1000000000 < q * d ∧ q * d < 1000000000) ∧ (0 ≤ q * y ∧ q * y < 1000000000000000000) ∧
      (-1000000000 < a - q * c ∧ a - q * c < 1000000000) ∧ (-1000000000 < b - q * d ∧ b - q * d < 1000000000) ∧ 0 ≤ q ∧ q ≤ 1000000001000000000 := by
  obtain ⟨K, R, p, r, h1, h2, h3, h4, h5, h6, h7, h8, h9, h10, hf⟩ := h
  have pa := hf.pa
  have pb := hf.pb
  have bx := hf.bx
  have ba := hf.ba
  rw [Int.tdiv_eq_ediv_of_nonneg pa] at hq1
  rw [Int.tdiv_eq_ediv_of_nonneg pb] at hq2
  have hle : q ≤ x + a := by rw [← hq1]; exact Int.ediv_le_self _ pa
  obtain ⟨s1, s2, s3, s4, s5, s6, s7⟩ := hf.step h3 h4 h2 h5 h6 h7 h8 h9 h10 (by omega) (by omega) hq1.symm hq2.symm
  exact ⟨⟨K, R, p, r, h1, h2, h3, h4, h5, h6, h7, h8, h9, h10, s1⟩, s2, s1.bY.1, s4, s5, ⟨s6, s7⟩, s1.bc, s1.bd, s3, by omega⟩

end Go.Proofs.YtcckifhloabpkaaDoor

/- nat.divisor: the greatest natural that divides both. -/
namespace Go.Proofs.YtcckifhloabpkaaDoor
open Go.RowKit

theorem Big.le {m n : Nat} (h : Big n) (hl : m ≤ n) : Big m := ⟨Nat.lt_of_le_of_lt hl h.lt⟩
/-- Behind many divisions at once. -/
theorem told_step {A B : Nat} {a b c d : Int} (h : Told A B a b c d) (hb : b ≠ 0) :
    ∃ A2 B2 : Nat, (A2 : Int) = a * A + b * B ∧ (B2 : Int) = c * A + d * B ∧ A2 ≤ B ∧ B2 < B ∧ Nat.gcd A2 B2 = Nat.gcd A B ∧ (-1000000000 < a ∧ a < 1000000000) ∧ (-1000000000 < b ∧ b < 1000000000) ∧ (-1000000000 < c ∧ c < 1000000000) ∧ (-1000000000 < d ∧ d < 1000000000) := by
  rcases h with h | ⟨ba, bb, bc, bd, hdet, n1, n2, l1, l2⟩
  · exact absurd h hb
  · obtain ⟨A2, h1⟩ := Int.eq_ofNat_of_zero_le n1
    obtain ⟨B2, h2⟩ := Int.eq_ofNat_of_zero_le n2
    exact ⟨A2, B2, h1.symm, h2.symm, by omega, by omega, gcd_steps h1.symm h2.symm hdet, ba, bb, bc, bd⟩

theorem sdiv_next {W2 w' w'' : World} {G : Nat} {a b c d : Value} (hG : G < W2.heap.size) (hb : Below w'.heap.size w' w'') (h : w'.cell? ⟨G, 0, none⟩ = some a ∧ w'.cell? ⟨G, 1, none⟩ = some b ∧ w'.cell? ⟨G, 2, none⟩ = some c ∧ w'.cell? ⟨G, 3, none⟩ = some d ∧ Below W2.heap.size W2 w') :
    w''.cell? ⟨G, 0, none⟩ = some a ∧ w''.cell? ⟨G, 1, none⟩ = some b ∧ w''.cell? ⟨G, 2, none⟩ = some c ∧ w''.cell? ⟨G, 3, none⟩ = some d ∧ Below W2.heap.size W2 w'' := by
  obtain ⟨h0, h1, h2, h3, h4⟩ := h
  have hG' : G < w'.heap.size := Nat.lt_of_lt_of_le hG h4.size
  exact ⟨(hb.cell (p := ⟨G, 0, none⟩) hG').trans h0, (hb.cell (p := ⟨G, 1, none⟩) hG').trans h1, (hb.cell (p := ⟨G, 2, none⟩) hG').trans h2, (hb.cell (p := ⟨G, 3, none⟩) hG').trans h3, h4.trans (hb.mono h4.size)⟩
theorem sdiv_drew {W2 : World} {G : Nat} {a b c d : Value} (h0 : W2.cell? ⟨G, 0, none⟩ = some a) (h1 : W2.cell? ⟨G, 1, none⟩ = some b) (h2 : W2.cell? ⟨G, 2, none⟩ = some c) (h3 : W2.cell? ⟨G, 3, none⟩ = some d) :
    W2.drew.cell? ⟨G, 0, none⟩ = some a ∧ W2.drew.cell? ⟨G, 1, none⟩ = some b ∧ W2.drew.cell? ⟨G, 2, none⟩ = some c ∧ W2.drew.cell? ⟨G, 3, none⟩ = some d ∧ Below W2.heap.size W2 W2.drew := ⟨h0, h1, h2, h3, (Below.refl _ _).drew⟩

end Go.Proofs.YtcckifhloabpkaaDoor

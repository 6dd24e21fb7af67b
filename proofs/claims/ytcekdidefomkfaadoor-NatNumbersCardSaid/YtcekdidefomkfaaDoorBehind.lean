/- nat.behind: the iterator over limbs from behind: its contract. -/
import Derived.RangeFuncNested
import Derived.RangeFuncBound
import Derived.RangeFuncCalls
import Derived.RangeFuncLeaves
import Derived.RangeFuncBox
import Derived.Shelf.Abstract
import Derived.Shelf.RegionOpen
import Derived.WalkKit
import Derived.OwnWalkIn
import Derived.TacticsInMore
import Derived.LoopNIn
import Derived.LoopIn
import Derived.Test.YtcekdidefomkfaaDoorRows
import Derived.Test.YtcekdidefomkfaaDoorMem
namespace Go.Proofs.YtcekdidefomkfaaDoor
open Go.RowKit Go.Shelf
attribute [local go_sem] Oper.semAt_some

/-- The places that have come when k rounds are over, from len - 1 down. -/
def dn (len k : Nat) : List Nat := (List.range k).map (fun j => len - 1 - j)
theorem dn_succ (len k : Nat) : dn len (k + 1) = dn len k ++ [len - 1 - k] := by simp [dn, List.range_succ]
theorem dn_length (len k : Nat) : (dn len k).length = k := by simp [dn]

theorem dn_step {len m : Nat} (h : m < len) : dn len (len - 1 - m) ++ [m] = dn len (len - m) := by
  rw [show len - m = len - 1 - m + 1 from by omega, dn_succ, show len - 1 - (len - 1 - m) = m from by omega]

/-- What is handed to a round: a place below len, and a limb that may stand there. -/
abbrev Pl (len : Nat) (V : Nat → Nat → Prop) := { p : Nat × Nat // p.1 < len ∧ V p.1 p.2 }
def idx {len : Nat} {V : Nat → Nat → Prop} (l : List (Pl len V)) : List Nat := l.map (fun p => p.1.1)
theorem idx_snoc {len : Nat} {V : Nat → Nat → Prop} (l : List (Pl len V)) (x : Pl len V) : idx (l ++ [x]) = idx l ++ [x.1.1] := by simp [idx]
def encP {len : Nat} {V : Nat → Nat → Prop} (x : Pl len V) : Array Value := #[.int .i64 (x.1.1 : Int), .int .u64 (x.1.2 : Int)]

/-- The box holds the slice, and each of its cells a limb that may stand there. -/
def Ready (Bs b off len cap : Nat) (V : Nat → Nat → Prop) (W : World) : Prop :=
  W.cell? ⟨Bs, 0, none⟩ = some (.slice (some ⟨b, off, none⟩) len cap) ∧ ∀ j, j < len → ∃ x : Nat, V j x ∧ W.cell? ⟨b, off + j, none⟩ = some (.int .u64 (x : Int))
def ReadyK (Bs b off len cap : Nat) (V : Nat → Nat → Prop) (A B : World) : Prop := Ready Bs b off len cap V A → Ready Bs b off len cap V B

theorem readyK_t {Bs b off len cap : Nat} {V : Nat → Nat → Prop} {A B C : World} (h : ReadyK Bs b off len cap V A B) (k : ReadyK Bs b off len cap V B C) : ReadyK Bs b off len cap V A C := fun r => k (h r)
theorem readyK_b {Bs b off len cap : Nat} {V : Nat → Nat → Prop} (W : World) (l : Nat) (o o' : Obj) (hl : W.heap[l]? = some o) (ho : o.isCells = false) : ReadyK Bs b off len cap V W (W.putObj l o') := fun hR =>
  ⟨cell_kept hR.1 (grownBy_putObj' W l o') (fun r e => by cases e; exact ⟨o, hl, ho⟩), fun j hj => by
    obtain ⟨x, hx, hc⟩ := hR.2 j hj
    exact ⟨x, hx, cell_kept hc (grownBy_putObj' W l o') (fun r e => by cases e; exact ⟨o, hl, ho⟩)⟩⟩
/-- What reads the same cells is as ready. -/
theorem ReadyK.of {Bs b off len cap : Nat} {V : Nat → Nat → Prop} {A B : World} (h1 : B.cell? ⟨Bs, 0, none⟩ = A.cell? ⟨Bs, 0, none⟩) (h2 : ∀ j, j < len → B.cell? ⟨b, off + j, none⟩ = A.cell? ⟨b, off + j, none⟩) : ReadyK Bs b off len cap V A B :=
  fun hR => ⟨h1.trans hR.1, fun j hj => by obtain ⟨x, hx, hc⟩ := hR.2 j hj; exact ⟨x, hx, (h2 j hj).trans hc⟩⟩

set_option maxRecDepth 100000 in
set_option maxHeartbeats 2000000 in
theorem behind1_in (F : Fence) (n : Nat) (hf : F.fn 93) (hro : F.round = none) (hn : 1 ≤ n) (l Bs b off len cap : Nat) (V : Nat → Nat → Prop) (hlen : len ≤ 4611686018427387904)
    (J Jx : List (Pl len V) → World → Prop)
    (hY : ∀ pre x W, J pre W → pre.length < len → YieldAt F (n - 1) Tryd.prog l (encP x) W fun e W' =>
      (e = .returned (.bool true) ∧ J (pre ++ [x]) W' ∧ ReadyK Bs b off len cap V W W') ∨ (e = .returned (.bool false) ∧ Jx (pre ++ [x]) W'))
    (W : World) (hR : Ready Bs b off len cap V W) (h0 : J [] W) :
    CallsIn F n Tryd.prog 93 #[.func (.yield l) #[] #[], .pointer (some ⟨Bs, 0, none⟩)] W fun e W' => (∃ v, e = .returned v) ∧
      ((∃ ys, idx ys = dn len len ∧ J ys W') ∨ (∃ pre, (∃ k, k ≤ len ∧ idx pre = dn len k) ∧ Jx pre W')) := by
  refine callsIn_of_wp Tryd.func93 rfl hf ?_ hro
  simp only [Tryd.ntmps93, List.size_toArray, List.length_cons, List.length_nil, Nat.reduceAdd, Nat.reduceSub, Array.replicate_succ, Array.replicate_zero, List.push_toArray, List.append_toArray, List.nil_append, List.cons_append]
  have hB := hR.1
  gi_wp2
  clear hB
  gi_loopw [3] (fun i wr => ∃ pre : List (Pl len V), J pre wr ∧ Ready Bs b off len cap V wr ∧ ((∃ m : Nat, m < len ∧ idx pre = dn len (len - 1 - m) ∧ i = .int .i64 (m : Int)) ∨ (idx pre = dn len len ∧ i = .int .i64 (-1))))
    (fun i _ => (intOf i + 1).toNat)
  case atStart =>
    by_cases hz : len = 0
    · exact ⟨[], h0, hR, .inr ⟨by subst hz; rfl, congrArg (Value.int .i64) (by omega)⟩⟩
    · exact ⟨[], h0, hR, .inl ⟨len - 1, by omega, by simp [idx, dn], congrArg (Value.int .i64) (by omega)⟩⟩
  case round =>
    obtain ⟨pre, hJs, hRw, ⟨m, hm, hp, rfl⟩ | ⟨hp, rfl⟩⟩ := hrel
    · have hB := hRw.1
      obtain ⟨x, hV, hc⟩ := hRw.2 m hm
      have hpl : pre.length = len - 1 - m := by have := congrArg List.length hp; rw [dn_length] at this; simpa [idx] using this
      obtain ⟨fn, tmps, assign, body, hy, hRd⟩ := hY pre ⟨(m, x), hm, hV⟩ wr hJs (by omega)
      have HP := Lib.hid hp; clear hp
      have HPL := Lib.hid hpl; clear hpl
      have HR := Lib.hid hRw; clear hRw
      simp only [encP] at hy
      gi_wp2
      refine hRd.mono ?_
      rintro e W3 (⟨rfl, hJ3, hk3⟩ | ⟨rfl, hJx3⟩)
      · gi_wp2
        go_roundw
        case rel =>
          refine ⟨_, hJ3, hk3 HR.out, ?_⟩
          by_cases hz : m = 0
          · refine .inr ⟨?_, by subst hz; rfl⟩
            rw [idx_snoc, HP.out]
            refine (dn_step hm).trans ?_
            rw [hz]; rfl
          · refine .inl ⟨m - 1, by omega, ?_, congrArg (Value.int .i64) (by omega)⟩
            rw [idx_snoc, HP.out, show len - 1 - (m - 1) = len - m from by omega]
            exact dn_step hm
        case measure => simp [intOf]
      · gi_wp2
        refine bodyPost_ret (results_none rfl _ _ _) rfl ?_
        refine ⟨⟨_, rfl⟩, .inr ⟨_, ⟨len - m, by omega, ?_⟩, hJx3⟩⟩
        rw [idx_snoc, HP.out]
        exact dn_step hm
    · have HP := Lib.hid hp; clear hp
      gi_wp2
      go_end0
      exact ⟨⟨_, rfl⟩, .inl ⟨_, HP.out, hJs⟩⟩

set_option maxHeartbeats 1000000 in
theorem behind_in (F : Fence) (n : Nat) (hf : F.fn 78) (hro : F.round = none) (a : Option Addr) (len cap : Nat) (w : World) :
    CallsIn F n Tryd.prog 78 #[.slice a len cap] w fun e w' => e = .returned (.func (.func 93) #[] #[.pointer (some ⟨w.heap.size, 0, none⟩)]) ∧ w' = w.alloc (.cells #[.slice a len cap] 44) := by
  refine callsIn_of_wp Tryd.func78 rfl hf ?_ hro
  simp only [Tryd.ntmps78, List.size_toArray, List.length_cons, List.length_nil, Nat.reduceAdd, Nat.reduceSub, Array.replicate_succ, Array.replicate_zero, List.push_toArray, List.append_toArray, List.nil_append, List.cons_append]
  gi_wp2
  go_ret
  exact ⟨rfl, rfl⟩

theorem behind_stops (F : Fence) (n : Nat) (hf : F.fn 93) (hro : F.round = none) (hn : 1 ≤ n) (Bs b off len cap : Nat) (V : Nat → Nat → Prop) (hlen : len ≤ 4611686018427387904) (w : World)
    (hBs : Bs < w.heap.size) (hb : b < w.heap.size) (hR : Ready Bs b off len cap V w) :
    SeqStopsK F n Tryd.prog 93 #[.pointer (some ⟨Bs, 0, none⟩)] (encP (len := len) (V := V)) (ReadyK Bs b off len cap V) (fun ys => idx ys = dn len len) (fun pre => ∃ k, k ≤ len ∧ idx pre = dn len k) len w :=
  fun l J Jx W hW _ _ hY h0 => behind1_in F n hf hro hn l Bs b off len cap V hlen J Jx hY W ⟨(hW.cell (p := ⟨Bs, 0, none⟩) hBs).trans hR.1, fun j hj => by
    obtain ⟨x, hx, hc⟩ := hR.2 j hj
    exact ⟨x, hx, (hW.cell (p := ⟨b, off + j, none⟩) hb).trans hc⟩⟩ h0

/-- What a value reads as it reads behind the turn of a block that is no cells. -/
theorem LimN.putObj {W : World} {v : Value} {n : Nat} (h : LimN W v n) {l : Nat} {o : Obj} (hl : W.heap[l]? = some o) (ho : o.isCells = false) (o' : Obj) : LimN (W.putObj l o') v n := by
  obtain ⟨xs, ⟨h1, h2⟩, h3⟩ := h
  refine ⟨xs, ⟨h1, ?_⟩, h3⟩
  rcases h2 with h2 | ⟨b, off, cap, hv, hc, hm, hb, ha⟩
  · exact .inl h2
  · exact .inr ⟨b, off, cap, hv, hc, hm, Nat.lt_of_lt_of_le hb (grownBy_putObj' W l o').size, fun j hj => cell_kept (ha j hj) (grownBy_putObj' W l o') (fun r e => by cases e; exact ⟨o, hl, ho⟩)⟩

/-- That a row holds what it holds, and may be written, speaks of cells alone. -/
theorem arr_own {β : Type} (b off n : Nat) (f : β → List Nat) : Own (fun s W => (f s).length = n ∧ Arr W b off (f s) ∧ Free W b off n) := fun s X Y row hs hg hr => by
  obtain ⟨h0, h1, h2⟩ := hs
  exact ⟨h0, fun j hj => cell_kept (h1 j hj) hg hr, fun j hj => (frozen_kept (h1 j (by omega)) hg hr).trans (h2 j hj)⟩
end Go.Proofs.YtcekdidefomkfaaDoor

/- Whether terms, and rows of terms, are the same. -/
import Derived.Test.YtdeinhkdphgfaaaGreatDoorAllRefT5M
import Derived.Test.YtdeinhkdphgfaaaGreatDoorRowsGM
namespace Go.Proofs.YtdeinhkdphgfaaaGreatDoor
open Go.RowKit
set_option linter.unusedSimpArgs false
set_option linter.unusedVariables false
open Tm (Nd)
theorem nd_eq {op op' a a' bb bb' : Int} {n d s n' d' s' : List UInt8} (e : Nd.mk op (n, d) s a bb = Nd.mk op' (n', d') s' a' bb') : op = op' ∧ n = n' ∧ d = d' ∧ s = s' ∧ a = a' ∧ bb = bb' := by
 injection e with e0 e1 e2 e3 e4
 injection e1 with e1 e5
 exact ⟨e0, e1, e5, e2, e3, e4⟩
instance : DecidableEq Nd := fun ⟨op, ⟨n, d⟩, s, a, bb⟩ ⟨op', ⟨n', d'⟩, s', a', bb'⟩ =>
 if h : op = op' ∧ n = n' ∧ d = d' ∧ s = s' ∧ a = a' ∧ bb = bb' then isTrue (by obtain ⟨rfl, rfl, rfl, rfl, rfl, rfl⟩ := h; rfl) else isFalse fun e => h (nd_eq e)
set_option maxRecDepth 100000 in
set_option maxHeartbeats 4000000 in
theorem rtsame_any (p q : Option Addr) (c c' : Nat) (l m : List Nd) (w : World) (hl : l.length ≤ 4611686018427387904) (hl' : m.length ≤ 4611686018427387904) (h : Nds w p l) (h' : Nds w q m) :
  Calls Tryz.prog 21 #[.slice p l.length c, .slice q m.length c'] w (GiveB w (decide (l = m))) := by
 have HS := Lib.hid h; have HS' := Lib.hid h'; clear h h'
 by_cases hne : l.length = m.length
 ·go_enter Tryz.func21, Tryz.ntmps21
  go_wp2
  go_loopw [5] (fun i wr => ∃ k : Nat, k ≤ l.length ∧ i = .int .i64 k ∧ Hid (∀ (j : Nat) (x : Nd), j < k → l[j]? = some x → m[j]? = some x) ∧ Below w.heap.size w wr) (fun i _ => l.length - (intOf i).toNat)
  case atStart => exact ⟨0, Nat.zero_le _, rfl, fun j x h => absurd h (Nat.not_lt_zero j), Below.refl _ _⟩
  case round =>
   obtain ⟨k, hk, rfl, HJ, hw⟩ := hrel
   by_cases hlt : k < l.length
   ·obtain ⟨⟨op, ⟨n, d⟩, s, a, bb⟩, hx⟩ : ∃ x, l[k]? = some x := ⟨_, List.getElem?_eq_getElem hlt⟩
    obtain ⟨⟨op', ⟨n', d'⟩, s', a', bb'⟩, hy⟩ : ∃ x, m[k]? = some x := ⟨_, List.getElem?_eq_getElem (hne ▸ hlt)⟩
    obtain ⟨b, o, rfl, k0, k1, k2, k3, k4, k5⟩ := nds_rule (HS.out.below hw) hx
    obtain ⟨b', o', rfl, j0, j1, j2, j3, j4, j5⟩ := nds_rule (HS'.out.below hw) hy
    have HW := Lib.hid hw
    have hlt' : (k : Int) < (m.length : Int) := by omega
    have b0 := Below.refl wr.heap.size wr
    have HX := Lib.hid hx; have HY := Lib.hid hy
    clear hx hy hw
    have hB := Lib.hid (Nat.le_refl wr.heap.size)
    dsimp only at k0 k1 k2 k3 k4 k5 j0 j1 j2 j3 j4 j5
    by_cases e0 : op = op'
    ·by_cases e1 : n = n'
     ·by_cases e2 : d = d'
      ·by_cases e3 : s = s'
       ·by_cases e4 : a = a'
        ·by_cases e5 : bb = bb'
         ·have HO : Hid (m[k]? = some (Nd.mk op (n, d) s a bb)) := Lib.hid (by subst e0 e1 e2 e3 e4 e5; exact HY.out)
          have q0 : (op == op') = true := by rw [beq_iff_eq]; assumption
          have q1 : (n == n') = true := by rw [beq_iff_eq]; assumption
          have q2 : (d == d') = true := by rw [beq_iff_eq]; assumption
          have q3 : (s == s') = true := by rw [beq_iff_eq]; assumption
          have q4 : (a == a') = true := by rw [beq_iff_eq]; assumption
          have q5 : (bb == bb') = true := by rw [beq_iff_eq]; assumption
          clear e0
          clear e1
          clear e2
          clear e3
          clear e4
          clear e5
          go_wp2_with fail
          refine wp_region_noPanic ?_
          refine wp_region_held_drew (S := fun w' => Below wr.heap.size wr w') (by kernel_rfl) (b0.drew) (fun hH0 => ?_)
          refine wpAnyH_take (i := 0) (v := ?_) rfl (by kernel_rfl) (by kernel_rfl) (by kernel_rfl) (fun _ _ _ h => h) (Or.inl ⟨by rfl, ?_⟩) (by assumption) ?_
          rotate_left 1
          ·(intro w hSw; (try dsimp only at hSw); go_simp <;> (with_reducible rfl))
          try simp only [Act.put, qA, qB, qC, qD, qE, qF]
          refine wpAnyH_take (i := 1) (v := ?_) rfl (by kernel_rfl) (by kernel_rfl) (by kernel_rfl) (fun _ _ _ h => h) (Or.inl ⟨by rfl, ?_⟩) (by assumption) ?_
          rotate_left 1
          ·(intro w hSw; (try dsimp only at hSw); go_simp <;> (with_reducible rfl))
          try simp only [Act.put, qA, qB, qC, qD, qE, qF]
          refine wpAnyH_take (i := 2) (v := ?_) rfl (by kernel_rfl) (by kernel_rfl) (by kernel_rfl) (fun _ _ _ h => h) (Or.inl ⟨by rfl, ?_⟩) (by assumption) ?_
          rotate_left 1
          ·(intro w hSw; (try dsimp only at hSw); go_simp <;> (with_reducible rfl))
          try simp only [Act.put, qA, qB, qC, qD, qE, qF]
          refine wpAnyH_take (i := 3) (v := ?_) rfl (by kernel_rfl) (by kernel_rfl) (by kernel_rfl) (fun _ _ _ h => h) (Or.inl ⟨by rfl, ?_⟩) (by assumption) ?_
          rotate_left 1
          ·(intro w hSw; (try dsimp only at hSw); go_simp <;> (with_reducible rfl))
          try simp only [Act.put, qA, qB, qC, qD, qE, qF]
          refine wpAnyH_take (i := 4) (v := ?_) rfl (by kernel_rfl) (by kernel_rfl) (by kernel_rfl) (fun _ _ _ h => h) (Or.inl ⟨by rfl, ?_⟩) (by assumption) ?_
          rotate_left 1
          ·(intro w hSw; (try dsimp only at hSw); go_simp <;> (with_reducible rfl))
          try simp only [Act.put, qA, qB, qC, qD, qE, qF]
          refine wpAnyH_take (i := 5) (v := ?_) rfl (by kernel_rfl) (by kernel_rfl) (by kernel_rfl) (fun _ _ _ h => h) (Or.inl ⟨by rfl, ?_⟩) (by assumption) ?_
          rotate_left 1
          ·(intro w hSw; (try dsimp only at hSw); go_simp <;> (with_reducible rfl))
          try simp only [Act.put, qA, qB, qC, qD, qE, qF]
          refine wpAnyH_take (i := 6) (v := ?_) rfl (by kernel_rfl) (by kernel_rfl) (by kernel_rfl) (fun _ _ _ h => h) (Or.inl ⟨by rfl, ?_⟩) (by assumption) ?_
          rotate_left 1
          ·(intro w hSw; (try dsimp only at hSw); go_simp <;> (with_reducible rfl))
          try simp only [Act.put, qA, qB, qC, qD, qE, qF]
          refine wpAnyH_take (i := 7) (v := ?_) rfl (by kernel_rfl) (by kernel_rfl) (by kernel_rfl) (fun _ _ _ h => h) (Or.inl ⟨by rfl, ?_⟩) (by assumption) ?_
          rotate_left 1
          ·(intro w hSw; (try dsimp only at hSw); go_simp <;> (with_reducible rfl))
          try simp only [Act.put, qA, qB, qC, qD, qE, qF]
          refine wpAnyH_take (i := 8) (v := ?_) rfl (by kernel_rfl) (by kernel_rfl) (by kernel_rfl) (fun _ _ _ h => h) (Or.inl ⟨by rfl, ?_⟩) (by assumption) ?_
          rotate_left 1
          ·(intro w hSw; (try dsimp only at hSw); go_simp <;> (with_reducible rfl))
          try simp only [Act.put, qA, qB, qC, qD, qE, qF]
          refine wpAnyH_done (by kernel_rfl) ?_ _
          refine NoPanic.normal ?_
          have b9 := hH0
          clear hH0
          go_wp2_with fail
          go_roundw
          case rel => exact ⟨k + 1, hlt, by go_num, rows_more (P := fun j x => m[j]? = some x) HJ.out HX.out HO.out, Below.more HW.out b9⟩
          case measure => simp [intOf]; omega
         ·have HO : Hid (decide (l = m) = false) := Lib.hid (rows_stop HX.out HY.out (fun e => e5 ((nd_eq e).2.2.2.2.2)))
          have q0 : (op == op') = true := by rw [beq_iff_eq]; assumption
          have q1 : (n == n') = true := by rw [beq_iff_eq]; assumption
          have q2 : (d == d') = true := by rw [beq_iff_eq]; assumption
          have q3 : (s == s') = true := by rw [beq_iff_eq]; assumption
          have q4 : (a == a') = true := by rw [beq_iff_eq]; assumption
          have q5 : (bb == bb') = false := by rw [beq_eq_false_iff_ne]; assumption
          clear e0
          clear e1
          clear e2
          clear e3
          clear e4
          clear e5
          go_wp2_with fail
          refine wp_region_noPanic ?_
          refine wp_region_held_drew (S := fun w' => Below wr.heap.size wr w') (by kernel_rfl) (b0.drew) (fun hH0 => ?_)
          refine wpAnyH_take (i := 0) (v := ?_) rfl (by kernel_rfl) (by kernel_rfl) (by kernel_rfl) (fun _ _ _ h => h) (Or.inl ⟨by rfl, ?_⟩) (by assumption) ?_
          rotate_left 1
          ·(intro w hSw; (try dsimp only at hSw); go_simp <;> (with_reducible rfl))
          try simp only [Act.put, qA, qB, qC, qD, qE, qF]
          refine wpAnyH_take (i := 1) (v := ?_) rfl (by kernel_rfl) (by kernel_rfl) (by kernel_rfl) (fun _ _ _ h => h) (Or.inl ⟨by rfl, ?_⟩) (by assumption) ?_
          rotate_left 1
          ·(intro w hSw; (try dsimp only at hSw); go_simp <;> (with_reducible rfl))
          try simp only [Act.put, qA, qB, qC, qD, qE, qF]
          refine wpAnyH_take (i := 2) (v := ?_) rfl (by kernel_rfl) (by kernel_rfl) (by kernel_rfl) (fun _ _ _ h => h) (Or.inl ⟨by rfl, ?_⟩) (by assumption) ?_
          rotate_left 1
          ·(intro w hSw; (try dsimp only at hSw); go_simp <;> (with_reducible rfl))
          try simp only [Act.put, qA, qB, qC, qD, qE, qF]
          refine wpAnyH_take (i := 3) (v := ?_) rfl (by kernel_rfl) (by kernel_rfl) (by kernel_rfl) (fun _ _ _ h => h) (Or.inl ⟨by rfl, ?_⟩) (by assumption) ?_
          rotate_left 1
          ·(intro w hSw; (try dsimp only at hSw); go_simp <;> (with_reducible rfl))
          try simp only [Act.put, qA, qB, qC, qD, qE, qF]
          refine wpAnyH_take (i := 4) (v := ?_) rfl (by kernel_rfl) (by kernel_rfl) (by kernel_rfl) (fun _ _ _ h => h) (Or.inl ⟨by rfl, ?_⟩) (by assumption) ?_
          rotate_left 1
          ·(intro w hSw; (try dsimp only at hSw); go_simp <;> (with_reducible rfl))
          try simp only [Act.put, qA, qB, qC, qD, qE, qF]
          refine wpAnyH_take (i := 5) (v := ?_) rfl (by kernel_rfl) (by kernel_rfl) (by kernel_rfl) (fun _ _ _ h => h) (Or.inl ⟨by rfl, ?_⟩) (by assumption) ?_
          rotate_left 1
          ·(intro w hSw; (try dsimp only at hSw); go_simp <;> (with_reducible rfl))
          try simp only [Act.put, qA, qB, qC, qD, qE, qF]
          refine wpAnyH_take (i := 6) (v := ?_) rfl (by kernel_rfl) (by kernel_rfl) (by kernel_rfl) (fun _ _ _ h => h) (Or.inl ⟨by rfl, ?_⟩) (by assumption) ?_
          rotate_left 1
          ·(intro w hSw; (try dsimp only at hSw); go_simp <;> (with_reducible rfl))
          try simp only [Act.put, qA, qB, qC, qD, qE, qF]
          refine wpAnyH_take (i := 7) (v := ?_) rfl (by kernel_rfl) (by kernel_rfl) (by kernel_rfl) (fun _ _ _ h => h) (Or.inl ⟨by rfl, ?_⟩) (by assumption) ?_
          rotate_left 1
          ·(intro w hSw; (try dsimp only at hSw); go_simp <;> (with_reducible rfl))
          try simp only [Act.put, qA, qB, qC, qD, qE, qF]
          refine wpAnyH_take (i := 8) (v := ?_) rfl (by kernel_rfl) (by kernel_rfl) (by kernel_rfl) (fun _ _ _ h => h) (Or.inl ⟨by rfl, ?_⟩) (by assumption) ?_
          rotate_left 1
          ·(intro w hSw; (try dsimp only at hSw); go_simp <;> (with_reducible rfl))
          try simp only [Act.put, qA, qB, qC, qD, qE, qF]
          refine wpAnyH_done (by kernel_rfl) ?_ _
          refine NoPanic.normal ?_
          have b9 := hH0
          clear hH0
          go_wp2_with fail
          go_ret
          exact ⟨ret_bool (by rw [HO.out]), Below.more HW.out b9⟩
        ·have HO : Hid (decide (l = m) = false) := Lib.hid (rows_stop HX.out HY.out (fun e => e4 ((nd_eq e).2.2.2.2.1)))
         have q0 : (op == op') = true := by rw [beq_iff_eq]; assumption
         have q1 : (n == n') = true := by rw [beq_iff_eq]; assumption
         have q2 : (d == d') = true := by rw [beq_iff_eq]; assumption
         have q3 : (s == s') = true := by rw [beq_iff_eq]; assumption
         have q4 : (a == a') = false := by rw [beq_eq_false_iff_ne]; assumption
         clear e0
         clear e1
         clear e2
         clear e3
         clear e4
         go_wp2_with fail
         refine wp_region_noPanic ?_
         refine wp_region_held_drew (S := fun w' => Below wr.heap.size wr w') (by kernel_rfl) (b0.drew) (fun hH0 => ?_)
         refine wpAnyH_take (i := 0) (v := ?_) rfl (by kernel_rfl) (by kernel_rfl) (by kernel_rfl) (fun _ _ _ h => h) (Or.inl ⟨by rfl, ?_⟩) (by assumption) ?_
         rotate_left 1
         ·(intro w hSw; (try dsimp only at hSw); go_simp <;> (with_reducible rfl))
         try simp only [Act.put, qA, qB, qC, qD, qE, qF]
         refine wpAnyH_take (i := 1) (v := ?_) rfl (by kernel_rfl) (by kernel_rfl) (by kernel_rfl) (fun _ _ _ h => h) (Or.inl ⟨by rfl, ?_⟩) (by assumption) ?_
         rotate_left 1
         ·(intro w hSw; (try dsimp only at hSw); go_simp <;> (with_reducible rfl))
         try simp only [Act.put, qA, qB, qC, qD, qE, qF]
         refine wpAnyH_take (i := 2) (v := ?_) rfl (by kernel_rfl) (by kernel_rfl) (by kernel_rfl) (fun _ _ _ h => h) (Or.inl ⟨by rfl, ?_⟩) (by assumption) ?_
         rotate_left 1
         ·(intro w hSw; (try dsimp only at hSw); go_simp <;> (with_reducible rfl))
         try simp only [Act.put, qA, qB, qC, qD, qE, qF]
         refine wpAnyH_take (i := 3) (v := ?_) rfl (by kernel_rfl) (by kernel_rfl) (by kernel_rfl) (fun _ _ _ h => h) (Or.inl ⟨by rfl, ?_⟩) (by assumption) ?_
         rotate_left 1
         ·(intro w hSw; (try dsimp only at hSw); go_simp <;> (with_reducible rfl))
         try simp only [Act.put, qA, qB, qC, qD, qE, qF]
         refine wpAnyH_take (i := 4) (v := ?_) rfl (by kernel_rfl) (by kernel_rfl) (by kernel_rfl) (fun _ _ _ h => h) (Or.inl ⟨by rfl, ?_⟩) (by assumption) ?_
         rotate_left 1
         ·(intro w hSw; (try dsimp only at hSw); go_simp <;> (with_reducible rfl))
         try simp only [Act.put, qA, qB, qC, qD, qE, qF]
         refine wpAnyH_take (i := 5) (v := ?_) rfl (by kernel_rfl) (by kernel_rfl) (by kernel_rfl) (fun _ _ _ h => h) (Or.inl ⟨by rfl, ?_⟩) (by assumption) ?_
         rotate_left 1
         ·(intro w hSw; (try dsimp only at hSw); go_simp <;> (with_reducible rfl))
         try simp only [Act.put, qA, qB, qC, qD, qE, qF]
         refine wpAnyH_take (i := 6) (v := ?_) rfl (by kernel_rfl) (by kernel_rfl) (by kernel_rfl) (fun _ _ _ h => h) (Or.inl ⟨by rfl, ?_⟩) (by assumption) ?_
         rotate_left 1
         ·(intro w hSw; (try dsimp only at hSw); go_simp <;> (with_reducible rfl))
         try simp only [Act.put, qA, qB, qC, qD, qE, qF]
         refine wpAnyH_take (i := 7) (v := ?_) rfl (by kernel_rfl) (by kernel_rfl) (by kernel_rfl) (fun _ _ _ h => h) (Or.inl ⟨by rfl, ?_⟩) (by assumption) ?_
         rotate_left 1
         ·(intro w hSw; (try dsimp only at hSw); go_simp <;> (with_reducible rfl))
         try simp only [Act.put, qA, qB, qC, qD, qE, qF]
         refine wpAnyH_take (i := 8) (v := ?_) rfl (by kernel_rfl) (by kernel_rfl) (by kernel_rfl) (fun _ _ _ h => h) (Or.inl ⟨by rfl, ?_⟩) (by assumption) ?_
         rotate_left 1
         ·(intro w hSw; (try dsimp only at hSw); go_simp <;> (with_reducible rfl))
         try simp only [Act.put, qA, qB, qC, qD, qE, qF]
         refine wpAnyH_done (by kernel_rfl) ?_ _
         refine NoPanic.normal ?_
         have b9 := hH0
         clear hH0
         go_wp2_with fail
         go_ret
         exact ⟨ret_bool (by rw [HO.out]), Below.more HW.out b9⟩
       ·have HO : Hid (decide (l = m) = false) := Lib.hid (rows_stop HX.out HY.out (fun e => e3 ((nd_eq e).2.2.2.1)))
        have q0 : (op == op') = true := by rw [beq_iff_eq]; assumption
        have q1 : (n == n') = true := by rw [beq_iff_eq]; assumption
        have q2 : (d == d') = true := by rw [beq_iff_eq]; assumption
        have q3 : (s == s') = false := by rw [beq_eq_false_iff_ne]; assumption
        clear e0
        clear e1
        clear e2
        clear e3
        go_wp2_with fail
        refine wp_region_noPanic ?_
        refine wp_region_held_drew (S := fun w' => Below wr.heap.size wr w') (by kernel_rfl) (b0.drew) (fun hH0 => ?_)
        refine wpAnyH_take (i := 0) (v := ?_) rfl (by kernel_rfl) (by kernel_rfl) (by kernel_rfl) (fun _ _ _ h => h) (Or.inl ⟨by rfl, ?_⟩) (by assumption) ?_
        rotate_left 1
        ·(intro w hSw; (try dsimp only at hSw); go_simp <;> (with_reducible rfl))
        try simp only [Act.put, qA, qB, qC, qD, qE, qF]
        refine wpAnyH_take (i := 1) (v := ?_) rfl (by kernel_rfl) (by kernel_rfl) (by kernel_rfl) (fun _ _ _ h => h) (Or.inl ⟨by rfl, ?_⟩) (by assumption) ?_
        rotate_left 1
        ·(intro w hSw; (try dsimp only at hSw); go_simp <;> (with_reducible rfl))
        try simp only [Act.put, qA, qB, qC, qD, qE, qF]
        refine wpAnyH_take (i := 2) (v := ?_) rfl (by kernel_rfl) (by kernel_rfl) (by kernel_rfl) (fun _ _ _ h => h) (Or.inl ⟨by rfl, ?_⟩) (by assumption) ?_
        rotate_left 1
        ·(intro w hSw; (try dsimp only at hSw); go_simp <;> (with_reducible rfl))
        try simp only [Act.put, qA, qB, qC, qD, qE, qF]
        refine wpAnyH_take (i := 3) (v := ?_) rfl (by kernel_rfl) (by kernel_rfl) (by kernel_rfl) (fun _ _ _ h => h) (Or.inl ⟨by rfl, ?_⟩) (by assumption) ?_
        rotate_left 1
        ·(intro w hSw; (try dsimp only at hSw); go_simp <;> (with_reducible rfl))
        try simp only [Act.put, qA, qB, qC, qD, qE, qF]
        refine wpAnyH_take (i := 4) (v := ?_) rfl (by kernel_rfl) (by kernel_rfl) (by kernel_rfl) (fun _ _ _ h => h) (Or.inl ⟨by rfl, ?_⟩) (by assumption) ?_
        rotate_left 1
        ·(intro w hSw; (try dsimp only at hSw); go_simp <;> (with_reducible rfl))
        try simp only [Act.put, qA, qB, qC, qD, qE, qF]
        refine wpAnyH_take (i := 5) (v := ?_) rfl (by kernel_rfl) (by kernel_rfl) (by kernel_rfl) (fun _ _ _ h => h) (Or.inl ⟨by rfl, ?_⟩) (by assumption) ?_
        rotate_left 1
        ·(intro w hSw; (try dsimp only at hSw); go_simp <;> (with_reducible rfl))
        try simp only [Act.put, qA, qB, qC, qD, qE, qF]
        refine wpAnyH_take (i := 6) (v := ?_) rfl (by kernel_rfl) (by kernel_rfl) (by kernel_rfl) (fun _ _ _ h => h) (Or.inl ⟨by rfl, ?_⟩) (by assumption) ?_
        rotate_left 1
        ·(intro w hSw; (try dsimp only at hSw); go_simp <;> (with_reducible rfl))
        try simp only [Act.put, qA, qB, qC, qD, qE, qF]
        refine wpAnyH_take (i := 7) (v := ?_) rfl (by kernel_rfl) (by kernel_rfl) (by kernel_rfl) (fun _ _ _ h => h) (Or.inl ⟨by rfl, ?_⟩) (by assumption) ?_
        rotate_left 1
        ·(intro w hSw; (try dsimp only at hSw); go_simp <;> (with_reducible rfl))
        try simp only [Act.put, qA, qB, qC, qD, qE, qF]
        refine wpAnyH_take (i := 8) (v := ?_) rfl (by kernel_rfl) (by kernel_rfl) (by kernel_rfl) (fun _ _ _ h => h) (Or.inl ⟨by rfl, ?_⟩) (by assumption) ?_
        rotate_left 1
        ·(intro w hSw; (try dsimp only at hSw); go_simp <;> (with_reducible rfl))
        try simp only [Act.put, qA, qB, qC, qD, qE, qF]
        refine wpAnyH_done (by kernel_rfl) ?_ _
        refine NoPanic.normal ?_
        have b9 := hH0
        clear hH0
        go_wp2_with fail
        go_ret
        exact ⟨ret_bool (by rw [HO.out]), Below.more HW.out b9⟩
      ·have HO : Hid (decide (l = m) = false) := Lib.hid (rows_stop HX.out HY.out (fun e => e2 ((nd_eq e).2.2.1)))
       have q0 : (op == op') = true := by rw [beq_iff_eq]; assumption
       have q1 : (n == n') = true := by rw [beq_iff_eq]; assumption
       have q2 : (d == d') = false := by rw [beq_eq_false_iff_ne]; assumption
       clear e0
       clear e1
       clear e2
       go_wp2_with fail
       refine wp_region_noPanic ?_
       refine wp_region_held_drew (S := fun w' => Below wr.heap.size wr w') (by kernel_rfl) (b0.drew) (fun hH0 => ?_)
       refine wpAnyH_take (i := 0) (v := ?_) rfl (by kernel_rfl) (by kernel_rfl) (by kernel_rfl) (fun _ _ _ h => h) (Or.inl ⟨by rfl, ?_⟩) (by assumption) ?_
       rotate_left 1
       ·(intro w hSw; (try dsimp only at hSw); go_simp <;> (with_reducible rfl))
       try simp only [Act.put, qA, qB, qC, qD, qE, qF]
       refine wpAnyH_take (i := 1) (v := ?_) rfl (by kernel_rfl) (by kernel_rfl) (by kernel_rfl) (fun _ _ _ h => h) (Or.inl ⟨by rfl, ?_⟩) (by assumption) ?_
       rotate_left 1
       ·(intro w hSw; (try dsimp only at hSw); go_simp <;> (with_reducible rfl))
       try simp only [Act.put, qA, qB, qC, qD, qE, qF]
       refine wpAnyH_take (i := 2) (v := ?_) rfl (by kernel_rfl) (by kernel_rfl) (by kernel_rfl) (fun _ _ _ h => h) (Or.inl ⟨by rfl, ?_⟩) (by assumption) ?_
       rotate_left 1
       ·(intro w hSw; (try dsimp only at hSw); go_simp <;> (with_reducible rfl))
       try simp only [Act.put, qA, qB, qC, qD, qE, qF]
       refine wpAnyH_take (i := 3) (v := ?_) rfl (by kernel_rfl) (by kernel_rfl) (by kernel_rfl) (fun _ _ _ h => h) (Or.inl ⟨by rfl, ?_⟩) (by assumption) ?_
       rotate_left 1
       ·(intro w hSw; (try dsimp only at hSw); go_simp <;> (with_reducible rfl))
       try simp only [Act.put, qA, qB, qC, qD, qE, qF]
       refine wpAnyH_take (i := 4) (v := ?_) rfl (by kernel_rfl) (by kernel_rfl) (by kernel_rfl) (fun _ _ _ h => h) (Or.inl ⟨by rfl, ?_⟩) (by assumption) ?_
       rotate_left 1
       ·(intro w hSw; (try dsimp only at hSw); go_simp <;> (with_reducible rfl))
       try simp only [Act.put, qA, qB, qC, qD, qE, qF]
       refine wpAnyH_take (i := 5) (v := ?_) rfl (by kernel_rfl) (by kernel_rfl) (by kernel_rfl) (fun _ _ _ h => h) (Or.inl ⟨by rfl, ?_⟩) (by assumption) ?_
       rotate_left 1
       ·(intro w hSw; (try dsimp only at hSw); go_simp <;> (with_reducible rfl))
       try simp only [Act.put, qA, qB, qC, qD, qE, qF]
       refine wpAnyH_take (i := 6) (v := ?_) rfl (by kernel_rfl) (by kernel_rfl) (by kernel_rfl) (fun _ _ _ h => h) (Or.inl ⟨by rfl, ?_⟩) (by assumption) ?_
       rotate_left 1
       ·(intro w hSw; (try dsimp only at hSw); go_simp <;> (with_reducible rfl))
       try simp only [Act.put, qA, qB, qC, qD, qE, qF]
       refine wpAnyH_take (i := 7) (v := ?_) rfl (by kernel_rfl) (by kernel_rfl) (by kernel_rfl) (fun _ _ _ h => h) (Or.inl ⟨by rfl, ?_⟩) (by assumption) ?_
       rotate_left 1
       ·(intro w hSw; (try dsimp only at hSw); go_simp <;> (with_reducible rfl))
       try simp only [Act.put, qA, qB, qC, qD, qE, qF]
       refine wpAnyH_take (i := 8) (v := ?_) rfl (by kernel_rfl) (by kernel_rfl) (by kernel_rfl) (fun _ _ _ h => h) (Or.inl ⟨by rfl, ?_⟩) (by assumption) ?_
       rotate_left 1
       ·(intro w hSw; (try dsimp only at hSw); go_simp <;> (with_reducible rfl))
       try simp only [Act.put, qA, qB, qC, qD, qE, qF]
       refine wpAnyH_done (by kernel_rfl) ?_ _
       refine NoPanic.normal ?_
       have b9 := hH0
       clear hH0
       go_wp2_with fail
       go_ret
       exact ⟨ret_bool (by rw [HO.out]), Below.more HW.out b9⟩
     ·have HO : Hid (decide (l = m) = false) := Lib.hid (rows_stop HX.out HY.out (fun e => e1 ((nd_eq e).2.1)))
      have q0 : (op == op') = true := by rw [beq_iff_eq]; assumption
      have q1 : (n == n') = false := by rw [beq_eq_false_iff_ne]; assumption
      clear e0
      clear e1
      go_wp2_with fail
      refine wp_region_noPanic ?_
      refine wp_region_held_drew (S := fun w' => Below wr.heap.size wr w') (by kernel_rfl) (b0.drew) (fun hH0 => ?_)
      refine wpAnyH_take (i := 0) (v := ?_) rfl (by kernel_rfl) (by kernel_rfl) (by kernel_rfl) (fun _ _ _ h => h) (Or.inl ⟨by rfl, ?_⟩) (by assumption) ?_
      rotate_left 1
      ·(intro w hSw; (try dsimp only at hSw); go_simp <;> (with_reducible rfl))
      try simp only [Act.put, qA, qB, qC, qD, qE, qF]
      refine wpAnyH_take (i := 1) (v := ?_) rfl (by kernel_rfl) (by kernel_rfl) (by kernel_rfl) (fun _ _ _ h => h) (Or.inl ⟨by rfl, ?_⟩) (by assumption) ?_
      rotate_left 1
      ·(intro w hSw; (try dsimp only at hSw); go_simp <;> (with_reducible rfl))
      try simp only [Act.put, qA, qB, qC, qD, qE, qF]
      refine wpAnyH_take (i := 2) (v := ?_) rfl (by kernel_rfl) (by kernel_rfl) (by kernel_rfl) (fun _ _ _ h => h) (Or.inl ⟨by rfl, ?_⟩) (by assumption) ?_
      rotate_left 1
      ·(intro w hSw; (try dsimp only at hSw); go_simp <;> (with_reducible rfl))
      try simp only [Act.put, qA, qB, qC, qD, qE, qF]
      refine wpAnyH_take (i := 3) (v := ?_) rfl (by kernel_rfl) (by kernel_rfl) (by kernel_rfl) (fun _ _ _ h => h) (Or.inl ⟨by rfl, ?_⟩) (by assumption) ?_
      rotate_left 1
      ·(intro w hSw; (try dsimp only at hSw); go_simp <;> (with_reducible rfl))
      try simp only [Act.put, qA, qB, qC, qD, qE, qF]
      refine wpAnyH_take (i := 4) (v := ?_) rfl (by kernel_rfl) (by kernel_rfl) (by kernel_rfl) (fun _ _ _ h => h) (Or.inl ⟨by rfl, ?_⟩) (by assumption) ?_
      rotate_left 1
      ·(intro w hSw; (try dsimp only at hSw); go_simp <;> (with_reducible rfl))
      try simp only [Act.put, qA, qB, qC, qD, qE, qF]
      refine wpAnyH_take (i := 5) (v := ?_) rfl (by kernel_rfl) (by kernel_rfl) (by kernel_rfl) (fun _ _ _ h => h) (Or.inl ⟨by rfl, ?_⟩) (by assumption) ?_
      rotate_left 1
      ·(intro w hSw; (try dsimp only at hSw); go_simp <;> (with_reducible rfl))
      try simp only [Act.put, qA, qB, qC, qD, qE, qF]
      refine wpAnyH_take (i := 6) (v := ?_) rfl (by kernel_rfl) (by kernel_rfl) (by kernel_rfl) (fun _ _ _ h => h) (Or.inl ⟨by rfl, ?_⟩) (by assumption) ?_
      rotate_left 1
      ·(intro w hSw; (try dsimp only at hSw); go_simp <;> (with_reducible rfl))
      try simp only [Act.put, qA, qB, qC, qD, qE, qF]
      refine wpAnyH_take (i := 7) (v := ?_) rfl (by kernel_rfl) (by kernel_rfl) (by kernel_rfl) (fun _ _ _ h => h) (Or.inl ⟨by rfl, ?_⟩) (by assumption) ?_
      rotate_left 1
      ·(intro w hSw; (try dsimp only at hSw); go_simp <;> (with_reducible rfl))
      try simp only [Act.put, qA, qB, qC, qD, qE, qF]
      refine wpAnyH_take (i := 8) (v := ?_) rfl (by kernel_rfl) (by kernel_rfl) (by kernel_rfl) (fun _ _ _ h => h) (Or.inl ⟨by rfl, ?_⟩) (by assumption) ?_
      rotate_left 1
      ·(intro w hSw; (try dsimp only at hSw); go_simp <;> (with_reducible rfl))
      try simp only [Act.put, qA, qB, qC, qD, qE, qF]
      refine wpAnyH_done (by kernel_rfl) ?_ _
      refine NoPanic.normal ?_
      have b9 := hH0
      clear hH0
      go_wp2_with fail
      go_ret
      exact ⟨ret_bool (by rw [HO.out]), Below.more HW.out b9⟩
    ·have HO : Hid (decide (l = m) = false) := Lib.hid (rows_stop HX.out HY.out (fun e => e0 ((nd_eq e).1)))
     have q0 : (op == op') = false := by rw [beq_eq_false_iff_ne]; assumption
     clear e0
     go_wp2_with fail
     refine wp_region_noPanic ?_
     refine wp_region_held_drew (S := fun w' => Below wr.heap.size wr w') (by kernel_rfl) (b0.drew) (fun hH0 => ?_)
     refine wpAnyH_take (i := 0) (v := ?_) rfl (by kernel_rfl) (by kernel_rfl) (by kernel_rfl) (fun _ _ _ h => h) (Or.inl ⟨by rfl, ?_⟩) (by assumption) ?_
     rotate_left 1
     ·(intro w hSw; (try dsimp only at hSw); go_simp <;> (with_reducible rfl))
     try simp only [Act.put, qA, qB, qC, qD, qE, qF]
     refine wpAnyH_take (i := 1) (v := ?_) rfl (by kernel_rfl) (by kernel_rfl) (by kernel_rfl) (fun _ _ _ h => h) (Or.inl ⟨by rfl, ?_⟩) (by assumption) ?_
     rotate_left 1
     ·(intro w hSw; (try dsimp only at hSw); go_simp <;> (with_reducible rfl))
     try simp only [Act.put, qA, qB, qC, qD, qE, qF]
     refine wpAnyH_take (i := 2) (v := ?_) rfl (by kernel_rfl) (by kernel_rfl) (by kernel_rfl) (fun _ _ _ h => h) (Or.inl ⟨by rfl, ?_⟩) (by assumption) ?_
     rotate_left 1
     ·(intro w hSw; (try dsimp only at hSw); go_simp <;> (with_reducible rfl))
     try simp only [Act.put, qA, qB, qC, qD, qE, qF]
     refine wpAnyH_take (i := 3) (v := ?_) rfl (by kernel_rfl) (by kernel_rfl) (by kernel_rfl) (fun _ _ _ h => h) (Or.inl ⟨by rfl, ?_⟩) (by assumption) ?_
     rotate_left 1
     ·(intro w hSw; (try dsimp only at hSw); go_simp <;> (with_reducible rfl))
     try simp only [Act.put, qA, qB, qC, qD, qE, qF]
     refine wpAnyH_take (i := 4) (v := ?_) rfl (by kernel_rfl) (by kernel_rfl) (by kernel_rfl) (fun _ _ _ h => h) (Or.inl ⟨by rfl, ?_⟩) (by assumption) ?_
     rotate_left 1
     ·(intro w hSw; (try dsimp only at hSw); go_simp <;> (with_reducible rfl))
     try simp only [Act.put, qA, qB, qC, qD, qE, qF]
     refine wpAnyH_take (i := 5) (v := ?_) rfl (by kernel_rfl) (by kernel_rfl) (by kernel_rfl) (fun _ _ _ h => h) (Or.inl ⟨by rfl, ?_⟩) (by assumption) ?_
     rotate_left 1
     ·(intro w hSw; (try dsimp only at hSw); go_simp <;> (with_reducible rfl))
     try simp only [Act.put, qA, qB, qC, qD, qE, qF]
     refine wpAnyH_take (i := 6) (v := ?_) rfl (by kernel_rfl) (by kernel_rfl) (by kernel_rfl) (fun _ _ _ h => h) (Or.inl ⟨by rfl, ?_⟩) (by assumption) ?_
     rotate_left 1
     ·(intro w hSw; (try dsimp only at hSw); go_simp <;> (with_reducible rfl))
     try simp only [Act.put, qA, qB, qC, qD, qE, qF]
     refine wpAnyH_take (i := 7) (v := ?_) rfl (by kernel_rfl) (by kernel_rfl) (by kernel_rfl) (fun _ _ _ h => h) (Or.inl ⟨by rfl, ?_⟩) (by assumption) ?_
     rotate_left 1
     ·(intro w hSw; (try dsimp only at hSw); go_simp <;> (with_reducible rfl))
     try simp only [Act.put, qA, qB, qC, qD, qE, qF]
     refine wpAnyH_take (i := 8) (v := ?_) rfl (by kernel_rfl) (by kernel_rfl) (by kernel_rfl) (fun _ _ _ h => h) (Or.inl ⟨by rfl, ?_⟩) (by assumption) ?_
     rotate_left 1
     ·(intro w hSw; (try dsimp only at hSw); go_simp <;> (with_reducible rfl))
     try simp only [Act.put, qA, qB, qC, qD, qE, qF]
     refine wpAnyH_done (by kernel_rfl) ?_ _
     refine NoPanic.normal ?_
     have b9 := hH0
     clear hH0
     go_wp2_with fail
     go_ret
     exact ⟨ret_bool (by rw [HO.out]), Below.more HW.out b9⟩
   ·obtain rfl : k = l.length := by omega
    have HR := Lib.hid (rows_end hne fun j x hj => HJ.out j x hj); have HW := Lib.hid hw; clear hw
    go_wp2_with fail
    go_ret
    exact ⟨ret_bool (by rw [HR.out]), HW.out⟩
 ·have HR : Hid (decide (l = m) = false) := Lib.hid (decide_eq_false (fun e => hne (congrArg List.length e)))
  have hne' : ((l.length : Int) = (m.length : Int)) = False := eq_false (by omega)
  go_enter Tryz.func21, Tryz.ntmps21
  go_wp2
  go_ret
  exact ⟨ret_bool (by rw [HR.out]), Below.refl _ _⟩
set_option maxRecDepth 100000 in
set_option maxHeartbeats 4000000 in
theorem rtall_any (p q : Option Addr) (c c' : Nat) (l m : List (List Nd)) (w : World) (hl : l.length ≤ 4611686018427387904) (hl' : m.length ≤ 4611686018427387904) (HL : Hid (∀ t ∈ l, t.length ≤ 4611686018427387904)) (HL' : Hid (∀ t ∈ m, t.length ≤ 4611686018427387904)) (h : Trms w p l) (h' : Trms w q m) :
  Calls Tryz.prog 16 #[.slice p l.length c, .slice q m.length c'] w (GiveB w (decide (l = m))) := by
 have HS := Lib.hid h; have HS' := Lib.hid h'; clear h h'
 by_cases hne : l.length = m.length
 ·rw [← hne]
  have HNE := Lib.hid hne
  rw [← hne] at hl'
  clear hne
  go_enter Tryz.func16, Tryz.ntmps16
  go_wp2
  go_loopw [5] (fun i wr => ∃ k : Nat, k ≤ l.length ∧ i = .int .i64 k ∧ Hid (∀ (j : Nat) (x : (List Nd)), j < k → l[j]? = some x → m[j]? = some x) ∧ Below w.heap.size w wr) (fun i _ => l.length - (intOf i).toNat)
  case atStart => exact ⟨0, Nat.zero_le _, rfl, fun j x h => absurd h (Nat.not_lt_zero j), Below.refl _ _⟩
  case round =>
   obtain ⟨k, hk, rfl, HJ, hw⟩ := hrel
   by_cases hlt : k < l.length
   ·obtain ⟨t, hx⟩ : ∃ x, l[k]? = some x := ⟨_, List.getElem?_eq_getElem hlt⟩
    obtain ⟨u, hy⟩ : ∃ x, m[k]? = some x := ⟨_, List.getElem?_eq_getElem (HNE.out ▸ hlt)⟩
    have htl := HL.out t (List.mem_of_getElem? hx)
    have hul := HL'.out u (List.mem_of_getElem? hy)
    obtain ⟨b, o, qa, ca, rfl, k0, _, ka⟩ := (HS.out.below hw).rule hx
    obtain ⟨b', o', qb, cb, rfl, j0, _, kb⟩ := (HS'.out.below hw).rule hy
    have cs := fun v (hv : Below wr.heap.size wr v) => rtsame_any qa qb ca cb t u v (by omega) (by omega) (ka.below hv) (kb.below hv)
    have HW := Lib.hid hw
    have hlt' : (k : Int) < (l.length : Int) := by omega
    have b0 := Below.refl wr.heap.size wr
    have HX := Lib.hid hx; have HY := Lib.hid hy
    clear hx hy hw ka kb
    have hB := Lib.hid (Nat.le_refl wr.heap.size)
    by_cases e : t = u
    ·have HO : Hid (m[k]? = some t) := Lib.hid (by rw [e]; exact HY.out)
     rw [decide_eq_true e] at cs
     have CS := Lib.hid cs
     clear cs e
     go_wp2_with fail
     refine wp_region_noPanic ?_
     refine wp_region_held_drew (S := fun w' => Below wr.heap.size wr w') (by kernel_rfl) (b0.drew) (fun hH0 => ?_)
     refine wpAnyH_take (i := 0) (v := ?_) rfl (by kernel_rfl) (by kernel_rfl) (by kernel_rfl) (fun _ _ _ h => h) (Or.inl ⟨by rfl, ?_⟩) (by assumption) ?_
     rotate_left 1
     ·(intro w hSw; (try dsimp only at hSw); go_simp <;> (with_reducible rfl))
     try simp only [Act.put, qA, qB, qC, qD, qE, qF]
     refine wpAnyH_take (i := 1) (v := ?_) rfl (by kernel_rfl) (by kernel_rfl) (by kernel_rfl) (fun _ _ _ h => h) (Or.inl ⟨by rfl, ?_⟩) (by assumption) ?_
     rotate_left 1
     ·(intro w hSw; (try dsimp only at hSw); go_simp <;> (with_reducible rfl))
     try simp only [Act.put, qA, qB, qC, qD, qE, qF]
     refine wpAnyH_take (i := 2) (v := ?_) rfl (by kernel_rfl) (by kernel_rfl) (by kernel_rfl) (fun _ _ _ h => h) (Or.inl ⟨by rfl, ?_⟩) (by assumption) ?_
     rotate_left 1
     ·(intro w hSw; (try dsimp only at hSw); go_simp <;> (with_reducible rfl))
     try simp only [Act.put, qA, qB, qC, qD, qE, qF]
     refine wpAnyH_take (i := 3) (v := ?_) rfl (by kernel_rfl) (by kernel_rfl) (by kernel_rfl) (fun _ _ _ h => h) (Or.inl ⟨by rfl, ?_⟩) (by assumption) ?_
     rotate_left 1
     ·(intro w hSw; (try dsimp only at hSw); go_simp <;> (with_reducible rfl))
     try simp only [Act.put, qA, qB, qC, qD, qE, qF]
     refine wpAnyH_take (i := 4) (v := ?_) rfl (by kernel_rfl) (by kernel_rfl) (by kernel_rfl) (fun _ _ _ h => h) (Or.inl ⟨by rfl, ?_⟩) (by assumption) ?_
     rotate_left 1
     ·(intro w hSw; (try dsimp only at hSw); go_simp <;> (with_reducible rfl))
     try simp only [Act.put, qA, qB, qC, qD, qE, qF]
     refine wpAnyH_take (i := 5) (v := ?_) rfl (by kernel_rfl) (by kernel_rfl) (by kernel_rfl) (fun _ _ _ h => h) (Or.inl ⟨by rfl, ?_⟩) (by assumption) ?_
     rotate_left 1
     ·(intro w hSw; (try dsimp only at hSw); go_simp <;> (with_reducible rfl))
     try simp only [Act.put, qA, qB, qC, qD, qE, qF]
     refine wpAnyH_take (i := 6) (v := ?_) rfl (by kernel_rfl) (by kernel_rfl) (by kernel_rfl) (fun _ _ _ h => h) (Or.inl ⟨by rfl, ?_⟩) (by assumption) ?_
     rotate_left 1
     ·(intro w hSw; (try dsimp only at hSw); go_simp <;> (with_reducible rfl))
     try simp only [Act.put, qA, qB, qC, qD, qE, qF]
     refine wpAnyH_take (i := 7) (v := ?_) rfl (by kernel_rfl) (by kernel_rfl) (by kernel_rfl) (fun _ _ _ h => h) (Or.inl ⟨by rfl, ?_⟩) (by assumption) ?_
     rotate_left 1
     ·(intro w hSw; (try dsimp only at hSw); go_simp <;> (with_reducible rfl))
     try simp only [Act.put, qA, qB, qC, qD, qE, qF]
     refine wpAnyH_ready (rs := [8]) (by kernel_rfl) (by simp) ?_
     refine AllReadyH.cons rfl (fun K hK => ?_) AllReadyH.nil
     go_simp
     refine (held (W := wr) hB.out (CS.out _ (by with_reducible assumption)) (by assumption)).mono ?_
     rintro e w'' ⟨rfl, hb, hw⟩
     (try go_wp2_with fail)
     refine hK.out _ _ hw (fun hH1 => ?_)
     clear hK hH0 hb
     try simp only [Act.put, qA, qB, qC, qD, qE, qF]
     refine wpAnyH_take (i := 9) (v := ?_) rfl (by kernel_rfl) (by kernel_rfl) (by kernel_rfl) (fun _ _ _ h => h) (Or.inl ⟨by rfl, ?_⟩) (by assumption) ?_
     rotate_left 1
     ·(intro w hSw; (try dsimp only at hSw); go_simp <;> (with_reducible rfl))
     try simp only [Act.put, qA, qB, qC, qD, qE, qF]
     refine wpAnyH_done (by kernel_rfl) ?_ _
     refine NoPanic.normal ?_
     have b9 := hw
     clear hw
     go_wp2_with fail
     go_roundw
     case rel => exact ⟨k + 1, hlt, by go_num, rows_more (P := fun j x => m[j]? = some x) HJ.out HX.out HO.out, Below.more HW.out b9⟩
     case measure => simp [intOf]; omega
    ·have HO : Hid (decide (l = m) = false) := Lib.hid (rows_stop HX.out HY.out e)
     rw [decide_eq_false e] at cs
     have CS := Lib.hid cs
     clear cs e
     go_wp2_with fail
     refine wp_region_noPanic ?_
     refine wp_region_held_drew (S := fun w' => Below wr.heap.size wr w') (by kernel_rfl) (b0.drew) (fun hH0 => ?_)
     refine wpAnyH_take (i := 0) (v := ?_) rfl (by kernel_rfl) (by kernel_rfl) (by kernel_rfl) (fun _ _ _ h => h) (Or.inl ⟨by rfl, ?_⟩) (by assumption) ?_
     rotate_left 1
     ·(intro w hSw; (try dsimp only at hSw); go_simp <;> (with_reducible rfl))
     try simp only [Act.put, qA, qB, qC, qD, qE, qF]
     refine wpAnyH_take (i := 1) (v := ?_) rfl (by kernel_rfl) (by kernel_rfl) (by kernel_rfl) (fun _ _ _ h => h) (Or.inl ⟨by rfl, ?_⟩) (by assumption) ?_
     rotate_left 1
     ·(intro w hSw; (try dsimp only at hSw); go_simp <;> (with_reducible rfl))
     try simp only [Act.put, qA, qB, qC, qD, qE, qF]
     refine wpAnyH_take (i := 2) (v := ?_) rfl (by kernel_rfl) (by kernel_rfl) (by kernel_rfl) (fun _ _ _ h => h) (Or.inl ⟨by rfl, ?_⟩) (by assumption) ?_
     rotate_left 1
     ·(intro w hSw; (try dsimp only at hSw); go_simp <;> (with_reducible rfl))
     try simp only [Act.put, qA, qB, qC, qD, qE, qF]
     refine wpAnyH_take (i := 3) (v := ?_) rfl (by kernel_rfl) (by kernel_rfl) (by kernel_rfl) (fun _ _ _ h => h) (Or.inl ⟨by rfl, ?_⟩) (by assumption) ?_
     rotate_left 1
     ·(intro w hSw; (try dsimp only at hSw); go_simp <;> (with_reducible rfl))
     try simp only [Act.put, qA, qB, qC, qD, qE, qF]
     refine wpAnyH_take (i := 4) (v := ?_) rfl (by kernel_rfl) (by kernel_rfl) (by kernel_rfl) (fun _ _ _ h => h) (Or.inl ⟨by rfl, ?_⟩) (by assumption) ?_
     rotate_left 1
     ·(intro w hSw; (try dsimp only at hSw); go_simp <;> (with_reducible rfl))
     try simp only [Act.put, qA, qB, qC, qD, qE, qF]
     refine wpAnyH_take (i := 5) (v := ?_) rfl (by kernel_rfl) (by kernel_rfl) (by kernel_rfl) (fun _ _ _ h => h) (Or.inl ⟨by rfl, ?_⟩) (by assumption) ?_
     rotate_left 1
     ·(intro w hSw; (try dsimp only at hSw); go_simp <;> (with_reducible rfl))
     try simp only [Act.put, qA, qB, qC, qD, qE, qF]
     refine wpAnyH_take (i := 6) (v := ?_) rfl (by kernel_rfl) (by kernel_rfl) (by kernel_rfl) (fun _ _ _ h => h) (Or.inl ⟨by rfl, ?_⟩) (by assumption) ?_
     rotate_left 1
     ·(intro w hSw; (try dsimp only at hSw); go_simp <;> (with_reducible rfl))
     try simp only [Act.put, qA, qB, qC, qD, qE, qF]
     refine wpAnyH_take (i := 7) (v := ?_) rfl (by kernel_rfl) (by kernel_rfl) (by kernel_rfl) (fun _ _ _ h => h) (Or.inl ⟨by rfl, ?_⟩) (by assumption) ?_
     rotate_left 1
     ·(intro w hSw; (try dsimp only at hSw); go_simp <;> (with_reducible rfl))
     try simp only [Act.put, qA, qB, qC, qD, qE, qF]
     refine wpAnyH_ready (rs := [8]) (by kernel_rfl) (by simp) ?_
     refine AllReadyH.cons rfl (fun K hK => ?_) AllReadyH.nil
     go_simp
     refine (held (W := wr) hB.out (CS.out _ (by with_reducible assumption)) (by assumption)).mono ?_
     rintro e w'' ⟨rfl, hb, hw⟩
     (try go_wp2_with fail)
     refine hK.out _ _ hw (fun hH1 => ?_)
     clear hK hH0 hb
     try simp only [Act.put, qA, qB, qC, qD, qE, qF]
     refine wpAnyH_take (i := 9) (v := ?_) rfl (by kernel_rfl) (by kernel_rfl) (by kernel_rfl) (fun _ _ _ h => h) (Or.inl ⟨by rfl, ?_⟩) (by assumption) ?_
     rotate_left 1
     ·(intro w hSw; (try dsimp only at hSw); go_simp <;> (with_reducible rfl))
     try simp only [Act.put, qA, qB, qC, qD, qE, qF]
     refine wpAnyH_done (by kernel_rfl) ?_ _
     refine NoPanic.normal ?_
     have b9 := hw
     clear hw
     go_wp2_with fail
     go_ret
     exact ⟨ret_bool (by rw [HO.out]), Below.more HW.out b9⟩
   ·obtain rfl : k = l.length := by omega
    have HR := Lib.hid (rows_end HNE.out fun j x hj => HJ.out j x hj); have HW := Lib.hid hw; clear hw
    go_wp2_with fail
    go_ret
    exact ⟨ret_bool (by rw [HR.out]), HW.out⟩
 ·have HR : Hid (decide (l = m) = false) := Lib.hid (decide_eq_false (fun e => hne (congrArg List.length e)))
  have hne' : ((l.length : Int) = (m.length : Int)) = False := eq_false (by omega)
  go_enter Tryz.func16, Tryz.ntmps16
  go_wp2
  go_ret
  exact ⟨ret_bool (by rw [HR.out]), Below.refl _ _⟩
end Go.Proofs.YtdeinhkdphgfaaaGreatDoor

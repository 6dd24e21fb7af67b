/- Whether rows of numbers, and of instructions, are the same. -/
import Derived.Test.YtagfndkfjbbpjaaGreatDoorSch
import Derived.Test.YtagfndkfjbbpjaaGreatDoorAllRefI
import Derived.Test.YtagfndkfjbbpjaaGreatDoorRowsG
import Derived.Test.YtagfndkfjbbpjaaGreatDoorRowCells
import Derived.Test.YtagfndkfjbbpjaaGreatDoorAllRefP2
namespace Go.Proofs.YtagfndkfjbbpjaaGreatDoor
open Go.RowKit
set_option linter.unusedSimpArgs false
set_option linter.unusedVariables false
def Nums (w : World) (p : Option Addr) (l : List Int) : Prop := ∀ (j : Nat) (x : Int), l[j]? = some x → ∃ b o, p = some ⟨b, o, none⟩ ∧ b < w.heap.size ∧ w.cell? ⟨b, o + j, none⟩ = some (.int .i64 x)
theorem Nums.below {w w' : World} {p : Option Addr} {l : List Int} (h : Nums w p l) (hb : Below w.heap.size w w') : Nums w' p l := fun j x hx => by
 obtain ⟨b, o, hp, hl, c0⟩ := h j x hx
 exact ⟨b, o, hp, Nat.lt_of_lt_of_le hl hb.size, (hb.cell (p := ⟨b, _, none⟩) hl).trans c0⟩
theorem Nums.rule {w : World} {p : Option Addr} {l : List Int} (h : Nums w p l) {k : Nat} {x : Int} (hx : l[k]? = some x) : ∃ b o, p = some ⟨b, o, none⟩ ∧ ∀ v, Below w.heap.size w v → v.cell? ⟨b, o + k, none⟩ = some (.int .i64 x) := by
 obtain ⟨b, o, hp, hl, c0⟩ := h k _ hx
 exact ⟨b, o, hp, fun v hb => (hb.cell (p := ⟨b, _, none⟩) hl).trans c0⟩
theorem Nums.nil (w : World) (p : Option Addr) : Nums w p [] := fun j x h => by cases h
section
variable {T : Type} [DecidableEq T]
theorem rows_stop {l m : List T} {k : Nat} {x y : T} (hx : l[k]? = some x) (hy : m[k]? = some y) (h : x ≠ y) : decide (l = m) = false := decide_eq_false fun e => by
 subst e; rw [hx] at hy; exact h (Option.some.inj hy)
theorem rows_end {l m : List T} (hl : l.length = m.length) (h : ∀ (j : Nat) (x : T), j < l.length → l[j]? = some x → m[j]? = some x) : decide (l = m) = true := by
 refine decide_eq_true (List.ext_getElem hl fun i h1 h2 => ?_)
 have := h i l[i] h1 (List.getElem?_eq_getElem h1)
 rw [List.getElem?_eq_getElem h2] at this
 exact (Option.some.inj this).symm
end
theorem rows_more {T : Type} {l : List T} {P : Nat → T → Prop} {k : Nat} {z : T} (h : ∀ (j : Nat) (x : T), j < k → l[j]? = some x → P j x) (hz : l[k]? = some z) (hp : P k z) : ∀ (j : Nat) (x : T), j < k + 1 → l[j]? = some x → P j x := fun j x hj hx => by
 by_cases e : j = k
 ·subst e
  rw [hz] at hx
  exact Option.some.inj hx ▸ hp
 ·exact h j x (by omega) hx
set_option maxRecDepth 100000 in
set_option maxHeartbeats 4000000 in
theorem riints_any (p q : Option Addr) (c c' : Nat) (l m : List Int) (w : World) (hl : l.length ≤ 4611686018427387904) (hl' : m.length ≤ 4611686018427387904) (h : Nums w p l) (h' : Nums w q m) :
  Calls Tryz.prog 19 #[.slice p l.length c, .slice q m.length c'] w (GiveB w (decide (l = m))) := by
 have HS := Lib.hid h; have HS' := Lib.hid h'; clear h h'
 by_cases hne : l.length = m.length
 ·go_enter Tryz.func19, Tryz.ntmps19
  go_wp2
  go_loopw [5] (fun i wr => ∃ k : Nat, k ≤ l.length ∧ i = .int .i64 k ∧ Hid (∀ (j : Nat) (x : Int), j < k → l[j]? = some x → m[j]? = some x) ∧ Below w.heap.size w wr) (fun i _ => l.length - (intOf i).toNat)
  case atStart => exact ⟨0, Nat.zero_le _, rfl, fun j x h => absurd h (Nat.not_lt_zero j), Below.refl _ _⟩
  case round =>
   obtain ⟨k, hk, rfl, HJ, hw⟩ := hrel
   by_cases hlt : k < l.length
   ·obtain ⟨x, hx⟩ : ∃ x, l[k]? = some x := ⟨_, List.getElem?_eq_getElem hlt⟩
    obtain ⟨y, hy⟩ : ∃ x, m[k]? = some x := ⟨_, List.getElem?_eq_getElem (hne ▸ hlt)⟩
    obtain ⟨b, o, rfl, k0⟩ := (HS.out.below hw).rule hx
    obtain ⟨b', o', rfl, j0⟩ := (HS'.out.below hw).rule hy
    have HW := Lib.hid hw
    have hlt' : (k : Int) < (m.length : Int) := by omega
    have b0 := Below.refl wr.heap.size wr
    have HX := Lib.hid hx; have HY := Lib.hid hy
    clear hx hy hw
    have hB := Lib.hid (Nat.le_refl wr.heap.size)
    by_cases e : x = y
    ·have HO : Hid (m[k]? = some x) := Lib.hid (by rw [e]; exact HY.out)
     subst e
     go_wp2_with fail
     refine wp_region_noPanic ?_
     refine wp_region_held_drew (S := fun w' => Below wr.heap.size wr w') (by kernel_rfl) (b0.drew) (fun hH0 => ?_)
     refine sch_in [0, 1, 2, 3, 4, 5, 6, 7, 8] ?_
     iterate 9 (refine sch_yes (v := ?_) rfl (by kernel_rfl) (by rfl) ?_ (by assumption) ?_; rotate_left 1; (· (intro w hSw; (try dsimp only at hSw); go_simp <;> (with_reducible rfl))); try simp only [Act.put, qA, qB, qC, qD, qE, qF])
     refine sch_out ?_
     refine wpAnyH_done (by kernel_rfl) ?_ _
     refine NoPanic.normal ?_
     have b9 := hH0
     clear hH0
     go_wp2_with fail
     go_roundw
     case rel => exact ⟨k + 1, hlt, by go_num, rows_more (P := fun j x => m[j]? = some x) HJ.out HX.out HO.out, Below.more HW.out b9⟩
     case measure => simp [intOf]; omega
    ·have HO : Hid (decide (l = m) = false) := Lib.hid (rows_stop HX.out HY.out e)
     have q0 : (x == y) = false := by rw [beq_eq_false_iff_ne]; exact e
     go_wp2_with fail
     refine wp_region_noPanic ?_
     refine wp_region_held_drew (S := fun w' => Below wr.heap.size wr w') (by kernel_rfl) (b0.drew) (fun hH0 => ?_)
     refine sch_in [0, 1, 2, 3, 4, 5, 6, 7, 8] ?_
     iterate 9 (refine sch_yes (v := ?_) rfl (by kernel_rfl) (by rfl) ?_ (by assumption) ?_; rotate_left 1; (· (intro w hSw; (try dsimp only at hSw); go_simp <;> (with_reducible rfl))); try simp only [Act.put, qA, qB, qC, qD, qE, qF])
     refine sch_out ?_
     refine wpAnyH_done (by kernel_rfl) ?_ _
     refine NoPanic.normal ?_
     have b9 := hH0
     clear hH0
     go_wp2_with fail
     go_ret
     exact ⟨ret_bool (by rw [HO.out]), Below.more HW.out b9⟩
   ·obtain rfl : k = l.length := by omega
    have HR := Lib.hid (rows_end hne fun j x hj => HJ.out j x hj); have HW := Lib.hid hw; clear hw
    go_wp2_with fail
    go_ret
    exact ⟨ret_bool (by rw [HR.out]), HW.out⟩
 ·have HR : Hid (decide (l = m) = false) := Lib.hid (decide_eq_false (fun e => hne (congrArg List.length e)))
  have hne' : ((l.length : Int) = (m.length : Int)) = False := eq_false (by omega)
  go_enter Tryz.func19, Tryz.ntmps19
  go_wp2
  go_ret
  exact ⟨ret_bool (by rw [HR.out]), Below.refl _ _⟩
theorem in_eq {i g u i' g' u' : Int} {f t a qn qd pn pd f' t' a' qn' qd' pn' pd' : List UInt8} (e : In.mk i g u f t a (qn, qd) (pn, pd) = In.mk i' g' u' f' t' a' (qn', qd') (pn', pd')) : i = i' ∧ g = g' ∧ u = u' ∧ f = f' ∧ t = t' ∧ a = a' ∧ qn = qn' ∧ qd = qd' ∧ pn = pn' ∧ pd = pd' := by
 injection e with e0 e1 e2 e3 e4 e5 e6 e7
 injection e6 with e6 e8
 injection e7 with e7 e9
 exact ⟨e0, e1, e2, e3, e4, e5, e6, e8, e7, e9⟩
instance : DecidableEq In := fun ⟨i, g, u, f, t, a, ⟨qn, qd⟩, ⟨pn, pd⟩⟩ ⟨i', g', u', f', t', a', ⟨qn', qd'⟩, ⟨pn', pd'⟩⟩ =>
 if h : i = i' ∧ g = g' ∧ u = u' ∧ f = f' ∧ t = t' ∧ a = a' ∧ qn = qn' ∧ qd = qd' ∧ pn = pn' ∧ pd = pd' then isTrue (by obtain ⟨rfl, rfl, rfl, rfl, rfl, rfl, rfl, rfl, rfl, rfl⟩ := h; rfl) else isFalse fun e => h (in_eq e)
set_option maxRecDepth 100000 in
set_option maxHeartbeats 4000000 in
theorem risame_any (p q : Option Addr) (c c' : Nat) (l m : List In) (w : World) (hl : l.length ≤ 4611686018427387904) (hl' : m.length ≤ 4611686018427387904) (h : Ins w p l) (h' : Ins w q m) :
  Calls Tryz.prog 18 #[.slice p l.length c, .slice q m.length c'] w (GiveB w (decide (l = m))) := by
 have HS := Lib.hid h; have HS' := Lib.hid h'; clear h h'
 by_cases hne : l.length = m.length
 ·go_enter Tryz.func18, Tryz.ntmps18
  go_wp2
  go_loopw [5] (fun i wr => ∃ k : Nat, k ≤ l.length ∧ i = .int .i64 k ∧ Hid (∀ (j : Nat) (x : In), j < k → l[j]? = some x → m[j]? = some x) ∧ Below w.heap.size w wr) (fun i _ => l.length - (intOf i).toNat)
  case atStart => exact ⟨0, Nat.zero_le _, rfl, fun j x h => absurd h (Nat.not_lt_zero j), Below.refl _ _⟩
  case round =>
   obtain ⟨k, hk, rfl, HJ, hw⟩ := hrel
   by_cases hlt : k < l.length
   ·obtain ⟨⟨i, g, u, f, t, a, ⟨qn, qd⟩, ⟨pn, pd⟩⟩, hx⟩ : ∃ x, l[k]? = some x := ⟨_, List.getElem?_eq_getElem hlt⟩
    obtain ⟨⟨i', g', u', f', t', a', ⟨qn', qd'⟩, ⟨pn', pd'⟩⟩, hy⟩ : ∃ x, m[k]? = some x := ⟨_, List.getElem?_eq_getElem (hne ▸ hlt)⟩
    obtain ⟨b, o, rfl, k0, k1, k2, k3, k4, k5, k6, k7, k8, k9⟩ := (HS.out.below hw).rule hx
    obtain ⟨b', o', rfl, j0, j1, j2, j3, j4, j5, j6, j7, j8, j9⟩ := (HS'.out.below hw).rule hy
    have HW := Lib.hid hw
    have hlt' : (k : Int) < (m.length : Int) := by omega
    have b0 := Below.refl wr.heap.size wr
    have HX := Lib.hid hx; have HY := Lib.hid hy
    clear hx hy hw
    have hB := Lib.hid (Nat.le_refl wr.heap.size)
    by_cases e0 : i = i'
    ·by_cases e1 : g = g'
     ·by_cases e2 : u = u'
      ·by_cases e3 : f = f'
       ·by_cases e4 : t = t'
        ·by_cases e5 : a = a'
         ·by_cases e6 : qn = qn'
          ·by_cases e7 : qd = qd'
           ·by_cases e8 : pn = pn'
            ·by_cases e9 : pd = pd'
             ·have HO : Hid (m[k]? = some (In.mk i g u f t a (qn, qd) (pn, pd))) := Lib.hid (by subst e0 e1 e2 e3 e4 e5 e6 e7 e8 e9; exact HY.out)
              have q0 : (i == i') = true := by rw [beq_iff_eq]; assumption
              have q1 : (g == g') = true := by rw [beq_iff_eq]; assumption
              have q2 : (u == u') = true := by rw [beq_iff_eq]; assumption
              have q3 : (f == f') = true := by rw [beq_iff_eq]; assumption
              have q4 : (t == t') = true := by rw [beq_iff_eq]; assumption
              have q5 : (a == a') = true := by rw [beq_iff_eq]; assumption
              have q6 : (qn == qn') = true := by rw [beq_iff_eq]; assumption
              have q7 : (qd == qd') = true := by rw [beq_iff_eq]; assumption
              have q8 : (pn == pn') = true := by rw [beq_iff_eq]; assumption
              have q9 : (pd == pd') = true := by rw [beq_iff_eq]; assumption
              clear e0
              clear e1
              clear e2
              clear e3
              clear e4
              clear e5
              clear e6
              clear e7
              clear e8
              clear e9
              go_wp2_with fail
              refine wp_region_noPanic ?_
              refine wp_region_held_drew (S := fun w' => Below wr.heap.size wr w') (by kernel_rfl) (b0.drew) (fun hH0 => ?_)
              refine sch_in [0, 1, 2, 3, 4, 5, 6, 7, 8] ?_
              iterate 9 (refine sch_yes (v := ?_) rfl (by kernel_rfl) (by rfl) ?_ (by assumption) ?_; rotate_left 1; (· (intro w hSw; (try dsimp only at hSw); go_simp <;> (with_reducible rfl))); try simp only [Act.put, qA, qB, qC, qD, qE, qF])
              refine sch_out ?_
              refine wpAnyH_done (by kernel_rfl) ?_ _
              refine NoPanic.normal ?_
              have b9 := hH0
              clear hH0
              go_wp2_with fail
              go_roundw
              case rel => exact ⟨k + 1, hlt, by go_num, rows_more (P := fun j x => m[j]? = some x) HJ.out HX.out HO.out, Below.more HW.out b9⟩
              case measure => simp [intOf]; omega
             ·have HO : Hid (decide (l = m) = false) := Lib.hid (rows_stop HX.out HY.out (fun e => e9 ((in_eq e).2.2.2.2.2.2.2.2.2)))
              have q0 : (i == i') = true := by rw [beq_iff_eq]; assumption
              have q1 : (g == g') = true := by rw [beq_iff_eq]; assumption
              have q2 : (u == u') = true := by rw [beq_iff_eq]; assumption
              have q3 : (f == f') = true := by rw [beq_iff_eq]; assumption
              have q4 : (t == t') = true := by rw [beq_iff_eq]; assumption
              have q5 : (a == a') = true := by rw [beq_iff_eq]; assumption
              have q6 : (qn == qn') = true := by rw [beq_iff_eq]; assumption
              have q7 : (qd == qd') = true := by rw [beq_iff_eq]; assumption
              have q8 : (pn == pn') = true := by rw [beq_iff_eq]; assumption
              have q9 : (pd == pd') = false := by rw [beq_eq_false_iff_ne]; assumption
              clear e0
              clear e1
              clear e2
              clear e3
              clear e4
              clear e5
              clear e6
              clear e7
              clear e8
              clear e9
              go_wp2_with fail
              refine wp_region_noPanic ?_
              refine wp_region_held_drew (S := fun w' => Below wr.heap.size wr w') (by kernel_rfl) (b0.drew) (fun hH0 => ?_)
              refine sch_in [0, 1, 2, 3, 4, 5, 6, 7, 8] ?_
              iterate 9 (refine sch_yes (v := ?_) rfl (by kernel_rfl) (by rfl) ?_ (by assumption) ?_; rotate_left 1; (· (intro w hSw; (try dsimp only at hSw); go_simp <;> (with_reducible rfl))); try simp only [Act.put, qA, qB, qC, qD, qE, qF])
              refine sch_out ?_
              refine wpAnyH_done (by kernel_rfl) ?_ _
              refine NoPanic.normal ?_
              have b9 := hH0
              clear hH0
              go_wp2_with fail
              go_ret
              exact ⟨ret_bool (by rw [HO.out]), Below.more HW.out b9⟩
            ·have HO : Hid (decide (l = m) = false) := Lib.hid (rows_stop HX.out HY.out (fun e => e8 ((in_eq e).2.2.2.2.2.2.2.2.1)))
             have q0 : (i == i') = true := by rw [beq_iff_eq]; assumption
             have q1 : (g == g') = true := by rw [beq_iff_eq]; assumption
             have q2 : (u == u') = true := by rw [beq_iff_eq]; assumption
             have q3 : (f == f') = true := by rw [beq_iff_eq]; assumption
             have q4 : (t == t') = true := by rw [beq_iff_eq]; assumption
             have q5 : (a == a') = true := by rw [beq_iff_eq]; assumption
             have q6 : (qn == qn') = true := by rw [beq_iff_eq]; assumption
             have q7 : (qd == qd') = true := by rw [beq_iff_eq]; assumption
             have q8 : (pn == pn') = false := by rw [beq_eq_false_iff_ne]; assumption
             clear e0
             clear e1
             clear e2
             clear e3
             clear e4
             clear e5
             clear e6
             clear e7
             clear e8
             go_wp2_with fail
             refine wp_region_noPanic ?_
             refine wp_region_held_drew (S := fun w' => Below wr.heap.size wr w') (by kernel_rfl) (b0.drew) (fun hH0 => ?_)
             refine sch_in [0, 1, 2, 3, 4, 5, 6, 7, 8] ?_
             iterate 9 (refine sch_yes (v := ?_) rfl (by kernel_rfl) (by rfl) ?_ (by assumption) ?_; rotate_left 1; (· (intro w hSw; (try dsimp only at hSw); go_simp <;> (with_reducible rfl))); try simp only [Act.put, qA, qB, qC, qD, qE, qF])
             refine sch_out ?_
             refine wpAnyH_done (by kernel_rfl) ?_ _
             refine NoPanic.normal ?_
             have b9 := hH0
             clear hH0
             go_wp2_with fail
             go_ret
             exact ⟨ret_bool (by rw [HO.out]), Below.more HW.out b9⟩
           ·have HO : Hid (decide (l = m) = false) := Lib.hid (rows_stop HX.out HY.out (fun e => e7 ((in_eq e).2.2.2.2.2.2.2.1)))
            have q0 : (i == i') = true := by rw [beq_iff_eq]; assumption
            have q1 : (g == g') = true := by rw [beq_iff_eq]; assumption
            have q2 : (u == u') = true := by rw [beq_iff_eq]; assumption
            have q3 : (f == f') = true := by rw [beq_iff_eq]; assumption
            have q4 : (t == t') = true := by rw [beq_iff_eq]; assumption
            have q5 : (a == a') = true := by rw [beq_iff_eq]; assumption
            have q6 : (qn == qn') = true := by rw [beq_iff_eq]; assumption
            have q7 : (qd == qd') = false := by rw [beq_eq_false_iff_ne]; assumption
            clear e0
            clear e1
            clear e2
            clear e3
            clear e4
            clear e5
            clear e6
            clear e7
            go_wp2_with fail
            refine wp_region_noPanic ?_
            refine wp_region_held_drew (S := fun w' => Below wr.heap.size wr w') (by kernel_rfl) (b0.drew) (fun hH0 => ?_)
            refine sch_in [0, 1, 2, 3, 4, 5, 6, 7, 8] ?_
            iterate 9 (refine sch_yes (v := ?_) rfl (by kernel_rfl) (by rfl) ?_ (by assumption) ?_; rotate_left 1; (· (intro w hSw; (try dsimp only at hSw); go_simp <;> (with_reducible rfl))); try simp only [Act.put, qA, qB, qC, qD, qE, qF])
            refine sch_out ?_
            refine wpAnyH_done (by kernel_rfl) ?_ _
            refine NoPanic.normal ?_
            have b9 := hH0
            clear hH0
            go_wp2_with fail
            go_ret
            exact ⟨ret_bool (by rw [HO.out]), Below.more HW.out b9⟩
          ·have HO : Hid (decide (l = m) = false) := Lib.hid (rows_stop HX.out HY.out (fun e => e6 ((in_eq e).2.2.2.2.2.2.1)))
           have q0 : (i == i') = true := by rw [beq_iff_eq]; assumption
           have q1 : (g == g') = true := by rw [beq_iff_eq]; assumption
           have q2 : (u == u') = true := by rw [beq_iff_eq]; assumption
           have q3 : (f == f') = true := by rw [beq_iff_eq]; assumption
           have q4 : (t == t') = true := by rw [beq_iff_eq]; assumption
           have q5 : (a == a') = true := by rw [beq_iff_eq]; assumption
           have q6 : (qn == qn') = false := by rw [beq_eq_false_iff_ne]; assumption
           clear e0
           clear e1
           clear e2
           clear e3
           clear e4
           clear e5
           clear e6
           go_wp2_with fail
           refine wp_region_noPanic ?_
           refine wp_region_held_drew (S := fun w' => Below wr.heap.size wr w') (by kernel_rfl) (b0.drew) (fun hH0 => ?_)
           refine sch_in [0, 1, 2, 3, 4, 5, 6, 7, 8] ?_
           iterate 9 (refine sch_yes (v := ?_) rfl (by kernel_rfl) (by rfl) ?_ (by assumption) ?_; rotate_left 1; (· (intro w hSw; (try dsimp only at hSw); go_simp <;> (with_reducible rfl))); try simp only [Act.put, qA, qB, qC, qD, qE, qF])
           refine sch_out ?_
           refine wpAnyH_done (by kernel_rfl) ?_ _
           refine NoPanic.normal ?_
           have b9 := hH0
           clear hH0
           go_wp2_with fail
           go_ret
           exact ⟨ret_bool (by rw [HO.out]), Below.more HW.out b9⟩
         ·have HO : Hid (decide (l = m) = false) := Lib.hid (rows_stop HX.out HY.out (fun e => e5 ((in_eq e).2.2.2.2.2.1)))
          have q0 : (i == i') = true := by rw [beq_iff_eq]; assumption
          have q1 : (g == g') = true := by rw [beq_iff_eq]; assumption
          have q2 : (u == u') = true := by rw [beq_iff_eq]; assumption
          have q3 : (f == f') = true := by rw [beq_iff_eq]; assumption
          have q4 : (t == t') = true := by rw [beq_iff_eq]; assumption
          have q5 : (a == a') = false := by rw [beq_eq_false_iff_ne]; assumption
          clear e0
          clear e1
          clear e2
          clear e3
          clear e4
          clear e5
          go_wp2_with fail
          refine wp_region_noPanic ?_
          refine wp_region_held_drew (S := fun w' => Below wr.heap.size wr w') (by kernel_rfl) (b0.drew) (fun hH0 => ?_)
          refine sch_in [0, 1, 2, 3, 4, 5, 6, 7, 8] ?_
          iterate 9 (refine sch_yes (v := ?_) rfl (by kernel_rfl) (by rfl) ?_ (by assumption) ?_; rotate_left 1; (· (intro w hSw; (try dsimp only at hSw); go_simp <;> (with_reducible rfl))); try simp only [Act.put, qA, qB, qC, qD, qE, qF])
          refine sch_out ?_
          refine wpAnyH_done (by kernel_rfl) ?_ _
          refine NoPanic.normal ?_
          have b9 := hH0
          clear hH0
          go_wp2_with fail
          go_ret
          exact ⟨ret_bool (by rw [HO.out]), Below.more HW.out b9⟩
        ·have HO : Hid (decide (l = m) = false) := Lib.hid (rows_stop HX.out HY.out (fun e => e4 ((in_eq e).2.2.2.2.1)))
         have q0 : (i == i') = true := by rw [beq_iff_eq]; assumption
         have q1 : (g == g') = true := by rw [beq_iff_eq]; assumption
         have q2 : (u == u') = true := by rw [beq_iff_eq]; assumption
         have q3 : (f == f') = true := by rw [beq_iff_eq]; assumption
         have q4 : (t == t') = false := by rw [beq_eq_false_iff_ne]; assumption
         clear e0
         clear e1
         clear e2
         clear e3
         clear e4
         go_wp2_with fail
         refine wp_region_noPanic ?_
         refine wp_region_held_drew (S := fun w' => Below wr.heap.size wr w') (by kernel_rfl) (b0.drew) (fun hH0 => ?_)
         refine sch_in [0, 1, 2, 3, 4, 5, 6, 7, 8] ?_
         iterate 9 (refine sch_yes (v := ?_) rfl (by kernel_rfl) (by rfl) ?_ (by assumption) ?_; rotate_left 1; (· (intro w hSw; (try dsimp only at hSw); go_simp <;> (with_reducible rfl))); try simp only [Act.put, qA, qB, qC, qD, qE, qF])
         refine sch_out ?_
         refine wpAnyH_done (by kernel_rfl) ?_ _
         refine NoPanic.normal ?_
         have b9 := hH0
         clear hH0
         go_wp2_with fail
         go_ret
         exact ⟨ret_bool (by rw [HO.out]), Below.more HW.out b9⟩
       ·have HO : Hid (decide (l = m) = false) := Lib.hid (rows_stop HX.out HY.out (fun e => e3 ((in_eq e).2.2.2.1)))
        have q0 : (i == i') = true := by rw [beq_iff_eq]; assumption
        have q1 : (g == g') = true := by rw [beq_iff_eq]; assumption
        have q2 : (u == u') = true := by rw [beq_iff_eq]; assumption
        have q3 : (f == f') = false := by rw [beq_eq_false_iff_ne]; assumption
        clear e0
        clear e1
        clear e2
        clear e3
        go_wp2_with fail
        refine wp_region_noPanic ?_
        refine wp_region_held_drew (S := fun w' => Below wr.heap.size wr w') (by kernel_rfl) (b0.drew) (fun hH0 => ?_)
        refine sch_in [0, 1, 2, 3, 4, 5, 6, 7, 8] ?_
        iterate 9 (refine sch_yes (v := ?_) rfl (by kernel_rfl) (by rfl) ?_ (by assumption) ?_; rotate_left 1; (· (intro w hSw; (try dsimp only at hSw); go_simp <;> (with_reducible rfl))); try simp only [Act.put, qA, qB, qC, qD, qE, qF])
        refine sch_out ?_
        refine wpAnyH_done (by kernel_rfl) ?_ _
        refine NoPanic.normal ?_
        have b9 := hH0
        clear hH0
        go_wp2_with fail
        go_ret
        exact ⟨ret_bool (by rw [HO.out]), Below.more HW.out b9⟩
      ·have HO : Hid (decide (l = m) = false) := Lib.hid (rows_stop HX.out HY.out (fun e => e2 ((in_eq e).2.2.1)))
       have q0 : (i == i') = true := by rw [beq_iff_eq]; assumption
       have q1 : (g == g') = true := by rw [beq_iff_eq]; assumption
       have q2 : (u == u') = false := by rw [beq_eq_false_iff_ne]; assumption
       clear e0
       clear e1
       clear e2
       go_wp2_with fail
       refine wp_region_noPanic ?_
       refine wp_region_held_drew (S := fun w' => Below wr.heap.size wr w') (by kernel_rfl) (b0.drew) (fun hH0 => ?_)
       refine sch_in [0, 1, 2, 3, 4, 5, 6, 7, 8] ?_
       iterate 9 (refine sch_yes (v := ?_) rfl (by kernel_rfl) (by rfl) ?_ (by assumption) ?_; rotate_left 1; (· (intro w hSw; (try dsimp only at hSw); go_simp <;> (with_reducible rfl))); try simp only [Act.put, qA, qB, qC, qD, qE, qF])
       refine sch_out ?_
       refine wpAnyH_done (by kernel_rfl) ?_ _
       refine NoPanic.normal ?_
       have b9 := hH0
       clear hH0
       go_wp2_with fail
       go_ret
       exact ⟨ret_bool (by rw [HO.out]), Below.more HW.out b9⟩
     ·have HO : Hid (decide (l = m) = false) := Lib.hid (rows_stop HX.out HY.out (fun e => e1 ((in_eq e).2.1)))
      have q0 : (i == i') = true := by rw [beq_iff_eq]; assumption
      have q1 : (g == g') = false := by rw [beq_eq_false_iff_ne]; assumption
      clear e0
      clear e1
      go_wp2_with fail
      refine wp_region_noPanic ?_
      refine wp_region_held_drew (S := fun w' => Below wr.heap.size wr w') (by kernel_rfl) (b0.drew) (fun hH0 => ?_)
      refine sch_in [0, 1, 2, 3, 4, 5, 6, 7, 8] ?_
      iterate 9 (refine sch_yes (v := ?_) rfl (by kernel_rfl) (by rfl) ?_ (by assumption) ?_; rotate_left 1; (· (intro w hSw; (try dsimp only at hSw); go_simp <;> (with_reducible rfl))); try simp only [Act.put, qA, qB, qC, qD, qE, qF])
      refine sch_out ?_
      refine wpAnyH_done (by kernel_rfl) ?_ _
      refine NoPanic.normal ?_
      have b9 := hH0
      clear hH0
      go_wp2_with fail
      go_ret
      exact ⟨ret_bool (by rw [HO.out]), Below.more HW.out b9⟩
    ·have HO : Hid (decide (l = m) = false) := Lib.hid (rows_stop HX.out HY.out (fun e => e0 ((in_eq e).1)))
     have q0 : (i == i') = false := by rw [beq_eq_false_iff_ne]; assumption
     clear e0
     go_wp2_with fail
     refine wp_region_noPanic ?_
     refine wp_region_held_drew (S := fun w' => Below wr.heap.size wr w') (by kernel_rfl) (b0.drew) (fun hH0 => ?_)
     refine sch_in [0, 1, 2, 3, 4, 5, 6, 7, 8] ?_
     iterate 9 (refine sch_yes (v := ?_) rfl (by kernel_rfl) (by rfl) ?_ (by assumption) ?_; rotate_left 1; (· (intro w hSw; (try dsimp only at hSw); go_simp <;> (with_reducible rfl))); try simp only [Act.put, qA, qB, qC, qD, qE, qF])
     refine sch_out ?_
     refine wpAnyH_done (by kernel_rfl) ?_ _
     refine NoPanic.normal ?_
     have b9 := hH0
     clear hH0
     go_wp2_with fail
     go_ret
     exact ⟨ret_bool (by rw [HO.out]), Below.more HW.out b9⟩
   ·obtain rfl : k = l.length := by omega
    have HR := Lib.hid (rows_end hne fun j x hj => HJ.out j x hj); have HW := Lib.hid hw; clear hw
    go_wp2_with fail
    go_ret
    exact ⟨ret_bool (by rw [HR.out]), HW.out⟩
 ·have HR : Hid (decide (l = m) = false) := Lib.hid (decide_eq_false (fun e => hne (congrArg List.length e)))
  have hne' : ((l.length : Int) = (m.length : Int)) = False := eq_false (by omega)
  go_enter Tryz.func18, Tryz.ntmps18
  go_wp2
  go_ret
  exact ⟨ret_bool (by rw [HR.out]), Below.refl _ _⟩
end Go.Proofs.YtagfndkfjbbpjaaGreatDoor
/- An instruction's lines. -/
namespace Go.Proofs.YtagfndkfjbbpjaaGreatDoor
open Go.RowKit
set_option linter.unusedSimpArgs false
set_option linter.unusedVariables false
theorem own_two {B : Nat} (w : World) (h : B ≤ w.heap.size) (a s n d c t m e : List UInt8) : Own B (w.alloc (.cells #[.string ⟨a.toArray⟩, .string ⟨s.toArray⟩, .string ⟨n.toArray⟩, .string ⟨d.toArray⟩, .string ⟨c.toArray⟩, .string ⟨t.toArray⟩, .string ⟨m.toArray⟩, .string ⟨e.toArray⟩] 46)) (.slice (some ⟨w.heap.size, 0, Option.none⟩) 2 2) [((a, s), (n, d)), ((c, t), (m, e))] := World.ownsRow_lit _ #[.string ⟨a.toArray⟩, .string ⟨s.toArray⟩, .string ⟨n.toArray⟩, .string ⟨d.toArray⟩, .string ⟨c.toArray⟩, .string ⟨t.toArray⟩, .string ⟨m.toArray⟩, .string ⟨e.toArray⟩] 2 h (by decide) rfl
def GiveLI (w : World) (ls : List Ln) (e : Ending) (w' : World) : Prop := (∃ p c, e = .returned (.slice p ls.length c) ∧ ls.length ≤ c ∧ Lns w' p ls) ∧ Below w.heap.size w w'
set_option maxRecDepth 100000 in
set_option maxHeartbeats 4000000 in
theorem lines_no {i g u : Int} {f t a qn qd pn pd : List UInt8} (w : World)
  (CO : Hid (∀ w, Calls Tryz.prog 27 #[.agg #[.int .i64 i, .int .i64 g, .int .i64 u, .string ⟨f.toArray⟩, .string ⟨t.toArray⟩, .string ⟨a.toArray⟩, .string ⟨qn.toArray⟩, .string ⟨qd.toArray⟩, .string ⟨pn.toArray⟩, .string ⟨pd.toArray⟩]] w (GiveB w false))) :
  Calls Tryz.prog 15 #[.agg #[.int .i64 i, .int .i64 g, .int .i64 u, .string ⟨f.toArray⟩, .string ⟨t.toArray⟩, .string ⟨a.toArray⟩, .string ⟨qn.toArray⟩, .string ⟨qd.toArray⟩, .string ⟨pn.toArray⟩, .string ⟨pd.toArray⟩]] w (GiveLI w []) := by
 have HT : Hid (NoB w) := Lib.hid (noB w)
 go_enter Tryz.func15, Tryz.ntmps15
 go_wp2_with fail
 have BW := Below.refl w.heap.size w
 have b0 : Below w.heap.size w w := Below.refl _ _
 obtain ⟨U1, hU, bU, s1, rx0, rx1, rx2, rx3, rx4, rx5, rx6, rx7, rx8, rx9⟩ := lay10 b0 (.int .i64 i) (.int .i64 g) (.int .i64 u) (.string ⟨f.toArray⟩) (.string ⟨t.toArray⟩) (.string ⟨a.toArray⟩) (.string ⟨qn.toArray⟩) (.string ⟨qd.toArray⟩) (.string ⟨pn.toArray⟩) (.string ⟨pd.toArray⟩) 37
 rw [hU]; clear hU
 clear s1
 replace BW := Below.more BW bU
 replace HT := Lib.hid (HT.out.below bU)
 clear bU
 have b1 := Below.refl U1.heap.size U1
 go_wp2_with fail
 refine (CO.out _).mono ?_
 rintro e w2 ⟨rfl, b⟩
 have b2 := Below.more b1 b
 clear b
 go_wp2_with fail
 go_ret
 exact ⟨⟨none, 0, rfl, Nat.le_refl _, Lns.nil _ _⟩, Below.more BW b2⟩
set_option maxRecDepth 100000 in
set_option maxHeartbeats 4000000 in
theorem lines_two {i g u : Int} {f t a qn qd pn pd : List UInt8} {x y : List UInt8} {sp : Int} (h : ¬ 0 < sp) (w : World)
  (CO : Hid (∀ w, Calls Tryz.prog 27 #[.agg #[.int .i64 i, .int .i64 g, .int .i64 u, .string ⟨f.toArray⟩, .string ⟨t.toArray⟩, .string ⟨a.toArray⟩, .string ⟨qn.toArray⟩, .string ⟨qd.toArray⟩, .string ⟨pn.toArray⟩, .string ⟨pd.toArray⟩]] w (GiveB w true)))
  (CN : Hid (∀ w, Calls Tryz.prog 30 #[.agg #[.string ⟨qn.toArray⟩, .string ⟨qd.toArray⟩]] w (GiveR w (x, y))))
  (CP : Hid (∀ w, Calls Tryz.prog 24 #[.agg #[.string ⟨pn.toArray⟩, .string ⟨pd.toArray⟩]] w (GiveI w sp))) :
  Calls Tryz.prog 15 #[.agg #[.int .i64 i, .int .i64 g, .int .i64 u, .string ⟨f.toArray⟩, .string ⟨t.toArray⟩, .string ⟨a.toArray⟩, .string ⟨qn.toArray⟩, .string ⟨qd.toArray⟩, .string ⟨pn.toArray⟩, .string ⟨pd.toArray⟩]] w (GiveLI w [((f, a), (x, y)), ((t, a), (qn, qd))]) := by
 have HT : Hid (NoB w) := Lib.hid (noB w)
 go_enter Tryz.func15, Tryz.ntmps15
 go_wp2_with fail
 have BW := Below.refl w.heap.size w
 have b0 : Below w.heap.size w w := Below.refl _ _
 obtain ⟨U1, hU, bU, s1, rx0, rx1, rx2, rx3, rx4, rx5, rx6, rx7, rx8, rx9⟩ := lay10 b0 (.int .i64 i) (.int .i64 g) (.int .i64 u) (.string ⟨f.toArray⟩) (.string ⟨t.toArray⟩) (.string ⟨a.toArray⟩) (.string ⟨qn.toArray⟩) (.string ⟨qd.toArray⟩) (.string ⟨pn.toArray⟩) (.string ⟨pd.toArray⟩) 37
 rw [hU]; clear hU
 clear s1
 replace BW := Below.more BW bU
 replace HT := Lib.hid (HT.out.below bU)
 clear bU
 have b1 := Below.refl U1.heap.size U1
 go_wp2_with fail
 refine (CO.out _).mono ?_
 rintro e w2 ⟨rfl, b⟩
 have b2 := Below.more b1 b
 clear b
 have hB := Lib.hid (Nat.le_refl U1.heap.size)
 go_wp2_with fail
 refine wp_region_noPanic ?_
 refine wp_region_held_drew (S := fun w' => Below U1.heap.size U1 w') (by kernel_rfl) (b2.drew) (fun hH0 => ?_)
 refine sch_in [0, 1, 2, 3, 4, 5, 8, 9, 10, 11, 12, 13, 14] ?_
 iterate 13 (refine sch_yes (v := ?_) rfl (by kernel_rfl) (by rfl) ?_ (by assumption) ?_; rotate_left 1; (· (intro w hSw; (try dsimp only at hSw); go_simp <;> (with_reducible rfl))); try simp only [Act.put, qA, qB, qC, qD, qE, qF])
 refine sch_out ?_
 refine wpAnyH_ready (rs := [6]) (by kernel_rfl) (by simp) ?_
 refine AllReadyH.cons rfl (fun K hK => ?_) AllReadyH.nil
 go_simp
 refine (held (W := U1) hB.out (CN.out _) (by assumption)).mono ?_
 rintro e w'' ⟨rfl, hb, hw⟩
 (try go_wp2_with fail)
 refine hK.out _ _ hw (fun hH1 => ?_)
 clear hK hH0 hb
 try simp only [Act.put, qA, qB, qC, qD, qE, qF]
 refine wpAnyH_take (i := 7) (v := ?_) rfl (by kernel_rfl) (by kernel_rfl) (by kernel_rfl) (fun _ _ _ h => h) (Or.inl ⟨by rfl, ?_⟩) (by assumption) ?_
 rotate_left 1
 ·(intro w hSw; (try dsimp only at hSw); go_simp <;> (with_reducible rfl))
 try simp only [Act.put, qA, qB, qC, qD, qE, qF]
 refine wpAnyH_ready (rs := [15]) (by kernel_rfl) (by simp) ?_
 refine AllReadyH.cons rfl (fun K hK => ?_) AllReadyH.nil
 go_simp
 refine hK.out _ _ (Below.alloc hH1 (Below.size hH1) _) (fun hH2 => ?_)
 clear hK
 try simp only [Act.put, qA, qB, qC, qD, qE, qF]
 have hO := own_two w'' (Below.size hH1) f a x y t a qn qd
 clear hH1 hw
 generalize hW3 : w''.alloc (.cells #[.string ⟨f.toArray⟩, .string ⟨a.toArray⟩, .string ⟨x.toArray⟩, .string ⟨y.toArray⟩, .string ⟨t.toArray⟩, .string ⟨a.toArray⟩, .string ⟨qn.toArray⟩, .string ⟨qd.toArray⟩] 46) = w3 at *
 clear hW3
 generalize (Value.slice (some ⟨w''.heap.size, 0, none⟩) 2 2) = sl at *
 refine wpAnyH_take (i := 16) (v := ?_) rfl (by kernel_rfl) (by kernel_rfl) (by kernel_rfl) (fun _ _ _ h => h) (Or.inl ⟨by rfl, ?_⟩) (by assumption) ?_
 rotate_left 1
 ·(intro w hSw; (try dsimp only at hSw); go_simp <;> (with_reducible rfl))
 try simp only [Act.put, qA, qB, qC, qD, qE, qF]
 refine wpAnyH_done (by kernel_rfl) ?_ _
 refine NoPanic.normal ?_
 have b3 := hH2
 clear hH2
 have HO := Lib.hid hO
 clear hO
 go_wp2_with fail
 refine (CP.out _).mono ?_
 rintro e w4 ⟨rfl, bb⟩
 have b4 := Below.trans b3 (bb.mono (Below.size b3))
 have HO4 := Lib.hid (own_below HO.out bb)
 clear bb HO b3
 go_wp2_with fail
 obtain ⟨p', c', rfl, hc', hL', _⟩ := own_lns HO4.out
 have HL := Lib.hid hL'
 clear hL' HO4
 go_ret
 exact ⟨⟨p', c', rfl, hc', HL.out⟩, Below.more BW b4⟩
set_option maxRecDepth 100000 in
set_option maxHeartbeats 4000000 in
theorem lines_four {i g u : Int} {f t a qn qd pn pd : List UInt8} {x y z v : List UInt8} {sp : Int} (h : 0 < sp) (w : World)
  (CO : Hid (∀ w, Calls Tryz.prog 27 #[.agg #[.int .i64 i, .int .i64 g, .int .i64 u, .string ⟨f.toArray⟩, .string ⟨t.toArray⟩, .string ⟨a.toArray⟩, .string ⟨qn.toArray⟩, .string ⟨qd.toArray⟩, .string ⟨pn.toArray⟩, .string ⟨pd.toArray⟩]] w (GiveB w true)))
  (CN : Hid (∀ w, Calls Tryz.prog 30 #[.agg #[.string ⟨qn.toArray⟩, .string ⟨qd.toArray⟩]] w (GiveR w (x, y))))
  (CP : Hid (∀ w, Calls Tryz.prog 24 #[.agg #[.string ⟨pn.toArray⟩, .string ⟨pd.toArray⟩]] w (GiveI w sp)))
  (CM : Hid (∀ w, Calls Tryz.prog 30 #[.agg #[.string ⟨pn.toArray⟩, .string ⟨pd.toArray⟩]] w (GiveR w (z, v)))) :
  Calls Tryz.prog 15 #[.agg #[.int .i64 i, .int .i64 g, .int .i64 u, .string ⟨f.toArray⟩, .string ⟨t.toArray⟩, .string ⟨a.toArray⟩, .string ⟨qn.toArray⟩, .string ⟨qd.toArray⟩, .string ⟨pn.toArray⟩, .string ⟨pd.toArray⟩]] w (GiveLI w (([((f, a), (x, y)), ((t, a), (qn, qd))] ++ [((t, [99, 97, 115, 104]), (z, v))]) ++ [((f, [99, 97, 115, 104]), (pn, pd))])) := by
 have HT : Hid (NoB w) := Lib.hid (noB w)
 go_enter Tryz.func15, Tryz.ntmps15
 go_wp2_with fail
 have BW := Below.refl w.heap.size w
 have b0 : Below w.heap.size w w := Below.refl _ _
 obtain ⟨U1, hU, bU, s1, rx0, rx1, rx2, rx3, rx4, rx5, rx6, rx7, rx8, rx9⟩ := lay10 b0 (.int .i64 i) (.int .i64 g) (.int .i64 u) (.string ⟨f.toArray⟩) (.string ⟨t.toArray⟩) (.string ⟨a.toArray⟩) (.string ⟨qn.toArray⟩) (.string ⟨qd.toArray⟩) (.string ⟨pn.toArray⟩) (.string ⟨pd.toArray⟩) 37
 rw [hU]; clear hU
 clear s1
 replace BW := Below.more BW bU
 replace HT := Lib.hid (HT.out.below bU)
 clear bU
 have b1 := Below.refl U1.heap.size U1
 go_wp2_with fail
 refine (CO.out _).mono ?_
 rintro e w2 ⟨rfl, b⟩
 have b2 := Below.more b1 b
 clear b
 have hB := Lib.hid (Nat.le_refl U1.heap.size)
 go_wp2_with fail
 refine wp_region_noPanic ?_
 refine wp_region_held_drew (S := fun w' => Below U1.heap.size U1 w') (by kernel_rfl) (b2.drew) (fun hH0 => ?_)
 refine sch_in [0, 1, 2, 3, 4, 5, 8, 9, 10, 11, 12, 13, 14] ?_
 iterate 13 (refine sch_yes (v := ?_) rfl (by kernel_rfl) (by rfl) ?_ (by assumption) ?_; rotate_left 1; (· (intro w hSw; (try dsimp only at hSw); go_simp <;> (with_reducible rfl))); try simp only [Act.put, qA, qB, qC, qD, qE, qF])
 refine sch_out ?_
 refine wpAnyH_ready (rs := [6]) (by kernel_rfl) (by simp) ?_
 refine AllReadyH.cons rfl (fun K hK => ?_) AllReadyH.nil
 go_simp
 refine (held (W := U1) hB.out (CN.out _) (by assumption)).mono ?_
 rintro e w'' ⟨rfl, hb, hw⟩
 (try go_wp2_with fail)
 refine hK.out _ _ hw (fun hH1 => ?_)
 clear hK hH0 hb
 try simp only [Act.put, qA, qB, qC, qD, qE, qF]
 refine wpAnyH_take (i := 7) (v := ?_) rfl (by kernel_rfl) (by kernel_rfl) (by kernel_rfl) (fun _ _ _ h => h) (Or.inl ⟨by rfl, ?_⟩) (by assumption) ?_
 rotate_left 1
 ·(intro w hSw; (try dsimp only at hSw); go_simp <;> (with_reducible rfl))
 try simp only [Act.put, qA, qB, qC, qD, qE, qF]
 refine wpAnyH_ready (rs := [15]) (by kernel_rfl) (by simp) ?_
 refine AllReadyH.cons rfl (fun K hK => ?_) AllReadyH.nil
 go_simp
 refine hK.out _ _ (Below.alloc hH1 (Below.size hH1) _) (fun hH2 => ?_)
 clear hK
 try simp only [Act.put, qA, qB, qC, qD, qE, qF]
 have hO := own_two w'' (Below.size hH1) f a x y t a qn qd
 clear hH1 hw
 generalize hW3 : w''.alloc (.cells #[.string ⟨f.toArray⟩, .string ⟨a.toArray⟩, .string ⟨x.toArray⟩, .string ⟨y.toArray⟩, .string ⟨t.toArray⟩, .string ⟨a.toArray⟩, .string ⟨qn.toArray⟩, .string ⟨qd.toArray⟩] 46) = w3 at *
 clear hW3
 generalize (Value.slice (some ⟨w''.heap.size, 0, none⟩) 2 2) = sl at *
 refine wpAnyH_take (i := 16) (v := ?_) rfl (by kernel_rfl) (by kernel_rfl) (by kernel_rfl) (fun _ _ _ h => h) (Or.inl ⟨by rfl, ?_⟩) (by assumption) ?_
 rotate_left 1
 ·(intro w hSw; (try dsimp only at hSw); go_simp <;> (with_reducible rfl))
 try simp only [Act.put, qA, qB, qC, qD, qE, qF]
 refine wpAnyH_done (by kernel_rfl) ?_ _
 refine NoPanic.normal ?_
 have b3 := hH2
 clear hH2
 have HO := Lib.hid hO
 clear hO
 go_wp2_with fail
 refine (CP.out _).mono ?_
 rintro e w4 ⟨rfl, bb⟩
 have b4 := Below.trans b3 (bb.mono (Below.size b3))
 have HO4 := Lib.hid (own_below HO.out bb)
 clear bb HO b3
 go_wp2_with fail
 refine wp_region_noPanic ?_
 refine wp_region_held_drew (S := fun w' => Below U1.heap.size U1 w') (by kernel_rfl) (b4.drew) (fun hH0 => ?_)
 have hOd := World.ownsRow.drew HO4.out
 refine sch_in [0, 1, 2, 3, 4] ?_
 iterate 5 (refine sch_yes (v := ?_) rfl (by kernel_rfl) (by rfl) ?_ (by assumption) ?_; rotate_left 1; (· (intro w hSw; (try dsimp only at hSw); go_simp <;> (with_reducible rfl))); try simp only [Act.put, qA, qB, qC, qD, qE, qF])
 refine sch_out ?_
 refine wpAnyH_ready (rs := [5]) (by kernel_rfl) (by simp) ?_
 refine AllReadyH.cons rfl (fun K hK => ?_) AllReadyH.nil
 go_simp
 refine (heldO (CM.out _) hH0 hOd (Nat.le_refl _)).mono ?_
 rintro e w'' ⟨rfl, hw2, hO2⟩
 (try go_wp2_with fail)
 refine hK.out _ _ hw2 (fun hH1 => ?_)
 clear hK hH0 hOd
 try simp only [Act.put, qA, qB, qC, qD, qE, qF]
 refine wpAnyH_take (i := 6) (v := ?_) rfl (by kernel_rfl) (by kernel_rfl) (by kernel_rfl) (fun _ _ _ h => h) (Or.inl ⟨by rfl, ?_⟩) (by assumption) ?_
 rotate_left 1
 ·(intro w hSw; (try dsimp only at hSw); go_simp <;> (with_reducible rfl))
 try simp only [Act.put, qA, qB, qC, qD, qE, qF]
 refine wpAnyH_ready (rs := [7]) (by kernel_rfl) (by simp) ?_
 refine AllReadyH.cons rfl (fun K hK => ?_) AllReadyH.nil
 go_simp
 refine hK.out _ _ (Below.alloc hH1 (Below.size hH1) _) (fun hH2 => ?_)
 clear hK hw2
 try simp only [Act.put, qA, qB, qC, qD, qE, qF]
 have L3 := lnsOne w'' t [99, 97, 115, 104] z v 46
 have hO3 := World.ownsRow.alloc hO2 (.cells #[.string ⟨t.toArray⟩, .string ⟨[99, 97, 115, 104].toArray⟩, .string ⟨z.toArray⟩, .string ⟨v.toArray⟩] 46)
 generalize w''.alloc (.cells #[.string ⟨t.toArray⟩, .string ⟨[99, 97, 115, 104].toArray⟩, .string ⟨z.toArray⟩, .string ⟨v.toArray⟩] 46) = w3 at *
 refine wpAnyH_ready (rs := [8]) (by kernel_rfl) (by simp) ?_
 refine AllReadyH.cons rfl (fun K hK => ?_) AllReadyH.nil
 rw [if_pos (by rfl)]
 refine wp_append_lns _ _ 22 rfl U1.heap.size Tryz.underlying22 _ [((f, a), (x, y)), ((t, a), (qn, qd))] rfl hO3 (some ⟨w''.heap.size, 0, none⟩) [((t, [99, 97, 115, 104]), (z, v))] 1 rfl L3 (show 2 ≤ 3000000 by decide) (show 1 ≤ 3000000 by decide) (Below.size hH2) ?_
 intro v' w6 hO4 hB4
 refine hK.out _ _ (hH2.trans hB4) (fun hH3 => ?_)
 clear hK
 try simp only [Act.put, qA, qB, qC, qD, qE, qF]
 refine wpAnyH_take (i := 9) (v := ?_) rfl (by kernel_rfl) (by kernel_rfl) (by kernel_rfl) (fun _ _ _ h => h) (Or.inl ⟨by rfl, ?_⟩) (by assumption) ?_
 rotate_left 1
 ·(intro w hSw; (try dsimp only at hSw); go_simp <;> (with_reducible rfl))
 try simp only [Act.put, qA, qB, qC, qD, qE, qF]
 refine wpAnyH_done (by kernel_rfl) ?_ _
 refine NoPanic.normal ?_
 have X := Lib.hid hO4
 have b6 := hH3
 clear hO4 hH3 hH2 hH1 hB4 hO3 hO2 L3 HO4 b4
 go_wp2_with (at_builtin; refine halt ?_)
 show wpList _ _ _ _ _ _
 have b7 := Below.alloc b6 (Below.size b6) (.cells #[.string ⟨f.toArray⟩, .string ⟨[99, 97, 115, 104].toArray⟩, .string ⟨pn.toArray⟩, .string ⟨pd.toArray⟩] 46)
 refine wpList_append_lns rfl _ _ 22 rfl U1.heap.size Tryz.underlying22 _ ([((f, a), (x, y)), ((t, a), (qn, qd))] ++ [((t, [99, 97, 115, 104]), (z, v))]) rfl (World.ownsRow.alloc X.out _) (some ⟨w6.heap.size, 0, none⟩) [((f, [99, 97, 115, 104]), (pn, pd))] 1 rfl (lnsOne w6 f [99, 97, 115, 104] pn pd 46) (show 3 ≤ 3000000 by decide) (show 1 ≤ 3000000 by decide) (Below.size b7) ?_
 intro v8 w8 o8 h8
 have b8 := b7.trans h8
 obtain ⟨p', c', rfl, hc', hL', _⟩ := own_lns o8
 have HL := Lib.hid hL'
 clear o8 hL' h8 b7 b6 X
 go_wp2_with fail
 go_ret
 exact ⟨⟨p', c', rfl, hc', HL.out⟩, Below.more BW b8⟩
theorem rilines_any {i g u : Int} {f t a qn qd pn pd : List UInt8} (w : World) (hz : SzI (In.mk i g u f t a (qn, qd) (pn, pd))) :
  Calls Tryz.prog 15 #[.agg #[.int .i64 i, .int .i64 g, .int .i64 u, .string ⟨f.toArray⟩, .string ⟨t.toArray⟩, .string ⟨a.toArray⟩, .string ⟨qn.toArray⟩, .string ⟨qd.toArray⟩, .string ⟨pn.toArray⟩, .string ⟨pd.toArray⟩]] w (GiveLI w (linesI (In.mk i g u f t a (qn, qd) (pn, pd)))) := by
 have co := fun w => rione_any w hz
 obtain ⟨_, ⟨z4, z5⟩, z6, z7⟩ := hz
 dsimp only at z4 z5 z6 z7
 have cn := fun w => rqneg_any ⟨qn.toArray⟩ ⟨qd.toArray⟩ w (by rw [size_of]; omega) (by rw [size_of]; omega)
 have cp : ∀ w, Calls Tryz.prog 24 #[.agg #[.string ⟨pn.toArray⟩, .string ⟨pd.toArray⟩]] w (GiveI w (sgnR (pn, pd))) := fun w => rqsign_any ⟨pn.toArray⟩ ⟨pd.toArray⟩ w (by rw [size_of]; omega) (by rw [size_of]; omega)
 have cm := fun w => rqneg_any ⟨pn.toArray⟩ ⟨pd.toArray⟩ w (by rw [size_of]; omega) (by rw [size_of]; omega)
 unfold linesI
 cases h1 : oneB (In.mk i g u f t a (qn, qd) (pn, pd)) with
 | false => rw [h1] at co; exact lines_no w (Lib.hid co)
 | true =>
 rw [h1] at co
 by_cases h2 : 0 < sgnR (pn, pd)
 ·have e : payL (In.mk i g u f t a (qn, qd) (pn, pd)) = [((t, cashT), negR (pn, pd)), ((f, cashT), (pn, pd))] := if_pos h2
  rw [if_pos rfl, e]
  exact lines_four h2 w (Lib.hid co) (Lib.hid cn) (Lib.hid cp) (Lib.hid cm)
 ·have e : payL (In.mk i g u f t a (qn, qd) (pn, pd)) = [] := if_neg h2
  rw [if_pos rfl, e, List.append_nil]
  exact lines_two h2 w (Lib.hid co) (Lib.hid cn) (Lib.hid cp)
end Go.Proofs.YtagfndkfjbbpjaaGreatDoor
/- A day's run, as the document has it. -/
namespace Go.Proofs.YtagfndkfjbbpjaaGreatDoor
open Go.RowKit
set_option linter.unusedSimpArgs false
set_option linter.unusedVariables false
def encI (x : In) : List Value := [.int .i64 x.id, .int .i64 x.dealt, .int .i64 x.due, .string ⟨x.frm.toArray⟩, .string ⟨x.dst.toArray⟩, .string ⟨x.ast.toArray⟩, .string ⟨x.q.1.toArray⟩, .string ⟨x.q.2.toArray⟩, .string ⟨x.pay.1.toArray⟩, .string ⟨x.pay.2.toArray⟩]
def encN (n : Int) : List Value := [.int .i64 n]
theorem encI_one (x : In) : ∀ v ∈ encI x, v.oneCell' = true := fun v hv => by
 unfold encI at hv
 simp only [List.mem_cons, List.not_mem_nil, or_false] at hv
 rcases hv with rfl | rfl | rfl | rfl | rfl | rfl | rfl | rfl | rfl | rfl <;> rfl
theorem encN_one (n : Int) : ∀ v ∈ encN n, v.oneCell' = true := fun v hv => by
 obtain rfl := List.mem_singleton.1 hv; rfl
theorem insInfo : (Tryz.prog.info? 37).map (fun i => (i.zero, i.size, i.bytes)) = some (some (.agg #[.int .i64 0, .int .i64 0, .int .i64 0, .string ⟨#[]⟩, .string ⟨#[]⟩, .string ⟨#[]⟩, .string ⟨#[]⟩, .string ⟨#[]⟩, .string ⟨#[]⟩, .string ⟨#[]⟩]), 10, 136) := by kernel_rfl
theorem numInfo : (Tryz.prog.info? 3).map (fun i => (i.zero, i.size, i.bytes)) = some (some (.int .i64 0), 1, 8) := by kernel_rfl
theorem ins_of {w : World} {p : Option Addr} {l : List In} (h : RowsG encI 10 w p l) : Ins w p l := fun j x hx => by
 obtain ⟨b, o, hp, hl, c⟩ := h j x hx
 exact ⟨b, o, hp, hl, c 0 _ rfl, c 1 _ rfl, c 2 _ rfl, c 3 _ rfl, c 4 _ rfl, c 5 _ rfl, c 6 _ rfl, c 7 _ rfl, c 8 _ rfl, c 9 _ rfl⟩
theorem nums_of {w : World} {p : Option Addr} {l : List Int} (h : RowsG encN 1 w p l) : Nums w p l := fun j x hx => by
 obtain ⟨b, o, hp, hl, c⟩ := h j x hx
 have k := c 0 _ rfl
 rw [Nat.mul_one] at k
 exact ⟨b, o, hp, hl, k⟩
abbrev OwnI (B : Nat) (w : World) (v : Value) (l : List In) : Prop := OwnG encI 10 37 B w v l
abbrev OwnN (B : Nat) (w : World) (v : Value) (l : List Int) : Prop := OwnG encN 1 3 B w v l
theorem Lns.grown {w w' : World} {row : Option Nat} {p : Option Addr} {l : List Ln} (h : Lns w p l) (hg : w.grownBy w' row) (hr : l = [] ∨ ∀ a, p = some a → row ≠ some a.block) : Lns w' p l := fun j x hx => by
 rcases hr with rfl | hr
 ·cases hx
 ·obtain ⟨b, o, rfl, hl, c0, c1, c2, c3⟩ := h j x hx
  have hb : w'.heap[b]? = w.heap[b]? := hg.block b hl fun e => hr _ rfl e.symm
  exact ⟨b, o, rfl, Nat.lt_of_lt_of_le hl hg.size, (World.cell?_of_block (w := w) hb).trans c0, (World.cell?_of_block (w := w) hb).trans c1, (World.cell?_of_block (w := w) hb).trans c2, (World.cell?_of_block (w := w) hb).trans c3⟩
structure RunSt (B : Nat) (w : World) (r : Option Addr) (b : List Ln) (rest done : Value) (fs : List In) (ns : List Int) : Prop where
 own1 : OwnI B w rest fs
 own2 : OwnN B w done ns
 book : Lns w r b
 sep : ∃ g h, rest.ownBlock = some g ∧ done.ownBlock = some h ∧ g ≠ h ∧ (b = [] ∨ ∀ a, r = some a → a.block ≠ g ∧ a.block ≠ h)
theorem RunSt.below {B : Nat} {w w' : World} {r : Option Addr} {b : List Ln} {rest done : Value} {fs : List In} {ns : List Int} (s : RunSt B w r b rest done fs ns) (hb : Below w.heap.size w w') : RunSt B w' r b rest done fs ns :=
 ⟨ownG_below s.own1 hb, ownG_below s.own2 hb, s.book.below hb, s.sep⟩
theorem RunSt.newBook {B : Nat} {w w' : World} {r r' : Option Addr} {b b' : List Ln} {rest done : Value} {fs : List In} {ns : List Int} (s : RunSt B w r b rest done fs ns) (hb : Below w.heap.size w w') (hL : Lns w' r' b') (hN : NewR w r b r' b') : RunSt B w' r' b' rest done fs ns := by
 obtain ⟨g, h, e1, e2, hne, hs⟩ := s.sep
 refine ⟨ownG_below s.own1 hb, ownG_below s.own2 hb, hL, g, h, e1, e2, hne, ?_⟩
 rcases hN with ⟨rfl, rfl⟩ | hN
 ·exact hs
 ·refine .inr fun a ha => ?_
  have k := hN a ha
  have l1 := (World.ownsRow.lt s.own1 g e1).2
  have l2 := (World.ownsRow.lt s.own2 h e2).2
  exact ⟨by omega, by omega⟩
theorem RunSt.done {B : Nat} {w w' : World} {r : Option Addr} {b : List Ln} {rest done v' : Value} {fs : List In} {ns : List Int} {n : Int} (s : RunSt B w r b rest done fs ns) (ho : OwnN B w' v' (ns ++ [n])) (hg : w.grownBy w' done.ownBlock) (hloc : v'.ownBlock = done.ownBlock ∨ ∃ g, v'.ownBlock = some g ∧ w.heap.size ≤ g) : RunSt B w' r b rest v' fs (ns ++ [n]) := by
 obtain ⟨g, h, e1, e2, hne, hs⟩ := s.sep
 have l1 := (World.ownsRow.lt s.own1 g e1).2
 refine ⟨World.ownsRow.kept s.own1 hg (.inr (by rw [e1, e2]; exact fun c => hne (Option.some.inj c))), ho, s.book.grown hg ?_, ?_⟩
 ·rcases hs with hs | hs
  ·exact .inl hs
  ·exact .inr fun a ha => by rw [e2]; exact fun c => (hs a ha).2 (Option.some.inj c).symm
 ·rcases hloc with k | ⟨h', k, hge⟩
  ·exact ⟨g, h, e1, k.trans e2, hne, hs⟩
  ·refine ⟨g, h', e1, k, by omega, ?_⟩
   rcases hs with hs | hs
   ·exact .inl hs
   ·by_cases hb : b = []
    ·exact .inl hb
    ·refine .inr fun a ha => ⟨(hs a ha).1, ?_⟩
     obtain ⟨x, hx⟩ := List.exists_mem_of_ne_nil _ hb
     obtain ⟨i, hi, e⟩ := List.getElem_of_mem hx
     obtain ⟨bb, oo, hp, hl, _⟩ := s.book i _ (List.getElem?_eq_getElem hi)
     rw [ha] at hp
     cases hp
     show bb ≠ h'
     omega
theorem RunSt.rest {B : Nat} {w w' : World} {r : Option Addr} {b : List Ln} {rest done v' : Value} {fs : List In} {ns : List Int} {x : In} (s : RunSt B w r b rest done fs ns) (ho : OwnI B w' v' (fs ++ [x])) (hg : w.grownBy w' rest.ownBlock) (hloc : v'.ownBlock = rest.ownBlock ∨ ∃ g, v'.ownBlock = some g ∧ w.heap.size ≤ g) : RunSt B w' r b v' done (fs ++ [x]) ns := by
 obtain ⟨g, h, e1, e2, hne, hs⟩ := s.sep
 have l2 := (World.ownsRow.lt s.own2 h e2).2
 refine ⟨ho, World.ownsRow.kept s.own2 hg (.inr (by rw [e1, e2]; exact fun c => hne (Option.some.inj c).symm)), s.book.grown hg ?_, ?_⟩
 ·rcases hs with hs | hs
  ·exact .inl hs
  ·exact .inr fun a ha => by rw [e1]; exact fun c => (hs a ha).1 (Option.some.inj c).symm
 ·rcases hloc with k | ⟨g', k, hge⟩
  ·exact ⟨g, h, k.trans e1, e2, hne, hs⟩
  ·refine ⟨g', h, k, e2, by omega, ?_⟩
   rcases hs with hs | hs
   ·exact .inl hs
   ·by_cases hb : b = []
    ·exact .inl hb
    ·refine .inr fun a ha => ⟨?_, (hs a ha).2⟩
     obtain ⟨x, hx⟩ := List.exists_mem_of_ne_nil _ hb
     obtain ⟨i, hi, e⟩ := List.getElem_of_mem hx
     obtain ⟨bb, oo, hp, hl, _⟩ := s.book i _ (List.getElem?_eq_getElem hi)
     rw [ha] at hp
     cases hp
     show bb ≠ g'
     omega
theorem st_start {w w1 : World} {r : Option Addr} {b : List Ln} (hL : Lns w r b) (hb : Below w.heap.size w w1) :
  RunSt w.heap.size ((w1.alloc (.cells #[] 37)).alloc (.cells #[] 3)) r b (.slice (some ⟨w1.heap.size, 0, none⟩) 0 0) (.slice (some ⟨w1.heap.size + 1, 0, none⟩) 0 0) [] [] := by
 have b1 : Below w1.heap.size w1 (w1.alloc (.cells #[] 37)) := Below.step _ (Below.refl _ _)
 have b2 : Below (w1.alloc (.cells #[] 37)).heap.size (w1.alloc (.cells #[] 37)) ((w1.alloc (.cells #[] 37)).alloc (.cells #[] 3)) := Below.step _ (Below.refl _ _)
 have e : (w1.alloc (.cells #[] 37)).heap.size = w1.heap.size + 1 := by simp
 have o2 := ownG_empty (enc := encN) (k := 1) (e := 3) (B := w.heap.size) (w1.alloc (.cells #[] 37)) (by rw [e]; exact Nat.le_succ_of_le (Below.size hb))
 rw [e] at o2
 refine ⟨ownG_below (ownG_empty w1 (Below.size hb)) b2, o2, ((hL.below hb).below b1).below b2, w1.heap.size, w1.heap.size + 1, rfl, rfl, by omega, ?_⟩
 by_cases hbb : b = []
 ·exact .inl hbb
 ·refine .inr fun a ha => ?_
  obtain ⟨x, hx⟩ := List.exists_mem_of_ne_nil _ hbb
  obtain ⟨i, hi, e⟩ := List.getElem_of_mem hx
  obtain ⟨bb, oo, hp, hl, _⟩ := hL i _ (List.getElem?_eq_getElem hi)
  rw [ha] at hp
  cases hp
  have := Below.size hb
  exact ⟨show bb ≠ _ by omega, show bb ≠ _ by omega⟩
def GiveRun (w : World) (r : Ran) (e : Ending) (w' : World) : Prop := (∃ p c p' c' p'' c'', e = .returned (.tuple #[.slice p r.book.length c, .slice p' r.rest.length c', .slice p'' r.done.length c'', .int .i64 r.err]) ∧ (r.book.length ≤ c ∧ r.rest.length ≤ c' ∧ r.done.length ≤ c'') ∧ Lns w' p r.book ∧ Ins w' p' r.rest ∧ Nums w' p'' r.done) ∧ Below w.heap.size w w'
theorem giveRun_no {w w' : World} (hb : Below w.heap.size w w') : GiveRun w ⟨[], [], [], 1⟩ (.returned (.tuple #[.slice none 0 0, .slice none 0 0, .slice none 0 0, .int .i64 1])) w' :=
 ⟨⟨none, 0, none, 0, none, 0, rfl, ⟨Nat.le_refl _, Nat.le_refl _, Nat.le_refl _⟩, Lns.nil _ _, Ins.nil _ _, Nums.nil _ _⟩, hb⟩
theorem giveRun_st {w w' : World} {B : Nat} {r : Option Addr} {b : List Ln} {rest done : Value} {fs : List In} {ns : List Int} {cc : Nat} (s : RunSt B w' r b rest done fs ns) (hc : b.length ≤ cc) (hb : Below w.heap.size w w') : GiveRun w ⟨b, fs, ns, 0⟩ (.returned (.tuple #[.slice r b.length cc, rest, done, .int .i64 0])) w' := by
 obtain ⟨p1, c1, rfl, h1, r1, _⟩ := ownG_rows (enc := encI) (k := 10) (fun _ => rfl) s.own1
 obtain ⟨p2, c2, rfl, h2, r2, _⟩ := ownG_rows (enc := encN) (k := 1) (fun _ => rfl) s.own2
 exact ⟨⟨r, cc, p1, c1, p2, c2, rfl, ⟨hc, h1, h2⟩, s.book, ins_of r1, nums_of r2⟩, hb⟩
set_option maxRecDepth 100000 in
set_option maxHeartbeats 4000000 in
theorem rirun_a (p : Option Addr) (c : Nat) (ls : List Ln) (q : Option Addr) (d : Nat) (l : List In) (day : Int) (w : World)
  (CM : Hid (∀ V, Below w.heap.size w V → Calls Tryz.prog 22 #[.slice p ls.length c] V (GiveB V false))) :
  Calls Tryz.prog 12 #[.slice p ls.length c, .slice q l.length d, .int .i64 day] w (GiveRun w ⟨[], [], [], 1⟩) := by
 go_enter Tryz.func12, Tryz.ntmps12
 go_wp2_with fail
 have b0 := Below.refl w.heap.size w
 refine (CM.out _ b0).mono ?_
 rintro e w1 ⟨rfl, b⟩
 have b1 := Below.more b0 b
 clear b
 go_wp2_with fail
 refine bodyPost_ret (v := .tuple #[.slice none 0 0, .slice none 0 0, .slice none 0 0, .int .i64 1]) (by simp [results, Tryz.results12, go_sem, *]) rfl ?_
 exact giveRun_no b1
set_option maxRecDepth 100000 in
set_option maxHeartbeats 4000000 in
theorem rirun_b (p : Option Addr) (c : Nat) (ls : List Ln) (q : Option Addr) (d : Nat) (l : List In) (day : Int) (w : World)
  (CM : Hid (∀ V, Below w.heap.size w V → Calls Tryz.prog 22 #[.slice p ls.length c] V (GiveB V true)))
  (CI : Hid (∀ V, Below w.heap.size w V → Calls Tryz.prog 17 #[.slice q l.length d] V (GiveB V false))) :
  Calls Tryz.prog 12 #[.slice p ls.length c, .slice q l.length d, .int .i64 day] w (GiveRun w ⟨[], [], [], 1⟩) := by
 go_enter Tryz.func12, Tryz.ntmps12
 go_wp2_with fail
 have b0 := Below.refl w.heap.size w
 refine (CM.out _ b0).mono ?_
 rintro e w1 ⟨rfl, b⟩
 have b1 := Below.more b0 b
 clear b
 go_wp2_with fail
 refine (CI.out _ b1).mono ?_
 rintro e w2 ⟨rfl, b⟩
 have b2 := Below.more b1 b
 clear b
 go_wp2_with fail
 refine bodyPost_ret (v := .tuple #[.slice none 0 0, .slice none 0 0, .slice none 0 0, .int .i64 1]) (by simp [results, Tryz.results12, go_sem, *]) rfl ?_
 exact giveRun_no b2
set_option maxRecDepth 100000 in
set_option maxHeartbeats 4000000 in
theorem rirun_main (p : Option Addr) (c : Nat) (ls : List Ln) (q : Option Addr) (d : Nat) (l : List In) (day : Int) (w : World) (B : Nat → List Ln) (F : Nat → List In) (N : Nat → List Int) (AP : Nat → List Ln × Int) (hB0 : B 0 = ls) (hF0 : F 0 = []) (hN0 : N 0 = []) (hc : ls.length ≤ c) (hl : l.length ≤ 1000000) (hL : Lns w p ls) (hI : Ins w q l)
  (HFF : Hid (∀ k, (F k).length ≤ 3000000)) (HNN : Hid (∀ k, (N k).length ≤ 3000000))
  (HST : Hid (∀ (k : Nat) (x : In), l[k]? = some x → ((x.due ≤ day ∧ (AP k).2 = 0) → B (k + 1) = (AP k).1 ∧ F (k + 1) = F k ∧ N (k + 1) = N k ++ [x.id]) ∧ (¬ (x.due ≤ day ∧ (AP k).2 = 0) → B (k + 1) = B k ∧ F (k + 1) = F k ++ [x] ∧ N (k + 1) = N k)))
  (CM : Hid (∀ V, Below w.heap.size w V → Calls Tryz.prog 22 #[.slice p ls.length c] V (GiveB V true)))
  (CI : Hid (∀ V, Below w.heap.size w V → Calls Tryz.prog 17 #[.slice q l.length d] V (GiveB V true)))
  (CL : Hid (∀ (k : Nat) (x : In), l[k]? = some x → ∀ V, Calls Tryz.prog 15 #[.agg #[.int .i64 x.id, .int .i64 x.dealt, .int .i64 x.due, .string ⟨x.frm.toArray⟩, .string ⟨x.dst.toArray⟩, .string ⟨x.ast.toArray⟩, .string ⟨x.q.1.toArray⟩, .string ⟨x.q.2.toArray⟩, .string ⟨x.pay.1.toArray⟩, .string ⟨x.pay.2.toArray⟩]] V (GiveLI V (linesI x))))
  (CA : Hid (∀ (k : Nat) (x : In), l[k]? = some x → ∀ V r cc q' d', Below w.heap.size w V → (B k).length ≤ cc → (linesI x).length ≤ d' → Lns V r (B k) → Lns V q' (linesI x) → Calls Tryz.prog 37 #[.slice r (B k).length cc, .slice q' (linesI x).length d', .bool true] V (GiveLEF V r (B k) (AP k)))) :
  Calls Tryz.prog 12 #[.slice p ls.length c, .slice q l.length d, .int .i64 day] w (GiveRun w ⟨B l.length, F l.length, N l.length, 0⟩) := by
 have HI := Lib.hid hI; have HL := Lib.hid hL; have HB0 := Lib.hid hB0; have HF0 := Lib.hid hF0; have HN0 := Lib.hid hN0
 clear hI hL hB0 hF0 hN0
 go_enter Tryz.func12, Tryz.ntmps12
 go_wp2_with fail
 have b0 := Below.refl w.heap.size w
 refine (CM.out _ b0).mono ?_
 rintro e w1 ⟨rfl, b⟩
 have b1 := Below.more b0 b
 clear b
 go_wp2_with fail
 refine (CI.out _ b1).mono ?_
 rintro e w2 ⟨rfl, b⟩
 have b2 := Below.more b1 b
 clear b
 go_wp2_with fail
 have HS00 := Lib.hid (st_start HL.out b2)
 have HW00 : Hid (Below w.heap.size w ((w2.alloc (.cells #[] 37)).alloc (.cells #[] 3))) := Lib.hid (Below.alloc (Below.alloc b2 (Below.size b2) _) (Below.size (Below.alloc b2 (Below.size b2) _)) _)
 clear b0 b1 b2 CM CI
 go_loopw [0, 10, 11, 12] (fun bk rest done i wr => ∃ (k : Nat) (r : Option Addr) (cc : Nat), k ≤ l.length ∧ i = .int .i64 k ∧ bk = .slice r (B k).length cc ∧ (B k).length ≤ cc ∧ Hid (RunSt w.heap.size wr r (B k) rest done (F k) (N k)) ∧ Below w.heap.size w wr) (fun _ _ _ i _ => l.length - (intOf i).toNat)
 case atStart => exact ⟨0, p, c, Nat.zero_le _, rfl, by rw [HB0.out], by rw [HB0.out]; exact hc, by rw [HB0.out, HF0.out, HN0.out]; exact HS00, HW00.out⟩
 case round =>
  clear HS00 HW00
  obtain ⟨k, r, cc, hk, rfl, rfl, hcc, HS0, hw⟩ := hrel
  by_cases hlt : k < l.length
  ·obtain ⟨⟨i, g, u, f, t, a, ⟨qn, qd⟩, ⟨pn, pd⟩⟩, hx⟩ : ∃ x, l[k]? = some x := ⟨_, List.getElem?_eq_getElem hlt⟩
   obtain ⟨b, o, rfl, k0, k1, k2, k3, k4, k5, k6, k7, k8, k9⟩ := (HI.out.below hw).rule hx
   have cl := CL.out k _ hx
   have ca := CA.out k _ hx
   have hst := HST.out k _ hx
   dsimp only at cl ca hst
   have hkeep : ∃ LL A1 A2, linesI (In.mk i g u f t a (qn, qd) (pn, pd)) = LL ∧ AP k = (A1, A2) := ⟨_, _, _, rfl, rfl⟩
   obtain ⟨LL, A1, A2, hLL, hAP⟩ := hkeep
   rw [hLL] at cl ca
   rw [hAP] at ca hst
   have hNl := HNN.out k
   have hFl := HFF.out k
   have CLk := Lib.hid cl; have CAk := Lib.hid ca
   have HNl := Lib.hid hNl; have HFl := Lib.hid hFl
   have HW := Lib.hid hw
   have b0 := Below.refl wr.heap.size wr
   clear cl ca hw hx hLL hAP hNl hFl
   by_cases hdue : u ≤ day
   ·by_cases hz : A2 = 0
    ·obtain ⟨h1, h2, h3⟩ := hst.1 ⟨hdue, hz⟩
     have HB1 : Hid (B (k + 1) = A1) := Lib.hid h1; have HF1 := Lib.hid h2; have HN1 := Lib.hid h3
     clear h1 h2 h3 hst
     go_wp2_with fail
     refine (CLk.out wr).mono ?_
     rintro e w1 ⟨⟨q', d', rfl, hd', hLq⟩, b1⟩
     have HLq := Lib.hid hLq
     have HS1 := Lib.hid (HS0.out.below b1)
     have HW1 := Lib.hid (HW.out.trans (b1.mono (Below.size HW.out)))
     clear hLq
     have ca := CAk.out w1 r cc q' d' HW1.out hcc hd' HS1.out.book HLq.out
     clear CAk CLk
     replace k0 := fun v (h : Below w1.heap.size w1 v) => k0 v (Below.more b1 h)
     replace k1 := fun v (h : Below w1.heap.size w1 v) => k1 v (Below.more b1 h)
     replace k2 := fun v (h : Below w1.heap.size w1 v) => k2 v (Below.more b1 h)
     replace k3 := fun v (h : Below w1.heap.size w1 v) => k3 v (Below.more b1 h)
     replace k4 := fun v (h : Below w1.heap.size w1 v) => k4 v (Below.more b1 h)
     replace k5 := fun v (h : Below w1.heap.size w1 v) => k5 v (Below.more b1 h)
     replace k6 := fun v (h : Below w1.heap.size w1 v) => k6 v (Below.more b1 h)
     replace k7 := fun v (h : Below w1.heap.size w1 v) => k7 v (Below.more b1 h)
     replace k8 := fun v (h : Below w1.heap.size w1 v) => k8 v (Below.more b1 h)
     replace k9 := fun v (h : Below w1.heap.size w1 v) => k9 v (Below.more b1 h)
     clear b1 b0
     go_wp2_with fail
     refine ca.mono ?_
     rintro e w2 ⟨⟨r', c', rfl, hc', hL', hN'⟩, b2⟩
     dsimp only at hc' hL' hN'
     have HL' := Lib.hid hL'; have HN' := Lib.hid hN'; have HB2 := Lib.hid b2
     have m0 := k0 _ b2
     have m1 := k1 _ b2
     have m2 := k2 _ b2
     have m3 := k3 _ b2
     have m4 := k4 _ b2
     have m5 := k5 _ b2
     have m6 := k6 _ b2
     have m7 := k7 _ b2
     have m8 := k8 _ b2
     have m9 := k9 _ b2
     clear k0 k1 k2 k3 k4 k5 k6 k7 k8 k9
     have HW2 := Lib.hid (HW1.out.trans (b2.mono (Below.size HW1.out)))
     clear hL' hN' ca b2
     have HS2 := Lib.hid (HS1.out.newBook HB2.out HL'.out HN'.out)
     have HNl := HNl
     clear HL' HN' HB2 HS1 HS0
     go_wp2_with (at_builtin; refine halt ?_)
     show wpList _ _ _ _ _ _
     refine wpList_append_G rfl _ _ 28 3 rfl Tryz.underlying28 numInfo rfl (by decide) (by decide) (fun _ => rfl) encN_one w.heap.size _ (N k) rfl (World.ownsRow.alloc HS2.out.own2 _) ⟨w2.heap.size, 0, none⟩ i 1 rfl (rowsOne w2 i 3 _ rfl) HNl.out (Below.size (Below.alloc HW2.out (Below.size HW2.out) _)) ?_
     intro v' w3 ho hg hloc
     have HS3 := Lib.hid (HS2.out.done ho ((World.grownBy_alloc w2 _ _).trans hg) (hloc.imp id fun h => ⟨_, h, by simp⟩))
     have HW3 := Lib.hid (Below.grown (Below.alloc HW2.out (Below.size HW2.out) _) hg (Below.size (Below.alloc HW2.out (Below.size HW2.out) _)) fun j hj => (World.ownsRow.lt HS2.out.own2 j hj).1)
     clear ho hg hloc
     go_frame
     go_wp2_with fail
     go_roundw
     case rel => exact ⟨k + 1, r', c', hlt, by go_num, (by rw [HB1.out]), (by rw [HB1.out]; exact hc'), (by rw [HB1.out, HF1.out, HN1.out]; exact HS3), HW3.out⟩
     case measure => simp [intOf]; omega
    ·obtain ⟨h1, h2, h3⟩ := hst.2 (fun h => hz h.2)
     have HB1 := Lib.hid h1; have HF1 := Lib.hid h2; have HN1 := Lib.hid h3
     clear h1 h2 h3 hst
     go_wp2_with fail
     refine (CLk.out wr).mono ?_
     rintro e w1 ⟨⟨q', d', rfl, hd', hLq⟩, b1⟩
     have HLq := Lib.hid hLq
     have HS1 := Lib.hid (HS0.out.below b1)
     have HW1 := Lib.hid (HW.out.trans (b1.mono (Below.size HW.out)))
     clear hLq
     have ca := CAk.out w1 r cc q' d' HW1.out hcc hd' HS1.out.book HLq.out
     clear CAk CLk
     replace k0 := fun v (h : Below w1.heap.size w1 v) => k0 v (Below.more b1 h)
     replace k1 := fun v (h : Below w1.heap.size w1 v) => k1 v (Below.more b1 h)
     replace k2 := fun v (h : Below w1.heap.size w1 v) => k2 v (Below.more b1 h)
     replace k3 := fun v (h : Below w1.heap.size w1 v) => k3 v (Below.more b1 h)
     replace k4 := fun v (h : Below w1.heap.size w1 v) => k4 v (Below.more b1 h)
     replace k5 := fun v (h : Below w1.heap.size w1 v) => k5 v (Below.more b1 h)
     replace k6 := fun v (h : Below w1.heap.size w1 v) => k6 v (Below.more b1 h)
     replace k7 := fun v (h : Below w1.heap.size w1 v) => k7 v (Below.more b1 h)
     replace k8 := fun v (h : Below w1.heap.size w1 v) => k8 v (Below.more b1 h)
     replace k9 := fun v (h : Below w1.heap.size w1 v) => k9 v (Below.more b1 h)
     clear b1 b0
     go_wp2_with fail
     refine ca.mono ?_
     rintro e w2 ⟨⟨r', c', rfl, hc', hL', hN'⟩, b2⟩
     dsimp only at hc' hL' hN'
     have HL' := Lib.hid hL'; have HN' := Lib.hid hN'; have HB2 := Lib.hid b2
     have m0 := k0 _ b2
     have m1 := k1 _ b2
     have m2 := k2 _ b2
     have m3 := k3 _ b2
     have m4 := k4 _ b2
     have m5 := k5 _ b2
     have m6 := k6 _ b2
     have m7 := k7 _ b2
     have m8 := k8 _ b2
     have m9 := k9 _ b2
     clear k0 k1 k2 k3 k4 k5 k6 k7 k8 k9
     have HW2 := Lib.hid (HW1.out.trans (b2.mono (Below.size HW1.out)))
     clear hL' hN' ca b2
     have HS2 := Lib.hid (HS1.out.below HB2.out)
     clear HL' HN' HB2 HS1 HS0
     go_wp2_with (at_builtin; refine halt ?_)
     show wpList _ _ _ _ _ _
     refine wpList_append_G rfl _ _ 24 37 rfl Tryz.underlying24 insInfo rfl (by decide) (by decide) (fun _ => rfl) encI_one w.heap.size _ (F k) rfl (World.ownsRow.alloc HS2.out.own1 _) ⟨w2.heap.size, 0, none⟩ (In.mk i g u f t a (qn, qd) (pn, pd)) 1 rfl (rowsOne w2 (In.mk i g u f t a (qn, qd) (pn, pd)) 37 _ rfl) HFl.out (Below.size (Below.alloc HW2.out (Below.size HW2.out) _)) ?_
     intro v' w3 ho hg hloc
     have HS3 := Lib.hid (HS2.out.rest ho ((World.grownBy_alloc w2 _ _).trans hg) (hloc.imp id fun h => ⟨_, h, by simp⟩))
     have HW3 := Lib.hid (Below.grown (Below.alloc HW2.out (Below.size HW2.out) _) hg (Below.size (Below.alloc HW2.out (Below.size HW2.out) _)) fun j hj => (World.ownsRow.lt HS2.out.own1 j hj).1)
     clear ho hg hloc
     go_frame
     go_wp2_with fail
     go_roundw
     case rel => exact ⟨k + 1, r, cc, hlt, by go_num, (by rw [HB1.out]), (by rw [HB1.out]; exact hcc), (by rw [HB1.out, HF1.out, HN1.out]; exact HS3), HW3.out⟩
     case measure => simp [intOf]; omega
   ·obtain ⟨h1, h2, h3⟩ := hst.2 (fun h => hdue h.1)
    have HB1 := Lib.hid h1; have HF1 := Lib.hid h2; have HN1 := Lib.hid h3
    clear h1 h2 h3 hst
    go_wp2_with fail
    refine (CLk.out wr).mono ?_
    rintro e w1 ⟨⟨q', d', rfl, hd', hLq⟩, b1⟩
    have HLq := Lib.hid hLq
    have HS1 := Lib.hid (HS0.out.below b1)
    have HW1 := Lib.hid (HW.out.trans (b1.mono (Below.size HW.out)))
    clear hLq
    have ca := CAk.out w1 r cc q' d' HW1.out hcc hd' HS1.out.book HLq.out
    clear CAk CLk
    replace k0 := fun v (h : Below w1.heap.size w1 v) => k0 v (Below.more b1 h)
    replace k1 := fun v (h : Below w1.heap.size w1 v) => k1 v (Below.more b1 h)
    replace k2 := fun v (h : Below w1.heap.size w1 v) => k2 v (Below.more b1 h)
    replace k3 := fun v (h : Below w1.heap.size w1 v) => k3 v (Below.more b1 h)
    replace k4 := fun v (h : Below w1.heap.size w1 v) => k4 v (Below.more b1 h)
    replace k5 := fun v (h : Below w1.heap.size w1 v) => k5 v (Below.more b1 h)
    replace k6 := fun v (h : Below w1.heap.size w1 v) => k6 v (Below.more b1 h)
    replace k7 := fun v (h : Below w1.heap.size w1 v) => k7 v (Below.more b1 h)
    replace k8 := fun v (h : Below w1.heap.size w1 v) => k8 v (Below.more b1 h)
    replace k9 := fun v (h : Below w1.heap.size w1 v) => k9 v (Below.more b1 h)
    clear b1 b0
    go_wp2_with fail
    refine ca.mono ?_
    rintro e w2 ⟨⟨r', c', rfl, hc', hL', hN'⟩, b2⟩
    dsimp only at hc' hL' hN'
    have HL' := Lib.hid hL'; have HN' := Lib.hid hN'; have HB2 := Lib.hid b2
    have m0 := k0 _ b2
    have m1 := k1 _ b2
    have m2 := k2 _ b2
    have m3 := k3 _ b2
    have m4 := k4 _ b2
    have m5 := k5 _ b2
    have m6 := k6 _ b2
    have m7 := k7 _ b2
    have m8 := k8 _ b2
    have m9 := k9 _ b2
    clear k0 k1 k2 k3 k4 k5 k6 k7 k8 k9
    have HW2 := Lib.hid (HW1.out.trans (b2.mono (Below.size HW1.out)))
    clear hL' hN' ca b2
    have HS2 := Lib.hid (HS1.out.below HB2.out)
    clear HL' HN' HB2 HS1 HS0
    go_wp2_with (at_builtin; refine halt ?_)
    show wpList _ _ _ _ _ _
    refine wpList_append_G rfl _ _ 24 37 rfl Tryz.underlying24 insInfo rfl (by decide) (by decide) (fun _ => rfl) encI_one w.heap.size _ (F k) rfl (World.ownsRow.alloc HS2.out.own1 _) ⟨w2.heap.size, 0, none⟩ (In.mk i g u f t a (qn, qd) (pn, pd)) 1 rfl (rowsOne w2 (In.mk i g u f t a (qn, qd) (pn, pd)) 37 _ rfl) HFl.out (Below.size (Below.alloc HW2.out (Below.size HW2.out) _)) ?_
    intro v' w3 ho hg hloc
    have HS3 := Lib.hid (HS2.out.rest ho ((World.grownBy_alloc w2 _ _).trans hg) (hloc.imp id fun h => ⟨_, h, by simp⟩))
    have HW3 := Lib.hid (Below.grown (Below.alloc HW2.out (Below.size HW2.out) _) hg (Below.size (Below.alloc HW2.out (Below.size HW2.out) _)) fun j hj => (World.ownsRow.lt HS2.out.own1 j hj).1)
    clear ho hg hloc
    go_frame
    go_wp2_with fail
    go_roundw
    case rel => exact ⟨k + 1, r, cc, hlt, by go_num, (by rw [HB1.out]), (by rw [HB1.out]; exact hcc), (by rw [HB1.out, HF1.out, HN1.out]; exact HS3), HW3.out⟩
    case measure => simp [intOf]; omega
  ·obtain rfl : k = l.length := by omega
   have HW := Lib.hid hw
   clear hw
   go_wp2_with fail
   refine bodyPost_ret (v := .tuple #[.slice r (B l.length).length cc, u10, u11, .int .i64 0]) (by simp [results, Tryz.results12, go_sem, *]) rfl ?_
   exact giveRun_st HS0.out hcc HW.out
theorem rest_len {ls : List Ln} {l : List In} {day : Int} (k : Nat) : (runTo ls l day k).rest.length ≤ l.length ∧ (runTo ls l day k).done.length ≤ l.length := by
 have key : ∀ (m : List In) (s : Rs), (m.foldl (stepI day) s).rest.length ≤ s.rest.length + m.length ∧ (m.foldl (stepI day) s).done.length ≤ s.done.length + m.length := by
  intro m
  induction m with
  | nil => intro s; exact ⟨Nat.le_refl _, Nat.le_refl _⟩
  | cons x r ih =>
   intro s
   obtain ⟨h1, h2⟩ := ih (stepI day s x)
   have e : (stepI day s x).rest.length ≤ s.rest.length + 1 ∧ (stepI day s x).done.length ≤ s.done.length + 1 := by
    unfold stepI
    split <;> simp
   rw [List.foldl_cons, List.length_cons]
   exact ⟨by omega, by omega⟩
 obtain ⟨h1, h2⟩ := key (l.take k) ⟨ls, [], []⟩
 have e := List.length_take_le k l
 have e2 : (l.take k).length ≤ l.length := by rw [List.length_take]; omega
 exact ⟨Nat.le_trans h1 (by simpa using e2), Nat.le_trans h2 (by simpa using e2)⟩
theorem step_is {ls : List Ln} {l : List In} {day : Int} {k : Nat} {x : In} (hx : l[k]? = some x) :
  ((x.due ≤ day ∧ (applyB (runTo ls l day k).book (linesI x) true).2 = 0) → (runTo ls l day (k + 1)).book = (applyB (runTo ls l day k).book (linesI x) true).1 ∧ (runTo ls l day (k + 1)).rest = (runTo ls l day k).rest ∧ (runTo ls l day (k + 1)).done = (runTo ls l day k).done ++ [x.id]) ∧
  (¬ (x.due ≤ day ∧ (applyB (runTo ls l day k).book (linesI x) true).2 = 0) → (runTo ls l day (k + 1)).book = (runTo ls l day k).book ∧ (runTo ls l day (k + 1)).rest = (runTo ls l day k).rest ++ [x] ∧ (runTo ls l day (k + 1)).done = (runTo ls l day k).done) := by
 rw [run_more hx]
 unfold stepI
 refine ⟨fun h => ?_, fun h => ?_⟩
 ·rw [if_pos (by rw [decide_eq_true h.1, h.2]; rfl)]
  exact ⟨rfl, rfl, rfl⟩
 ·rw [if_neg (by rw [Bool.and_eq_true, decide_eq_true_eq, beq_iff_eq]; exact h)]
  exact ⟨rfl, rfl, rfl⟩
theorem rirun_any (p : Option Addr) (c : Nat) (ls : List Ln) (q : Option Addr) (d : Nat) (l : List In) (day : Int) (w : World) {D M : Nat} (hc : ls.length ≤ c) (hd : l.length ≤ d) (hl : ls.length ≤ 1000) (hl2 : l.length ≤ 40) (hz : ∀ x ∈ ls, SzF x) (hzi : ∀ x ∈ l, SzI x) (z : Sized D (M * 2000)) (t : Good ls → ∀ key, Bd D M (hasQ ls key)) (hb : ∀ x ∈ l, oneB x = true → Bd D M (valR x.q) ∧ Bd D M (valR x.pay)) (hL : Lns w p ls) (hI : Ins w q l) :
  Calls Tryz.prog 12 #[.slice p ls.length c, .slice q l.length d, .int .i64 day] w (GiveRun w (runI ls l day)) := by
 have cm := fun V (hv : Below w.heap.size w V) => rbmay_any p c ls V hc (by omega) (fun x hx => (hz x hx).szL) (hL.below hv)
 have ci := fun V (hv : Below w.heap.size w V) => rimay_any q d l V (by omega) hzi (hI.below hv)
 unfold runI
 cases h1 : mayB ls with
 | false => rw [h1] at cm; exact rirun_a p c ls q d l day w (Lib.hid cm)
 | true =>
  rw [h1] at cm
  cases h2 : mayI l with
  | false => rw [h2] at ci; exact rirun_b p c ls q d l day w (Lib.hid cm) (Lib.hid ci)
  | true =>
   rw [h2] at ci
   have hg := good_iff.1 h1
   refine rirun_main p c ls q d l day w (fun k => (runTo ls l day k).book) (fun k => (runTo ls l day k).rest) (fun k => (runTo ls l day k).done) (fun k => match l[k]? with | some x => applyB (runTo ls l day k).book (linesI x) true | none => ([], 0)) rfl rfl rfl hc (by omega) hL hI
    (Lib.hid fun k => Nat.le_trans (rest_len k).1 (by omega)) (Lib.hid fun k => Nat.le_trans (rest_len k).2 (by omega)) (Lib.hid fun k x hx => ?_) (Lib.hid cm) (Lib.hid ci) (Lib.hid fun k x hx V => ?_) (Lib.hid fun k x hx V r cc q' d' hv h1 h2 hr hq => ?_)
   ·rw [hx]
    exact step_is hx
   ·obtain ⟨i, g, u, f, t, a, ⟨qn, qd⟩, ⟨pn, pd⟩⟩ := x
    exact rilines_any V (hzi _ (List.mem_of_getElem? hx))
   ·rw [hx]
    have hk := (List.getElem?_eq_some_iff.1 hx).1
    have ft := run_fits (day := day) z hg hl hl2 (t hg) hb k (Nat.le_of_lt hk) (List.mem_of_getElem? hx)
    have ln := lines_len x
    exact rpapplyF_any r cc _ q' d' (linesI x) true V h1 h2 ft.len (by omega) ft.book ft.lines ft.way hr hq
end Go.Proofs.YtagfndkfjbbpjaaGreatDoor

/- The document's words on names and lines: to plain functions. -/
import Derived.Laws.Cover1
import Derived.Test.YtdeinhkdphgfaaaGreatDoorRowsGM
import Derived.Test.YtdeinhkdphgfaaaGreatDoorPostNum
import Derived.Test.YtdeinhkdphgfaaaGreatDoorAllRefT5M
namespace Go.Proofs.YtdeinhkdphgfaaaGreatDoor
open Go.RowKit
set_option linter.unusedSimpArgs false
set_option linter.unusedVariables false
theorem okB_iff {i : Nat} {c : UInt8} : okB i c = true ↔ ((97 ≤ c.toNat ∧ c.toNat ≤ 122) ∨ (48 ≤ c.toNat ∧ c.toNat ≤ 57)) ∨ (c.toNat = 33 ∧ i = 0) := by
 unfold okB nameC
 simp only [Bool.or_eq_true, Bool.and_eq_true, decide_eq_true_eq]
theorem okB_no {i : Nat} {c : UInt8} (h : ¬ (((97 ≤ c.toNat ∧ c.toNat ≤ 122) ∨ (48 ≤ c.toNat ∧ c.toNat ≤ 57)) ∨ (c.toNat = 33 ∧ i = 0))) : okB i c = false := by
 cases e : okB i c with
 | false => rfl
 | true => exact absurd (okB_iff.1 e) h
theorem nm_more {s : ByteArray} {k : Nat} (hk : k < s.size) (h : nmFrom 0 (s.data.toList.take k) = true) (ho : okB k s[k] = true) : nmFrom 0 (s.data.toList.take (k + 1)) = true := by
 have hl : k < s.data.toList.length := by rw [size_toList]; exact hk
 rw [nm_step hl, h]
 exact ho
theorem nm_end {s : ByteArray} {k : Nat} (hk : k < s.size) (ho : okB k s[k] = false) : isName s.data.toList = false := nm_stop (by rw [size_toList]; exact hk) ho
set_option maxHeartbeats 1000000 in
theorem rbname_any (s : ByteArray) (w : World) (hs : s.size ≤ 4611686018427387904) :
  Calls Tryz.prog 76 #[.string s] w fun e w' => e = .returned (.bool (isName s.data.toList)) ∧ w = w' := by
 go_enter Tryz.func76, Tryz.ntmps76
 go_wp2
 go_loop [3] (fun i => ∃ k : Nat, k ≤ s.size ∧ i = .int .i64 k ∧ Hid (nmFrom 0 (s.data.toList.take k) = true)) (fun i => s.size - (intOf i).toNat)
 case atStart => exact ⟨0, Nat.zero_le _, rfl, rfl⟩
 case round =>
  obtain ⟨k, hk, rfl, HJ⟩ := hrel
  by_cases hlt : k < s.size
  ·by_cases a1 : (s[k].toNat : Int) < 97
   ·by_cases a2 : (s[k].toNat : Int) < 48
    ·by_cases a3 : (s[k].toNat : Int) = 33
     ·by_cases a4 : k = 0
      ·have f0 : ¬ (0 : Int) < (k : Int) := by omega
       have HO : Hid (okB k s[k] = true) := Lib.hid (okB_iff.2 (.inr ⟨by omega, a4⟩))
       clear a4
       go_wp2
       go_round
       case rel => exact ⟨k + 1, hlt, by go_num, nm_more hlt HJ.out HO.out⟩
       case measure => simp [intOf]; omega
      ·have f0 : (0 : Int) < (k : Int) := by omega
       have HO : Hid (isName s.data.toList = false) := Lib.hid (nm_end hlt (okB_no (by omega)))
       go_wp2
       go_ret
       exact ⟨ret_bool (by rw [HO.out]), rfl⟩
     ·have HO : Hid (isName s.data.toList = false) := Lib.hid (nm_end hlt (okB_no (by omega)))
      go_wp2
      go_ret
      exact ⟨ret_bool (by rw [HO.out]), rfl⟩
    ·by_cases a3 : 57 < (s[k].toNat : Int)
     ·have f0 : ¬ (s[k].toNat : Int) = 33 := by omega
      have HO : Hid (isName s.data.toList = false) := Lib.hid (nm_end hlt (okB_no (by omega)))
      go_wp2
      go_ret
      exact ⟨ret_bool (by rw [HO.out]), rfl⟩
     ·have HO : Hid (okB k s[k] = true) := Lib.hid (okB_iff.2 (.inl (.inr ⟨by omega, by omega⟩)))
      go_wp2
      go_round
      case rel => exact ⟨k + 1, hlt, by go_num, nm_more hlt HJ.out HO.out⟩
      case measure => simp [intOf]; omega
   ·by_cases a2 : 122 < (s[k].toNat : Int)
    ·have f0 : ¬ (s[k].toNat : Int) = 33 := by omega
     have f1 : ¬ (s[k].toNat : Int) < 48 := by omega
     have f2 : 57 < (s[k].toNat : Int) := by omega
     have HO : Hid (isName s.data.toList = false) := Lib.hid (nm_end hlt (okB_no (by omega)))
     go_wp2
     go_ret
     exact ⟨ret_bool (by rw [HO.out]), rfl⟩
    ·have HO : Hid (okB k s[k] = true) := Lib.hid (okB_iff.2 (.inl (.inl ⟨by omega, by omega⟩)))
     go_wp2
     go_round
     case rel => exact ⟨k + 1, hlt, by go_num, nm_more hlt HJ.out HO.out⟩
     case measure => simp [intOf]; omega
  ·obtain rfl : k = s.size := by omega
   have hr := nm_all (l := s.data.toList) (by rw [size_toList]; exact HJ.out)
   rw [size_toList] at hr
   have HR := Lib.hid hr; clear hr
   by_cases h1 : (1 : Int) ≤ (s.size : Int)
   ·by_cases h2 : (s.size : Int) ≤ 20
    ·have HD : Hid ((decide (1 ≤ s.size) && decide (s.size ≤ 20)) = true) := Lib.hid (by rw [decide_eq_true (by omega), decide_eq_true (by omega)]; rfl)
     go_wp2
     go_ret
     exact ⟨ret_bool (by rw [HR.out, HD.out]), rfl⟩
    ·have HD : Hid ((decide (1 ≤ s.size) && decide (s.size ≤ 20)) = false) := Lib.hid (by rw [decide_eq_false (show ¬ s.size ≤ 20 by omega), Bool.and_false])
     go_wp2
     go_ret
     exact ⟨ret_bool (by first | rw [HR.out, HD.out] | (rw [HR.out, HD.out]; exact decide_eq_false h2)), rfl⟩
   ·have HD : Hid ((decide (1 ≤ s.size) && decide (s.size ≤ 20)) = false) := Lib.hid (by rw [decide_eq_false (show ¬ 1 ≤ s.size by omega), Bool.false_and])
    go_wp2
    go_ret
    exact ⟨ret_bool (by rw [HR.out, HD.out]), rfl⟩
end Go.Proofs.YtdeinhkdphgfaaaGreatDoor
/- Rows of lines in memory; whether they are small. -/
namespace Go.Proofs.YtdeinhkdphgfaaaGreatDoor
open Go.RowKit
set_option linter.unusedSimpArgs false
set_option linter.unusedVariables false
theorem more {ls : List Ln} {P : Ln → Prop} {k : Nat} {z : Ln} (h : ∀ (j : Nat) (x : Ln), j < k → ls[j]? = some x → P x) (hz : ls[k]? = some z) (hp : P z) : ∀ (j : Nat) (x : Ln), j < k + 1 → ls[j]? = some x → P x := fun j x hj hx => by
 by_cases e : j = k
 ·subst e
  rw [hz] at hx
  exact Option.some.inj hx ▸ hp
 ·exact h j x (by omega) hx
end Go.Proofs.YtdeinhkdphgfaaaGreatDoor
/- The document's answers for terms: names of assets; whether a term is small. -/
namespace Go.Proofs.YtdeinhkdphgfaaaGreatDoor
open Go.RowKit
set_option linter.unusedSimpArgs false
set_option linter.unusedVariables false
open Tm (Nd astB)
theorem drop_at0 (s : ByteArray) (h : 0 < s.size) : s.data.toList = s[0] :: s.data.toList.drop 1 := by
 have hl : 0 < s.data.toList.length := by rw [size_toList]; exact h
 have := List.drop_eq_getElem_cons hl
 rw [List.drop_zero] at this
 exact this
theorem ast_no {l : List UInt8} (h : isName l = false) : astB l = false := by unfold Tm.astB; rw [h]; rfl
theorem ast_at {s : ByteArray} (h : isName s.data.toList = true) (h0 : 0 < s.size) : astB s.data.toList = (!decide ((s[0].toNat : Int) = 33) && (decide ((s[0].toNat : Int) < 48) || decide ((57 : Int) < (s[0].toNat : Int)))) := by
 have e : s.data.toList = s[0] :: s.data.toList.drop 1 := drop_at0 s h0
 unfold Tm.astB
 rw [h, Bool.true_and, e]
 dsimp only [List.head?_cons]
 congr 1
 ·congr 1
  by_cases k : s[0] = 33
  ·rw [k]; rfl
  ·have : ¬ (s[0].toNat : Int) = 33 := fun e => k (UInt8.toNat_inj.1 (by show s[0].toNat = 33; omega))
   rw [decide_eq_false this]
   simp [k]
 ·unfold isDig
  by_cases a : (s[0].toNat : Int) < 48
  ·rw [decide_eq_true a, decide_eq_false (show ¬ 48 ≤ s[0].toNat by omega)]; rfl
  ·rw [decide_eq_false a, decide_eq_true (show 48 ≤ s[0].toNat by omega)]
   by_cases b : (57 : Int) < (s[0].toNat : Int)
   ·rw [decide_eq_true b, decide_eq_false (show ¬ s[0].toNat ≤ 57 by omega)]; rfl
   ·rw [decide_eq_false b, decide_eq_true (show s[0].toNat ≤ 57 by omega)]; rfl
set_option maxRecDepth 100000 in
set_option maxHeartbeats 4000000 in
theorem rtasset_any (s : ByteArray) (w : World) (hs : s.size ≤ 4611686018427387904) : Calls Tryz.prog 56 #[.string s] w (GiveB w (astB s.data.toList)) := by
 have C := Lib.hid (calm (rbname_any s w hs))
 have b0 := Below.refl w.heap.size w
 cases hn : isName s.data.toList with
 | false =>
  rw [hn] at C
  have HA := Lib.hid (ast_no hn)
  clear hn
  go_enter Tryz.func56, Tryz.ntmps56
  go_wp2_with fail
  refine C.out.mono ?_
  rintro e w' ⟨rfl, b⟩
  have b1 := Below.more b0 b
  clear b
  go_wp2_with fail
  go_ret
  exact ⟨ret_bool (by rw [HA.out]), b1⟩
 | true =>
  rw [hn] at C
  have h0 : 0 < s.size := by
   have e := size_toList s
   have : s.data.toList ≠ [] := fun e => by rw [e] at hn; cases hn
   have := List.length_pos_iff.2 this
   omega
  have h0i : (0 : Int) < (s.size : Int) := by omega
  have HA0 := ast_at hn h0
  clear hn
  by_cases a : (s[0].toNat : Int) = 33
  ·have HA : Hid (astB s.data.toList = false) := Lib.hid (by rw [HA0, decide_eq_true a]; rfl)
   have q1 : ((s[0].toNat : Int) != 33) = false := by rw [bne_eq_false_iff_eq]; exact a
   clear HA0 a
   go_enter Tryz.func56, Tryz.ntmps56
   go_wp2_with fail
   refine C.out.mono ?_
   rintro e w' ⟨rfl, b⟩
   have b1 := Below.more b0 b
   clear b
   go_wp2_with fail
   go_ret
   exact ⟨ret_bool (by rw [HA.out]), b1⟩
  ·have q1 : ((s[0].toNat : Int) != 33) = true := by rw [bne_iff_ne]; exact a
   rw [decide_eq_false a] at HA0
   clear a
   by_cases k : (s[0].toNat : Int) < 48
   ·have HA : Hid (astB s.data.toList = true) := Lib.hid (by rw [HA0, decide_eq_true k]; rfl)
    have q2 : decide ((s[0].toNat : Int) < 48) = true := decide_eq_true k
    clear HA0
    go_enter Tryz.func56, Tryz.ntmps56
    go_wp2_with fail
    refine C.out.mono ?_
    rintro e w' ⟨rfl, b⟩
    have b1 := Below.more b0 b
    clear b
    go_wp2_with fail
    go_ret
    exact ⟨ret_bool (by rw [HA.out]), b1⟩
   ·have q2 : decide ((s[0].toNat : Int) < 48) = false := decide_eq_false k
    have HA : Hid (astB s.data.toList = decide ((57 : Int) < (s[0].toNat : Int))) := Lib.hid (by rw [HA0, decide_eq_false k]; rfl)
    clear HA0
    go_enter Tryz.func56, Tryz.ntmps56
    go_wp2_with fail
    refine C.out.mono ?_
    rintro e w' ⟨rfl, b⟩
    have b1 := Below.more b0 b
    clear b
    go_wp2_with fail
    go_ret
    exact ⟨ret_bool (by rw [HA.out]), b1⟩
def smallN (x : Nd) : Bool := (decide (x.num.1.length ≤ 100) && decide (x.num.2.length ≤ 100)) && decide (x.ast.length ≤ 100)
def smallT (t : List Nd) : Bool := t.all smallN && decide (t.length ≤ 200)
theorem small_no {t : List Nd} {k : Nat} {x : Nd} (h : t[k]? = some x) (hx : smallN x = false) : smallT t = false := by
 unfold smallT
 have : t.all smallN = false := by
  rw [List.all_eq_false]
  exact ⟨x, List.mem_of_getElem? h, by rw [hx]; decide⟩
 rw [this]; rfl
theorem small_end {t : List Nd} (h : ∀ (j : Nat) (x : Nd), j < t.length → t[j]? = some x → smallN x = true) : smallT t = decide (t.length ≤ 200) := by
 unfold smallT
 have : t.all smallN = true := List.all_eq_true.2 fun x hx => by
  obtain ⟨j, hj⟩ := List.getElem?_of_mem hx
  exact h j x (List.getElem?_eq_some_iff.1 hj).1 hj
 rw [this]; rfl
set_option maxRecDepth 100000 in
set_option maxHeartbeats 4000000 in
theorem rtsmall_any (p : Option Addr) (c : Nat) (t : List Nd) (w : World) (hl : t.length ≤ 4611686018427387904) (hT : Nds w p t) : Calls Tryz.prog 8 #[.slice p t.length c] w (GiveB w (smallT t)) := by
 have HT := Lib.hid hT
 clear hT
 go_enter Tryz.func8, Tryz.ntmps8
 go_wp2_with fail
 go_loopw [3] (fun iv wr => ∃ k : Nat, k ≤ t.length ∧ iv = .int .i64 k ∧ Hid (∀ (j : Nat) (x : Nd), j < k → t[j]? = some x → smallN x = true) ∧ Below w.heap.size w wr) (fun iv _ => t.length - (intOf iv).toNat)
 case atStart => exact ⟨0, Nat.zero_le _, rfl, Lib.hid fun j x h => absurd h (Nat.not_lt_zero j), Below.refl _ _⟩
 case round =>
  obtain ⟨k, hk, rfl, HJ, hw⟩ := hrel
  have HW := Lib.hid hw
  clear hw
  by_cases hlt : k < t.length
  ·have hki : (k : Int) < (t.length : Int) := by omega
   obtain ⟨⟨op, ⟨n, d⟩, s, a, bb⟩, hx⟩ : ∃ x, t[k]? = some x := ⟨_, List.getElem?_eq_getElem hlt⟩
   have HX := Lib.hid hx
   obtain ⟨b, o, rfl, k0, k1, k2, k3, k4, k5⟩ := nds_rule (HT.out.below HW.out) hx
   dsimp only at k0 k1 k2 k3 k4 k5
   clear hx k0 k4 k5
   have b0 := Below.refl wr.heap.size wr
   have cs := fun v => short1q v (⟨n.toArray⟩, ⟨d.toArray⟩)
   have es : shQ ((⟨n.toArray⟩ : ByteArray), (⟨d.toArray⟩ : ByteArray)) = (decide (n.length ≤ 100) && decide (d.length ≤ 100)) := by unfold shQ; rw [size_of, size_of]
   rw [es] at cs
   clear es
   cases hq : (decide (n.length ≤ 100) && decide (d.length ≤ 100)) with
   | false =>
    rw [hq] at cs
    have C := Lib.hid cs
    have HA := Lib.hid (small_no HX.out (show smallN (Nd.mk op (n, d) s a bb) = false by unfold smallN; dsimp only; rw [hq]; rfl))
    clear cs hq
    go_wp2_with fail
    refine (C.out _).mono ?_
    rintro e w' ⟨rfl, b⟩
    have b1 := Below.more b0 b
    clear b
    go_wp2_with fail
    go_ret
    exact ⟨ret_bool (by rw [HA.out]), Below.more HW.out b1⟩
   | true =>
    rw [hq] at cs
    have C := Lib.hid cs
    by_cases h100 : (100 : Int) < (s.length : Int)
    ·have HA := Lib.hid (small_no HX.out (show smallN (Nd.mk op (n, d) s a bb) = false by unfold smallN; dsimp only; rw [hq, decide_eq_false (show ¬ s.length ≤ 100 by omega)]; rfl))
     clear cs hq
     go_wp2_with fail
     refine (C.out _).mono ?_
     rintro e w' ⟨rfl, b⟩
     have b1 := Below.more b0 b
     clear b
     go_wp2_with fail
     go_ret
     exact ⟨ret_bool (by rw [HA.out]), Below.more HW.out b1⟩
    ·have HO : Hid (smallN (Nd.mk op (n, d) s a bb) = true) := Lib.hid (by unfold smallN; dsimp only; rw [hq, decide_eq_true (show s.length ≤ 100 by omega)]; rfl)
     clear cs hq
     go_wp2_with fail
     refine (C.out _).mono ?_
     rintro e w' ⟨rfl, b⟩
     have b1 := Below.more b0 b
     clear b
     go_wp2_with fail
     go_roundw
     case rel => exact ⟨k + 1, hlt, by go_num, Lib.hid fun j x hj hx => by
      by_cases e : j = k
      ·subst e
       obtain rfl := Option.some.inj (HX.out.symm.trans hx)
       exact HO.out
      ·exact HJ.out j x (by omega) hx, Below.more HW.out b1⟩
     case measure => simp [intOf]; omega
  ·obtain rfl : k = t.length := by omega
   have HA := Lib.hid (small_end HJ.out)
   go_wp2_with fail
   go_ret
   exact ⟨ret_bool (by rw [HA.out]; exact decide_eq_decide.2 (by omega)), HW.out⟩
end Go.Proofs.YtdeinhkdphgfaaaGreatDoor

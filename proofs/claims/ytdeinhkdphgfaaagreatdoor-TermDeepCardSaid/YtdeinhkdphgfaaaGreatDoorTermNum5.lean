/- Plain terms: what the laws lean on: terms joined and taken apart; a term that may be; one node; signs around a number; the fixed ones. Own work; no program text. -/
import Derived.Test.YtdeinhkdphgfaaaGreatDoorTermNum4M
namespace Go.Proofs.YtdeinhkdphgfaaaGreatDoor
set_option linter.unusedSimpArgs false
set_option linter.unusedVariables false
namespace Tm
theorem join3 {a b c : List Nd} (ha : formB a = true) (hb : formB b = true) (hc : formB c = true) (hl : a.length + b.length + c.length + 1 ≤ 2000) :
  formB (joinT 12 [a, b, c]) = true ∧ argsT (joinT 12 [a, b, c]) = [a, b, c] ∧ depthT (joinT 12 [a, b, c]) = max (depthT a) (max (depthT b) (depthT c)) + 1 := by
 obtain ⟨ta, wa, rfl, ea, _⟩ := form_tree ha
 obtain ⟨tb, wb, rfl, eb, _⟩ := form_tree hb
 obtain ⟨tc, wc, rfl, ec, _⟩ := form_tree hc
 have e : joinT 12 [ta.flat, tb.flat, tc.flat] = (Tr.t3 (plainN 12) ta tb tc).flat := by simp [joinT, Tr.flat]
 have w : (Tr.t3 (plainN 12) ta tb tc).wf := ⟨rfl, wa, wb, wc⟩
 have hlen : (Tr.t3 (plainN 12) ta tb tc).flat.length ≤ 2000 := by
  simp only [Tr.flat, List.length_append, List.length_cons, List.length_nil]
  omega
 have hf := form_flat w hlen
 rw [e, args_of hf (tree_flat w), depth_of hf (tree_flat w), depth_of ha ea, depth_of hb eb, depth_of hc ec]
 refine ⟨hf, rfl, ?_⟩
 show max (dp ta) (max (dp tb) (max (dp tc) 0)) + 1 = _
 rw [Nat.max_zero]
theorem args_len {t : List Nd} (h : formB t = true) : ∃ x, t[t.length - 1]? = some x ∧ arI x.op = ((argsT t).length : Int) ∧ (argsT t).flatten.length + 1 = t.length ∧ 1 ≤ t.length := by
 obtain ⟨tr, h1, h2, h3, h4, h5, _⟩ := form_stk h
 refine ⟨tr.top, top_at h4, ?_, ?_, h5⟩
 ·rw [args_of h h2, List.length_map]
  unfold arI
  rw [(wf_top h3).1]
 ·rw [args_of h h2]
  exact kids_fl h4
theorem depth_le (t : List Nd) : depthT t ≤ t.length := by
 cases h : formB t with
 | false => rw [depth_no h]; exact Nat.zero_le _
 | true =>
  obtain ⟨tr, h1, h2, h3, h4, h5, _⟩ := form_stk h
  rw [depth_of h h2, ← h4]
  exact dp_le tr
theorem args_short (t : List Nd) : (argsT t).length ≤ 3 := by
 cases h : formB t with
 | false => rw [args_no h]; exact Nat.zero_le _
 | true =>
  obtain ⟨tr, h1, h2, h3, h4, h5, _⟩ := form_stk h
  rw [args_of h h2, List.length_map]
  exact arN_le (wf_top h3).1
theorem args_le (t : List Nd) : ∀ u ∈ argsT t, u.length ≤ t.length := fun u hu => by
 cases h : formB t with
 | false => rw [args_no h] at hu; cases hu
 | true =>
  obtain ⟨_, _, _, h2, _⟩ := args_len h
  have h3 : u.length ≤ (argsT t).flatten.length := by
   obtain ⟨i, hi⟩ := List.getElem?_of_mem hu
   have e := List.take_append_drop i (argsT t)
   have e2 : (argsT t).drop i = u :: (argsT t).drop (i + 1) := by
    obtain ⟨hl, rfl⟩ := List.getElem?_eq_some_iff.1 hi
    exact List.drop_eq_getElem_cons hl
   rw [e2] at e
   rw [← e, List.flatten_append, List.flatten_cons, List.length_append, List.length_append]
   omega
  omega
theorem join_len (op : Int) (l : List (List Nd)) : (joinT op l).length = l.flatten.length + 1 := by unfold joinT; rw [List.length_append]; rfl
theorem print_ne {t : List Nd} (h : printT t ≠ []) : ∃ tr : Tr, treeOf t = some tr ∧ tr.wf ∧ tr.flat = t ∧ okT tr ∧ printT t = pr tr := by
 have hf : formB t = true := by
  cases e : formB t with
  | true => rfl
  | false => exact absurd (print_form e) h
 obtain ⟨tr, h1, h2, h3, h4⟩ := form_tree hf
 have ho : ∀ x ∈ t, okN x = true := fun x hx => by
  cases e : okN x with
  | true => rfl
  | false =>
   obtain ⟨i, hi⟩ := List.getElem?_of_mem hx
   exact absurd (print_bad hi e) h
 exact ⟨tr, h3, h1, h2, fun x hx => ho x (h2 ▸ hx), print_yes hf h3 ho⟩
theorem print_inj {a b : List Nd} (ha : printT a ≠ []) (hb : printT b ≠ []) : printT a = printT b ↔ a = b := by
 refine ⟨fun h => ?_, fun h => by rw [h]⟩
 obtain ⟨ta, _, wa, fa, oa, pa⟩ := print_ne ha
 obtain ⟨tb, _, wb, fb, ob, pb⟩ := print_ne hb
 rw [pa, pb] at h
 have k := (pr_inj ta tb [] [] wa wb oa ob rfl rfl (by rw [List.append_nil, List.append_nil]; exact h)).1
 rw [← fa, ← fb, k]
theorem check_iff (t : List Nd) : decide (checkT t = 0) = (!decide (printT t = []) && (decide ((printT t).length ≤ 20000) && decide (depthT t ≤ 150))) := by
 unfold checkT
 by_cases h1 : printT t = []
 ·rw [if_pos (.inl h1), decide_eq_true h1]; rfl
 by_cases h2 : 20000 < (printT t).length
 ·rw [if_pos (.inr (.inl h2)), decide_eq_false h1, decide_eq_false (show ¬ (printT t).length ≤ 20000 by omega)]; rfl
 by_cases h3 : 150 < depthT t
 ·rw [if_pos (.inr (.inr h3)), decide_eq_false (show ¬ depthT t ≤ 150 by omega), Bool.and_false, Bool.and_false]; rfl
 ·rw [if_neg (by rintro (h | h | h) <;> contradiction), decide_eq_false h1, decide_eq_true (show (printT t).length ≤ 20000 by omega), decide_eq_true (show depthT t ≤ 150 by omega)]; rfl
theorem check_two (t : List Nd) : checkT t = 0 ∨ checkT t = 100 := by
 unfold checkT
 split
 ·exact .inr rfl
 ·exact .inl rfl
theorem one_tree (x : Nd) : treeOf [x] = if arN x.op = some 0 then some (.t0 x) else none := by
 unfold treeOf
 show (match (stepS mkT x []).bind some with | some [tr] => some tr | _ => none) = _
 unfold stepS
 cases h : arN x.op with
 | none => rfl
 | some k =>
  dsimp only
  by_cases hk : k = 0
  ·subst hk; rfl
  ·rw [if_neg (by simp only [List.length_nil]; omega), if_neg (by intro e; exact hk (Option.some.inj e))]; rfl
theorem one_form (x : Nd) : formB [x] = decide (arN x.op = some 0) := by
 unfold formB
 rw [one_tree]
 by_cases h : arN x.op = some 0
 ·rw [if_pos h, decide_eq_true h]; rfl
 ·rw [if_neg h, decide_eq_false h]; rfl
theorem leaf_ne {x : Nd} (h : okN x = true) (h0 : arN x.op = some 0) : leafP x ≠ [] := by
 obtain ⟨c, r, e, _⟩ := leaf_head h h0
 rw [e]
 exact fun k => by cases k
theorem one_check (x : Nd) : decide (checkT [x] = 0) = (decide (arN x.op = some 0) && okN x) := by
 by_cases h : arN x.op = some 0
 ·have hf : formB [x] = true := by rw [one_form]; exact decide_eq_true h
  have ht : treeOf [x] = some (.t0 x) := by rw [one_tree, if_pos h]
  rw [decide_eq_true h, Bool.true_and]
  cases ho : okN x with
  | true =>
   have hp : printT [x] = leafP x := (print_yes hf ht (fun y hy => by rw [List.mem_singleton.1 hy]; exact ho)).trans (pr0 x)
   have hd : depthT [x] = 1 := depth_of hf ht
   have hl := leaf_len ho h
   rw [check_iff, hp, hd, decide_eq_false (leaf_ne ho h), decide_eq_true (show (leafP x).length ≤ 20000 by omega)]; rfl
  | false =>
   have hp : printT [x] = [] := print_bad (i := 0) rfl ho
   rw [check_iff, hp]; rfl
 ·have hf : formB [x] = false := by rw [one_form]; exact decide_eq_false h
  rw [check_iff, print_form hf, decide_eq_false h]; rfl
def nodeX (op a b : Int) : Nd := Nd.mk op ([], []) [120] a b
def nodeY (op a b : Int) : Nd := Nd.mk op ([49], [49]) [120] a b
def goodAB (op a b : Int) : Bool := (decide (2 ≤ op) && (decide (op ≤ 4) && (decide (0 ≤ a) && (decide (b ≤ 9999) && (decide (a ≤ b) && decide (b - a ≤ 59)))))) || (decide (op = 1) && (decide (0 ≤ a) && (decide (a ≤ 9999) && decide (b = 0))))
theorem ar_zero (op : Int) : arN op = some 0 ↔ 0 ≤ op ∧ op ≤ 4 := by
 refine ⟨fun h => by rcases ops0 h with e | e | e | e | e <;> omega, fun h => ?_⟩
 unfold arN
 rw [if_neg (by omega), if_pos h.2]
theorem nodeX_ok (op a b : Int) : (decide (arN op = some 0) && okN (nodeX op a b)) = goodAB op a b := by
 rw [show decide (arN op = some 0) = decide (0 ≤ op ∧ op ≤ 4) from decide_eq_decide.2 (ar_zero op)]
 have hx : astB [120] = true := by decide
 have h0 : isR ([], []) = false := by decide
 unfold goodAB okN nodeX
 dsimp only
 by_cases e0 : op = 0
 ·subst e0
  rw [if_pos rfl]
  simp
 rw [if_neg e0]
 by_cases e1 : op = 1
 ·subst e1
  rw [if_pos rfl, hx]
  by_cases c1 : b = 0 <;> simp [c1]
 rw [if_neg e1]
 by_cases e2 : 2 ≤ op ∧ op ≤ 4
 ·rw [if_pos e2, hx, decide_eq_true (show 0 ≤ op ∧ op ≤ 4 from ⟨by omega, e2.2⟩), decide_eq_true e2.1, decide_eq_true e2.2, decide_eq_false e1]
  have : decide (b - a < 60) = decide (b - a ≤ 59) := decide_eq_decide.2 (by omega)
  rw [this]
  simp
 ·rw [if_neg e2]
  have k1 : (decide (2 ≤ op) && decide (op ≤ 4)) = false := by
   by_cases c : 2 ≤ op
   ·rw [decide_eq_false (show ¬ op ≤ 4 by omega), Bool.and_false]
   ·rw [decide_eq_false c]; rfl
  have k2 : ([120] == ([] : List UInt8)) = false := by decide
  rw [← Bool.and_assoc (decide (2 ≤ op)) (decide (op ≤ 4)), k1, decide_eq_false e1, k2]
  simp
theorem goodAB_iff (op a b : Int) : goodAB op a b = decide ((2 ≤ op ∧ op ≤ 4 ∧ 0 ≤ a ∧ b ≤ 9999 ∧ a ≤ b ∧ b - a ≤ 59) ∨ (op = 1 ∧ 0 ≤ a ∧ a ≤ 9999 ∧ b = 0)) := by
 unfold goodAB
 simp only [Bool.decide_or, Bool.decide_and]
theorem nodeX_check {op a b : Int} (h : (2 ≤ op ∧ op ≤ 4 ∧ 0 ≤ a ∧ b ≤ 9999 ∧ a ≤ b ∧ b - a ≤ 59) ∨ (op = 1 ∧ 0 ≤ a ∧ a ≤ 9999 ∧ b = 0)) : checkT [nodeX op a b] = 0 := by
 have k := one_check (nodeX op a b)
 rw [show (nodeX op a b).op = op from rfl, nodeX_ok, goodAB_iff, decide_eq_true h] at k
 exact of_decide_eq_true k
theorem nodeX_none {op a b : Int} (h : ¬ ((2 ≤ op ∧ op ≤ 4 ∧ 0 ≤ a ∧ b ≤ 9999 ∧ a ≤ b ∧ b - a ≤ 59) ∨ (op = 1 ∧ 0 ≤ a ∧ a ≤ 9999 ∧ b = 0))) : checkT [nodeX op a b] = 100 := by
 have k := one_check (nodeX op a b)
 rw [show (nodeX op a b).op = op from rfl, nodeX_ok, goodAB_iff, decide_eq_false h] at k
 exact (check_two _).resolve_left (of_decide_eq_false k)
theorem nodeY_ok (op a b : Int) : (decide (arN op = some 0) && okN (nodeY op a b)) = false := by
 rw [show decide (arN op = some 0) = decide (0 ≤ op ∧ op ≤ 4) from decide_eq_decide.2 (ar_zero op)]
 have k1 : ((([49], [49]) : Key) == ([], [])) = false := by decide
 have k2 : ([120] == ([] : List UInt8)) = false := by decide
 unfold okN nodeY
 dsimp only
 by_cases e0 : op = 0
 ·subst e0
  rw [if_pos rfl, k2]
  simp
 rw [if_neg e0]
 by_cases e1 : op = 1
 ·rw [if_pos e1, k1]; simp
 rw [if_neg e1]
 by_cases e2 : 2 ≤ op ∧ op ≤ 4
 ·rw [if_pos e2, k1]; simp
 ·rw [if_neg e2, k1]; simp
theorem nodeY_none (op a b : Int) : checkT [nodeY op a b] = 100 := by
 have k := one_check (nodeY op a b)
 rw [show (nodeY op a b).op = op from rfl, nodeY_ok] at k
 exact (check_two _).resolve_left (of_decide_eq_false k)
def negT (x : Nd) : Nat → Tr
 | 0 => .t0 x
 | n + 1 => .t1 (plainN 5) (negT x n)
theorem neg_wf {x : Nd} (h : arN x.op = some 0) : ∀ n, (negT x n).wf
 | 0 => h
 | n + 1 => ⟨rfl, neg_wf h n⟩
theorem neg_ok {x : Nd} (h : okN x = true) : ∀ n, okT (negT x n)
 | 0 => fun y hy => by
  have hy : y ∈ [x] := hy
  rw [List.mem_singleton.1 hy]; exact h
 | n + 1 => fun y hy => by
  have hy : y ∈ (negT x n).flat ++ [plainN 5] := hy
  rcases List.mem_append.1 hy with k | k
  ·exact neg_ok h n y k
  ·rw [List.mem_singleton.1 k]; decide
theorem neg_len (x : Nd) : ∀ n, (negT x n).flat.length = n + 1
 | 0 => rfl
 | n + 1 => by
  show ((negT x n).flat ++ [plainN 5]).length = _
  rw [List.length_append, neg_len x n]; rfl
theorem neg_dp (x : Nd) : ∀ n, dp (negT x n) = n + 1
 | 0 => rfl
 | n + 1 => by
  show max (dp (negT x n)) 0 + 1 = _
  rw [neg_dp x n, Nat.max_zero]
theorem neg_pr (x : Nd) : ∀ n, (pr (negT x n)).length = (leafP x).length + 3 * n
 | 0 => rfl
 | n + 1 => by
  show (pr (.t1 (plainN 5) (negT x n))).length = _
  rw [pr1 rfl]
  simp only [List.length_cons, List.length_append, List.length_nil]
  rw [neg_pr x n]
  omega
theorem neg_next (x : Nd) (n : Nat) : joinT 5 [(negT x n).flat] = (negT x (n + 1)).flat := by
 show [(negT x n).flat].flatten ++ [plainN 5] = (negT x n).flat ++ [plainN 5]
 rw [List.flatten_cons, List.flatten_nil, List.append_nil]
def sevN : Nd := Nd.mk 0 ([55], [49]) [] 0 0
theorem deep_all (n : Nat) (hn : n ≤ 200) : depthT (negT sevN n).flat = n + 1 ∧ decide (checkT (negT sevN n).flat = 0) = decide (n + 1 ≤ 150) ∧ (printT (negT sevN n).flat).length = 1 + 3 * n := by
 have ho : okN sevN = true := by decide +kernel
 have hw := neg_wf (x := sevN) rfl n
 have hl := neg_len sevN n
 have hf := form_flat hw (by omega)
 have ht := tree_flat hw
 have hk : ∀ y ∈ (negT sevN n).flat, okN y = true := neg_ok ho n
 have hp := print_yes hf ht hk
 have hs : leafP sevN = [55] := by decide +kernel
 have hpl := neg_pr sevN n
 rw [hs] at hpl
 have hd : depthT (negT sevN n).flat = n + 1 := (depth_of hf ht).trans (neg_dp sevN n)
 have hpl : (pr (negT sevN n)).length = 1 + 3 * n := hpl
 have hne : pr (negT sevN n) ≠ [] := fun e => by rw [e] at hpl; simp at hpl; omega
 refine ⟨hd, ?_, by rw [hp, hpl]⟩
 rw [check_iff, hp, hd, decide_eq_false hne, hpl, decide_eq_true (show 1 + 3 * n ≤ 20000 by omega)]
 rfl
def pxN : Nd := Nd.mk 1 ([], []) [120] 5 0
def nmN : Nd := Nd.mk 0 ([51], [50]) [] 0 0
def thN : Nd := Nd.mk 0 ([45, 49], [51]) [] 0 0
def avN : Nd := Nd.mk 2 ([], []) [120] 1 3
def loN : Nd := Nd.mk 4 ([], []) [120] 0 60
def someT : List Nd := [pxN, nmN, plainN 7]
def bothT : List Nd := [pxN, nmN, plainN 7, thN, plainN 10]
theorem some_print : printT someT = [40, 112, 120, 40, 120, 44, 32, 53, 41, 32, 45, 32, 49, 46, 53, 41] := by decide +kernel
theorem both_join : joinT 10 [someT, [thN]] = bothT := rfl
theorem both_print : printT bothT = [109, 97, 120, 40, 40, 112, 120, 40, 120, 44, 32, 53, 41, 32, 45, 32, 49, 46, 53, 41, 44, 32, 110, 117, 109, 40, 45, 49, 44, 32, 51, 41, 41] := by decide +kernel
theorem both_check : checkT bothT = 0 := by decide +kernel
theorem both_depth : depthT bothT = 3 := by decide +kernel
theorem both_args : argsT bothT = [someT, [thN]] := rfl
theorem none_check : checkT [] = 100 := by decide +kernel
theorem part_check : checkT [pxN, nmN] = 100 := by decide +kernel
theorem av_print : printT [avN] = [97, 118, 103, 40, 120, 44, 32, 49, 44, 32, 51, 41] := by decide +kernel
theorem lo_check : checkT [loN] = 100 := by decide +kernel
end Tm
end Go.Proofs.YtdeinhkdphgfaaaGreatDoor

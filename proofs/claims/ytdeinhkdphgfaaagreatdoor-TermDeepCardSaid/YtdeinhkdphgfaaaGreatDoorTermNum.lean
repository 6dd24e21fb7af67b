/- Plain terms: nodes, trees, what is reckoned on a stack; prints, and that unlike terms have unlike ones. Own work; no program text. -/
import Derived.Test.YtdeinhkdphgfaaaGreatDoorDecNum2M
import Derived.Test.YtdeinhkdphgfaaaGreatDoorPostNum
namespace Go.Proofs.YtdeinhkdphgfaaaGreatDoor
set_option linter.unusedSimpArgs false
set_option linter.unusedVariables false
namespace Tm
structure Nd where
 op : Int
 num : Key
 ast : List UInt8
 a : Int
 b : Int
def arN (op : Int) : Option Nat := if op < 0 ∨ 12 < op then none else if op ≤ 4 then some 0 else if op = 5 then some 1 else if op ≤ 11 then some 2 else some 3
def arI (op : Int) : Int := match arN op with | some k => (k : Int) | none => -1
theorem arN_le {op : Int} {k : Nat} (h : arN op = some k) : k ≤ 3 := by
 unfold arN at h
 split at h
 ·cases h
 ·split at h
  ·cases h; decide
  ·split at h
   ·cases h; decide
   ·split at h <;> cases h <;> decide
inductive Tr where
 | t0 (x : Nd)
 | t1 (x : Nd) (a : Tr)
 | t2 (x : Nd) (a b : Tr)
 | t3 (x : Nd) (a b c : Tr)
namespace Tr
def flat : Tr → List Nd
 | t0 x => [x]
 | t1 x a => a.flat ++ [x]
 | t2 x a b => a.flat ++ (b.flat ++ [x])
 | t3 x a b c => a.flat ++ (b.flat ++ (c.flat ++ [x]))
def wf : Tr → Prop
 | t0 x => arN x.op = some 0
 | t1 x a => arN x.op = some 1 ∧ a.wf
 | t2 x a b => arN x.op = some 2 ∧ a.wf ∧ b.wf
 | t3 x a b c => arN x.op = some 3 ∧ a.wf ∧ b.wf ∧ c.wf
def fold {α : Type} (f : Nd → List α → α) : Tr → α
 | t0 x => f x []
 | t1 x a => f x [a.fold f]
 | t2 x a b => f x [a.fold f, b.fold f]
 | t3 x a b c => f x [a.fold f, b.fold f, c.fold f]
def top : Tr → Nd
 | t0 x => x
 | t1 x _ => x
 | t2 x _ _ => x
 | t3 x _ _ _ => x
def kids : Tr → List Tr
 | t0 _ => []
 | t1 _ a => [a]
 | t2 _ a b => [a, b]
 | t3 _ a b c => [a, b, c]
end Tr
def mkT (x : Nd) : List Tr → Tr
 | [] => .t0 x
 | [a] => .t1 x a
 | [a, b] => .t2 x a b
 | a :: b :: c :: _ => .t3 x a b c
theorem mkT_kids : ∀ t : Tr, mkT t.top t.kids = t
 | .t0 _ => rfl
 | .t1 _ _ => rfl
 | .t2 _ _ _ => rfl
 | .t3 _ _ _ _ => rfl
theorem fold_top {α : Type} (f : Nd → List α → α) : ∀ t : Tr, t.fold f = f t.top (t.kids.map (Tr.fold f))
 | .t0 _ => rfl
 | .t1 _ _ => rfl
 | .t2 _ _ _ => rfl
 | .t3 _ _ _ _ => rfl
theorem flat_top : ∀ t : Tr, t.flat = (t.kids.map Tr.flat).flatten ++ [t.top]
 | .t0 _ => rfl
 | .t1 x a => by simp [Tr.flat, Tr.kids, Tr.top]
 | .t2 x a b => by simp [Tr.flat, Tr.kids, Tr.top]
 | .t3 x a b c => by simp [Tr.flat, Tr.kids, Tr.top]
theorem wf_top : ∀ {t : Tr}, t.wf → arN t.top.op = some t.kids.length ∧ ∀ s ∈ t.kids, s.wf
 | .t0 _, h => ⟨h, fun _ k => by cases k⟩
 | .t1 _ _, h => ⟨h.1, fun s k => by simp only [Tr.kids, List.mem_cons, List.not_mem_nil, or_false] at k; subst k; exact h.2⟩
 | .t2 _ _ _, h => ⟨h.1, fun s k => by simp only [Tr.kids, List.mem_cons, List.not_mem_nil, or_false] at k; rcases k with rfl | rfl; exact h.2.1; exact h.2.2⟩
 | .t3 _ _ _ _, h => ⟨h.1, fun s k => by simp only [Tr.kids, List.mem_cons, List.not_mem_nil, or_false] at k; rcases k with rfl | rfl | rfl; exact h.2.1; exact h.2.2.1; exact h.2.2.2⟩
theorem flat_ne (t : Tr) : t.flat ≠ [] := by rw [flat_top]; simp
theorem flat_last (t : Tr) : t.flat.getLast? = some t.top := by rw [flat_top, List.getLast?_append]; rfl
section
variable {α : Type} (f : Nd → List α → α)
def stepS (x : Nd) (st : List α) : Option (List α) :=
 match arN x.op with
 | none => none
 | some k => if k ≤ st.length then some (st.take (st.length - k) ++ [f x (st.drop (st.length - k))]) else none
def runS : List Nd → List α → Option (List α)
 | [], st => some st
 | x :: r, st => (stepS f x st).bind (runS r)
theorem run_append : ∀ (s t : List Nd) (st : List α), runS f (s ++ t) st = (runS f s st).bind (runS f t)
 | [], _, _ => rfl
 | x :: s, t, st => by
  show (stepS f x st).bind (runS f (s ++ t)) = ((stepS f x st).bind (runS f s)).bind (runS f t)
  cases h : stepS f x st with
  | none => rfl
  | some st' => exact run_append s t st'
theorem run_snoc (t : List Nd) (x : Nd) (st : List α) : runS f (t ++ [x]) st = (runS f t st).bind (stepS f x) := by
 rw [run_append]
 congr 1
 funext st'
 show (stepS f x st').bind some = _
 cases stepS f x st' <;> rfl
theorem step_some {x : Nd} {k : Nat} (h : arN x.op = some k) (st l : List α) (hl : l.length = k) : stepS f x (st ++ l) = some (st ++ [f x l]) := by
 unfold stepS
 rw [h]
 dsimp only
 rw [if_pos (by rw [List.length_append]; omega), List.length_append, hl, Nat.add_sub_cancel, List.take_left, List.drop_left]
theorem step_inv {x : Nd} {st st' : List α} (h : stepS f x st = some st') : ∃ k s l, arN x.op = some k ∧ st = s ++ l ∧ l.length = k ∧ st' = s ++ [f x l] := by
 unfold stepS at h
 split at h
 ·cases h
 ·next k hk =>
  split at h
  ·next hle =>
   refine ⟨k, _, _, hk, (List.take_append_drop _ _).symm, by rw [List.length_drop]; omega, (Option.some.inj h).symm⟩
  ·cases h
theorem run_flat : ∀ (t : Tr) (st : List α), t.wf → runS f t.flat st = some (st ++ [t.fold f])
 | .t0 x, st, h => by
  show (stepS f x st).bind some = _
  have k := step_some f h st [] rfl
  rw [List.append_nil] at k
  rw [k]; rfl
 | .t1 x a, st, h => by
  show runS f (a.flat ++ [x]) st = _
  rw [run_snoc, run_flat a st h.2]
  exact step_some f h.1 st [_] rfl
 | .t2 x a b, st, h => by
  show runS f (a.flat ++ (b.flat ++ [x])) st = _
  rw [run_append, run_flat a st h.2.1]
  show runS f (b.flat ++ [x]) (st ++ [a.fold f]) = _
  rw [run_snoc, run_flat b _ h.2.2, List.append_assoc]
  exact step_some f h.1 st [_, _] rfl
 | .t3 x a b c, st, h => by
  show runS f (a.flat ++ (b.flat ++ (c.flat ++ [x]))) st = _
  rw [run_append, run_flat a st h.2.1]
  show runS f (b.flat ++ (c.flat ++ [x])) (st ++ [a.fold f]) = _
  rw [run_append, run_flat b _ h.2.2.1]
  show runS f (c.flat ++ [x]) (st ++ [a.fold f] ++ [b.fold f]) = _
  rw [run_snoc, run_flat c _ h.2.2.2, List.append_assoc, List.append_assoc]
  exact step_some f h.1 st [_, _, _] rfl
theorem fold_mk {x : Nd} : ∀ {l : List Tr}, l.length ≤ 3 → (mkT x l).fold f = f x (l.map (Tr.fold f))
 | [], _ => rfl
 | [_], _ => rfl
 | [_, _], _ => rfl
 | [_, _, _], _ => rfl
 | _ :: _ :: _ :: _ :: _, h => by simp only [List.length_cons] at h; omega
theorem step_hom (x : Nd) (st : List Tr) : stepS f x (st.map (Tr.fold f)) = (stepS mkT x st).map (List.map (Tr.fold f)) := by
 unfold stepS
 split
 ·rfl
 ·next k hk =>
  rw [List.length_map]
  split
  ·rw [Option.map_some, List.map_append, List.map_take, List.map_singleton, fold_mk f (by rw [List.length_drop]; have := arN_le hk; omega), List.map_drop]
  ·rfl
theorem run_hom : ∀ (t : List Nd) (st : List Tr), runS f t (st.map (Tr.fold f)) = (runS mkT t st).map (List.map (Tr.fold f))
 | [], _ => rfl
 | x :: r, st => by
  show (stepS f x (st.map (Tr.fold f))).bind (runS f r) = ((stepS mkT x st).bind (runS mkT r)).map _
  rw [step_hom]
  cases stepS mkT x st with
  | none => rfl
  | some st' => exact run_hom r st'
end
theorem flat_mk {x : Nd} : ∀ {l : List Tr}, l.length ≤ 3 → (mkT x l).flat = (l.map Tr.flat).flatten ++ [x]
 | [], _ => rfl
 | [_], _ => by simp [mkT, Tr.flat]
 | [_, _], _ => by simp [mkT, Tr.flat]
 | [_, _, _], _ => by simp [mkT, Tr.flat]
 | _ :: _ :: _ :: _ :: _, h => by simp only [List.length_cons] at h; omega
theorem wf_mk {x : Nd} : ∀ {l : List Tr}, arN x.op = some l.length → (∀ s ∈ l, s.wf) → (mkT x l).wf
 | [], h, _ => h
 | [_], h, k => ⟨h, k _ (by simp)⟩
 | [_, _], h, k => ⟨h, k _ (by simp), k _ (by simp)⟩
 | [_, _, _], h, k => ⟨h, k _ (by simp), k _ (by simp), k _ (by simp)⟩
 | _ :: _ :: _ :: _ :: _, h, _ => by have := arN_le h; simp only [List.length_cons] at this; omega
theorem run_inv : ∀ (t : List Nd) (st st' : List Tr), runS mkT t st = some st' → (∀ s ∈ st, s.wf) → (∀ s ∈ st', s.wf) ∧ (st'.map Tr.flat).flatten = (st.map Tr.flat).flatten ++ t
 | [], st, st', h, hw => by cases h; exact ⟨hw, by rw [List.append_nil]⟩
 | x :: r, st, st', h, hw => by
  have h : (stepS mkT x st).bind (runS mkT r) = some st' := h
  cases e : stepS mkT x st with
  | none => rw [e] at h; cases h
  | some s1 =>
   rw [e] at h
   obtain ⟨k, s, l, hk, rfl, hl, rfl⟩ := step_inv mkT e
   have hl3 : l.length ≤ 3 := by have := arN_le hk; omega
   have hw1 : ∀ u ∈ s ++ [mkT x l], u.wf := fun u hu => by
    rcases List.mem_append.1 hu with hu | hu
    ·exact hw u (List.mem_append_left _ hu)
    ·rw [List.mem_singleton.1 hu]
     exact wf_mk (by rw [hl]; exact hk) fun v hv => hw v (List.mem_append_right _ hv)
   obtain ⟨a, b⟩ := run_inv r _ st' h hw1
   refine ⟨a, b.trans ?_⟩
   rw [List.map_append, List.flatten_append, List.map_singleton, flat_mk hl3, List.map_append, List.flatten_append]
   simp
def treeOf (t : List Nd) : Option Tr := match runS mkT t [] with | some [tr] => some tr | _ => none
theorem fold_self (t : Tr) : t.fold mkT = t := by
 induction t with
 | t0 x => rfl
 | t1 x a ha => simp [Tr.fold, mkT, ha]
 | t2 x a b ha hb => simp [Tr.fold, mkT, ha, hb]
 | t3 x a b c ha hb hc => simp [Tr.fold, mkT, ha, hb, hc]
theorem tree_flat {tr : Tr} (h : tr.wf) : treeOf tr.flat = some tr := by
 unfold treeOf
 rw [run_flat mkT tr [] h, fold_self]; rfl
theorem tree_inv {t : List Nd} {tr : Tr} (h : treeOf t = some tr) : tr.wf ∧ tr.flat = t := by
 unfold treeOf at h
 split at h
 ·next e =>
  cases h
  obtain ⟨a, b⟩ := run_inv t [] _ e (fun _ h => by cases h)
  exact ⟨a _ (by simp), by simpa using b⟩
 ·cases h
def formB (t : List Nd) : Bool := decide (1 ≤ t.length) && (decide (t.length ≤ 2000) && (treeOf t).isSome)
theorem form_tree {t : List Nd} (h : formB t = true) : ∃ tr : Tr, tr.wf ∧ tr.flat = t ∧ treeOf t = some tr ∧ t.length ≤ 2000 := by
 unfold formB at h
 simp only [Bool.and_eq_true, decide_eq_true_eq] at h
 obtain ⟨tr, e⟩ := Option.isSome_iff_exists.1 h.2.2
 exact ⟨tr, (tree_inv e).1, (tree_inv e).2, e, h.2.1⟩
theorem form_flat {tr : Tr} (h : tr.wf) (hl : tr.flat.length ≤ 2000) : formB tr.flat = true := by
 unfold formB
 rw [tree_flat h]
 have : 1 ≤ tr.flat.length := List.length_pos_iff.2 (flat_ne tr)
 simp [this, hl]
def astB (l : List UInt8) : Bool := isName l && (!(l.head? == some 33) && !(match l.head? with | some c => isDig c | none => false))
def okN (x : Nd) : Bool :=
 if x.op = 0 then (x.ast == [] && (x.a == 0 && x.b == 0)) && (isR x.num && (decide ((absW x.num.1).length ≤ 60) && decide (x.num.2.length ≤ 60)))
 else if x.op = 1 then (x.num == ([], []) && x.b == 0) && (astB x.ast && (decide (0 ≤ x.a) && decide (x.a ≤ 9999)))
 else if 2 ≤ x.op ∧ x.op ≤ 4 then x.num == ([], []) && (astB x.ast && (decide (0 ≤ x.a) && (decide (x.b ≤ 9999) && (decide (x.a ≤ x.b) && decide (x.b - x.a < 60)))))
 else (x.num == ([], []) && x.ast == []) && (x.a == 0 && x.b == 0)
def decB (q : Key) : Bool := (plS q).2 && (decide ((plS q).1 ≤ 20) && decide (0 ≤ sgnR q))
def numH : List UInt8 := [110, 117, 109, 40]
def numP (q : Key) : List UInt8 := if decB q then prS q else numH ++ (q.1 ++ 44 :: 32 :: (q.2 ++ [41]))
def leafH (op : Int) : List UInt8 := if op = 2 then [97, 118, 103, 40] else if op = 3 then [104, 105, 40] else [108, 111, 40]
def leafP (x : Nd) : List UInt8 :=
 if x.op = 0 then numP x.num
 else if x.op = 1 then [112, 120, 40] ++ (x.ast ++ 44 :: 32 :: (ofS x.a ++ [41]))
 else leafH x.op ++ (x.ast ++ 44 :: 32 :: (ofS x.a ++ 44 :: 32 :: (ofS x.b ++ [41])))
def sgnO (op : Int) : UInt8 := if op = 6 then 43 else if op = 7 then 45 else if op = 8 then 42 else 47
def fnH (op : Int) : List UInt8 := if op = 10 then [109, 97, 120, 40] else if op = 11 then [109, 105, 110, 40] else [105, 102, 40]
def commas : List (List UInt8) → List UInt8
 | [] => []
 | [u] => u
 | u :: r => u ++ 44 :: 32 :: commas r
def aboveP (op : Int) (l : List (List UInt8)) : List UInt8 :=
 if op = 5 then 40 :: 45 :: (l[0]?.getD [] ++ [41])
 else if op ≤ 9 then 40 :: (l[0]?.getD [] ++ 32 :: sgnO op :: 32 :: (l[1]?.getD [] ++ [41]))
 else fnH op ++ (commas l ++ [41])
def prF (x : Nd) (l : List (List UInt8)) : List UInt8 := if l = [] then leafP x else aboveP x.op l
def pr (t : Tr) : List UInt8 := t.fold prF
def okT (t : Tr) : Prop := ∀ x ∈ t.flat, okN x = true
def printT (t : List Nd) : List UInt8 := match treeOf t with
 | some tr => if formB t && t.all okN then pr tr else []
 | none => []
def dpF (_ : Nd) (l : List Nat) : Nat := l.foldr max 0 + 1
def dp (t : Tr) : Nat := t.fold dpF
def depthT (t : List Nd) : Nat := match treeOf t with
 | some tr => if formB t then dp tr else 0
 | none => 0
def argsT (t : List Nd) : List (List Nd) := match treeOf t with
 | some tr => if formB t then tr.kids.map Tr.flat else []
 | none => []
def plainN (op : Int) : Nd := Nd.mk op ([], []) [] 0 0
def joinT (op : Int) (l : List (List Nd)) : List Nd := l.flatten ++ [plainN op]
def checkT (t : List Nd) : Int := if printT t = [] ∨ 20000 < (printT t).length ∨ 150 < depthT t then 100 else 0
def sepB : List UInt8 → Bool
 | [] => true
 | c :: _ => c == 32 || (c == 41 || c == 44)
theorem cut_inj {c : UInt8} : ∀ {u v x y : List UInt8}, c ∉ u → c ∉ v → u ++ c :: x = v ++ c :: y → u = v ∧ x = y
 | [], [], _, _, _, _, h => ⟨rfl, (List.cons.inj h).2⟩
 | [], b :: v, _, _, _, hv, h => absurd (List.mem_cons.2 (.inl (List.cons.inj h).1)) hv
 | a :: u, [], _, _, hu, _, h => absurd (List.mem_cons.2 (.inl (List.cons.inj h).1.symm)) hu
 | a :: u, b :: v, _, _, hu, hv, h => by
  obtain ⟨h1, h2⟩ := List.cons.inj h
  obtain ⟨k1, k2⟩ := cut_inj (fun k => hu (List.mem_cons_of_mem _ k)) (fun k => hv (List.mem_cons_of_mem _ k)) h2
  exact ⟨by rw [h1, k1], k2⟩
theorem app_head {c : UInt8} {h p q a b x y : List UInt8} (k : (h ++ (p ++ c :: a)) ++ x = (h ++ (q ++ c :: b)) ++ y) : p ++ c :: (a ++ x) = q ++ c :: (b ++ y) := by
 simpa only [List.append_assoc, List.cons_append, List.append_cancel_left_eq] using k
theorem app_mid {c : UInt8} {p q a b x y : List UInt8} (k : (p ++ c :: a) ++ x = (q ++ c :: b) ++ y) : p ++ c :: (a ++ x) = q ++ c :: (b ++ y) := by
 simpa only [List.append_assoc, List.cons_append] using k
theorem span_inj {p : UInt8 → Bool} : ∀ {u v x y : List UInt8}, (∀ c ∈ u, p c = true) → (∀ c ∈ v, p c = true) → (∀ c r, x = c :: r → p c = false) → (∀ c r, y = c :: r → p c = false) → u ++ x = v ++ y → u = v ∧ x = y
 | [], [], _, _, _, _, _, _, h => ⟨rfl, h⟩
 | [], b :: v, _, _, _, hv, hx, _, h => by have a := hx _ _ h; rw [hv b (List.mem_cons_self ..)] at a; cases a
 | a :: u, [], _, _, hu, _, _, hy, h => by have b := hy _ _ h.symm; rw [hu a (List.mem_cons_self ..)] at b; cases b
 | a :: u, b :: v, _, _, hu, hv, hx, hy, h => by
  obtain ⟨h1, h2⟩ := List.cons.inj h
  obtain ⟨k1, k2⟩ := span_inj (fun c k => hu c (List.mem_cons_of_mem _ k)) (fun c k => hv c (List.mem_cons_of_mem _ k)) hx hy h2
  exact ⟨by rw [h1, k1], k2⟩
def ptB (c : UInt8) : Bool := isDig c || c == 46
theorem sep_pt {x : List UInt8} (h : sepB x = true) : ∀ c r, x = c :: r → ptB c = false := fun c r e => by
 subst e
 simp only [sepB, Bool.or_eq_true, beq_iff_eq] at h
 rcases h with rfl | rfl | rfl <;> decide
theorem dig_pt (n : Nat) : ∀ c ∈ dig n, isDig c = true := fun c hc => List.all_eq_true.1 (dig_all n) c hc
theorem not_dig {n : Nat} {c : UInt8} (h : isDig c = false) : c ∉ dig n := fun k => by rw [dig_pt n c k] at h; cases h
theorem prD_pt {q : Rat} {k : Nat} (h : plc q.den = some k) (h0 : 0 ≤ q.num) : ∀ c ∈ prD q, ptB c = true := by
 rw [prD_body h, show decide (q.num < 0) = false from decide_eq_false (by omega)]
 show ∀ c ∈ bodyD k _, ptB c = true
 have hd : ∀ n : Nat, ∀ c ∈ dig n, ptB c = true := fun n c hc => by unfold ptB; rw [dig_pt n c hc]; rfl
 unfold bodyD
 split
 ·exact hd _
 ·unfold ptD padD
  have key : ∀ c ∈ List.replicate (k + 1 - (dig (q.num.natAbs * (10 ^ k / q.den))).length) (48 : UInt8) ++ dig (q.num.natAbs * (10 ^ k / q.den)), ptB c = true := fun c hc => by
   rcases List.mem_append.1 hc with h | h
   ·rw [(List.mem_replicate.1 h).2]; decide
   ·exact hd _ c h
  intro c hc
  rcases List.mem_append.1 hc with h | h
  ·exact key c (List.mem_of_mem_take h)
  ·rcases List.mem_cons.1 h with rfl | h
   ·decide
   ·exact key c (List.mem_of_mem_drop h)
theorem sgnR_num {q : Key} (h : isR q = true) (h0 : 0 ≤ sgnR q) : 0 ≤ (valR q).num := by
 unfold sgnR sgnQ at h0
 rw [if_pos h] at h0
 split at h0
 ·omega
 ·omega
theorem dec_q {q : Key} (h : decB q = true) : isR q = true ∧ (∃ k, plc (valR q).den = some k ∧ k ≤ 20) ∧ 0 ≤ (valR q).num := by
 unfold decB at h
 simp only [Bool.and_eq_true, decide_eq_true_eq] at h
 obtain ⟨h1, h2, h3⟩ := h
 have hr : isR q = true := by
  cases hq : isR q with
  | true => rfl
  | false => rw [plS_no hq] at h1; cases h1
 rw [pl_den hr] at h1 h2
 refine ⟨hr, ?_, sgnR_num hr h3⟩
 cases hp : plc (valR q).den with
 | none => rw [hp] at h1; cases h1
 | some k => rw [hp] at h2; exact ⟨k, rfl, by have : (k : Int) ≤ 20 := h2; omega⟩
theorem dec_pt {q : Key} (h : decB q = true) : (∀ c ∈ prS q, ptB c = true) ∧ prS q ≠ [] := by
 obtain ⟨hr, ⟨k, hk, _⟩, h0⟩ := dec_q h
 rw [prS_yes hr]
 refine ⟨prD_pt hk h0, fun e => ?_⟩
 have k1 := back_u (valR q)
 rw [e] at k1
 cases k1
theorem isR_w {q : Key} (h : isR q = true) : isW q.1 = true ∧ isNat q.2 = true := by
 unfold isR at h
 simp only [Bool.and_eq_true] at h
 exact h.1
theorem not_w {l : List UInt8} (h : isW l = true) {c : UInt8} (h1 : isDig c = false) (h2 : c ≠ 45) : c ∉ l := by
 rcases isW_cases h with ⟨k, _⟩ | ⟨r, rfl, k, _⟩
 ·rw [← dig_valS k]; exact not_dig h1
 ·intro m
  rcases List.mem_cons.1 m with e | m
  ·exact h2 e
  ·rw [← dig_valS k] at m; exact not_dig h1 m
theorem not_n {l : List UInt8} (h : isNat l = true) {c : UInt8} (h1 : isDig c = false) : c ∉ l := by rw [← dig_valS h]; exact not_dig h1
theorem name_chars {l : List UInt8} (h : isName l = true) {c : UInt8} (h1 : nameC c = false) (h2 : c.toNat ≠ 33) : c ∉ l := by
 unfold isName at h
 simp only [Bool.and_eq_true] at h
 have key : ∀ (l : List UInt8) (i : Nat), nmFrom i l = true → c ∉ l := by
  intro l
  induction l with
  | nil => intro _ _ m; cases m
  | cons a r ih =>
   intro i k m
   have k : okB i a = true ∧ nmFrom (i + 1) r = true := by simpa [nmFrom] using k
   rcases List.mem_cons.1 m with e | m
   ·subst e
    have := k.1
    unfold okB at this
    simp [h1, h2] at this
   ·exact ih _ k.2 m
 exact key l 0 h.1
theorem ofS_pos {n : Int} (h : 0 ≤ n) : ofS n = dig n.toNat := by unfold ofS; rw [if_neg (by omega)]
theorem ofS_inj {m n : Int} (hm : 0 ≤ m) (hn : 0 ≤ n) (h : ofS m = ofS n) : m = n := by
 rw [ofS_pos hm, ofS_pos hn] at h
 have := dig_inj h
 omega
theorem not_of {n : Int} (h : 0 ≤ n) {c : UInt8} (h1 : isDig c = false) : c ∉ ofS n := by rw [ofS_pos h]; exact not_dig h1
theorem ops0 {op : Int} (h : arN op = some 0) : op = 0 ∨ op = 1 ∨ op = 2 ∨ op = 3 ∨ op = 4 := by
 unfold arN at h
 split at h
 ·cases h
 ·split at h
  ·omega
  ·split at h
   ·cases h
   ·split at h <;> cases h
theorem ops1 {op : Int} (h : arN op = some 1) : op = 5 := by
 unfold arN at h
 split at h
 ·cases h
 ·split at h
  ·cases h
  ·split at h
   ·assumption
   ·split at h <;> cases h
theorem ops2 {op : Int} (h : arN op = some 2) : op = 6 ∨ op = 7 ∨ op = 8 ∨ op = 9 ∨ op = 10 ∨ op = 11 := by
 unfold arN at h
 split at h
 ·cases h
 ·split at h
  ·cases h
  ·split at h
   ·cases h
   ·split at h
    ·omega
    ·cases h
theorem ops3 {op : Int} (h : arN op = some 3) : op = 12 := by
 unfold arN at h
 split at h
 ·cases h
 ·split at h
  ·cases h
  ·split at h
   ·cases h
   ·split at h
    ·cases h
    ·omega
theorem ok_num {x : Nd} (h : okN x = true) (ho : x.op = 0) : x = Nd.mk 0 x.num [] 0 0 ∧ isR x.num = true ∧ (absW x.num.1).length ≤ 60 ∧ x.num.2.length ≤ 60 := by
 obtain ⟨op, q, s, a, b⟩ := x
 dsimp only at ho
 subst ho
 unfold okN at h
 rw [if_pos rfl] at h
 simp only [Bool.and_eq_true, beq_iff_eq, decide_eq_true_eq] at h
 obtain ⟨⟨h1, h2, h3⟩, h4, h5, h6⟩ := h
 subst h1 h2 h3
 exact ⟨rfl, h4, h5, h6⟩
theorem ok_px {x : Nd} (h : okN x = true) (ho : x.op = 1) : x = Nd.mk 1 ([], []) x.ast x.a 0 ∧ astB x.ast = true ∧ 0 ≤ x.a ∧ x.a ≤ 9999 := by
 obtain ⟨op, q, s, a, b⟩ := x
 dsimp only at ho
 subst ho
 unfold okN at h
 rw [if_neg (by dsimp only; omega), if_pos rfl] at h
 simp only [Bool.and_eq_true, beq_iff_eq, decide_eq_true_eq] at h
 obtain ⟨⟨h1, h2⟩, h4, h5, h6⟩ := h
 subst h1 h2
 exact ⟨rfl, h4, h5, h6⟩
theorem ok_avg {x : Nd} (h : okN x = true) (ho : 2 ≤ x.op ∧ x.op ≤ 4) : x = Nd.mk x.op ([], []) x.ast x.a x.b ∧ astB x.ast = true ∧ 0 ≤ x.a ∧ x.b ≤ 9999 ∧ x.a ≤ x.b ∧ x.b - x.a < 60 := by
 unfold okN at h
 rw [if_neg (by omega), if_neg (by omega), if_pos ho] at h
 simp only [Bool.and_eq_true, beq_iff_eq, decide_eq_true_eq] at h
 obtain ⟨h1, h4, h5, h6, h7, h8⟩ := h
 obtain ⟨op, q, s, a, b⟩ := x
 dsimp only at *
 subst h1
 exact ⟨rfl, h4, h5, h6, h7, h8⟩
theorem ok_more {x : Nd} (h : okN x = true) (ho : x.op < 0 ∨ 5 ≤ x.op) : x = plainN x.op := by
 unfold okN at h
 rw [if_neg (by omega), if_neg (by omega), if_neg (by omega)] at h
 simp only [Bool.and_eq_true, beq_iff_eq] at h
 obtain ⟨⟨h1, h2⟩, h3, h4⟩ := h
 obtain ⟨op, q, s, a, b⟩ := x
 dsimp only at *
 subst h1 h2 h3 h4
 rfl
def kd (l : List UInt8) : Nat :=
 if l.take 2 = [40, 45] then 5 else if l.take 1 = [40] then 6 else if l.take 4 = [109, 97, 120, 40] then 10 else if l.take 4 = [109, 105, 110, 40] then 11 else if l.take 3 = [105, 102, 40] then 12
 else if l.take 4 = [110, 117, 109, 40] then 13 else if l.take 3 = [112, 120, 40] then 1 else if l.take 4 = [97, 118, 103, 40] then 2 else if l.take 3 = [104, 105, 40] then 3 else if l.take 3 = [108, 111, 40] then 4 else 0
def kl (x : Nd) : Nat := if x.op = 0 then (if decB x.num then 0 else 13) else x.op.toNat
theorem kd_dec {l : List UInt8} {c : UInt8} {r : List UInt8} (e : l = c :: r) (h : ptB c = true) : kd l = 0 := by
 subst e
 have h1 : ∀ d : UInt8, ptB d = false → c ≠ d := fun d hd e => by rw [e, hd] at h; cases h
 have a := h1 40 (by decide); have b := h1 109 (by decide); have d := h1 105 (by decide); have f := h1 110 (by decide); have g := h1 112 (by decide); have i := h1 97 (by decide); have j := h1 104 (by decide); have k := h1 108 (by decide)
 unfold kd
 simp [a, b, d, f, g, i, j, k]
theorem leaf_kd {x : Nd} (h : okN x = true) (ho : arN x.op = some 0) (u : List UInt8) : kd (leafP x ++ u) = kl x := by
 rcases ops0 ho with e | e | e | e | e
 ·unfold leafP kl numP
  rw [if_pos e, if_pos e]
  cases hd : decB x.num with
  | true =>
   obtain ⟨h1, h2⟩ := dec_pt hd
   rw [if_pos rfl, if_pos rfl]
   cases hp : prS x.num with
   | nil => exact absurd hp h2
   | cons c r => exact kd_dec rfl (h1 c (by rw [hp]; exact List.mem_cons_self ..))
  | false => rw [if_neg (by decide), if_neg (by decide)]; rfl
 ·unfold leafP kl; rw [if_neg (by omega), if_pos e, if_neg (by omega), e]; rfl
 ·unfold leafP kl leafH; rw [if_neg (by omega), if_neg (by omega), if_pos e, if_neg (by omega), e]; rfl
 ·unfold leafP kl leafH; rw [if_neg (by omega), if_neg (by omega), if_neg (by omega), if_pos e, if_neg (by omega), e]; rfl
 ·unfold leafP kl leafH; rw [if_neg (by omega), if_neg (by omega), if_neg (by omega), if_neg (by omega), if_neg (by omega), e]; rfl
theorem ast_name {l : List UInt8} (h : astB l = true) : isName l = true := by unfold astB at h; simp only [Bool.and_eq_true] at h; exact h.1
theorem leaf_inj {x y : Nd} {u v : List UInt8} (hx : okN x = true) (hy : okN y = true) (ox : arN x.op = some 0) (oy : arN y.op = some 0) (hu : sepB u = true) (hv : sepB v = true) (h : leafP x ++ u = leafP y ++ v) : x = y ∧ u = v := by
 have hk : kl x = kl y := (leaf_kd hx ox u).symm.trans ((congrArg kd h).trans (leaf_kd hy oy v))
 have c44 : nameC 44 = false := by decide
 have d44 : isDig 44 = false := by decide
 have d41 : isDig 41 = false := by decide
 by_cases ex : x.op = 0
 ·have ey : y.op = 0 := by
   by_cases ey : y.op = 0
   ·exact ey
   ·exfalso
    unfold kl at hk
    rw [if_pos ex, if_neg ey] at hk
    rcases ops0 oy with e | e | e | e | e <;> split at hk <;> omega
  obtain ⟨fx, rx, _, _⟩ := ok_num hx ex
  obtain ⟨fy, ry, _, _⟩ := ok_num hy ey
  unfold kl at hk
  rw [if_pos ex, if_pos ey] at hk
  unfold leafP at h
  rw [if_pos ex, if_pos ey] at h
  unfold numP at h
  cases dx : decB x.num with
  | true =>
   have dy : decB y.num = true := by
    cases dy : decB y.num with
    | true => rfl
    | false => rw [dx, dy] at hk; cases hk
   rw [dx, dy, if_pos rfl, if_pos rfl] at h
   obtain ⟨k1, k2⟩ := span_inj (dec_pt dx).1 (dec_pt dy).1 (sep_pt hu) (sep_pt hv) h
   rw [prS_yes rx, prS_yes ry] at k1
   have e := prD_inj k1
   refine ⟨?_, k2⟩
   rw [fx, fy, ← rd_valR rx, ← rd_valR ry, e]
  | false =>
   have dy : decB y.num = false := by
    cases dy : decB y.num with
    | false => rfl
    | true => rw [dx, dy] at hk; cases hk
   rw [dx, dy, if_neg (by decide), if_neg (by decide)] at h
   obtain ⟨e1, e2⟩ := cut_inj (not_w (isR_w rx).1 d44 (by decide)) (not_w (isR_w ry).1 d44 (by decide)) (app_head h)
   obtain ⟨_, e2⟩ := List.cons.inj e2
   have e2 : (x.num.2 ++ [41]) ++ u = (y.num.2 ++ [41]) ++ v := e2
   obtain ⟨e3, e4⟩ := cut_inj (not_n (isR_w rx).2 d41) (not_n (isR_w ry).2 d41) (app_mid e2)
   refine ⟨?_, e4⟩
   rw [fx, fy, show x.num = y.num from Prod.ext e1 e3]
 ·have eo : x.op = y.op := by
   unfold kl at hk
   rw [if_neg ex] at hk
   by_cases ey : y.op = 0
   ·exfalso
    rw [if_pos ey] at hk
    rcases ops0 ox with e | e | e | e | e <;> split at hk <;> omega
   ·rw [if_neg ey] at hk
    rcases ops0 ox with e | e | e | e | e <;> rcases ops0 oy with e' | e' | e' | e' | e' <;> omega
  by_cases e1 : x.op = 1
  ·obtain ⟨fx, ax, a0, _⟩ := ok_px hx e1
   obtain ⟨fy, ay, b0, _⟩ := ok_px hy (eo ▸ e1)
   unfold leafP at h
   rw [if_neg ex, if_pos e1, if_neg (eo ▸ ex), if_pos (eo ▸ e1)] at h
   have h := app_head h
   obtain ⟨k1, k2⟩ := cut_inj (name_chars (ast_name ax) c44 (by decide)) (name_chars (ast_name ay) c44 (by decide)) h
   obtain ⟨_, k2⟩ := List.cons.inj k2
   have k2 : (ofS x.a ++ [41]) ++ u = (ofS y.a ++ [41]) ++ v := k2
   have k2 := app_mid k2
   obtain ⟨k3, k4⟩ := cut_inj (not_of a0 d41) (not_of b0 d41) k2
   refine ⟨?_, k4⟩
   rw [fx, fy, k1, ofS_inj a0 b0 k3]
  ·have hxo : 2 ≤ x.op ∧ x.op ≤ 4 := by rcases ops0 ox with e | e | e | e | e <;> omega
   obtain ⟨fx, ax, a0, _, a1, _⟩ := ok_avg hx hxo
   obtain ⟨fy, ay, b0, _, b1, _⟩ := ok_avg hy (eo ▸ hxo)
   unfold leafP at h
   rw [if_neg ex, if_neg e1, if_neg (eo ▸ ex), if_neg (eo ▸ e1), eo] at h
   have h := app_head h
   obtain ⟨k1, k2⟩ := cut_inj (name_chars (ast_name ax) c44 (by decide)) (name_chars (ast_name ay) c44 (by decide)) h
   obtain ⟨_, k2⟩ := List.cons.inj k2
   have k2 : (ofS x.a ++ 44 :: 32 :: (ofS x.b ++ [41])) ++ u = (ofS y.a ++ 44 :: 32 :: (ofS y.b ++ [41])) ++ v := k2
   have k2 := app_mid k2
   obtain ⟨k3, k4⟩ := cut_inj (not_of a0 d44) (not_of b0 d44) k2
   obtain ⟨_, k4⟩ := List.cons.inj k4
   have k4 : (ofS x.b ++ [41]) ++ u = (ofS y.b ++ [41]) ++ v := k4
   have k4 := app_mid k4
   obtain ⟨k5, k6⟩ := cut_inj (not_of (by omega) d41) (not_of (by omega) d41) k4
   refine ⟨?_, k6⟩
   rw [fx, fy, eo, k1, ofS_inj a0 b0 k3, ofS_inj (by omega) (by omega) k5]
end Tm
end Go.Proofs.YtdeinhkdphgfaaaGreatDoor

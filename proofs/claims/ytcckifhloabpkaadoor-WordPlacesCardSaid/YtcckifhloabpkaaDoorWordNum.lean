/- Plain words of tokens: a text read from front to back, and printed. Own work; no program text. -/
import Derived.Test.YtcckifhloabpkaaDoorAllNum
namespace Go.Proofs.YtcckifhloabpkaaDoor
namespace Wd
set_option linter.unusedVariables false
def isLet (c : UInt8) : Bool := decide (97 ≤ c.toNat) && decide (c.toNat ≤ 122)
def isDig (c : UInt8) : Bool := decide (48 ≤ c.toNat) && decide (c.toNat ≤ 57)
def isLD (c : UInt8) : Bool := isLet c || isDig c
def isSgn (c : UInt8) : Bool := c == 43 || c == 45 || c == 42 || c == 47 || c == 40 || c == 41 || c == 44
/-- How many bytes at the front are so. -/
def run (p : UInt8 → Bool) : List UInt8 → Nat
  | [] => 0
  | x :: r => if p x then run p r + 1 else 0
def dotD : List UInt8 → Bool
  | 46 :: d :: _ => isDig d
  | _ => false
def numL (l : List UInt8) : Nat := if dotD (l.drop (run isDig l)) then run isDig l + 1 + run isDig (l.drop (run isDig l + 1)) else run isDig l
/-- The kind and the length of the token at the front. -/
def kl : List UInt8 → Option (Nat × Nat)
  | [] => none
  | x :: r =>
    if isLet x then (if run isLD (x :: r) ≤ 20 then some (0, run isLD (x :: r)) else none)
    else if isDig x then (if numL (x :: r) ≤ 100 then some (1, numL (x :: r)) else none)
    else if isSgn x then some (2, 1) else none
structure Tk where
  kind : Nat
  text : List UInt8
  line : Nat
  col : Nat
theorem run_le (p : UInt8 → Bool) : ∀ l : List UInt8, run p l ≤ l.length
  | [] => Nat.le_refl _
  | x :: r => by
    have := run_le p r
    unfold run
    split <;> simp only [List.length_cons] <;> omega
theorem run_pos {p : UInt8 → Bool} {x : UInt8} {r : List UInt8} (h : p x = true) : run p (x :: r) = run p r + 1 := by
  show (if p x then run p r + 1 else 0) = _
  rw [if_pos h]
theorem run_stop {p : UInt8 → Bool} {y : UInt8} (hy : p y = false) (t : List UInt8) : ∀ l : List UInt8, run p (l ++ y :: t) = run p l
  | [] => by show run p (y :: t) = 0; unfold run; rw [hy]; rfl
  | x :: r => by
    show run p (x :: (r ++ y :: t)) = _
    unfold run
    rw [run_stop hy t r]
theorem run_take (p : UInt8 → Bool) : ∀ (l : List UInt8) (m : Nat), run p (l.take m) = min m (run p l)
  | [], m => by rw [List.take_nil]; unfold run; omega
  | x :: r, 0 => by rw [List.take_zero]; unfold run; omega
  | x :: r, m + 1 => by
    rw [List.take_succ_cons]
    unfold run
    split
    · rw [run_take p r m]; omega
    · omega
theorem dot_no {a : UInt8} (h : ¬ a = 46) (q : List UInt8) : dotD (a :: q) = false := by
  unfold dotD
  split
  · rename_i e; exact absurd (List.cons.inj e).1 h
  · rfl
theorem dot_stop (t : List UInt8) : ∀ u : List UInt8, dotD (u ++ 32 :: t) = dotD u
  | [] => rfl
  | [a] => by
    by_cases h : a = 46
    · subst h; rfl
    · show dotD (a :: 32 :: t) = _
      rw [dot_no h, dot_no h]
  | a :: b :: r => by
    by_cases h : a = 46
    · subst h; rfl
    · show dotD (a :: (b :: r ++ 32 :: t)) = _
      rw [dot_no h, dot_no h]
theorem num_stop (t l : List UInt8) : numL (l ++ 32 :: t) = numL l := by
  have h1 : run isDig (l ++ 32 :: t) = run isDig l := run_stop (by decide) t l
  have hle := run_le isDig l
  unfold numL
  rw [h1, List.drop_append_of_le_length hle, dot_stop]
  cases hd : dotD (l.drop (run isDig l)) with
  | false => rfl
  | true =>
    have h2 : run isDig l + 1 ≤ l.length := by
      by_cases c : run isDig l + 1 ≤ l.length
      · exact c
      · rw [List.drop_of_length_le (by omega)] at hd; cases hd
    rw [List.drop_append_of_le_length h2, run_stop (by decide) t]
theorem dot_head : ∀ {u : List UInt8}, dotD u = true → ∃ d r, u = 46 :: d :: r ∧ isDig d = true := by
  intro u h
  unfold dotD at h
  split at h
  · exact ⟨_, _, rfl, h⟩
  · cases h
theorem num_le (l : List UInt8) : numL l ≤ l.length := by
  have hle := run_le isDig l
  unfold numL
  split
  · rename_i h
    obtain ⟨d, r, e, hd⟩ := dot_head h
    have e2 : l.drop (run isDig l + 1) = d :: r := by rw [← List.drop_drop, e]; rfl
    have k := congrArg List.length e
    rw [List.length_drop] at k
    have k2 := run_le isDig (d :: r)
    rw [e2]
    simp only [List.length_cons] at k k2
    omega
  · exact hle
theorem num_pos {x : UInt8} {r : List UInt8} (h : isDig x = true) : 1 ≤ numL (x :: r) := by
  have := run_pos (r := r) h
  unfold numL
  split <;> omega
theorem num_take (l : List UInt8) : numL (l.take (numL l)) = numL l := by
  have hle := run_le isDig l
  cases hd : dotD (l.drop (run isDig l)) with
  | false =>
    have e : numL l = run isDig l := by unfold numL; rw [hd]; rfl
    rw [e]
    have e1 : run isDig (l.take (run isDig l)) = run isDig l := by rw [run_take]; omega
    unfold numL
    rw [e1, List.drop_of_length_le (by rw [List.length_take]; omega)]
    rfl
  | true =>
    have e : numL l = run isDig l + 1 + run isDig (l.drop (run isDig l + 1)) := by unfold numL; rw [hd]; rfl
    obtain ⟨d, r, eu, hdd⟩ := dot_head hd
    have e2 : l.drop (run isDig l + 1) = d :: r := by rw [← List.drop_drop, eu]; rfl
    have hj : 1 ≤ run isDig (d :: r) := by rw [run_pos hdd]; omega
    rw [e]
    have e1 : run isDig (l.take (run isDig l + 1 + run isDig (l.drop (run isDig l + 1)))) = run isDig l := by rw [run_take]; omega
    have e3 : (l.take (run isDig l + 1 + run isDig (l.drop (run isDig l + 1)))).drop (run isDig l) = 46 :: (d :: r).take (run isDig (d :: r)) := by
      rw [List.drop_take, eu, e2, show run isDig l + 1 + run isDig (d :: r) - run isDig l = run isDig (d :: r) + 1 by omega]
      rfl
    have e4 : (l.take (run isDig l + 1 + run isDig (l.drop (run isDig l + 1)))).drop (run isDig l + 1) = (d :: r).take (run isDig (d :: r)) := by
      rw [← List.drop_drop, e3]; rfl
    have e5 : (d :: r).take (run isDig (d :: r)) = d :: r.take (run isDig r) := by rw [run_pos hdd]; rfl
    have e6 : dotD (46 :: d :: r.take (run isDig r)) = true := hdd
    have e7 : run isDig ((d :: r).take (run isDig (d :: r))) = run isDig (d :: r) := by rw [run_take]; omega
    rw [show numL (l.take (run isDig l + 1 + run isDig (l.drop (run isDig l + 1)))) = if dotD ((l.take (run isDig l + 1 + run isDig (l.drop (run isDig l + 1)))).drop (run isDig (l.take (run isDig l + 1 + run isDig (l.drop (run isDig l + 1)))))) then run isDig (l.take (run isDig l + 1 + run isDig (l.drop (run isDig l + 1)))) + 1 + run isDig ((l.take (run isDig l + 1 + run isDig (l.drop (run isDig l + 1)))).drop (run isDig (l.take (run isDig l + 1 + run isDig (l.drop (run isDig l + 1)))) + 1)) else run isDig (l.take (run isDig l + 1 + run isDig (l.drop (run isDig l + 1)))) from rfl]
    rw [e1, e3, e4, e5, e6, ← e5, e7, e2]
    rfl
theorem kl_cons (x : UInt8) (r : List UInt8) : kl (x :: r) =
    if isLet x then (if run isLD (x :: r) ≤ 20 then some (0, run isLD (x :: r)) else none)
    else if isDig x then (if numL (x :: r) ≤ 100 then some (1, numL (x :: r)) else none)
    else if isSgn x then some (2, 1) else none := rfl
theorem kl_len {l : List UInt8} {kd m : Nat} (h : kl l = some (kd, m)) : 1 ≤ m ∧ m ≤ l.length := by
  match l with
  | [] => cases h
  | x :: r =>
    rw [kl_cons] at h
    split at h
    · rename_i hx
      split at h
      · obtain ⟨rfl, rfl⟩ := Prod.mk.inj (Option.some.inj h)
        exact ⟨by rw [run_pos (by unfold isLD; rw [hx]; rfl)]; omega, run_le _ _⟩
      · cases h
    · split at h
      · rename_i hx
        split at h
        · obtain ⟨rfl, rfl⟩ := Prod.mk.inj (Option.some.inj h)
          exact ⟨num_pos hx, num_le _⟩
        · cases h
      · split at h
        · obtain ⟨rfl, rfl⟩ := Prod.mk.inj (Option.some.inj h)
          exact ⟨Nat.le_refl _, by rw [List.length_cons]; omega⟩
        · cases h
theorem kl_stop (t : List UInt8) {l : List UInt8} (h : l ≠ []) : kl (l ++ 32 :: t) = kl l := by
  match l, h with
  | x :: r, _ =>
    have e1 : run isLD (x :: (r ++ 32 :: t)) = run isLD (x :: r) := run_stop (by decide) t (x :: r)
    have e2 : numL (x :: (r ++ 32 :: t)) = numL (x :: r) := num_stop t (x :: r)
    show kl (x :: (r ++ 32 :: t)) = _
    rw [kl_cons, kl_cons, e1, e2]
theorem kl_take {l : List UInt8} {kd m : Nat} (h : kl l = some (kd, m)) : kl (l.take m) = some (kd, m) := by
  obtain ⟨h1, h2⟩ := kl_len h
  match l, m, h1 with
  | [], _, _ => cases h
  | x :: r, m + 1, _ =>
    have ht : (x :: r).take (m + 1) = x :: r.take m := rfl
    have hn := num_take (x :: r)
    have hr := run_take isLD (x :: r) (m + 1)
    rw [ht] at hr ⊢
    rw [kl_cons] at h ⊢
    split at h
    · rename_i hx
      rw [if_pos hx]
      split at h
      · rename_i hle
        obtain ⟨rfl, e⟩ := Prod.mk.inj (Option.some.inj h)
        rw [hr, e, Nat.min_self, if_pos (by omega)]
      · cases h
    · rename_i hx
      rw [if_neg hx]
      split at h
      · rename_i hx2
        rw [if_pos hx2]
        split at h
        · obtain ⟨rfl, e⟩ := Prod.mk.inj (Option.some.inj h)
          rw [e, ht] at hn
          rw [hn, if_pos (by omega)]
        · cases h
      · rename_i hx2
        rw [if_neg hx2]
        split at h
        · rename_i hx3
          rw [if_pos hx3]; exact h
        · cases h
/-- A text from front to back: its tokens, and where the first place stands that none can be read from. -/
def lexAt (l : List UInt8) (ln c : Nat) : List Tk × Option (Nat × Nat) :=
  match l with
  | [] => ([], none)
  | x :: r =>
    if x = 32 then lexAt r ln (c + 1)
    else if x = 10 then lexAt r (ln + 1) 1
    else match h : kl (x :: r) with
      | none => ([], some (ln, c))
      | some (kd, m) => (Tk.mk kd ((x :: r).take m) ln c :: (lexAt ((x :: r).drop m) ln (c + m)).1, (lexAt ((x :: r).drop m) ln (c + m)).2)
termination_by l.length
decreasing_by
  all_goals simp_wf
  all_goals (try (have := (kl_len h).1; omega))
theorem lex_nil (ln c : Nat) : lexAt [] ln c = ([], none) := by unfold lexAt; rfl
theorem lex_blank (r : List UInt8) (ln c : Nat) : lexAt (32 :: r) ln c = lexAt r ln (c + 1) := by rw [lexAt]; rfl
theorem lex_line (r : List UInt8) (ln c : Nat) : lexAt (10 :: r) ln c = lexAt r (ln + 1) 1 := by rw [lexAt]; rfl
theorem lex_bad {x : UInt8} {r : List UInt8} (ln c : Nat) (h1 : x ≠ 32) (h2 : x ≠ 10) (h : kl (x :: r) = none) : lexAt (x :: r) ln c = ([], some (ln, c)) := by
  rw [lexAt, if_neg h1, if_neg h2]
  split
  · rfl
  · rename_i e; rw [h] at e; cases e
theorem lex_tok {x : UInt8} {r : List UInt8} {kd m : Nat} (ln c : Nat) (h1 : x ≠ 32) (h2 : x ≠ 10) (h : kl (x :: r) = some (kd, m)) : lexAt (x :: r) ln c = (Tk.mk kd ((x :: r).take m) ln c :: (lexAt ((x :: r).drop m) ln (c + m)).1, (lexAt ((x :: r).drop m) ln (c + m)).2) := by
  rw [lexAt, if_neg h1, if_neg h2]
  split
  · rename_i e; rw [h] at e; cases e
  · rename_i k m' e
    rw [h] at e
    obtain ⟨rfl, rfl⟩ := Prod.mk.inj (Option.some.inj e)
    rfl
/-- Induction along a text as it is read. -/
theorem lex_ind {M : List UInt8 → Prop} (h0 : M []) (h1 : ∀ r, M r → M (32 :: r)) (h2 : ∀ r, M r → M (10 :: r)) (h3 : ∀ x r, x ≠ 32 → x ≠ 10 → kl (x :: r) = none → M (x :: r))
    (h4 : ∀ x r kd m, x ≠ 32 → x ≠ 10 → kl (x :: r) = some (kd, m) → M ((x :: r).drop m) → M (x :: r)) : ∀ l, M l := by
  have key : ∀ n (l : List UInt8), l.length ≤ n → M l := by
    intro n
    induction n with
    | zero => intro l hl; obtain rfl := List.length_eq_zero_iff.1 (Nat.le_zero.1 hl); exact h0
    | succ n ih =>
      intro l hl
      match l with
      | [] => exact h0
      | x :: r =>
        rw [List.length_cons] at hl
        by_cases e1 : x = 32
        · subst e1; exact h1 r (ih r (by omega))
        by_cases e2 : x = 10
        · subst e2; exact h2 r (ih r (by omega))
        cases e : kl (x :: r) with
        | none => exact h3 x r e1 e2 e
        | some km =>
          obtain ⟨kd, m⟩ := km
          have := (kl_len e).1
          exact h4 x r kd m e1 e2 e (ih _ (by rw [List.length_drop, List.length_cons]; omega))
  exact fun l => key l.length l (Nat.le_refl _)
/-- Where a token, and the first place that cannot be read, may stand. -/
theorem lex_from : ∀ (l : List UInt8) (ln c : Nat), (∀ t ∈ (lexAt l ln c).1, ln < t.line ∧ 1 ≤ t.col ∨ t.line = ln ∧ c ≤ t.col) ∧ ∀ p, (lexAt l ln c).2 = some p → ln < p.1 ∧ 1 ≤ p.2 ∨ p.1 = ln ∧ c ≤ p.2 := by
  refine lex_ind (fun ln c => ?_) (fun r ih ln c => ?_) (fun r ih ln c => ?_) (fun x r e1 e2 e ln c => ?_) (fun x r kd m e1 e2 e ih ln c => ?_)
  · rw [lex_nil]; exact ⟨fun _ h => (by cases h), fun _ h => (by cases h)⟩
  · rw [lex_blank]
    obtain ⟨a, b⟩ := ih ln (c + 1)
    exact ⟨fun t ht => (a t ht).imp id fun h => ⟨h.1, by omega⟩, fun p hp => (b p hp).imp id fun h => ⟨h.1, by omega⟩⟩
  · rw [lex_line]
    obtain ⟨a, b⟩ := ih (ln + 1) 1
    exact ⟨fun t ht => .inl (by rcases a t ht with h | h <;> exact ⟨by omega, by omega⟩), fun p hp => .inl (by rcases b p hp with h | h <;> exact ⟨by omega, by omega⟩)⟩
  · rw [lex_bad ln c e1 e2 e]
    exact ⟨fun _ h => (by cases h), fun p h => (by cases h; exact .inr ⟨rfl, Nat.le_refl _⟩)⟩
  · rw [lex_tok ln c e1 e2 e]
    obtain ⟨a, b⟩ := ih ln (c + m)
    refine ⟨fun t ht => ?_, fun p hp => (b p hp).imp id fun h => ⟨h.1, by omega⟩⟩
    rcases List.mem_cons.1 ht with rfl | ht
    · exact .inr ⟨rfl, Nat.le_refl _⟩
    · exact (a t ht).imp id fun h => ⟨h.1, by omega⟩
/-- Each token stands behind the one ahead. -/
theorem lex_rise : ∀ (l : List UInt8) (ln c i : Nat) (x y : Tk), (lexAt l ln c).1[i]? = some x → (lexAt l ln c).1[i + 1]? = some y → x.line < y.line ∨ y.line = x.line ∧ x.col + x.text.length ≤ y.col := by
  refine lex_ind (fun ln c i x y h => ?_) (fun r ih ln c => ?_) (fun r ih ln c => ?_) (fun x r e1 e2 e ln c i u v h => ?_) (fun x r kd m e1 e2 e ih ln c i u v h k => ?_)
  · rw [lex_nil] at h; cases h
  · rw [lex_blank]; exact ih ln (c + 1)
  · rw [lex_line]; exact ih (ln + 1) 1
  · rw [lex_bad ln c e1 e2 e] at h; cases h
  · rw [lex_tok ln c e1 e2 e] at h k
    match i with
    | 0 =>
      obtain rfl := Option.some.inj h
      have hm := List.mem_of_getElem? (show (lexAt ((x :: r).drop m) ln (c + m)).1[0]? = some v from k)
      have hl : ((x :: r).take m).length = m := by rw [List.length_take]; have := (kl_len e).2; omega
      rcases (lex_from _ ln (c + m)).1 v hm with g | g
      · exact .inl g.1
      · exact .inr ⟨g.1, by show c + ((x :: r).take m).length ≤ _; rw [hl]; exact g.2⟩
    | i + 1 => exact ih ln (c + m) i u v h k
def shT (ln a b : Nat) (t : Tk) : Tk := Tk.mk t.kind t.text (t.line + a) (if t.line = ln then t.col + b else t.col)
def shP (ln a b : Nat) (p : Nat × Nat) : Nat × Nat := (p.1 + a, if p.1 = ln then p.2 + b else p.2)
theorem shT_far {ln a b : Nat} {t : Tk} (h : ln < t.line) : shT ln a b t = shT (ln + 1) a 0 t := by
  unfold shT
  rw [if_neg (by omega)]
  congr 1
  split <;> omega
theorem shP_far {ln a b : Nat} {p : Nat × Nat} (h : ln < p.1) : shP ln a b p = shP (ln + 1) a 0 p := by
  unfold shP
  rw [if_neg (by omega)]
  congr 1
  split <;> omega
/-- From another place the same tokens are read, and moved. -/
theorem lex_shift : ∀ (l : List UInt8) (ln c a b : Nat), lexAt l (ln + a) (c + b) = ((lexAt l ln c).1.map (shT ln a b), (lexAt l ln c).2.map (shP ln a b)) := by
  refine lex_ind (fun ln c a b => ?_) (fun r ih ln c a b => ?_) (fun r ih ln c a b => ?_) (fun x r e1 e2 e ln c a b => ?_) (fun x r kd m e1 e2 e ih ln c a b => ?_)
  · rw [lex_nil, lex_nil]; rfl
  · rw [lex_blank, lex_blank, ← ih ln (c + 1) a b, show c + b + 1 = c + 1 + b by omega]
  · rw [lex_line, lex_line]
    have k := ih (ln + 1) 1 a 0
    obtain ⟨g1, g2⟩ := lex_from r (ln + 1) 1
    rw [show ln + a + 1 = ln + 1 + a by omega]
    have k : lexAt r (ln + 1 + a) 1 = _ := k
    rw [k]
    refine Prod.ext ?_ ?_
    · refine (List.map_congr_left fun t ht => ?_)
      exact (shT_far (by rcases g1 t ht with h | h <;> omega)).symm
    · show Option.map _ _ = Option.map _ _
      cases e : (lexAt r (ln + 1) 1).2 with
      | none => rfl
      | some p => exact congrArg some (shP_far (by rcases g2 p e with h | h <;> omega)).symm
  · rw [lex_bad _ _ e1 e2 e, lex_bad _ _ e1 e2 e]
    show _ = ([], some (shP ln a b (ln, c)))
    unfold shP
    rw [if_pos rfl]
  · rw [lex_tok _ _ e1 e2 e, lex_tok _ _ e1 e2 e, show c + b + m = c + m + b by omega, ih ln (c + m) a b]
    refine Prod.ext ?_ rfl
    show _ = shT ln a b _ :: _
    congr 1
    unfold shT
    rw [if_pos rfl]
/-- Kinds and texts. -/
def ktT (t : Tk) : Nat × List UInt8 := (t.kind, t.text)
theorem lex_kt (l : List UInt8) (ln c ln' c' : Nat) : (lexAt l ln c).1.map ktT = (lexAt l ln' c').1.map ktT ∧ (lexAt l ln c).2.isSome = (lexAt l ln' c').2.isSome := by
  have key : ∀ ln c, (lexAt l ln c).1.map ktT = (lexAt l 0 0).1.map ktT ∧ (lexAt l ln c).2.isSome = (lexAt l 0 0).2.isSome := fun ln c => by
    have k := lex_shift l 0 0 ln c
    rw [Nat.zero_add, Nat.zero_add] at k
    rw [k]
    refine ⟨?_, ?_⟩
    · rw [List.map_map]; rfl
    · show (Option.map _ _).isSome = _
      rw [Option.isSome_map]
  obtain ⟨a1, a2⟩ := key ln c
  obtain ⟨b1, b2⟩ := key ln' c'
  exact ⟨a1.trans b1.symm, a2.trans b2.symm⟩
theorem lex_blanks (l : List UInt8) (ln : Nat) : ∀ (n c : Nat), lexAt (List.replicate n 32 ++ l) ln c = lexAt l ln (c + n)
  | 0, c => rfl
  | n + 1, c => by
    rw [List.replicate_succ, List.cons_append, lex_blank, lex_blanks l ln n]
    congr 1; omega
theorem lex_lines (l : List UInt8) : ∀ (n ln c : Nat), 0 < n → lexAt (List.replicate n 10 ++ l) ln c = lexAt l (ln + n) 1
  | 1, ln, c, _ => lex_line l ln c
  | n + 2, ln, c, _ => by
    rw [List.replicate_succ, List.cons_append, lex_line, lex_lines l (n + 1) (ln + 1) 1 (by omega)]
    congr 1; omega
/-- Of two texts, parted by a blank. -/
theorem lex_join (t : List UInt8) : ∀ (s : List UInt8) (ln c : Nat), ((lexAt s ln c).2 = none → ∃ ln' c', lexAt (s ++ 32 :: t) ln c = ((lexAt s ln c).1 ++ (lexAt t ln' c').1, (lexAt t ln' c').2)) ∧ ((lexAt s ln c).2.isSome = true → (lexAt (s ++ 32 :: t) ln c).2.isSome = true) := by
  refine lex_ind (fun ln c => ?_) (fun r ih ln c => ?_) (fun r ih ln c => ?_) (fun x r e1 e2 e ln c => ?_) (fun x r kd m e1 e2 e ih ln c => ?_)
  · rw [lex_nil]
    exact ⟨fun _ => ⟨ln, c + 1, by show lexAt (32 :: t) ln c = _; rw [lex_blank]; rfl⟩, fun h => by cases h⟩
  · rw [List.cons_append, lex_blank, lex_blank]; exact ih ln (c + 1)
  · rw [List.cons_append, lex_line, lex_line]; exact ih (ln + 1) 1
  · have e' : kl (x :: (r ++ 32 :: t)) = none := (kl_stop t (l := x :: r) (by simp)).trans e
    rw [List.cons_append, lex_bad ln c e1 e2 e, lex_bad ln c e1 e2 e']
    exact ⟨fun h => (by cases h), fun _ => rfl⟩
  · have e' : kl (x :: (r ++ 32 :: t)) = some (kd, m) := (kl_stop t (l := x :: r) (by simp)).trans e
    have hm := (kl_len e).2
    have d1 : (x :: (r ++ 32 :: t)).take m = (x :: r).take m := List.take_append_of_le_length (l₁ := x :: r) hm
    have d2 : (x :: (r ++ 32 :: t)).drop m = (x :: r).drop m ++ 32 :: t := List.drop_append_of_le_length (l₁ := x :: r) hm
    rw [List.cons_append, lex_tok ln c e1 e2 e, lex_tok ln c e1 e2 e', d1, d2]
    obtain ⟨i1, i2⟩ := ih ln (c + m)
    refine ⟨fun h => ?_, fun h => i2 h⟩
    obtain ⟨l2, c2, k⟩ := i1 h
    exact ⟨l2, c2, by rw [k]; rfl⟩
/-- A token's text is a token. -/
def okT (k : Nat × List UInt8) : Prop := ∃ x r, k.2 = x :: r ∧ x ≠ 32 ∧ x ≠ 10 ∧ kl k.2 = some (k.1, k.2.length)
theorem lex_ok : ∀ (l : List UInt8) (ln c : Nat), ∀ t ∈ (lexAt l ln c).1, okT (ktT t) := by
  refine lex_ind (fun ln c t h => ?_) (fun r ih ln c => ?_) (fun r ih ln c => ?_) (fun x r e1 e2 e ln c t h => ?_) (fun x r kd m e1 e2 e ih ln c t h => ?_)
  · rw [lex_nil] at h; cases h
  · rw [lex_blank]; exact ih ln (c + 1)
  · rw [lex_line]; exact ih (ln + 1) 1
  · rw [lex_bad ln c e1 e2 e] at h; cases h
  · rw [lex_tok ln c e1 e2 e] at h
    rcases List.mem_cons.1 h with rfl | h
    · obtain ⟨h1, h2⟩ := kl_len e
      obtain ⟨n, rfl⟩ : ∃ n, m = n + 1 := ⟨m - 1, by omega⟩
      refine ⟨x, r.take n, rfl, e1, e2, ?_⟩
      show kl ((x :: r).take (n + 1)) = some (kd, ((x :: r).take (n + 1)).length)
      rw [kl_take e, List.length_take, Nat.min_eq_left h2]
    · exact ih ln (c + m) t h
/-- The texts, parted by blanks. -/
def printT : List (List UInt8) → List UInt8
  | [] => []
  | [x] => x
  | x :: y :: r => x ++ 32 :: printT (y :: r)
theorem lex_one {k : Nat × List UInt8} (h : okT k) (ln c : Nat) : lexAt k.2 ln c = ([Tk.mk k.1 k.2 ln c], none) := by
  obtain ⟨kd, tx⟩ := k
  obtain ⟨x, r, e, e1, e2, hk⟩ := h
  have e : tx = x :: r := e
  have hk : kl tx = some (kd, tx.length) := hk
  show lexAt tx ln c = _
  subst e
  rw [lex_tok ln c e1 e2 hk, List.drop_length, List.take_length, lex_nil]
theorem lex_print : ∀ (ks : List (Nat × List UInt8)) (ln c : Nat), (∀ k ∈ ks, okT k) → (lexAt (printT (ks.map (·.2))) ln c).1.map ktT = ks ∧ (lexAt (printT (ks.map (·.2))) ln c).2 = none
  | [], ln, c, _ => by show (lexAt [] ln c).1.map ktT = [] ∧ (lexAt [] ln c).2 = none; rw [lex_nil]; exact ⟨rfl, rfl⟩
  | [k], ln, c, h => by
    show (lexAt k.2 ln c).1.map ktT = [k] ∧ (lexAt k.2 ln c).2 = none
    rw [lex_one (h k (List.mem_cons_self ..))]
    exact ⟨rfl, rfl⟩
  | k :: k2 :: r, ln, c, h => by
    show (lexAt (k.2 ++ 32 :: printT ((k2 :: r).map (·.2))) ln c).1.map ktT = _ ∧ (lexAt (k.2 ++ 32 :: printT ((k2 :: r).map (·.2))) ln c).2 = none
    have h1 := lex_one (h k (List.mem_cons_self ..)) ln c
    obtain ⟨l2, c2, e⟩ := (lex_join (printT ((k2 :: r).map (·.2))) k.2 ln c).1 (by rw [h1])
    obtain ⟨a, b⟩ := lex_print (k2 :: r) l2 c2 fun x hx => h x (List.mem_cons_of_mem _ hx)
    rw [e, h1]
    refine ⟨?_, b⟩
    show _ :: List.map ktT (lexAt (printT ((k2 :: r).map (·.2))) l2 c2).1 = _
    rw [a]
    rfl
theorem run_rep (p : UInt8 → Bool) (x : UInt8) (h : p x = true) : ∀ n, run p (List.replicate n x) = n
  | 0 => rfl
  | n + 1 => by rw [List.replicate_succ, run_pos h, run_rep p x h n]
theorem long_name {n : Nat} (h : 0 < n) : kl (List.replicate n 97) = if n ≤ 20 then some (0, n) else none := by
  obtain ⟨m, rfl⟩ : ∃ m, n = m + 1 := ⟨n - 1, by omega⟩
  have k := run_rep isLD 97 (by decide) (m + 1)
  rw [List.replicate_succ] at k ⊢
  rw [kl_cons, k, if_pos (by decide)]
theorem long_num {n : Nat} (h : 0 < n) : kl (List.replicate n 49) = if n ≤ 100 then some (1, n) else none := by
  obtain ⟨m, rfl⟩ : ∃ m, n = m + 1 := ⟨n - 1, by omega⟩
  have k := run_rep isDig 49 (by decide) (m + 1)
  have e : numL (List.replicate (m + 1) 49) = m + 1 := by
    unfold numL
    rw [k, List.drop_of_length_le (by rw [List.length_replicate]; omega)]
    rfl
  rw [List.replicate_succ] at e ⊢
  rw [kl_cons, e, if_neg (by decide), if_pos (by decide)]
/-- What the document answers. -/
def lexD (s : List UInt8) : List Tk × Int × Nat × Nat :=
  if 20000 < s.length then ([], 90, 1, 1) else match (lexAt s 1 1).2 with
    | none => ((lexAt s 1 1).1, 0, 0, 0)
    | some p => ([], 90, p.1, p.2)
end Wd
end Go.Proofs.YtcckifhloabpkaaDoor

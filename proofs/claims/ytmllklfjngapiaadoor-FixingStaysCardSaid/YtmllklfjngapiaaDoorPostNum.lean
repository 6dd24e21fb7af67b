/- Plain books: lines by account and asset, none twice, none of 0. Own work; no program text. -/
import Derived.Test.YtmllklfjngapiaaDoorRatNum2
namespace Go.Proofs.YtmllklfjngapiaaDoor

/-- Account and asset; a fraction's texts. A line is both. -/
abbrev Key := List UInt8 × List UInt8
abbrev Ln := Key × Key

/-! Names. -/
def nameC (c : UInt8) : Bool := (decide (97 ≤ c.toNat) && decide (c.toNat ≤ 122)) || (decide (48 ≤ c.toNat) && decide (c.toNat ≤ 57))
def okB (i : Nat) (c : UInt8) : Bool := nameC c || (decide (c.toNat = 33) && decide (i = 0))
def nmFrom : Nat → List UInt8 → Bool
  | _, [] => true
  | k, c :: r => okB k c && nmFrom (k + 1) r
def isName (l : List UInt8) : Bool := nmFrom 0 l && (decide (1 ≤ l.length) && decide (l.length ≤ 20))
theorem nmFrom_append : ∀ (k : Nat) (l m : List UInt8), nmFrom k (l ++ m) = (nmFrom k l && nmFrom (k + l.length) m)
  | _, [], _ => rfl
  | k, c :: r, m => by
    show (okB k c && nmFrom (k + 1) (r ++ m)) = ((okB k c && nmFrom (k + 1) r) && nmFrom (k + (r.length + 1)) m)
    rw [nmFrom_append (k + 1) r m, Bool.and_assoc, show k + 1 + r.length = k + (r.length + 1) by omega]
theorem nm_step {l : List UInt8} {i : Nat} (h : i < l.length) : nmFrom 0 (l.take (i + 1)) = (nmFrom 0 (l.take i) && okB i l[i]) := by
  rw [List.take_add_one, List.getElem?_eq_getElem h, nmFrom_append]
  have e : (l.take i).length = i := by rw [List.length_take]; omega
  rw [e, Nat.zero_add]
  show (_ && (okB i l[i] && true)) = _
  rw [Bool.and_true]
theorem nm_stop {l : List UInt8} {i : Nat} (h : i < l.length) (hb : okB i l[i] = false) : isName l = false := by
  have e : l = l.take (i + 1) ++ l.drop (i + 1) := (List.take_append_drop _ _).symm
  unfold isName
  rw [e, nmFrom_append, nm_step h, hb, Bool.and_false, Bool.false_and, Bool.false_and]
theorem nm_all {l : List UInt8} (h : nmFrom 0 (l.take l.length) = true) : isName l = (decide (1 ≤ l.length) && decide (l.length ≤ 20)) := by
  unfold isName
  rw [List.take_length] at h
  rw [h, Bool.true_and]

/-! The order of texts. -/
theorem less_irrefl : ∀ l : List UInt8, Op.bytesLess l l = false
  | [] => rfl
  | a :: r => by
    have h := less_irrefl r
    show (decide (a < a) || (a == a && Op.bytesLess r r)) = false
    rw [h, Bool.and_false, Bool.or_false]
    exact decide_eq_false (by rw [UInt8.lt_iff_toNat_lt]; omega)
theorem less_nil (a : List UInt8) : Op.bytesLess a [] = false := by cases a <;> rfl
theorem less_trans : ∀ {a b c : List UInt8}, Op.bytesLess a b = true → Op.bytesLess b c = true → Op.bytesLess a c = true
  | _, [], _, h, _ => by rw [less_nil] at h; cases h
  | _, _ :: _, [], _, h => by rw [less_nil] at h; cases h
  | [], _ :: _, _ :: _, _, _ => rfl
  | x :: a, y :: b, z :: c, h, k => by
    have h : (decide (x < y) || (x == y && Op.bytesLess a b)) = true := h
    have k : (decide (y < z) || (y == z && Op.bytesLess b c)) = true := k
    show (decide (x < z) || (x == z && Op.bytesLess a c)) = true
    simp only [Bool.or_eq_true, Bool.and_eq_true, decide_eq_true_eq, beq_iff_eq] at h k ⊢
    rcases h with h | ⟨h, h'⟩ <;> rcases k with k | ⟨k, k'⟩
    · left; rw [UInt8.lt_iff_toNat_lt] at *; omega
    · left; subst k; exact h
    · left; subst h; exact k
    · right; exact ⟨h.trans k, less_trans h' k'⟩
theorem less_cases : ∀ a b : List UInt8, Op.bytesLess a b = true ∨ a = b ∨ Op.bytesLess b a = true
  | [], [] => .inr (.inl rfl)
  | [], _ :: _ => .inl rfl
  | _ :: _, [] => .inr (.inr rfl)
  | x :: a, y :: b => by
    show (decide (x < y) || (x == y && Op.bytesLess a b)) = true ∨ x :: a = y :: b ∨ (decide (y < x) || (y == x && Op.bytesLess b a)) = true
    simp only [Bool.or_eq_true, Bool.and_eq_true, decide_eq_true_eq, beq_iff_eq]
    by_cases h : x < y
    · exact .inl (.inl h)
    · by_cases h2 : y < x
      · exact .inr (.inr (.inl h2))
      · have e : x = y := by
          rw [UInt8.lt_iff_toNat_lt] at h h2
          exact UInt8.toNat_inj.1 (by omega)
        subst e
        rcases less_cases a b with k | k | k
        · exact .inl (.inr ⟨rfl, k⟩)
        · subst k; exact .inr (.inl rfl)
        · exact .inr (.inr (.inr ⟨rfl, k⟩))
/-- One account and asset ahead of another one. -/
def aheadK (a b : Key) : Bool := Op.bytesLess a.1 b.1 || (a.1 == b.1 && Op.bytesLess a.2 b.2)
theorem ahead_irrefl (a : Key) : aheadK a a = false := by unfold aheadK; rw [less_irrefl, less_irrefl, Bool.and_false]; rfl
theorem ahead_trans {a b c : Key} (h : aheadK a b = true) (k : aheadK b c = true) : aheadK a c = true := by
  unfold aheadK at *
  simp only [Bool.or_eq_true, Bool.and_eq_true, beq_iff_eq] at h k ⊢
  rcases h with h | ⟨h, h'⟩ <;> rcases k with k | ⟨k, k'⟩
  · exact .inl (less_trans h k)
  · exact .inl (k ▸ h)
  · exact .inl (h ▸ k)
  · exact .inr ⟨h.trans k, less_trans h' k'⟩
theorem ahead_cases (a b : Key) : aheadK a b = true ∨ a = b ∨ aheadK b a = true := by
  unfold aheadK
  simp only [Bool.or_eq_true, Bool.and_eq_true, beq_iff_eq]
  rcases less_cases a.1 b.1 with h | h | h
  · exact .inl (.inl h)
  · rcases less_cases a.2 b.2 with k | k | k
    · exact .inl (.inr ⟨h, k⟩)
    · exact .inr (.inl (Prod.ext h k))
    · exact .inr (.inr (.inr ⟨h.symm, k⟩))
  · exact .inr (.inr (.inl h))
theorem ahead_asym {a b : Key} (h : aheadK a b = true) : aheadK b a = false := by
  cases e : aheadK b a with
  | false => rfl
  | true => have := ahead_trans h e; rw [ahead_irrefl] at this; cases this
theorem ahead_ne {a b : Key} (h : aheadK a b = true) : a ≠ b := fun e => by rw [e, ahead_irrefl] at h; cases h

/-! Books. -/
def lineOk (x : Ln) : Bool := isName x.1.1 && (isName x.1.2 && isR x.2)
def lineIn (x : Ln) : Bool := lineOk x && !(sgnR x.2 == 0)
/-- What is asked of the line at a place. -/
def okAt (ls : List Ln) (j : Nat) : Bool := match ls[j]? with
  | some x => lineIn x && (decide (j = 0) || (match ls[j - 1]? with | some y => aheadK y.1 x.1 | none => false))
  | none => true
def mayB (ls : List Ln) : Bool := (List.range ls.length).all (okAt ls)
/-- A book that may be. -/
def Good (ls : List Ln) : Prop := (∀ x ∈ ls, lineIn x = true) ∧ ls.Pairwise fun x y => aheadK x.1 y.1 = true
theorem mayB_iff {ls : List Ln} : mayB ls = true ↔ ∀ j, j < ls.length → okAt ls j = true := by
  unfold mayB
  rw [List.all_eq_true]
  exact ⟨fun h j hj => h j (List.mem_range.2 hj), fun h j hj => h j (List.mem_range.1 hj)⟩
theorem mayB_stop {ls : List Ln} {j : Nat} (hj : j < ls.length) (h : okAt ls j = false) : mayB ls = false := by
  cases e : mayB ls with
  | false => rfl
  | true => rw [mayB_iff.1 e j hj] at h; cases h
theorem chain_pair : ∀ {ls : List Ln}, (∀ j x y, ls[j]? = some x → ls[j + 1]? = some y → aheadK x.1 y.1 = true) → ls.Pairwise fun x y => aheadK x.1 y.1 = true
  | [], _ => List.Pairwise.nil
  | [x], _ => List.pairwise_singleton _ _
  | x :: y :: r, h => by
    have h1 : aheadK x.1 y.1 = true := h 0 x y rfl rfl
    have h2 : (y :: r).Pairwise fun x y => aheadK x.1 y.1 = true := chain_pair fun j u v hu hv => h (j + 1) u v hu hv
    refine List.Pairwise.cons (fun z hz => ?_) h2
    rcases List.mem_cons.1 hz with rfl | hz
    · exact h1
    · exact ahead_trans h1 ((List.pairwise_cons.1 h2).1 z hz)
theorem good_iff {ls : List Ln} : mayB ls = true ↔ Good ls := by
  rw [mayB_iff]
  constructor
  · intro h
    constructor
    · intro x hx
      obtain ⟨j, hj, e⟩ := List.getElem_of_mem hx
      have k := h j hj
      unfold okAt at k
      rw [List.getElem?_eq_getElem hj] at k
      simp only [Bool.and_eq_true] at k
      rw [e] at k
      exact k.1
    · refine chain_pair fun j x y hx hy => ?_
      obtain ⟨hj, e⟩ := List.getElem?_eq_some_iff.1 hy
      have k := h (j + 1) hj
      unfold okAt at k
      rw [hy] at k
      simp only [Bool.and_eq_true, Nat.add_sub_cancel, hx] at k
      rcases Bool.or_eq_true_iff.1 k.2 with k | k
      · exact absurd (of_decide_eq_true k) (by omega)
      · exact k
  · rintro ⟨h1, h2⟩ j hj
    unfold okAt
    rw [List.getElem?_eq_getElem hj]
    simp only [Bool.and_eq_true]
    refine ⟨h1 _ (List.getElem_mem hj), ?_⟩
    by_cases h0 : j = 0
    · rw [decide_eq_true h0]; rfl
    · rw [decide_eq_false h0, Bool.false_or, List.getElem?_eq_getElem (by omega)]
      exact List.pairwise_iff_getElem.1 h2 (j - 1) j (by omega) hj (by omega)

/-- The line of an account and asset. -/
def lineOf (ls : List Ln) (k : Key) : Option Ln := ls.find? fun x => x.1 == k
def rawB (ls : List Ln) (k : Key) : Key := match lineOf ls k with | some x => x.2 | none => ([48], [49])
def getB (ls : List Ln) (k : Key) : Key := if mayB ls then rawB ls k else ([], [])
/-- A row of lines with that of k in its place (none, if it is laid already), and without the old one. -/
def insB : List Ln → Bool → Key → Key → List Ln
  | [], laid, k, q => if laid then [] else [(k, q)]
  | x :: r, laid, k, q => (if !laid && !aheadK x.1 k then [(k, q)] else []) ++ ((if x.1 == k then [] else [x]) ++ insB r (laid || !aheadK x.1 k) k q)
def putB (ls : List Ln) (k q : Key) : List Ln := insB ls (sgnR q == 0) k q
def addB (ls : List Ln) (x : Ln) : List Ln × Bool := if mayB ls && lineOk x then (putB ls x.1 (addR (getB ls x.1) x.2), true) else ([], false)
def holdB (ls : List Ln) (a : List UInt8) : List Ln := if mayB ls then ls.filter fun x => x.1.2 == a else []
def sumL (ls : List Ln) : Key := ls.foldl (fun s x => addR s x.2) ([48], [49])
def totB (ls : List Ln) (a : List UInt8) : Key := if mayB ls then sumL (holdB ls a) else ([], [])

/-! What a good book has of an account and asset. -/
def hasQ (ls : List Ln) (k : Key) : Rat := match lineOf ls k with | some x => valR x.2 | none => 0
theorem zero_rd : ((([48] : List UInt8), ([49] : List UInt8)) : Key) = rd 0 := by
  show (([48] : List UInt8), ([49] : List UInt8)) = (wd 0, dig 1)
  rw [wd_0, dig_1]
theorem rawB_rd {ls : List Ln} (h : ∀ x ∈ ls, lineIn x = true) (k : Key) : rawB ls k = rd (hasQ ls k) := by
  unfold rawB hasQ
  cases e : lineOf ls k with
  | none => exact zero_rd
  | some x =>
    have hx := h x (List.mem_of_find?_eq_some e)
    unfold lineIn lineOk at hx
    simp only [Bool.and_eq_true] at hx
    exact (rd_valR hx.1.2.2).symm
theorem lineIn_rat {x : Ln} (h : lineIn x = true) : isR x.2 = true ∧ valR x.2 ≠ 0 := by
  unfold lineIn lineOk at h
  simp only [Bool.and_eq_true, Bool.not_eq_true', beq_eq_false_iff_ne] at h
  refine ⟨h.1.2.2, fun e => h.2 ?_⟩
  unfold sgnR
  rw [if_pos h.1.2.2, e]
  rfl
/-- A good row falls into what is ahead of k, the line of k, and what is behind. -/
theorem parts : ∀ {ls : List Ln}, ls.Pairwise (fun x y => aheadK x.1 y.1 = true) → ∀ k : Key, ∃ A M C, ls = A ++ (M ++ C) ∧ (∀ x ∈ A, aheadK x.1 k = true) ∧ (∀ x ∈ C, aheadK k x.1 = true) ∧ (M = [] ∨ ∃ p, M = [(k, p)])
  | [], _, k => ⟨[], [], [], rfl, fun _ h => (by cases h), fun _ h => (by cases h), .inl rfl⟩
  | x :: r, h, k => by
    obtain ⟨h1, h2⟩ := List.pairwise_cons.1 h
    rcases ahead_cases x.1 k with e | e | e
    · obtain ⟨A, M, C, rfl, hA, hC, hM⟩ := parts h2 k
      refine ⟨x :: A, M, C, rfl, fun y hy => ?_, hC, hM⟩
      rcases List.mem_cons.1 hy with rfl | hy
      · exact e
      · exact hA y hy
    · refine ⟨[], [x], r, rfl, fun _ h => (by cases h), fun y hy => e ▸ h1 y hy, .inr ⟨x.2, ?_⟩⟩
      rw [← e]
    · refine ⟨[], [], x :: r, rfl, fun _ h => (by cases h), fun y hy => ?_, .inl rfl⟩
      rcases List.mem_cons.1 hy with rfl | hy
      · exact e
      · exact ahead_trans e (h1 y hy)
theorem ins_far : ∀ {C : List Ln} {k : Key} (q : Key), (∀ x ∈ C, aheadK k x.1 = true) → insB C true k q = C
  | [], _, _, _ => rfl
  | x :: r, k, q, h => by
    have e := h x (List.mem_cons_self ..)
    show (if !true && !aheadK x.1 k then [(k, q)] else []) ++ ((if x.1 == k then [] else [x]) ++ insB r (true || !aheadK x.1 k) k q) = x :: r
    rw [beq_false_of_ne (ahead_ne e).symm, Bool.true_or, ins_far q fun y hy => h y (List.mem_cons_of_mem _ hy)]
    rfl
theorem ins_near {C : List Ln} {k : Key} (q : Key) (h : ∀ x ∈ C, aheadK k x.1 = true) : insB C false k q = (k, q) :: C := by
  cases C with
  | nil => rfl
  | cons x r =>
    have e := h x (List.mem_cons_self ..)
    show (if !false && !aheadK x.1 k then [(k, q)] else []) ++ ((if x.1 == k then [] else [x]) ++ insB r (false || !aheadK x.1 k) k q) = (k, q) :: x :: r
    rw [beq_false_of_ne (ahead_ne e).symm, ahead_asym e, show (false || !false) = true from rfl, ins_far q fun y hy => h y (List.mem_cons_of_mem _ hy)]
    rfl
theorem ins_ahead : ∀ {A : List Ln} {k : Key} (q : Key) (laid : Bool) (D : List Ln), (∀ x ∈ A, aheadK x.1 k = true) → insB (A ++ D) laid k q = A ++ insB D laid k q
  | [], _, _, _, _, _ => rfl
  | x :: r, k, q, laid, D, h => by
    have e := h x (List.mem_cons_self ..)
    show (if !laid && !aheadK x.1 k then [(k, q)] else []) ++ ((if x.1 == k then [] else [x]) ++ insB (r ++ D) (laid || !aheadK x.1 k) k q) = x :: (r ++ insB D laid k q)
    rw [beq_false_of_ne (ahead_ne e), e, show (!true) = false from rfl, Bool.and_false, Bool.or_false, ins_ahead q laid D fun y hy => h y (List.mem_cons_of_mem _ hy)]
    rfl
/-- The line of k in its place. -/
theorem put_parts {A M C : List Ln} {k : Key} (q : Key) (hA : ∀ x ∈ A, aheadK x.1 k = true) (hC : ∀ x ∈ C, aheadK k x.1 = true) (hM : M = [] ∨ ∃ p, M = [(k, p)]) :
    putB (A ++ (M ++ C)) k q = A ++ ((if sgnR q == 0 then [] else [(k, q)]) ++ C) := by
  unfold putB
  rw [ins_ahead q _ _ hA]
  congr 1
  rcases hM with rfl | ⟨p, rfl⟩
  · rw [List.nil_append]
    cases e : sgnR q == 0 with
    | true => rw [ins_far q hC]; rfl
    | false => rw [ins_near q hC]; rfl
  · show (if !(sgnR q == 0) && !aheadK k k then [(k, q)] else []) ++ ((if k == k then [] else [(k, p)]) ++ insB C ((sgnR q == 0) || !aheadK k k) k q) = _
    rw [ahead_irrefl, beq_self_eq_true, show (!false) = true from rfl, Bool.and_true, Bool.or_true, ins_far q hC]
    cases sgnR q == 0 <;> rfl
theorem sgnR_zero {q : Key} (h : isR q = true) : (sgnR q == 0) = true ↔ valR q = 0 := by
  unfold sgnR
  rw [if_pos h, beq_iff_eq, sgnQ_eq_zero]
theorem pair_app {R : Ln → Ln → Prop} {A B : List Ln} : (A ++ B).Pairwise R ↔ A.Pairwise R ∧ B.Pairwise R ∧ ∀ a ∈ A, ∀ b ∈ B, R a b := List.pairwise_append
/-- A good row stays so. -/
theorem put_good {ls : List Ln} {k q : Key} (h : Good ls) (hk : lineOk (k, q) = true) : Good (putB ls k q) := by
  obtain ⟨h1, h2⟩ := h
  obtain ⟨A, M, C, rfl, hA, hC, hM⟩ := parts h2 k
  rw [put_parts q hA hC hM]
  obtain ⟨p1, p2, p3⟩ := pair_app.1 h2
  obtain ⟨p4, p5, p6⟩ := pair_app.1 p2
  have hAC : ∀ a ∈ A, ∀ b ∈ C, aheadK a.1 b.1 = true := fun a ha b hb => ahead_trans (hA a ha) (hC b hb)
  cases e : sgnR q == 0 with
  | true =>
    refine ⟨fun x hx => h1 x ?_, pair_app.2 ⟨p1, p5, hAC⟩⟩
    rcases List.mem_append.1 hx with hx | hx
    · exact List.mem_append.2 (.inl hx)
    · exact List.mem_append.2 (.inr (List.mem_append.2 (.inr hx)))
  | false =>
    constructor
    · intro x hx
      rcases List.mem_append.1 hx with hx | hx
      · exact h1 x (List.mem_append.2 (.inl hx))
      · rcases List.mem_append.1 hx with hx | hx
        · obtain rfl := List.mem_singleton.1 hx
          unfold lineIn
          rw [hk]
          show (true && !(sgnR q == 0)) = true
          rw [e]; rfl
        · exact h1 x (List.mem_append.2 (.inr (List.mem_append.2 (.inr hx))))
    · refine pair_app.2 ⟨p1, pair_app.2 ⟨List.pairwise_singleton _ _, p5, fun a ha b hb => ?_⟩, fun a ha b hb => ?_⟩
      · obtain rfl := List.mem_singleton.1 ha
        exact hC b hb
      · rcases List.mem_append.1 hb with hb | hb
        · obtain rfl := List.mem_singleton.1 hb
          exact hA a ha
        · exact hAC a ha b hb
theorem of_some {ls : List Ln} {k : Key} {x : Ln} (h : lineOf ls k = some x) : x ∈ ls ∧ x.1 = k := by
  unfold lineOf at h
  have e := List.find?_some h
  exact ⟨List.mem_of_find?_eq_some h, eq_of_beq e⟩
theorem of_none {A : List Ln} {k : Key} (h : ∀ x ∈ A, x.1 ≠ k) : lineOf A k = none := List.find?_eq_none.2 fun x hx => by
  rw [beq_iff_eq]; exact h x hx
theorem of_append (A B : List Ln) (k : Key) : lineOf (A ++ B) k = (lineOf A k).or (lineOf B k) := List.find?_append
theorem put_has {ls : List Ln} {k q : Key} (h : ls.Pairwise fun x y => aheadK x.1 y.1 = true) (hq : isR q = true) (m : Key) : hasQ (putB ls k q) m = if m = k then valR q else hasQ ls m := by
  obtain ⟨A, M, C, rfl, hA, hC, hM⟩ := parts h k
  rw [put_parts q hA hC hM]
  have nA : lineOf A k = none := of_none fun x hx => ahead_ne (hA x hx)
  have nC : lineOf C k = none := of_none fun x hx => (ahead_ne (hC x hx)).symm
  unfold hasQ
  rw [of_append, of_append, of_append, of_append]
  by_cases e : m = k
  · subst e
    rw [if_pos rfl, nA, nC, Option.or_none, Option.none_or]
    cases z : sgnR q == 0 with
    | true => exact ((sgnR_zero hq).1 z).symm
    | false =>
      have : lineOf [(m, q)] m = some (m, q) := by unfold lineOf; rw [List.find?_cons, beq_self_eq_true]
      show (match lineOf [(m, q)] m with | some x => valR x.2 | none => 0) = _
      rw [this]
  · have n1 : ∀ p, lineOf [(k, p)] m = none := fun p => of_none fun x hx => by
      obtain rfl := List.mem_singleton.1 hx
      exact fun h => e h.symm
    rw [if_neg e]
    have n2 : lineOf M m = none := by
      rcases hM with rfl | ⟨p, rfl⟩
      · rfl
      · exact n1 p
    have n3 : lineOf (if sgnR q == 0 then [] else [(k, q)]) m = none := by
      cases sgnR q == 0
      · exact n1 q
      · rfl
    rw [n2, n3]
/-- A good row is told by what it has. -/
theorem good_ext : ∀ {ls ms : List Ln}, Good ls → Good ms → (∀ k, hasQ ls k = hasQ ms k) → ls = ms := by
  have key : ∀ {ls ms : List Ln}, Good ls → Good ms → (∀ k, hasQ ls k = hasQ ms k) → ∀ x ∈ ls, x ∈ ms := by
    intro ls ms hl hm h x hx
    have one : ∀ {ls : List Ln}, Good ls → ∀ y ∈ ls, lineOf ls y.1 = some y := by
      intro ls hl y hy
      cases e : lineOf ls y.1 with
      | none => exact absurd (List.find?_eq_none.1 e y hy) (by simp)
      | some z =>
        have hz := List.mem_of_find?_eq_some e
        have ez : z.1 = y.1 := (of_some e).2
        obtain ⟨i, hi, rfl⟩ := List.getElem_of_mem hz
        obtain ⟨j, hj, rfl⟩ := List.getElem_of_mem hy
        have : i = j := by
          rcases Nat.lt_trichotomy i j with c | c | c
          · exact absurd ez (ahead_ne (List.pairwise_iff_getElem.1 hl.2 i j hi hj c))
          · exact c
          · exact absurd ez.symm (ahead_ne (List.pairwise_iff_getElem.1 hl.2 j i hj hi c))
        subst this
        rfl
    have hq := lineIn_rat (hl.1 x hx)
    have e := h x.1
    unfold hasQ at e
    rw [one hl x hx] at e
    have e : valR x.2 = _ := e
    cases k : lineOf ms x.1 with
    | none => rw [k] at e; exact absurd e hq.2
    | some z =>
      rw [k] at e
      have hz := List.mem_of_find?_eq_some k
      have ez : z.1 = x.1 := (of_some k).2
      have e : valR x.2 = valR z.2 := e
      have e2 : x.2 = z.2 := by rw [← rd_valR hq.1, e, rd_valR (lineIn_rat (hm.1 z hz)).1]
      have : x = z := Prod.ext ez.symm e2
      rw [this]; exact hz
  intro ls ms hl hm h
  have sub := key hl hm h
  have sup := key hm hl fun k => (h k).symm
  have ext : ∀ {ls ms : List Ln}, ls.Pairwise (fun x y => aheadK x.1 y.1 = true) → ms.Pairwise (fun x y => aheadK x.1 y.1 = true) → (∀ x, x ∈ ls ↔ x ∈ ms) → ls = ms := by
    intro ls
    induction ls with
    | nil =>
      intro ms _ _ h
      cases ms with
      | nil => rfl
      | cons y r => exact absurd ((h y).2 (List.mem_cons_self ..)) (by simp)
    | cons x r ih =>
      intro ms h1 h2 h
      cases ms with
      | nil => exact absurd ((h x).1 (List.mem_cons_self ..)) (by simp)
      | cons y t =>
        obtain ⟨a1, a2⟩ := List.pairwise_cons.1 h1
        obtain ⟨b1, b2⟩ := List.pairwise_cons.1 h2
        have exy : x = y := by
          rcases List.mem_cons.1 ((h x).1 (List.mem_cons_self ..)) with e | e
          · exact e
          · rcases List.mem_cons.1 ((h y).2 (List.mem_cons_self ..)) with e' | e'
            · exact e'.symm
            · have := ahead_trans (a1 y e') (b1 x e)
              rw [ahead_irrefl] at this; cases this
        subst exy
        congr 1
        refine ih a2 b2 fun z => ?_
        constructor
        · intro hz
          rcases List.mem_cons.1 ((h z).1 (List.mem_cons_of_mem _ hz)) with e | e
          · subst e; exact absurd (a1 z hz) (by rw [ahead_irrefl]; decide)
          · exact e
        · intro hz
          rcases List.mem_cons.1 ((h z).2 (List.mem_cons_of_mem _ hz)) with e | e
          · subst e; exact absurd (b1 z hz) (by rw [ahead_irrefl]; decide)
          · exact e
  exact ext hl.2 hm.2 fun x => ⟨sub x, sup x⟩

/-! Totals. -/
def totQ (ls : List Ln) (a : List UInt8) : Rat := (ls.filter fun x => x.1.2 == a).foldr (fun x s => valR x.2 + s) 0
theorem foldr_more : ∀ (L : List Ln) (s : Rat), L.foldr (fun x s => valR x.2 + s) s = L.foldr (fun x s => valR x.2 + s) 0 + s
  | [], s => (Rat.zero_add s).symm
  | x :: r, s => by
    show valR x.2 + r.foldr _ s = valR x.2 + r.foldr _ 0 + s
    rw [foldr_more r s, Rat.add_assoc]
theorem totQ_append (A B : List Ln) (a : List UInt8) : totQ (A ++ B) a = totQ A a + totQ B a := by
  unfold totQ
  rw [List.filter_append, List.foldr_append]
  exact foldr_more _ _
theorem totQ_one (k p : Key) (a : List UInt8) : totQ [(k, p)] a = if k.2 = a then valR p else 0 := by
  unfold totQ
  by_cases h : k.2 = a
  · rw [if_pos h, List.filter_cons_of_pos (by simpa using h)]
    show valR p + 0 = _
    grind
  · rw [if_neg h, List.filter_cons_of_neg (by simpa using h)]
    rfl
theorem put_tot {ls : List Ln} {k q : Key} (h : ls.Pairwise fun x y => aheadK x.1 y.1 = true) (hq : isR q = true) (a : List UInt8) :
    totQ (putB ls k q) a = totQ ls a + if k.2 = a then valR q - hasQ ls k else 0 := by
  have hh := h
  obtain ⟨A, M, C, rfl, hA, hC, hM⟩ := parts h k
  rw [put_parts q hA hC hM, totQ_append, totQ_append, totQ_append, totQ_append]
  have nA : lineOf A k = none := of_none fun x hx => ahead_ne (hA x hx)
  have nC : lineOf C k = none := of_none fun x hx => (ahead_ne (hC x hx)).symm
  have e1 : totQ (if sgnR q == 0 then [] else [(k, q)]) a = if k.2 = a then valR q else 0 := by
    cases z : sgnR q == 0 with
    | true =>
      rw [(sgnR_zero hq).1 z]
      show (0 : Rat) = _
      split <;> rfl
    | false => exact totQ_one k q a
  have e2 : totQ M a = if k.2 = a then hasQ (A ++ (M ++ C)) k else 0 := by
    unfold hasQ
    rw [of_append, of_append, nA, nC, Option.or_none, Option.none_or]
    rcases hM with rfl | ⟨p, rfl⟩
    · show (0 : Rat) = if k.2 = a then 0 else 0
      split <;> rfl
    · have : lineOf [(k, p)] k = some (k, p) := by unfold lineOf; rw [List.find?_cons, beq_self_eq_true]
      rw [this]
      exact totQ_one k p a
  rw [e1, e2]
  split <;> grind
theorem sum_rd : ∀ {ls : List Ln} (s : Rat), (∀ x ∈ ls, isR x.2 = true) → ls.foldl (fun s x => addR s x.2) (rd s) = rd (s + ls.foldr (fun x s => valR x.2 + s) 0)
  | [], s, _ => by show rd s = rd (s + 0); rw [Rat.add_zero]
  | x :: r, s, h => by
    have hx := h x (List.mem_cons_self ..)
    have e : addR (rd s) x.2 = rd (s + valR x.2) := by unfold addR; rw [isR_rd, hx, valR_rd]; rfl
    show r.foldl _ (addR (rd s) x.2) = rd (s + (valR x.2 + r.foldr _ 0))
    rw [e, sum_rd _ fun y hy => h y (List.mem_cons_of_mem _ hy), Rat.add_assoc]
theorem totB_rd {ls : List Ln} (h : Good ls) (a : List UInt8) : totB ls a = rd (totQ ls a) := by
  have hm := good_iff.2 h
  unfold totB holdB sumL
  rw [if_pos hm, if_pos hm, zero_rd, sum_rd]
  · unfold totQ; rw [Rat.zero_add]
  · intro x hx
    exact (lineIn_rat (h.1 x (List.mem_filter.1 hx).1)).1
theorem getB_rd {ls : List Ln} (h : Good ls) (k : Key) : getB ls k = rd (hasQ ls k) := by
  unfold getB
  rw [if_pos (good_iff.2 h), rawB_rd h.1]
/-- A line added. -/
theorem addB_no {ls : List Ln} {x : Ln} (h : (mayB ls && lineOk x) = false) : addB ls x = ([], false) := by unfold addB; rw [h]; rfl
theorem addB_yes {ls : List Ln} {x : Ln} (h : Good ls) (hx : lineOk x = true) : ∃ ms, addB ls x = (ms, true) ∧ Good ms ∧ (∀ k, hasQ ms k = hasQ ls k + if k = x.1 then valR x.2 else 0) ∧ ∀ a, totQ ms a = totQ ls a + if x.1.2 = a then valR x.2 else 0 := by
  have hr : isR x.2 = true := by unfold lineOk at hx; simp only [Bool.and_eq_true] at hx; exact hx.2.2
  have e : addR (getB ls x.1) x.2 = rd (hasQ ls x.1 + valR x.2) := by rw [getB_rd h]; unfold addR; rw [isR_rd, hr, valR_rd]; rfl
  have hok : lineOk (x.1, rd (hasQ ls x.1 + valR x.2)) = true := by
    unfold lineOk at hx ⊢
    simp only [Bool.and_eq_true] at hx ⊢
    exact ⟨hx.1, hx.2.1, isR_rd _⟩
  refine ⟨putB ls x.1 (rd (hasQ ls x.1 + valR x.2)), ?_, put_good h hok, fun k => ?_, fun a => ?_⟩
  · unfold addB; rw [good_iff.2 h, hx, e]; rfl
  · rw [put_has h.2 (isR_rd _), valR_rd]
    split
    · rename_i e; rw [e]
    · rw [Rat.add_zero]
  · rw [put_tot h.2 (isR_rd _), valR_rd]
    split <;> grind
end Go.Proofs.YtmllklfjngapiaaDoor

/- Plain words of the program's book: the order of two keys as a number, a place found by halves, a line put into a row that is cut there, sums by halves. Own work; no program text. -/
namespace Go.Proofs.YtmllklfjngapiaaDoor

/-! Two texts' order, as a number. -/
theorem cmp_lt : ∀ {a b : List UInt8}, Op.bytesLess a b = true → Lib.compareBytes a b = -1
  | _, [], h => by rw [less_nil] at h; cases h
  | [], _ :: _, _ => rfl
  | x :: a, y :: b, h => by
    have h : (decide (x < y) || (x == y && Op.bytesLess a b)) = true := h
    show (if x < y then -1 else if y < x then 1 else Lib.compareBytes a b) = (-1 : Int)
    simp only [Bool.or_eq_true, Bool.and_eq_true, decide_eq_true_eq, beq_iff_eq] at h
    by_cases hlt : x < y
    · rw [if_pos hlt]
    · rcases h with h | ⟨h, h'⟩
      · exact absurd h hlt
      · subst h
        rw [if_neg hlt, if_neg hlt, cmp_lt h']
theorem cmp_self : ∀ a : List UInt8, Lib.compareBytes a a = 0
  | [] => rfl
  | x :: a => by
    show (if x < x then -1 else if x < x then 1 else Lib.compareBytes a a) = (0 : Int)
    have h : ¬ x < x := by rw [UInt8.lt_iff_toNat_lt]; omega
    rw [if_neg h, if_neg h, cmp_self a]
theorem cmp_gt : ∀ {a b : List UInt8}, Op.bytesLess b a = true → Lib.compareBytes a b = 1
  | [], b, h => by rw [less_nil] at h; cases h
  | _ :: _, [], _ => rfl
  | x :: a, y :: b, h => by
    have h : (decide (y < x) || (y == x && Op.bytesLess b a)) = true := h
    show (if x < y then -1 else if y < x then 1 else Lib.compareBytes a b) = (1 : Int)
    simp only [Bool.or_eq_true, Bool.and_eq_true, decide_eq_true_eq, beq_iff_eq] at h
    rcases h with h | ⟨h, h'⟩
    · have h2 : ¬ x < y := by rw [UInt8.lt_iff_toNat_lt] at h ⊢; omega
      rw [if_neg h2, if_pos h]
    · subst h
      have h2 : ¬ y < y := by rw [UInt8.lt_iff_toNat_lt]; omega
      rw [if_neg h2, if_neg h2, cmp_gt h']
/-- The order of two keys, as a number: the first one that is not 0. -/
def orZ (a b : Int) : Int := if a = 0 then b else a
def ordK (k l : Key) : Int := orZ (Lib.compareBytes k.1 l.1) (Lib.compareBytes k.2 l.2)
theorem ord_lt {k l : Key} (h : aheadK k l = true) : ordK k l = -1 := by
  unfold aheadK at h
  unfold ordK orZ
  simp only [Bool.or_eq_true, Bool.and_eq_true, beq_iff_eq] at h
  rcases h with h | ⟨h, h'⟩
  · rw [cmp_lt h]; rfl
  · rw [h, cmp_self, if_pos rfl, cmp_lt h']
theorem ord_self (k : Key) : ordK k k = 0 := by unfold ordK orZ; rw [cmp_self, cmp_self]; rfl
theorem ord_gt {k l : Key} (h : aheadK l k = true) : ordK k l = 1 := by
  unfold aheadK at h
  unfold ordK orZ
  simp only [Bool.or_eq_true, Bool.and_eq_true, beq_iff_eq] at h
  rcases h with h | ⟨h, h'⟩
  · rw [cmp_gt h]; rfl
  · rw [h, cmp_self, if_pos rfl, cmp_gt h']
theorem ord_neg {k l : Key} : ordK k l < 0 ↔ aheadK k l = true := by
  rcases ahead_cases k l with h | h | h
  · rw [ord_lt h]; exact ⟨fun _ => h, fun _ => by decide⟩
  · subst h; rw [ord_self, ahead_irrefl]; exact ⟨fun h => absurd h (by decide), fun h => by cases h⟩
  · rw [ord_gt h, ahead_asym h]; exact ⟨fun h => absurd h (by decide), fun h => by cases h⟩
theorem ord_zero {k l : Key} : ordK k l = 0 ↔ k = l := by
  rcases ahead_cases k l with h | h | h
  · rw [ord_lt h]; exact ⟨fun h => absurd h (by decide), fun e => absurd e (ahead_ne h)⟩
  · subst h; rw [ord_self]; exact ⟨fun _ => rfl, fun _ => rfl⟩
  · rw [ord_gt h]; exact ⟨fun h => absurd h (by decide), fun e => absurd e.symm (ahead_ne h)⟩
theorem ord_geq (k l : Key) : decide (0 ≤ ordK k l) = !aheadK k l := by
  cases h : aheadK k l with
  | true => rw [ord_lt h]; rfl
  | false =>
    refine decide_eq_true ?_
    rcases Int.lt_or_le (ordK k l) 0 with c | c
    · rw [ord_neg.1 c] at h; cases h
    · exact c
theorem orZ_left {a b : Int} (h : a ≠ 0) : orZ a b = a := if_neg h
theorem orZ_right (b : Int) : orZ 0 b = b := if_pos rfl

/-! Names, the mark taken away. -/
theorem nm_zero (l : List UInt8) : nmFrom 1 l = l.all nameC := by
  have key : ∀ (l : List UInt8) (k : Nat), nmFrom (k + 1) l = l.all nameC := by
    intro l
    induction l with
    | nil => intro k; rfl
    | cons c r ih =>
      intro k
      show (okB (k + 1) c && nmFrom (k + 1 + 1) r) = (nameC c && r.all nameC)
      rw [ih (k + 1)]
      have : okB (k + 1) c = nameC c := by unfold okB; rw [decide_eq_false (Nat.succ_ne_zero k), Bool.and_false, Bool.or_false]
      rw [this]
  exact key l 0
/-- The mark at the first place taken away. -/
def noMark (l : List UInt8) : List UInt8 := match l with | 33 :: r => r | l => l
theorem trim_mark : ∀ l : List UInt8, Lib.trimPrefix l [33] = noMark l
  | [] => rfl
  | c :: r => by
    unfold Lib.trimPrefix noMark
    by_cases h : c = 33
    · subst h; rfl
    · have e : Lib.hasPrefix (c :: r) [33] = false := by
        show ([33] : List UInt8).isPrefixOf (c :: r) = false
        show ((33 : UInt8) == c && _) = false
        rw [beq_false_of_ne (fun e => h e.symm), Bool.false_and]
      rw [e]
      show c :: r = _
      split
      · rename_i r' heq; exact absurd (List.cons.inj heq).1 h
      · rfl
theorem name_mark (l : List UInt8) : isName l = ((noMark l).all nameC && (decide (1 ≤ l.length) && decide (l.length ≤ 20))) := by
  unfold isName
  cases l with
  | nil => rfl
  | cons c r =>
    congr 1
    show (okB 0 c && nmFrom 1 r) = _
    rw [nm_zero]
    unfold noMark
    split
    · rename_i r' heq
      obtain ⟨rfl, rfl⟩ := List.cons.inj heq
      rw [show okB 0 33 = true from by decide, Bool.true_and]
    · rename_i l' hne
      have h33 : c ≠ 33 := fun e => hne r (by rw [e])
      have : okB 0 c = nameC c := by
        unfold okB
        rw [decide_eq_false (show ¬ c.toNat = 33 from fun e => h33 (UInt8.toNat_inj.1 e)), Bool.false_and, Bool.or_false]
      rw [this]; rfl
theorem noMark_len (l : List UInt8) : (noMark l).length ≤ l.length := by
  unfold noMark
  split
  · exact Nat.le_succ _
  · exact Nat.le_refl _

/-! A line may be. -/
theorem lineIn_sgn (x : Ln) : lineIn x = ((isName x.1.1 && isName x.1.2) && !(sgnR x.2 == 0)) := by
  unfold lineIn lineOk
  cases h : isR x.2 with
  | true => rw [Bool.and_true]
  | false =>
    have e : sgnR x.2 = 0 := by unfold sgnR; rw [h]; rfl
    rw [e, Bool.and_false, Bool.and_false, Bool.false_and]
    show false = (_ && false)
    rw [Bool.and_false]
theorem lineOk_may (x : Ln) : lineOk x = ((isName x.1.1 && isName x.1.2) && isR x.2) := by unfold lineOk; rw [Bool.and_assoc]

/-! A place found by halves. -/
/-- How many lines stand ahead of k. -/
def rank (ls : List Ln) (k : Key) : Nat := ls.countP fun x => aheadK x.1 k
theorem rank_parts {A M C : List Ln} {k : Key} (hA : ∀ x ∈ A, aheadK x.1 k = true) (hC : ∀ x ∈ C, aheadK k x.1 = true) (hM : M = [] ∨ ∃ p, M = [(k, p)]) : rank (A ++ (M ++ C)) k = A.length := by
  have hc : C.countP (fun x => aheadK x.1 k) = 0 := List.countP_eq_zero.2 fun x hx => by rw [ahead_asym (hC x hx)]; decide
  unfold rank
  rw [List.countP_append, List.countP_append, List.countP_eq_length.2 hA, hc]
  rcases hM with rfl | ⟨p, rfl⟩
  · rfl
  · rw [List.countP_eq_zero.2 fun x hx => by obtain rfl := List.mem_singleton.1 hx; rw [ahead_irrefl]; decide]
    rfl
/-- What stands ahead stands ahead of what does not. -/
theorem ahead_mono {ls : List Ln} (h : ls.Pairwise fun x y => aheadK x.1 y.1 = true) {k : Key} {i j : Nat} {x y : Ln} (hij : i ≤ j) (hx : ls[i]? = some x) (hy : ls[j]? = some y) (ha : aheadK y.1 k = true) : aheadK x.1 k = true := by
  rcases Nat.lt_or_eq_of_le hij with c | c
  · obtain ⟨hi, rfl⟩ := List.getElem?_eq_some_iff.1 hx
    obtain ⟨hj, rfl⟩ := List.getElem?_eq_some_iff.1 hy
    exact ahead_trans (List.pairwise_iff_getElem.1 h i j hi hj c) ha
  · subst c; rw [hx] at hy; obtain rfl := Option.some.inj hy; exact ha
/-- Between the two bounds nothing is left: that is the rank. -/
theorem rank_bound {ls : List Ln} {k : Key} {i : Nat} (hi : i ≤ ls.length) (h1 : ∀ t x, t < i → ls[t]? = some x → aheadK x.1 k = true) (h2 : ∀ t x, i ≤ t → ls[t]? = some x → aheadK x.1 k = false) : i = rank ls k := by
  unfold rank
  have e : ls.take i ++ ls.drop i = ls := List.take_append_drop _ _
  rw [← e, List.countP_append]
  rw [List.countP_eq_length.2 fun x hx => by
    obtain ⟨t, ht⟩ := List.mem_iff_getElem?.1 hx
    have hlt : t < i := by
      have := (List.getElem?_eq_some_iff.1 ht).1
      rw [List.length_take] at this; omega
    rw [List.getElem?_take_of_lt hlt] at ht
    exact h1 t x hlt ht]
  rw [List.countP_eq_zero.2 fun x hx => by
    obtain ⟨t, ht⟩ := List.mem_iff_getElem?.1 hx
    rw [List.getElem?_drop] at ht
    rw [h2 (i + t) x (by omega) ht]; decide]
  rw [List.length_take]; omega
theorem rank_le (ls : List Ln) (k : Key) : rank ls k ≤ ls.length := List.countP_le_length
/-- Is the line at the place that of k? -/
def thereB (ls : List Ln) (k : Key) : Bool := match ls[rank ls k]? with | some x => x.1 == k | none => false
/-- A good row, by its place: what is ahead, that of k, what is behind. -/
theorem place {ls : List Ln} (h : ls.Pairwise fun x y => aheadK x.1 y.1 = true) (k : Key) :
    (thereB ls k = true ∧ ∃ p, ls[rank ls k]? = some (k, p) ∧ lineOf ls k = some (k, p) ∧ ∀ q, putB ls k q = ls.take (rank ls k) ++ ((if sgnR q == 0 then [] else [(k, q)]) ++ ls.drop (rank ls k + 1))) ∨
    (thereB ls k = false ∧ lineOf ls k = none ∧ ∀ q, putB ls k q = ls.take (rank ls k) ++ ((if sgnR q == 0 then [] else [(k, q)]) ++ ls.drop (rank ls k))) := by
  obtain ⟨A, M, C, rfl, hA, hC, hM⟩ := parts h k
  have hr := rank_parts hA hC hM
  have nA : lineOf A k = none := of_none fun x hx => ahead_ne (hA x hx)
  have nC : lineOf C k = none := of_none fun x hx => (ahead_ne (hC x hx)).symm
  rcases hM with rfl | ⟨p, rfl⟩
  · right
    refine ⟨?_, ?_, fun q => ?_⟩
    · unfold thereB
      rw [hr, List.nil_append, List.getElem?_append_right (Nat.le_refl _), Nat.sub_self]
      cases C with
      | nil => rfl
      | cons y r => exact beq_false_of_ne (ahead_ne (hC y (List.mem_cons_self ..))).symm
    · rw [of_append, of_append, nA, nC]; rfl
    · rw [put_parts q hA hC (.inl rfl), hr, List.take_left, List.drop_left]; rfl
  · left
    refine ⟨?_, p, ?_, ?_, fun q => ?_⟩
    · unfold thereB
      rw [hr, List.getElem?_append_right (Nat.le_refl _), Nat.sub_self]
      exact beq_self_eq_true k
    · rw [hr, List.getElem?_append_right (Nat.le_refl _), Nat.sub_self]; rfl
    · rw [of_append, of_append, nA]
      have : lineOf [(k, p)] k = some (k, p) := by unfold lineOf; rw [List.find?_cons, beq_self_eq_true]
      rw [this]; rfl
    · rw [put_parts q hA hC (.inr ⟨p, rfl⟩), hr, List.take_left]
      congr 2
      rw [List.drop_append, List.drop_of_length_le (Nat.le_succ _), Nat.add_sub_cancel_left]; rfl

/-! Sums by halves. -/
theorem sum_total {ls : List Ln} (h : ∀ x ∈ ls, isR x.2 = true) : sumL ls = rd (ls.foldr (fun x s => valR x.2 + s) 0) := by
  unfold sumL
  rw [zero_rd, sum_rd _ h, Rat.zero_add]
theorem addR_rd (p q : Rat) : addR (rd p) (rd q) = rd (p + q) := by unfold addR; rw [isR_rd, isR_rd, valR_rd, valR_rd]; rfl
theorem sum_halves {ls ms : List Ln} (h : ∀ x ∈ ls, isR x.2 = true) (k : ∀ x ∈ ms, isR x.2 = true) : addR (sumL ls) (sumL ms) = sumL (ls ++ ms) := by
  rw [sum_total h, sum_total k, sum_total fun x hx => (List.mem_append.1 hx).elim (h x) (k x), addR_rd, List.foldr_append, foldr_more ls (List.foldr _ 0 ms)]
theorem sum_one {x : Ln} (h : isR x.2 = true) : sumL [x] = x.2 := by
  rw [sum_total fun y hy => List.mem_singleton.1 hy ▸ h]
  show rd (valR x.2 + 0) = x.2
  rw [Rat.add_zero, rd_valR h]
theorem add_zero_left {q : Key} (h : isR q = true) : addR ([48], [49]) q = q := by
  rw [zero_rd]; unfold addR; rw [isR_rd, h, valR_rd]
  show rd (0 + valR q) = q
  rw [Rat.zero_add, rd_valR h]
end Go.Proofs.YtmllklfjngapiaaDoor

/- Plain postings: balanced lines, books with all lines added, who is short; how long the numbers get. Own work; no program text. -/
namespace Go.Proofs.YtmllklfjngapiaaDoor

def isFree (l : List UInt8) : Bool := match l with | 33 :: _ => true | _ => false
def sumA (ms : List Ln) (a : List UInt8) : Key := sumL (ms.filter fun x => x.1.2 == a)
def balB (ms : List Ln) : Bool := ms.all lineOk && ms.all fun x => sgnR (sumA ms x.1.2) == 0
def addAll (ls ms : List Ln) : List Ln := ms.foldl (fun b x => (addB b x).1) ls
def shortB (ls out : List Ln) (x : Ln) : Bool := !isFree x.1.1 && (decide (sgnR (getB out x.1) < 0) && decide (cmpR (getB out x.1) (getB ls x.1) < 0))
def applyB (ls ms : List Ln) (cov : Bool) : List Ln × Int :=
  if mayB ls then if balB ms then if cov && ms.any (shortB ls (addAll ls ms)) then ([], 71) else (addAll ls ms, 0) else ([], 70) else ([], 1)
/-- What is posted to an account and asset. -/
def sumK (ms : List Ln) (k : Key) : Rat := ms.foldr (fun x s => (if x.1 = k then valR x.2 else 0) + s) 0
theorem sumK_cons (x : Ln) (r : List Ln) (k : Key) : sumK (x :: r) k = (if x.1 = k then valR x.2 else 0) + sumK r k := rfl
theorem sumK_append : ∀ (l m : List Ln) (k : Key), sumK (l ++ m) k = sumK l k + sumK m k
  | [], m, k => (Rat.zero_add _).symm
  | x :: r, m, k => by
    show (if x.1 = k then valR x.2 else 0) + sumK (r ++ m) k = (if x.1 = k then valR x.2 else 0) + sumK r k + sumK m k
    rw [sumK_append r m k, Rat.add_assoc]
theorem totQ_cons (x : Ln) (r : List Ln) (a : List UInt8) : totQ (x :: r) a = (if x.1.2 = a then valR x.2 else 0) + totQ r a := by
  have h := totQ_append [x] r a
  have e : totQ [x] a = if x.1.2 = a then valR x.2 else 0 := totQ_one x.1 x.2 a
  rw [e] at h
  exact h
theorem addAll_cons (ls : List Ln) (x : Ln) (r : List Ln) : addAll ls (x :: r) = addAll (addB ls x).1 r := rfl
theorem addAll_append (ls l m : List Ln) : addAll ls (l ++ m) = addAll (addAll ls l) m := List.foldl_append
theorem addAll_snoc (ls l : List Ln) (x : Ln) : addAll ls (l ++ [x]) = (addB (addAll ls l) x).1 := addAll_append ls l [x]
theorem addAll_good : ∀ {ms ls : List Ln}, Good ls → (∀ x ∈ ms, lineOk x = true) → Good (addAll ls ms) ∧ (∀ k, hasQ (addAll ls ms) k = hasQ ls k + sumK ms k) ∧ ∀ a, totQ (addAll ls ms) a = totQ ls a + totQ ms a
  | [], ls, h, _ => ⟨h, fun k => (Rat.add_zero _).symm, fun a => (Rat.add_zero _).symm⟩
  | x :: r, ls, h, hm => by
    obtain ⟨b, e, hg, hk, ht⟩ := addB_yes h (hm x (List.mem_cons_self ..))
    obtain ⟨g2, k2, t2⟩ := addAll_good (ms := r) hg fun y hy => hm y (List.mem_cons_of_mem _ hy)
    rw [addAll_cons, e]
    refine ⟨g2, fun k => ?_, fun a => ?_⟩
    · rw [k2 k, hk k, sumK_cons, Rat.add_assoc]
      congr 2
      by_cases c : k = x.1
      · rw [if_pos c, if_pos c.symm]
      · rw [if_neg c, if_neg fun d => c d.symm]
    · rw [t2 a, ht a, totQ_cons, Rat.add_assoc]
theorem ok_rat {x : Ln} (h : lineOk x = true) : isR x.2 = true := by unfold lineOk at h; simp only [Bool.and_eq_true] at h; exact h.2.2
theorem sgn_rd (q : Rat) : sgnR (rd q) = sgnQ q := by unfold sgnR; rw [isR_rd, valR_rd]; rfl
theorem sumA_rd {ms : List Ln} (h : ∀ x ∈ ms, isR x.2 = true) (a : List UInt8) : sumA ms a = rd (totQ ms a) := sum_total fun x hx => h x (List.mem_filter.1 hx).1
theorem balB_iff {ms : List Ln} : balB ms = true ↔ (∀ x ∈ ms, lineOk x = true) ∧ ∀ a, totQ ms a = 0 := by
  unfold balB
  rw [Bool.and_eq_true, List.all_eq_true, List.all_eq_true]
  constructor
  · rintro ⟨h1, h2⟩
    refine ⟨h1, fun a => ?_⟩
    by_cases he : ∃ x ∈ ms, x.1.2 = a
    · obtain ⟨x, hx, rfl⟩ := he
      have k := h2 x hx
      rw [sumA_rd fun y hy => ok_rat (h1 y hy), sgn_rd, beq_iff_eq, sgnQ_eq_zero] at k
      exact k
    · unfold totQ
      rw [List.filter_eq_nil_iff.2 fun x hx => by rw [beq_iff_eq]; exact fun e => he ⟨x, hx, e⟩]
      rfl
  · rintro ⟨h1, h2⟩
    refine ⟨h1, fun x hx => ?_⟩
    rw [sumA_rd fun y hy => ok_rat (h1 y hy), sgn_rd, h2, beq_iff_eq, sgnQ_eq_zero]
theorem applyB_ok {ls ms : List Ln} {cov : Bool} {out : List Ln} (h : Good ls) (e : applyB ls ms cov = (out, 0)) : out = addAll ls ms ∧ balB ms = true ∧ (cov && ms.any (shortB ls out)) = false := by
  unfold applyB at e
  rw [if_pos (good_iff.2 h)] at e
  cases hb : balB ms with
  | false => rw [hb] at e; exact absurd (Prod.mk.inj e).2 (by decide)
  | true =>
    rw [hb, if_pos rfl] at e
    cases hs : cov && ms.any (shortB ls (addAll ls ms)) with
    | true => rw [hs] at e; exact absurd (Prod.mk.inj e).2 (by decide)
    | false =>
      rw [hs] at e
      have k := (Prod.mk.inj e).1
      exact ⟨k.symm, rfl, by rw [← k]; exact hs⟩
theorem applyB_no {ls ms : List Ln} {cov : Bool} {out : List Ln} {e : Int} (h : Good ls) (k : applyB ls ms cov = (out, e)) (he : e ≠ 0) : out = [] ∧ (e = 70 ∨ (cov = true ∧ e = 71)) := by
  unfold applyB at k
  rw [if_pos (good_iff.2 h)] at k
  cases hb : balB ms with
  | false =>
    rw [hb] at k
    exact ⟨(Prod.mk.inj k).1.symm, .inl (Prod.mk.inj k).2.symm⟩
  | true =>
    rw [hb, if_pos rfl] at k
    cases hs : cov && ms.any (shortB ls (addAll ls ms)) with
    | true =>
      rw [hs] at k
      exact ⟨(Prod.mk.inj k).1.symm, .inr ⟨((Bool.and_eq_true _ _).mp hs).1, (Prod.mk.inj k).2.symm⟩⟩
    | false => rw [hs] at k; exact absurd (Prod.mk.inj k).2.symm he
theorem applyB_free {ls ms : List Ln} (h : Good ls) (hb : balB ms = true) : applyB ls ms false = (addAll ls ms, 0) := by
  unfold applyB; rw [if_pos (good_iff.2 h), hb]; rfl
/-- Nobody goes below 0 who was not. -/
theorem short_no {ls out : List Ln} (hg : Good ls) (ho : Good out) {x : Ln} (h : shortB ls out x = false) (hf : isFree x.1.1 = false) (hn : sgnQ (hasQ out x.1) < 0) : ¬ 0 ≤ sgnQ (hasQ ls x.1) := fun hw => by
  unfold shortB at h
  rw [hf, getB_rd ho, getB_rd hg, sgn_rd, decide_eq_true hn] at h
  have hc : cmpR (rd (hasQ out x.1)) (rd (hasQ ls x.1)) = sgnQ (hasQ out x.1 - hasQ ls x.1) := by unfold cmpR; rw [isR_rd, isR_rd, valR_rd, valR_rd]; rfl
  rw [hc] at h
  have h : decide (sgnQ (hasQ out x.1 - hasQ ls x.1) < 0) = false := h
  have h := of_decide_eq_false h
  have neg : ∀ q : Rat, sgnQ q < 0 ↔ q < 0 := fun q => by
    have e : q.num < 0 ↔ q < 0 := by
      rw [← Rat.not_le, ← Rat.num_nonneg, Int.not_le]
    rw [← e]
    unfold sgnQ
    split
    · rename_i k; exact ⟨fun _ => k, fun _ => by decide⟩
    · rename_i k
      split
      · exact ⟨fun h => absurd h (by decide), fun h => absurd h k⟩
      · exact ⟨fun h => absurd h (by decide), fun h => absurd h k⟩
  have h1 := (neg _).1 hn
  have h2 : ¬ hasQ ls x.1 < 0 := fun k => absurd ((neg _).2 k) (by omega)
  have h3 : ¬ hasQ out x.1 - hasQ ls x.1 < 0 := fun k => h ((neg _).2 k)
  grind

/-! Turned round. -/
def negL (ms : List Ln) : List Ln := ms.map fun x => (x.1, negR x.2)
theorem negR_ok {p : Key} (h : isR p = true) : negR p = rd (-valR p) := by unfold negR; rw [h]; rfl
theorem negL_ok {ms : List Ln} (h : ∀ x ∈ ms, lineOk x = true) : (∀ x ∈ negL ms, lineOk x = true) ∧ (∀ k, sumK (negL ms) k = -sumK ms k) ∧ ∀ a, totQ (negL ms) a = -totQ ms a := by
  induction ms with
  | nil => exact ⟨fun _ h => (by cases h), fun _ => Rat.neg_zero.symm, fun _ => Rat.neg_zero.symm⟩
  | cons x r ih =>
    obtain ⟨h1, h2, h3⟩ := ih fun y hy => h y (List.mem_cons_of_mem _ hy)
    have hx := h x (List.mem_cons_self ..)
    have e := negR_ok (ok_rat hx)
    have ev : valR (negR x.2) = -valR x.2 := by rw [e, valR_rd]
    refine ⟨fun y hy => ?_, fun k => ?_, fun a => ?_⟩
    · rcases List.mem_cons.1 hy with rfl | hy
      · unfold lineOk at hx ⊢
        simp only [Bool.and_eq_true] at hx ⊢
        exact ⟨hx.1, hx.2.1, by show isR (negR x.2) = true; rw [e]; exact isR_rd _⟩
      · exact h1 y hy
    · show sumK ((x.1, negR x.2) :: negL r) k = _
      rw [sumK_cons, sumK_cons, h2 k]
      show (if x.1 = k then valR (negR x.2) else 0) + -sumK r k = _
      rw [ev]
      split <;> grind
    · show totQ ((x.1, negR x.2) :: negL r) a = _
      rw [totQ_cons, totQ_cons, h3 a]
      show (if x.1.2 = a then valR (negR x.2) else 0) + -totQ r a = _
      rw [ev]
      split <;> grind
theorem bal_neg {ms : List Ln} (h : balB ms = true) : balB (negL ms) = true := by
  obtain ⟨h1, h2⟩ := balB_iff.1 h
  obtain ⟨k1, _, k3⟩ := negL_ok h1
  exact balB_iff.2 ⟨k1, fun a => by rw [k3, h2, Rat.neg_zero]⟩
theorem bal_append {l m : List Ln} (h : balB l = true) (k : balB m = true) : balB (l ++ m) = true := by
  obtain ⟨h1, h2⟩ := balB_iff.1 h
  obtain ⟨k1, k2⟩ := balB_iff.1 k
  exact balB_iff.2 ⟨fun x hx => (List.mem_append.1 hx).elim (h1 x) (k1 x), fun a => by rw [totQ_append, h2, k2, Rat.add_zero]⟩
/-- Posted, and turned round, it is as it was. -/
theorem add_neg {ls ms : List Ln} (h : Good ls) (hb : balB ms = true) : addAll (addAll ls ms) (negL ms) = ls := by
  obtain ⟨h1, _⟩ := balB_iff.1 hb
  obtain ⟨g1, k1, _⟩ := addAll_good h h1
  obtain ⟨n1, n2, _⟩ := negL_ok h1
  obtain ⟨g2, k2, _⟩ := addAll_good g1 n1
  refine good_ext g2 h fun k => ?_
  rw [k2, k1, n2]
  grind
/-- What comes to nothing for each account changes nothing. -/
theorem add_none {ls ms : List Ln} (h : Good ls) (h1 : ∀ x ∈ ms, lineOk x = true) (hk : ∀ k, sumK ms k = 0) : addAll ls ms = ls := by
  obtain ⟨g1, k1, _⟩ := addAll_good h h1
  exact good_ext g1 h fun k => by rw [k1, hk, Rat.add_zero]
theorem short_same (ls : List Ln) (x : Ln) : shortB ls ls x = false := by
  have e : ∀ p : Key, ¬ cmpR p p < 0 := fun p => by
    unfold cmpR
    split
    · rw [Rat.sub_self]; decide
    · decide
  unfold shortB
  rw [decide_eq_false (e _), Bool.and_false, Bool.and_false]

/-! How long numbers get: by a common denominator. -/
structure Bd (D : Nat) (M : Nat) (q : Rat) : Prop where
  den : q.den ∣ D
  lo : -(M : Rat) ≤ q
  hi : q ≤ (M : Rat)
theorem dvd_divInt {n : Int} {d : Nat} (hd : 0 < d) : (Rat.divInt n (d : Int)).den ∣ d := by
  have h := (divInt_pos (n := n) (d := (d : Int)) (by omega)).2
  have e : (Nat.gcd n.natAbs ((d : Int)).natAbs : Int) = ((Nat.gcd n.natAbs d : Nat) : Int) := by rw [Int.natAbs_natCast]
  rw [e, ← Int.natCast_ediv] at h
  have h : (Rat.divInt n (d : Int)).den = d / Nat.gcd n.natAbs d := Int.ofNat_inj.1 h
  rw [h]
  exact Nat.div_dvd_of_dvd (Nat.gcd_dvd_right _ _)
theorem den_add {D : Nat} (hD : 0 < D) {p q : Rat} (hp : p.den ∣ D) (hq : q.den ∣ D) : (p + q).den ∣ D := by
  obtain ⟨s, hs⟩ := hp
  obtain ⟨t, ht⟩ := hq
  have hp0 := p.den_nz
  have hq0 := q.den_nz
  have e1 : p = Rat.divInt (p.num * (s : Int)) (D : Int) := by
    have hs0 : (s : Int) ≠ 0 := fun e => by
      obtain rfl : s = 0 := by omega
      omega
    conv => lhs; rw [← Rat.num_divInt_den p]
    rw [hs, Int.natCast_mul, Rat.divInt_mul_right hs0]
  have e2 : q = Rat.divInt (q.num * (t : Int)) (D : Int) := by
    have ht0 : (t : Int) ≠ 0 := fun e => by
      obtain rfl : t = 0 := by omega
      omega
    conv => lhs; rw [← Rat.num_divInt_den q]
    rw [ht, Int.natCast_mul, Rat.divInt_mul_right ht0]
  have e3 : p + q = Rat.divInt (p.num * (s : Int) + q.num * (t : Int)) (D : Int) := by
    conv => lhs; rw [e1, e2]
    have hd : (D : Int) ≠ 0 := by omega
    rw [Rat.divInt_add_divInt _ _ hd hd, ← Int.add_mul, Rat.divInt_mul_right hd]
  rw [e3]
  exact dvd_divInt hD
theorem Bd.add {D M N : Nat} (hD : 0 < D) {p q : Rat} (h : Bd D M p) (k : Bd D N q) : Bd D (M + N) (p + q) := by
  refine ⟨den_add hD h.den k.den, ?_, ?_⟩
  · have h1 := h.lo; have h2 := k.lo
    rw [Rat.natCast_add]; grind
  · have h1 := h.hi; have h2 := k.hi
    rw [Rat.natCast_add]; grind
theorem Bd.zero (D : Nat) : Bd D 0 0 := ⟨⟨D, (Nat.one_mul D).symm⟩, by decide +kernel, by decide +kernel⟩
theorem Bd.mono {D M N : Nat} {q : Rat} (h : Bd D M q) (hN : M ≤ N) : Bd D N q := by
  have e : (M : Rat) ≤ (N : Rat) := Rat.natCast_le_natCast.2 hN
  exact ⟨h.den, by have := h.lo; grind, by have := h.hi; grind⟩
theorem Bd.neg {D M : Nat} {q : Rat} (h : Bd D M q) : Bd D M (-q) := ⟨by rw [Rat.neg_den]; exact h.den, by have := h.hi; grind, by have := h.lo; grind⟩
theorem Bd.num {D M : Nat} {q : Rat} (h : Bd D M q) : q.num.natAbs ≤ M * q.den := by
  have h1 := (Rat.le_iff _ _).1 h.hi
  have h2 := (Rat.le_iff _ _).1 h.lo
  rw [Rat.num_natCast, Rat.den_natCast] at h1
  rw [Rat.neg_num, Rat.neg_den, Rat.num_natCast, Rat.den_natCast] at h2
  have e : ((M * q.den : Nat) : Int) = (M : Int) * (q.den : Int) := Int.natCast_mul ..
  have e2 : -(M : Int) * (q.den : Int) = -((M : Int) * (q.den : Int)) := Int.neg_mul ..
  rw [e2] at h2
  omega
/-- The texts of a number so bounded. -/
theorem Bd.len {D M a b : Nat} (hD : 0 < D) {q : Rat} (h : Bd D M q) (ha : D < 10 ^ a) (hb : M < 10 ^ b) (h0 : 0 < a) : (rdN q).length ≤ a + b + 1 ∧ (rdD q).length ≤ a := by
  have hd : q.den ≤ D := Nat.le_of_dvd hD h.den
  have hn := h.num
  have hn2 : q.num.natAbs < 10 ^ (a + b) := by
    refine Nat.lt_of_le_of_lt (Nat.le_trans hn (Nat.mul_le_mul_left _ hd)) ?_
    rw [Nat.pow_add, Nat.mul_comm]
    exact Nat.mul_lt_mul_of_lt_of_le ha (Nat.le_of_lt hb) (Nat.pow_pos (by decide))
  exact ⟨Nat.le_trans (wd_length q.num) (Nat.succ_le_succ (dig_length (by omega) hn2)), dig_length h0 (Nat.lt_of_le_of_lt hd ha)⟩
end Go.Proofs.YtmllklfjngapiaaDoor

/- Plain postings: how long the numbers get, in books with lines added. Own work; no program text. -/
namespace Go.Proofs.YtmllklfjngapiaaDoor

/-- Texts of a number that are not too long. -/
def Fit (q : Key) : Prop := q.1.length ≤ 19000 ∧ q.2.length ≤ 19000
/-- Texts of a line that are not too long. -/
def SzF (x : Ln) : Prop := (x.1.1.length ≤ 4611686018427387904 ∧ x.1.2.length ≤ 4611686018427387904) ∧ Fit x.2
structure Sized (D M : Nat) : Prop where
  pos : 0 < D
  d : D < 10 ^ 15000
  m : M < 10 ^ 3000
theorem Sized.mono {D M N : Nat} (h : Sized D M) (hN : N ≤ M) : Sized D N := ⟨h.pos, h.d, Nat.lt_of_le_of_lt hN h.m⟩
theorem fit_of {D M : Nat} {q : Rat} (h : Sized D M) (hb : Bd D M q) : Fit (rd q) := by
  have k := hb.len h.pos h.d h.m (by decide)
  exact ⟨Nat.le_trans k.1 (by decide), Nat.le_trans k.2 (by decide)⟩
/-- All lines' numbers, by a common denominator. -/
def Tame (D M : Nat) (ls : List Ln) : Prop := ∀ x ∈ ls, Bd D M (valR x.2)
theorem Tame.sub {D M : Nat} {l m : List Ln} (h : Tame D M m) (hs : ∀ x ∈ l, x ∈ m) : Tame D M l := fun x hx => h x (hs x hx)
theorem Tame.app {D M : Nat} {l m : List Ln} (h : Tame D M l) (k : Tame D M m) : Tame D M (l ++ m) := fun x hx => (List.mem_append.1 hx).elim (h x) (k x)
theorem has_bd {D M : Nat} {ls : List Ln} (h : Tame D M ls) (k : Key) : Bd D M (hasQ ls k) := by
  unfold hasQ
  cases e : lineOf ls k with
  | none => exact (Bd.zero D).mono (Nat.zero_le _)
  | some x => exact h x (of_some e).1
theorem sumK_bd {D M : Nat} (hD : 0 < D) {ms : List Ln} (h : Tame D M ms) (k : Key) : Bd D (M * ms.length) (sumK ms k) := by
  induction ms with
  | nil => exact Bd.zero D
  | cons x r ih =>
    have h1 : Bd D M (if x.1 = k then valR x.2 else 0) := by
      split
      · exact h x (List.mem_cons_self ..)
      · exact (Bd.zero D).mono (Nat.zero_le _)
    have h2 := ih fun y hy => h y (List.mem_cons_of_mem _ hy)
    rw [sumK_cons]
    exact (Bd.add hD h1 h2).mono (by show M + M * r.length ≤ M * (r.length + 1); rw [Nat.mul_add]; omega)
theorem totQ_bd {D M : Nat} (hD : 0 < D) {ms : List Ln} (h : Tame D M ms) (a : List UInt8) : Bd D (M * ms.length) (totQ ms a) := by
  induction ms with
  | nil => exact Bd.zero D
  | cons x r ih =>
    have h1 : Bd D M (if x.1.2 = a then valR x.2 else 0) := by
      split
      · exact h x (List.mem_cons_self ..)
      · exact (Bd.zero D).mono (Nat.zero_le _)
    have h2 := ih fun y hy => h y (List.mem_cons_of_mem _ hy)
    rw [totQ_cons]
    exact (Bd.add hD h1 h2).mono (by show M + M * r.length ≤ M * (r.length + 1); rw [Nat.mul_add]; omega)
theorem foldr_bd {D M : Nat} (hD : 0 < D) {ms : List Ln} (h : Tame D M ms) : Bd D (M * ms.length) (ms.foldr (fun x s => valR x.2 + s) 0) := by
  induction ms with
  | nil => exact Bd.zero D
  | cons x r ih =>
    have h1 := h x (List.mem_cons_self ..)
    have h2 := ih fun y hy => h y (List.mem_cons_of_mem _ hy)
    exact (Bd.add hD h1 h2).mono (by show M + M * r.length ≤ M * (r.length + 1); rw [Nat.mul_add]; omega)
/-- Sums of lines, in any part of a row. -/
theorem sum_fit {D M : Nat} {ms L : List Ln} (h : Tame D M ms) (hr : ∀ x ∈ ms, isR x.2 = true) (hs : ∀ x ∈ L, x ∈ ms) (hl : L.length ≤ ms.length) (z : Sized D (M * ms.length)) : Fit (sumL L) := by
  rw [sum_total fun x hx => hr x (hs x hx)]
  exact fit_of z ((foldr_bd z.pos (h.sub hs)).mono (Nat.mul_le_mul_left _ hl))
/-- A line of a good book is what the book has. -/
theorem line_has {b : List Ln} (hg : Good b) {x : Ln} (hx : x ∈ b) : x.2 = rd (hasQ b x.1) := by
  have hr := (lineIn_rat (hg.1 x hx)).1
  have e : lineOf b x.1 = some x := by
    cases e : lineOf b x.1 with
    | none => exact absurd (List.find?_eq_none.1 e x hx) (by simp)
    | some z =>
      obtain ⟨hz, ez⟩ := of_some e
      obtain ⟨i, hi, rfl⟩ := List.getElem_of_mem hz
      obtain ⟨j, hj, rfl⟩ := List.getElem_of_mem hx
      have : i = j := by
        rcases Nat.lt_trichotomy i j with c | c | c
        · exact absurd ez (ahead_ne (List.pairwise_iff_getElem.1 hg.2 i j hi hj c))
        · exact c
        · exact absurd ez.symm (ahead_ne (List.pairwise_iff_getElem.1 hg.2 j i hj hi c))
      subst this
      rfl
  unfold hasQ
  rw [e]
  exact (rd_valR hr).symm
theorem isName_len {l : List UInt8} (h : isName l = true) : l.length ≤ 20 := by
  unfold isName at h
  simp only [Bool.and_eq_true, decide_eq_true_eq] at h
  exact h.2.2
theorem lineOk_len {x : Ln} (h : lineOk x = true) : x.1.1.length ≤ 20 ∧ x.1.2.length ≤ 20 := by
  unfold lineOk at h
  simp only [Bool.and_eq_true] at h
  exact ⟨isName_len h.1, isName_len h.2.1⟩
theorem lineIn_ok {x : Ln} (h : lineIn x = true) : lineOk x = true := by unfold lineIn at h; simp only [Bool.and_eq_true] at h; exact h.1
/-- A good book whose numbers are bounded: its lines' texts are not too long. -/
theorem good_fit {D M : Nat} {b : List Ln} (hg : Good b) (h : ∀ k, Bd D M (hasQ b k)) (z : Sized D M) : ∀ x ∈ b, SzF x := fun x hx => by
  have l := lineOk_len (lineIn_ok (hg.1 x hx))
  refine ⟨⟨Nat.le_trans l.1 (by decide), Nat.le_trans l.2 (by decide)⟩, ?_⟩
  rw [line_has hg hx]
  exact fit_of z (h _)
theorem good_tame {D M : Nat} {b : List Ln} (hg : Good b) (h : ∀ k, Bd D M (hasQ b k)) : Tame D M b := fun x hx => by
  rw [line_has hg hx, valR_rd]; exact h _
theorem put_len {ls : List Ln} (h : Good ls) (k q : Key) : (putB ls k q).length ≤ ls.length + 1 := by
  have hr := rank_le ls k
  have e : ∀ (i : Nat), ls.length - (rank ls k) ≤ i → (ls.take (rank ls k)).length + i ≤ ls.length + i := fun i _ => by rw [List.length_take]; omega
  have one : ∀ q : Key, (if sgnR q == 0 then ([] : List Ln) else [(k, q)]).length ≤ 1 := fun q => by split <;> simp
  rcases place h.2 k with ⟨_, p, _, _, hp⟩ | ⟨_, _, hp⟩
  · rw [hp q, List.length_append, List.length_append, List.length_take, List.length_drop]
    have := one q; omega
  · rw [hp q, List.length_append, List.length_append, List.length_take, List.length_drop]
    have := one q; omega
theorem addB_len {ls : List Ln} (h : Good ls) (x : Ln) : (addB ls x).1.length ≤ ls.length + 1 := by
  unfold addB
  split
  · exact put_len h _ _
  · exact Nat.zero_le _
theorem addAll_len : ∀ {ms ls : List Ln}, Good ls → (∀ x ∈ ms, lineOk x = true) → (addAll ls ms).length ≤ ls.length + ms.length
  | [], _, _, _ => Nat.le_refl _
  | x :: r, ls, h, hm => by
    obtain ⟨b, e, hg, _⟩ := addB_yes h (hm x (List.mem_cons_self ..))
    have h1 := addB_len h x
    have h2 := addAll_len (ms := r) (ls := b) hg fun y hy => hm y (List.mem_cons_of_mem _ hy)
    rw [e] at h1
    rw [addAll_cons, e]
    show (addAll b r).length ≤ ls.length + (r.length + 1)
    have h1 : b.length ≤ ls.length + 1 := h1
    omega
theorem addAll_bd {D M : Nat} {ls ms : List Ln} (hD : 0 < D) (h : Good ls) (hm : ∀ x ∈ ms, lineOk x = true) (t1 : Tame D M ls) (t2 : Tame D M ms) (k : Key) : Bd D (M * (ms.length + 1)) (hasQ (addAll ls ms) k) := by
  rw [(addAll_good h hm).2.1 k]
  exact (Bd.add hD (has_bd t1 k) (sumK_bd hD t2 k)).mono (by rw [Nat.mul_add]; omega)
/-- What is wanted of a book, of lines, and of what is posted: all the way the numbers are not too long. -/
structure Way (D M : Nat) (ls ms : List Ln) : Prop where
  z : Sized D (M * (2 * (ms.length + 1)))
  t1 : Good ls → Tame D M ls
  t2 : (∀ x ∈ ms, lineOk x = true) → Tame D M ms
theorem Way.fit {D M : Nat} {ls ms : List Ln} (w : Way D M ls ms) (h : Good ls) (hm : ∀ x ∈ ms, lineOk x = true) (k : Nat) : ∀ x ∈ addAll ls (ms.take k), SzF x := by
  have hs : ∀ x ∈ ms.take k, x ∈ ms := fun x hx => List.mem_of_mem_take hx
  refine good_fit (addAll_good h fun x hx => hm x (hs x hx)).1 (fun key => addAll_bd w.z.pos h (fun x hx => hm x (hs x hx)) (w.t1 h) ((w.t2 hm).sub hs) key) ?_
  exact w.z.mono (Nat.mul_le_mul_left _ (by rw [List.length_take]; omega))
theorem Way.has {D M : Nat} {ls ms : List Ln} (w : Way D M ls ms) (h : Good ls) (hm : ∀ x ∈ ms, lineOk x = true) (k : Nat) (key : Key) : Fit (rd (hasQ (addAll ls (ms.take k)) key)) := by
  have hs : ∀ x ∈ ms.take k, x ∈ ms := fun x hx => List.mem_of_mem_take hx
  exact fit_of (w.z.mono (Nat.mul_le_mul_left _ (by rw [List.length_take]; omega))) (addAll_bd w.z.pos h (fun x hx => hm x (hs x hx)) (w.t1 h) ((w.t2 hm).sub hs) key)
theorem Way.sum {D M : Nat} {ls ms : List Ln} (w : Way D M ls ms) (hm : ∀ x ∈ ms, lineOk x = true) {L : List Ln} (hs : ∀ x ∈ L, x ∈ ms) (hl : L.length ≤ ms.length) : Fit (sumL L) :=
  sum_fit (w.t2 hm) (fun x hx => ok_rat (hm x hx)) hs hl (w.z.mono (Nat.mul_le_mul_left _ (by omega)))
theorem zero_fit : Fit (([48], [49]) : Key) := ⟨by decide, by decide⟩
end Go.Proofs.YtmllklfjngapiaaDoor

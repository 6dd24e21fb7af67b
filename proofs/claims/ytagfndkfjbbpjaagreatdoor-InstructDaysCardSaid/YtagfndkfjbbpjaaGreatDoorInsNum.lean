/- Plain settlement instructions: which may be, their lines, a day's run of them. Own work; no program text. -/
import Derived.Test.YtagfndkfjbbpjaaGreatDoorPostNum3
namespace Go.Proofs.YtagfndkfjbbpjaaGreatDoor
structure In where
 id : Int
 dealt : Int
 due : Int
 frm : List UInt8
 dst : List UInt8
 ast : List UInt8
 q : Key
 pay : Key
def cashT : List UInt8 := [99, 97, 115, 104]
def oneA (x : In) : Bool := !decide (x.id < 1) && (!decide (x.dealt < 0) && (!decide (x.due < x.dealt) && (isName x.frm && (isName x.dst && (isName x.ast && !(x.frm == x.dst))))))
def oneN (x : In) : Bool := decide (0 < sgnR x.q) && (isR x.pay && decide (0 ≤ sgnR x.pay))
def oneB (x : In) : Bool := oneA x && oneN x
def okIn (l : List In) (j : Nat) : Bool := match l[j]? with
 | some x => oneB x && (decide (j = 0) || (match l[j - 1]? with | some y => decide (y.id < x.id) | none => false))
 | none => true
def mayI (l : List In) : Bool := (List.range l.length).all (okIn l)
def GoodI (l : List In) : Prop := (∀ x ∈ l, oneB x = true) ∧ l.Pairwise fun x y => x.id < y.id
theorem mayI_iff {l : List In} : mayI l = true ↔ ∀ j, j < l.length → okIn l j = true := by
 unfold mayI
 rw [List.all_eq_true]
 exact ⟨fun h j hj => h j (List.mem_range.2 hj), fun h j hj => h j (List.mem_range.1 hj)⟩
theorem mayI_stop {l : List In} {j : Nat} (hj : j < l.length) (h : okIn l j = false) : mayI l = false := by
 cases e : mayI l with
 | false => rfl
 | true => rw [mayI_iff.1 e j hj] at h; cases h
theorem chain_in : ∀ {l : List In}, (∀ j x y, l[j]? = some x → l[j + 1]? = some y → x.id < y.id) → l.Pairwise fun x y => x.id < y.id
 | [], _ => List.Pairwise.nil
 | [x], _ => List.pairwise_singleton _ _
 | x :: y :: r, h => by
  have h1 : x.id < y.id := h 0 x y rfl rfl
  have h2 : (y :: r).Pairwise fun x y => x.id < y.id := chain_in fun j u v hu hv => h (j + 1) u v hu hv
  refine List.Pairwise.cons (fun z hz => ?_) h2
  rcases List.mem_cons.1 hz with rfl | hz
  ·exact h1
  ·exact Int.lt_trans h1 ((List.pairwise_cons.1 h2).1 z hz)
theorem goodI_iff {l : List In} : mayI l = true ↔ GoodI l := by
 rw [mayI_iff]
 constructor
 ·intro h
  constructor
  ·intro x hx
   obtain ⟨j, hj, e⟩ := List.getElem_of_mem hx
   have k := h j hj
   unfold okIn at k
   rw [List.getElem?_eq_getElem hj] at k
   simp only [Bool.and_eq_true] at k
   rw [e] at k
   exact k.1
  ·refine chain_in fun j x y hx hy => ?_
   obtain ⟨hj, e⟩ := List.getElem?_eq_some_iff.1 hy
   have k := h (j + 1) hj
   unfold okIn at k
   rw [hy] at k
   simp only [Bool.and_eq_true, Nat.add_sub_cancel, hx] at k
   rcases Bool.or_eq_true_iff.1 k.2 with k | k
   ·exact absurd (of_decide_eq_true k) (by omega)
   ·exact of_decide_eq_true k
 ·rintro ⟨h1, h2⟩ j hj
  unfold okIn
  rw [List.getElem?_eq_getElem hj]
  simp only [Bool.and_eq_true]
  refine ⟨h1 _ (List.getElem_mem hj), ?_⟩
  by_cases h0 : j = 0
  ·rw [decide_eq_true h0]; rfl
  ·rw [decide_eq_false h0, Bool.false_or, List.getElem?_eq_getElem (by omega)]
   exact decide_eq_true (List.pairwise_iff_getElem.1 h2 (j - 1) j (by omega) hj (by omega))
def payL (x : In) : List Ln := if 0 < sgnR x.pay then [((x.dst, cashT), negR x.pay), ((x.frm, cashT), x.pay)] else []
def linesI (x : In) : List Ln := if oneB x then [((x.frm, x.ast), negR x.q), ((x.dst, x.ast), x.q)] ++ payL x else []
theorem one_parts {x : In} (h : oneB x = true) : (1 ≤ x.id ∧ 0 ≤ x.dealt ∧ x.dealt ≤ x.due) ∧ (isName x.frm = true ∧ isName x.dst = true ∧ isName x.ast = true ∧ x.frm ≠ x.dst) ∧ isR x.q = true ∧ 0 < sgnR x.q ∧ isR x.pay = true ∧ 0 ≤ sgnR x.pay := by
 unfold oneB oneA oneN at h
 simp only [Bool.and_eq_true, Bool.not_eq_true', decide_eq_false_iff_not, decide_eq_true_eq, beq_eq_false_iff_ne, ne_eq] at h
 obtain ⟨⟨a, b, c, d, e, f, g⟩, i, j, k⟩ := h
 refine ⟨⟨by omega, by omega, by omega⟩, ⟨d, e, f, g⟩, ?_, i, j, k⟩
 cases hr : isR x.q with
 | true => rfl
 | false => unfold sgnR at i; rw [hr] at i; exact absurd (show (0 : Int) < 0 from i) (by decide)
theorem cash_name : isName cashT = true := by decide
theorem line_ok {a s : List UInt8} {q : Key} (ha : isName a = true) (hs : isName s = true) (hq : isR q = true) : lineOk ((a, s), q) = true := by unfold lineOk; rw [ha, hs, hq]; rfl
theorem neg_ok {q : Key} (h : isR q = true) : isR (negR q) = true ∧ valR (negR q) = -valR q := by rw [negR_ok h, isR_rd, valR_rd]; exact ⟨rfl, rfl⟩
theorem two_bal {a b s : List UInt8} {q : Key} (ha : isName a = true) (hb : isName b = true) (hs : isName s = true) (hq : isR q = true) : balB [((a, s), negR q), ((b, s), q)] = true := by
 refine balB_iff.2 ⟨fun x hx => ?_, fun u => ?_⟩
 ·rcases List.mem_cons.1 hx with rfl | hx
  ·exact line_ok ha hs (neg_ok hq).1
  ·obtain rfl := List.mem_singleton.1 hx
   exact line_ok hb hs hq
 ·rw [totQ_cons, totQ_cons, show totQ [] u = 0 from rfl]
  show (if s = u then valR (negR q) else 0) + ((if s = u then valR q else 0) + 0) = 0
  rw [(neg_ok hq).2]
  split <;> grind
theorem lines_bal (x : In) : balB (linesI x) = true := by
 unfold linesI
 cases h : oneB x with
 | false => exact (show balB [] = true by decide)
 | true =>
  obtain ⟨_, ⟨n1, n2, n3, _⟩, r1, _, r2, _⟩ := one_parts h
  refine bal_append (two_bal n1 n2 n3 r1) ?_
  unfold payL
  split
  ·exact two_bal n2 n1 cash_name r2
  ·exact (show balB [] = true by decide)
theorem lines_ok (x : In) : ∀ y ∈ linesI x, lineOk y = true := (balB_iff.1 (lines_bal x)).1
theorem lines_len (x : In) : (linesI x).length ≤ 4 := by
 unfold linesI payL
 split
 ·split <;> simp
 ·simp
def numsI (l : List In) : List Ln := l.flatMap fun x => [((x.frm, x.ast), x.q), ((x.dst, cashT), x.pay)]
theorem nums_len : ∀ l : List In, (numsI l).length = 2 * l.length
 | [] => rfl
 | x :: r => by
  show ([((x.frm, x.ast), x.q), ((x.dst, cashT), x.pay)] ++ numsI r).length = _
  rw [List.length_append, nums_len r, List.length_cons]
  show 2 + 2 * r.length = 2 * (r.length + 1)
  omega
theorem nums_q {l : List In} {x : In} (h : x ∈ l) : ((x.frm, x.ast), x.q) ∈ numsI l := List.mem_flatMap.2 ⟨x, h, List.mem_cons_self ..⟩
theorem nums_pay {l : List In} {x : In} (h : x ∈ l) : ((x.dst, cashT), x.pay) ∈ numsI l := List.mem_flatMap.2 ⟨x, h, List.mem_cons_of_mem _ (List.mem_cons_self ..)⟩
theorem lines_of {x : In} {y : Ln} (h : y ∈ linesI x) : oneB x = true ∧ (valR y.2 = valR x.q ∨ valR y.2 = -valR x.q ∨ valR y.2 = valR x.pay ∨ valR y.2 = -valR x.pay) := by
 unfold linesI at h
 cases k : oneB x with
 | false => rw [k] at h; cases h
 | true =>
  obtain ⟨_, _, r1, _, r2, _⟩ := one_parts k
  rw [k] at h
  refine ⟨rfl, ?_⟩
  rcases List.mem_append.1 (show y ∈ [((x.frm, x.ast), negR x.q), ((x.dst, x.ast), x.q)] ++ payL x from h) with h | h
  ·rcases List.mem_cons.1 h with rfl | h
   ·exact .inr (.inl (neg_ok r1).2)
   ·obtain rfl := List.mem_singleton.1 h
    exact .inl rfl
  ·unfold payL at h
   split at h
   ·rcases List.mem_cons.1 h with rfl | h
    ·exact .inr (.inr (.inr (neg_ok r2).2))
    ·obtain rfl := List.mem_singleton.1 h
     exact .inr (.inr (.inl rfl))
   ·cases h
theorem lines_tame {D M : Nat} {x : In} (h1 : oneB x = true → Bd D M (valR x.q)) (h2 : oneB x = true → Bd D M (valR x.pay)) : Tame D M (linesI x) := fun y hy => by
 obtain ⟨k, e | e | e | e⟩ := lines_of hy
 ·rw [e]; exact h1 k
 ·rw [e]; exact (h1 k).neg
 ·rw [e]; exact h2 k
 ·rw [e]; exact (h2 k).neg
structure Rs where
 book : List Ln
 rest : List In
 done : List Int
def stepI (day : Int) (s : Rs) (x : In) : Rs :=
 if decide (x.due ≤ day) && (applyB s.book (linesI x) true).2 == 0 then ⟨(applyB s.book (linesI x) true).1, s.rest, s.done ++ [x.id]⟩ else ⟨s.book, s.rest ++ [x], s.done⟩
def runTo (ls : List Ln) (l : List In) (day : Int) (k : Nat) : Rs := (l.take k).foldl (stepI day) ⟨ls, [], []⟩
theorem run_0 (ls : List Ln) (l : List In) (day : Int) : runTo ls l day 0 = ⟨ls, [], []⟩ := rfl
theorem run_more {ls : List Ln} {l : List In} {day : Int} {k : Nat} {x : In} (h : l[k]? = some x) : runTo ls l day (k + 1) = stepI day (runTo ls l day k) x := by
 unfold runTo
 rw [List.take_add_one, h, List.foldl_append]; rfl
structure Ran where
 book : List Ln
 rest : List In
 done : List Int
 err : Int
def runI (ls : List Ln) (l : List In) (day : Int) : Ran :=
 if mayB ls && mayI l then ⟨(runTo ls l day l.length).book, (runTo ls l day l.length).rest, (runTo ls l day l.length).done, 0⟩ else ⟨[], [], [], 1⟩
theorem apply_is {ls ms : List Ln} (h : Good ls) (e : ((applyB ls ms true).2 == 0) = true) : applyB ls ms true = (addAll ls ms, 0) ∧ balB ms = true ∧ ms.any (shortB ls (addAll ls ms)) = false := by
 have e := eq_of_beq e
 have k : applyB ls ms true = ((applyB ls ms true).1, 0) := by rw [← e]
 obtain ⟨a, b, c⟩ := applyB_ok h k
 rw [a] at k c
 exact ⟨k, b, by rw [Bool.true_and] at c; exact c⟩
theorem step_yes {day : Int} {s : Rs} {x : In} (h : Good s.book) (e : (decide (x.due ≤ day) && (applyB s.book (linesI x) true).2 == 0) = true) : stepI day s x = ⟨addAll s.book (linesI x), s.rest, s.done ++ [x.id]⟩ ∧ x.due ≤ day ∧ (linesI x).any (shortB s.book (addAll s.book (linesI x))) = false := by
 have k := (Bool.and_eq_true _ _).mp e
 obtain ⟨a, _, c⟩ := apply_is h k.2
 refine ⟨?_, of_decide_eq_true k.1, c⟩
 unfold stepI
 rw [if_pos e, a]
theorem step_no {day : Int} {s : Rs} {x : In} (e : (decide (x.due ≤ day) && (applyB s.book (linesI x) true).2 == 0) = false) : stepI day s x = ⟨s.book, s.rest ++ [x], s.done⟩ := by
 unfold stepI
 rw [if_neg (by rw [e]; decide)]
structure Along (ls : List Ln) (l : List In) (day : Int) (k : Nat) (s : Rs) : Prop where
 good : Good s.book
 tot : ∀ a, totQ s.book a = totQ ls a
 low : ∀ key : Key, isFree key.1 = false → sgnQ (hasQ s.book key) < 0 → ¬ 0 ≤ sgnQ (hasQ ls key)
 sum : s.rest.length + s.done.length = k
 rest : ∀ x ∈ s.rest, x ∈ l.take k
 done : ∀ n ∈ s.done, ∃ x ∈ l.take k, x.id = n ∧ x.due ≤ day
 any : ∀ x ∈ l.take k, x ∈ s.rest ∨ x.id ∈ s.done
 none : s.done = [] → s.book = ls ∧ s.rest = l.take k
theorem sumK_no {ms : List Ln} {k : Key} : (∀ x ∈ ms, x.1 ≠ k) → sumK ms k = 0 := fun h => by
 induction ms with
 | nil => rfl
 | cons x r ih => rw [sumK_cons, if_neg (h x (List.mem_cons_self ..)), ih fun y hy => h y (List.mem_cons_of_mem _ hy), Rat.add_zero]
theorem along {ls : List Ln} {l : List In} {day : Int} (h : Good ls) : ∀ k, k ≤ l.length → Along ls l day k (runTo ls l day k)
 | 0, _ => by
  rw [run_0]
  refine ⟨h, fun _ => rfl, fun key _ hn hp => absurd (show sgnQ (hasQ ls key) < 0 from hn) (by omega), rfl, fun _ hx => (by cases hx), fun _ hn => (by cases hn), fun x hx => ?_, fun _ => ⟨rfl, rfl⟩⟩
  rw [List.take_zero] at hx; cases hx
 | k + 1, hk => by
  have A := along (ls := ls) (l := l) (day := day) h k (by omega)
  obtain ⟨x, hx⟩ : ∃ x, l[k]? = some x := ⟨_, List.getElem?_eq_getElem (by omega)⟩
  have ht : l.take (k + 1) = l.take k ++ [x] := by rw [List.take_add_one, hx]; rfl
  rw [run_more hx]
  generalize runTo ls l day k = s at *
  cases e : decide (x.due ≤ day) && (applyB s.book (linesI x) true).2 == 0 with
  | true =>
   obtain ⟨es, hd, hs⟩ := step_yes A.good e
   obtain ⟨g2, k2, t2⟩ := addAll_good A.good (lines_ok x)
   rw [es]
   refine ⟨g2, fun a => ?_, fun key hf hn => ?_, ?_, fun y hy => ?_, fun n hn => ?_, fun y hy => ?_, fun hn => ?_⟩
   ·rw [t2, (balB_iff.1 (lines_bal x)).2, Rat.add_zero, A.tot]
   ·by_cases hin : ∃ y ∈ linesI x, y.1 = key
    ·obtain ⟨y, hy, rfl⟩ := hin
     rw [List.any_eq_false] at hs
     have hsy : shortB s.book (addAll s.book (linesI x)) y = false := by simpa using hs y hy
     have q := short_no A.good g2 hsy hf hn
     exact A.low _ hf (by omega)
    ·have z : sumK (linesI x) key = 0 := sumK_no fun y hy e => hin ⟨y, hy, e⟩
     have e2 : hasQ (addAll s.book (linesI x)) key = hasQ s.book key := by rw [k2, z, Rat.add_zero]
     rw [e2] at hn
     exact A.low _ hf hn
   ·show s.rest.length + (s.done ++ [x.id]).length = k + 1
    rw [List.length_append, List.length_singleton, ← A.sum]; omega
   ·rw [ht]; exact List.mem_append.2 (.inl (A.rest y hy))
   ·rcases List.mem_append.1 hn with hn | hn
    ·obtain ⟨y, hy, e1, e2⟩ := A.done n hn
     exact ⟨y, by rw [ht]; exact List.mem_append.2 (.inl hy), e1, e2⟩
    ·obtain rfl := List.mem_singleton.1 hn
     exact ⟨x, by rw [ht]; exact List.mem_append.2 (.inr (List.mem_singleton.2 rfl)), rfl, hd⟩
   ·rw [ht] at hy
    rcases List.mem_append.1 hy with hy | hy
    ·exact (A.any y hy).imp (fun h => h) fun h => List.mem_append.2 (.inl h)
    ·obtain rfl := List.mem_singleton.1 hy
     exact .inr (List.mem_append.2 (.inr (List.mem_singleton.2 rfl)))
   ·exact absurd hn (by simp)
  | false =>
   rw [step_no e]
   refine ⟨A.good, A.tot, A.low, ?_, fun y hy => ?_, fun n hn => ?_, fun y hy => ?_, fun hn => ?_⟩
   ·show (s.rest ++ [x]).length + s.done.length = k + 1
    rw [List.length_append, List.length_singleton, ← A.sum]; omega
   ·rw [ht]
    exact List.mem_append.2 ((List.mem_append.1 hy).imp (A.rest y) fun h => h)
   ·obtain ⟨y, hy, e1, e2⟩ := A.done n hn
    exact ⟨y, by rw [ht]; exact List.mem_append.2 (.inl hy), e1, e2⟩
   ·rw [ht] at hy
    rcases List.mem_append.1 hy with hy | hy
    ·exact (A.any y hy).imp (fun h => List.mem_append.2 (.inl h)) fun h => h
    ·obtain rfl := List.mem_singleton.1 hy
     exact .inl (List.mem_append.2 (.inr (List.mem_singleton.2 rfl)))
   ·obtain ⟨e1, e2⟩ := A.none hn
    exact ⟨e1, by rw [ht, ← e2]⟩
end Go.Proofs.YtagfndkfjbbpjaaGreatDoor
/- Plain settlement instructions: how long a run's numbers get; who is done, who stays. Own work; no program text. -/
namespace Go.Proofs.YtagfndkfjbbpjaaGreatDoor
theorem run_len {ls : List Ln} {l : List In} {day : Int} (h : Good ls) : ∀ k, k ≤ l.length → (runTo ls l day k).book.length ≤ ls.length + 4 * k
 | 0, _ => Nat.le_refl _
 | k + 1, hk => by
  have ih := run_len (ls := ls) (l := l) (day := day) h k (by omega)
  have A := along (ls := ls) (l := l) (day := day) h k (by omega)
  obtain ⟨x, hx⟩ : ∃ x, l[k]? = some x := ⟨_, List.getElem?_eq_getElem (by omega)⟩
  rw [run_more hx]
  generalize runTo ls l day k = s at *
  cases e : decide (x.due ≤ day) && (applyB s.book (linesI x) true).2 == 0 with
  | true =>
   rw [(step_yes A.good e).1]
   have a := addAll_len A.good (lines_ok x)
   have b := lines_len x
   show (addAll s.book (linesI x)).length ≤ _
   omega
  | false =>
   rw [step_no e]
   show s.book.length ≤ _
   omega
theorem run_bd {D M : Nat} {ls : List Ln} {l : List In} {day : Int} (hD : 0 < D) (h : Good ls) (t : ∀ key, Bd D M (hasQ ls key)) (hl : ∀ x ∈ l, oneB x = true → Bd D M (valR x.q) ∧ Bd D M (valR x.pay)) : ∀ k, k ≤ l.length → ∀ key, Bd D (M * (1 + 4 * k)) (hasQ (runTo ls l day k).book key)
 | 0, _ => fun key => by
  rw [run_0]
  exact (t key).mono (by rw [Nat.mul_zero, Nat.add_zero, Nat.mul_one]; exact Nat.le_refl _)
 | k + 1, hk => fun key => by
  have ih := run_bd (ls := ls) (l := l) (day := day) hD h t hl k (by omega)
  have A := along (ls := ls) (l := l) (day := day) h k (by omega)
  obtain ⟨x, hx⟩ : ∃ x, l[k]? = some x := ⟨_, List.getElem?_eq_getElem (by omega)⟩
  have up : M * (1 + 4 * k) ≤ M * (1 + 4 * (k + 1)) := Nat.mul_le_mul_left _ (by omega)
  rw [run_more hx]
  generalize runTo ls l day k = s at *
  cases e : decide (x.due ≤ day) && (applyB s.book (linesI x) true).2 == 0 with
  | true =>
   rw [(step_yes A.good e).1]
   show Bd D _ (hasQ (addAll s.book (linesI x)) key)
   rw [(addAll_good A.good (lines_ok x)).2.1]
   have hm := List.mem_of_getElem? hx
   have b := sumK_bd hD (lines_tame (x := x) (fun o => (hl x hm o).1) fun o => (hl x hm o).2) key
   have b := b.mono (Nat.mul_le_mul_left M (lines_len x))
   refine ((ih key).add hD b).mono (Nat.le_of_eq ?_)
   rw [← Nat.mul_add]; congr 1
  | false =>
   rw [step_no e]
   exact (ih key).mono up
structure Fits (D M : Nat) (b : List Ln) (x : In) : Prop where
 way : Way D (M * 161) b (linesI x)
 book : ∀ y ∈ b, SzF y
 lines : ∀ y ∈ linesI x, SzF y
 good : Good b
 len : b.length ≤ 10000
theorem lines_fit {D M : Nat} {x : In} (z : Sized D M) (h1 : oneB x = true → Bd D M (valR x.q)) (h2 : oneB x = true → Bd D M (valR x.pay)) : ∀ y ∈ linesI x, SzF y := fun y hy => by
 have o := lines_ok x y hy
 have n := lineOk_len o
 refine ⟨⟨Nat.le_trans n.1 (by decide), Nat.le_trans n.2 (by decide)⟩, ?_⟩
 have t := lines_tame h1 h2 y hy
 have e : y.2 = rd (valR y.2) := (rd_valR (ok_rat o)).symm
 rw [e]
 exact fit_of z t
theorem run_fits {D M : Nat} {ls : List Ln} {l : List In} {day : Int} (z : Sized D (M * 2000)) (h : Good ls) (hn : ls.length ≤ 1000) (hl40 : l.length ≤ 40) (t : ∀ key, Bd D M (hasQ ls key)) (hl : ∀ x ∈ l, oneB x = true → Bd D M (valR x.q) ∧ Bd D M (valR x.pay)) (k : Nat) (hk : k ≤ l.length) {x : In} (hx : x ∈ l) : Fits D M (runTo ls l day k).book x := by
 have hD := z.pos
 have A := along (ls := ls) (l := l) (day := day) h k hk
 have b := run_bd (day := day) hD h t hl k hk
 have n := run_len (l := l) (day := day) h k hk
 have up : M * (1 + 4 * k) ≤ M * 161 := Nat.mul_le_mul_left _ (by omega)
 have b2 : ∀ key, Bd D (M * 161) (hasQ (runTo ls l day k).book key) := fun key => (b key).mono up
 have le : ∀ j, j ≤ 2000 → Sized D (M * j) := fun j hj => z.mono (Nat.mul_le_mul_left _ hj)
 have tl : Tame D M (linesI x) := lines_tame (fun o => (hl x hx o).1) fun o => (hl x hx o).2
 have ln := lines_len x
 refine ⟨⟨?_, fun _ => good_tame A.good b2, fun _ y hy => (tl y hy).mono (Nat.le_mul_of_pos_right _ (by decide))⟩, good_fit A.good b2 (le 161 (by decide)), lines_fit (D := D) (M := M) (by have := le 1 (by decide); rwa [Nat.mul_one] at this) (fun o => (hl x hx o).1) (fun o => (hl x hx o).2), A.good, by omega⟩
 rw [Nat.mul_assoc]
 exact le _ (by
  have : 161 * (2 * ((linesI x).length + 1)) ≤ 161 * 10 := Nat.mul_le_mul_left _ (by omega)
  omega)
theorem run_end {D M : Nat} {ls : List Ln} {l : List In} {day : Int} (hD : 0 < D) (h : Good ls) (hl40 : l.length ≤ 40) (t : ∀ key, Bd D M (hasQ ls key)) (hl : ∀ x ∈ l, oneB x = true → Bd D M (valR x.q) ∧ Bd D M (valR x.pay)) (key : Key) : Bd D (M * 161) (hasQ (runTo ls l day l.length).book key) :=
 (run_bd hD h t hl l.length (Nat.le_refl _) key).mono (Nat.mul_le_mul_left _ (by omega))
def shI (x : In) : Bool := ((decide (x.q.1.length ≤ 100) && decide (x.q.2.length ≤ 100)) && (decide (x.pay.1.length ≤ 100) && decide (x.pay.2.length ≤ 100))) && (decide (x.frm.length ≤ 100) && (decide (x.dst.length ≤ 100) && decide (x.ast.length ≤ 100)))
def smI (l : List In) : Bool := l.all shI && decide (l.length ≤ 40)
theorem smI_iff {l : List In} : smI l = true ↔ (∀ x ∈ l, shI x = true) ∧ l.length ≤ 40 := by
 unfold smI
 rw [Bool.and_eq_true, List.all_eq_true, decide_eq_true_eq]
theorem nums_sh {l : List In} (h : ∀ x ∈ l, shI x = true) : ∀ y ∈ numsI l, shL y = true := fun y hy => by
 obtain ⟨x, hx, hy⟩ := List.mem_flatMap.1 hy
 have k := h x hx
 unfold shI at k
 simp only [Bool.and_eq_true, decide_eq_true_eq] at k
 obtain ⟨⟨⟨a, b⟩, c, d⟩, e, f, g⟩ := k
 unfold shL
 simp only [Bool.and_eq_true, decide_eq_true_eq]
 rcases List.mem_cons.1 hy with rfl | hy
 ·exact ⟨⟨a, b⟩, e, g⟩
 ·obtain rfl := List.mem_singleton.1 hy
  exact ⟨⟨c, d⟩, f, show cashT.length ≤ 100 by decide⟩
theorem big_sized {ls : List Ln} (h : ∀ x ∈ ls, shL x = true) (hl : ls.length ≤ 140) {k : Nat} (hk : k ≤ 10 ^ 9) : Sized (Dp ls) (Ms * k) := by
 refine ⟨Dp_pos ls, ?_, ?_⟩
 ·exact pow_lt2 (100 * ls.length) 15000 (Dp_lt h) (by omega)
 ·have h1 : Ms * k ≤ 10 ^ 100 * 10 ^ 9 := Nat.mul_le_mul_left _ hk
  rw [← Nat.pow_add] at h1
  exact pow_lt2 (100 + 9) 3000 h1 (by decide)
def Di (ls : List Ln) (l : List In) : Nat := Dp (ls ++ numsI l)
theorem small_run {ls : List Ln} {l : List In} (s1 : ∀ x ∈ ls, shL x = true) (n1 : ls.length ≤ 40) (s2 : ∀ x ∈ l, shI x = true) (n2 : l.length ≤ 40) : (∀ k, k ≤ 10 ^ 9 → Sized (Di ls l) (Ms * k)) ∧ (Good ls → ∀ key, Bd (Di ls l) Ms (hasQ ls key)) ∧ ∀ x ∈ l, oneB x = true → Bd (Di ls l) Ms (valR x.q) ∧ Bd (Di ls l) Ms (valR x.pay) := by
 have sA : ∀ x ∈ ls ++ numsI l, shL x = true := fun x hx => (List.mem_append.1 hx).elim (s1 x) (nums_sh s2 x)
 have nA : (ls ++ numsI l).length ≤ 140 := by rw [List.length_append, nums_len]; omega
 refine ⟨fun k hk => big_sized sA nA hk, fun g => has_bd (small_tame s1 (fun x hx => List.mem_append.2 (.inl hx)) (good_rat g)), fun x hx o => ?_⟩
 obtain ⟨_, _, r1, _, r2, _⟩ := one_parts o
 exact ⟨small_bd (nums_sh s2 _ (nums_q hx)) r1 (List.mem_append.2 (.inr (nums_q hx))), small_bd (nums_sh s2 _ (nums_pay hx)) r2 (List.mem_append.2 (.inr (nums_pay hx)))⟩
def doneAt (ls : List Ln) (l : List In) (day : Int) (k : Nat) (x : In) : Bool := decide (x.due ≤ day) && (applyB (runTo ls l day k).book (linesI x) true).2 == 0
theorem take_id {l : List In} (h : GoodI l) {k : Nat} {x y : In} (hx : l[k]? = some x) (hy : y ∈ l.take k) : y.id < x.id := by
 obtain ⟨hk, e⟩ := List.getElem?_eq_some_iff.1 hx
 obtain ⟨j, hj, e2⟩ := List.getElem_of_mem hy
 rw [List.length_take] at hj
 rw [List.getElem_take] at e2
 have := List.pairwise_iff_getElem.1 h.2 j k (by omega) hk (by omega)
 rw [e, e2] at this
 exact this
theorem run_split {ls : List Ln} {l : List In} {day : Int} (h : Good ls) (hI : GoodI l) {k : Nat} {x : In} (hx : l[k]? = some x) : ∀ n, k < n → n ≤ l.length → (x.id ∈ (runTo ls l day n).done ↔ doneAt ls l day k x = true) ∧ ((∃ y ∈ (runTo ls l day n).rest, y.id = x.id) ↔ doneAt ls l day k x = false)
 | 0, hk, _ => absurd hk (Nat.not_lt_zero _)
 | n + 1, hk, hn => by
  have A := along (ls := ls) (l := l) (day := day) h n (by omega)
  obtain ⟨z, hz⟩ : ∃ z, l[n]? = some z := ⟨_, List.getElem?_eq_getElem (by omega)⟩
  rw [run_more hz]
  by_cases e : k = n
  ·subst e
   rw [hx] at hz
   obtain rfl := Option.some.inj hz
   have ne : ∀ y ∈ l.take k, y.id ≠ x.id := fun y hy => Int.ne_of_lt (take_id hI hx hy)
   have nd : x.id ∉ (runTo ls l day k).done := fun hd => by
    obtain ⟨y, hy, e1, _⟩ := A.done _ hd
    exact ne y hy e1
   have nr : ¬ ∃ y ∈ (runTo ls l day k).rest, y.id = x.id := fun ⟨y, hy, e1⟩ => ne y (A.rest y hy) e1
   unfold doneAt
   generalize runTo ls l day k = s at *
   cases e : decide (x.due ≤ day) && (applyB s.book (linesI x) true).2 == 0 with
   | true =>
    rw [(step_yes A.good e).1]
    exact ⟨⟨fun _ => rfl, fun _ => List.mem_append.2 (.inr (List.mem_singleton.2 rfl))⟩, fun h => absurd h nr, fun h => by cases h⟩
   | false =>
    rw [step_no e]
    exact ⟨⟨fun h => absurd h nd, fun h => by cases h⟩, fun _ => rfl, fun _ => ⟨x, List.mem_append.2 (.inr (List.mem_singleton.2 rfl)), rfl⟩⟩
  ·have ih := run_split (ls := ls) (l := l) (day := day) h hI hx n (by omega) (by omega)
   have hxt : x ∈ l.take n := by
    obtain ⟨hk', e2⟩ := List.getElem?_eq_some_iff.1 hx
    rw [← e2]
    exact List.mem_iff_getElem.2 ⟨k, by rw [List.length_take]; omega, List.getElem_take⟩
   have ne : z.id ≠ x.id := (Int.ne_of_lt (take_id hI hz hxt)).symm
   generalize runTo ls l day n = s at *
   cases e2 : decide (z.due ≤ day) && (applyB s.book (linesI z) true).2 == 0 with
   | true =>
    rw [(step_yes A.good e2).1]
    refine ⟨⟨fun h => ih.1.1 ?_, fun h => List.mem_append.2 (.inl (ih.1.2 h))⟩, ih.2⟩
    rcases List.mem_append.1 h with h | h
    ·exact h
    ·exact absurd (List.mem_singleton.1 h).symm ne
   | false =>
    rw [step_no e2]
    refine ⟨ih.1, ⟨fun ⟨y, hy, e3⟩ => ih.2.1 ?_, fun h => ?_⟩⟩
    ·rcases List.mem_append.1 hy with hy | hy
     ·exact ⟨y, hy, e3⟩
     ·obtain rfl := List.mem_singleton.1 hy
      exact absurd e3 ne
    ·obtain ⟨y, hy, e3⟩ := ih.2.2 h
     exact ⟨y, List.mem_append.2 (.inl hy), e3⟩
theorem run_ahead {ls : List Ln} {l : List In} {day : Int} (hI : ∀ x ∈ l, day < x.due) : ∀ k, k ≤ l.length → runTo ls l day k = ⟨ls, l.take k, []⟩
 | 0, _ => rfl
 | k + 1, hk => by
  obtain ⟨x, hx⟩ : ∃ x, l[k]? = some x := ⟨_, List.getElem?_eq_getElem (by omega)⟩
  have e : decide (x.due ≤ day) = false := decide_eq_false (by have := hI x (List.mem_of_getElem? hx); omega)
  rw [run_more hx, run_ahead hI k (by omega), step_no (by rw [e]; rfl), List.take_add_one, hx]
  rfl
theorem rest_good {ls : List Ln} {l : List In} {day : Int} (hI : GoodI l) : ∀ k, k ≤ l.length → (runTo ls l day k).rest.Sublist (l.take k)
 | 0, _ => List.Sublist.slnil
 | k + 1, hk => by
  have ih := rest_good (ls := ls) (l := l) (day := day) hI k (by omega)
  obtain ⟨x, hx⟩ : ∃ x, l[k]? = some x := ⟨_, List.getElem?_eq_getElem (by omega)⟩
  have ht : l.take (k + 1) = l.take k ++ [x] := by rw [List.take_add_one, hx]; rfl
  rw [run_more hx, ht]
  generalize runTo ls l day k = s at *
  unfold stepI
  split
  ·exact ih.trans (List.sublist_append_left _ _)
  ·exact ih.append (List.Sublist.refl _)
theorem rest_goodI {ls : List Ln} {l : List In} {day : Int} (hI : GoodI l) : GoodI (runTo ls l day l.length).rest := by
 have s := rest_good (ls := ls) (day := day) hI l.length (Nat.le_refl _)
 rw [List.take_length] at s
 exact ⟨fun x hx => hI.1 x (s.subset hx), hI.2.sublist s⟩
def findI : List In → Int → Nat → Int
 | [], _, _ => -1
 | x :: r, n, k => if x.id = n then (k : Int) else findI r n (k + 1)
theorem find_yes : ∀ {l : List In} {n : Int} {k : Nat}, (∃ x ∈ l, x.id = n) → 0 ≤ findI l n k
 | [], _, _, h => by obtain ⟨x, hx, _⟩ := h; cases hx
 | y :: r, n, k, h => by
  unfold findI
  split
  ·omega
  ·rename_i hne
   obtain ⟨x, hx, e⟩ := h
   rcases List.mem_cons.1 hx with rfl | hx
   ·exact absurd e hne
   ·exact find_yes ⟨x, hx, e⟩
theorem find_no : ∀ {l : List In} {n : Int} {k : Nat}, (¬ ∃ x ∈ l, x.id = n) → findI l n k = -1
 | [], _, _, _ => rfl
 | y :: r, n, k, h => by
  unfold findI
  split
  ·rename_i e; exact absurd ⟨y, List.mem_cons_self .., e⟩ h
  ·exact find_no fun ⟨x, hx, e⟩ => h ⟨x, List.mem_cons_of_mem _ hx, e⟩
end Go.Proofs.YtagfndkfjbbpjaaGreatDoor
/- Plain: a book's lines at some places alone, what is posted to these, and the book as numbers by place. Own work; no program text. -/
namespace Go.Proofs.YtagfndkfjbbpjaaGreatDoor
def spotIn (ms : List Ln) (k : Key) : Bool := ms.any fun y => y.1 == k
def pick (b ms : List Ln) : List Ln := b.filter fun x => spotIn ms x.1
def numH (b : List Ln) (k : Key) : Option Key := (lineOf b k).map fun x => x.2
theorem spotIn_iff {ms : List Ln} {k : Key} : spotIn ms k = true ↔ ∃ y ∈ ms, y.1 = k := by
 unfold spotIn
 rw [List.any_eq_true]
 exact ⟨fun ⟨y, hy, e⟩ => ⟨y, hy, eq_of_beq e⟩, fun ⟨y, hy, e⟩ => ⟨y, hy, by rw [e]; exact beq_self_eq_true k⟩⟩
theorem lineOf_iff {b : List Ln} (h : b.Pairwise fun x y => aheadK x.1 y.1 = true) {k : Key} {x : Ln} : lineOf b k = some x ↔ x ∈ b ∧ x.1 = k := by
 constructor
 ·exact of_some
 ·rintro ⟨hx, hk⟩
  cases e : lineOf b k with
  | none =>
   have := List.find?_eq_none.1 e x hx
   rw [hk] at this
   exact absurd (beq_self_eq_true k) this
  | some y =>
   obtain ⟨hy, hyk⟩ := of_some e
   congr 1
   by_cases c : y = x
   ·exact c
   ·have hne : ∀ x y : Ln, aheadK x.1 y.1 = true → x.1 ≠ y.1 := fun _ _ h => ahead_ne h
    obtain ⟨i, hi, ei⟩ := List.getElem_of_mem hx
    obtain ⟨j, hj, ej⟩ := List.getElem_of_mem hy
    have P := List.pairwise_iff_getElem.1 h
    rcases Nat.lt_trichotomy i j with q | q | q
    ·have := P i j hi hj q
     rw [ei, ej] at this
     exact absurd (hk.trans hyk.symm) (hne _ _ this)
    ·subst q; rw [ei] at ej; exact absurd ej.symm c
    ·have := P j i hj hi q
     rw [ei, ej] at this
     exact absurd (hyk.trans hk.symm) (hne _ _ this)
theorem numH_iff {b : List Ln} (h : Good b) {k q : Key} : numH b k = some q ↔ (k, q) ∈ b := by
 unfold numH
 rw [Option.map_eq_some_iff]
 constructor
 ·rintro ⟨x, hx, rfl⟩
  obtain ⟨h1, rfl⟩ := (lineOf_iff h.2).1 hx
  exact h1
 ·exact fun hm => ⟨(k, q), (lineOf_iff h.2).2 ⟨hm, rfl⟩, rfl⟩
theorem numH_is {b : List Ln} (h : Good b) (k : Key) : numH b k = if hasQ b k = 0 then none else some (rd (hasQ b k)) := by
 unfold numH hasQ
 cases e : lineOf b k with
 | none => rw [if_pos rfl]; rfl
 | some x =>
  obtain ⟨h1, h2⟩ := lineIn_rat (h.1 x (of_some e).1)
  show some x.2 = if valR x.2 = 0 then none else some (rd (valR x.2))
  rw [if_neg h2, rd_valR h1]
theorem pick_good {b : List Ln} (h : Good b) (ms : List Ln) : Good (pick b ms) := ⟨fun x hx => h.1 x (List.mem_filter.1 hx).1, h.2.filter _⟩
theorem pick_mem {b ms : List Ln} {x : Ln} : x ∈ pick b ms ↔ x ∈ b ∧ spotIn ms x.1 = true := List.mem_filter
theorem pick_num {b : List Ln} (h : Good b) (ms : List Ln) (k : Key) : numH (pick b ms) k = if spotIn ms k = true then numH b k else none := by
 apply Option.ext
 intro q
 rw [numH_iff (pick_good h ms), pick_mem]
 by_cases c : spotIn ms k = true
 ·rw [if_pos c, numH_iff h]
  exact ⟨fun h => h.1, fun h => ⟨h, c⟩⟩
 ·rw [if_neg c]
  exact ⟨fun h => absurd h.2 c, fun h => by cases h⟩
theorem has_num {b : List Ln} (k : Key) : hasQ b k = match numH b k with | some q => valR q | none => 0 := by
 unfold hasQ numH
 cases lineOf b k <;> rfl
theorem pick_has {b : List Ln} (h : Good b) (ms : List Ln) (k : Key) : hasQ (pick b ms) k = if spotIn ms k = true then hasQ b k else 0 := by
 rw [has_num, pick_num h]
 by_cases c : spotIn ms k = true
 ·rw [if_pos c, if_pos c, ← has_num]
 ·rw [if_neg c, if_neg c]
theorem sumK_out {ms : List Ln} {k : Key} (h : ¬ spotIn ms k = true) : sumK ms k = 0 := sumK_no fun x hx e => h (spotIn_iff.2 ⟨x, hx, e⟩)
theorem pick_add {b ms : List Ln} (h : Good b) (hm : ∀ x ∈ ms, lineOk x = true) : addAll (pick b ms) ms = pick (addAll b ms) ms := by
 obtain ⟨g1, k1, _⟩ := addAll_good (pick_good h ms) hm
 obtain ⟨g2, k2, _⟩ := addAll_good h hm
 refine good_ext g1 (pick_good g2 ms) fun k => ?_
 rw [k1, pick_has g2, pick_has h, k2]
 by_cases c : spotIn ms k = true
 ·rw [if_pos c, if_pos c]
 ·rw [if_neg c, if_neg c, sumK_out c, Rat.add_zero]
theorem pick_get {b ms : List Ln} (h : Good b) {x : Ln} (hx : x ∈ ms) : getB (pick b ms) x.1 = getB b x.1 := by
 rw [getB_rd (pick_good h ms), getB_rd h, pick_has h, if_pos (spotIn_iff.2 ⟨x, hx, rfl⟩)]
theorem any_same {ms : List Ln} {f g : Ln → Bool} (h : ∀ x ∈ ms, f x = g x) : ms.any f = ms.any g := by
 induction ms with
 | nil => rfl
 | cons x r ih => rw [List.any_cons, List.any_cons, h x (List.mem_cons_self ..), ih fun y hy => h y (List.mem_cons_of_mem _ hy)]
theorem pick_apply {b ms : List Ln} (h : Good b) (hb : balB ms = true) : ((applyB b ms true).2 = 0 ∧ applyB b ms true = (addAll b ms, 0) ∧ applyB (pick b ms) ms true = (pick (addAll b ms) ms, 0)) ∨ ((applyB b ms true).2 = 71 ∧ applyB (pick b ms) ms true = ([], 71)) := by
 have hm := (balB_iff.1 hb).1
 have m1 : mayB b = true := good_iff.2 h
 have m2 : mayB (pick b ms) = true := good_iff.2 (pick_good h ms)
 obtain ⟨g2, _, _⟩ := addAll_good h hm
 have hs : ms.any (shortB (pick b ms) (addAll (pick b ms) ms)) = ms.any (shortB b (addAll b ms)) := any_same fun x hx => by
  unfold shortB
  rw [pick_add h hm, pick_get h hx, pick_get g2 hx]
 unfold applyB
 rw [m1, m2, hb, hs, pick_add h hm]
 cases ms.any (shortB b (addAll b ms)) with
 | true => exact .inr ⟨rfl, rfl⟩
 | false => exact .inl ⟨rfl, rfl, rfl⟩
theorem num_after {b ms : List Ln} (h : Good b) (hm : ∀ x ∈ ms, lineOk x = true) (k : Key) : numH (addAll b ms) k = if spotIn ms k = true then numH (pick (addAll b ms) ms) k else numH b k := by
 obtain ⟨g2, k2, _⟩ := addAll_good h hm
 by_cases c : spotIn ms k = true
 ·rw [if_pos c, pick_num g2, if_pos c]
 ·rw [if_neg c, numH_is g2, numH_is h, k2, sumK_out c, Rat.add_zero]
def gotL (b ms : List Ln) : List Ln := ms.filterMap fun x => (numH b x.1).map fun q => (x.1, q)
theorem got_snoc (b ms : List Ln) (x : Ln) : gotL b (ms ++ [x]) = gotL b ms ++ (match numH b x.1 with | some q => [(x.1, q)] | none => []) := by
 unfold gotL
 rw [List.filterMap_append]
 cases h : numH b x.1 with
 | none => simp [h]
 | some q => simp [h]
theorem got_mem {b ms : List Ln} (h : Good b) {x : Ln} : x ∈ gotL b ms ↔ x ∈ b ∧ spotIn ms x.1 = true := by
 unfold gotL
 rw [List.mem_filterMap]
 constructor
 ·rintro ⟨y, hy, e⟩
  obtain ⟨q, hq, rfl⟩ := Option.map_eq_some_iff.1 e
  exact ⟨(numH_iff h).1 hq, spotIn_iff.2 ⟨y, hy, rfl⟩⟩
 ·rintro ⟨hx, ha⟩
  obtain ⟨y, hy, e⟩ := spotIn_iff.1 ha
  exact ⟨y, hy, by rw [e, (numH_iff h (k := x.1) (q := x.2)).2 hx]; rfl⟩
theorem got_len (b ms : List Ln) : (gotL b ms).length ≤ ms.length := List.length_filterMap_le _ _
theorem rise_same {l b : List Ln} (hb : Good b) (hl : l.Pairwise fun x y => aheadK x.1 y.1 = true) (h : ∀ x, x ∈ l ↔ x ∈ b) : l = b := by
 have gl : Good l := ⟨fun x hx => hb.1 x ((h x).1 hx), hl⟩
 refine good_ext gl hb fun k => ?_
 rw [has_num, has_num]
 have e : numH l k = numH b k := Option.ext fun q => by rw [numH_iff gl, numH_iff hb, h]
 rw [e]
theorem rise_of {l : List Ln} (h : l.Pairwise fun x y => aheadK y.1 x.1 = false) (hd : l.Pairwise fun x y => x.1 ≠ y.1) : l.Pairwise fun x y => aheadK x.1 y.1 = true := by
 have := h.and hd
 refine this.imp ?_
 rintro a b ⟨h1, h2⟩
 rcases ahead_cases a.1 b.1 with c | c | c
 ·exact c
 ·exact absurd c h2
 ·rw [c] at h1; cases h1
def thin : List Ln → List Ln
 | [] => []
 | [x] => [x]
 | x :: y :: r => if x = y then thin (y :: r) else x :: thin (y :: r)
theorem thin_head (x : Ln) (r : List Ln) : ∃ s, thin (x :: r) = x :: s := by
 induction r generalizing x with
 | nil => exact ⟨[], rfl⟩
 | cons y r ih =>
  by_cases e : x = y
  ·subst e
   obtain ⟨s, hs⟩ := ih x
   exact ⟨s, by show (if x = x then thin (x :: r) else x :: thin (x :: r)) = _; rw [if_pos rfl, hs]⟩
  ·exact ⟨thin (y :: r), by conv => lhs; unfold thin; rw [if_neg e]⟩
theorem thin_mem {l : List Ln} {z : Ln} : z ∈ thin l ↔ z ∈ l := by
 induction l with
 | nil => exact Iff.rfl
 | cons x r ih =>
  cases r with
  | nil => exact Iff.rfl
  | cons y r =>
   unfold thin
   by_cases e : x = y
   ·subst e
    rw [if_pos rfl, ih, List.mem_cons (a := z) (b := x) (l := x :: r)]
    exact ⟨fun h => .inr h, fun h => h.elim (fun e => by rw [e]; exact List.mem_cons_self ..) fun h => h⟩
   ·rw [if_neg e, List.mem_cons, ih, List.mem_cons (a := z) (b := x) (l := y :: r)]
theorem thin_rise {l : List Ln} (hs : l.Pairwise fun x y => aheadK y.1 x.1 = false) (hk : ∀ x ∈ l, ∀ y ∈ l, x.1 = y.1 → x = y) : (thin l).Pairwise fun x y => aheadK x.1 y.1 = true := by
 induction l with
 | nil => exact List.Pairwise.nil
 | cons x r ih =>
  cases r with
  | nil => exact List.pairwise_singleton _ _
  | cons y r =>
   have h2 := ih (List.pairwise_cons.1 hs).2 fun a ha b hb => hk a (List.mem_cons_of_mem _ ha) b (List.mem_cons_of_mem _ hb)
   unfold thin
   by_cases e : x = y
   ·rw [if_pos e]; exact h2
   ·rw [if_neg e]
    refine List.Pairwise.cons (fun z hz => ?_) h2
    have hxy : aheadK x.1 y.1 = true := by
     have h1 := (List.pairwise_cons.1 hs).1 y (List.mem_cons_self ..)
     rcases ahead_cases x.1 y.1 with c | c | c
     ·exact c
     ·exact absurd (hk x (List.mem_cons_self ..) y (List.mem_cons_of_mem _ (List.mem_cons_self ..)) c) e
     ·rw [c] at h1; cases h1
    obtain ⟨s, hs2⟩ := thin_head y r
    rw [hs2] at hz h2
    rcases List.mem_cons.1 hz with rfl | hz
    ·exact hxy
    ·exact ahead_trans hxy ((List.pairwise_cons.1 h2).1 z hz)
theorem got_pick {b ms d : List Ln} (h : Good b) (hp : d.Perm (gotL b ms)) (hs : d.Pairwise fun x y => aheadK y.1 x.1 = false) : thin d = pick b ms := by
 have hm : ∀ x, x ∈ d ↔ x ∈ b ∧ spotIn ms x.1 = true := fun x => by rw [hp.mem_iff, got_mem h]
 refine rise_same (pick_good h ms) (thin_rise hs fun x hx y hy e => ?_) fun x => by rw [thin_mem, hm, pick_mem]
 have h1 := (numH_iff h (k := x.1) (q := x.2)).2 ((hm x).1 hx).1
 have h2 := (numH_iff h (k := y.1) (q := y.2)).2 ((hm y).1 hy).1
 rw [e, h2] at h1
 exact Prod.ext e (Option.some.inj h1).symm
def putL (H : Key → Option Key) (L : List Ln) : Key → Option Key := L.foldl (fun H x k => if k = x.1 then some x.2 else H k) H
def delL (H : Key → Option Key) (L : List Ln) : Key → Option Key := L.foldl (fun H x k => if k = x.1 then none else H k) H
theorem putL_snoc (H : Key → Option Key) (L : List Ln) (x : Ln) : putL H (L ++ [x]) = fun k => if k = x.1 then some x.2 else putL H L k := by unfold putL; rw [List.foldl_append]; rfl
theorem delL_snoc (H : Key → Option Key) (L : List Ln) (x : Ln) : delL H (L ++ [x]) = fun k => if k = x.1 then none else delL H L k := by unfold delL; rw [List.foldl_append]; rfl
theorem take_snoc {α : Type} {L : List α} {j : Nat} {x : α} (h : L[j]? = some x) : L.take (j + 1) = L.take j ++ [x] := by rw [List.take_add_one, h]; rfl
theorem delL_is (H : Key → Option Key) (L : List Ln) (k : Key) : delL H L k = if spotIn L k = true then none else H k := by
 induction L generalizing H with
 | nil => rfl
 | cons x r ih =>
  show delL (fun k => if k = x.1 then none else H k) r k = _
  rw [ih]
  unfold spotIn
  rw [List.any_cons]
  by_cases c : r.any (fun y => y.1 == k) = true
  ·rw [if_pos c, c, Bool.or_true, if_pos rfl]
  ·rw [if_neg c, Bool.eq_false_iff.2 c, Bool.or_false]
   by_cases e : k = x.1
   ·rw [if_pos e, if_pos (by rw [e]; exact beq_self_eq_true _)]
   ·rw [if_neg e, if_neg (by rw [beq_iff_eq]; exact fun c => e c.symm)]
theorem num_cons (x : Ln) (r : List Ln) (k : Key) : numH (x :: r) k = if x.1 = k then some x.2 else numH r k := by
 unfold numH lineOf
 rw [List.find?_cons]
 by_cases e : x.1 = k
 ·rw [if_pos e, e, beq_self_eq_true]; rfl
 ·rw [if_neg e, beq_eq_false_iff_ne.2 e]
theorem num_none {L : List Ln} {k : Key} (h : ∀ y ∈ L, y.1 ≠ k) : numH L k = none := by unfold numH; rw [of_none h]; rfl
theorem putL_is {L : List Ln} (h : L.Pairwise fun x y => aheadK x.1 y.1 = true) (H : Key → Option Key) (k : Key) : putL H L k = (numH L k).or (H k) := by
 induction L generalizing H with
 | nil => rfl
 | cons x r ih =>
  obtain ⟨h1, h2⟩ := List.pairwise_cons.1 h
  show putL (fun k => if k = x.1 then some x.2 else H k) r k = _
  rw [ih h2, num_cons]
  by_cases e : x.1 = k
  ·subst e
   rw [num_none fun y hy e => ahead_ne (h1 y hy) e.symm, if_pos rfl, if_pos rfl]; rfl
  ·rw [if_neg e, if_neg fun c => e c.symm]
theorem put_all {b : List Ln} (h : Good b) : putL (fun _ => none) b = numH b := funext fun k => by
 rw [putL_is h.2]
 cases numH b k <;> rfl
theorem put_after {b ms : List Ln} (h : Good b) (hm : ∀ x ∈ ms, lineOk x = true) : putL (delL (numH b) ms) (pick (addAll b ms) ms) = numH (addAll b ms) := funext fun k => by
 obtain ⟨g2, _, _⟩ := addAll_good h hm
 rw [putL_is (pick_good g2 ms).2, delL_is, num_after h hm k, pick_num g2]
 by_cases c : spotIn ms k = true
 ·rw [if_pos c, if_pos c, if_pos c]
  cases numH (addAll b ms) k <;> rfl
 ·rw [if_neg c, if_neg c]; rfl
theorem all_got {b l : List Ln} (h : Good b) (hm : ∀ x, x ∈ l ↔ x ∈ b) (hd : l.Pairwise fun x y => x.1 ≠ y.1) {d : List Ln} (hp : d.Perm l) (hs : d.Pairwise fun x y => aheadK y.1 x.1 = false) : d = b := by
 have hd2 : d.Pairwise fun x y => x.1 ≠ y.1 := (hp.pairwise_iff fun {_ _} hne => Ne.symm hne).2 hd
 exact rise_same h (rise_of hs hd2) fun x => by rw [hp.mem_iff, hm]
end Go.Proofs.YtagfndkfjbbpjaaGreatDoor

/- A line more. -/
import Derived.Deep.CutRange
import Derived.Test.YtmllklfjngapiaaDoorSch
import Derived.Test.YtmllklfjngapiaaDoorAllRefB5
namespace Go.Proofs.YtmllklfjngapiaaDoor
open Go.RowKit
set_option linter.unusedSimpArgs false
set_option linter.unusedVariables false

theorem zc_put {b : Nat} {a c x y : Value} {v : World} (h : Zc b a c v) : Zc b x y ((v.setCell ⟨b, 0, none⟩ x).setCell ⟨b, 1, none⟩ y) := by
  have e0 : (v.setCell ⟨b, 0, none⟩ x).cell? ⟨b, 1, none⟩ = some c := by rw [cell?_setCell_ne _ _ _ _ _ (by omega)]; exact h.c1
  refine ⟨?_, ?_, ?_, ?_, ?_⟩
  · rw [cell?_setCell_ne _ _ _ _ _ (by omega), World.cell?_setCell_same' _ _ _ (by rw [h.c0]; rfl)]
  · rw [World.cell?_setCell_same' _ _ _ (by rw [e0]; rfl)]
  · simpa using h.f0
  · simpa using h.f1
  · simpa using h.lt
/-- A row of lines, and whether there is one, are answered. -/
def GiveLB (w : World) (r : List Ln × Bool) (e : Ending) (w' : World) : Prop := (∃ p c, e = .returned (.tuple #[.slice p r.1.length c, .bool r.2]) ∧ r.1.length ≤ c ∧ Lns w' p r.1) ∧ Below w.heap.size w w'
/-- The same, and the row is new. -/
def GiveLBF (w : World) (r : List Ln × Bool) (e : Ending) (w' : World) : Prop := (∃ p c, e = .returned (.tuple #[.slice p r.1.length c, .bool r.2]) ∧ r.1.length ≤ c ∧ Lns w' p r.1 ∧ ∀ a, p = some a → w.heap.size ≤ a.block) ∧ Below w.heap.size w w'
theorem GiveLBF.old {w : World} {r : List Ln × Bool} {e : Ending} {w' : World} (h : GiveLBF w r e w') : GiveLB w r e w' := by
  obtain ⟨⟨p, c, he, hc, hl, _⟩, hb⟩ := h
  exact ⟨⟨p, c, he, hc, hl⟩, hb⟩
theorem ins_len : ∀ (ls : List Ln) (lb : Bool) (k q : Key), (insB ls lb k q).length ≤ 2 * ls.length + 1
  | [], lb, k, q => by cases lb <;> simp [insB]
  | x :: r, lb, k, q => by
    have h := ins_len r (lb || !aheadK x.1 k) k q
    show ((if !lb && !aheadK x.1 k then [(k, q)] else []) ++ ((if x.1 == k then [] else [x]) ++ insB r (lb || !aheadK x.1 k) k q)).length ≤ _
    rw [List.length_append, List.length_append, List.length_cons]
    have h1 : (if !lb && !aheadK x.1 k then [(k, q)] else []).length ≤ 1 := by split <;> simp
    have h2 : (if x.1 == k then [] else [x]).length ≤ 1 := by split <;> simp
    omega
theorem ins_step {ls : List Ln} {j : Nat} {x : Ln} (hx : ls[j]? = some x) (lb : Bool) (k q : Key) : insB (ls.drop j) lb k q = (if !lb && !aheadK x.1 k then [(k, q)] else []) ++ ((if x.1 == k then [] else [x]) ++ insB (ls.drop (j + 1)) (lb || !aheadK x.1 k) k q) := by
  obtain ⟨hj, e⟩ := List.getElem?_eq_some_iff.1 hx
  rw [List.drop_eq_getElem_cons hj, e]
  rfl
end Go.Proofs.YtmllklfjngapiaaDoor

/- Two local blocks that are followed by name through a drawn region. -/
namespace Go.Proofs.YtmllklfjngapiaaDoor
open Go.RowKit
set_option linter.unusedSimpArgs false
set_option linter.unusedVariables false
theorem zc_up {b : Nat} {x y : Value} {v : World} (h : Zc b x y v) (c : Obj) : Zc b x y (v.alloc c) :=
  h.below (Below.alloc (Below.refl _ _) (Nat.le_refl _) _)
theorem zc_is {b : Nat} {w : World} (h : b = w.heap.size) (x y : Value) (t : TypeId) : Zc b x y (w.alloc (.cells #[x, y] t)) := h ▸ zc_new w x y t
theorem zc_far {b c : Nat} {x y s t : Value} {v : World} (hn : b ≠ c) (h : Zc b x y v) : Zc b x y ((v.setCell ⟨c, 0, none⟩ s).setCell ⟨c, 1, none⟩ t) := by
  have k : ∀ (u : World) (i j : Nat) (z : Value), (u.setCell ⟨c, i, none⟩ z).cell? ⟨b, j, none⟩ = u.cell? ⟨b, j, none⟩ := fun u i j z => World.cell?_setCell_far _ _ _ _ (fun e => hn e.symm)
  refine ⟨?_, ?_, ?_, ?_, ?_⟩
  · rw [k, k]; exact h.c0
  · rw [k, k]; exact h.c1
  · simpa using h.f0
  · simpa using h.f1
  · simpa using h.lt
theorem zc_low {u v : World} {x y s t : Value} {ty ty' : TypeId} (hb : Below ((u.alloc (.cells #[x, y] ty)).alloc (.cells #[s, t] ty')).heap.size ((u.alloc (.cells #[x, y] ty)).alloc (.cells #[s, t] ty')) v) : Zc u.heap.size x y v :=
  (zc_up (zc_new u x y ty) _).below hb
theorem low_top {u v : World} {x y s t : Value} {ty ty' : TypeId} (hb : Below ((u.alloc (.cells #[x, y] ty)).alloc (.cells #[s, t] ty')).heap.size ((u.alloc (.cells #[x, y] ty)).alloc (.cells #[s, t] ty')) v) : u.heap.size < u.heap.size + 1 := Nat.lt_succ_self _
theorem zc_top {u v : World} {x y s t : Value} {ty ty' : TypeId} (hb : Below ((u.alloc (.cells #[x, y] ty)).alloc (.cells #[s, t] ty')).heap.size ((u.alloc (.cells #[x, y] ty)).alloc (.cells #[s, t] ty')) v) : Zc (u.heap.size + 1) s t v :=
  (zc_is (by simp) s t ty').below hb
theorem zc_madeD {u v : World} {x y : Value} {t : TypeId} (hb : Below (u.alloc (.cells #[x, y] t)).drew.heap.size (u.alloc (.cells #[x, y] t)).drew v) : Zc u.heap.size x y v := (zc_new u x y t).drew.below hb
theorem zc_lowD {u v : World} {x y s t : Value} {ty ty' : TypeId} (hb : Below ((u.alloc (.cells #[x, y] ty)).alloc (.cells #[s, t] ty')).drew.heap.size ((u.alloc (.cells #[x, y] ty)).alloc (.cells #[s, t] ty')).drew v) : Zc u.heap.size x y v :=
  (zc_up (zc_new u x y ty) _).drew.below hb
theorem low_topD {u v : World} {x y s t : Value} {ty ty' : TypeId} (hb : Below ((u.alloc (.cells #[x, y] ty)).alloc (.cells #[s, t] ty')).drew.heap.size ((u.alloc (.cells #[x, y] ty)).alloc (.cells #[s, t] ty')).drew v) : u.heap.size < u.heap.size + 1 := Nat.lt_succ_self _
theorem zc_topD {u v : World} {x y s t : Value} {ty ty' : TypeId} (hb : Below ((u.alloc (.cells #[x, y] ty)).alloc (.cells #[s, t] ty')).drew.heap.size ((u.alloc (.cells #[x, y] ty)).alloc (.cells #[s, t] ty')).drew v) : Zc (u.heap.size + 1) s t v :=
  (zc_is (by simp) s t ty').drew.below hb
theorem zc_setZ {b : Nat} {x y : Value} {v : World} (h : Zc b (.string ⟨#[]⟩) (.string ⟨#[]⟩) v) : Zc b x y ((v.setCell ⟨b, 0, none⟩ x).setCell ⟨b, 1, none⟩ y) := zc_put h
theorem up_alloc {u w : World} (h : Below u.heap.size u w) (o : Obj) : Below u.heap.size u (w.alloc o) := Below.alloc h (Below.size h) o
end Go.Proofs.YtmllklfjngapiaaDoor

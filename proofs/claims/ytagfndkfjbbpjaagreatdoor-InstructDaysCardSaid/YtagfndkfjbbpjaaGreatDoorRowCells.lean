/- Rows of lines that are appended. -/
import Derived.Lib.AppendZeros
import Derived.Laws.AppendOwnNone
import Derived.Test.YtagfndkfjbbpjaaGreatDoorAllRefB5
namespace Go.Proofs.YtagfndkfjbbpjaaGreatDoor
open Go.RowKit
set_option linter.unusedSimpArgs false
set_option linter.unusedVariables false
theorem run_append_none {P : Program} {w : World} (base : Nat) (t ty e : TypeId) (i : TypeInfo) (size c : Nat) (ht : P.underlying t = some (.slice e)) (hi : P.info? e = some i)
  (v : Value) (n : Nat) (xs : List Value) (hown : w.ownsRow base e size v n xs) :
  (Builtin.append_ #[t, t] ty #[v, .slice none 0 c]).run P w = .ok v w := by
 rcases hown.2 with ⟨rfl, rfl⟩ | ⟨g, cap, cur, rfl, _, _, hnc, _⟩
 ·simp [Builtin.append_, run_underlying ht, sizeOf, typeInfo, hi, Builtin.lenOf, Builtin.firstCells]
 ·simp [Builtin.append_, run_underlying ht, sizeOf, typeInfo, hi, Builtin.lenOf, Builtin.firstCells, hnc, storeCells]
theorem Lns.cells {w : World} {ad : Addr} {l : List Ln} (h : Lns w (some ad) l) : ∀ (j : Nat) (u : Value), (cellsL l)[j]? = some u → w.cell? (ad.add j) = some u := fun j u hu => by
 have hj := (List.getElem?_eq_some_iff.1 hu).1
 rw [cellsL_len] at hj
 have hq : j / 4 < l.length := by omega
 have hx : l[j / 4]? = some l[j / 4] := List.getElem?_eq_getElem hq
 obtain ⟨b, o, hp, hl, c0, c1, c2, c3⟩ := h (j / 4) _ hx
 cases hp
 obtain ⟨g0, g1, g2, g3⟩ := cellsL_get hx
 rw [Addr.add_lit]
 have hm : j = j / 4 * 4 ∨ j = j / 4 * 4 + 1 ∨ j = j / 4 * 4 + 2 ∨ j = j / 4 * 4 + 3 := by omega
 generalize j / 4 = q at *
 rcases hm with e | e | e | e <;> subst e
 ·rw [g0] at hu; rw [← hu]; exact c0
 ·rw [g1] at hu; rw [← hu, ← Nat.add_assoc]; exact c1
 ·rw [g2] at hu; rw [← hu, ← Nat.add_assoc]; exact c2
 ·rw [g3] at hu; rw [← hu, ← Nat.add_assoc]; exact c3
theorem cellsL_one : ∀ l : List Ln, ∀ u ∈ cellsL l, u.oneCell' = true
 | [], u, h => by cases h
 | x :: r, u, h => by
  rw [cellsL_cons] at h
  simp only [List.mem_cons] at h
  rcases h with rfl | rfl | rfl | rfl | h
  ·rfl
  ·rfl
  ·rfl
  ·rfl
  ·exact cellsL_one r u h
theorem Lns.none {w : World} {l : List Ln} (h : Lns w none l) : l = [] := by
 cases l with
 | nil => rfl
 | cons x r => obtain ⟨b, o, hp, _⟩ := h 0 x rfl; cases hp
theorem own_more {B : Nat} {w : World} {v : Value} {fs l r : List Ln} (h : w.ownsRow B 46 4 v (fs.length + l.length) (cellsL fs ++ cellsL l)) (e : r = fs ++ l) : Own B w v r := by
 subst e
 rw [← cellsL_append, ← List.length_append] at h
 exact h
theorem lnsOne (w : World) (a s n d : List UInt8) (t : TypeId) : Lns (w.alloc (.cells #[.string ⟨a.toArray⟩, .string ⟨s.toArray⟩, .string ⟨n.toArray⟩, .string ⟨d.toArray⟩] t)) (some ⟨w.heap.size, 0, Option.none⟩) [((a, s), (n, d))] := fun j x hx => by
 cases j with
 | zero =>
  obtain rfl : ((a, s), (n, d)) = x := Option.some.inj hx
  exact ⟨w.heap.size, 0, rfl, by simp, cell_new _ _ _ _ rfl 0, cell_new _ _ _ _ rfl 1, cell_new _ _ _ _ rfl 2, cell_new _ _ _ _ rfl 3⟩
 | succ j => cases hx
theorem wp_append_lns {o : Oper} {a : Act} {K : Act → World → Prop} {Q : Exit → Act → World → Prop} {w : World} (s x : Operand) (t : TypeId) (ho : o.op = .call { callee := .builtin .append, args := #[s, x], argTypes := #[t, t] })
  (base : Nat) (ht : Tryz.prog.underlying t = some (.slice 46)) (v : Value) (fs : List Ln) (hs : a.eval s = v) (hown : Own base w v fs) (q : Option Addr) (l : List Ln) (c : Nat) (hx : a.eval x = .slice q l.length c) (hl : Lns w q l)
  (hf : fs.length ≤ 3000000) (hn : l.length ≤ 3000000) (hbase : base ≤ w.heap.size) (h : ∀ v' w', Own base w' v' (fs ++ l) → Below base w w' → K (a.put o.dst v') w') : o.wp Tryz.prog a w K Q := by
 obtain ⟨i0, hi, hz0, hz1, hz2⟩ := info_parts lnInfo
 cases q with
 | none =>
  obtain rfl := hl.none
  have happ := run_append_none (P := Tryz.prog) (w := w) base t o.type 46 i0 4 c ht hi _ _ _ hown
  exact Lib.wp_append_run w s x t t ho _ _ hs hx _ _ happ (h v w (by rw [List.append_nil]; exact hown) (Below.refl _ _))
 | some ad =>
  refine wp_append_own w s x t ho base 46 i0 _ 4 64 ht hi hz0 hz1 hz2 rfl (by decide) v fs.length (cellsL fs) hs hown ad l.length c (cellsL l) hx (cellsL_len l) hl.cells (cellsL_one l) (by unfold maxLen; omega) (by omega) hbase ?_
  intro v' w' h1 h2 _
  exact h v' w' (own_more h1 rfl) (Below.grown (Below.refl _ _) h2 hbase fun j hj => (World.ownsRow.lt hown _ hj).1)
theorem wpList_append_lns {ops : Array Oper} {rest : List Oper} {o : Oper} {a : Act} {Q : Exit → Act → World → Prop} {w : World} (hgd : o.guard = Option.none) (s x : Operand) (t : TypeId) (ho : o.op = .call { callee := .builtin .append, args := #[s, x], argTypes := #[t, t] })
  (base : Nat) (ht : Tryz.prog.underlying t = some (.slice 46)) (v : Value) (fs : List Ln) (hs : a.eval s = v) (hown : Own base w v fs) (q : Option Addr) (l : List Ln) (c : Nat) (hx : a.eval x = .slice q l.length c) (hl : Lns w q l)
  (hf : fs.length ≤ 3000000) (hn : l.length ≤ 3000000) (hbase : base ≤ w.heap.size) (h : ∀ v' w', Own base w' v' (fs ++ l) → Below base w w' → wpList Tryz.prog ops Q rest (a.put o.dst v') w') : wpList Tryz.prog ops Q (o :: rest) a w :=
 wpList_plain hgd fun _ hK => wp_append_lns s x t ho base ht v fs hs hown q l c hx hl hf hn hbase fun v' w' h1 h2 => hK _ _ (h v' w' h1 h2)
def Halt (p : Prop) : Prop := p
theorem halt {p : Prop} (h : Halt p) : p := h
theorem own_empty {B : Nat} (w : World) (h : B ≤ w.heap.size) : Own B (w.alloc (.cells #[] 46)) (.slice (some ⟨w.heap.size, 0, Option.none⟩) 0 0) [] := World.ownsRow_lit _ #[] 0 h (by decide) rfl
theorem heldO {P : Program} {f : FuncId} {args : Array Value} {B : Nat} {u W : World} {v r : Value} {fs : List Ln} (c : Calls P f args u fun e w' => e = .returned v ∧ Below u.heap.size u w') (h : Below B W u) (ho : Own B u r fs) (hB : B ≤ W.heap.size) :
  Calls P f args u fun e w' => e = .returned v ∧ Below B W w' ∧ Own B w' r fs := c.mono fun _ _ ⟨he, hb⟩ => ⟨he, h.trans (hb.mono (Nat.le_trans hB h.size)), own_below ho hb⟩
end Go.Proofs.YtagfndkfjbbpjaaGreatDoor

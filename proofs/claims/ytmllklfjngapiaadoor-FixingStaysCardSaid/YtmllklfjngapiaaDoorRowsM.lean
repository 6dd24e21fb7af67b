/- Rows of structs of any type: a whole row appended to one that this call has laid. Own work; no program text. -/
import Derived.Test.YtmllklfjngapiaaDoorRowsG
namespace Go.Proofs.YtmllklfjngapiaaDoor
open Go.RowKit
set_option linter.unusedSimpArgs false
set_option linter.unusedVariables false
section
variable {α : Type} {enc : α → List Value} {k : Nat}
theorem flat_inv (hk : ∀ x, (enc x).length = k) : ∀ {l : List α} {j : Nat} {u : Value}, (l.flatMap enc)[j]? = some u → ∃ q x i, l[q]? = some x ∧ (enc x)[i]? = some u ∧ j = q * k + i
  | [], _, _, h => by cases h
  | y :: r, j, u, h => by
    rw [List.flatMap_cons] at h
    by_cases hj : j < (enc y).length
    · rw [List.getElem?_append_left hj] at h
      exact ⟨0, y, j, rfl, h, by omega⟩
    · rw [List.getElem?_append_right (by omega)] at h
      obtain ⟨q, x, i, h1, h2, h3⟩ := flat_inv hk h
      rw [hk] at h3 hj
      exact ⟨q + 1, x, i, h1, h2, by rw [Nat.add_mul, Nat.one_mul]; omega⟩
theorem RowsG.cellsM {w : World} {ad : Addr} {l : List α} (hk : ∀ x, (enc x).length = k) (h : RowsG enc k w (some ad) l) : ∀ (j : Nat) (u : Value), (l.flatMap enc)[j]? = some u → w.cell? (ad.add j) = some u := fun j u hu => by
  obtain ⟨q, x, i, h1, h2, rfl⟩ := flat_inv hk hu
  obtain ⟨b, o, hp, _, c⟩ := h q x h1
  cases hp
  rw [show ((⟨b, o, none⟩ : Addr).add (q * k + i)) = ⟨b, o + q * k + i, none⟩ by unfold Addr.add; split <;> simp_all [Nat.add_assoc]]
  exact c i u h2
theorem run_append_noneG {P : Program} {w : World} (base : Nat) (t ty e : TypeId) (i : TypeInfo) (size c : Nat) (ht : P.underlying t = some (.slice e)) (hi : P.info? e = some i)
    (v : Value) (n : Nat) (xs : List Value) (hown : w.ownsRow base e size v n xs) :
    (Builtin.append_ #[t, t] ty #[v, .slice none 0 c]).run P w = .ok v w := by
  rcases hown.2 with ⟨rfl, rfl⟩ | ⟨g, cap, cur, rfl, _, _, hnc, _⟩
  · simp [Builtin.append_, run_underlying ht, sizeOf, typeInfo, hi, Builtin.lenOf, Builtin.firstCells]
  · simp [Builtin.append_, run_underlying ht, sizeOf, typeInfo, hi, Builtin.lenOf, Builtin.firstCells, hnc, storeCells]
/-- append of a whole row, and where the new row lies. -/
theorem run_append_M {P : Program} {w : World} (t ty e : TypeId) {z : Value} {bytes : Nat} (ht : P.underlying t = some (.slice e)) (info : (P.info? e).map (fun i => (i.zero, i.size, i.bytes)) = some (some z, k, bytes)) (hz : z.cells.size = k) (hk0 : 0 < k) (hb : bytes ≤ 4096)
    (hk : ∀ x, (enc x).length = k) (h1 : ∀ x, ∀ v ∈ enc x, v.oneCell' = true) (base : Nat) (v : Value) (fs : List α) (hown : OwnG enc k e base w v fs) (q : Option Addr) (l : List α) (c : Nat) (hl : RowsG enc k w q l) (hf : fs.length ≤ 3000000) (hn : l.length ≤ 3000000) (hbase : base ≤ w.heap.size) :
    ∃ v' w', (Builtin.append_ #[t, t] ty #[v, .slice q l.length c]).run P w = .ok v' w' ∧ OwnG enc k e base w' v' (fs ++ l) ∧ w.grownBy w' v.ownBlock ∧ (v'.ownBlock = v.ownBlock ∨ v'.ownBlock = some w.heap.size) := by
  obtain ⟨i0, hi, hz0, hz1, hz2⟩ := info_parts info
  cases q with
  | none =>
    obtain rfl : l = [] := by
      cases l with
      | nil => rfl
      | cons x r => obtain ⟨b, o, hp, _⟩ := hl 0 x rfl; cases hp
    exact ⟨v, w, run_append_noneG base t ty e i0 k c ht hi _ _ _ hown, by rw [List.append_nil]; exact hown, World.grownBy.refl _ _, .inl rfl⟩
  | some ad =>
    have hbb : (fs.length + l.length) * bytes ≤ 140737488355328 := Nat.le_trans (Nat.mul_le_mul (show fs.length + l.length ≤ 6000000 by omega) hb) (by decide)
    obtain ⟨v', w', hr, h2, h3, h4, h5⟩ := run_append_own_at (P := P) w base t ty e i0 z k bytes ht hi hz0 hz1 hz2 hz hk0 v fs.length (fs.flatMap enc) hown ad l.length c (l.flatMap enc) (flat_len hk l) (RowsG.cellsM hk hl) (flat_one h1 l) (by unfold maxLen; omega) hbb hbase
    refine ⟨v', w', hr, ?_, h3, h5⟩
    show World.ownsRow w' base e k v' (fs ++ l).length ((fs ++ l).flatMap enc)
    rw [List.length_append, List.flatMap_append]
    exact h2
theorem wp_append_M {P : Program} {o : Oper} {a : Act} {K : Act → World → Prop} {Q : Exit → Act → World → Prop} {w : World} (s x : Operand) (t e : TypeId) (ho : o.op = .call { callee := .builtin .append, args := #[s, x], argTypes := #[t, t] }) {z : Value} {bytes : Nat}
    (ht : P.underlying t = some (.slice e)) (info : (P.info? e).map (fun i => (i.zero, i.size, i.bytes)) = some (some z, k, bytes)) (hz : z.cells.size = k) (hk0 : 0 < k) (hb : bytes ≤ 4096)
    (hk : ∀ x, (enc x).length = k) (h1 : ∀ x, ∀ v ∈ enc x, v.oneCell' = true) (base : Nat) (v : Value) (fs : List α) (hs : a.eval s = v) (hown : OwnG enc k e base w v fs) (q : Option Addr) (l : List α) (c : Nat) (hx : a.eval x = .slice q l.length c) (hl : RowsG enc k w q l) (hf : fs.length ≤ 3000000) (hn : l.length ≤ 3000000) (hbase : base ≤ w.heap.size)
    (h : ∀ v' w', OwnG enc k e base w' v' (fs ++ l) → w.grownBy w' v.ownBlock → (v'.ownBlock = v.ownBlock ∨ v'.ownBlock = some w.heap.size) → K (a.put o.dst v') w') : o.wp P a w K Q := by
  obtain ⟨v', w', hr, h2, h3, h4⟩ := run_append_M t o.type e ht info hz hk0 hb hk h1 base v fs hown q l c hl hf hn hbase
  exact Lib.wp_append_run w s x t t ho _ _ hs hx _ _ hr (h v' w' h2 h3 h4)
theorem wpList_append_M {P : Program} {ops : Array Oper} {rest : List Oper} {o : Oper} {a : Act} {Q : Exit → Act → World → Prop} {w : World} (hgd : o.guard = none) (s x : Operand) (t e : TypeId) (ho : o.op = .call { callee := .builtin .append, args := #[s, x], argTypes := #[t, t] }) {z : Value} {bytes : Nat}
    (ht : P.underlying t = some (.slice e)) (info : (P.info? e).map (fun i => (i.zero, i.size, i.bytes)) = some (some z, k, bytes)) (hz : z.cells.size = k) (hk0 : 0 < k) (hb : bytes ≤ 4096)
    (hk : ∀ x, (enc x).length = k) (h1 : ∀ x, ∀ v ∈ enc x, v.oneCell' = true) (base : Nat) (v : Value) (fs : List α) (hs : a.eval s = v) (hown : OwnG enc k e base w v fs) (q : Option Addr) (l : List α) (c : Nat) (hx : a.eval x = .slice q l.length c) (hl : RowsG enc k w q l) (hf : fs.length ≤ 3000000) (hn : l.length ≤ 3000000) (hbase : base ≤ w.heap.size)
    (h : ∀ v' w', OwnG enc k e base w' v' (fs ++ l) → w.grownBy w' v.ownBlock → (v'.ownBlock = v.ownBlock ∨ v'.ownBlock = some w.heap.size) → wpList P ops Q rest (a.put o.dst v') w') : wpList P ops Q (o :: rest) a w :=
  wpList_plain hgd fun _ hK => wp_append_M s x t e ho ht info hz hk0 hb hk h1 base v fs hs hown q l c hx hl hf hn hbase fun v' w' h1 h2 h3 => hK _ _ (h v' w' h1 h2 h3)
/-- The same, at an operation whose guard says yes. -/
theorem wpList_append_W {P : Program} {rest : List Oper} {o : Oper} {a : Act} {Q : Exit → Act → World → Prop} {w : World} {ops : Array Oper} (hw : Region.wanted o (yielded ops a.tmps) = true) (s x : Operand) (t e : TypeId) (ho : o.op = .call { callee := .builtin .append, args := #[s, x], argTypes := #[t, t] }) {z : Value} {bytes : Nat}
    (ht : P.underlying t = some (.slice e)) (info : (P.info? e).map (fun i => (i.zero, i.size, i.bytes)) = some (some z, k, bytes)) (hz : z.cells.size = k) (hk0 : 0 < k) (hb : bytes ≤ 4096)
    (hk : ∀ x, (enc x).length = k) (h1 : ∀ x, ∀ v ∈ enc x, v.oneCell' = true) (base : Nat) (v : Value) (fs : List α) (hs : a.eval s = v) (hown : OwnG enc k e base w v fs) (q : Option Addr) (l : List α) (c : Nat) (hx : a.eval x = .slice q l.length c) (hl : RowsG enc k w q l) (hf : fs.length ≤ 3000000) (hn : l.length ≤ 3000000) (hbase : base ≤ w.heap.size)
    (h : ∀ v' w', OwnG enc k e base w' v' (fs ++ l) → w.grownBy w' v.ownBlock → (v'.ownBlock = v.ownBlock ∨ v'.ownBlock = some w.heap.size) → wpList P ops Q rest (a.put o.dst v') w') : wpList P ops Q (o :: rest) a w :=
  wpList_step fun _ hK => by rw [if_pos hw]; exact wp_append_M s x t e ho ht info hz hk0 hb hk h1 base v fs hs hown q l c hx hl hf hn hbase fun v' w' h1 h2 h3 => hK _ _ (h v' w' h1 h2 h3)
end
end Go.Proofs.YtmllklfjngapiaaDoor

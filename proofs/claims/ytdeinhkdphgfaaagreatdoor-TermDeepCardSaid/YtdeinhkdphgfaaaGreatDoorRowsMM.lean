/- Rows of numbers: that lie in memory, that are appended to; whether two are the same. -/
import Derived.Test.YtdeinhkdphgfaaaGreatDoorRowsGM
namespace Go.Proofs.YtdeinhkdphgfaaaGreatDoor
open Go.RowKit
set_option linter.unusedSimpArgs false
set_option linter.unusedVariables false
def Nums (w : World) (p : Option Addr) (l : List Int) : Prop := ∀ (j : Nat) (x : Int), l[j]? = some x → ∃ b o, p = some ⟨b, o, none⟩ ∧ b < w.heap.size ∧ w.cell? ⟨b, o + j, none⟩ = some (.int .i64 x)
theorem Nums.below {w w' : World} {p : Option Addr} {l : List Int} (h : Nums w p l) (hb : Below w.heap.size w w') : Nums w' p l := fun j x hx => by
 obtain ⟨b, o, hp, hl, c0⟩ := h j x hx
 exact ⟨b, o, hp, Nat.lt_of_lt_of_le hl hb.size, (hb.cell (p := ⟨b, _, none⟩) hl).trans c0⟩
theorem Nums.rule {w : World} {p : Option Addr} {l : List Int} (h : Nums w p l) {k : Nat} {x : Int} (hx : l[k]? = some x) : ∃ b o, p = some ⟨b, o, none⟩ ∧ ∀ v, Below w.heap.size w v → v.cell? ⟨b, o + k, none⟩ = some (.int .i64 x) := by
 obtain ⟨b, o, hp, hl, c0⟩ := h k _ hx
 exact ⟨b, o, hp, fun v hb => (hb.cell (p := ⟨b, _, none⟩) hl).trans c0⟩
section
variable {T : Type} [DecidableEq T]
theorem rows_stop {l m : List T} {k : Nat} {x y : T} (hx : l[k]? = some x) (hy : m[k]? = some y) (h : x ≠ y) : decide (l = m) = false := decide_eq_false fun e => by
 subst e; rw [hx] at hy; exact h (Option.some.inj hy)
theorem rows_end {l m : List T} (hl : l.length = m.length) (h : ∀ (j : Nat) (x : T), j < l.length → l[j]? = some x → m[j]? = some x) : decide (l = m) = true := by
 refine decide_eq_true (List.ext_getElem hl fun i h1 h2 => ?_)
 have := h i l[i] h1 (List.getElem?_eq_getElem h1)
 rw [List.getElem?_eq_getElem h2] at this
 exact (Option.some.inj this).symm
end
theorem rows_more {T : Type} {l : List T} {P : Nat → T → Prop} {k : Nat} {z : T} (h : ∀ (j : Nat) (x : T), j < k → l[j]? = some x → P j x) (hz : l[k]? = some z) (hp : P k z) : ∀ (j : Nat) (x : T), j < k + 1 → l[j]? = some x → P j x := fun j x hj hx => by
 by_cases e : j = k
 ·subst e
  rw [hz] at hx
  exact Option.some.inj hx ▸ hp
 ·exact h j x (by omega) hx
set_option maxRecDepth 100000 in
set_option maxHeartbeats 4000000 in
theorem riints_any (p q : Option Addr) (c c' : Nat) (l m : List Int) (w : World) (hl : l.length ≤ 4611686018427387904) (hl' : m.length ≤ 4611686018427387904) (h : Nums w p l) (h' : Nums w q m) :
  Calls Tryz.prog 25 #[.slice p l.length c, .slice q m.length c'] w (GiveB w (decide (l = m))) := by
 have HS := Lib.hid h; have HS' := Lib.hid h'; clear h h'
 by_cases hne : l.length = m.length
 ·go_enter Tryz.func25, Tryz.ntmps25
  go_wp2
  go_loopw [5] (fun i wr => ∃ k : Nat, k ≤ l.length ∧ i = .int .i64 k ∧ Hid (∀ (j : Nat) (x : Int), j < k → l[j]? = some x → m[j]? = some x) ∧ Below w.heap.size w wr) (fun i _ => l.length - (intOf i).toNat)
  case atStart => exact ⟨0, Nat.zero_le _, rfl, fun j x h => absurd h (Nat.not_lt_zero j), Below.refl _ _⟩
  case round =>
   obtain ⟨k, hk, rfl, HJ, hw⟩ := hrel
   by_cases hlt : k < l.length
   ·obtain ⟨x, hx⟩ : ∃ x, l[k]? = some x := ⟨_, List.getElem?_eq_getElem hlt⟩
    obtain ⟨y, hy⟩ : ∃ x, m[k]? = some x := ⟨_, List.getElem?_eq_getElem (hne ▸ hlt)⟩
    obtain ⟨b, o, rfl, k0⟩ := (HS.out.below hw).rule hx
    obtain ⟨b', o', rfl, j0⟩ := (HS'.out.below hw).rule hy
    have HW := Lib.hid hw
    have hlt' : (k : Int) < (m.length : Int) := by omega
    have b0 := Below.refl wr.heap.size wr
    have HX := Lib.hid hx; have HY := Lib.hid hy
    clear hx hy hw
    have hB := Lib.hid (Nat.le_refl wr.heap.size)
    by_cases e : x = y
    ·have HO : Hid (m[k]? = some x) := Lib.hid (by rw [e]; exact HY.out)
     subst e
     go_wp2_with fail
     refine wp_region_noPanic ?_
     refine wp_region_held_drew (S := fun w' => Below wr.heap.size wr w') (by kernel_rfl) (b0.drew) (fun hH0 => ?_)
     refine sch_in [0, 1, 2, 3, 4, 5, 6, 7, 8] ?_
     iterate 9 (refine sch_yes (v := ?_) rfl (by kernel_rfl) (by rfl) ?_ (by assumption) ?_; rotate_left 1; (· (intro w hSw; (try dsimp only at hSw); go_simp <;> (with_reducible rfl))); try simp only [Act.put, qA, qB, qC, qD, qE, qF])
     refine sch_out ?_
     refine wpAnyH_done (by kernel_rfl) ?_ _
     refine NoPanic.normal ?_
     have b9 := hH0
     clear hH0
     go_wp2_with fail
     go_roundw
     case rel => exact ⟨k + 1, hlt, by go_num, rows_more (P := fun j x => m[j]? = some x) HJ.out HX.out HO.out, Below.more HW.out b9⟩
     case measure => simp [intOf]; omega
    ·have HO : Hid (decide (l = m) = false) := Lib.hid (rows_stop HX.out HY.out e)
     have q0 : (x == y) = false := by rw [beq_eq_false_iff_ne]; exact e
     go_wp2_with fail
     refine wp_region_noPanic ?_
     refine wp_region_held_drew (S := fun w' => Below wr.heap.size wr w') (by kernel_rfl) (b0.drew) (fun hH0 => ?_)
     refine sch_in [0, 1, 2, 3, 4, 5, 6, 7, 8] ?_
     iterate 9 (refine sch_yes (v := ?_) rfl (by kernel_rfl) (by rfl) ?_ (by assumption) ?_; rotate_left 1; (· (intro w hSw; (try dsimp only at hSw); go_simp <;> (with_reducible rfl))); try simp only [Act.put, qA, qB, qC, qD, qE, qF])
     refine sch_out ?_
     refine wpAnyH_done (by kernel_rfl) ?_ _
     refine NoPanic.normal ?_
     have b9 := hH0
     clear hH0
     go_wp2_with fail
     go_ret
     exact ⟨ret_bool (by rw [HO.out]), Below.more HW.out b9⟩
   ·obtain rfl : k = l.length := by omega
    have HR := Lib.hid (rows_end hne fun j x hj => HJ.out j x hj); have HW := Lib.hid hw; clear hw
    go_wp2_with fail
    go_ret
    exact ⟨ret_bool (by rw [HR.out]), HW.out⟩
 ·have HR : Hid (decide (l = m) = false) := Lib.hid (decide_eq_false (fun e => hne (congrArg List.length e)))
  have hne' : ((l.length : Int) = (m.length : Int)) = False := eq_false (by omega)
  go_enter Tryz.func25, Tryz.ntmps25
  go_wp2
  go_ret
  exact ⟨ret_bool (by rw [HR.out]), Below.refl _ _⟩
def encN (n : Int) : List Value := [.int .i64 n]
theorem encN_one (n : Int) : ∀ v ∈ encN n, v.oneCell' = true := fun v hv => by
 obtain rfl := List.mem_singleton.1 hv; rfl
theorem numInfo : (Tryz.prog.info? 3).map (fun i => (i.zero, i.size, i.bytes)) = some (some (.int .i64 0), 1, 8) := by kernel_rfl
theorem nums_of {w : World} {p : Option Addr} {l : List Int} (h : RowsG encN 1 w p l) : Nums w p l := fun j x hx => by
 obtain ⟨b, o, hp, hl, c⟩ := h j x hx
 have k := c 0 _ rfl
 rw [Nat.mul_one] at k
 exact ⟨b, o, hp, hl, k⟩
abbrev OwnN (B : Nat) (w : World) (v : Value) (l : List Int) : Prop := OwnG encN 1 3 B w v l
end Go.Proofs.YtdeinhkdphgfaaaGreatDoor
/- Rows of structs of any type: a whole row appended to one that this call has laid. Own work; no program text. -/
namespace Go.Proofs.YtdeinhkdphgfaaaGreatDoor
open Go.RowKit
set_option linter.unusedSimpArgs false
set_option linter.unusedVariables false
section
variable {α : Type} {enc : α → List Value} {k : Nat}
theorem flat_inv (hk : ∀ x, (enc x).length = k) : ∀ {l : List α} {j : Nat} {u : Value}, (l.flatMap enc)[j]? = some u → ∃ q x i, l[q]? = some x ∧ (enc x)[i]? = some u ∧ j = q * k + i
 | [], _, _, h => by cases h
 | y :: r, j, u, h => by
  rw [List.flatMap_cons] at h
  by_cases hj : j < (enc y).length
  ·rw [List.getElem?_append_left hj] at h
   exact ⟨0, y, j, rfl, h, by omega⟩
  ·rw [List.getElem?_append_right (by omega)] at h
   obtain ⟨q, x, i, h1, h2, h3⟩ := flat_inv hk h
   rw [hk] at h3 hj
   exact ⟨q + 1, x, i, h1, h2, by rw [Nat.add_mul, Nat.one_mul]; omega⟩
theorem RowsG.cellsM {w : World} {ad : Addr} {l : List α} (hk : ∀ x, (enc x).length = k) (h : RowsG enc k w (some ad) l) : ∀ (j : Nat) (u : Value), (l.flatMap enc)[j]? = some u → w.cell? (ad.add j) = some u := fun j u hu => by
 obtain ⟨q, x, i, h1, h2, rfl⟩ := flat_inv hk hu
 obtain ⟨b, o, hp, _, c⟩ := h q x h1
 cases hp
 rw [show ((⟨b, o, none⟩ : Addr).add (q * k + i)) = ⟨b, o + q * k + i, none⟩ by unfold Addr.add; split <;> simp_all [Nat.add_assoc]]
 exact c i u h2
theorem run_append_noneG {P : Program} {w : World} (base : Nat) (t ty e : TypeId) (i : TypeInfo) (size c : Nat) (ht : P.underlying t = some (.slice e)) (hi : P.info? e = some i)
  (v : Value) (n : Nat) (xs : List Value) (hown : w.ownsRow base e size v n xs) :
  (Builtin.append_ #[t, t] ty #[v, .slice none 0 c]).run P w = .ok v w := by
 rcases hown.2 with ⟨rfl, rfl⟩ | ⟨g, cap, cur, rfl, _, _, hnc, _⟩
 ·simp [Builtin.append_, run_underlying ht, sizeOf, typeInfo, hi, Builtin.lenOf, Builtin.firstCells]
 ·simp [Builtin.append_, run_underlying ht, sizeOf, typeInfo, hi, Builtin.lenOf, Builtin.firstCells, hnc, storeCells]
theorem run_append_M {P : Program} {w : World} (t ty e : TypeId) {z : Value} {bytes : Nat} (ht : P.underlying t = some (.slice e)) (info : (P.info? e).map (fun i => (i.zero, i.size, i.bytes)) = some (some z, k, bytes)) (hz : z.cells.size = k) (hk0 : 0 < k) (hb : bytes ≤ 4096)
  (hk : ∀ x, (enc x).length = k) (h1 : ∀ x, ∀ v ∈ enc x, v.oneCell' = true) (base : Nat) (v : Value) (fs : List α) (hown : OwnG enc k e base w v fs) (q : Option Addr) (l : List α) (c : Nat) (hl : RowsG enc k w q l) (hf : fs.length ≤ 3000000) (hn : l.length ≤ 3000000) (hbase : base ≤ w.heap.size) :
  ∃ v' w', (Builtin.append_ #[t, t] ty #[v, .slice q l.length c]).run P w = .ok v' w' ∧ OwnG enc k e base w' v' (fs ++ l) ∧ w.grownBy w' v.ownBlock ∧ (v'.ownBlock = v.ownBlock ∨ v'.ownBlock = some w.heap.size) := by
 obtain ⟨i0, hi, hz0, hz1, hz2⟩ := info_parts info
 cases q with
 | none =>
  obtain rfl : l = [] := by
   cases l with
   | nil => rfl
   | cons x r => obtain ⟨b, o, hp, _⟩ := hl 0 x rfl; cases hp
  exact ⟨v, w, run_append_noneG base t ty e i0 k c ht hi _ _ _ hown, by rw [List.append_nil]; exact hown, World.grownBy.refl _ _, .inl rfl⟩
 | some ad =>
  have hbb : (fs.length + l.length) * bytes ≤ 140737488355328 := Nat.le_trans (Nat.mul_le_mul (show fs.length + l.length ≤ 6000000 by omega) hb) (by decide)
  obtain ⟨v', w', hr, h2, h3, h4, h5⟩ := run_append_own_at (P := P) w base t ty e i0 z k bytes ht hi hz0 hz1 hz2 hz hk0 v fs.length (fs.flatMap enc) hown ad l.length c (l.flatMap enc) (flat_len hk l) (RowsG.cellsM hk hl) (flat_one h1 l) (by unfold maxLen; omega) hbb hbase
  refine ⟨v', w', hr, ?_, h3, h5⟩
  show World.ownsRow w' base e k v' (fs ++ l).length ((fs ++ l).flatMap enc)
  rw [List.length_append, List.flatMap_append]
  exact h2
theorem wp_append_M {P : Program} {o : Oper} {a : Act} {K : Act → World → Prop} {Q : Exit → Act → World → Prop} {w : World} (s x : Operand) (t e : TypeId) (ho : o.op = .call { callee := .builtin .append, args := #[s, x], argTypes := #[t, t] }) {z : Value} {bytes : Nat}
  (ht : P.underlying t = some (.slice e)) (info : (P.info? e).map (fun i => (i.zero, i.size, i.bytes)) = some (some z, k, bytes)) (hz : z.cells.size = k) (hk0 : 0 < k) (hb : bytes ≤ 4096)
  (hk : ∀ x, (enc x).length = k) (h1 : ∀ x, ∀ v ∈ enc x, v.oneCell' = true) (base : Nat) (v : Value) (fs : List α) (hs : a.eval s = v) (hown : OwnG enc k e base w v fs) (q : Option Addr) (l : List α) (c : Nat) (hx : a.eval x = .slice q l.length c) (hl : RowsG enc k w q l) (hf : fs.length ≤ 3000000) (hn : l.length ≤ 3000000) (hbase : base ≤ w.heap.size)
  (h : ∀ v' w', OwnG enc k e base w' v' (fs ++ l) → w.grownBy w' v.ownBlock → (v'.ownBlock = v.ownBlock ∨ v'.ownBlock = some w.heap.size) → K (a.put o.dst v') w') : o.wp P a w K Q := by
 obtain ⟨v', w', hr, h2, h3, h4⟩ := run_append_M t o.type e ht info hz hk0 hb hk h1 base v fs hown q l c hl hf hn hbase
 exact Lib.wp_append_run w s x t t ho _ _ hs hx _ _ hr (h v' w' h2 h3 h4)
theorem wpList_append_M {P : Program} {ops : Array Oper} {rest : List Oper} {o : Oper} {a : Act} {Q : Exit → Act → World → Prop} {w : World} (hgd : o.guard = none) (s x : Operand) (t e : TypeId) (ho : o.op = .call { callee := .builtin .append, args := #[s, x], argTypes := #[t, t] }) {z : Value} {bytes : Nat}
  (ht : P.underlying t = some (.slice e)) (info : (P.info? e).map (fun i => (i.zero, i.size, i.bytes)) = some (some z, k, bytes)) (hz : z.cells.size = k) (hk0 : 0 < k) (hb : bytes ≤ 4096)
  (hk : ∀ x, (enc x).length = k) (h1 : ∀ x, ∀ v ∈ enc x, v.oneCell' = true) (base : Nat) (v : Value) (fs : List α) (hs : a.eval s = v) (hown : OwnG enc k e base w v fs) (q : Option Addr) (l : List α) (c : Nat) (hx : a.eval x = .slice q l.length c) (hl : RowsG enc k w q l) (hf : fs.length ≤ 3000000) (hn : l.length ≤ 3000000) (hbase : base ≤ w.heap.size)
  (h : ∀ v' w', OwnG enc k e base w' v' (fs ++ l) → w.grownBy w' v.ownBlock → (v'.ownBlock = v.ownBlock ∨ v'.ownBlock = some w.heap.size) → wpList P ops Q rest (a.put o.dst v') w') : wpList P ops Q (o :: rest) a w :=
 wpList_plain hgd fun _ hK => wp_append_M s x t e ho ht info hz hk0 hb hk h1 base v fs hs hown q l c hx hl hf hn hbase fun v' w' h1 h2 h3 => hK _ _ (h v' w' h1 h2 h3)
end
end Go.Proofs.YtdeinhkdphgfaaaGreatDoor

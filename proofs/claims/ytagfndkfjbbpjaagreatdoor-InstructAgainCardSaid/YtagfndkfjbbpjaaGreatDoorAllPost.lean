/- Maps: lines by asset, each asset's in a row of its own; numbers by asset. -/
import Derived.Maps.RangeWalk
import Derived.Maps.AppendAt
import Derived.Test.YtagfndkfjbbpjaaGreatDoorSch
import Derived.Test.YtagfndkfjbbpjaaGreatDoorRowCells
import Derived.Test.YtagfndkfjbbpjaaGreatDoorAllPoA
import Derived.Test.YtagfndkfjbbpjaaGreatDoorAllPoB
import Derived.Test.YtagfndkfjbbpjaaGreatDoorAllBk2
import Derived.Test.YtagfndkfjbbpjaaGreatDoorPostApi
namespace Go.Proofs.YtagfndkfjbbpjaaGreatDoor
open Go.RowKit Go.Maps Go.WideMaps
set_option linter.unusedSimpArgs false
set_option linter.unusedVariables false
abbrev DV := DataW Value
def tokR (v : Value) : Option (DV × List MemPlace) := some (.held v, [])
theorem keyed : Keyed Tryz.prog 9 := string_keyed Tryz.underlying9
theorem key_of {s : List UInt8} (h : s.length ≤ maxLen) : keyOf Tryz.prog 9 (.string ⟨s.toArray⟩) = some (.string s) := keyOf_string_mk (s := ⟨s.toArray⟩) Tryz.underlying9 (by rw [size_of]; exact h)
theorem key_inv {key : Value} {kl : Lit} (h : keyOf Tryz.prog 9 key = some kl) : ∃ s : List UInt8, key = .string ⟨s.toArray⟩ ∧ kl = .string s := by
 rw [keyOf_string Tryz.underlying9] at h
 cases key with
 | string s =>
  unfold mapKey at h
  rw [Tryz.underlying9] at h
  have h : (if s.size ≤ maxLen then some (Lit.string s.data.toList) else none) = some kl := h
  split at h
  ·exact ⟨s.data.toList, rfl, (Option.some.inj h).symm⟩
  ·cases h
 | _ => unfold mapKey at h; rw [Tryz.underlying9] at h; cases h
def grpL (ls : List Ln) (u : List UInt8) : List Ln := ls.filter fun x => x.1.2 == u
theorem grp_snoc (ls : List Ln) (x : Ln) (u : List UInt8) : grpL (ls ++ [x]) u = if x.1.2 = u then grpL ls u ++ [x] else grpL ls u := by
 unfold grpL
 rw [List.filter_append]
 by_cases h : x.1.2 = u
 ·rw [if_pos h, List.filter_cons_of_pos (by simpa using h)]; rfl
 ·rw [if_neg h, List.filter_cons_of_neg (by simpa using h)]
  show _ ++ [] = _
  rw [List.append_nil]
theorem own_block {B : Nat} {w : World} {v : Value} {ls : List Ln} (h : Own B w v ls) (hne : ls ≠ []) : ∃ g, v.ownBlock = some g ∧ B ≤ g ∧ g < w.heap.size := by
 rcases h.2 with ⟨_, h0⟩ | ⟨g, cap, cur, rfl, hb, hg, _⟩
 ·exact absurd (List.length_eq_zero_iff.1 h0) hne
 ·exact ⟨g, rfl, hb, (Array.getElem?_eq_some_iff.1 hg).1⟩
theorem grown_of {w w' : World} {row : Option Nat} (h : Below w.heap.size w w') : w.grownBy w' row := ⟨h.os, h.tape, h.output, h.size, fun k hk _ => h.block k hk⟩
def nilV : Value := .slice none 0 0
structure GrpsE (w : World) (bm base n : Nat) (ls : List Ln) (D : DV) (E : List UInt8 → Option Value) : Prop where
 map : w.ownsMap Tryz.prog 9 tokR bm n D
 has : ∀ u, Maps.has D (.string u) = (E u).isSome
 at_ : ∀ u v, E u = some v → ∀ zd, D.atKey (.string u) zd = .held v
 own : ∀ u v, E u = some v → Own base w v (grpL ls u)
 pos : ∀ u v, E u = some v → grpL ls u ≠ []
 none : ∀ u, E u = none → grpL ls u = []
 dis : ∀ u u' v v', u ≠ u' → E u = some v → E u' = some v' → v.ownBlock ≠ v'.ownBlock
 lt : bm < base
theorem grps_start (w : World) : GrpsE (w.alloc (.map #[] 0)) w.heap.size (w.heap.size + 1) 0 [] (.map []) (fun _ => none) :=
 ⟨World.ownsMap_made w _ _ _, fun _ => rfl, fun _ _ h => (by cases h), fun _ _ h => (by cases h), fun _ _ h => (by cases h), fun _ _ => rfl, fun _ _ _ _ _ h => (by cases h), Nat.lt_succ_self _⟩
theorem GrpsE.step {w w' : World} {bm base n : Nat} {ls : List Ln} {D : DV} {E : List UInt8 → Option Value} (h : GrpsE w bm base n ls D E) (hb : Below w.heap.size w w') : GrpsE w' bm base n ls D E :=
 ⟨h.map.kept (grown_of (row := Option.none) hb) (by simp), h.has, h.at_, fun u v e => own_below (h.own u v e) hb, h.pos, h.none, h.dis, h.lt⟩
theorem zeroS (w : World) : (zeroValue 22).run Tryz.prog w = .ok nilV w := by kernel_rfl
theorem grp_look {w : World} {bm base n : Nat} {ls : List Ln} {D : DV} {E : List UInt8 → Option Value} (h : GrpsE w bm base n ls D E) {s : List UInt8} (hs : s.length ≤ maxLen) :
  (Instr.lookup 128 (.map (some bm)) (.string ⟨s.toArray⟩) false).run Tryz.prog w = .ok ((E s).getD nilV) w ∧ Own base w ((E s).getD nilV) (grpL ls s) := by
 obtain ⟨v, ps, hrun, hv⟩ := h.map.lookup keyed Tryz.underlying128 (zeroS w) (zd := .held nilV) (zp := []) rfl (key_of hs)
 have hv' : v = (E s).getD nilV := by
  have e : DataW.held v = D.atKey (.string s) (.held nilV) := (Prod.mk.inj (Option.some.inj hv)).1
  cases k : E s with
  | none =>
   have hh := h.has s
   rw [k] at hh
   rw [atKey_of_not_has hh] at e
   exact DataW.held.inj e
  | some u =>
   rw [h.at_ s u k] at e
   exact DataW.held.inj e
 refine ⟨hv' ▸ hrun, ?_⟩
 cases k : E s with
 | none => rw [h.none s k]; exact World.ownsRow_nil _ _ _ _
 | some u => exact h.own s u k
theorem grp_put {w w2 : World} {bm base n : Nat} {ls : List Ln} {D : DV} {E : List UInt8 → Option Value} (G : GrpsE w bm base n ls D E) (x : Ln) (hs : x.1.2.length ≤ maxLen) (hn : n < maxLen) {v' : Value}
  (hg : w.grownBy w2 ((E x.1.2).getD nilV).ownBlock) (ho : Own base w2 v' (grpL ls x.1.2 ++ [x])) (hloc : v'.ownBlock = ((E x.1.2).getD nilV).ownBlock ∨ ∃ g, v'.ownBlock = some g ∧ w.heap.size ≤ g) :
  ∃ w3, (Instr.mapUpdate 128 (.map (some bm)) (.string ⟨x.1.2.toArray⟩) v').run Tryz.prog w2 = .ok () w3 ∧ w2.grownBy w3 (some bm) ∧ GrpsE w3 bm base (n + 1) (ls ++ [x]) (D.put (.string x.1.2) (.held v')) (fun u => if u = x.1.2 then some v' else E u) := by
 have hbv : ∀ g, ((E x.1.2).getD nilV).ownBlock = some g → base ≤ g := fun g hg => by
  cases k : E x.1.2 with
  | none => rw [k] at hg; cases hg
  | some u => rw [k] at hg; exact (World.ownsRow.lt (G.own _ _ k) g hg).1
 have hm2 := G.map.kept hg (fun e => by have := hbv bm e.symm; have := G.lt; omega)
 obtain ⟨w3, hrun, hm3, hg3⟩ := hm2.update keyed Tryz.underlying128 hn (key_of hs) (d := .held v') (ps := []) rfl
 have hkeep : ∀ {v : Value} {l : List Ln}, Own base w2 v l → Own base w3 v l := fun {v l} h => World.ownsRow.kept h hg3 (Decidable.or_iff_not_imp_left.2 fun _ e => by have := (World.ownsRow.lt h bm e).1; have := G.lt; omega)
 have hold : ∀ u v, u ≠ x.1.2 → E u = some v → v.ownBlock ≠ ((E x.1.2).getD nilV).ownBlock := fun u v hu hv e => by
  obtain ⟨g, hgv, _⟩ := own_block (G.own u v hv) (G.pos u v hv)
  cases k : E x.1.2 with
  | none => rw [k, hgv] at e; cases e
  | some v2 => rw [k] at e; exact G.dis u x.1.2 v v2 hu hv k e
 have hnew : ∀ u v, u ≠ x.1.2 → E u = some v → v.ownBlock ≠ v'.ownBlock := fun u v hu hv e => by
  rcases hloc with h | ⟨g, h, hge⟩
  ·rw [h] at e; exact hold u v hu hv e
  ·rw [h] at e
   have := (World.ownsRow.lt (G.own u v hv) g e).2
   omega
 refine ⟨w3, hrun, hg3, ⟨hm3, fun u => ?_, fun u v hv zd => ?_, fun u v hv => ?_, fun u v hv => ?_, fun u hv => ?_, fun u u' v1 v2 hne h1 h2 => ?_, G.lt⟩⟩
 ·by_cases e : u = x.1.2
  ·rw [if_pos e, e, has_put_same (k := .string x.1.2) hm2.isMap trivial]; rfl
  ·rw [if_neg e, has_put_other (fun c => e (Lit.string.inj c)), G.has]
 ·by_cases e : u = x.1.2
  ·rw [if_pos e] at hv
   rw [e, atKey_put_same (k := .string x.1.2) hm2.isMap trivial, Option.some.inj hv]
  ·rw [if_neg e] at hv
   rw [atKey_put_other (fun c => e (Lit.string.inj c)), G.at_ u v hv]
 ·rw [grp_snoc]
  by_cases e : u = x.1.2
  ·rw [if_pos e] at hv
   obtain rfl := Option.some.inj hv
   rw [if_pos e.symm, e]
   exact hkeep ho
  ·rw [if_neg e] at hv
   rw [if_neg fun c => e c.symm]
   exact hkeep (World.ownsRow.kept (G.own u v hv) hg (.inr (hold u v e hv)))
 ·rw [grp_snoc]
  by_cases e : u = x.1.2
  ·rw [if_pos e.symm]; simp
  ·rw [if_neg e] at hv
   rw [if_neg fun c => e c.symm]
   exact G.pos u v hv
 ·rw [grp_snoc]
  by_cases e : u = x.1.2
  ·rw [if_pos e] at hv; cases hv
  ·rw [if_neg e] at hv
   rw [if_neg fun c => e c.symm]
   exact G.none u hv
 ·by_cases e1 : u = x.1.2
  ·rw [if_pos e1] at h1
   obtain rfl := Option.some.inj h1
   have e2 : u' ≠ x.1.2 := fun e2 => hne (e1.trans e2.symm)
   rw [if_neg e2] at h2
   exact (hnew u' v2 e2 h2).symm
  ·rw [if_neg e1] at h1
   by_cases e2 : u' = x.1.2
   ·rw [if_pos e2] at h2
    obtain rfl := Option.some.inj h2
    exact hnew u v1 e1 h1
   ·rw [if_neg e2] at h2
    exact G.dis u u' v1 v2 hne h1 h2
theorem wp_lookup_run {P : Program} {o : Oper} {a : Act} {K : Act → World → Prop} {Q : Exit → Act → World → Prop} {w : World} (m x : Operand) (t : TypeId) (ho : o.op = Op.lookup t m x false) (mv key v : Value) (hm : a.eval m = mv) (hx : a.eval x = key)
  (hrun : (Instr.lookup t mv key false).run P w = .ok v w) (h : K (a.put o.dst v) w) : o.wp P a w K Q := by
 unfold Oper.wp
 simp [execOp, ho, hm, hx, hrun, Result.andThen]
 exact h
theorem wp_update_run {P : Program} {o : Oper} {a : Act} {K : Act → World → Prop} {Q : Exit → Act → World → Prop} {w w' : World} (m x v : Operand) (t : TypeId) (ho : o.op = Op.mapUpdate t m x v) (mv key val : Value) (hm : a.eval m = mv) (hx : a.eval x = key) (hv : a.eval v = val)
  (hrun : (Instr.mapUpdate t mv key val).run P w = .ok () w') (h : K (a.put o.dst undef) w') : o.wp P a w K Q := by
 unfold Oper.wp
 simp [execOp, ho, hm, hx, hv, hrun, Result.andThen]
 exact h
theorem wp_append_one {o : Oper} {a : Act} {K : Act → World → Prop} {Q : Exit → Act → World → Prop} {w : World} (s x : Operand) (t : TypeId) (ho : o.op = .call { callee := .builtin .append, args := #[s, x], argTypes := #[t, t] })
  (base : Nat) (ht : Tryz.prog.underlying t = some (.slice 46)) (v : Value) (fs : List Ln) (hs : a.eval s = v) (hown : Own base w v fs) (ad : Addr) (l : Ln) (c : Nat) (hx : a.eval x = .slice (some ad) 1 c) (hl : Lns w (some ad) [l])
  (hf : fs.length ≤ 3000000) (hbase : base ≤ w.heap.size) (h : ∀ v' w', Own base w' v' (fs ++ [l]) → w.grownBy w' v.ownBlock → (v'.ownBlock = v.ownBlock ∨ v'.ownBlock = some w.heap.size) → K (a.put o.dst v') w') : o.wp Tryz.prog a w K Q := by
 obtain ⟨i0, hi, hz0, hz1, hz2⟩ := info_parts lnInfo
 obtain ⟨v', w', hr, h2, h3, h4, h5⟩ := run_append_own_at (P := Tryz.prog) w base t o.type 46 i0 _ 4 64 ht hi hz0 hz1 hz2 rfl (by decide) v fs.length (cellsL fs) hown ad 1 c (cellsL [l]) (cellsL_len [l]) hl.cells (cellsL_one [l]) (by unfold maxLen; omega) (by omega) hbase
 exact Lib.wp_append_run w s x t t ho _ _ hs hx _ _ hr (h v' w' (own_more h2 rfl) h3 h5)
end Go.Proofs.YtagfndkfjbbpjaaGreatDoor
/- The program's post: the numbers of each asset, together. -/
namespace Go.Proofs.YtagfndkfjbbpjaaGreatDoor
open Go.RowKit Go.Maps
set_option linter.unusedSimpArgs false
set_option linter.unusedVariables false
structure C4 (p : Nat) (x y z u : Value) (v : World) : Prop where
 c0 : v.cell? ⟨p, 0, none⟩ = some x
 c1 : v.cell? ⟨p, 1, none⟩ = some y
 c2 : v.cell? ⟨p, 2, none⟩ = some z
 c3 : v.cell? ⟨p, 3, none⟩ = some u
 lt : p < v.heap.size
theorem C4.grown {p : Nat} {x y z u : Value} {v v' : World} {row : Option Nat} (h : C4 p x y z u v) (hg : v.grownBy v' row) (hr : row ≠ some p) : C4 p x y z u v' := by
 have hb : v'.heap[p]? = v.heap[p]? := hg.block p h.lt fun e => hr e.symm
 exact ⟨(World.cell?_of_block (w := v) hb).trans h.c0, (World.cell?_of_block (w := v) hb).trans h.c1, (World.cell?_of_block (w := v) hb).trans h.c2, (World.cell?_of_block (w := v) hb).trans h.c3, Nat.lt_of_lt_of_le h.lt hg.size⟩
theorem C4.drew {p : Nat} {x y z u : Value} {v : World} (h : C4 p x y z u v) : C4 p x y z u v.drew := ⟨h.c0, h.c1, h.c2, h.c3, h.lt⟩
theorem C4.alloc {p : Nat} {x y z u : Value} {v : World} (h : C4 p x y z u v) (ob : Obj) : C4 p x y z u (v.alloc ob) := h.grown (World.grownBy_alloc v ob none) (by simp)
theorem GrpsE.drew {w : World} {bm base n : Nat} {ls : List Ln} {D : DV} {E : List UInt8 → Option Value} (h : GrpsE w bm base n ls D E) : GrpsE w.drew bm base n ls D E := h.step (Below.refl _ _).drew
theorem GrpsE.alloc {w : World} {bm base n : Nat} {ls : List Ln} {D : DV} {E : List UInt8 → Option Value} (h : GrpsE w bm base n ls D E) (ob : Obj) : GrpsE (w.alloc ob) bm base n ls D E := h.step (Below.step _ (Below.refl _ _))
def ratV (q : Key) : Value := .agg #[.string ⟨q.1.toArray⟩, .string ⟨q.2.toArray⟩]
structure SumsM (w : World) (b n : Nat) (ms : List Ln) (D : DV) : Prop where
 map : w.ownsMap Tryz.prog 9 tokR b n D
 has : ∀ u : List UInt8, Maps.has D (.string u) = true ↔ ∃ x ∈ ms, x.1.2 = u
 at_ : ∀ u : List UInt8, Maps.has D (.string u) = true → ∀ zd, D.atKey (.string u) zd = .held (ratV (sumA ms u))
def GiveM (w : World) (ms : List Ln) (e : Ending) (w' : World) : Prop := ∃ b D, e = .returned (.map (some b)) ∧ SumsM w' b ms.length ms D ∧ Below w.heap.size w w'
structure OutE (w : World) (b m : Nat) (ms : List Ln) (E : List UInt8 → Option Value) (left : Lit → Bool) (D : DV) : Prop where
 map : w.ownsMap Tryz.prog 9 tokR b m D
 has : ∀ u : List UInt8, Maps.has D (.string u) = ((E u).isSome && !left (.string u))
 at_ : ∀ u : List UInt8, Maps.has D (.string u) = true → ∀ zd, D.atKey (.string u) zd = .held (ratV (sumA ms u))
theorem out_start (w : World) (ms : List Ln) (E : List UInt8 → Option Value) (left : Lit → Bool) (h : ∀ u, left (.string u) = (E u).isSome) : OutE (w.alloc (.map #[] 0)) w.heap.size 0 ms E left (.map []) :=
 ⟨World.ownsMap_made w _ _ _, fun u => by rw [h u]; cases E u <;> rfl, fun u h => (by cases h)⟩
theorem OutE.step {w w' : World} {b m : Nat} {ms : List Ln} {E : List UInt8 → Option Value} {left : Lit → Bool} {D : DV} (h : OutE w b m ms E left D) (hb : w.grownBy w' none) : OutE w' b m ms E left D :=
 ⟨h.map.kept hb (by simp), h.has, h.at_⟩
theorem OutE.other {w w' : World} {b m r : Nat} {ms : List Ln} {E : List UInt8 → Option Value} {left : Lit → Bool} {D : DV} (h : OutE w b m ms E left D) (hb : w.grownBy w' (some r)) (hr : b ≠ r) : OutE w' b m ms E left D :=
 ⟨h.map.kept hb (fun e => hr (Option.some.inj e)), h.has, h.at_⟩
theorem out_put {w w' : World} {b m m' : Nat} {ms : List Ln} {E : List UInt8 → Option Value} {left : Lit → Bool} {D : DV} (h : OutE w b m ms E left D) {u : List UInt8} {v : Value} (hu : E u = some v)
  (hm : w'.ownsMap Tryz.prog 9 tokR b m' (D.put (.string u) (.held (ratV (sumA ms u))))) : OutE w' b m' ms E (fun z => left z && !z.sameKey (.string u)) (D.put (.string u) (.held (ratV (sumA ms u)))) := by
 have hD := h.map.isMap
 refine ⟨hm, fun u' => ?_, fun u' hh zd => ?_⟩
 ·by_cases e : u' = u
  ·subst e
   rw [has_put_same (k := .string u') hD trivial, hu, WideAt.sameKey_self (a := .string u') trivial]
   simp
  ·have hne : (Lit.string u') ≠ .string u := fun c => e (Lit.string.inj c)
   rw [has_put_other hne, h.has, sameKey_ne hne]
   simp
 ·by_cases e : u' = u
  ·subst e
   rw [atKey_put_same (k := .string u') hD trivial]
  ·have hne : (Lit.string u') ≠ .string u := fun c => e (Lit.string.inj c)
   rw [has_put_other hne] at hh
   rw [atKey_put_other hne, h.at_ u' hh]
theorem grp_mem {ms : List Ln} {u : List UInt8} : grpL ms u ≠ [] ↔ ∃ x ∈ ms, x.1.2 = u := by
 unfold grpL
 constructor
 ·intro h
  obtain ⟨x, hx⟩ := List.exists_mem_of_ne_nil _ h
  obtain ⟨h1, h2⟩ := List.mem_filter.1 hx
  exact ⟨x, h1, eq_of_beq h2⟩
 ·rintro ⟨x, hx, e⟩ h
  have k : x ∈ ms.filter (fun x => x.1.2 == u) := List.mem_filter.2 ⟨hx, by simpa using e⟩
  rw [h] at k
  cases k
theorem out_end {w W : World} {b m n bm base : Nat} {ms : List Ln} {E : List UInt8 → Option Value} {left : Lit → Bool} {D D1 : DV} (h : OutE w b m ms E left D) (G : GrpsE W bm base n ms D1 E) (hl : ∀ kl, left kl = false) (hm : m ≤ ms.length) : SumsM w b ms.length ms D :=
 ⟨h.map.mono hm, fun u => by
  rw [h.has, hl, ← grp_mem]
  cases e : E u with
  | none => rw [G.none u e]; simp
  | some v => exact ⟨fun _ => G.pos u v e, fun _ => rfl⟩, h.at_⟩
theorem key_left {w : World} {bm base n : Nat} {ls : List Ln} {D : DV} {E : List UInt8 → Option Value} (G : GrpsE w bm base n ls D E) {u : List UInt8} {v : Value} (h : ∀ zd, D.atKey (.string u) zd = .held v) : E u = some v := by
 have hh : Maps.has D (.string u) = true := has_true_of_atKey h
 rw [G.has] at hh
 cases e : E u with
 | none => rw [e] at hh; cases hh
 | some v2 =>
  have := h (.held v)
  rw [G.at_ u v2 e] at this
  rw [DataW.held.inj this]
theorem invK (key : Value) (kl : Lit) (h : keyOf Tryz.prog 9 key = some kl) : ∃ x : ByteArray, key = .string x := by
 obtain ⟨s, e, _⟩ := key_inv h; exact ⟨_, e⟩
theorem invV (v : Value) (y : DV × List MemPlace) (_ : tokR v = some y) : ∃ c : Value, v = id c := ⟨v, rfl⟩
theorem key_is {x : ByteArray} {kl : Lit} (h : keyOf Tryz.prog 9 (.string x) = some kl) : ∃ u : List UInt8, x = ⟨u.toArray⟩ ∧ kl = .string u := by
 obtain ⟨s, e, k⟩ := key_inv h
 exact ⟨s, Value.string.inj e, k⟩
theorem below_two {w0 w1 w2 w3 : World} {row : Option Nat} {ob : Obj} (h : Below w0.heap.size w0 w1) (h2 : (w1.drew.alloc ob).grownBy w2 row) (h3 : w2.grownBy w3 (some w0.heap.size)) (hr : ∀ g, row = some g → w0.heap.size + 1 ≤ g) : Below w0.heap.size w0 w3 := by
 have a : Below w0.heap.size w0 (w1.drew.alloc ob) := Below.alloc h.drew (Below.size h.drew) ob
 have b := Below.grown a h2 (Below.size a) fun k hk => by have := hr k hk; omega
 exact Below.grown b h3 (Below.size b) fun k hk => by cases hk; exact Nat.le_refl _
theorem grown_in {W w w' : World} {g : Nat} (h : Below W.heap.size W w) (hg : w.grownBy w' (some g)) (hW : W.heap.size ≤ g) : Below W.heap.size W w' := Below.grown h hg (Below.size h) fun k hk => by cases hk; exact hW
set_option maxRecDepth 100000 in
set_option maxHeartbeats 4000000 in
theorem psums_any (q : Option Addr) (c : Nat) (ms : List Ln) (w : World) (hl : ms.length ≤ 1000000) (hr : ∀ x ∈ ms, isR x.2 = true) (hz : ∀ x ∈ ms, x.1.2.length ≤ maxLen) (hf : ∀ L : List Ln, (∀ x ∈ L, x ∈ ms) → L.length ≤ ms.length → Fit (sumL L)) (h : Lns w q ms) :
  Calls Tryz.prog 102 #[.slice q ms.length c] w (GiveM w ms) := by
 have HS := Lib.hid h; have HZ := Lib.hid hz
 have HCS : Hid (∀ (u : List UInt8) {W : World} {V : World} (p : Option Addr) (cc : Nat), Below V.heap.size V W → (grpL ms u).length ≤ cc → grpL ms u ≠ [] → Lns W p (grpL ms u) → Calls Tryz.prog 107 #[.slice p (grpL ms u).length cc] W (GiveR W (sumA ms u))) := Lib.hid fun u W V p cc _ hcc hne hL => by
  have hlen : (grpL ms u).length ≤ ms.length := List.length_filter_le _ _
  have hsub : ∀ y ∈ grpL ms u, y ∈ ms := fun y hy => (List.mem_filter.1 hy).1
  exact psum_any _ p cc (grpL ms u) W (Nat.pos_of_ne_zero fun e => hne (List.length_eq_zero_iff.1 e)) (Nat.le_refl _) hcc (by omega) (fun y hy => hr y (hsub y hy)) (fun L hs hl => hf L (fun y hy => hsub y (hs y hy)) (by omega)) hL
 clear h hz hr hf
 have hmm := @run_makeMap Tryz.prog
 go_enter Tryz.func102, Tryz.ntmps102
 go_wp2_with fail
 go_loopw [12] (fun i wr => ∃ (k : Nat) (D : DV) (E : List UInt8 → Option Value), k ≤ ms.length ∧ i = .int .i64 k ∧ Hid (GrpsE wr w.heap.size (w.heap.size + 1) k (ms.take k) D E) ∧ Below w.heap.size w wr) (fun i _ => ms.length - (intOf i).toNat)
 case atStart => exact ⟨0, _, _, Nat.zero_le _, rfl, Lib.hid (grps_start w), Below.step _ (Below.refl _ _)⟩
 case round =>
  obtain ⟨k, D, E, hk, rfl, HG, hw⟩ := hrel
  by_cases hlt : k < ms.length
  ·obtain ⟨⟨⟨a, s⟩, ⟨n, d⟩⟩, hx⟩ : ∃ x, ms[k]? = some x := ⟨_, List.getElem?_eq_getElem hlt⟩
   obtain ⟨b, o, rfl, k0, k1, k2, k3⟩ := (HS.out.below hw).rule hx
   have HTK : Hid (ms.take (k + 1) = ms.take k ++ [((a, s), (n, d))]) := Lib.hid (by rw [List.take_add_one, hx]; rfl)
   have HSL : Hid (s.length ≤ maxLen) := Lib.hid (HZ.out _ (List.mem_of_getElem? hx))
   have HFL : Hid ((grpL (ms.take k) s).length ≤ 3000000) := Lib.hid (Nat.le_trans (List.length_filter_le _ _) (by rw [List.length_take]; omega))
   have HKM : Hid (k < maxLen) := Lib.hid (by unfold maxLen; omega)
   have HGs : Hid (w.heap.size < wr.heap.size) := Lib.hid HG.out.map.lt
   have HBM : Hid (¬ w.heap.size = wr.heap.size) := Lib.hid (by have := HGs.out; omega)
   have HNE : Hid (((E s).getD nilV).ownBlock ≠ some wr.heap.size) := Lib.hid fun e => by
    have := (World.ownsRow.lt (grp_look HG.out HSL.out).2 _ e).2
    omega
   have HLO : Hid (∀ g, ((E s).getD nilV).ownBlock = some g → w.heap.size + 1 ≤ g) := Lib.hid fun g e => (World.ownsRow.lt (grp_look HG.out HSL.out).2 _ e).1
   clear hx
   have bw := Below.refl wr.heap.size wr
   go_upto_region 5 with fail
   obtain ⟨U, hU, bU, s1, r0, r1, r2, r3⟩ := lay4 (Below.refl wr.heap.size wr) (.string ⟨a.toArray⟩) (.string ⟨s.toArray⟩) (.string ⟨n.toArray⟩) (.string ⟨d.toArray⟩) 46
   have hz : C4 wr.heap.size (.string ⟨a.toArray⟩) (.string ⟨s.toArray⟩) (.string ⟨n.toArray⟩) (.string ⟨d.toArray⟩) U := ⟨r0 _ (Below.refl _ _), r1 _ (Below.refl _ _), r2 _ (Below.refl _ _), r3 _ (Below.refl _ _), by omega⟩
   rw [hU]; clear hU r0 r1 r2 r3 k0 k1 k2 k3 bw
   have hGU := Lib.hid (HG.out.step bU)
   have hWU := Lib.hid (hw.trans (bU.mono (Below.size hw)))
   have q0 := fun v (h : C4 wr.heap.size (.string ⟨a.toArray⟩) (.string ⟨s.toArray⟩) (.string ⟨n.toArray⟩) (.string ⟨d.toArray⟩) v) => h.c0
   have q1 := fun v (h : C4 wr.heap.size (.string ⟨a.toArray⟩) (.string ⟨s.toArray⟩) (.string ⟨n.toArray⟩) (.string ⟨d.toArray⟩) v) => h.c1
   have q2 := fun v (h : C4 wr.heap.size (.string ⟨a.toArray⟩) (.string ⟨s.toArray⟩) (.string ⟨n.toArray⟩) (.string ⟨d.toArray⟩) v) => h.c2
   have q3 := fun v (h : C4 wr.heap.size (.string ⟨a.toArray⟩) (.string ⟨s.toArray⟩) (.string ⟨n.toArray⟩) (.string ⟨d.toArray⟩) v) => h.c3
   have hws : w.heap.size + 1 ≤ U.heap.size := by have := HGs.out; have := Below.size hw; omega
   refine wp_region_noPanic ?_
   refine wp_region_held_drew (S := fun w' => C4 wr.heap.size (.string ⟨a.toArray⟩) (.string ⟨s.toArray⟩) (.string ⟨n.toArray⟩) (.string ⟨d.toArray⟩) w') (by kernel_rfl) (hz.drew) (fun hH0 => ?_)
   refine sch_in [0, 1, 2, 3, 4, 5, 7] ?_
   iterate 7 (refine sch_yes (v := ?_) rfl (by kernel_rfl) (by rfl) ?_ (by assumption) ?_; rotate_left 1; (· (intro w hSw; (try dsimp only at hSw); go_simp <;> (with_reducible rfl))); try simp only [Act.put, qA, qB, qC, qD, qE, qF])
   refine sch_out ?_
   refine wpAnyH_ready (rs := [6, 8]) (by kernel_rfl) (by simp) ?_
   refine AllReadyH.cons rfl (fun K hK => ?_) (AllReadyH.cons rfl (fun K hK => ?_) AllReadyH.nil)
   ·rw [if_pos (by rfl)]
    refine wp_lookup_run _ _ 128 rfl _ _ _ rfl rfl (grp_look hGU.out.drew HSL.out).1 ?_
    refine hK.out _ _ hH0 (fun hH1 => ?_)
    clear hK
    try simp only [Act.put, qA, qB, qC, qD, qE, qF]
    refine wpAnyH_ready (rs := [8]) (by kernel_rfl) (by simp) ?_
    refine AllReadyH.cons rfl (fun K hK => ?_) AllReadyH.nil
    go_simp
    refine hK.out _ _ (hH1.alloc _) (fun hH2 => ?_)
    clear hK
    try simp only [Act.put, qA, qB, qC, qD, qE, qF]
    refine wpAnyH_ready (rs := [9]) (by kernel_rfl) (by simp) ?_
    refine AllReadyH.cons rfl (fun K hK => ?_) AllReadyH.nil
    rw [if_pos (by rfl)]
    refine wp_append_one _ _ 22 rfl (w.heap.size + 1) Tryz.underlying22 _ (grpL (ms.take k) s) rfl (grp_look (hGU.out.drew.alloc (.cells #[.string ⟨a.toArray⟩, .string ⟨s.toArray⟩, .string ⟨n.toArray⟩, .string ⟨d.toArray⟩] 46)) HSL.out).2 ⟨U.heap.size, 0, none⟩ ((a, s), (n, d)) 1 rfl (lnsOne U.drew a s n d 46) HFL.out (by simp; omega) ?_
    intro v' w4 ho4 hg4 hl4
    have hne4 : ((E s).getD nilV).ownBlock ≠ some wr.heap.size := HNE.out
    refine hK.out _ _ (hH2.grown hg4 hne4) (fun hH3 => ?_)
    clear hK
    try simp only [Act.put, qA, qB, qC, qD, qE, qF]
    obtain ⟨w5, hrun5, hg5, hG5⟩ := grp_put (x := ((a, s), (n, d))) (hGU.out.drew) HSL.out HKM.out ((World.grownBy_alloc U.drew (.cells #[.string ⟨a.toArray⟩, .string ⟨s.toArray⟩, .string ⟨n.toArray⟩, .string ⟨d.toArray⟩] 46) _).trans hg4) ho4 (hl4.imp id fun h => ⟨_, h, by simp⟩)
    refine wpAnyH_ready (rs := [10]) (by kernel_rfl) (by simp) ?_
    refine AllReadyH.cons rfl (fun K hK => ?_) AllReadyH.nil
    rw [if_pos (by rfl)]
    refine wp_update_run _ _ _ 128 rfl _ _ _ rfl rfl rfl hrun5 ?_
    refine hK.out _ _ (hH3.grown hg5 (fun e => HBM.out (Option.some.inj e))) (fun hH4 => ?_)
    clear hK
    try simp only [Act.put, qA, qB, qC, qD, qE, qF]
    refine wpAnyH_done (by kernel_rfl) ?_ _
    refine NoPanic.normal ?_
    have hW5 : Hid (Below w.heap.size w w5) := Lib.hid (below_two hWU.out hg4 hg5 (fun g e => HLO.out g e))
    have X := Lib.hid hG5
    clear hG5 hg5 hrun5 hg4 ho4 hl4 hH0 hH1 hH2 hH3 hH4 hz q0 q1 q2 q3
    go_wp2_with fail
    go_roundw
    case rel => exact ⟨k + 1, _, _, hlt, by go_num, by rw [HTK.out]; exact X, hW5.out⟩
    case measure => simp [intOf]; omega
   ·go_simp
    refine hK.out _ _ (hH0.alloc _) (fun hH1 => ?_)
    clear hK
    try simp only [Act.put, qA, qB, qC, qD, qE, qF]
    refine wpAnyH_ready (rs := [6]) (by kernel_rfl) (by simp) ?_
    refine AllReadyH.cons rfl (fun K hK => ?_) AllReadyH.nil
    rw [if_pos (by rfl)]
    refine wp_lookup_run _ _ 128 rfl _ _ _ rfl rfl (grp_look (hGU.out.drew.alloc _) HSL.out).1 ?_
    refine hK.out _ _ hH1 (fun hH2 => ?_)
    clear hK
    try simp only [Act.put, qA, qB, qC, qD, qE, qF]
    refine wpAnyH_ready (rs := [9]) (by kernel_rfl) (by simp) ?_
    refine AllReadyH.cons rfl (fun K hK => ?_) AllReadyH.nil
    rw [if_pos (by rfl)]
    refine wp_append_one _ _ 22 rfl (w.heap.size + 1) Tryz.underlying22 _ (grpL (ms.take k) s) rfl (grp_look (hGU.out.drew.alloc (.cells #[.string ⟨a.toArray⟩, .string ⟨s.toArray⟩, .string ⟨n.toArray⟩, .string ⟨d.toArray⟩] 46)) HSL.out).2 ⟨U.heap.size, 0, none⟩ ((a, s), (n, d)) 1 rfl (lnsOne U.drew a s n d 46) HFL.out (by simp; omega) ?_
    intro v' w4 ho4 hg4 hl4
    have hne4 : ((E s).getD nilV).ownBlock ≠ some wr.heap.size := HNE.out
    refine hK.out _ _ (hH2.grown hg4 hne4) (fun hH3 => ?_)
    clear hK
    try simp only [Act.put, qA, qB, qC, qD, qE, qF]
    obtain ⟨w5, hrun5, hg5, hG5⟩ := grp_put (x := ((a, s), (n, d))) (hGU.out.drew) HSL.out HKM.out ((World.grownBy_alloc U.drew (.cells #[.string ⟨a.toArray⟩, .string ⟨s.toArray⟩, .string ⟨n.toArray⟩, .string ⟨d.toArray⟩] 46) _).trans hg4) ho4 (hl4.imp id fun h => ⟨_, h, by simp⟩)
    refine wpAnyH_ready (rs := [10]) (by kernel_rfl) (by simp) ?_
    refine AllReadyH.cons rfl (fun K hK => ?_) AllReadyH.nil
    rw [if_pos (by rfl)]
    refine wp_update_run _ _ _ 128 rfl _ _ _ rfl rfl rfl hrun5 ?_
    refine hK.out _ _ (hH3.grown hg5 (fun e => HBM.out (Option.some.inj e))) (fun hH4 => ?_)
    clear hK
    try simp only [Act.put, qA, qB, qC, qD, qE, qF]
    refine wpAnyH_done (by kernel_rfl) ?_ _
    refine NoPanic.normal ?_
    have hW5 : Hid (Below w.heap.size w w5) := Lib.hid (below_two hWU.out hg4 hg5 (fun g e => HLO.out g e))
    have X := Lib.hid hG5
    clear hG5 hg5 hrun5 hg4 ho4 hl4 hH0 hH1 hH2 hH3 hH4 hz q0 q1 q2 q3
    go_wp2_with fail
    go_roundw
    case rel => exact ⟨k + 1, _, _, hlt, by go_num, by rw [HTK.out]; exact X, hW5.out⟩
    case measure => simp [intOf]; omega
  ·obtain rfl : k = ms.length := by omega
   rw [List.take_length] at HG
   have HG1 := HG
   have HB1 := Lib.hid hw
   generalize hWW : wr = W1 at *
   have hm1 := Lib.hid HG1.out.map
   clear HG hw hWW
   have hmm := @run_makeMap Tryz.prog
   have HMM := Lib.hid hmm
   clear HMM
   have hA := HG1.out.map.alloc (.map #[] 0)
   go_wp2_with (at_range; refine halt ?_)
   show wpList _ _ _ _ _ _
   refine wpList_range_own _ rfl _ 128 rfl 9 22 keyed Tryz.underlying128 tokR w.heap.size ms.length D rfl hA ?_
   intro w0 hrg0 hg0 hs0
   go_frame
   obtain ⟨r, hr0⟩ : ∃ r, (W1.alloc (.map #[] 0)).heap.size = r := ⟨_, rfl⟩
   rw [hr0] at hrg0 ⊢
   go_wp2_with fail
   have HR1 : Hid (W1.heap.size < r) := Lib.hid (by rw [← hr0]; simp)
   have HRO : Hid (W1.heap.size ≠ r) := Lib.hid (Nat.ne_of_lt HR1.out)
   have HBO : Hid (w.heap.size ≠ W1.heap.size) := Lib.hid (Nat.ne_of_lt hm1.out.lt)
   have HMM : Hid True := Lib.hid trivial
   have hO0 := (out_start W1 ms E (Maps.has D) (fun u => HG1.out.has u)).step hg0
   have hW0 : Below W1.heap.size W1 w0 := Below.grown (Below.step _ (Below.refl _ _)) hg0 (by simp) (fun k hk => by cases hk)
   have hsz := hA.size_le
   go_loopw [8] (fun _ wr => ∃ (left : Lit → Bool) (cnt m : Nat) (Do : DV), m + cnt ≤ ms.length ∧ wr.ranges Tryz.prog 9 tokR w.heap.size r ms.length D left cnt ∧ Hid (OutE wr W1.heap.size m ms E left Do) ∧ Below W1.heap.size W1 wr) (fun _ wr => wr.rangeLeft w.heap.size r)
   case atStart => exact ⟨_, _, 0, _, by omega, hrg0, Lib.hid hO0, hW0⟩
   case round =>
    clear hO0 hW0 hrg0 hg0 hs0 hA
    clear HMM
    obtain ⟨left, cnt, m, Do, hmc, hrg, HO, hw⟩ := hrel
    go_wp2_with (at_next; refine halt ?_)
    show wpList _ _ _ _ _ _
    refine wpList_next_ranges _ rfl _ rfl 9 keyed tokR Value.string id invK invV w.heap.size r ms.length D left cnt rfl hrg ?_ ?_
    ·intro hc0 hl0
     have HE := Lib.hid (out_end HO.out HG1.out hl0 (by omega))
     have HW := Lib.hid (HB1.out.trans (hw.mono (Below.size HB1.out)))
     clear hrg HO hw hl0
     go_wp2_with fail
     go_ret
     exact ⟨_, _, rfl, HE.out, HW.out⟩
    ·intro x c kl y w2 cnt2 hkey hlk hv hat hrg2 hlt2 hg2 hs2 hen
     obtain ⟨u, rfl, rfl⟩ := key_is hkey
     have hcu : E u = some c := key_left HG1.out fun zd => by
      rw [hat zd]; exact (congrArg Prod.fst (Option.some.inj hv)).symm
     have hown := HG1.out.own u c hcu
     have hpos := HG1.out.pos u c hcu
     obtain ⟨pc, cc, rfl, hcc, hLc, _⟩ := own_lns hown
     have hw2 : Below W1.heap.size W1 w2 := grown_in hw hg2 (Nat.le_of_lt HR1.out)
     have cs := HCS.out u (W := w2) pc cc hw2 hcc hpos (hLc.below hw2)
     have HKU : Hid (keyOf Tryz.prog 9 (.string ⟨u.toArray⟩) = some (.string u)) := Lib.hid hkey
     have HO2 := Lib.hid (HO.out.other hg2 HRO.out)
     have HLT : Hid (cnt2 < cnt) := Lib.hid hlt2
     have HRG2 := Lib.hid hrg2
     have HCU := Lib.hid hcu
     have HW2 := Lib.hid hw2
     have hml : m < maxLen := by unfold maxLen; omega
     clear hat hv hkey hlk hcu hown hcc hLc hw2 hw HO hg2 hs2 hpos hrg2
     go_wp2_with fail
     refine cs.mono ?_
     rintro e w3 ⟨rfl, b3⟩
     have HO3 := HO2.out.step (grown_of b3)
     have HRG3 := Lib.hid (HRG2.out.kept (grown_of (row := none) b3) (by simp) (by simp))
     have HW3 := Lib.hid (Below.more HW2.out b3)
     clear b3 hen
     go_wp2_with (at_mapUpdate; refine halt ?_)
     show wpList _ _ _ _ _ _
     refine wpList_mapUpdate_own _ rfl _ _ _ 102 rfl 9 35 keyed Tryz.underlying102 tokR W1.heap.size m Do rfl HO3.map hml _ _ (.string u) rfl rfl HKU.out (.held (ratV (sumA ms u))) [] rfl ?_
     intro w4 hown4 hg4
     have HO4 := Lib.hid (out_put HO3 HCU.out hown4)
     have HRG4 := HRG3.out.kept hg4 (fun e => HBO.out (Option.some.inj e)) (fun e => HRO.out (Option.some.inj e).symm)
     have HW4 := Lib.hid (grown_in HW3.out hg4 (Nat.le_refl _))
     have hL0 := hrg.left_eq
     have hL4 := HRG4.left_eq
     have HRG5 := Lib.hid HRG4
     have HLL : Hid (w4.rangeLeft w.heap.size r < wr.rangeLeft w.heap.size r) := Lib.hid (by rw [hL0, hL4]; exact HLT.out)
     have hlt3 := HLT.out
     clear hown4 hg4 HO3 HRG4 hL0 hL4 hrg
     go_frame
     go_wp2_with fail
     go_roundw
     case rel => exact ⟨_, cnt2, m + 1, _, by omega, HRG5.out, HO4, HW4.out⟩
     case measure => exact HLL.out
end Go.Proofs.YtagfndkfjbbpjaaGreatDoor
/- The program's post: are lines balanced? -/
namespace Go.Proofs.YtagfndkfjbbpjaaGreatDoor
open Go.RowKit Go.Maps
set_option linter.unusedSimpArgs false
set_option linter.unusedVariables false
theorem ok_more {C : List Ln} {k : Nat} {x : Ln} (h : ∀ j y, j < k → C[j]? = some y → lineOk y = true) (hx : C[k]? = some x) (hs : lineOk x = true) : ∀ j y, j < k + 1 → C[j]? = some y → lineOk y = true := fun j y hj hy => by
 rcases Nat.lt_or_eq_of_le (Nat.le_of_lt_succ hj) with g | g
 ·exact h j y g hy
 ·subst g; rw [hx] at hy; obtain rfl := Option.some.inj hy; exact hs
theorem bal_stop {ms : List Ln} {k : Nat} {x : Ln} (hx : ms[k]? = some x) (h : lineOk x = false) : balB ms = false := by
 unfold balB
 rw [List.all_eq_false.2 ⟨x, List.mem_of_getElem? hx, by rw [h]; decide⟩]; rfl
theorem bal_sum {ms : List Ln} {u : List UInt8} (hx : ∃ x ∈ ms, x.1.2 = u) (h : ¬ sgnR (sumA ms u) = 0) : balB ms = false := by
 obtain ⟨x, hx, rfl⟩ := hx
 unfold balB
 rw [List.all_eq_false.2 (show ∃ y ∈ ms, ¬ (sgnR (sumA ms y.1.2) == 0) = true from ⟨x, hx, by rw [beq_iff_eq]; exact h⟩), Bool.and_false]
theorem bal_yes {ms : List Ln} (h1 : ∀ x ∈ ms, lineOk x = true) (h2 : ∀ u, (∃ x ∈ ms, x.1.2 = u) → sgnR (sumA ms u) = 0) : balB ms = true := by
 unfold balB
 rw [List.all_eq_true.2 h1, List.all_eq_true.2 fun x hx => beq_iff_eq.2 (h2 _ ⟨x, hx, rfl⟩)]; rfl
set_option maxRecDepth 100000 in
set_option maxHeartbeats 4000000 in
theorem pbal_any (q : Option Addr) (dd : Nat) (ms : List Ln) (D0 M : Nat) (w : World) (hl : ms.length ≤ 1000000) (hz : ∀ x ∈ ms, SzF x) (hs : Sized D0 (M * ms.length)) (ht : (∀ x ∈ ms, lineOk x = true) → Tame D0 M ms) (h : Lns w q ms) :
  Calls Tryz.prog 86 #[.slice q ms.length dd] w (GiveB w (balB ms)) := by
 have HS := Lib.hid h; have HZ := Lib.hid hz; have HSz := Lib.hid hs; have HTm := Lib.hid ht
 clear h hz hs ht
 go_enter Tryz.func86, Tryz.ntmps86
 go_wp2
 go_loopw [9] (fun i wr => ∃ k : Nat, k ≤ ms.length ∧ i = .int .i64 k ∧ Hid (∀ j y, j < k → ms[j]? = some y → lineOk y = true) ∧ Below w.heap.size w wr) (fun i _ => ms.length - (intOf i).toNat)
 case atStart => exact ⟨0, Nat.zero_le _, rfl, fun j y h => absurd h (Nat.not_lt_zero j), Below.refl _ _⟩
 case round =>
  obtain ⟨k, hk, rfl, HJ, hw⟩ := hrel
  by_cases hlt : k < ms.length
  ·obtain ⟨⟨⟨a, s⟩, ⟨n, d⟩⟩, hx⟩ : ∃ x, ms[k]? = some x := ⟨_, List.getElem?_eq_getElem hlt⟩
   obtain ⟨b, o, rfl, k0, k1, k2, k3⟩ := (HS.out.below hw).rule hx
   have hzx := (HZ.out _ (List.mem_of_getElem? hx)).2
   have c1 : ∀ V, Calls Tryz.prog 70 #[.string ⟨a.toArray⟩] V (GiveB V (isName a)) := fun V => bname_any ⟨a.toArray⟩ V
   have c2 : ∀ V, Calls Tryz.prog 70 #[.string ⟨s.toArray⟩] V (GiveB V (isName s)) := fun V => bname_any ⟨s.toArray⟩ V
   have c3 : ∀ V, Calls Tryz.prog 67 #[.agg #[.string ⟨n.toArray⟩, .string ⟨d.toArray⟩]] V (GiveB V (isR (n, d))) := fun V => qmay_any ⟨n.toArray⟩ ⟨d.toArray⟩ V (by rw [size_of]; exact Nat.le_trans hzx.1 (by decide)) (by rw [size_of]; exact Nat.le_trans hzx.2 (by decide))
   clear hzx
   cases h1 : isName a with
   | false =>
    rw [h1] at c1
    have HO := Lib.hid (bal_stop hx (by rw [lineOk_may]; show ((isName a && isName s) && isR (n, d)) = _; rw [h1]; rfl))
    have C1 := Lib.hid c1; have C2 := Lib.hid c2; have C3 := Lib.hid c3
    clear c1 c2 c3 hx h1
    have bw := Below.refl wr.heap.size wr
    go_upto_region 4 with fail
    obtain ⟨U, hU, bU, s1, r0, r1, r2, r3⟩ := lay4 (Below.refl wr.heap.size wr) (.string ⟨a.toArray⟩) (.string ⟨s.toArray⟩) (.string ⟨n.toArray⟩) (.string ⟨d.toArray⟩) 46
    rw [hU]; clear hU s1
    have HW := Lib.hid (Below.more hw bU)
    have b0 := Below.refl U.heap.size U
    clear hw k0 k1 k2 k3 bU bw
    go_wp2_with fail
    refine (C1.out _).mono ?_
    rintro e w1 ⟨rfl, b⟩
    have b1 := Below.more b0 b
    clear b
    go_wp2_with fail
    go_ret
    exact ⟨ret_bool (by rw [HO.out]), Below.more HW.out b1⟩
   | true =>
    cases h2 : isName s with
    | false =>
     rw [h1] at c1
     rw [h2] at c2
     have HO := Lib.hid (bal_stop hx (by rw [lineOk_may]; show ((isName a && isName s) && isR (n, d)) = _; rw [h1, h2]; rfl))
     have C1 := Lib.hid c1; have C2 := Lib.hid c2; have C3 := Lib.hid c3
     clear c1 c2 c3 hx h1 h2
     have bw := Below.refl wr.heap.size wr
     go_upto_region 4 with fail
     obtain ⟨U, hU, bU, s1, r0, r1, r2, r3⟩ := lay4 (Below.refl wr.heap.size wr) (.string ⟨a.toArray⟩) (.string ⟨s.toArray⟩) (.string ⟨n.toArray⟩) (.string ⟨d.toArray⟩) 46
     rw [hU]; clear hU s1
     have HW := Lib.hid (Below.more hw bU)
     have b0 := Below.refl U.heap.size U
     clear hw k0 k1 k2 k3 bU bw
     go_wp2_with fail
     refine (C1.out _).mono ?_
     rintro e w1 ⟨rfl, b⟩
     have b1 := Below.more b0 b
     clear b
     go_wp2_with fail
     refine (C2.out _).mono ?_
     rintro e w2 ⟨rfl, b⟩
     have b2 := Below.more b1 b
     clear b
     go_wp2_with fail
     go_ret
     exact ⟨ret_bool (by rw [HO.out]), Below.more HW.out b2⟩
    | true =>
     cases h3 : isR (n, d) with
     | false =>
      rw [h1] at c1
      rw [h2] at c2
      rw [h3] at c3
      have HO := Lib.hid (bal_stop hx (by rw [lineOk_may]; show ((isName a && isName s) && isR (n, d)) = _; rw [h1, h2, h3]; rfl))
      have C1 := Lib.hid c1; have C2 := Lib.hid c2; have C3 := Lib.hid c3
      clear c1 c2 c3 hx h1 h2 h3
      have bw := Below.refl wr.heap.size wr
      go_upto_region 4 with fail
      obtain ⟨U, hU, bU, s1, r0, r1, r2, r3⟩ := lay4 (Below.refl wr.heap.size wr) (.string ⟨a.toArray⟩) (.string ⟨s.toArray⟩) (.string ⟨n.toArray⟩) (.string ⟨d.toArray⟩) 46
      rw [hU]; clear hU s1
      have HW := Lib.hid (Below.more hw bU)
      have b0 := Below.refl U.heap.size U
      clear hw k0 k1 k2 k3 bU bw
      go_wp2_with fail
      refine (C1.out _).mono ?_
      rintro e w1 ⟨rfl, b⟩
      have b1 := Below.more b0 b
      clear b
      go_wp2_with fail
      refine (C2.out _).mono ?_
      rintro e w2 ⟨rfl, b⟩
      have b2 := Below.more b1 b
      clear b
      go_wp2_with fail
      refine (C3.out _).mono ?_
      rintro e w3 ⟨rfl, b⟩
      have b3 := Below.more b2 b
      clear b
      go_wp2_with fail
      go_ret
      exact ⟨ret_bool (by rw [HO.out]), Below.more HW.out b3⟩
     | true =>
      rw [h1] at c1
      rw [h2] at c2
      rw [h3] at c3
      have HJ2 := Lib.hid (ok_more HJ.out hx (by rw [lineOk_may]; show ((isName a && isName s) && isR (n, d)) = _; rw [h1, h2, h3]; rfl))
      have C1 := Lib.hid c1; have C2 := Lib.hid c2; have C3 := Lib.hid c3
      clear c1 c2 c3 hx h1 h2 h3
      have bw := Below.refl wr.heap.size wr
      go_upto_region 4 with fail
      obtain ⟨U, hU, bU, s1, r0, r1, r2, r3⟩ := lay4 (Below.refl wr.heap.size wr) (.string ⟨a.toArray⟩) (.string ⟨s.toArray⟩) (.string ⟨n.toArray⟩) (.string ⟨d.toArray⟩) 46
      rw [hU]; clear hU s1
      have HW := Lib.hid (Below.more hw bU)
      have b0 := Below.refl U.heap.size U
      clear hw k0 k1 k2 k3 bU bw
      go_wp2_with fail
      refine (C1.out _).mono ?_
      rintro e w1 ⟨rfl, b⟩
      have b1 := Below.more b0 b
      clear b
      go_wp2_with fail
      refine (C2.out _).mono ?_
      rintro e w2 ⟨rfl, b⟩
      have b2 := Below.more b1 b
      clear b
      go_wp2_with fail
      refine (C3.out _).mono ?_
      rintro e w3 ⟨rfl, b⟩
      have b3 := Below.more b2 b
      clear b
      go_wp2_with fail
      go_roundw
      case rel => exact ⟨k + 1, hlt, by go_num, HJ2.out, Below.more HW.out b3⟩
      case measure => simp [intOf]; omega
  ·obtain rfl : k = ms.length := by omega
   have hok : ∀ x ∈ ms, lineOk x = true := fun x hx => by
    obtain ⟨i, hi, rfl⟩ := List.getElem_of_mem hx
    exact HJ.out i _ hi (List.getElem?_eq_getElem hi)
   have hr : ∀ x ∈ ms, isR x.2 = true := fun x hx => ok_rat (hok x hx)
   have cs := fun V (hv : Below wr.heap.size wr V) => psums_any _ dd ms V (by omega) hr (fun x hx => Nat.le_trans (HZ.out x hx).1.2 (by unfold maxLen; decide)) (fun L hs hl => sum_fit (HTm.out hok) hr hs hl HSz.out) (HS.out.below (Below.more hw hv))
   have CS := Lib.hid cs; have HW := Lib.hid hw; have HOk := Lib.hid hok
   have hfit : Hid (∀ u, Fit (sumA ms u)) := Lib.hid fun u => sum_fit (HTm.out hok) hr (fun x hx => (List.mem_filter.1 hx).1) (List.length_filter_le _ _) HSz.out
   have b0 := Below.refl wr.heap.size wr
   clear cs hw hok hr HJ
   go_wp2_with fail
   refine (CS.out _ b0).mono ?_
   rintro e w1 ⟨mb, D, rfl, hM, hb1⟩
   have HM := Lib.hid hM
   have HW1 := Lib.hid (Below.more HW.out hb1)
   have hA := HM.out.map
   have hsz := hA.size_le
   clear CS hM hb1 HW b0
   go_wp2_with (at_range; refine halt ?_)
   show wpList _ _ _ _ _ _
   refine wpList_range_own _ rfl _ 102 rfl 9 35 keyed Tryz.underlying102 tokR mb ms.length D rfl hA ?_
   intro w0 hrg0 hg0 hs0
   go_frame
   obtain ⟨r, hr0⟩ : ∃ r, w1.heap.size = r := ⟨_, rfl⟩
   have HWr : Hid (w.heap.size ≤ r) := Lib.hid (by rw [← hr0]; exact Below.size HW1.out)
   have hW0 : Below w.heap.size w w0 := Below.grown HW1.out hg0 (Below.size HW1.out) (fun k hk => by cases hk)
   rw [hr0] at hrg0 ⊢
   go_wp2_with fail
   have HRG0 := Lib.hid hrg0
   have HW0 := Lib.hid hW0
   clear hrg0 hg0 hs0 hA hW0 hr0
   go_loopw [6] (fun _ wr => ∃ (left : Lit → Bool) (cnt : Nat), wr.ranges Tryz.prog 9 tokR mb r ms.length D left cnt ∧ Hid (∀ u : List UInt8, Maps.has D (.string u) = true → left (.string u) = false → sgnR (sumA ms u) = 0) ∧ Below w.heap.size w wr) (fun _ wr => wr.rangeLeft mb r)
   case atStart => exact ⟨_, _, HRG0.out, Lib.hid (fun u h k => by rw [h] at k; cases k), HW0.out⟩
   case round =>
    clear HRG0 HW0
    obtain ⟨left, cnt, hrg, HL, hw⟩ := hrel
    go_wp2_with (at_next; refine halt ?_)
    show wpList _ _ _ _ _ _
    refine wpList_next_ranges _ rfl _ rfl 9 keyed tokR Value.string id invK invV mb r ms.length D left cnt rfl hrg ?_ ?_
    ·intro hc0 hl0
     have HO := Lib.hid (bal_yes HOk.out fun u hu => HL.out u ((HM.out.has u).2 hu) (hl0 _))
     have HW := Lib.hid hw
     clear hrg hw hl0
     go_wp2_with fail
     go_ret
     exact ⟨ret_bool (by rw [HO.out]), HW.out⟩
    ·intro x c kl y w2 cnt2 hkey hlk hv hat hrg2 hlt2 hg2 hs2 hen
     obtain ⟨u, rfl, rfl⟩ := key_is hkey
     have hcv : ∀ zd, D.atKey (.string u) zd = .held c := fun zd => by
      rw [hat zd]; exact (congrArg Prod.fst (Option.some.inj hv)).symm
     have hhas := has_true_of_atKey hcv
     have hce : c = ratV (sumA ms u) := by
      have h1 := hcv .nil
      rw [HM.out.at_ u hhas] at h1
      exact (DataW.held.inj h1).symm
     have hft := hfit.out u
     have hL0 := hrg.left_eq
     have HLL : Hid (cnt2 < wr.rangeLeft mb r) := Lib.hid (by rw [hL0]; exact hlt2)
     have HB := Lib.hid (bal_sum (ms := ms) ((HM.out.has u).1 hhas))
     have HL2 : Hid (sgnR (sumA ms u) = 0 → ∀ u' : List UInt8, Maps.has D (.string u') = true → (left (.string u') && !(Lit.string u').sameKey (.string u)) = false → sgnR (sumA ms u') = 0) := Lib.hid fun h0 u' hh hk => by
      by_cases e : u' = u
      ·rw [e]; exact h0
      ·rw [sameKey_ne (fun c => e (Lit.string.inj c))] at hk
       exact HL.out u' hh (by simpa using hk)
     subst hce
     generalize sumA ms u = q at *
     obtain ⟨q1, q2⟩ := q
     have cg : ∀ V, Calls Tryz.prog 39 #[.agg #[.string ⟨q1.toArray⟩, .string ⟨q2.toArray⟩]] V (GiveI V (sgnR (q1, q2))) := fun V => qsign_any ⟨q1.toArray⟩ ⟨q2.toArray⟩ V (by rw [size_of]; exact Nat.le_trans hft.1 (by decide)) (by rw [size_of]; exact Nat.le_trans hft.2 (by decide))
     have hw2 := Lib.hid (Below.grown hw hg2 (Below.size hw) fun k hk => by cases hk; exact HWr.out)
     have HRG2 := Lib.hid hrg2
     clear hat hv hkey hlk hcv hhas hft hL0 hg2 hs2 hrg2 hrg hw hlt2 HL
     unfold ratV at hen
     dsimp only [id] at hen
     go_upto_region 10 with fail
     obtain ⟨U, hU, bU, s1, r0, r1⟩ := lay (Below.refl w2.heap.size w2) (.string ⟨q1.toArray⟩) (.string ⟨q2.toArray⟩) 35
     rw [hU]; clear hU s1 hen
     have b0 := Below.refl U.heap.size U
     have HBU := Lib.hid bU
     clear bU
     by_cases hs : sgnR (q1, q2) = 0
     ·rw [hs] at cg
      have CG := Lib.hid cg
      have HL3 := Lib.hid (HL2.out hs)
      clear cg hs HL2 HB
      go_wp2_with fail
      refine (CG.out _).mono ?_
      rintro e w3 ⟨rfl, b⟩
      have b1 := Below.more HBU.out b
      have HRG3 := Lib.hid (HRG2.out.kept (grown_of (row := none) b1) (by simp) (by simp))
      have HW3 := Lib.hid (hw2.out.trans (b1.mono (Below.size hw2.out)))
      have hL3 := HRG3.out.left_eq
      have HLL3 : Hid (w3.rangeLeft mb r < wr.rangeLeft mb r) := Lib.hid (by rw [hL3]; exact HLL.out)
      clear b b1 b0 hL3 r0 r1
      go_wp2_with fail
      go_roundw
      case rel => exact ⟨_, cnt2, HRG3.out, HL3, HW3.out⟩
      case measure => exact HLL3.out
     ·have HO := Lib.hid (HB.out hs)
      generalize sgnR (q1, q2) = z at *
      have CG := Lib.hid cg
      clear cg HL2 HB
      go_wp2_with fail
      refine (CG.out _).mono ?_
      rintro e w3 ⟨rfl, b⟩
      have b1 := Below.more HBU.out b
      have HW3 := Lib.hid (hw2.out.trans (b1.mono (Below.size hw2.out)))
      clear b b1 b0 r0 r1
      go_wp2_with fail
      go_ret
      exact ⟨ret_bool (by rw [HO.out]), HW3.out⟩
end Go.Proofs.YtagfndkfjbbpjaaGreatDoor
/- The program's post: lines posted. -/
namespace Go.Proofs.YtagfndkfjbbpjaaGreatDoor
open Go.RowKit
set_option linter.unusedSimpArgs false
set_option linter.unusedVariables false
set_option maxRecDepth 100000 in
set_option maxHeartbeats 4000000 in
theorem pap_may (p : Option Addr) (c : Nat) (ls : List Ln) (q : Option Addr) (d : Nat) (ms : List Ln) (cov : Bool) (w : World)
  (CM : Hid (∀ V, Below w.heap.size w V → Calls Tryz.prog 33 #[.slice p ls.length c] V (GiveB V false))) :
  Calls Tryz.prog 60 #[.slice p ls.length c, .slice q ms.length d, .bool cov] w (GiveLEF w p ls ([], 1)) := by
 go_enter Tryz.func60, Tryz.ntmps60
 go_wp2_with fail
 have b0 := Below.refl w.heap.size w
 refine (CM.out _ b0).mono ?_
 rintro e w1 ⟨rfl, b⟩
 have b1 := Below.more b0 b
 clear b
 go_wp2_with fail
 go_ret2
 exact giveLEF_no b1
set_option maxRecDepth 100000 in
set_option maxHeartbeats 4000000 in
theorem pap_bal (p : Option Addr) (c : Nat) (ls : List Ln) (q : Option Addr) (d : Nat) (ms : List Ln) (cov : Bool) (w : World)
  (CM : Hid (∀ V, Below w.heap.size w V → Calls Tryz.prog 33 #[.slice p ls.length c] V (GiveB V true)))
  (CB : Hid (∀ V, Below w.heap.size w V → Calls Tryz.prog 86 #[.slice q ms.length d] V (GiveB V false))) :
  Calls Tryz.prog 60 #[.slice p ls.length c, .slice q ms.length d, .bool cov] w (GiveLEF w p ls ([], 70)) := by
 go_enter Tryz.func60, Tryz.ntmps60
 go_wp2_with fail
 have b0 := Below.refl w.heap.size w
 refine (CM.out _ b0).mono ?_
 rintro e w1 ⟨rfl, b⟩
 have b1 := Below.more b0 b
 clear b
 go_wp2_with fail
 refine (CB.out _ b1).mono ?_
 rintro e w2 ⟨rfl, b⟩
 have b2 := Below.more b1 b
 clear b
 go_wp2_with fail
 go_ret2
 exact giveLEF_no b2
theorem two_concat (w : World) (p : Option Addr) (c : Nat) (ls : List Ln) (p2 : Option Addr) (c2 : Nat) (ch : List Ln) (t : TypeId) (h1 : Lns w p ls) (h2 : Lns w p2 ch) (l1 : ls.length ≤ 1000000) (l2 : ch.length ≤ 1000000) :
  Calls Tryz.prog 88 #[.slice (some ⟨w.heap.size, 0, none⟩) 2 2] (w.alloc (.cells #[.slice p ls.length c, .slice p2 ch.length c2] t)) (GiveRo (w.alloc (.cells #[.slice p ls.length c, .slice p2 ch.length c2] t)) (ls ++ ch)) := by
 have k := pconcat_any w.heap.size [((p, c), ls), ((p2, c2), ch)] (w.alloc (.cells #[.slice p ls.length c, .slice p2 ch.length c2] t)) (by simp) (show 2 ≤ 3 by decide) (fun j x hx => ?_) (fun x hx => ?_) (fun x hx => ?_)
 ·have e : ptL [((p, c), ls), ((p2, c2), ch)] = ls ++ ch := by
   show ls ++ (ch ++ []) = ls ++ ch
   rw [List.append_nil]
  rw [e] at k
  exact k
 ·match j, hx with
  | 0, hx => obtain rfl := Option.some.inj hx; exact cell_new w _ _ _ rfl 0
  | 1, hx => obtain rfl := Option.some.inj hx; exact cell_new w _ _ _ rfl 1
  | j + 2, hx => cases hx
 ·simp only [List.mem_cons, List.not_mem_nil, or_false] at hx
  rcases hx with rfl | rfl
  ·exact h1.below (Below.step _ (Below.refl _ _))
  ·exact h2.below (Below.step _ (Below.refl _ _))
 ·simp only [List.mem_cons, List.not_mem_nil, or_false] at hx
  rcases hx with rfl | rfl
  ·exact l1
  ·exact l2
set_option maxRecDepth 100000 in
set_option maxHeartbeats 4000000 in
theorem pap_free (p : Option Addr) (c : Nat) (ls : List Ln) (q : Option Addr) (d : Nat) (ms : List Ln) (w : World) (hA : Lns w p ls) (ch out : List Ln) (hls : ls.length ≤ 1000000) (hch : ch.length ≤ 1000000) (R : List Ln) (HR : Hid (ls ++ ch = R))
  (CM : Hid (∀ V, Below w.heap.size w V → Calls Tryz.prog 33 #[.slice p ls.length c] V (GiveB V true)))
  (CB : Hid (∀ V, Below w.heap.size w V → Calls Tryz.prog 86 #[.slice q ms.length d] V (GiveB V true)))
  (G1 : Hid (∀ V, Below w.heap.size w V → Calls Tryz.prog 87 #[.slice q ms.length d] V (GiveRo V ch)))
  (G2 : Hid (∀ V, Below w.heap.size w V → ∀ p' c', Lns V p' R → Calls Tryz.prog 87 #[.slice p' R.length c'] V (GiveL V out))) :
  Calls Tryz.prog 60 #[.slice p ls.length c, .slice q ms.length d, .bool false] w (GiveLEF w p ls (out, 0)) := by
 have HA := Lib.hid hA; clear hA
 go_enter Tryz.func60, Tryz.ntmps60
 go_wp2_with fail
 have b0 := Below.refl w.heap.size w
 refine (CM.out _ b0).mono ?_
 rintro e w1 ⟨rfl, b⟩
 have b1 := Below.more b0 b
 clear b
 go_wp2_with fail
 refine (CB.out _ b1).mono ?_
 rintro e w2 ⟨rfl, b⟩
 have b2 := Below.more b1 b
 clear b
 go_wp2_with fail
 refine (G1.out _ b2).mono ?_
 rintro e w3 ⟨⟨p2, c2, rfl, hc2, hL2⟩, b⟩
 have b3 := Below.more b2 b
 have HL2 := Lib.hid hL2
 clear b hL2
 go_wp2_with fail
 have ba := Below.alloc (Below.refl w3.heap.size w3) (Nat.le_refl _) (.cells #[.slice p ls.length c, .slice p2 ch.length c2] 23)
 have b4 := b3.trans (ba.mono (Below.size b3))
 have hcc := two_concat w3 p c ls p2 c2 ch 23 (HA.out.below b3) HL2.out hls hch
 rw [HR.out] at hcc
 have HL4 := Lib.hid (HL2.out.below ba)
 have HB4 := Lib.hid b4
 clear ba b4
 refine hcc.mono ?_
 rintro e w5 ⟨⟨p5, c5, rfl, hc5, hL5⟩, b⟩
 have b5 := Below.more HB4.out b
 have HL5 := Lib.hid hL5
 have HL6 := Lib.hid (HL4.out.below b)
 clear b hL5 hcc
 go_wp2_with fail
 refine (G2.out _ b5 _ _ HL5.out).mono ?_
 rintro e w6 ⟨⟨p6, c6, rfl, hc6, hL6, hF6⟩, b⟩
 have HN6 : Hid (NewR w p ls p6 out) := Lib.hid (.inr fun a ha => Nat.le_trans (Below.size b5) (hF6 a ha))
 clear hF6
 have b6 := Below.more b5 b
 have HL7 := Lib.hid hL6
 have HL8 := Lib.hid (HL6.out.below b)
 clear b hL6
 go_wp2_with fail
 go_ret2
 exact ⟨⟨p6, c6, rfl, hc6, HL7.out, HN6.out⟩, b6⟩
set_option maxRecDepth 100000 in
set_option maxHeartbeats 4000000 in
theorem pap_short (p : Option Addr) (c : Nat) (ls : List Ln) (q : Option Addr) (d : Nat) (ms : List Ln) (w : World) (hA : Lns w p ls) (ch out : List Ln) (hls : ls.length ≤ 1000000) (hch : ch.length ≤ 1000000) (R : List Ln) (HR : Hid (ls ++ ch = R))
  (CM : Hid (∀ V, Below w.heap.size w V → Calls Tryz.prog 33 #[.slice p ls.length c] V (GiveB V true)))
  (CB : Hid (∀ V, Below w.heap.size w V → Calls Tryz.prog 86 #[.slice q ms.length d] V (GiveB V true)))
  (G1 : Hid (∀ V, Below w.heap.size w V → Calls Tryz.prog 87 #[.slice q ms.length d] V (GiveRo V ch)))
  (G2 : Hid (∀ V, Below w.heap.size w V → ∀ p' c', Lns V p' R → Calls Tryz.prog 87 #[.slice p' R.length c'] V (GiveL V out)))
  (CS : Hid (∀ V, Below w.heap.size w V → ∀ p1 c1 p2 c2, out.length ≤ c1 → Lns V p1 out → Lns V p2 ch → Calls Tryz.prog 89 #[.slice p1 out.length c1, .slice p2 ch.length c2] V (GiveB V true))) :
  Calls Tryz.prog 60 #[.slice p ls.length c, .slice q ms.length d, .bool true] w (GiveLEF w p ls ([], 71)) := by
 have HA := Lib.hid hA; clear hA
 go_enter Tryz.func60, Tryz.ntmps60
 go_wp2_with fail
 have b0 := Below.refl w.heap.size w
 refine (CM.out _ b0).mono ?_
 rintro e w1 ⟨rfl, b⟩
 have b1 := Below.more b0 b
 clear b
 go_wp2_with fail
 refine (CB.out _ b1).mono ?_
 rintro e w2 ⟨rfl, b⟩
 have b2 := Below.more b1 b
 clear b
 go_wp2_with fail
 refine (G1.out _ b2).mono ?_
 rintro e w3 ⟨⟨p2, c2, rfl, hc2, hL2⟩, b⟩
 have b3 := Below.more b2 b
 have HL2 := Lib.hid hL2
 clear b hL2
 go_wp2_with fail
 have ba := Below.alloc (Below.refl w3.heap.size w3) (Nat.le_refl _) (.cells #[.slice p ls.length c, .slice p2 ch.length c2] 23)
 have b4 := b3.trans (ba.mono (Below.size b3))
 have hcc := two_concat w3 p c ls p2 c2 ch 23 (HA.out.below b3) HL2.out hls hch
 rw [HR.out] at hcc
 have HL4 := Lib.hid (HL2.out.below ba)
 have HB4 := Lib.hid b4
 clear ba b4
 refine hcc.mono ?_
 rintro e w5 ⟨⟨p5, c5, rfl, hc5, hL5⟩, b⟩
 have b5 := Below.more HB4.out b
 have HL5 := Lib.hid hL5
 have HL6 := Lib.hid (HL4.out.below b)
 clear b hL5 hcc
 go_wp2_with fail
 refine (G2.out _ b5 _ _ HL5.out).mono ?_
 rintro e w6 ⟨⟨p6, c6, rfl, hc6, hL6, _⟩, b⟩
 have b6 := Below.more b5 b
 have HL7 := Lib.hid hL6
 have HL8 := Lib.hid (HL6.out.below b)
 clear b hL6
 go_wp2_with fail
 refine (CS.out _ b6 _ _ _ _ hc6 HL7.out HL8.out).mono ?_
 rintro e w7 ⟨rfl, b⟩
 have b7 := Below.more b6 b
 clear b
 go_wp2_with fail
 go_ret2
 exact giveLEF_no b7
set_option maxRecDepth 100000 in
set_option maxHeartbeats 4000000 in
theorem pap_cov (p : Option Addr) (c : Nat) (ls : List Ln) (q : Option Addr) (d : Nat) (ms : List Ln) (w : World) (hA : Lns w p ls) (ch out : List Ln) (hls : ls.length ≤ 1000000) (hch : ch.length ≤ 1000000) (R : List Ln) (HR : Hid (ls ++ ch = R))
  (CM : Hid (∀ V, Below w.heap.size w V → Calls Tryz.prog 33 #[.slice p ls.length c] V (GiveB V true)))
  (CB : Hid (∀ V, Below w.heap.size w V → Calls Tryz.prog 86 #[.slice q ms.length d] V (GiveB V true)))
  (G1 : Hid (∀ V, Below w.heap.size w V → Calls Tryz.prog 87 #[.slice q ms.length d] V (GiveRo V ch)))
  (G2 : Hid (∀ V, Below w.heap.size w V → ∀ p' c', Lns V p' R → Calls Tryz.prog 87 #[.slice p' R.length c'] V (GiveL V out)))
  (CS : Hid (∀ V, Below w.heap.size w V → ∀ p1 c1 p2 c2, out.length ≤ c1 → Lns V p1 out → Lns V p2 ch → Calls Tryz.prog 89 #[.slice p1 out.length c1, .slice p2 ch.length c2] V (GiveB V false))) :
  Calls Tryz.prog 60 #[.slice p ls.length c, .slice q ms.length d, .bool true] w (GiveLEF w p ls (out, 0)) := by
 have HA := Lib.hid hA; clear hA
 go_enter Tryz.func60, Tryz.ntmps60
 go_wp2_with fail
 have b0 := Below.refl w.heap.size w
 refine (CM.out _ b0).mono ?_
 rintro e w1 ⟨rfl, b⟩
 have b1 := Below.more b0 b
 clear b
 go_wp2_with fail
 refine (CB.out _ b1).mono ?_
 rintro e w2 ⟨rfl, b⟩
 have b2 := Below.more b1 b
 clear b
 go_wp2_with fail
 refine (G1.out _ b2).mono ?_
 rintro e w3 ⟨⟨p2, c2, rfl, hc2, hL2⟩, b⟩
 have b3 := Below.more b2 b
 have HL2 := Lib.hid hL2
 clear b hL2
 go_wp2_with fail
 have ba := Below.alloc (Below.refl w3.heap.size w3) (Nat.le_refl _) (.cells #[.slice p ls.length c, .slice p2 ch.length c2] 23)
 have b4 := b3.trans (ba.mono (Below.size b3))
 have hcc := two_concat w3 p c ls p2 c2 ch 23 (HA.out.below b3) HL2.out hls hch
 rw [HR.out] at hcc
 have HL4 := Lib.hid (HL2.out.below ba)
 have HB4 := Lib.hid b4
 clear ba b4
 refine hcc.mono ?_
 rintro e w5 ⟨⟨p5, c5, rfl, hc5, hL5⟩, b⟩
 have b5 := Below.more HB4.out b
 have HL5 := Lib.hid hL5
 have HL6 := Lib.hid (HL4.out.below b)
 clear b hL5 hcc
 go_wp2_with fail
 refine (G2.out _ b5 _ _ HL5.out).mono ?_
 rintro e w6 ⟨⟨p6, c6, rfl, hc6, hL6, hF6⟩, b⟩
 have HN6 : Hid (NewR w p ls p6 out) := Lib.hid (.inr fun a ha => Nat.le_trans (Below.size b5) (hF6 a ha))
 clear hF6
 have b6 := Below.more b5 b
 have HL7 := Lib.hid hL6
 have HL8 := Lib.hid (HL6.out.below b)
 clear b hL6
 go_wp2_with fail
 refine (CS.out _ b6 _ _ _ _ hc6 HL7.out HL8.out).mono ?_
 rintro e w7 ⟨rfl, b⟩
 have b7 := Below.more b6 b
 have HL9 := Lib.hid (HL7.out.below b)
 clear b
 go_wp2_with fail
 go_ret2
 exact ⟨⟨p6, c6, rfl, hc6, HL9.out, HN6.out⟩, b7⟩
theorem papplyF_any (p : Option Addr) (c : Nat) (ls : List Ln) (q : Option Addr) (d : Nat) (ms : List Ln) (cov : Bool) (D M : Nat) (w : World) (hc : ls.length ≤ c) (hd : ms.length ≤ d) (hl : ls.length ≤ 10000) (hm : ms.length ≤ 200) (hz : ∀ x ∈ ls, SzF x) (hzm : ∀ x ∈ ms, SzF x) (hw : Way D M ls ms) (h : Lns w p ls) (hq : Lns w q ms) :
  Calls Tryz.prog 60 #[.slice p ls.length c, .slice q ms.length d, .bool cov] w (GiveLEF w p ls (applyB ls ms cov)) := by
 have cm := fun V (hv : Below w.heap.size w V) => bmay_any p c ls V hc (by omega) (fun x hx => (hz x hx).szL) (h.below hv)
 have cb := fun V (hv : Below w.heap.size w V) => pbal_any q d ms D M V (by omega) hzm (hw.z.mono (Nat.mul_le_mul_left _ (by omega))) hw.t2 (hq.below hv)
 unfold applyB
 cases h1 : mayB ls with
 | false => rw [h1] at cm; exact pap_may p c ls q d ms cov w (Lib.hid cm)
 | true =>
  rw [h1] at cm
  cases h2 : balB ms with
  | false => rw [h2] at cb; exact pap_bal p c ls q d ms cov w (Lib.hid cm) (Lib.hid cb)
  | true =>
   rw [h2] at cb
   have hg := good_iff.1 h1
   have hok := (balB_iff.1 h2).1
   have hr : ∀ x ∈ ms, isR x.2 = true := fun x hx => ok_rat (hok x hx)
   have hch := gath_good hok
   have hcl : (addAll [] ms).length ≤ ms.length := by have := addAll_len none_good hok; simpa using this
   have hol := addAll_len hg hok
   have t2 := hw.t2 hok
   have t1 := hw.t1 hg
   have hbd : ∀ k, Bd D (M * (ms.length + 1)) (hasQ (addAll [] ms) k) := fun k => by
    rw [gath_has hok]; exact (sumK_bd hw.z.pos t2 k).mono (Nat.mul_le_mul_left _ (by omega))
   have tch : Tame D (M * (ms.length + 1)) (addAll [] ms) := good_tame hch hbd
   have tls : Tame D (M * (ms.length + 1)) ls := fun x hx => (t1 x hx).mono (by rw [Nat.mul_add]; omega)
   have zz : Sized D (M * (ms.length + 1) * 2) := by rw [Nat.mul_assoc]; exact hw.z.mono (Nat.mul_le_mul_left _ (by omega))
   have hboth := gath_both hg hok
   have g1 := fun V (hv : Below w.heap.size w V) => pgather_any q d ms ms.length V (by omega) hok (fun L hs hl => sum_fit t2 hr hs hl (hw.z.mono (Nat.mul_le_mul_left _ (by omega)))) (fun k => List.length_filter_le _ _) (hq.below hv)
   have g2 := fun V (_ : Below w.heap.size w V) p' c' (hL : Lns V p' (ls ++ addAll [] ms)) => pgatherF_any p' c' (ls ++ addAll [] ms) 2 V (by rw [List.length_append]; omega) hboth (fun L hs hl => sum_fitN (tls.app tch) (fun x hx => ok_rat (hboth x hx)) hs hl zz) (fun k => by
    rw [List.filter_append, List.length_append]
    have := key_one hg k; have := key_one hch k; omega) hL
   rw [gath_two hg hok] at g2
   have hzo : ∀ x ∈ addAll ls ms, SzF x := by have k := hw.fit hg hok ms.length; rw [List.take_length] at k; exact k
   have hzc : ∀ x ∈ addAll [] ms, SzF x := good_fit hch hbd (zz.mono (by omega))
   have cs := fun V (_ : Below w.heap.size w V) p1 c1 p2 c2 (h1 : (addAll ls ms).length ≤ c1) (hL1 : Lns V p1 (addAll ls ms)) (hL2 : Lns V p2 (addAll [] ms)) => pshort_any p1 c1 (addAll ls ms) p2 c2 (addAll [] ms) V h1 (by omega) (by omega) (addAll_good hg hok).1.2 hzo hzc hL1 hL2
   have hsame := short_same2 hg hok
   cases cov with
   | false => exact pap_free p c ls q d ms w h _ _ (by omega) (by omega) _ (Lib.hid rfl) (Lib.hid cm) (Lib.hid cb) (Lib.hid g1) (Lib.hid g2)
   | true =>
    cases h3 : ms.any (shortB ls (addAll ls ms)) with
    | true =>
     rw [hsame, h3] at cs
     exact pap_short p c ls q d ms w h _ _ (by omega) (by omega) _ (Lib.hid rfl) (Lib.hid cm) (Lib.hid cb) (Lib.hid g1) (Lib.hid g2) (Lib.hid cs)
    | false =>
     rw [hsame, h3] at cs
     exact pap_cov p c ls q d ms w h _ _ (by omega) (by omega) _ (Lib.hid rfl) (Lib.hid cm) (Lib.hid cb) (Lib.hid g1) (Lib.hid g2) (Lib.hid cs)
theorem papply_any (p : Option Addr) (c : Nat) (ls : List Ln) (q : Option Addr) (d : Nat) (ms : List Ln) (cov : Bool) (D M : Nat) (w : World) (hc : ls.length ≤ c) (hd : ms.length ≤ d) (hl : ls.length ≤ 10000) (hm : ms.length ≤ 200) (hz : ∀ x ∈ ls, SzF x) (hzm : ∀ x ∈ ms, SzF x) (hw : Way D M ls ms) (h : Lns w p ls) (hq : Lns w q ms) :
  Calls Tryz.prog 60 #[.slice p ls.length c, .slice q ms.length d, .bool cov] w (GiveLE w (applyB ls ms cov)) :=
 (papplyF_any p c ls q d ms cov D M w hc hd hl hm hz hzm hw h hq).mono fun _ _ h => h.old
end Go.Proofs.YtagfndkfjbbpjaaGreatDoor

/- The program's fractions: what each call of package rat answers, as plain functions of texts; nothing that was there turns. -/
import Derived.RangeFuncBox
import Derived.Test.YtmllklfjngapiaaDoorRatNum2
namespace Go.Proofs.YtmllklfjngapiaaDoor
open Go.RowKit

def GiveR (w : World) (p : List UInt8 × List UInt8) (e : Ending) (w' : World) : Prop := e = .returned (.agg #[.string ⟨p.1.toArray⟩, .string ⟨p.2.toArray⟩]) ∧ Below w.heap.size w w'
def GiveRB (w : World) (p : (List UInt8 × List UInt8) × Bool) (e : Ending) (w' : World) : Prop := e = .returned (.tuple #[.agg #[.string ⟨p.1.1.toArray⟩, .string ⟨p.1.2.toArray⟩], .bool p.2]) ∧ Below w.heap.size w w'
def GiveSR (w : World) (p : List UInt8 × (List UInt8 × List UInt8)) (e : Ending) (w' : World) : Prop := e = .returned (.tuple #[.string ⟨p.1.toArray⟩, .agg #[.string ⟨p.2.1.toArray⟩, .string ⟨p.2.2.toArray⟩]]) ∧ Below w.heap.size w w'
def GiveSS (w : World) (l : List UInt8 × List UInt8) (e : Ending) (w' : World) : Prop := e = .returned (.tuple #[.string ⟨l.1.toArray⟩, .string ⟨l.2.toArray⟩]) ∧ Below w.heap.size w w'
def GiveRE (w : World) (p : (List UInt8 × List UInt8) × Int) (e : Ending) (w' : World) : Prop := e = .returned (.tuple #[.agg #[.string ⟨p.1.1.toArray⟩, .string ⟨p.1.2.toArray⟩], .int .i64 p.2]) ∧ Below w.heap.size w w'
def GiveI (w : World) (i : Int) (e : Ending) (w' : World) : Prop := e = .returned (.int .i64 i) ∧ Below w.heap.size w w'
/-- What leaves the world as it was leaves all as it was. -/
theorem calm {P : Program} {f : FuncId} {args : Array Value} {w : World} {v : Value} (c : Calls P f args w fun e w' => e = .returned v ∧ w = w') : Calls P f args w fun e w' => e = .returned v ∧ Below w.heap.size w w' :=
  c.mono fun _ _ ⟨he, hw⟩ => ⟨he, hw ▸ Below.refl _ _⟩

theorem cell_new (w : World) (x : Obj) (cs : Array Value) (t : TypeId) (h : x = .cells cs t) (j : Nat) : (w.alloc x).cell? ⟨w.heap.size, j, none⟩ = cs[j]? := by
  subst h; exact cell_of_row _ _ _ _ _ _ (World.alloc_heap_new w _)
theorem Below.step {w v : World} (x : Obj) (h : Below (w.alloc x).heap.size (w.alloc x) v) : Below w.heap.size w v := Below.more ((Below.refl _ w).alloc (Nat.le_refl _) _) h
/-- A block of two cells that may be written. -/
structure Zc (b : Nat) (x y : Value) (v : World) : Prop where
  c0 : v.cell? ⟨b, 0, none⟩ = some x
  c1 : v.cell? ⟨b, 1, none⟩ = some y
  f0 : v.frozen? ⟨b, 0, none⟩ = false
  f1 : v.frozen? ⟨b, 1, none⟩ = false
  lt : b < v.heap.size
theorem Zc.below {b : Nat} {x y : Value} {v v' : World} (h : Zc b x y v) (hb : Below v.heap.size v v') : Zc b x y v' :=
  ⟨(hb.cell (p := ⟨b, 0, none⟩) h.lt).trans h.c0, (hb.cell (p := ⟨b, 1, none⟩) h.lt).trans h.c1, (hb.frozen (p := ⟨b, 0, none⟩) h.lt).trans h.f0, (hb.frozen (p := ⟨b, 1, none⟩) h.lt).trans h.f1, Nat.lt_of_lt_of_le h.lt hb.size⟩
theorem Zc.drew {b : Nat} {x y : Value} {v : World} (h : Zc b x y v) : Zc b x y v.drew := ⟨h.c0, h.c1, h.f0, h.f1, h.lt⟩
theorem zc_new (w : World) (x y : Value) (t : TypeId) : Zc w.heap.size x y (w.alloc (.cells #[x, y] t)) :=
  ⟨cell_new _ _ _ _ rfl 0, cell_new _ _ _ _ rfl 1, by rw [frozen?_alloc_cells]; simp [World.frozen?], by rw [frozen?_alloc_cells]; simp [World.frozen?], by simp⟩
theorem zc_made {u v : World} {x y : Value} {t : TypeId} (hb : Below (u.alloc (.cells #[x, y] t)).heap.size (u.alloc (.cells #[x, y] t)) v) : Zc u.heap.size x y v := (zc_new u x y t).below hb
theorem zc_made0 {u v : World} {x y : Value} {t : TypeId} (hb : Below (u.drew.alloc (.cells #[x, y] t)).heap.size (u.drew.alloc (.cells #[x, y] t)) v) : Zc u.heap.size x y v := zc_made (u := u.drew) hb

/-- Blocks laid at a call's start: a fraction, or two, and a block for the answer: what they hold for as long as nothing below a bound turns. -/
theorem box1 (w : World) (a b : Value) (t : TypeId) : ∃ W, w.alloc (.cells #[a, b] t) = W ∧ Below w.heap.size w W ∧ w.heap.size + 1 = W.heap.size ∧
    (∀ v, Below W.heap.size W v → v.cell? ⟨w.heap.size, 0, none⟩ = some a) ∧ (∀ v, Below W.heap.size W v → v.cell? ⟨w.heap.size, 1, none⟩ = some b) :=
  ⟨_, rfl, Below.step _ (Below.refl _ _), by simp, fun _ h => (zc_made h).c0, fun _ h => (zc_made h).c1⟩
theorem box2 (w : World) (a b c d : Value) (t u : TypeId) : ∃ W, (w.alloc (.cells #[a, b] t)).alloc (.cells #[c, d] u) = W ∧ Below w.heap.size w W ∧ w.heap.size + 1 + 1 = W.heap.size ∧
    (∀ v, Below W.heap.size W v → v.cell? ⟨w.heap.size, 0, none⟩ = some a) ∧ (∀ v, Below W.heap.size W v → v.cell? ⟨w.heap.size, 1, none⟩ = some b) ∧
    (∀ v, Below W.heap.size W v → v.cell? ⟨w.heap.size + 1, 0, none⟩ = some c) ∧ (∀ v, Below W.heap.size W v → v.cell? ⟨w.heap.size + 1, 1, none⟩ = some d) := by
  obtain ⟨V, hV, B, s, c0, c1⟩ := box1 w a b t
  rw [hV]
  have hz : ∀ v, Below (V.alloc (.cells #[c, d] u)).heap.size (V.alloc (.cells #[c, d] u)) v → Zc (w.heap.size + 1) c d v := fun v h => by rw [s]; exact zc_made h
  exact ⟨_, rfl, Below.more B (Below.step _ (Below.refl _ _)), by rw [s]; simp, fun v h => c0 v (Below.step _ h), fun v h => c1 v (Below.step _ h), fun v h => (hz v h).c0, fun v h => (hz v h).c1⟩
/-- The block for the answer, as well. -/
theorem box0z (w : World) (x y : Value) (z : TypeId) : ∃ W, w.alloc (.cells #[x, y] z) = W ∧ Below w.heap.size w W ∧ w.heap.size + 1 = W.heap.size ∧
    (∀ v, Below W.heap.size W v → v.cell? ⟨w.heap.size, 0, none⟩ = some x) ∧ (∀ v, Below W.heap.size W v → v.cell? ⟨w.heap.size, 1, none⟩ = some y) ∧
    (∀ v, Below W.heap.size W v → v.frozen? ⟨w.heap.size, 0, none⟩ = false) ∧ (∀ v, Below W.heap.size W v → v.frozen? ⟨w.heap.size, 1, none⟩ = false) :=
  ⟨_, rfl, Below.step _ (Below.refl _ _), by simp, fun _ h => (zc_made h).c0, fun _ h => (zc_made h).c1, fun _ h => (zc_made h).f0, fun _ h => (zc_made h).f1⟩
theorem box1z (w : World) (a b x y : Value) (t z : TypeId) : ∃ W, (w.alloc (.cells #[a, b] t)).alloc (.cells #[x, y] z) = W ∧ Below w.heap.size w W ∧ w.heap.size + 1 + 1 = W.heap.size ∧
    (∀ v, Below W.heap.size W v → v.cell? ⟨w.heap.size, 0, none⟩ = some a) ∧ (∀ v, Below W.heap.size W v → v.cell? ⟨w.heap.size, 1, none⟩ = some b) ∧
    (∀ v, Below W.heap.size W v → v.cell? ⟨w.heap.size + 1, 0, none⟩ = some x) ∧ (∀ v, Below W.heap.size W v → v.cell? ⟨w.heap.size + 1, 1, none⟩ = some y) ∧
    (∀ v, Below W.heap.size W v → v.frozen? ⟨w.heap.size + 1, 0, none⟩ = false) ∧ (∀ v, Below W.heap.size W v → v.frozen? ⟨w.heap.size + 1, 1, none⟩ = false) := by
  obtain ⟨V, hV, B, s, c0, c1⟩ := box1 w a b t
  rw [hV]
  have hz : ∀ v, Below (V.alloc (.cells #[x, y] z)).heap.size (V.alloc (.cells #[x, y] z)) v → Zc (w.heap.size + 1) x y v := fun v h => by rw [s]; exact zc_made h
  exact ⟨_, rfl, Below.more B (Below.step _ (Below.refl _ _)), by rw [s]; simp, fun v h => c0 v (Below.step _ h), fun v h => c1 v (Below.step _ h), fun v h => (hz v h).c0, fun v h => (hz v h).c1, fun v h => (hz v h).f0, fun v h => (hz v h).f1⟩
theorem box2z (w : World) (a b c d x y : Value) (t u z : TypeId) : ∃ W, ((w.alloc (.cells #[a, b] t)).alloc (.cells #[c, d] u)).alloc (.cells #[x, y] z) = W ∧ Below w.heap.size w W ∧ w.heap.size + 1 + 1 + 1 = W.heap.size ∧
    (∀ v, Below W.heap.size W v → v.cell? ⟨w.heap.size, 0, none⟩ = some a) ∧ (∀ v, Below W.heap.size W v → v.cell? ⟨w.heap.size, 1, none⟩ = some b) ∧
    (∀ v, Below W.heap.size W v → v.cell? ⟨w.heap.size + 1, 0, none⟩ = some c) ∧ (∀ v, Below W.heap.size W v → v.cell? ⟨w.heap.size + 1, 1, none⟩ = some d) ∧
    (∀ v, Below W.heap.size W v → v.cell? ⟨w.heap.size + 1 + 1, 0, none⟩ = some x) ∧ (∀ v, Below W.heap.size W v → v.cell? ⟨w.heap.size + 1 + 1, 1, none⟩ = some y) ∧
    (∀ v, Below W.heap.size W v → v.frozen? ⟨w.heap.size + 1 + 1, 0, none⟩ = false) ∧ (∀ v, Below W.heap.size W v → v.frozen? ⟨w.heap.size + 1 + 1, 1, none⟩ = false) := by
  obtain ⟨V, hV, B, s, c0, c1, c2, c3⟩ := box2 w a b c d t u
  rw [hV]
  have hz : ∀ v, Below (V.alloc (.cells #[x, y] z)).heap.size (V.alloc (.cells #[x, y] z)) v → Zc (w.heap.size + 1 + 1) x y v := fun v h => by rw [s]; exact zc_made h
  exact ⟨_, rfl, Below.more B (Below.step _ (Below.refl _ _)), by rw [s]; simp, fun v h => c0 v (Below.step _ h), fun v h => c1 v (Below.step _ h), fun v h => c2 v (Below.step _ h), fun v h => c3 v (Below.step _ h), fun v h => (hz v h).c0, fun v h => (hz v h).c1, fun v h => (hz v h).f0, fun v h => (hz v h).f1⟩
/-- The same, the answer's block apart: it may be written, and the others hold what they held. -/
theorem box1r (w : World) (a b x y : Value) (t z : TypeId) : ∃ W, (w.alloc (.cells #[a, b] t)).alloc (.cells #[x, y] z) = W ∧ Below w.heap.size w W ∧ w.heap.size + 1 + 1 = W.heap.size ∧
    (∀ v, Below (w.heap.size + 1) W v → v.cell? ⟨w.heap.size, 0, none⟩ = some a) ∧ (∀ v, Below (w.heap.size + 1) W v → v.cell? ⟨w.heap.size, 1, none⟩ = some b) ∧ Zc (w.heap.size + 1) x y W := by
  obtain ⟨V, hV, B, s, c0, c1⟩ := box1 w a b t
  rw [hV, s]
  have hb : Below V.heap.size V (V.alloc (.cells #[x, y] z)) := Below.step _ (Below.refl _ _)
  exact ⟨_, rfl, Below.more B hb, by simp, fun v h => c0 v (hb.trans h), fun v h => c1 v (hb.trans h), zc_new _ _ _ _⟩
theorem box2r (w : World) (a b c d x y : Value) (t u z : TypeId) : ∃ W, ((w.alloc (.cells #[a, b] t)).alloc (.cells #[c, d] u)).alloc (.cells #[x, y] z) = W ∧ Below w.heap.size w W ∧ w.heap.size + 1 + 1 + 1 = W.heap.size ∧
    (∀ v, Below (w.heap.size + 1 + 1) W v → v.cell? ⟨w.heap.size, 0, none⟩ = some a) ∧ (∀ v, Below (w.heap.size + 1 + 1) W v → v.cell? ⟨w.heap.size, 1, none⟩ = some b) ∧
    (∀ v, Below (w.heap.size + 1 + 1) W v → v.cell? ⟨w.heap.size + 1, 0, none⟩ = some c) ∧ (∀ v, Below (w.heap.size + 1 + 1) W v → v.cell? ⟨w.heap.size + 1, 1, none⟩ = some d) ∧ Zc (w.heap.size + 1 + 1) x y W := by
  obtain ⟨V, hV, B, s, c0, c1, c2, c3⟩ := box2 w a b c d t u
  rw [hV, s]
  have hb : Below V.heap.size V (V.alloc (.cells #[x, y] z)) := Below.step _ (Below.refl _ _)
  exact ⟨_, rfl, Below.more B hb, by simp, fun v h => c0 v (hb.trans h), fun v h => c1 v (hb.trans h), fun v h => c2 v (hb.trans h), fun v h => c3 v (hb.trans h), zc_new _ _ _ _⟩
/-- Behind a call: what was as at the start is so. -/
theorem held {P : Program} {f : FuncId} {args : Array Value} {w W : World} {v : Value} {B : Nat} (hB : B ≤ W.heap.size) (c : Calls P f args w fun e w' => e = .returned v ∧ Below w.heap.size w w') (h : Below B W w) :
    Calls P f args w fun e w' => e = .returned v ∧ Below w.heap.size w w' ∧ Below B W w' := c.mono fun _ _ ⟨he, hb⟩ => ⟨he, hb, h.trans (hb.mono (Nat.le_trans hB h.size))⟩
/-- An answer that lies in two cells. -/
theorem put2 {B b : Nat} {a w : World} (h : Below B a w) (hb : B ≤ b) (x y : Value) : Below B a ((w.setCell ⟨b, 0, none⟩ x).setCell ⟨b, 1, none⟩ y) := Below.setCell (Below.setCell h hb _) hb _

set_option maxRecDepth 100000 in
set_option maxHeartbeats 2000000 in
theorem qmay_any (n d : ByteArray) (w : World) (hn : n.size ≤ 100000) (hd : d.size ≤ 100000) :
    Calls Tryd.prog 30 #[.agg #[.string n, .string d]] w (GiveB w (isR (n.data.toList, d.data.toList))) := by
  have c1 : ∀ w, Calls Tryd.prog 43 #[.string n] w (GiveS w (absW n.data.toList)) := fun w => calm (wabs_any n w (by omega))
  have hl := absW_len n.data.toList
  have c2 : ∀ w, Calls Tryd.prog 42 #[.string ⟨(absW n.data.toList).toArray⟩, .string d] w (GiveS w (gcdS (absW n.data.toList) d.data.toList)) := fun w =>
    gcd_any ⟨(absW n.data.toList).toArray⟩ d w (by show (absW n.data.toList).toArray.size ≤ _; rw [List.size_toArray]; exact Nat.le_trans hl (Nat.le_trans hn (by decide))) (by omega)
  by_cases h : d.data.toList = [48]
  · rw [h, may_48]
    have e1 := eqB_true h
    clear c1 c2 hn hd hl h
    go_enter Tryd.func30, Tryd.ntmps30
    go_wp2_with fail
    obtain ⟨W, hW, BW, sW, k0, k1⟩ := box1 w (.string n) (.string d) 24
    have hB := Lib.hid (Nat.le_refl W.heap.size)
    rw [hW]; clear hW
    have b0 := Below.refl W.heap.size W
    have k1' := k1 W (Below.refl _ _)
    go_quiet (fail)
    go_wp2_with fail
    go_ret
    exact ⟨rfl, ⟨BW.os, BW.tape, BW.output, BW.size, BW.block⟩⟩
  · rw [← may_eq h]
    have e1 := eqB_false h
    generalize absW n.data.toList = l at *
    generalize gcdS l d.data.toList = g at *
    clear hn hd hl h
    have C1 := Lib.hid c1
    have C2 := Lib.hid c2
    clear c1 c2
    go_enter Tryd.func30, Tryd.ntmps30
    go_wp2_with fail
    obtain ⟨W, hW, BW, sW, k0, k1⟩ := box1 w (.string n) (.string d) 24
    have hB := Lib.hid (Nat.le_refl W.heap.size)
    rw [hW]; clear hW
    have b0 := Below.refl W.heap.size W
    go_region_held3 (fun w' => Below W.heap.size W w')
      (first | (exact (Below.refl _ _).drew) | (with_reducible assumption) | (exact Below.alloc (by with_reducible assumption) (Nat.le_trans hB.out (Below.size (by with_reducible assumption))) _) | (exact put2 (by with_reducible assumption) (Nat.le_refl _) _ _) | (exact put2 (by with_reducible assumption) hB.out _ _) | (exact put2 (by with_reducible assumption) (Nat.le_trans hB.out (Below.size (by with_reducible assumption))) _ _))
      (first | (go_at_call 43; (with_reducible refine (held (W := W) hB.out (C1.out _) (by assumption)).mono ?_); rintro e w'' ⟨rfl, hb, hw⟩; (first | (have hz := zc_made0 hb) | (have hz := zc_made hb) | skip); (try have hz := Zc.below (by assumption) hb); (try (have z0 := hz.c0; have z1 := hz.c1; have z2 := hz.f0; have z3 := hz.f1))) | (go_at_call 42; (with_reducible refine (held (W := W) hB.out (C2.out _) (by assumption)).mono ?_); rintro e w'' ⟨rfl, hb, hw⟩; (first | (have hz := zc_made0 hb) | (have hz := zc_made hb) | skip); (try have hz := Zc.below (by assumption) hb); (try (have z0 := hz.c0; have z1 := hz.c1; have z2 := hz.f0; have z3 := hz.f1))))
    go_wp2_with fail
    go_ret
    exact ⟨rfl, Below.more BW (by assumption)⟩
theorem Ltw.toLt {a : Int} {k j : Nat} (h : Ltw a k) (hk : k ≤ j) (h0 : 0 < j) (hj : j ≤ 900000) : Lt a.natAbs j := ⟨Nat.lt_of_lt_of_le h.abs (Nat.pow_le_pow_right (by decide) hk), h0, hj⟩
theorem sgn_is {p : List UInt8 × List UInt8} (h : isR p = true) : sgnW p.1 = sgnR p := by
  unfold sgnW sgnR sgnQ
  rw [h, isR_isW h, valR_num h]
  try rfl
theorem sgn_no {p : List UInt8 × List UInt8} (h : isR p = false) : sgnR p = 0 := by unfold sgnR; rw [h]; rfl
theorem negR_no {p : List UInt8 × List UInt8} (h : isR p = false) : negR p = ([], []) := by unfold negR; rw [h]; rfl
theorem negR_yes {p : List UInt8 × List UInt8} (h : isR p = true) : negR p = (negW p.1, p.2) := by
  unfold negR negW
  rw [h, isR_isW h, ← valR_num h]
  show rd (-valR p) = _
  unfold rd rdN rdD
  rw [Rat.neg_num, Rat.neg_den]
  exact congrArg _ (isR_den h).1.symm
theorem splitR_no {p : List UInt8 × List UInt8} (h : isR p = false) : splitR p = ([], ([], [])) := by unfold splitR; rw [h]; rfl
theorem splitR_yes {p : List UInt8 × List UInt8} (h : isR p = true) : divW p.1 p.2 = ((splitR p).1, (splitR p).2.1, true) ∧ (splitR p).2.2 = p.2 := by
  have e := split_rd (valR p)
  have hs : splitR p = (wd (valR p).floor, rd (valR p - ((valR p).floor : Int))) := by unfold splitR; rw [h]; rfl
  rw [hs, ← e.1, ← e.2]
  refine ⟨?_, (isR_den h).1.symm⟩
  rw [(isR_den h).1]
  conv => lhs; rw [(isR_den h).2]
  have hd := (valR p).den_nz
  unfold divW
  rw [isW_wd, isW_dig, valW_wd, valW_dig, beq_false_of_ne (by omega)]
  rfl
end Go.Proofs.YtmllklfjngapiaaDoor

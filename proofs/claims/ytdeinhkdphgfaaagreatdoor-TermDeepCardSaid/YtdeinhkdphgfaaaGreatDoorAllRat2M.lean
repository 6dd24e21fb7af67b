/- The fixed calls at the head of each statement of layer 2. -/
import Derived.Test.YtdeinhkdphgfaaaGreatDoorAllRefW
import Derived.RangeFuncBox
namespace Go.Proofs.YtdeinhkdphgfaaaGreatDoor
open Go.RowKit
theorem wd_const {n : Int} {q : List UInt8} (h1 : isW q = true) (h2 : valW q = n) : wd n = q := by rw [← h2]; exact wd_valW h1
structure Ltw (a : Int) (k : Nat) : Prop where
 len : (wd a).length ≤ k
 le : k ≤ 100000
theorem Ltw.size {a : Int} {k : Nat} (h : Ltw a k) : (⟨(wd a).toArray⟩ : ByteArray).size ≤ 100000 := by show (wd a).toArray.size ≤ _; rw [List.size_toArray]; exact Nat.le_trans h.len h.le
theorem str_wd {s : ByteArray} (h : isW s.data.toList = true) : s = ⟨(wd (valW s.data.toList)).toArray⟩ := bytes_eq (wd_valW h).symm
theorem Ltw.of_text {s : ByteArray} {k : Nat} (h : isW s.data.toList = true) (hs : s.size ≤ k) (hk : k ≤ 100000) : Ltw (valW s.data.toList) k := ⟨by rw [wd_valW h]; exact hs, hk⟩
theorem wd_abs_len (a : Int) : (dig a.natAbs).length ≤ (wd a).length := by
 unfold wd; split
 ·rw [List.length_cons]; omega
 ·exact Nat.le_refl _
theorem Ltw.abs {a : Int} {k : Nat} (h : Ltw a k) : a.natAbs < 10 ^ k := by
 have h1 := valS_lt (dig_all a.natAbs)
 rw [valS_dig] at h1
 exact Nat.lt_of_lt_of_le h1 (Nat.pow_le_pow_right (by decide) (Nat.le_trans (wd_abs_len a) h.len))
theorem Ltw.mk' {a : Int} {k : Nat} (h : a.natAbs < 10 ^ k) (h0 : 0 < k) (hk : k + 1 ≤ 100000) : Ltw a (k + 1) :=
 ⟨Nat.le_trans (wd_length a) (Nat.succ_le_succ (dig_length h0 h)), hk⟩
theorem Ltw.neg {a : Int} {k : Nat} (ha : Ltw a k) (h : k + 1 ≤ 100000) (h0 : 0 < k) : Ltw (-a) (k + 1) := Ltw.mk' (by rw [Int.natAbs_neg]; exact ha.abs) h0 h
theorem Ltw.mul {a b : Int} {j k : Nat} (ha : Ltw a j) (hb : Ltw b k) (h : j + k + 1 ≤ 100000) (h0 : 0 < j) : Ltw (a * b) (j + k + 1) :=
 Ltw.mk' (by rw [Int.natAbs_mul]; exact mul_lt ha.abs hb.abs) (Nat.add_pos_left h0 _) h
section
variable {a b : Int} {j k : Nat}
end
theorem wd_0 : wd 0 = [48] := by rw [wd_pos (by decide)]; exact dig_0
theorem wd_ne48 {a : Int} (h : a ≠ 0) : ¬ wd a = [48] := fun e => h (wd_inj (e.trans wd_0.symm))
theorem wd_neB {a : Int} (h : a ≠ 0) : (wd a == [48]) = false := beq_false_of_ne (wd_ne48 h)
end Go.Proofs.YtdeinhkdphgfaaaGreatDoor
/- Plain fractions: two texts, num and den, in lowest terms, and the rational number that they are. Own work; no program text. -/
namespace Go.Proofs.YtdeinhkdphgfaaaGreatDoor
def rdN (q : Rat) : List UInt8 := wd q.num
def rdD (q : Rat) : List UInt8 := dig q.den
def rd (q : Rat) : List UInt8 × List UInt8 := (rdN q, rdD q)
def isR (p : List UInt8 × List UInt8) : Bool := (isW p.1 && isNat p.2) && (!(valS p.2 == 0) && decide (Nat.gcd (valW p.1).natAbs (valS p.2) = 1))
def valR (p : List UInt8 × List UInt8) : Rat := mkRat (valW p.1) (valS p.2)
theorem isR_parts {p : List UInt8 × List UInt8} (h : isR p = true) : isW p.1 = true ∧ isNat p.2 = true ∧ valS p.2 ≠ 0 ∧ Nat.gcd (valW p.1).natAbs (valS p.2) = 1 := by
 unfold isR at h
 simp only [Bool.and_eq_true, decide_eq_true_eq, Bool.not_eq_true', beq_eq_false_iff_ne, ne_eq] at h
 exact ⟨h.1.1, h.1.2, h.2.1, h.2.2⟩
theorem isR_of {p : List UInt8 × List UInt8} (h1 : isW p.1 = true) (h2 : isNat p.2 = true) (h3 : valS p.2 ≠ 0) (h4 : Nat.gcd (valW p.1).natAbs (valS p.2) = 1) : isR p = true := by
 unfold isR
 rw [h1, h2, beq_false_of_ne h3, decide_eq_true h4]; rfl
theorem isR_rd (q : Rat) : isR (rd q) = true := by
 refine isR_of (isW_wd _) (isNat_dig _) ?_ ?_
 ·show valS (dig q.den) ≠ 0
  rw [valS_dig]; exact q.den_nz
 ·show Nat.gcd (valW (wd q.num)).natAbs (valS (dig q.den)) = 1
  rw [valW_wd, valS_dig]; exact q.reduced
theorem valR_rd (q : Rat) : valR (rd q) = q := by
 show mkRat (valW (wd q.num)) (valS (dig q.den)) = q
 rw [valW_wd, valS_dig, Rat.mkRat_self]
theorem rd_mk {n : Int} {d : Nat} (h : d ≠ 0) (hc : Nat.gcd n.natAbs d = 1) : rd (mkRat n d) = (wd n, dig d) := by
 have e : mkRat n d = ⟨n, d, h, hc⟩ := (Rat.mk_eq_mkRat n d h hc).symm
 unfold rd rdN rdD
 rw [e]
theorem rd_valR {p : List UInt8 × List UInt8} (h : isR p = true) : rd (valR p) = p := by
 obtain ⟨h1, h2, h3, h4⟩ := isR_parts h
 unfold valR
 rw [rd_mk h3 h4, wd_valW h1, dig_valS h2]
theorem valR_num {p : List UInt8 × List UInt8} (h : isR p = true) : (valR p).num = valW p.1 := by
 have e := congrArg (fun x => valW x.1) (rd_valR h)
 have e' : valW (wd (valR p).num) = valW p.1 := e
 rwa [valW_wd] at e'
theorem valR_den {p : List UInt8 × List UInt8} (h : isR p = true) : (valR p).den = valS p.2 := by
 have e := congrArg (fun x => valS x.2) (rd_valR h)
 have e' : valS (dig (valR p).den) = valS p.2 := e
 rwa [valS_dig] at e'
def makeR (n d : List UInt8) : (List UInt8 × List UInt8) × Bool := if (isW n && isW d) && !(valW d == 0) then (rd (Rat.divInt (valW n) (valW d)), true) else (([], []), false)
def sgnQ (q : Rat) : Int := if q.num < 0 then -1 else if q.num = 0 then 0 else 1
def sgnR (p : List UInt8 × List UInt8) : Int := if isR p then sgnQ (valR p) else 0
def mulR (p q : List UInt8 × List UInt8) : List UInt8 × List UInt8 := if isR p && isR q then rd (valR p * valR q) else ([], [])
theorem divInt_pos {n d : Int} (hd : 0 < d) : (Rat.divInt n d).num = n / (Nat.gcd n.natAbs d.natAbs : Int) ∧ ((Rat.divInt n d).den : Int) = d / (Nat.gcd n.natAbs d.natAbs : Int) := by
 obtain ⟨e, rfl⟩ : ∃ e : Nat, d = (e : Int) := ⟨d.toNat, by omega⟩
 have he : e ≠ 0 := by omega
 rw [Rat.divInt_ofNat, Rat.num_mkRat, Rat.den_mkRat, if_neg he, if_neg he]
 have : ((e : Int)).natAbs = e := rfl
 rw [this, Nat.gcd_comm e]
 exact ⟨rfl, by rw [Int.natCast_ediv]⟩
theorem divInt_swap (n d : Int) : Rat.divInt (-n) (-d) = Rat.divInt n d := Rat.neg_divInt_neg n d
theorem divInt_cross_mul (p q : Rat) : p * q = Rat.divInt (p.num * q.num) ((p.den : Int) * (q.den : Int)) := by
 rw [Rat.mul_def', ← Rat.divInt_ofNat, Int.natCast_mul]
theorem ofInt_eq (n : Int) : (n : Rat) = Rat.divInt n 1 := by
 rw [show (1 : Int) = ((1 : Nat) : Int) from rfl, Rat.divInt_ofNat]
 have h := Rat.mkRat_self (n : Rat)
 rw [Rat.num_intCast, Rat.den_intCast] at h
 exact h.symm
end Go.Proofs.YtdeinhkdphgfaaaGreatDoor
namespace Go.Proofs.YtdeinhkdphgfaaaGreatDoor
end Go.Proofs.YtdeinhkdphgfaaaGreatDoor
/- Plain facts on fractions as texts: what the program's and the document's steps come to. Own work. -/
namespace Go.Proofs.YtdeinhkdphgfaaaGreatDoor
theorem nat48 {d : List UInt8} (h : isNat d = true) : (d == [48]) = (valS d == 0) := by
 by_cases e : valS d = 0
 ·rw [nat_zero h e]; rfl
 ·rw [beq_false_of_ne e]
  refine beq_false_of_ne (fun e2 => e ?_)
  rw [e2]; rfl
theorem dig49 (g : Nat) : (dig g == [49]) = decide (g = 1) := by
 by_cases e : g = 1
 ·subst e; rw [dig_1]; rfl
 ·rw [decide_eq_false e]
  refine beq_false_of_ne (fun e2 => e (dig_inj ?_))
  rw [e2, dig_1]
theorem may_eq {n d : List UInt8} (h : d ≠ [48]) : (gcdS (absW n) d == [49]) = isR (n, d) := by
 unfold isR
 show _ = ((isW n && isNat d) && (!(valS d == 0) && decide (Nat.gcd (valW n).natAbs (valS d) = 1)))
 cases hn : isW n with
 | false =>
  have e : absW n = [] := by unfold absW; rw [hn]; rfl
  rw [e]; rfl
 | true =>
  have e : absW n = dig (valW n).natAbs := by unfold absW; rw [hn]; rfl
  rw [e]
  cases hd : isNat d with
  | false => unfold gcdS; rw [hd, Bool.and_false]; rfl
  | true =>
   have h0 : (valS d == 0) = false := by rw [← nat48 hd]; exact beq_false_of_ne h
   unfold gcdS
   rw [isNat_dig, hd, h0, valS_dig]
   exact dig49 _
theorem may_48 (n : List UInt8) : isR (n, [48]) = false := by
 unfold isR
 show ((isW n && isNat [48]) && (!(valS [48] == 0) && _)) = false
 rw [show (valS [48] == 0) = true from rfl, Bool.not_true, Bool.false_and, Bool.and_false]
theorem absW_len (l : List UInt8) : (absW l).length ≤ l.length := by
 unfold absW
 cases h : isW l with
 | false => exact Nat.zero_le _
 | true => exact wd_len h
theorem makeR_no {n d : List UInt8} (h : ((isW n && isW d) && !(valW d == 0)) = false) : makeR n d = (([], []), false) := by unfold makeR; rw [h]; rfl
theorem makeR_yes {n d : List UInt8} (h1 : isW n = true) (h2 : isW d = true) (h3 : valW d ≠ 0) : makeR n d = (rd (Rat.divInt (valW n) (valW d)), true) := by
 unfold makeR; rw [h1, h2, beq_false_of_ne h3]; rfl
theorem rd_divInt {n : Int} {d : Nat} (hd : d ≠ 0) : rd (Rat.divInt n (d : Int)) = (wd (n / (Nat.gcd n.natAbs d : Int)), dig (d / Nat.gcd n.natAbs d)) := by
 have h := divInt_pos (n := n) (d := (d : Int)) (by omega)
 rw [Int.natAbs_natCast] at h
 unfold rd rdN rdD
 rw [h.1]
 congr 2
 have h2 := h.2
 rw [← Int.natCast_ediv] at h2
 exact Int.ofNat.inj h2
theorem den_pos (q : Rat) : 0 < (q.den : Int) := by have := q.den_nz; omega
theorem den_mul_pos (p q : Rat) : 0 < (p.den : Int) * (q.den : Int) := Int.mul_pos (den_pos p) (den_pos q)
theorem isR_den {p : List UInt8 × List UInt8} (h : isR p = true) : p.2 = dig (valR p).den ∧ p.1 = wd (valR p).num := by
 have e := rd_valR h
 exact ⟨(congrArg Prod.snd e).symm, (congrArg Prod.fst e).symm⟩
theorem isR_isW {p : List UInt8 × List UInt8} (h : isR p = true) : isW p.1 = true := (isR_parts h).1
theorem mulW_ww (a b : Int) : mulW (wd a) (wd b) = wd (a * b) := by unfold mulW; rw [isW_wd, isW_wd, valW_wd, valW_wd]; rfl
theorem mulW_dd (a b : Nat) : mulW (dig a) (dig b) = wd ((a : Int) * (b : Int)) := by unfold mulW; rw [isW_dig, isW_dig, valW_dig, valW_dig]; rfl
theorem mulS_dd (a b : Nat) : mulS (dig a) (dig b) = wd ((a : Int) * (b : Int)) := by unfold mulS; rw [isNat_dig, isNat_dig, valS_dig, valS_dig, ← Int.natCast_mul, wd_nat]; rfl
theorem makeR_ww {a b : Int} (h : b ≠ 0) : makeR (wd a) (wd b) = (rd (Rat.divInt a b), true) := by rw [makeR_yes (isW_wd a) (isW_wd b) (by rw [valW_wd]; exact h), valW_wd, valW_wd]
theorem al_mul {p q : List UInt8 × List UInt8} (hp : isR p = true) (hq : isR q = true) : (makeR (mulW p.1 q.1) (mulW p.2 q.2)).1 = mulR p q := by
 unfold mulR
 rw [hp, hq]
 have e : makeR (mulW p.1 q.1) (mulW p.2 q.2) = (rd (Rat.divInt ((valR p).num * (valR q).num) (((valR p).den : Int) * ((valR q).den : Int))), true) := by
  conv => lhs; rw [(isR_den hp).1, (isR_den hp).2, (isR_den hq).1, (isR_den hq).2, mulW_dd, mulW_ww]
  exact makeR_ww (Int.ne_of_gt (den_mul_pos _ _))
 rw [e, divInt_cross_mul]; rfl
theorem mulR_no {p q : List UInt8 × List UInt8} (h : (isR p && isR q) = false) : mulR p q = ([], []) := by unfold mulR; rw [h]; rfl
end Go.Proofs.YtdeinhkdphgfaaaGreatDoor
/- The program's fractions: what each call of package rat answers, as plain functions of texts; nothing that was there turns. -/
namespace Go.Proofs.YtdeinhkdphgfaaaGreatDoor
open Go.RowKit
def GiveR (w : World) (p : List UInt8 × List UInt8) (e : Ending) (w' : World) : Prop := e = .returned (.agg #[.string ⟨p.1.toArray⟩, .string ⟨p.2.toArray⟩]) ∧ Below w.heap.size w w'
def GiveRB (w : World) (p : (List UInt8 × List UInt8) × Bool) (e : Ending) (w' : World) : Prop := e = .returned (.tuple #[.agg #[.string ⟨p.1.1.toArray⟩, .string ⟨p.1.2.toArray⟩], .bool p.2]) ∧ Below w.heap.size w w'
def GiveI (w : World) (i : Int) (e : Ending) (w' : World) : Prop := e = .returned (.int .i64 i) ∧ Below w.heap.size w w'
theorem calm {P : Program} {f : FuncId} {args : Array Value} {w : World} {v : Value} (c : Calls P f args w fun e w' => e = .returned v ∧ w = w') : Calls P f args w fun e w' => e = .returned v ∧ Below w.heap.size w w' :=
 c.mono fun _ _ ⟨he, hw⟩ => ⟨he, hw ▸ Below.refl _ _⟩
theorem cell_new (w : World) (x : Obj) (cs : Array Value) (t : TypeId) (h : x = .cells cs t) (j : Nat) : (w.alloc x).cell? ⟨w.heap.size, j, none⟩ = cs[j]? := by
 subst h; exact cell_of_row _ _ _ _ _ _ (World.alloc_heap_new w _)
theorem Below.step {w v : World} (x : Obj) (h : Below (w.alloc x).heap.size (w.alloc x) v) : Below w.heap.size w v := Below.more ((Below.refl _ w).alloc (Nat.le_refl _) _) h
structure Zc (b : Nat) (x y : Value) (v : World) : Prop where
 c0 : v.cell? ⟨b, 0, none⟩ = some x
 c1 : v.cell? ⟨b, 1, none⟩ = some y
 f0 : v.frozen? ⟨b, 0, none⟩ = false
 f1 : v.frozen? ⟨b, 1, none⟩ = false
 lt : b < v.heap.size
theorem Zc.below {b : Nat} {x y : Value} {v v' : World} (h : Zc b x y v) (hb : Below v.heap.size v v') : Zc b x y v' :=
 ⟨(hb.cell (p := ⟨b, 0, none⟩) h.lt).trans h.c0, (hb.cell (p := ⟨b, 1, none⟩) h.lt).trans h.c1, (hb.frozen (p := ⟨b, 0, none⟩) h.lt).trans h.f0, (hb.frozen (p := ⟨b, 1, none⟩) h.lt).trans h.f1, Nat.lt_of_lt_of_le h.lt hb.size⟩
theorem zc_new (w : World) (x y : Value) (t : TypeId) : Zc w.heap.size x y (w.alloc (.cells #[x, y] t)) :=
 ⟨cell_new _ _ _ _ rfl 0, cell_new _ _ _ _ rfl 1, by rw [frozen?_alloc_cells]; simp [World.frozen?], by rw [frozen?_alloc_cells]; simp [World.frozen?], by simp⟩
theorem zc_made {u v : World} {x y : Value} {t : TypeId} (hb : Below (u.alloc (.cells #[x, y] t)).heap.size (u.alloc (.cells #[x, y] t)) v) : Zc u.heap.size x y v := (zc_new u x y t).below hb
theorem zc_made0 {u v : World} {x y : Value} {t : TypeId} (hb : Below (u.drew.alloc (.cells #[x, y] t)).heap.size (u.drew.alloc (.cells #[x, y] t)) v) : Zc u.heap.size x y v := zc_made (u := u.drew) hb
theorem box1 (w : World) (a b : Value) (t : TypeId) : ∃ W, w.alloc (.cells #[a, b] t) = W ∧ Below w.heap.size w W ∧ w.heap.size + 1 = W.heap.size ∧
  (∀ v, Below W.heap.size W v → v.cell? ⟨w.heap.size, 0, none⟩ = some a) ∧ (∀ v, Below W.heap.size W v → v.cell? ⟨w.heap.size, 1, none⟩ = some b) :=
 ⟨_, rfl, Below.step _ (Below.refl _ _), by simp, fun _ h => (zc_made h).c0, fun _ h => (zc_made h).c1⟩
theorem box2 (w : World) (a b c d : Value) (t u : TypeId) : ∃ W, (w.alloc (.cells #[a, b] t)).alloc (.cells #[c, d] u) = W ∧ Below w.heap.size w W ∧ w.heap.size + 1 + 1 = W.heap.size ∧
  (∀ v, Below W.heap.size W v → v.cell? ⟨w.heap.size, 0, none⟩ = some a) ∧ (∀ v, Below W.heap.size W v → v.cell? ⟨w.heap.size, 1, none⟩ = some b) ∧
  (∀ v, Below W.heap.size W v → v.cell? ⟨w.heap.size + 1, 0, none⟩ = some c) ∧ (∀ v, Below W.heap.size W v → v.cell? ⟨w.heap.size + 1, 1, none⟩ = some d) := by
 obtain ⟨V, hV, B, s, c0, c1⟩ := box1 w a b t
 rw [hV]
 have hz : ∀ v, Below (V.alloc (.cells #[c, d] u)).heap.size (V.alloc (.cells #[c, d] u)) v → Zc (w.heap.size + 1) c d v := fun v h => by rw [s]; exact zc_made h
 exact ⟨_, rfl, Below.more B (Below.step _ (Below.refl _ _)), by rw [s]; simp, fun v h => c0 v (Below.step _ h), fun v h => c1 v (Below.step _ h), fun v h => (hz v h).c0, fun v h => (hz v h).c1⟩
theorem box0z (w : World) (x y : Value) (z : TypeId) : ∃ W, w.alloc (.cells #[x, y] z) = W ∧ Below w.heap.size w W ∧ w.heap.size + 1 = W.heap.size ∧
  (∀ v, Below W.heap.size W v → v.cell? ⟨w.heap.size, 0, none⟩ = some x) ∧ (∀ v, Below W.heap.size W v → v.cell? ⟨w.heap.size, 1, none⟩ = some y) ∧
  (∀ v, Below W.heap.size W v → v.frozen? ⟨w.heap.size, 0, none⟩ = false) ∧ (∀ v, Below W.heap.size W v → v.frozen? ⟨w.heap.size, 1, none⟩ = false) :=
 ⟨_, rfl, Below.step _ (Below.refl _ _), by simp, fun _ h => (zc_made h).c0, fun _ h => (zc_made h).c1, fun _ h => (zc_made h).f0, fun _ h => (zc_made h).f1⟩
theorem box2z (w : World) (a b c d x y : Value) (t u z : TypeId) : ∃ W, ((w.alloc (.cells #[a, b] t)).alloc (.cells #[c, d] u)).alloc (.cells #[x, y] z) = W ∧ Below w.heap.size w W ∧ w.heap.size + 1 + 1 + 1 = W.heap.size ∧
  (∀ v, Below W.heap.size W v → v.cell? ⟨w.heap.size, 0, none⟩ = some a) ∧ (∀ v, Below W.heap.size W v → v.cell? ⟨w.heap.size, 1, none⟩ = some b) ∧
  (∀ v, Below W.heap.size W v → v.cell? ⟨w.heap.size + 1, 0, none⟩ = some c) ∧ (∀ v, Below W.heap.size W v → v.cell? ⟨w.heap.size + 1, 1, none⟩ = some d) ∧
  (∀ v, Below W.heap.size W v → v.cell? ⟨w.heap.size + 1 + 1, 0, none⟩ = some x) ∧ (∀ v, Below W.heap.size W v → v.cell? ⟨w.heap.size + 1 + 1, 1, none⟩ = some y) ∧
  (∀ v, Below W.heap.size W v → v.frozen? ⟨w.heap.size + 1 + 1, 0, none⟩ = false) ∧ (∀ v, Below W.heap.size W v → v.frozen? ⟨w.heap.size + 1 + 1, 1, none⟩ = false) := by
 obtain ⟨V, hV, B, s, c0, c1, c2, c3⟩ := box2 w a b c d t u
 rw [hV]
 have hz : ∀ v, Below (V.alloc (.cells #[x, y] z)).heap.size (V.alloc (.cells #[x, y] z)) v → Zc (w.heap.size + 1 + 1) x y v := fun v h => by rw [s]; exact zc_made h
 exact ⟨_, rfl, Below.more B (Below.step _ (Below.refl _ _)), by rw [s]; simp, fun v h => c0 v (Below.step _ h), fun v h => c1 v (Below.step _ h), fun v h => c2 v (Below.step _ h), fun v h => c3 v (Below.step _ h), fun v h => (hz v h).c0, fun v h => (hz v h).c1, fun v h => (hz v h).f0, fun v h => (hz v h).f1⟩
theorem held {P : Program} {f : FuncId} {args : Array Value} {w W : World} {v : Value} {B : Nat} (hB : B ≤ W.heap.size) (c : Calls P f args w fun e w' => e = .returned v ∧ Below w.heap.size w w') (h : Below B W w) :
  Calls P f args w fun e w' => e = .returned v ∧ Below w.heap.size w w' ∧ Below B W w' := c.mono fun _ _ ⟨he, hb⟩ => ⟨he, hb, h.trans (hb.mono (Nat.le_trans hB h.size))⟩
theorem put2 {B b : Nat} {a w : World} (h : Below B a w) (hb : B ≤ b) (x y : Value) : Below B a ((w.setCell ⟨b, 0, none⟩ x).setCell ⟨b, 1, none⟩ y) := Below.setCell (Below.setCell h hb _) hb _
set_option maxRecDepth 100000 in
set_option maxHeartbeats 2000000 in
theorem qmay_any (n d : ByteArray) (w : World) (hn : n.size ≤ 100000) (hd : d.size ≤ 100000) :
  Calls Tryz.prog 67 #[.agg #[.string n, .string d]] w (GiveB w (isR (n.data.toList, d.data.toList))) := by
 have c1 : ∀ w, Calls Tryz.prog 66 #[.string n] w (GiveS w (absW n.data.toList)) := fun w => calm (wabs_any n w (by omega))
 have hl := absW_len n.data.toList
 have c2 : ∀ w, Calls Tryz.prog 86 #[.string ⟨(absW n.data.toList).toArray⟩, .string d] w (GiveS w (gcdS (absW n.data.toList) d.data.toList)) := fun w =>
  gcd_any ⟨(absW n.data.toList).toArray⟩ d w (by show (absW n.data.toList).toArray.size ≤ _; rw [List.size_toArray]; exact Nat.le_trans hl (Nat.le_trans hn (by decide))) (by omega)
 by_cases h : d.data.toList = [48]
 ·rw [h, may_48]
  have e1 := eqB_true h
  clear c1 c2 hn hd hl h
  go_enter Tryz.func67, Tryz.ntmps67
  go_wp2_with fail
  obtain ⟨W, hW, BW, sW, k0, k1⟩ := box1 w (.string n) (.string d) 39
  have hB := Lib.hid (Nat.le_refl W.heap.size)
  rw [hW]; clear hW
  have b0 := Below.refl W.heap.size W
  have k1' := k1 W (Below.refl _ _)
  go_quiet (fail)
  go_wp2_with fail
  go_ret
  exact ⟨rfl, ⟨BW.os, BW.tape, BW.output, BW.size, BW.block⟩⟩
 ·rw [← may_eq h]
  have e1 := eqB_false h
  generalize absW n.data.toList = l at *
  generalize gcdS l d.data.toList = g at *
  clear hn hd hl h
  have C1 := Lib.hid c1
  have C2 := Lib.hid c2
  clear c1 c2
  go_enter Tryz.func67, Tryz.ntmps67
  go_wp2_with fail
  obtain ⟨W, hW, BW, sW, k0, k1⟩ := box1 w (.string n) (.string d) 39
  have hB := Lib.hid (Nat.le_refl W.heap.size)
  rw [hW]; clear hW
  have b0 := Below.refl W.heap.size W
  go_region_held3 (fun w' => Below W.heap.size W w')
   (first | (exact (Below.refl _ _).drew) | (with_reducible assumption) | (exact Below.alloc (by with_reducible assumption) (Nat.le_trans hB.out (Below.size (by with_reducible assumption))) _) | (exact put2 (by with_reducible assumption) (Nat.le_refl _) _ _) | (exact put2 (by with_reducible assumption) hB.out _ _) | (exact put2 (by with_reducible assumption) (Nat.le_trans hB.out (Below.size (by with_reducible assumption))) _ _))
   (first | (go_at_call 66; (with_reducible refine (held (W := W) hB.out (C1.out _) (by assumption)).mono ?_); rintro e w'' ⟨rfl, hb, hw⟩; (first | (have hz := zc_made0 hb) | (have hz := zc_made hb) | skip); (try have hz := Zc.below (by assumption) hb); (try (have z0 := hz.c0; have z1 := hz.c1; have z2 := hz.f0; have z3 := hz.f1))) | (go_at_call 86; (with_reducible refine (held (W := W) hB.out (C2.out _) (by assumption)).mono ?_); rintro e w'' ⟨rfl, hb, hw⟩; (first | (have hz := zc_made0 hb) | (have hz := zc_made hb) | skip); (try have hz := Zc.below (by assumption) hb); (try (have z0 := hz.c0; have z1 := hz.c1; have z2 := hz.f0; have z3 := hz.f1))))
  go_wp2_with fail
  go_ret
  exact ⟨rfl, Below.more BW (by assumption)⟩
theorem Ltw.toLt {a : Int} {k j : Nat} (h : Ltw a k) (hk : k ≤ j) (h0 : 0 < j) (hj : j ≤ 900000) : Lt a.natAbs j := ⟨Nat.lt_of_lt_of_le h.abs (Nat.pow_le_pow_right (by decide) hk), h0, hj⟩
theorem sgn_is {p : List UInt8 × List UInt8} (h : isR p = true) : sgnW p.1 = sgnR p := by
 unfold sgnW sgnR sgnQ
 rw [h, isR_isW h, valR_num h]
 try rfl
theorem sgn_no {p : List UInt8 × List UInt8} (h : isR p = false) : sgnR p = 0 := by unfold sgnR; rw [h]; rfl
set_option maxRecDepth 100000 in
set_option maxHeartbeats 2000000 in
theorem qsign_any (n d : ByteArray) (w : World) (hn : n.size ≤ 100000) (hd : d.size ≤ 100000) :
  Calls Tryz.prog 70 #[.agg #[.string n, .string d]] w (GiveI w (sgnR (n.data.toList, d.data.toList))) := by
 have cm := fun w => qmay_any n d w hn hd
 have cs := fun w => wsign_any n w (by omega)
 cases h : isR (n.data.toList, d.data.toList) with
 | false =>
  rw [h] at cm
  rw [sgn_no h]
  clear h cs hn hd
  have CM := Lib.hid cm
  clear cm
  go_enter Tryz.func70, Tryz.ntmps70
  go_wp2_with fail
  obtain ⟨W, hW, BW, sW, k0, k1⟩ := box1 w (.string n) (.string d) 39
  have hB := Lib.hid (Nat.le_refl W.heap.size)
  rw [hW]; clear hW
  have b0 := Below.refl W.heap.size W
  refine (CM.out _).mono ?_
  rintro e w1 ⟨rfl, b⟩
  have b1 := Below.more b0 b
  clear b
  go_wp2_with fail
  go_ret
  exact ⟨rfl, Below.more BW b1⟩
 | true =>
  rw [h] at cm
  have e : sgnW n.data.toList = sgnR (n.data.toList, d.data.toList) := sgn_is h
  rw [e] at cs
  generalize sgnR (n.data.toList, d.data.toList) = x at *
  clear h e hn hd
  have CM := Lib.hid cm
  have CS := Lib.hid cs
  clear cm cs
  go_enter Tryz.func70, Tryz.ntmps70
  go_wp2_with fail
  obtain ⟨W, hW, BW, sW, k0, k1⟩ := box1 w (.string n) (.string d) 39
  have hB := Lib.hid (Nat.le_refl W.heap.size)
  rw [hW]; clear hW
  have b0 := Below.refl W.heap.size W
  refine (CM.out _).mono ?_
  rintro e w1 ⟨rfl, b⟩
  have b1 := Below.more b0 b
  clear b
  go_wp2_with fail
  refine (CS.out _).mono ?_
  rintro e w' ⟨rfl, rfl⟩
  go_wp2_with fail
  go_ret
  exact ⟨rfl, Below.more BW b1⟩
end Go.Proofs.YtdeinhkdphgfaaaGreatDoor
/- The program's fractions: sums, differences, products, quotients, order, and what is split. -/
namespace Go.Proofs.YtdeinhkdphgfaaaGreatDoor
open Go.RowKit
theorem Ltw.own {l : List UInt8} (h : isW l = true) (hk : l.length ≤ 100000) : Ltw (valW l) l.length := ⟨by rw [wd_valW h]; exact Nat.le_refl _, hk⟩
theorem isW_pos {l : List UInt8} (h : isW l = true) : 0 < l.length := by cases l with | nil => cases h | cons => exact Nat.succ_pos _
theorem mulW_len (l r : List UInt8) (h : l.length + r.length + 1 ≤ 100000) : (mulW l r).length ≤ l.length + r.length + 1 := by
 unfold mulW
 cases h1 : isW l && isW r with
 | false => exact Nat.zero_le _
 | true =>
  rw [Bool.and_eq_true] at h1
  exact (Ltw.mul (Ltw.own h1.1 (by omega)) (Ltw.own h1.2 (by omega)) h (isW_pos h1.1)).len
theorem size_of (l : List UInt8) : (⟨l.toArray⟩ : ByteArray).size = l.length := by show l.toArray.size = _; exact List.size_toArray
end Go.Proofs.YtdeinhkdphgfaaaGreatDoor

/- Plain postings: balanced lines, books with all lines added, who is short; how long the numbers get. Own work; no program text. -/
import Derived.Test.YtamibckbebifkaaGreatDoorBkNum
namespace Go.Proofs.YtamibckbebifkaaGreatDoor

def isFree (l : List UInt8) : Bool := match l with | 33 :: _ => true | _ => false
def sumA (ms : List Ln) (a : List UInt8) : Key := sumL (ms.filter fun x => x.1.2 == a)
def balB (ms : List Ln) : Bool := ms.all lineOk && ms.all fun x => sgnR (sumA ms x.1.2) == 0
def addAll (ls ms : List Ln) : List Ln := ms.foldl (fun b x => (addB b x).1) ls
def shortB (ls out : List Ln) (x : Ln) : Bool := !isFree x.1.1 && (decide (sgnR (getB out x.1) < 0) && decide (cmpR (getB out x.1) (getB ls x.1) < 0))
def applyB (ls ms : List Ln) (cov : Bool) : List Ln × Int :=
  if mayB ls then if balB ms then if cov && ms.any (shortB ls (addAll ls ms)) then ([], 71) else (addAll ls ms, 0) else ([], 70) else ([], 1)
/-- What is posted to an account and asset. -/
def sumK (ms : List Ln) (k : Key) : Rat := ms.foldr (fun x s => (if x.1 = k then valR x.2 else 0) + s) 0
theorem sumK_cons (x : Ln) (r : List Ln) (k : Key) : sumK (x :: r) k = (if x.1 = k then valR x.2 else 0) + sumK r k := rfl
theorem sumK_append : ∀ (l m : List Ln) (k : Key), sumK (l ++ m) k = sumK l k + sumK m k
  | [], m, k => (Rat.zero_add _).symm
  | x :: r, m, k => by
    show (if x.1 = k then valR x.2 else 0) + sumK (r ++ m) k = (if x.1 = k then valR x.2 else 0) + sumK r k + sumK m k
    rw [sumK_append r m k, Rat.add_assoc]
theorem totQ_cons (x : Ln) (r : List Ln) (a : List UInt8) : totQ (x :: r) a = (if x.1.2 = a then valR x.2 else 0) + totQ r a := by
  have h := totQ_append [x] r a
  have e : totQ [x] a = if x.1.2 = a then valR x.2 else 0 := totQ_one x.1 x.2 a
  rw [e] at h
  exact h
theorem addAll_cons (ls : List Ln) (x : Ln) (r : List Ln) : addAll ls (x :: r) = addAll (addB ls x).1 r := rfl
theorem addAll_append (ls l m : List Ln) : addAll ls (l ++ m) = addAll (addAll ls l) m := List.foldl_append
theorem addAll_snoc (ls l : List Ln) (x : Ln) : addAll ls (l ++ [x]) = (addB (addAll ls l) x).1 := addAll_append ls l [x]
theorem addAll_good : ∀ {ms ls : List Ln}, Good ls → (∀ x ∈ ms, lineOk x = true) → Good (addAll ls ms) ∧ (∀ k, hasQ (addAll ls ms) k = hasQ ls k + sumK ms k) ∧ ∀ a, totQ (addAll ls ms) a = totQ ls a + totQ ms a
  | [], ls, h, _ => ⟨h, fun k => (Rat.add_zero _).symm, fun a => (Rat.add_zero _).symm⟩
  | x :: r, ls, h, hm => by
    obtain ⟨b, e, hg, hk, ht⟩ := addB_yes h (hm x (List.mem_cons_self ..))
    obtain ⟨g2, k2, t2⟩ := addAll_good (ms := r) hg fun y hy => hm y (List.mem_cons_of_mem _ hy)
    rw [addAll_cons, e]
    refine ⟨g2, fun k => ?_, fun a => ?_⟩
    · rw [k2 k, hk k, sumK_cons, Rat.add_assoc]
      congr 2
      by_cases c : k = x.1
      · rw [if_pos c, if_pos c.symm]
      · rw [if_neg c, if_neg fun d => c d.symm]
    · rw [t2 a, ht a, totQ_cons, Rat.add_assoc]
theorem ok_rat {x : Ln} (h : lineOk x = true) : isR x.2 = true := by unfold lineOk at h; simp only [Bool.and_eq_true] at h; exact h.2.2
theorem sgn_rd (q : Rat) : sgnR (rd q) = sgnQ q := by unfold sgnR; rw [isR_rd, valR_rd]; rfl
theorem sumA_rd {ms : List Ln} (h : ∀ x ∈ ms, isR x.2 = true) (a : List UInt8) : sumA ms a = rd (totQ ms a) := sum_total fun x hx => h x (List.mem_filter.1 hx).1
theorem balB_iff {ms : List Ln} : balB ms = true ↔ (∀ x ∈ ms, lineOk x = true) ∧ ∀ a, totQ ms a = 0 := by
  unfold balB
  rw [Bool.and_eq_true, List.all_eq_true, List.all_eq_true]
  constructor
  · rintro ⟨h1, h2⟩
    refine ⟨h1, fun a => ?_⟩
    by_cases he : ∃ x ∈ ms, x.1.2 = a
    · obtain ⟨x, hx, rfl⟩ := he
      have k := h2 x hx
      rw [sumA_rd fun y hy => ok_rat (h1 y hy), sgn_rd, beq_iff_eq, sgnQ_eq_zero] at k
      exact k
    · unfold totQ
      rw [List.filter_eq_nil_iff.2 fun x hx => by rw [beq_iff_eq]; exact fun e => he ⟨x, hx, e⟩]
      rfl
  · rintro ⟨h1, h2⟩
    refine ⟨h1, fun x hx => ?_⟩
    rw [sumA_rd fun y hy => ok_rat (h1 y hy), sgn_rd, h2, beq_iff_eq, sgnQ_eq_zero]
theorem applyB_ok {ls ms : List Ln} {cov : Bool} {out : List Ln} (h : Good ls) (e : applyB ls ms cov = (out, 0)) : out = addAll ls ms ∧ balB ms = true ∧ (cov && ms.any (shortB ls out)) = false := by
  unfold applyB at e
  rw [if_pos (good_iff.2 h)] at e
  cases hb : balB ms with
  | false => rw [hb] at e; exact absurd (Prod.mk.inj e).2 (by decide)
  | true =>
    rw [hb, if_pos rfl] at e
    cases hs : cov && ms.any (shortB ls (addAll ls ms)) with
    | true => rw [hs] at e; exact absurd (Prod.mk.inj e).2 (by decide)
    | false =>
      rw [hs] at e
      have k := (Prod.mk.inj e).1
      exact ⟨k.symm, rfl, by rw [← k]; exact hs⟩
theorem applyB_no {ls ms : List Ln} {cov : Bool} {out : List Ln} {e : Int} (h : Good ls) (k : applyB ls ms cov = (out, e)) (he : e ≠ 0) : out = [] ∧ (e = 70 ∨ (cov = true ∧ e = 71)) := by
  unfold applyB at k
  rw [if_pos (good_iff.2 h)] at k
  cases hb : balB ms with
  | false =>
    rw [hb] at k
    exact ⟨(Prod.mk.inj k).1.symm, .inl (Prod.mk.inj k).2.symm⟩
  | true =>
    rw [hb, if_pos rfl] at k
    cases hs : cov && ms.any (shortB ls (addAll ls ms)) with
    | true =>
      rw [hs] at k
      exact ⟨(Prod.mk.inj k).1.symm, .inr ⟨((Bool.and_eq_true _ _).mp hs).1, (Prod.mk.inj k).2.symm⟩⟩
    | false => rw [hs] at k; exact absurd (Prod.mk.inj k).2.symm he
theorem applyB_free {ls ms : List Ln} (h : Good ls) (hb : balB ms = true) : applyB ls ms false = (addAll ls ms, 0) := by
  unfold applyB; rw [if_pos (good_iff.2 h), hb]; rfl
/-- Nobody goes below 0 who was not. -/
theorem short_no {ls out : List Ln} (hg : Good ls) (ho : Good out) {x : Ln} (h : shortB ls out x = false) (hf : isFree x.1.1 = false) (hn : sgnQ (hasQ out x.1) < 0) : ¬ 0 ≤ sgnQ (hasQ ls x.1) := fun hw => by
  unfold shortB at h
  rw [hf, getB_rd ho, getB_rd hg, sgn_rd, decide_eq_true hn] at h
  have hc : cmpR (rd (hasQ out x.1)) (rd (hasQ ls x.1)) = sgnQ (hasQ out x.1 - hasQ ls x.1) := by unfold cmpR; rw [isR_rd, isR_rd, valR_rd, valR_rd]; rfl
  rw [hc] at h
  have h : decide (sgnQ (hasQ out x.1 - hasQ ls x.1) < 0) = false := h
  have h := of_decide_eq_false h
  have neg : ∀ q : Rat, sgnQ q < 0 ↔ q < 0 := fun q => by
    have e : q.num < 0 ↔ q < 0 := by
      rw [← Rat.not_le, ← Rat.num_nonneg, Int.not_le]
    rw [← e]
    unfold sgnQ
    split
    · rename_i k; exact ⟨fun _ => k, fun _ => by decide⟩
    · rename_i k
      split
      · exact ⟨fun h => absurd h (by decide), fun h => absurd h k⟩
      · exact ⟨fun h => absurd h (by decide), fun h => absurd h k⟩
  have h1 := (neg _).1 hn
  have h2 : ¬ hasQ ls x.1 < 0 := fun k => absurd ((neg _).2 k) (by omega)
  have h3 : ¬ hasQ out x.1 - hasQ ls x.1 < 0 := fun k => h ((neg _).2 k)
  grind

/-! Turned round. -/
def negL (ms : List Ln) : List Ln := ms.map fun x => (x.1, negR x.2)
theorem negR_ok {p : Key} (h : isR p = true) : negR p = rd (-valR p) := by unfold negR; rw [h]; rfl
theorem negL_ok {ms : List Ln} (h : ∀ x ∈ ms, lineOk x = true) : (∀ x ∈ negL ms, lineOk x = true) ∧ (∀ k, sumK (negL ms) k = -sumK ms k) ∧ ∀ a, totQ (negL ms) a = -totQ ms a := by
  induction ms with
  | nil => exact ⟨fun _ h => (by cases h), fun _ => Rat.neg_zero.symm, fun _ => Rat.neg_zero.symm⟩
  | cons x r ih =>
    obtain ⟨h1, h2, h3⟩ := ih fun y hy => h y (List.mem_cons_of_mem _ hy)
    have hx := h x (List.mem_cons_self ..)
    have e := negR_ok (ok_rat hx)
    have ev : valR (negR x.2) = -valR x.2 := by rw [e, valR_rd]
    refine ⟨fun y hy => ?_, fun k => ?_, fun a => ?_⟩
    · rcases List.mem_cons.1 hy with rfl | hy
      · unfold lineOk at hx ⊢
        simp only [Bool.and_eq_true] at hx ⊢
        exact ⟨hx.1, hx.2.1, by show isR (negR x.2) = true; rw [e]; exact isR_rd _⟩
      · exact h1 y hy
    · show sumK ((x.1, negR x.2) :: negL r) k = _
      rw [sumK_cons, sumK_cons, h2 k]
      show (if x.1 = k then valR (negR x.2) else 0) + -sumK r k = _
      rw [ev]
      split <;> grind
    · show totQ ((x.1, negR x.2) :: negL r) a = _
      rw [totQ_cons, totQ_cons, h3 a]
      show (if x.1.2 = a then valR (negR x.2) else 0) + -totQ r a = _
      rw [ev]
      split <;> grind
theorem bal_neg {ms : List Ln} (h : balB ms = true) : balB (negL ms) = true := by
  obtain ⟨h1, h2⟩ := balB_iff.1 h
  obtain ⟨k1, _, k3⟩ := negL_ok h1
  exact balB_iff.2 ⟨k1, fun a => by rw [k3, h2, Rat.neg_zero]⟩
theorem bal_append {l m : List Ln} (h : balB l = true) (k : balB m = true) : balB (l ++ m) = true := by
  obtain ⟨h1, h2⟩ := balB_iff.1 h
  obtain ⟨k1, k2⟩ := balB_iff.1 k
  exact balB_iff.2 ⟨fun x hx => (List.mem_append.1 hx).elim (h1 x) (k1 x), fun a => by rw [totQ_append, h2, k2, Rat.add_zero]⟩
/-- Posted, and turned round, it is as it was. -/
theorem add_neg {ls ms : List Ln} (h : Good ls) (hb : balB ms = true) : addAll (addAll ls ms) (negL ms) = ls := by
  obtain ⟨h1, _⟩ := balB_iff.1 hb
  obtain ⟨g1, k1, _⟩ := addAll_good h h1
  obtain ⟨n1, n2, _⟩ := negL_ok h1
  obtain ⟨g2, k2, _⟩ := addAll_good g1 n1
  refine good_ext g2 h fun k => ?_
  rw [k2, k1, n2]
  grind
/-- What comes to nothing for each account changes nothing. -/
theorem add_none {ls ms : List Ln} (h : Good ls) (h1 : ∀ x ∈ ms, lineOk x = true) (hk : ∀ k, sumK ms k = 0) : addAll ls ms = ls := by
  obtain ⟨g1, k1, _⟩ := addAll_good h h1
  exact good_ext g1 h fun k => by rw [k1, hk, Rat.add_zero]
theorem short_same (ls : List Ln) (x : Ln) : shortB ls ls x = false := by
  have e : ∀ p : Key, ¬ cmpR p p < 0 := fun p => by
    unfold cmpR
    split
    · rw [Rat.sub_self]; decide
    · decide
  unfold shortB
  rw [decide_eq_false (e _), Bool.and_false, Bool.and_false]

/-! How long numbers get: by a common denominator. -/
structure Bd (D : Nat) (M : Nat) (q : Rat) : Prop where
  den : q.den ∣ D
  lo : -(M : Rat) ≤ q
  hi : q ≤ (M : Rat)
theorem dvd_divInt {n : Int} {d : Nat} (hd : 0 < d) : (Rat.divInt n (d : Int)).den ∣ d := by
  have h := (divInt_pos (n := n) (d := (d : Int)) (by omega)).2
  have e : (Nat.gcd n.natAbs ((d : Int)).natAbs : Int) = ((Nat.gcd n.natAbs d : Nat) : Int) := by rw [Int.natAbs_natCast]
  rw [e, ← Int.natCast_ediv] at h
  have h : (Rat.divInt n (d : Int)).den = d / Nat.gcd n.natAbs d := Int.ofNat_inj.1 h
  rw [h]
  exact Nat.div_dvd_of_dvd (Nat.gcd_dvd_right _ _)
theorem den_add {D : Nat} (hD : 0 < D) {p q : Rat} (hp : p.den ∣ D) (hq : q.den ∣ D) : (p + q).den ∣ D := by
  obtain ⟨s, hs⟩ := hp
  obtain ⟨t, ht⟩ := hq
  have hp0 := p.den_nz
  have hq0 := q.den_nz
  have e1 : p = Rat.divInt (p.num * (s : Int)) (D : Int) := by
    have hs0 : (s : Int) ≠ 0 := fun e => by
      obtain rfl : s = 0 := by omega
      omega
    conv => lhs; rw [← Rat.num_divInt_den p]
    rw [hs, Int.natCast_mul, Rat.divInt_mul_right hs0]
  have e2 : q = Rat.divInt (q.num * (t : Int)) (D : Int) := by
    have ht0 : (t : Int) ≠ 0 := fun e => by
      obtain rfl : t = 0 := by omega
      omega
    conv => lhs; rw [← Rat.num_divInt_den q]
    rw [ht, Int.natCast_mul, Rat.divInt_mul_right ht0]
  have e3 : p + q = Rat.divInt (p.num * (s : Int) + q.num * (t : Int)) (D : Int) := by
    conv => lhs; rw [e1, e2]
    have hd : (D : Int) ≠ 0 := by omega
    rw [Rat.divInt_add_divInt _ _ hd hd, ← Int.add_mul, Rat.divInt_mul_right hd]
  rw [e3]
  exact dvd_divInt hD
theorem Bd.add {D M N : Nat} (hD : 0 < D) {p q : Rat} (h : Bd D M p) (k : Bd D N q) : Bd D (M + N) (p + q) := by
  refine ⟨den_add hD h.den k.den, ?_, ?_⟩
  · have h1 := h.lo; have h2 := k.lo
    rw [Rat.natCast_add]; grind
  · have h1 := h.hi; have h2 := k.hi
    rw [Rat.natCast_add]; grind
theorem Bd.zero (D : Nat) : Bd D 0 0 := ⟨⟨D, (Nat.one_mul D).symm⟩, by decide +kernel, by decide +kernel⟩
theorem Bd.mono {D M N : Nat} {q : Rat} (h : Bd D M q) (hN : M ≤ N) : Bd D N q := by
  have e : (M : Rat) ≤ (N : Rat) := Rat.natCast_le_natCast.2 hN
  exact ⟨h.den, by have := h.lo; grind, by have := h.hi; grind⟩
theorem Bd.neg {D M : Nat} {q : Rat} (h : Bd D M q) : Bd D M (-q) := ⟨by rw [Rat.neg_den]; exact h.den, by have := h.hi; grind, by have := h.lo; grind⟩
theorem Bd.num {D M : Nat} {q : Rat} (h : Bd D M q) : q.num.natAbs ≤ M * q.den := by
  have h1 := (Rat.le_iff _ _).1 h.hi
  have h2 := (Rat.le_iff _ _).1 h.lo
  rw [Rat.num_natCast, Rat.den_natCast] at h1
  rw [Rat.neg_num, Rat.neg_den, Rat.num_natCast, Rat.den_natCast] at h2
  have e : ((M * q.den : Nat) : Int) = (M : Int) * (q.den : Int) := Int.natCast_mul ..
  have e2 : -(M : Int) * (q.den : Int) = -((M : Int) * (q.den : Int)) := Int.neg_mul ..
  rw [e2] at h2
  omega
/-- The texts of a number so bounded. -/
theorem Bd.len {D M a b : Nat} (hD : 0 < D) {q : Rat} (h : Bd D M q) (ha : D < 10 ^ a) (hb : M < 10 ^ b) (h0 : 0 < a) : (rdN q).length ≤ a + b + 1 ∧ (rdD q).length ≤ a := by
  have hd : q.den ≤ D := Nat.le_of_dvd hD h.den
  have hn := h.num
  have hn2 : q.num.natAbs < 10 ^ (a + b) := by
    refine Nat.lt_of_le_of_lt (Nat.le_trans hn (Nat.mul_le_mul_left _ hd)) ?_
    rw [Nat.pow_add, Nat.mul_comm]
    exact Nat.mul_lt_mul_of_lt_of_le ha (Nat.le_of_lt hb) (Nat.pow_pos (by decide))
  exact ⟨Nat.le_trans (wd_length q.num) (Nat.succ_le_succ (dig_length (by omega) hn2)), dig_length h0 (Nat.lt_of_le_of_lt hd ha)⟩
end Go.Proofs.YtamibckbebifkaaGreatDoor

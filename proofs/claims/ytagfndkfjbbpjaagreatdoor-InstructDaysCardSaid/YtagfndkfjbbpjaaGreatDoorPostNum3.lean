/- Plain postings: small lines have a common denominator that is not too long; constants. Own work; no program text. -/
import Derived.Test.YtagfndkfjbbpjaaGreatDoorAllRefB8
namespace Go.Proofs.YtagfndkfjbbpjaaGreatDoor
def Dp (ls : List Ln) : Nat := ls.foldr (fun x p => (if isR x.2 then (valR x.2).den else 1) * p) 1
theorem Dp_cons (x : Ln) (r : List Ln) : Dp (x :: r) = (if isR x.2 then (valR x.2).den else 1) * Dp r := rfl
theorem one_pos (x : Ln) : 0 < (if isR x.2 then (valR x.2).den else 1) := by
 split
 ·exact Nat.pos_of_ne_zero (valR x.2).den_nz
 ·decide
theorem Dp_pos : ∀ ls : List Ln, 0 < Dp ls
 | [] => Nat.one_pos
 | x :: r => Nat.mul_pos (one_pos x) (Dp_pos r)
theorem Dp_dvd : ∀ {ls : List Ln} {x : Ln}, x ∈ ls → isR x.2 = true → (valR x.2).den ∣ Dp ls
 | [], x, h, _ => by cases h
 | y :: r, x, h, hr => by
  rw [Dp_cons]
  rcases List.mem_cons.1 h with rfl | h
  ·rw [hr]; exact Nat.dvd_mul_right _ _
  ·exact Nat.dvd_trans (Dp_dvd h hr) (Nat.dvd_mul_left _ _)
theorem shL_fit {x : Ln} (h : shL x = true) : SzF x := by
 unfold shL at h
 simp only [Bool.and_eq_true, decide_eq_true_eq] at h
 exact ⟨⟨Nat.le_trans h.2.1 (by decide), Nat.le_trans h.2.2 (by decide)⟩, Nat.le_trans h.1.1 (by decide), Nat.le_trans h.1.2 (by decide)⟩
theorem shL_lq {x : Ln} (h : shL x = true) (hr : isR x.2 = true) : Lq (valR x.2) 100 := by
 unfold shL at h
 simp only [Bool.and_eq_true, decide_eq_true_eq] at h
 exact Lq.of_text (n := ⟨x.2.1.toArray⟩) (d := ⟨x.2.2.toArray⟩) hr (by rw [size_of]; exact h.1.1) (by rw [size_of]; exact h.1.2) (by decide)
theorem Dp_lt : ∀ {ls : List Ln}, (∀ x ∈ ls, shL x = true) → Dp ls ≤ 10 ^ (100 * ls.length)
 | [], _ => Nat.le_refl _
 | x :: r, h => by
  have h1 := Dp_lt (ls := r) fun y hy => h y (List.mem_cons_of_mem _ hy)
  have h2 : (if isR x.2 then (valR x.2).den else 1) ≤ 10 ^ 100 := by
   split
   ·rename_i hr; exact Nat.le_of_lt (shL_lq (h x (List.mem_cons_self ..)) hr).den
   ·exact Nat.pow_pos (by decide)
  rw [Dp_cons]
  refine Nat.le_trans (Nat.mul_le_mul h2 h1) (Nat.le_of_eq ?_)
  show 10 ^ 100 * 10 ^ (100 * r.length) = 10 ^ (100 * (r.length + 1))
  rw [← Nat.pow_add]; congr 1; omega
def Ms : Nat := 10 ^ 100
theorem small_bd {x : Ln} {ls : List Ln} (h : shL x = true) (hr : isR x.2 = true) (hx : x ∈ ls) : Bd (Dp ls) Ms (valR x.2) := by
 have l := shL_lq h hr
 have hd : 1 ≤ (valR x.2).den := Nat.pos_of_ne_zero (valR x.2).den_nz
 have hn : (valR x.2).num.natAbs ≤ Ms * (valR x.2).den := Nat.le_trans (Nat.le_of_lt l.num) (Nat.le_mul_of_pos_right _ hd)
 have hi : (valR x.2).num ≤ ((Ms * (valR x.2).den : Nat) : Int) := by omega
 have lo : -((Ms * (valR x.2).den : Nat) : Int) ≤ (valR x.2).num := by omega
 rw [Int.natCast_mul] at hi lo
 refine ⟨Dp_dvd hx hr, ?_, ?_⟩
 ·rw [Rat.le_iff, Rat.neg_num, Rat.neg_den, Rat.num_natCast, Rat.den_natCast]
  have e : -(Ms : Int) * ((valR x.2).den : Int) = -((Ms : Int) * ((valR x.2).den : Int)) := Int.neg_mul ..
  rw [e, show ((1 : Nat) : Int) = 1 from rfl, Int.mul_one]
  exact lo
 ·rw [Rat.le_iff, Rat.num_natCast, Rat.den_natCast, show ((1 : Nat) : Int) = 1 from rfl, Int.mul_one]
  exact hi
theorem small_tame {l ls : List Ln} (h : ∀ x ∈ l, shL x = true) (hs : ∀ x ∈ l, x ∈ ls) (hr : ∀ x ∈ l, isR x.2 = true) : Tame (Dp ls) Ms l := fun x hx => small_bd (h x hx) (hr x hx) (hs x hx)
theorem pow_lt2 {a : Nat} (n m : Nat) (h : a ≤ 10 ^ n) (k : n < m) : a < 10 ^ m := Nat.lt_of_le_of_lt h (Nat.pow_lt_pow_right (by decide) k)
theorem good_rat {ls : List Ln} (h : Good ls) : ∀ x ∈ ls, isR x.2 = true := fun x hx => (lineIn_rat (h.1 x hx)).1
theorem bd_c {D M : Nat} {q : Rat} (h : (decide (q.den ∣ D) && (decide (-(M : Rat) ≤ q) && decide (q ≤ (M : Rat)))) = true) : Bd D M q := by
 simp only [Bool.and_eq_true, decide_eq_true_eq] at h
 exact ⟨h.1, h.2.1, h.2.2⟩
def okW (x : Ln) : Bool := decide ((valR x.2).den ∣ 1) && (decide (-((10 : Nat) : Rat) ≤ valR x.2) && decide (valR x.2 ≤ ((10 : Nat) : Rat)))
theorem fit_c {ls : List Ln} (h : ls.all shL = true) : ∀ x ∈ ls, SzF x := fun x hx => shL_fit (List.all_eq_true.1 h x hx)
theorem add_c {ls : List Ln} {x : Ln} {g q : Key} {r : List Ln} (h1 : (mayB ls && lineOk x) = true) (h2 : getB ls x.1 = g) (h3 : addR g x.2 = q) (h4 : insB ls (sgnR q == 0) x.1 q = r) : addB ls x = (r, true) := by
 unfold addB putB
 rw [h1, h2, h3, h4]; rfl
theorem bal_two {x y : Ln} (h : (lineOk x && lineOk y && (x.1.2 == y.1.2)) = true) (hq : valR x.2 + valR y.2 = 0) : balB [x, y] = true := by
 simp only [Bool.and_eq_true, beq_iff_eq] at h
 refine balB_iff.2 ⟨fun z hz => ?_, fun a => ?_⟩
 ·rcases List.mem_cons.1 hz with rfl | hz
  ·exact h.1.1
  ·exact List.mem_singleton.1 hz ▸ h.1.2
 ·rw [totQ_cons, totQ_cons, h.2]
  show _ + (_ + (0 : Rat)) = 0
  split <;> grind
theorem apply_c {ls ms out : List Ln} {cov : Bool} (h1 : mayB ls = true) (h2 : balB ms = true) (h3 : addAll ls ms = out) (h4 : (cov && ms.any (shortB ls out)) = false) : applyB ls ms cov = (out, 0) := by
 unfold applyB
 rw [h1, h2, h3, h4]; rfl
theorem apply_short {ls ms out : List Ln} (h1 : mayB ls = true) (h2 : balB ms = true) (h3 : addAll ls ms = out) (h4 : ms.any (shortB ls out) = true) : applyB ls ms true = ([], 71) := by
 unfold applyB
 rw [h1, h2, h3, h4]; rfl
theorem all_two {ls b1 b2 : List Ln} {x y : Ln} (h1 : addB ls x = (b1, true)) (h2 : addB b1 y = (b2, true)) : addAll ls [x, y] = b2 := by
 rw [addAll_cons, h1, addAll_cons, h2]; rfl
end Go.Proofs.YtagfndkfjbbpjaaGreatDoor

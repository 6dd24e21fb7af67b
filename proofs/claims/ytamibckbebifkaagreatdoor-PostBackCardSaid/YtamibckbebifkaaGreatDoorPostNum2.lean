/- Plain postings: how long the numbers get, in books with lines added. Own work; no program text. -/
import Derived.Test.YtamibckbebifkaaGreatDoorPostNum
namespace Go.Proofs.YtamibckbebifkaaGreatDoor

/-- Texts of a number that are not too long. -/
def Fit (q : Key) : Prop := q.1.length ≤ 19000 ∧ q.2.length ≤ 19000
/-- Texts of a line that are not too long. -/
def SzF (x : Ln) : Prop := (x.1.1.length ≤ 4611686018427387904 ∧ x.1.2.length ≤ 4611686018427387904) ∧ Fit x.2
structure Sized (D M : Nat) : Prop where
  pos : 0 < D
  d : D < 10 ^ 15000
  m : M < 10 ^ 3000
theorem Sized.mono {D M N : Nat} (h : Sized D M) (hN : N ≤ M) : Sized D N := ⟨h.pos, h.d, Nat.lt_of_le_of_lt hN h.m⟩
theorem fit_of {D M : Nat} {q : Rat} (h : Sized D M) (hb : Bd D M q) : Fit (rd q) := by
  have k := hb.len h.pos h.d h.m (by decide)
  exact ⟨Nat.le_trans k.1 (by decide), Nat.le_trans k.2 (by decide)⟩
/-- All lines' numbers, by a common denominator. -/
def Tame (D M : Nat) (ls : List Ln) : Prop := ∀ x ∈ ls, Bd D M (valR x.2)
theorem Tame.sub {D M : Nat} {l m : List Ln} (h : Tame D M m) (hs : ∀ x ∈ l, x ∈ m) : Tame D M l := fun x hx => h x (hs x hx)
theorem Tame.app {D M : Nat} {l m : List Ln} (h : Tame D M l) (k : Tame D M m) : Tame D M (l ++ m) := fun x hx => (List.mem_append.1 hx).elim (h x) (k x)
theorem has_bd {D M : Nat} {ls : List Ln} (h : Tame D M ls) (k : Key) : Bd D M (hasQ ls k) := by
  unfold hasQ
  cases e : lineOf ls k with
  | none => exact (Bd.zero D).mono (Nat.zero_le _)
  | some x => exact h x (of_some e).1
theorem sumK_bd {D M : Nat} (hD : 0 < D) {ms : List Ln} (h : Tame D M ms) (k : Key) : Bd D (M * ms.length) (sumK ms k) := by
  induction ms with
  | nil => exact Bd.zero D
  | cons x r ih =>
    have h1 : Bd D M (if x.1 = k then valR x.2 else 0) := by
      split
      · exact h x (List.mem_cons_self ..)
      · exact (Bd.zero D).mono (Nat.zero_le _)
    have h2 := ih fun y hy => h y (List.mem_cons_of_mem _ hy)
    rw [sumK_cons]
    exact (Bd.add hD h1 h2).mono (by show M + M * r.length ≤ M * (r.length + 1); rw [Nat.mul_add]; omega)
theorem totQ_bd {D M : Nat} (hD : 0 < D) {ms : List Ln} (h : Tame D M ms) (a : List UInt8) : Bd D (M * ms.length) (totQ ms a) := by
  induction ms with
  | nil => exact Bd.zero D
  | cons x r ih =>
    have h1 : Bd D M (if x.1.2 = a then valR x.2 else 0) := by
      split
      · exact h x (List.mem_cons_self ..)
      · exact (Bd.zero D).mono (Nat.zero_le _)
    have h2 := ih fun y hy => h y (List.mem_cons_of_mem _ hy)
    rw [totQ_cons]
    exact (Bd.add hD h1 h2).mono (by show M + M * r.length ≤ M * (r.length + 1); rw [Nat.mul_add]; omega)
theorem foldr_bd {D M : Nat} (hD : 0 < D) {ms : List Ln} (h : Tame D M ms) : Bd D (M * ms.length) (ms.foldr (fun x s => valR x.2 + s) 0) := by
  induction ms with
  | nil => exact Bd.zero D
  | cons x r ih =>
    have h1 := h x (List.mem_cons_self ..)
    have h2 := ih fun y hy => h y (List.mem_cons_of_mem _ hy)
    exact (Bd.add hD h1 h2).mono (by show M + M * r.length ≤ M * (r.length + 1); rw [Nat.mul_add]; omega)
/-- Sums of lines, in any part of a row. -/
theorem sum_fit {D M : Nat} {ms L : List Ln} (h : Tame D M ms) (hr : ∀ x ∈ ms, isR x.2 = true) (hs : ∀ x ∈ L, x ∈ ms) (hl : L.length ≤ ms.length) (z : Sized D (M * ms.length)) : Fit (sumL L) := by
  rw [sum_total fun x hx => hr x (hs x hx)]
  exact fit_of z ((foldr_bd z.pos (h.sub hs)).mono (Nat.mul_le_mul_left _ hl))
/-- A line of a good book is what the book has. -/
theorem line_has {b : List Ln} (hg : Good b) {x : Ln} (hx : x ∈ b) : x.2 = rd (hasQ b x.1) := by
  have hr := (lineIn_rat (hg.1 x hx)).1
  have e : lineOf b x.1 = some x := by
    cases e : lineOf b x.1 with
    | none => exact absurd (List.find?_eq_none.1 e x hx) (by simp)
    | some z =>
      obtain ⟨hz, ez⟩ := of_some e
      obtain ⟨i, hi, rfl⟩ := List.getElem_of_mem hz
      obtain ⟨j, hj, rfl⟩ := List.getElem_of_mem hx
      have : i = j := by
        rcases Nat.lt_trichotomy i j with c | c | c
        · exact absurd ez (ahead_ne (List.pairwise_iff_getElem.1 hg.2 i j hi hj c))
        · exact c
        · exact absurd ez.symm (ahead_ne (List.pairwise_iff_getElem.1 hg.2 j i hj hi c))
      subst this
      rfl
  unfold hasQ
  rw [e]
  exact (rd_valR hr).symm
theorem isName_len {l : List UInt8} (h : isName l = true) : l.length ≤ 20 := by
  unfold isName at h
  simp only [Bool.and_eq_true, decide_eq_true_eq] at h
  exact h.2.2
theorem lineOk_len {x : Ln} (h : lineOk x = true) : x.1.1.length ≤ 20 ∧ x.1.2.length ≤ 20 := by
  unfold lineOk at h
  simp only [Bool.and_eq_true] at h
  exact ⟨isName_len h.1, isName_len h.2.1⟩
theorem lineIn_ok {x : Ln} (h : lineIn x = true) : lineOk x = true := by unfold lineIn at h; simp only [Bool.and_eq_true] at h; exact h.1
/-- A good book whose numbers are bounded: its lines' texts are not too long. -/
theorem good_fit {D M : Nat} {b : List Ln} (hg : Good b) (h : ∀ k, Bd D M (hasQ b k)) (z : Sized D M) : ∀ x ∈ b, SzF x := fun x hx => by
  have l := lineOk_len (lineIn_ok (hg.1 x hx))
  refine ⟨⟨Nat.le_trans l.1 (by decide), Nat.le_trans l.2 (by decide)⟩, ?_⟩
  rw [line_has hg hx]
  exact fit_of z (h _)
theorem good_tame {D M : Nat} {b : List Ln} (hg : Good b) (h : ∀ k, Bd D M (hasQ b k)) : Tame D M b := fun x hx => by
  rw [line_has hg hx, valR_rd]; exact h _
theorem put_len {ls : List Ln} (h : Good ls) (k q : Key) : (putB ls k q).length ≤ ls.length + 1 := by
  have hr := rank_le ls k
  have e : ∀ (i : Nat), ls.length - (rank ls k) ≤ i → (ls.take (rank ls k)).length + i ≤ ls.length + i := fun i _ => by rw [List.length_take]; omega
  have one : ∀ q : Key, (if sgnR q == 0 then ([] : List Ln) else [(k, q)]).length ≤ 1 := fun q => by split <;> simp
  rcases place h.2 k with ⟨_, p, _, _, hp⟩ | ⟨_, _, hp⟩
  · rw [hp q, List.length_append, List.length_append, List.length_take, List.length_drop]
    have := one q; omega
  · rw [hp q, List.length_append, List.length_append, List.length_take, List.length_drop]
    have := one q; omega
theorem addB_len {ls : List Ln} (h : Good ls) (x : Ln) : (addB ls x).1.length ≤ ls.length + 1 := by
  unfold addB
  split
  · exact put_len h _ _
  · exact Nat.zero_le _
theorem addAll_len : ∀ {ms ls : List Ln}, Good ls → (∀ x ∈ ms, lineOk x = true) → (addAll ls ms).length ≤ ls.length + ms.length
  | [], _, _, _ => Nat.le_refl _
  | x :: r, ls, h, hm => by
    obtain ⟨b, e, hg, _⟩ := addB_yes h (hm x (List.mem_cons_self ..))
    have h1 := addB_len h x
    have h2 := addAll_len (ms := r) (ls := b) hg fun y hy => hm y (List.mem_cons_of_mem _ hy)
    rw [e] at h1
    rw [addAll_cons, e]
    show (addAll b r).length ≤ ls.length + (r.length + 1)
    have h1 : b.length ≤ ls.length + 1 := h1
    omega
theorem addAll_bd {D M : Nat} {ls ms : List Ln} (hD : 0 < D) (h : Good ls) (hm : ∀ x ∈ ms, lineOk x = true) (t1 : Tame D M ls) (t2 : Tame D M ms) (k : Key) : Bd D (M * (ms.length + 1)) (hasQ (addAll ls ms) k) := by
  rw [(addAll_good h hm).2.1 k]
  exact (Bd.add hD (has_bd t1 k) (sumK_bd hD t2 k)).mono (by rw [Nat.mul_add]; omega)
/-- What is wanted of a book, of lines, and of what is posted: all the way the numbers are not too long. -/
structure Way (D M : Nat) (ls ms : List Ln) : Prop where
  z : Sized D (M * (2 * (ms.length + 1)))
  t1 : Good ls → Tame D M ls
  t2 : (∀ x ∈ ms, lineOk x = true) → Tame D M ms
theorem Way.fit {D M : Nat} {ls ms : List Ln} (w : Way D M ls ms) (h : Good ls) (hm : ∀ x ∈ ms, lineOk x = true) (k : Nat) : ∀ x ∈ addAll ls (ms.take k), SzF x := by
  have hs : ∀ x ∈ ms.take k, x ∈ ms := fun x hx => List.mem_of_mem_take hx
  refine good_fit (addAll_good h fun x hx => hm x (hs x hx)).1 (fun key => addAll_bd w.z.pos h (fun x hx => hm x (hs x hx)) (w.t1 h) ((w.t2 hm).sub hs) key) ?_
  exact w.z.mono (Nat.mul_le_mul_left _ (by rw [List.length_take]; omega))
theorem Way.has {D M : Nat} {ls ms : List Ln} (w : Way D M ls ms) (h : Good ls) (hm : ∀ x ∈ ms, lineOk x = true) (k : Nat) (key : Key) : Fit (rd (hasQ (addAll ls (ms.take k)) key)) := by
  have hs : ∀ x ∈ ms.take k, x ∈ ms := fun x hx => List.mem_of_mem_take hx
  exact fit_of (w.z.mono (Nat.mul_le_mul_left _ (by rw [List.length_take]; omega))) (addAll_bd w.z.pos h (fun x hx => hm x (hs x hx)) (w.t1 h) ((w.t2 hm).sub hs) key)
theorem Way.sum {D M : Nat} {ls ms : List Ln} (w : Way D M ls ms) (hm : ∀ x ∈ ms, lineOk x = true) {L : List Ln} (hs : ∀ x ∈ L, x ∈ ms) (hl : L.length ≤ ms.length) : Fit (sumL L) :=
  sum_fit (w.t2 hm) (fun x hx => ok_rat (hm x hx)) hs hl (w.z.mono (Nat.mul_le_mul_left _ (by omega)))
theorem zero_fit : Fit (([48], [49]) : Key) := ⟨by decide, by decide⟩
end Go.Proofs.YtamibckbebifkaaGreatDoor

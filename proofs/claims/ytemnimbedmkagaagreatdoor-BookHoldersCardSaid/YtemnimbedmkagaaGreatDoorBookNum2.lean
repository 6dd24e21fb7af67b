/- Plain books: a line added and taken again, two lines in any order; sizes. Own work; no program text. -/
import Derived.Test.YtemnimbedmkagaaGreatDoorAllRefB7
namespace Go.Proofs.YtemnimbedmkagaaGreatDoor

theorem valR_neg {p : Key} (h : isR p = true) : isR (negR p) = true ∧ valR (negR p) = -valR p := by
  have e : negR p = rd (-valR p) := by unfold negR; rw [h]; rfl
  rw [e]
  exact ⟨isR_rd _, valR_rd _⟩
theorem lineOk_neg {k q : Key} (h : lineOk (k, q) = true) : lineOk (k, negR q) = true := by
  unfold lineOk at h ⊢
  simp only [Bool.and_eq_true] at h ⊢
  exact ⟨h.1, h.2.1, (valR_neg h.2.2).1⟩
theorem lineOk_rat {x : Ln} (h : lineOk x = true) : isR x.2 = true := by unfold lineOk at h; simp only [Bool.and_eq_true] at h; exact h.2.2
/-- What is added, and taken again, leaves the book as it was. -/
theorem add_back {ls M : List Ln} {k q : Key} (h : Good ls) (hx : lineOk (k, q) = true) (e : addB ls (k, q) = (M, true)) : addB M (k, negR q) = (ls, true) := by
  obtain ⟨M', e1, g1, q1, _⟩ := addB_yes h hx
  obtain rfl : M' = M := congrArg Prod.fst (e1.symm.trans e)
  obtain ⟨L, e2, g2, q2, _⟩ := addB_yes g1 (lineOk_neg hx)
  have hn := (valR_neg (lineOk_rat hx)).2
  have : L = ls := good_ext g2 h fun m => by
    rw [q2, q1]
    show hasQ ls m + (if m = k then valR q else 0) + (if m = k then valR (negR q) else 0) = _
    have hn : valR (negR q) = -valR q := hn
    rw [hn]
    split <;> grind
  rw [e2, this]
/-- Two lines are added in any order the same. -/
theorem add_comm {ls M F M2 G2 : List Ln} {x y : Ln} (h : Good ls) (hx : lineOk x = true) (hy : lineOk y = true) (e1 : addB ls x = (M, true)) (e2 : addB M y = (M2, true)) (e3 : addB ls y = (F, true)) (e4 : addB F x = (G2, true)) : M2 = G2 := by
  obtain ⟨a1, k1, g1, q1, _⟩ := addB_yes h hx
  obtain rfl : a1 = M := congrArg Prod.fst (k1.symm.trans e1)
  obtain ⟨a2, k2, g2, q2, _⟩ := addB_yes g1 hy
  obtain rfl : a2 = M2 := congrArg Prod.fst (k2.symm.trans e2)
  obtain ⟨a3, k3, g3, q3, _⟩ := addB_yes h hy
  obtain rfl : a3 = F := congrArg Prod.fst (k3.symm.trans e3)
  obtain ⟨a4, k4, g4, q4, _⟩ := addB_yes g3 hx
  obtain rfl : a4 = G2 := congrArg Prod.fst (k4.symm.trans e4)
  exact good_ext g2 g4 fun m => by
    rw [q2, q1, q4, q3]
    grind
/-- What was added is there, with what there was, and nothing else changes. -/
theorem add_get {ls M : List Ln} {x : Ln} (h : Good ls) (hx : lineOk x = true) (e : addB ls x = (M, true)) (k : Key) : getB M k = if k = x.1 then addR (getB ls k) x.2 else getB ls k := by
  obtain ⟨M', e1, g1, q1, _⟩ := addB_yes h hx
  obtain rfl : M' = M := congrArg Prod.fst (e1.symm.trans e)
  rw [getB_rd g1, getB_rd h, q1]
  split
  · unfold addR
    rw [isR_rd, lineOk_rat hx, valR_rd]
    rfl
  · rw [Rat.add_zero]
theorem add_tot {ls M : List Ln} {x : Ln} (h : Good ls) (hx : lineOk x = true) (e : addB ls x = (M, true)) : totB M x.1.2 = addR (totB ls x.1.2) x.2 := by
  obtain ⟨M', e1, g1, _, t1⟩ := addB_yes h hx
  obtain rfl : M' = M := congrArg Prod.fst (e1.symm.trans e)
  rw [totB_rd g1, totB_rd h, t1, if_pos rfl]
  unfold addR
  rw [isR_rd, lineOk_rat hx, valR_rd]
  rfl
theorem add_is {ls : List Ln} {x : Ln} (h : Good ls) (hx : lineOk x = true) : ∃ M, addB ls x = (M, true) ∧ Good M := by
  obtain ⟨M, e, g, _⟩ := addB_yes h hx
  exact ⟨M, e, g⟩

/-! Sizes. -/
theorem put_len1 {ls : List Ln} (h : Good ls) (k q : Key) : (putB ls k q).length ≤ ls.length + 1 := by
  obtain ⟨A, M, C, rfl, hA, hC, hM⟩ := parts h.2 k
  rw [put_parts q hA hC hM, List.length_append, List.length_append, List.length_append, List.length_append]
  have : (if sgnR q == 0 then [] else [(k, q)]).length ≤ 1 := by split <;> simp
  omega
theorem add_len1 {ls M : List Ln} {x : Ln} (h : Good ls) (e : addB ls x = (M, true)) : M.length ≤ ls.length + 1 := by
  unfold addB at e
  split at e
  · obtain rfl := congrArg Prod.fst e
    exact put_len1 h _ _
  · cases congrArg Prod.snd e
theorem mem_ins : ∀ {ls : List Ln} {lb : Bool} {k q : Key} {y : Ln}, y ∈ insB ls lb k q → y ∈ ls ∨ y = (k, q)
  | [], lb, k, q, y, h => by
    cases lb
    · exact .inr (List.mem_singleton.1 h)
    · cases h
  | x :: r, lb, k, q, y, h => by
    have h : y ∈ (if !lb && !aheadK x.1 k then [(k, q)] else []) ++ ((if x.1 == k then [] else [x]) ++ insB r (lb || !aheadK x.1 k) k q) := h
    rcases List.mem_append.1 h with h | h
    · split at h
      · exact .inr (List.mem_singleton.1 h)
      · cases h
    · rcases List.mem_append.1 h with h | h
      · split at h
        · cases h
        · exact .inl (List.mem_singleton.1 h ▸ List.mem_cons_self ..)
      · rcases mem_ins h with h | h
        · exact .inl (List.mem_cons_of_mem _ h)
        · exact .inr h
theorem add_szk {ls M : List Ln} {x : Ln} {j k : Nat} (h : Good ls) (hx : lineOk x = true) (e : addB ls x = (M, true)) (hz : ∀ y ∈ ls, SzK j y) (zx : SzK k x) (hj : 0 < j) (hjk : j + k + 1 ≤ 10000) : ∀ y ∈ M, SzK (j + k + 2) y := by
  unfold addB at e
  rw [good_iff.2 h, hx] at e
  obtain rfl : putB ls x.1 (addR (getB ls x.1) x.2) = M := congrArg Prod.fst e
  intro y hy
  rcases mem_ins hy with hy | rfl
  · have := hz y hy
    exact ⟨this.1, by have := this.2.1; omega, by have := this.2.2; omega⟩
  · have hr := lineOk_rat hx
    have l1 := hasQ_lq h hz (by omega) hj x.1
    have l3 := Lq.add l1 (zx.lq (by omega) hr) hjk
    have e2 : addR (getB ls x.1) x.2 = rd (hasQ ls x.1 + valR x.2) := by rw [getB_rd h]; unfold addR; rw [isR_rd, hr, valR_rd]; rfl
    refine ⟨zx.1, ?_, ?_⟩
    · show (addR (getB ls x.1) x.2).1.length ≤ _
      rw [e2]; exact Nat.le_trans l3.len1 (by omega)
    · show (addR (getB ls x.1) x.2).2.length ≤ _
      rw [e2]; exact Nat.le_trans l3.len2 (by omega)
theorem neg_szk {k : Key} {q : Key} {j : Nat} (h : SzK j (k, q)) (hr : isR q = true) (hj : j ≤ 10000) : SzK (j + 1) (k, negR q) := by
  have l := h.lq hj hr
  have e : negR q = rd (-valR q) := by unfold negR; rw [hr]; rfl
  have l2 : Lq (-valR q) j := ⟨by show (-(valR q)).num.natAbs < _; rw [Rat.neg_num, Int.natAbs_neg]; exact l.num, l.den, l.le, l.pos⟩
  refine ⟨h.1, ?_, ?_⟩
  · show (negR q).1.length ≤ _
    rw [e]; exact l2.len1
  · show (negR q).2.length ≤ _
    rw [e]; exact Nat.le_succ_of_le l2.len2
end Go.Proofs.YtemnimbedmkagaaGreatDoor

/- Plain tables of prices: fixes by asset and day, none twice. Own work; no program text. -/
import Derived.Test.YtmllklfjngapiaaDoorPostNum
namespace Go.Proofs.YtmllklfjngapiaaDoor
namespace Fx
/-- Asset and day; a fix is that and a price's texts. -/
abbrev FK := List UInt8 × Int
abbrev Fix := FK × Key
def lessF (a b : FK) : Bool := Op.bytesLess a.1 b.1 || (a.1 == b.1 && decide (a.2 < b.2))
theorem lt_irrefl (a : FK) : lessF a a = false := by unfold lessF; rw [less_irrefl, decide_eq_false (Int.lt_irrefl _), Bool.and_false]; rfl
theorem lt_trans {a b c : FK} (h : lessF a b = true) (k : lessF b c = true) : lessF a c = true := by
  unfold lessF at *
  simp only [Bool.or_eq_true, Bool.and_eq_true, beq_iff_eq, decide_eq_true_eq] at h k ⊢
  rcases h with h | ⟨h, h'⟩ <;> rcases k with k | ⟨k, k'⟩
  · exact .inl (less_trans h k)
  · exact .inl (k ▸ h)
  · exact .inl (h ▸ k)
  · exact .inr ⟨h.trans k, by omega⟩
theorem lt_cases (a b : FK) : lessF a b = true ∨ a = b ∨ lessF b a = true := by
  unfold lessF
  simp only [Bool.or_eq_true, Bool.and_eq_true, beq_iff_eq, decide_eq_true_eq]
  rcases less_cases a.1 b.1 with h | h | h
  · exact .inl (.inl h)
  · rcases Int.lt_trichotomy a.2 b.2 with k | k | k
    · exact .inl (.inr ⟨h, k⟩)
    · exact .inr (.inl (Prod.ext h k))
    · exact .inr (.inr (.inr ⟨h.symm, k⟩))
  · exact .inr (.inr (.inl h))
theorem lt_asym {a b : FK} (h : lessF a b = true) : lessF b a = false := by
  cases e : lessF b a with
  | false => rfl
  | true => have := lt_trans h e; rw [lt_irrefl] at this; cases this
theorem lt_ne {a b : FK} (h : lessF a b = true) : a ≠ b := fun e => by rw [e, lt_irrefl] at h; cases h

/-! Tables. -/
def okF (x : Fix) : Bool := isName x.1.1 && (decide (0 ≤ x.1.2) && (decide (x.1.2 ≤ 9999) && isR x.2))
def okAtF (l : List Fix) (j : Nat) : Bool := match l[j]? with
  | some x => okF x && (decide (j = 0) || (match l[j - 1]? with | some y => lessF y.1 x.1 | none => false))
  | none => true
def mayF (l : List Fix) : Bool := (List.range l.length).all (okAtF l)
/-- A table that may be. -/
def GoodF (l : List Fix) : Prop := (∀ x ∈ l, okF x = true) ∧ l.Pairwise fun x y => lessF x.1 y.1 = true
theorem mayF_iff {l : List Fix} : mayF l = true ↔ ∀ j, j < l.length → okAtF l j = true := by
  unfold mayF
  rw [List.all_eq_true]
  exact ⟨fun h j hj => h j (List.mem_range.2 hj), fun h j hj => h j (List.mem_range.1 hj)⟩
theorem mayF_stop {l : List Fix} {j : Nat} (hj : j < l.length) (h : okAtF l j = false) : mayF l = false := by
  cases e : mayF l with
  | false => rfl
  | true => rw [mayF_iff.1 e j hj] at h; cases h
theorem mayF_end {l : List Fix} (h : ∀ j, j < l.length → okAtF l j = true) : mayF l = true := mayF_iff.2 h
theorem okF_no {l : List Fix} {k : Nat} {x : Fix} (hx : l[k]? = some x) (h : okF x = false) : okAtF l k = false := by
  unfold okAtF; rw [hx]
  show (okF x && _) = false
  rw [h, Bool.false_and]
theorem okF_0 {l : List Fix} {x : Fix} (hx : l[0]? = some x) (h : okF x = true) : okAtF l 0 = true := by
  unfold okAtF; rw [hx]
  show (okF x && _) = true
  rw [h]; rfl
theorem okF_s {l : List Fix} {m : Nat} {x y : Fix} (hx : l[m + 1]? = some x) (hy : l[m]? = some y) (h : okF x = true) : okAtF l (m + 1) = lessF y.1 x.1 := by
  unfold okAtF; rw [hx]
  show (okF x && (decide (m + 1 = 0) || (match l[m + 1 - 1]? with | some y => lessF y.1 x.1 | none => false))) = _
  rw [h, decide_eq_false (Nat.succ_ne_zero m), Nat.add_sub_cancel, hy]; rfl
theorem chain_lt : ∀ {l : List Fix}, (∀ j x y, l[j]? = some x → l[j + 1]? = some y → lessF x.1 y.1 = true) → l.Pairwise fun x y => lessF x.1 y.1 = true
  | [], _ => List.Pairwise.nil
  | [x], _ => List.pairwise_singleton _ _
  | x :: y :: r, h => by
    have h1 : lessF x.1 y.1 = true := h 0 x y rfl rfl
    have h2 : (y :: r).Pairwise fun x y => lessF x.1 y.1 = true := chain_lt fun j u v hu hv => h (j + 1) u v hu hv
    refine List.Pairwise.cons (fun z hz => ?_) h2
    rcases List.mem_cons.1 hz with rfl | hz
    · exact h1
    · exact lt_trans h1 ((List.pairwise_cons.1 h2).1 z hz)
theorem good_iffF {l : List Fix} : mayF l = true ↔ GoodF l := by
  rw [mayF_iff]
  constructor
  · intro h
    constructor
    · intro x hx
      obtain ⟨j, hj, e⟩ := List.getElem_of_mem hx
      have k := h j hj
      unfold okAtF at k
      rw [List.getElem?_eq_getElem hj] at k
      simp only [Bool.and_eq_true] at k
      rw [e] at k
      exact k.1
    · refine chain_lt fun j x y hx hy => ?_
      obtain ⟨hj, e⟩ := List.getElem?_eq_some_iff.1 hy
      have k := h (j + 1) hj
      unfold okAtF at k
      rw [hy] at k
      simp only [Bool.and_eq_true, Nat.add_sub_cancel, hx] at k
      rcases Bool.or_eq_true_iff.1 k.2 with k | k
      · exact absurd (of_decide_eq_true k) (by omega)
      · exact k
  · rintro ⟨h1, h2⟩ j hj
    unfold okAtF
    rw [List.getElem?_eq_getElem hj]
    simp only [Bool.and_eq_true]
    refine ⟨h1 _ (List.getElem_mem hj), ?_⟩
    by_cases h0 : j = 0
    · rw [decide_eq_true h0]; rfl
    · rw [decide_eq_false h0, Bool.false_or, List.getElem?_eq_getElem (by omega)]
      exact List.pairwise_iff_getElem.1 h2 (j - 1) j (by omega) hj (by omega)
theorem mayF_no {l : List Fix} (h : ¬ GoodF l) : mayF l = false := by
  cases e : mayF l with
  | false => rfl
  | true => exact absurd (good_iffF.1 e) h

/-! The place of an asset and day. -/
def rankF (l : List Fix) (k : FK) : Nat := l.countP fun x => lessF x.1 k
theorem rankF_le (l : List Fix) (k : FK) : rankF l k ≤ l.length := List.countP_le_length
theorem less_mono {l : List Fix} (h : l.Pairwise fun x y => lessF x.1 y.1 = true) {k : FK} {i j : Nat} {x y : Fix} (hij : i ≤ j) (hx : l[i]? = some x) (hy : l[j]? = some y) (ha : lessF y.1 k = true) : lessF x.1 k = true := by
  rcases Nat.lt_or_eq_of_le hij with c | c
  · obtain ⟨hi, rfl⟩ := List.getElem?_eq_some_iff.1 hx
    obtain ⟨hj, rfl⟩ := List.getElem?_eq_some_iff.1 hy
    exact lt_trans (List.pairwise_iff_getElem.1 h i j hi hj c) ha
  · subst c; rw [hx] at hy; obtain rfl := Option.some.inj hy; exact ha
theorem rankF_bound {l : List Fix} {k : FK} {i : Nat} (hi : i ≤ l.length) (h1 : ∀ t x, t < i → l[t]? = some x → lessF x.1 k = true) (h2 : ∀ t x, i ≤ t → l[t]? = some x → lessF x.1 k = false) : i = rankF l k := by
  unfold rankF
  have e : l.take i ++ l.drop i = l := List.take_append_drop _ _
  rw [← e, List.countP_append]
  rw [List.countP_eq_length.2 fun x hx => by
    obtain ⟨t, ht⟩ := List.mem_iff_getElem?.1 hx
    have hlt : t < i := by
      have := (List.getElem?_eq_some_iff.1 ht).1
      rw [List.length_take] at this; omega
    rw [List.getElem?_take_of_lt hlt] at ht
    exact h1 t x hlt ht]
  rw [List.countP_eq_zero.2 fun x hx => by
    obtain ⟨t, ht⟩ := List.mem_iff_getElem?.1 hx
    rw [List.getElem?_drop] at ht
    rw [h2 (i + t) x (by omega) ht]; decide]
  rw [List.length_take]; omega
/-- Ahead of the place all is ahead, from it on nothing is. -/
theorem rank_at {l : List Fix} (h : l.Pairwise fun x y => lessF x.1 y.1 = true) (k : FK) : (∀ t x, t < rankF l k → l[t]? = some x → lessF x.1 k = true) ∧ ∀ t x, rankF l k ≤ t → l[t]? = some x → lessF x.1 k = false := by
  induction l with
  | nil => exact ⟨(fun t x _ hx => by cases hx), (fun t x _ hx => by cases hx)⟩
  | cons a r ih =>
    obtain ⟨hp, hr⟩ := List.pairwise_cons.1 h
    obtain ⟨i1, i2⟩ := ih hr
    cases ha : lessF a.1 k with
    | true =>
      have e : rankF (a :: r) k = rankF r k + 1 := by unfold rankF; rw [List.countP_cons, ha]; rfl
      rw [e]
      constructor
      · intro t x ht hx
        cases t with
        | zero => obtain rfl := Option.some.inj hx; exact ha
        | succ t => exact i1 t x (by omega) hx
      · intro t x ht hx
        cases t with
        | zero => omega
        | succ t => exact i2 t x (by omega) hx
    | false =>
      have hz : ∀ x ∈ r, lessF x.1 k = false := fun x hx => by
        cases c : lessF x.1 k with
        | false => rfl
        | true => have := lt_trans (hp x hx) c; rw [ha] at this; cases this
      have e : rankF (a :: r) k = 0 := by
        unfold rankF
        rw [List.countP_cons, ha, List.countP_eq_zero.2 fun x hx => by rw [hz x hx]; decide]; rfl
      rw [e]
      constructor
      · intro t x ht; omega
      · intro t x _ hx
        cases t with
        | zero => obtain rfl := Option.some.inj hx; exact ha
        | succ t => exact hz x (List.mem_of_getElem? hx)
/-- Is the fix at the place that of the asset and day? -/
def thereF (l : List Fix) (k : FK) : Bool := match l[rankF l k]? with | some x => x.1 == k | none => false
theorem there_some {l : List Fix} {k : FK} (h : thereF l k = true) : ∃ x, l[rankF l k]? = some x ∧ x.1 = k := by
  unfold thereF at h
  cases e : l[rankF l k]? with
  | none => rw [e] at h; cases h
  | some x => rw [e] at h; exact ⟨x, rfl, beq_iff_eq.1 h⟩
theorem there_not {l : List Fix} (hp : l.Pairwise fun x y => lessF x.1 y.1 = true) {k : FK} (h : thereF l k = false) : ∀ x ∈ l, x.1 ≠ k := fun x hx e => by
  obtain ⟨j, hj, rfl⟩ := List.getElem_of_mem hx
  obtain ⟨r1, r2⟩ := rank_at hp k
  have hr : j = rankF l k := rankF_bound (Nat.le_of_lt hj)
    (fun t y ht hy => by
      obtain ⟨ht', rfl⟩ := List.getElem?_eq_some_iff.1 hy
      rw [← e]; exact List.pairwise_iff_getElem.1 hp t j ht' hj ht)
    (fun t y ht hy => by
      obtain ⟨ht', rfl⟩ := List.getElem?_eq_some_iff.1 hy
      rcases Nat.lt_or_eq_of_le ht with c | c
      · rw [← e]; exact lt_asym (List.pairwise_iff_getElem.1 hp j t hj ht' c)
      · subst c; rw [e]; exact lt_irrefl k)
  unfold thereF at h
  rw [← hr, List.getElem?_eq_getElem hj] at h
  have h : (l[j].1 == k) = false := h
  rw [beq_iff_eq.2 e] at h; cases h

/-! What there is of an asset and day. -/
def rawF (l : List Fix) (k : FK) : Option Key := (l.find? fun x => x.1 == k).map (·.2)
def getF (l : List Fix) (k : FK) : Option Key := if mayF l then rawF l k else none
theorem uniq {l : List Fix} (hp : l.Pairwise fun x y => lessF x.1 y.1 = true) {x y : Fix} (hx : x ∈ l) (hy : y ∈ l) (e : x.1 = y.1) : x = y := by
  obtain ⟨i, hi, rfl⟩ := List.getElem_of_mem hx
  obtain ⟨j, hj, rfl⟩ := List.getElem_of_mem hy
  rcases Nat.lt_trichotomy i j with c | c | c
  · exact absurd e (lt_ne (List.pairwise_iff_getElem.1 hp i j hi hj c))
  · subst c; rfl
  · exact absurd e.symm (lt_ne (List.pairwise_iff_getElem.1 hp j i hj hi c))
theorem raw_in {l : List Fix} (hp : l.Pairwise fun x y => lessF x.1 y.1 = true) {x : Fix} (hx : x ∈ l) : rawF l x.1 = some x.2 := by
  unfold rawF
  cases e : l.find? fun y => y.1 == x.1 with
  | none => exact absurd (List.find?_eq_none.1 e x hx) (by simp)
  | some z =>
    have ez : z.1 = x.1 := by simpa using List.find?_some e
    rw [uniq hp (List.mem_of_find?_eq_some e) hx ez]; rfl
theorem raw_no {l : List Fix} {k : FK} (h : ∀ x ∈ l, x.1 ≠ k) : rawF l k = none := by
  unfold rawF
  rw [List.find?_eq_none.2 fun x hx => by simpa using h x hx]; rfl
theorem raw_some {l : List Fix} {k : FK} {q : Key} (h : rawF l k = some q) : (k, q) ∈ l := by
  unfold rawF at h
  cases e : l.find? fun y => y.1 == k with
  | none => rw [e] at h; cases h
  | some z =>
    rw [e] at h
    have ez : z.1 = k := by simpa using List.find?_some e
    have eq : z.2 = q := Option.some.inj h
    have := List.mem_of_find?_eq_some e
    rw [← ez, ← eq]; exact this
theorem raw_there {l : List Fix} (hp : l.Pairwise fun x y => lessF x.1 y.1 = true) (k : FK) : (rawF l k).isSome = thereF l k := by
  cases e : thereF l k with
  | true =>
    obtain ⟨x, hx, rfl⟩ := there_some e
    rw [raw_in hp (List.mem_of_getElem? hx)]; rfl
  | false => rw [raw_no (there_not hp e)]; rfl
/-- The latest one up to a day. -/
def satF (k : FK) (x : Fix) : Bool := (x.1.1 == k.1) && decide (x.1.2 ≤ k.2)
def lateF (l : List Fix) (k : FK) : Option Key := ((l.filter (satF k)).getLast?).map (·.2)
def lastF (l : List Fix) (k : FK) : Option Key := if mayF l then lateF l k else none
theorem late_more {l : List Fix} {x : Fix} {k : FK} : lateF (l ++ [x]) k = if satF k x then some x.2 else lateF l k := by
  unfold lateF
  rw [List.filter_append]
  cases h : satF k x with
  | true => rw [List.filter_cons_of_pos h]; simp
  | false => rw [List.filter_cons_of_neg (by rw [h]; decide)]; simp
theorem late_step {l : List Fix} {i : Nat} {x : Fix} {k : FK} (hx : l[i]? = some x) : lateF (l.take (i + 1)) k = if satF k x then some x.2 else lateF (l.take i) k := by
  rw [List.take_add_one, hx]; exact late_more
theorem late_none {l : List Fix} {k : FK} (h : ∀ x ∈ l, satF k x = false) : lateF l k = none := by
  unfold lateF
  rw [List.filter_eq_nil_iff.2 fun x hx => by rw [h x hx]; decide]; rfl
theorem late_at {l : List Fix} {k : FK} {j : Nat} {x : Fix} (hx : l[j]? = some x) (hs : satF k x = true) (hn : ∀ t y, j < t → l[t]? = some y → satF k y = false) : lateF l k = some x.2 := by
  have e : l = l.take j ++ (x :: l.drop (j + 1)) := by
    obtain ⟨hj, rfl⟩ := List.getElem?_eq_some_iff.1 hx
    rw [← List.drop_eq_getElem_cons hj, List.take_append_drop]
  have hd : (l.drop (j + 1)).filter (satF k) = [] := List.filter_eq_nil_iff.2 fun y hy => by
    obtain ⟨t, ht⟩ := List.mem_iff_getElem?.1 hy
    rw [List.getElem?_drop] at ht
    rw [hn (j + 1 + t) y (by omega) ht]; decide
  unfold lateF
  rw [e, List.filter_append, List.filter_cons_of_pos hs, hd]
  simp
theorem sat_iff {k : FK} {x : Fix} : satF k x = true ↔ x.1.1 = k.1 ∧ x.1.2 ≤ k.2 := by
  unfold satF; rw [Bool.and_eq_true, beq_iff_eq, decide_eq_true_eq]
theorem sat_ahead {k : FK} {x : Fix} (h : satF k x = true) : lessF x.1 k = true ∨ x.1 = k := by
  obtain ⟨h1, h2⟩ := sat_iff.1 h
  rcases lt_cases x.1 k with c | c | c
  · exact .inl c
  · exact .inr c
  · exfalso
    unfold lessF at c
    rw [h1, less_irrefl, beq_self_eq_true] at c
    simp at c
    omega
/-- By the place: what stands there, or just ahead of it. -/
theorem late_there {l : List Fix} (hp : l.Pairwise fun x y => lessF x.1 y.1 = true) {k : FK} {x : Fix} (hx : l[rankF l k]? = some x) (e : x.1 = k) : lateF l k = some x.2 := by
  refine late_at hx (sat_iff.2 ⟨by rw [e], by rw [e]; exact Int.le_refl _⟩) fun t y ht hy => ?_
  cases c : satF k y with
  | false => rfl
  | true =>
    obtain ⟨h1, h2⟩ := List.getElem?_eq_some_iff.1 hx
    obtain ⟨h3, h4⟩ := List.getElem?_eq_some_iff.1 hy
    have := List.pairwise_iff_getElem.1 hp _ t h1 h3 ht
    rw [h2, h4, e] at this
    rcases sat_ahead c with d | d
    · rw [lt_asym this] at d; cases d
    · exact absurd d.symm (lt_ne this)
theorem sat_lt {l : List Fix} (hp : l.Pairwise fun x y => lessF x.1 y.1 = true) {k : FK} (hn : thereF l k = false) {t : Nat} {y : Fix} (hy : l[t]? = some y) (hs : satF k y = true) : t < rankF l k := by
  rcases Nat.lt_or_ge t (rankF l k) with c | c
  · exact c
  · exfalso
    have h2 := (rank_at hp k).2 t y c hy
    rcases sat_ahead hs with d | d
    · rw [h2] at d; cases d
    · exact there_not hp hn y (List.mem_of_getElem? hy) d
theorem late_0 {l : List Fix} (hp : l.Pairwise fun x y => lessF x.1 y.1 = true) {k : FK} (hn : thereF l k = false) (h0 : rankF l k = 0) : lateF l k = none :=
  late_none fun x hx => by
    cases c : satF k x with
    | false => rfl
    | true =>
      obtain ⟨t, ht⟩ := List.mem_iff_getElem?.1 hx
      have := sat_lt hp hn ht c
      omega
theorem late_yes {l : List Fix} (hp : l.Pairwise fun x y => lessF x.1 y.1 = true) {k : FK} (hn : thereF l k = false) {m : Nat} (hm : rankF l k = m + 1) {x : Fix} (hx : l[m]? = some x) (e : x.1.1 = k.1) : lateF l k = some x.2 := by
  have ha := (rank_at hp k).1 m x (by omega) hx
  refine late_at hx (sat_iff.2 ⟨e, ?_⟩) fun t y ht hy => ?_
  · unfold lessF at ha
    rw [e, less_irrefl, beq_self_eq_true] at ha
    simp at ha
    omega
  · cases c : satF k y with
    | false => rfl
    | true => have := sat_lt hp hn hy c; omega
theorem late_not {l : List Fix} (hp : l.Pairwise fun x y => lessF x.1 y.1 = true) {k : FK} (hn : thereF l k = false) {m : Nat} (hm : rankF l k = m + 1) {x : Fix} (hx : l[m]? = some x) (e : x.1.1 ≠ k.1) : lateF l k = none :=
  late_none fun y hy => by
    cases c : satF k y with
    | false => rfl
    | true =>
      exfalso
      obtain ⟨t, ht⟩ := List.mem_iff_getElem?.1 hy
      have h1 := sat_lt hp hn ht c
      have ha := (rank_at hp k).1 m x (by omega) hx
      have he := (sat_iff.1 c).1
      rcases Nat.lt_or_eq_of_le (show t ≤ m by omega) with d | d
      · obtain ⟨g1, g2⟩ := List.getElem?_eq_some_iff.1 ht
        obtain ⟨g3, g4⟩ := List.getElem?_eq_some_iff.1 hx
        have hb := List.pairwise_iff_getElem.1 hp t m g1 g3 d
        rw [g2, g4] at hb
        unfold lessF at ha hb
        simp only [Bool.or_eq_true, Bool.and_eq_true, beq_iff_eq] at ha hb
        rcases ha with ha | ha
        · rcases hb with hb | hb
          · have := less_trans hb ha; rw [he, less_irrefl] at this; cases this
          · exact e (hb.1.symm.trans he)
        · exact e ha.1
      · subst d
        rw [hx] at ht
        obtain rfl := Option.some.inj ht
        exact e he

/-! A fix more. -/
def insF : List Fix → Fix → List Fix
  | [], f => [f]
  | x :: r, f => if lessF x.1 f.1 then x :: insF r f else f :: x :: r
theorem ins_all : ∀ {l : List Fix} (m : List Fix) {f : Fix}, (∀ x ∈ l, lessF x.1 f.1 = true) → insF (l ++ m) f = l ++ insF m f
  | [], _, _, _ => rfl
  | x :: r, m, f, h => by
    show (if lessF x.1 f.1 then x :: insF (r ++ m) f else _) = _
    rw [if_pos (h x (List.mem_cons_self ..)), ins_all m fun y hy => h y (List.mem_cons_of_mem _ hy)]; rfl
theorem ins_any : ∀ {l : List Fix} (m : List Fix) {f : Fix}, (∃ x ∈ l, lessF x.1 f.1 = false) → insF (l ++ m) f = insF l f ++ m
  | [], _, _, h => by obtain ⟨x, hx, _⟩ := h; cases hx
  | x :: r, m, f, h => by
    show (if lessF x.1 f.1 then x :: insF (r ++ m) f else f :: x :: (r ++ m)) = (if lessF x.1 f.1 then x :: insF r f else f :: x :: r) ++ m
    cases c : lessF x.1 f.1 with
    | false => rfl
    | true =>
      rw [if_pos rfl, if_pos rfl, ins_any m (by
        obtain ⟨y, hy, e⟩ := h
        rcases List.mem_cons.1 hy with rfl | hy
        · rw [c] at e; cases e
        · exact ⟨y, hy, e⟩)]; rfl
theorem ins_len : ∀ (l : List Fix) (f : Fix), (insF l f).length = l.length + 1
  | [], _ => rfl
  | x :: r, f => by
    show (if lessF x.1 f.1 then x :: insF r f else f :: x :: r).length = _
    split
    · rw [List.length_cons, ins_len r f]; rfl
    · rfl
theorem ins_mem : ∀ {l : List Fix} {f y : Fix}, y ∈ insF l f ↔ y = f ∨ y ∈ l
  | [], f, y => by show y ∈ [f] ↔ _; simp
  | x :: r, f, y => by
    show y ∈ (if lessF x.1 f.1 then x :: insF r f else f :: x :: r) ↔ _
    split
    · rw [List.mem_cons, ins_mem, List.mem_cons]
      constructor
      · rintro (h | h | h)
        · exact .inr (.inl h)
        · exact .inl h
        · exact .inr (.inr h)
      · rintro (h | h | h)
        · exact .inr (.inl h)
        · exact .inl h
        · exact .inr (.inr h)
    · rw [List.mem_cons]
theorem ins_pair : ∀ {l : List Fix} {f : Fix}, l.Pairwise (fun x y => lessF x.1 y.1 = true) → (∀ x ∈ l, x.1 ≠ f.1) → (insF l f).Pairwise fun x y => lessF x.1 y.1 = true
  | [], f, _, _ => List.pairwise_singleton _ _
  | x :: r, f, h, hn => by
    obtain ⟨h1, h2⟩ := List.pairwise_cons.1 h
    show (if lessF x.1 f.1 then x :: insF r f else f :: x :: r).Pairwise _
    cases c : lessF x.1 f.1 with
    | true =>
      rw [if_pos rfl]
      refine List.Pairwise.cons (fun y hy => ?_) (ins_pair h2 fun y hy => hn y (List.mem_cons_of_mem _ hy))
      rcases ins_mem.1 hy with rfl | hy
      · exact c
      · exact h1 y hy
    | false =>
      rw [if_neg (by decide)]
      have hf : lessF f.1 x.1 = true := by
        rcases lt_cases x.1 f.1 with d | d | d
        · rw [c] at d; cases d
        · exact absurd d (hn x (List.mem_cons_self ..))
        · exact d
      refine List.Pairwise.cons (fun y hy => ?_) h
      rcases List.mem_cons.1 hy with rfl | hy
      · exact hf
      · exact lt_trans hf (h1 y hy)
theorem ins_good {l : List Fix} {f : Fix} (h : GoodF l) (hf : okF f = true) (hn : ∀ x ∈ l, x.1 ≠ f.1) : GoodF (insF l f) :=
  ⟨fun x hx => (ins_mem.1 hx).elim (fun e => e ▸ hf) (h.1 x), ins_pair h.2 hn⟩
/-- By the place. -/
theorem ins_place {l : List Fix} (hp : l.Pairwise fun x y => lessF x.1 y.1 = true) (f : Fix) : insF l f = l.take (rankF l f.1) ++ (f :: l.drop (rankF l f.1)) := by
  obtain ⟨h1, h2⟩ := rank_at hp f.1
  have e := ins_all (l := l.take (rankF l f.1)) (l.drop (rankF l f.1)) (f := f) fun x hx => by
    obtain ⟨t, ht⟩ := List.mem_iff_getElem?.1 hx
    have hlt : t < rankF l f.1 := by
      have := (List.getElem?_eq_some_iff.1 ht).1
      rw [List.length_take] at this; omega
    rw [List.getElem?_take_of_lt hlt] at ht
    exact h1 t x hlt ht
  rw [List.take_append_drop] at e
  rw [e]
  congr 1
  cases hd : l.drop (rankF l f.1) with
  | nil => rfl
  | cons y r =>
    have hy : l[rankF l f.1]? = some y := by
      have := List.getElem?_drop (xs := l) (i := rankF l f.1) (j := 0)
      rw [hd] at this
      exact this.symm
    show (if lessF y.1 f.1 then y :: insF r f else f :: y :: r) = _
    rw [h2 _ y (Nat.le_refl _) hy]; rfl
/-- One of that asset and day makes it none. -/
theorem ins_bad {l : List Fix} {f : Fix} (h : ∃ x ∈ l, x.1 = f.1) : ¬ GoodF (insF l f) := fun hg => by
  obtain ⟨x, hx, e⟩ := h
  have h1 : x ∈ insF l f := ins_mem.2 (.inr hx)
  have h2 : f ∈ insF l f := ins_mem.2 (.inl rfl)
  have hu := uniq hg.2 h1 h2 e
  subst hu
  -- the fix stands there twice
  have key : ∀ {l : List Fix}, x ∈ l → ¬ (insF l x).Pairwise fun a b => lessF a.1 b.1 = true := by
    intro l
    induction l with
    | nil => intro h; cases h
    | cons y r ih =>
      intro hx hp
      have hp : (if lessF y.1 x.1 then y :: insF r x else x :: y :: r).Pairwise (fun a b => lessF a.1 b.1 = true) := hp
      cases c : lessF y.1 x.1 with
      | true =>
        rw [c, if_pos rfl] at hp
        rcases List.mem_cons.1 hx with rfl | hx
        · rw [lt_irrefl] at c; cases c
        · exact ih hx (List.pairwise_cons.1 hp).2
      | false =>
        rw [c, if_neg (by decide)] at hp
        have := (List.pairwise_cons.1 hp).1 x hx
        rw [lt_irrefl] at this; cases this
  exact key hx hg.2
def setF (l : List Fix) (f : Fix) : Option (List Fix) := if mayF l && mayF (insF l f) then some (insF l f) else none
theorem set_no {l : List Fix} {f : Fix} (h : mayF l = false) : setF l f = none := by unfold setF; rw [h]; rfl
theorem set_bad {l : List Fix} {f : Fix} (h : okF f = false) : setF l f = none := by
  have : mayF (insF l f) = false := mayF_no fun hg => by
    have := hg.1 f (ins_mem.2 (.inl rfl)); rw [h] at this; cases this
  unfold setF; rw [this, Bool.and_false]; rfl
theorem set_has {l : List Fix} {f : Fix} (h : ∃ x ∈ l, x.1 = f.1) : setF l f = none := by
  unfold setF; rw [mayF_no (ins_bad h), Bool.and_false]; rfl
theorem set_yes {l : List Fix} {f : Fix} (h : GoodF l) (hf : okF f = true) (hn : ∀ x ∈ l, x.1 ≠ f.1) : setF l f = some (insF l f) := by
  unfold setF; rw [good_iffF.2 h, good_iffF.2 (ins_good h hf hn)]; rfl
theorem set_some {l m : List Fix} {f : Fix} (h : setF l f = some m) : m = insF l f ∧ GoodF l ∧ GoodF m ∧ okF f = true ∧ ∀ x ∈ l, x.1 ≠ f.1 := by
  unfold setF at h
  cases c : mayF l && mayF (insF l f) with
  | false => rw [c] at h; cases h
  | true =>
    rw [c] at h
    obtain rfl := Option.some.inj h
    obtain ⟨c1, c2⟩ := Bool.and_eq_true_iff.1 c
    have g2 := good_iffF.1 c2
    exact ⟨rfl, good_iffF.1 c1, g2, g2.1 f (ins_mem.2 (.inl rfl)), fun x hx e => ins_bad ⟨x, hx, e⟩ g2⟩
theorem set_isSome {l : List Fix} (h : GoodF l) {f : Fix} (hf : okF f = true) : (setF l f).isSome = !(getF l f.1).isSome := by
  unfold getF
  rw [good_iffF.2 h, if_pos rfl, raw_there h.2]
  cases e : thereF l f.1 with
  | true =>
    obtain ⟨x, hx, k⟩ := there_some e
    rw [set_has ⟨x, List.mem_of_getElem? hx, k⟩]; rfl
  | false => rw [set_yes h hf (there_not h.2 e)]; rfl
/-- Good tables are told by what is in them. -/
theorem good_extF : ∀ {l m : List Fix}, l.Pairwise (fun x y => lessF x.1 y.1 = true) → m.Pairwise (fun x y => lessF x.1 y.1 = true) → (∀ x, x ∈ l ↔ x ∈ m) → l = m
  | [], [], _, _, _ => rfl
  | [], y :: s, _, _, h => absurd ((h y).2 (List.mem_cons_self ..)) List.not_mem_nil
  | x :: r, [], _, _, h => absurd ((h x).1 (List.mem_cons_self ..)) List.not_mem_nil
  | x :: r, y :: s, hl, hm, h => by
    obtain ⟨h1, h2⟩ := List.pairwise_cons.1 hl
    obtain ⟨m1, m2⟩ := List.pairwise_cons.1 hm
    have e : x = y := by
      rcases List.mem_cons.1 ((h x).1 (List.mem_cons_self ..)) with e | e
      · exact e
      · rcases List.mem_cons.1 ((h y).2 (List.mem_cons_self ..)) with d | d
        · exact d.symm
        · have a := h1 y d
          have b := m1 x e
          rw [lt_asym a] at b; cases b
    subst e
    rw [good_extF h2 m2 fun z => ?_]
    constructor
    · intro hz
      rcases List.mem_cons.1 ((h z).1 (List.mem_cons_of_mem _ hz)) with rfl | d
      · have := h1 z hz; rw [lt_irrefl] at this; cases this
      · exact d
    · intro hz
      rcases List.mem_cons.1 ((h z).2 (List.mem_cons_of_mem _ hz)) with rfl | d
      · have := m1 z hz; rw [lt_irrefl] at this; cases this
      · exact d
/-- Two are set in any order the same. -/
theorem set_comm {l a b : List Fix} {f g : Fix} (ha : setF l f = some a) (hb : setF a g = some b) : ∃ c, setF l g = some c ∧ setF c f = some b := by
  obtain ⟨rfl, gl, ga, hf, nf⟩ := set_some ha
  obtain ⟨rfl, _, gb, hg, ng⟩ := set_some hb
  have n1 : ∀ x ∈ l, x.1 ≠ g.1 := fun x hx => ng x (ins_mem.2 (.inr hx))
  have n2 : f.1 ≠ g.1 := ng f (ins_mem.2 (.inl rfl))
  have gc := ins_good gl hg n1
  have n3 : ∀ x ∈ insF l g, x.1 ≠ f.1 := fun x hx => by
    rcases ins_mem.1 hx with rfl | hx
    · exact n2.symm
    · exact nf x hx
  refine ⟨insF l g, set_yes gl hg n1, ?_⟩
  rw [set_yes gc hf n3, good_extF (ins_good gc hf n3).2 gb.2 fun x => ?_]
  rw [ins_mem, ins_mem, ins_mem, ins_mem]
  constructor
  · rintro (h | h | h)
    · exact .inr (.inl h)
    · exact .inl h
    · exact .inr (.inr h)
  · rintro (h | h | h)
    · exact .inr (.inl h)
    · exact .inl h
    · exact .inr (.inr h)
theorem get_in {l : List Fix} (h : GoodF l) {x : Fix} (hx : x ∈ l) : getF l x.1 = some x.2 := by
  unfold getF; rw [good_iffF.2 h]; exact raw_in h.2 hx

/-! Up to a day, and the day ahead. -/
theorem late_day {l : List Fix} (h : GoodF l) (a : List UInt8) (d : Int) : lastF l (a, d) = (match getF l (a, d) with | some q => some q | none => lastF l (a, d - 1)) := by
  unfold lastF getF
  rw [good_iffF.2 h, if_pos rfl, if_pos rfl, if_pos rfl]
  cases e : thereF l (a, d) with
  | true =>
    obtain ⟨x, hx, k⟩ := there_some e
    have e1 := raw_in h.2 (List.mem_of_getElem? hx)
    rw [k] at e1
    rw [e1, late_there h.2 hx k]
  | false =>
    have hn := there_not h.2 e
    rw [raw_no hn]
    show lateF l (a, d) = lateF l (a, d - 1)
    unfold lateF
    congr 2
    refine List.filter_congr fun x hx => ?_
    have := hn x hx
    unfold satF
    dsimp only
    cases c : x.1.1 == a with
    | false => rfl
    | true =>
      rw [Bool.true_and, Bool.true_and]
      have : x.1.2 ≠ d := fun k => this (Prod.ext (by simpa using c) k)
      by_cases k : x.1.2 ≤ d
      · rw [decide_eq_true k, decide_eq_true (by omega)]
      · rw [decide_eq_false k, decide_eq_false (by omega)]
theorem late_neg {l : List Fix} (h : GoodF l) (a : List UInt8) {d : Int} (hd : d < 0) : lastF l (a, d) = none := by
  unfold lastF
  rw [good_iffF.2 h, if_pos rfl]
  refine late_none fun x hx => ?_
  have := h.1 x hx
  unfold okF at this
  simp only [Bool.and_eq_true, decide_eq_true_eq] at this
  unfold satF
  rw [decide_eq_false (show ¬ x.1.2 ≤ d by omega), Bool.and_false]

/-! So many days. -/
def manyF (a : List UInt8) : Nat → Nat → List Fix
  | _, 0 => []
  | i, c + 1 => ((a, ((i + 1 : Nat) : Int)), (wd ((i + 1 : Nat) : Int), [49])) :: manyF a (i + 1) c
theorem many_len (a : List UInt8) : ∀ i c, (manyF a i c).length = c
  | _, 0 => rfl
  | i, c + 1 => by show (manyF a (i + 1) c).length + 1 = _; rw [many_len a (i + 1) c]
theorem many_at (a : List UInt8) : ∀ (c i j : Nat), j < c → (manyF a i c)[j]? = some ((a, ((i + j + 1 : Nat) : Int)), (wd ((i + j + 1 : Nat) : Int), [49]))
  | 0, _, _, h => absurd h (Nat.not_lt_zero _)
  | c + 1, i, 0, _ => rfl
  | c + 1, i, j + 1, h => by
    show (manyF a (i + 1) c)[j]? = _
    rw [many_at a c (i + 1) j (by omega), show i + 1 + j + 1 = i + (j + 1) + 1 by omega]
theorem many_mem (a : List UInt8) {i c : Nat} {x : Fix} (h : x ∈ manyF a i c) : ∃ j, i < j ∧ j ≤ i + c ∧ x = ((a, (j : Int)), (wd (j : Int), [49])) := by
  obtain ⟨t, ht⟩ := List.mem_iff_getElem?.1 h
  have hl := (List.getElem?_eq_some_iff.1 ht).1
  rw [many_len] at hl
  rw [many_at a c i t hl] at ht
  exact ⟨i + t + 1, by omega, by omega, (Option.some.inj ht).symm⟩
theorem one_isR (n : Int) : isR (wd n, [49]) = true := by
  have h := isR_rd (n : Rat)
  have e : rd (n : Rat) = (wd n, [49]) := by
    show (wd (n : Rat).num, dig (n : Rat).den) = _
    rw [show (n : Rat).num = n from rfl, show (n : Rat).den = 1 from rfl, dig_1]
  rw [e] at h; exact h
theorem many_good {a : List UInt8} (ha : isName a = true) : ∀ (c i : Nat), i + c ≤ 9999 → GoodF (manyF a i c)
  | 0, _, _ => ⟨(fun x h => by cases h), List.Pairwise.nil⟩
  | c + 1, i, h => by
    obtain ⟨h1, h2⟩ := many_good ha c (i + 1) (by omega)
    refine ⟨fun x hx => ?_, List.Pairwise.cons (fun y hy => ?_) h2⟩
    · obtain ⟨j, hj, hk, rfl⟩ := many_mem a hx
      unfold okF
      dsimp only
      rw [ha, one_isR, decide_eq_true (show (0 : Int) ≤ (j : Int) by omega), decide_eq_true (show (j : Int) ≤ 9999 by omega)]; rfl
    · obtain ⟨j, hj, hk, rfl⟩ := many_mem a hy
      unfold lessF
      dsimp only
      rw [beq_self_eq_true, decide_eq_true (show (((i + 1 : Nat) : Int)) < (j : Int) by omega), Bool.true_and, Bool.or_true]
theorem many_set {a : List UInt8} (ha : isName a = true) {i c : Nat} (h : i + (c + 1) ≤ 9999) : setF (manyF a (i + 1) c) ((a, ((i + 1 : Nat) : Int)), (wd ((i + 1 : Nat) : Int), [49])) = some (manyF a i (c + 1)) := by
  have g := many_good ha (c + 1) i h
  have gp := List.pairwise_cons.1 g.2
  have e : insF (manyF a (i + 1) c) ((a, ((i + 1 : Nat) : Int)), (wd ((i + 1 : Nat) : Int), [49])) = manyF a i (c + 1) := by
    cases c with
    | zero => rfl
    | succ c =>
      show (if lessF (a, ((i + 1 + 1 : Nat) : Int)) (a, ((i + 1 : Nat) : Int)) then _ else _) = _
      have : lessF (a, ((i + 1 + 1 : Nat) : Int)) (a, ((i + 1 : Nat) : Int)) = false := by
        unfold lessF
        dsimp only
        rw [less_irrefl, decide_eq_false (by omega), Bool.and_false]; rfl
      rw [this]; rfl
  unfold setF
  rw [e, good_iffF.2 g, good_iffF.2 ⟨fun x hx => g.1 x (List.mem_cons_of_mem _ hx), gp.2⟩]; rfl
/-! The program's order. -/
def cmpZ (x y : Int) : Int := if x < y then -1 else if y < x then 1 else 0
def ordF (k l : FK) : Int := orZ (Lib.compareBytes k.1 l.1) (cmpZ k.2 l.2)
theorem ordF_lt {k l : FK} (h : lessF k l = true) : ordF k l = -1 := by
  unfold lessF at h
  unfold ordF orZ
  simp only [Bool.or_eq_true, Bool.and_eq_true, beq_iff_eq, decide_eq_true_eq] at h
  rcases h with h | ⟨h, h'⟩
  · rw [cmp_lt h]; rfl
  · rw [h, cmp_self, if_pos rfl]; unfold cmpZ; rw [if_pos h']
theorem ordF_self (k : FK) : ordF k k = 0 := by unfold ordF orZ cmpZ; rw [cmp_self, if_pos rfl, if_neg (Int.lt_irrefl _), if_neg (Int.lt_irrefl _)]
theorem ordF_gt {k l : FK} (h : lessF l k = true) : ordF k l = 1 := by
  unfold lessF at h
  unfold ordF orZ
  simp only [Bool.or_eq_true, Bool.and_eq_true, beq_iff_eq, decide_eq_true_eq] at h
  rcases h with h | ⟨h, h'⟩
  · rw [cmp_gt h]; rfl
  · rw [h, cmp_self, if_pos rfl]; unfold cmpZ; rw [if_neg (by omega), if_pos h']
theorem ordF_neg {k l : FK} : ordF k l < 0 ↔ lessF k l = true := by
  rcases lt_cases k l with h | h | h
  · rw [ordF_lt h]; exact ⟨fun _ => h, fun _ => by decide⟩
  · subst h; rw [ordF_self, lt_irrefl]; exact ⟨fun h => absurd h (by decide), fun h => by cases h⟩
  · rw [ordF_gt h, lt_asym h]; exact ⟨fun h => absurd h (by decide), fun h => by cases h⟩
theorem ordF_zero {k l : FK} : ordF k l = 0 ↔ k = l := by
  rcases lt_cases k l with h | h | h
  · rw [ordF_lt h]; exact ⟨fun h => absurd h (by decide), fun e => absurd e (lt_ne h)⟩
  · subst h; rw [ordF_self]; exact ⟨fun _ => rfl, fun _ => rfl⟩
  · rw [ordF_gt h]; exact ⟨fun h => absurd h (by decide), fun e => absurd e.symm (lt_ne h)⟩
theorem ordF_geq (k l : FK) : decide (0 ≤ ordF k l) = !lessF k l := by
  cases h : lessF k l with
  | true => rw [ordF_lt h]; rfl
  | false =>
    refine decide_eq_true ?_
    rcases Int.lt_or_le (ordF k l) 0 with c | c
    · rw [ordF_neg.1 c] at h; cases h
    · exact c
theorem thereF_of {l : List Fix} {k : FK} {x : Fix} {z : Int} (hx : l[rankF l k]? = some x) (hz : ordF x.1 k = z) : thereF l k = decide (z = 0) := by
  unfold thereF; rw [hx]
  show (x.1 == k) = _
  subst hz
  by_cases h : x.1 = k
  · rw [h, ordF_self]; simp
  · rw [beq_false_of_ne h, decide_eq_false (fun e => h (ordF_zero.1 e))]
theorem thereF_no {l : List Fix} {k : FK} (h : l.length ≤ rankF l k) : thereF l k = false := by
  unfold thereF; rw [List.getElem?_eq_none h]
end Fx
end Go.Proofs.YtmllklfjngapiaaDoor

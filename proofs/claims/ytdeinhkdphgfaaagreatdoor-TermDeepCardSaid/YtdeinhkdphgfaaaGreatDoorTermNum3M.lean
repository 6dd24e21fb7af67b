/- Plain terms: unlike ones have unlike prints; what a join comes to; sizes. Own work; no program text. -/
import Derived.Test.YtdeinhkdphgfaaaGreatDoorTermNum
namespace Go.Proofs.YtdeinhkdphgfaaaGreatDoor
set_option linter.unusedSimpArgs false
set_option linter.unusedVariables false
namespace Tm
theorem app_fn {c : UInt8} {h p q a a' b u v : List UInt8} (k : (h ++ ((p ++ c :: a) ++ b)) ++ u = (h ++ ((q ++ c :: a') ++ b)) ++ v) : p ++ c :: (a ++ (b ++ u)) = q ++ c :: (a' ++ (b ++ v)) := by
 simpa only [List.append_assoc, List.cons_append, List.append_cancel_left_eq] using k
theorem pr0 (x : Nd) : pr (.t0 x) = leafP x := rfl
theorem pr1 {x : Nd} {a : Tr} (h : x.op = 5) : pr (.t1 x a) = 40 :: 45 :: (pr a ++ [41]) := by
 show aboveP x.op [pr a] = _
 unfold aboveP; rw [if_pos h]; rfl
theorem pr2 {x : Nd} {a b : Tr} (h : 6 ≤ x.op) (h' : x.op ≤ 9) : pr (.t2 x a b) = 40 :: (pr a ++ 32 :: sgnO x.op :: 32 :: (pr b ++ [41])) := by
 show aboveP x.op [pr a, pr b] = _
 unfold aboveP; rw [if_neg (by omega), if_pos h']; rfl
theorem pr2f {x : Nd} {a b : Tr} (h : 9 < x.op) : pr (.t2 x a b) = fnH x.op ++ ((pr a ++ 44 :: 32 :: pr b) ++ [41]) := by
 show aboveP x.op [pr a, pr b] = _
 unfold aboveP; rw [if_neg (by omega), if_neg (by omega)]; rfl
theorem pr3 {x : Nd} {a b c : Tr} (h : x.op = 12) : pr (.t3 x a b c) = [105, 102, 40] ++ ((pr a ++ 44 :: 32 :: (pr b ++ 44 :: 32 :: pr c)) ++ [41]) := by
 show aboveP x.op [pr a, pr b, pr c] = _
 unfold aboveP; rw [if_neg (by omega), if_neg (by omega), h]; rfl
theorem leaf_head {x : Nd} (h : okN x = true) (ho : arN x.op = some 0) : ∃ c r, leafP x = c :: r ∧ c ≠ 45 := by
 rcases ops0 ho with e | e | e | e | e
 ·unfold leafP numP
  rw [if_pos e]
  cases hd : decB x.num with
  | true =>
   obtain ⟨h1, h2⟩ := dec_pt hd
   rw [if_pos rfl]
   cases hp : prS x.num with
   | nil => exact absurd hp h2
   | cons c r => exact ⟨c, r, rfl, fun k => by have := h1 c (by rw [hp]; exact List.mem_cons_self ..); rw [k] at this; cases this⟩
  | false => rw [if_neg (by decide)]; exact ⟨_, _, rfl, by decide⟩
 ·unfold leafP; rw [if_neg (by omega), if_pos e]; exact ⟨_, _, rfl, by decide⟩
 ·unfold leafP leafH; rw [if_neg (by omega), if_neg (by omega), if_pos e]; exact ⟨_, _, rfl, by decide⟩
 ·unfold leafP leafH; rw [if_neg (by omega), if_neg (by omega), if_neg (by omega), if_pos e]; exact ⟨_, _, rfl, by decide⟩
 ·unfold leafP leafH; rw [if_neg (by omega), if_neg (by omega), if_neg (by omega), if_neg (by omega)]; exact ⟨_, _, rfl, by decide⟩
theorem ok_t0 {x : Nd} (h : okT (.t0 x)) : okN x = true := h x (by simp [Tr.flat])
theorem ok_t1 {x : Nd} {a : Tr} (h : okT (.t1 x a)) : okN x = true ∧ okT a := ⟨h x (by simp [Tr.flat]), fun y hy => h y (by simp [Tr.flat, hy])⟩
theorem ok_t2 {x : Nd} {a b : Tr} (h : okT (.t2 x a b)) : okN x = true ∧ okT a ∧ okT b := ⟨h x (by simp [Tr.flat]), fun y hy => h y (by simp [Tr.flat, hy]), fun y hy => h y (by simp [Tr.flat, hy])⟩
theorem ok_t3 {x : Nd} {a b c : Tr} (h : okT (.t3 x a b c)) : okN x = true ∧ okT a ∧ okT b ∧ okT c := ⟨h x (by simp [Tr.flat]), fun y hy => h y (by simp [Tr.flat, hy]), fun y hy => h y (by simp [Tr.flat, hy]), fun y hy => h y (by simp [Tr.flat, hy])⟩
theorem pr_head : ∀ {t : Tr}, t.wf → okT t → ∃ c r, pr t = c :: r ∧ c ≠ 45
 | .t0 x, hw, ho => leaf_head (ok_t0 ho) hw
 | .t1 x a, hw, ho => by rw [pr1 (ops1 hw.1)]; exact ⟨_, _, rfl, by decide⟩
 | .t2 x a b, hw, ho => by
  have ho2 := ops2 hw.1
  by_cases h : x.op ≤ 9
  ·rw [pr2 (by omega) h]; exact ⟨_, _, rfl, by decide⟩
  ·rw [pr2f (by omega)]
   unfold fnH
   rcases ho2 with e | e | e | e | e | e
   ·omega
   ·omega
   ·omega
   ·omega
   ·rw [if_pos e]; exact ⟨_, _, rfl, by decide⟩
   ·rw [if_neg (by omega), if_pos e]; exact ⟨_, _, rfl, by decide⟩
 | .t3 x a b c, hw, ho => by rw [pr3 (ops3 hw.1)]; exact ⟨_, _, rfl, by decide⟩
theorem pr_ne {t : Tr} (hw : t.wf) (ho : okT t) : pr t ≠ [] := by obtain ⟨c, r, e, _⟩ := pr_head hw ho; rw [e]; exact fun k => by cases k
def kt : Tr → Nat
 | .t0 x => kl x
 | .t1 _ _ => 5
 | .t2 x _ _ => if x.op ≤ 9 then 6 else x.op.toNat
 | .t3 _ _ _ _ => 12
theorem kd_pr : ∀ {t : Tr}, t.wf → okT t → ∀ u, kd (pr t ++ u) = kt t
 | .t0 x, hw, ho, u => leaf_kd (ok_t0 ho) hw u
 | .t1 x a, hw, ho, u => by rw [pr1 (ops1 hw.1)]; rfl
 | .t2 x a b, hw, ho, u => by
  have ho2 := ops2 hw.1
  by_cases h : x.op ≤ 9
  ·rw [pr2 (by omega) h]
   obtain ⟨c, r, e, hc⟩ := pr_head hw.2.1 (ok_t2 ho).2.1
   rw [e]
   show kd (40 :: c :: _) = (if x.op ≤ 9 then 6 else x.op.toNat)
   rw [if_pos h]
   unfold kd
   rw [if_neg (by simp [hc])]
   rfl
  ·rw [pr2f (by omega)]
   show _ = (if x.op ≤ 9 then 6 else x.op.toNat)
   rw [if_neg h]
   unfold fnH
   rcases ho2 with e | e | e | e | e | e
   ·omega
   ·omega
   ·omega
   ·omega
   ·rw [if_pos e, e]; rfl
   ·rw [if_neg (by omega), if_pos e, e]; rfl
 | .t3 x a b c, hw, ho, u => by rw [pr3 (ops3 hw.1)]; rfl
theorem kl_lt {x : Nd} (ho : arN x.op = some 0) : kl x ≤ 4 ∨ kl x = 13 := by
 unfold kl
 rcases ops0 ho with e | e | e | e | e
 ·rw [if_pos e]; split <;> omega
 ·rw [if_neg (by omega)]; omega
 ·rw [if_neg (by omega)]; omega
 ·rw [if_neg (by omega)]; omega
 ·rw [if_neg (by omega)]; omega
theorem kt2 {x : Nd} {a b : Tr} (ho : arN x.op = some 2) : kt (.t2 x a b) = 6 ∨ kt (.t2 x a b) = 10 ∨ kt (.t2 x a b) = 11 := by
 show (if x.op ≤ 9 then 6 else x.op.toNat) = 6 ∨ (if x.op ≤ 9 then 6 else x.op.toNat) = 10 ∨ (if x.op ≤ 9 then 6 else x.op.toNat) = 11
 rcases ops2 ho with e | e | e | e | e | e
 ·rw [if_pos (by omega)]; omega
 ·rw [if_pos (by omega)]; omega
 ·rw [if_pos (by omega)]; omega
 ·rw [if_pos (by omega)]; omega
 ·rw [if_neg (by omega)]; omega
 ·rw [if_neg (by omega)]; omega
theorem sgnO_inj {m n : Int} (hm : 6 ≤ m) (hm' : m ≤ 9) (hn : 6 ≤ n) (hn' : n ≤ 9) (h : sgnO m = sgnO n) : m = n := by
 have a : m = 6 ∨ m = 7 ∨ m = 8 ∨ m = 9 := by omega
 have b : n = 6 ∨ n = 7 ∨ n = 8 ∨ n = 9 := by omega
 rcases a with rfl | rfl | rfl | rfl <;> rcases b with rfl | rfl | rfl | rfl <;> first | rfl | (exact absurd h (by decide))
theorem top_eq {x y : Nd} (hx : okN x = true) (hy : okN y = true) (h : x.op = y.op) (h5 : 5 ≤ x.op) : x = y := by
 rw [ok_more hx (.inr h5), ok_more hy (.inr (h ▸ h5)), h]
theorem pr_inj : ∀ (a b : Tr) (u v : List UInt8), a.wf → b.wf → okT a → okT b → sepB u = true → sepB v = true → pr a ++ u = pr b ++ v → a = b ∧ u = v := by
 intro a
 induction a with
 | t0 x =>
  intro b u v ha hb oa ob hu hv h
  have hk : kt (.t0 x) = kt b := (kd_pr ha oa u).symm.trans ((congrArg kd h).trans (kd_pr hb ob v))
  have l := kl_lt ha
  have hk : kl x = kt b := hk
  cases b with
  | t0 y =>
   obtain ⟨e1, e2⟩ := leaf_inj (ok_t0 oa) (ok_t0 ob) ha hb hu hv h
   exact ⟨by rw [e1], e2⟩
  | t1 y b1 => have : kl x = 5 := hk; omega
  | t2 y b1 b2 => have := kt2 (a := b1) (b := b2) hb.1; omega
  | t3 y b1 b2 b3 => have : kl x = 12 := hk; omega
 | t1 x a1 ih =>
  intro b u v ha hb oa ob hu hv h
  have hk : kt (.t1 x a1) = kt b := (kd_pr ha oa u).symm.trans ((congrArg kd h).trans (kd_pr hb ob v))
  have hk : 5 = kt b := hk
  cases b with
  | t0 y => have := kl_lt hb; have : 5 = kl y := hk; omega
  | t1 y b1 =>
   rw [pr1 (ops1 ha.1), pr1 (ops1 hb.1)] at h
   obtain ⟨_, h⟩ := List.cons.inj h
   obtain ⟨_, h⟩ := List.cons.inj h
   have h : (pr a1 ++ [41]) ++ u = (pr b1 ++ [41]) ++ v := h
   rw [List.append_assoc, List.append_assoc] at h
   obtain ⟨e1, e2⟩ := ih b1 _ _ ha.2 hb.2 (ok_t1 oa).2 (ok_t1 ob).2 rfl rfl h
   refine ⟨?_, (List.cons.inj e2).2⟩
   rw [e1, top_eq (ok_t1 oa).1 (ok_t1 ob).1 ((ops1 ha.1).trans (ops1 hb.1).symm) (by have := ops1 ha.1; omega)]
  | t2 y b1 b2 => have := kt2 (a := b1) (b := b2) hb.1; omega
  | t3 y b1 b2 b3 => have : 5 = 12 := hk; omega
 | t2 x a1 a2 ih1 ih2 =>
  intro b u v ha hb oa ob hu hv h
  have hk : kt (.t2 x a1 a2) = kt b := (kd_pr ha oa u).symm.trans ((congrArg kd h).trans (kd_pr hb ob v))
  have l := kt2 (a := a1) (b := a2) ha.1
  cases b with
  | t0 y => have := kl_lt hb; have : kt (.t2 x a1 a2) = kl y := hk; omega
  | t1 y b1 => have : kt (.t2 x a1 a2) = 5 := hk; omega
  | t2 y b1 b2 =>
   have ox := ops2 ha.1
   have oy := ops2 hb.1
   have hk : (if x.op ≤ 9 then 6 else x.op.toNat) = (if y.op ≤ 9 then 6 else y.op.toNat) := hk
   by_cases h9 : x.op ≤ 9
   ·have h9' : y.op ≤ 9 := by
     rw [if_pos h9] at hk
     split at hk
     ·assumption
     ·omega
    rw [pr2 (by omega) h9, pr2 (by omega) h9'] at h
    obtain ⟨_, h⟩ := List.cons.inj h
    have h := app_mid h
    obtain ⟨e1, e2⟩ := ih1 b1 _ _ ha.2.1 hb.2.1 (ok_t2 oa).2.1 (ok_t2 ob).2.1 rfl rfl h
    obtain ⟨_, e2⟩ := List.cons.inj e2
    obtain ⟨e3, e2⟩ := List.cons.inj e2
    obtain ⟨_, e2⟩ := List.cons.inj e2
    have e2 : (pr a2 ++ [41]) ++ u = (pr b2 ++ [41]) ++ v := e2
    rw [List.append_assoc, List.append_assoc] at e2
    obtain ⟨e4, e5⟩ := ih2 b2 _ _ ha.2.2 hb.2.2 (ok_t2 oa).2.2 (ok_t2 ob).2.2 rfl rfl e2
    refine ⟨?_, (List.cons.inj e5).2⟩
    rw [e1, e4, top_eq (ok_t2 oa).1 (ok_t2 ob).1 (sgnO_inj (by omega) h9 (by omega) h9' e3) (by omega)]
   ·have eo : x.op = y.op := by
     rw [if_neg h9] at hk
     split at hk
     ·omega
     ·omega
    rw [pr2f (by omega), pr2f (by omega), eo] at h
    have h := app_fn h
    obtain ⟨e1, e2⟩ := ih1 b1 _ _ ha.2.1 hb.2.1 (ok_t2 oa).2.1 (ok_t2 ob).2.1 rfl rfl h
    obtain ⟨_, e2⟩ := List.cons.inj e2
    obtain ⟨_, e2⟩ := List.cons.inj e2
    obtain ⟨e4, e5⟩ := ih2 b2 _ _ ha.2.2 hb.2.2 (ok_t2 oa).2.2 (ok_t2 ob).2.2 rfl rfl e2
    refine ⟨?_, (List.cons.inj e5).2⟩
    rw [e1, e4, top_eq (ok_t2 oa).1 (ok_t2 ob).1 eo (by omega)]
  | t3 y b1 b2 b3 => have : kt (.t2 x a1 a2) = 12 := hk; omega
 | t3 x a1 a2 a3 ih1 ih2 ih3 =>
  intro b u v ha hb oa ob hu hv h
  have hk : kt (.t3 x a1 a2 a3) = kt b := (kd_pr ha oa u).symm.trans ((congrArg kd h).trans (kd_pr hb ob v))
  have hk : 12 = kt b := hk
  cases b with
  | t0 y => have := kl_lt hb; have : 12 = kl y := hk; omega
  | t1 y b1 => have : 12 = 5 := hk; omega
  | t2 y b1 b2 => have := kt2 (a := b1) (b := b2) hb.1; omega
  | t3 y b1 b2 b3 =>
   rw [pr3 (ops3 ha.1), pr3 (ops3 hb.1)] at h
   have h := app_fn h
   obtain ⟨e1, e2⟩ := ih1 b1 _ _ ha.2.1 hb.2.1 (ok_t3 oa).2.1 (ok_t3 ob).2.1 rfl rfl h
   obtain ⟨_, e2⟩ := List.cons.inj e2
   obtain ⟨_, e2⟩ := List.cons.inj e2
   have h := app_mid e2
   obtain ⟨e3, e4⟩ := ih2 b2 _ _ ha.2.2.1 hb.2.2.1 (ok_t3 oa).2.2.1 (ok_t3 ob).2.2.1 rfl rfl h
   obtain ⟨_, e4⟩ := List.cons.inj e4
   obtain ⟨_, e4⟩ := List.cons.inj e4
   obtain ⟨e5, e6⟩ := ih3 b3 _ _ ha.2.2.2 hb.2.2.2 (ok_t3 oa).2.2.2 (ok_t3 ob).2.2.2 rfl rfl e4
   refine ⟨?_, (List.cons.inj e6).2⟩
   rw [e1, e3, e5, top_eq (ok_t3 oa).1 (ok_t3 ob).1 ((ops3 ha.1).trans (ops3 hb.1).symm) (by have := ops3 ha.1; omega)]
end Tm
end Go.Proofs.YtdeinhkdphgfaaaGreatDoor
/- Plain terms: where the terms on the stack begin; parts; depths. Own work; no program text. -/
namespace Go.Proofs.YtdeinhkdphgfaaaGreatDoor
set_option linter.unusedSimpArgs false
set_option linter.unusedVariables false
namespace Tm
def fl (st : List Tr) : Nat := ((st.map Tr.flat).flatten).length
theorem fl_append (s t : List Tr) : fl (s ++ t) = fl s + fl t := by unfold fl; rw [List.map_append, List.flatten_append, List.length_append]
theorem fl_one (t : Tr) : fl [t] = t.flat.length := by unfold fl; simp
theorem len_fl : ∀ st : List Tr, st.length ≤ fl st
 | [] => Nat.le_refl _
 | t :: r => by
  have := len_fl r
  have h : 1 ≤ t.flat.length := List.length_pos_iff.2 (flat_ne t)
  have e : fl (t :: r) = fl [t] + fl r := fl_append [t] r
  rw [e, fl_one, List.length_cons]; omega
def bgs (st : List Tr) : List Int := (List.range st.length).map fun j => ((fl (st.take j) : Nat) : Int)
theorem bgs_len (st : List Tr) : (bgs st).length = st.length := by unfold bgs; rw [List.length_map, List.length_range]
theorem bgs_get {st : List Tr} {j : Nat} (h : j < st.length) : (bgs st)[j]? = some ((fl (st.take j) : Nat) : Int) := by
 unfold bgs; rw [List.getElem?_map, List.getElem?_range h]; rfl
theorem bgs_take (st : List Tr) (m : Nat) (h : m ≤ st.length) : (bgs st).take m = bgs (st.take m) := by
 unfold bgs
 rw [← List.map_take, List.take_range, List.length_take, Nat.min_eq_left h]
 refine List.map_congr_left fun j hj => ?_
 have := List.mem_range.1 hj
 rw [List.take_take, Nat.min_eq_left (by omega)]
theorem bgs_snoc (st : List Tr) (t : Tr) : bgs (st ++ [t]) = bgs st ++ [((fl st : Nat) : Int)] := by
 unfold bgs
 rw [List.length_append, List.length_singleton, List.range_succ, List.map_append, List.map_singleton]
 congr 1
 ·refine List.map_congr_left fun j hj => ?_
  have := List.mem_range.1 hj
  rw [List.take_append_of_le_length (by omega)]
 ·rw [List.take_left]
def stk (t : List Nd) (i : Nat) : Option (List Tr) := runS mkT (t.take i) []
theorem stk_zero (t : List Nd) : stk t 0 = some [] := rfl
theorem stk_next {t : List Nd} {i : Nat} {x : Nd} (h : t[i]? = some x) : stk t (i + 1) = (stk t i).bind (stepS mkT x) := by
 unfold stk
 rw [List.take_add_one, h]
 exact run_snoc mkT _ x _
theorem stk_flat {t : List Nd} {i : Nat} {st : List Tr} (h : stk t i = some st) : (st.map Tr.flat).flatten = t.take i ∧ ∀ s ∈ st, s.wf := by
 obtain ⟨a, b⟩ := run_inv (t.take i) [] st h (fun _ h => by cases h)
 exact ⟨by simpa using b, a⟩
theorem stk_fl {t : List Nd} {i : Nat} {st : List Tr} (h : stk t i = some st) (hi : i ≤ t.length) : fl st = i := by
 unfold fl; rw [(stk_flat h).1, List.length_take, Nat.min_eq_left hi]
theorem stk_none {t : List Nd} {i : Nat} (h : stk t i = none) : treeOf t = none := by
 unfold treeOf
 have : runS mkT t [] = none := by
  rw [← List.take_append_drop i t, run_append]
  have h : runS mkT (t.take i) [] = none := h
  rw [h]; rfl
 rw [this]
theorem form_no {t : List Nd} (h : treeOf t = none) : formB t = false := by unfold formB; rw [h]; simp
def bgA (t : List Nd) (i : Nat) : Nat := match stk t (i + 1) with
 | some st => fl st.dropLast
 | none => 0
def begT (t : List Nd) (i : Nat) : List Int := (List.range i).map fun j => ((bgA t j : Nat) : Int)
theorem begT_len (t : List Nd) (i : Nat) : (begT t i).length = i := by unfold begT; rw [List.length_map, List.length_range]
theorem begT_next (t : List Nd) (i : Nat) : begT t (i + 1) = begT t i ++ [((bgA t i : Nat) : Int)] := by unfold begT; rw [List.range_succ, List.map_append]; rfl
theorem step_yes {t : List Nd} {i k : Nat} {x : Nd} {st : List Tr} (hi : i ≤ t.length) (hx : t[i]? = some x) (hs : stk t i = some st) (hk : arN x.op = some k) (hl : k ≤ st.length) :
  ∃ u, stk t (i + 1) = some (st.take (st.length - k) ++ [u]) ∧ bgs (st.take (st.length - k) ++ [u]) = (bgs st).take (st.length - k) ++ [((bgA t i : Nat) : Int)] ∧ bgA t i = fl (st.take (st.length - k)) ∧ (k = 0 → bgA t i = i) := by
 have e : stk t (i + 1) = some (st.take (st.length - k) ++ [mkT x (st.drop (st.length - k))]) := by
  rw [stk_next hx, hs]
  show stepS mkT x st = _
  unfold stepS
  rw [hk]
  dsimp only
  rw [if_pos hl]
 have eb : bgA t i = fl (st.take (st.length - k)) := by
  unfold bgA
  rw [e]
  dsimp only
  rw [List.dropLast_concat]
 refine ⟨_, e, ?_, eb, fun h0 => ?_⟩
 ·rw [bgs_snoc, ← bgs_take _ _ (by omega), eb]
 ·subst h0
  rw [eb, Nat.sub_zero, List.take_length]
  exact stk_fl hs hi
theorem step_no {t : List Nd} {i : Nat} {x : Nd} {st : List Tr} (hx : t[i]? = some x) (hs : stk t i = some st) (h : arN x.op = none ∨ ∃ k, arN x.op = some k ∧ ¬ k ≤ st.length) : formB t = false := by
 refine form_no (stk_none (i := i + 1) ?_)
 rw [stk_next hx, hs]
 show stepS mkT x st = none
 unfold stepS
 rcases h with h | ⟨k, h, hl⟩
 ·rw [h]
 ·rw [h]; dsimp only; rw [if_neg hl]
theorem form_end {t : List Nd} {st : List Tr} (h : stk t t.length = some st) (h1 : 1 ≤ t.length) (h2 : t.length ≤ 2000) : formB t = (st.length == 1) := by
 have h : runS mkT t [] = some st := by unfold stk at h; rwa [List.take_length] at h
 unfold formB treeOf
 rw [h, decide_eq_true h1, decide_eq_true h2]
 match st with
 | [] => rfl
 | [_] => rfl
 | _ :: _ :: _ => rfl
theorem form_len {t : List Nd} (h : t.length < 1 ∨ 2000 < t.length) : formB t = false := by
 unfold formB
 rcases h with h | h
 ·rw [decide_eq_false (by omega)]; rfl
 ·rw [decide_eq_false (show ¬ t.length ≤ 2000 by omega), Bool.false_and, Bool.and_false]
theorem form_step {t : List Nd} (h : formB t = true) {i : Nat} {x : Nd} {st : List Tr} (hx : t[i]? = some x) (hs : stk t i = some st) : ∃ m, arN x.op = some m ∧ m ≤ st.length := by
 cases ha : arN x.op with
 | none => rw [step_no hx hs (.inl ha)] at h; cases h
 | some m =>
  by_cases hm : m ≤ st.length
  ·exact ⟨m, rfl, hm⟩
  ·rw [step_no hx hs (.inr ⟨m, ha, hm⟩)] at h; cases h
theorem step_mk {t : List Nd} {i k : Nat} {x : Nd} {st : List Tr} (hx : t[i]? = some x) (hs : stk t i = some st) (hk : arN x.op = some k) (hl : k ≤ st.length) :
  stk t (i + 1) = some (st.take (st.length - k) ++ [mkT x (st.drop (st.length - k))]) := by
 rw [stk_next hx, hs]
 show stepS mkT x st = _
 unfold stepS
 rw [hk]
 dsimp only
 rw [if_pos hl]
theorem form_stk {t : List Nd} (h : formB t = true) : ∃ tr : Tr, stk t t.length = some [tr] ∧ treeOf t = some tr ∧ tr.wf ∧ tr.flat = t ∧ 1 ≤ t.length ∧ t.length ≤ 2000 := by
 obtain ⟨tr, h1, h2, h3, h4⟩ := form_tree h
 refine ⟨tr, ?_, h3, h1, h2, ?_, h4⟩
 ·unfold stk
  rw [List.take_length]
  unfold treeOf at h3
  split at h3
  ·next e => rw [e]; cases h3; rfl
  ·cases h3
 ·rw [← h2]; exact List.length_pos_iff.2 (flat_ne tr)
def mx (l : List Nat) : Nat := l.foldr max 0
theorem mx_snoc (l : List Nat) (a : Nat) : mx (l ++ [a]) = max (mx l) a := by
 induction l with
 | nil => show max a 0 = max 0 a; omega
 | cons b r ih => show max b (mx (r ++ [a])) = max (max b (mx r)) a; rw [ih]; omega
theorem mx_le {l : List Nat} {n : Nat} (h : ∀ a ∈ l, a ≤ n) : mx l ≤ n := by
 induction l with
 | nil => exact Nat.zero_le _
 | cons b r ih =>
  have a := h b (List.mem_cons_self ..)
  have c := ih fun a ha => h a (List.mem_cons_of_mem _ ha)
  show max b (mx r) ≤ n
  omega
theorem dp_le : ∀ t : Tr, dp t ≤ t.flat.length
 | .t0 x => Nat.le_refl _
 | .t1 x a => by
  have := dp_le a
  show max (dp a) 0 + 1 ≤ (a.flat ++ [x]).length
  simp only [List.length_append, List.length_singleton]; omega
 | .t2 x a b => by
  have := dp_le a; have := dp_le b
  show max (dp a) (max (dp b) 0) + 1 ≤ (a.flat ++ (b.flat ++ [x])).length
  simp only [List.length_append, List.length_singleton]; omega
 | .t3 x a b c => by
  have := dp_le a; have := dp_le b; have := dp_le c
  show max (dp a) (max (dp b) (max (dp c) 0)) + 1 ≤ (a.flat ++ (b.flat ++ (c.flat ++ [x]))).length
  simp only [List.length_append, List.length_singleton]; omega
theorem one_fl {st : List Tr} {s : Tr} (h : s ∈ st) : s.flat.length ≤ fl st := by
 obtain ⟨a, b, rfl⟩ := List.append_of_mem h
 have : a ++ s :: b = a ++ ([s] ++ b) := rfl
 rw [this, fl_append, fl_append, fl_one]; omega
theorem dp_mk {x : Nd} {l : List Tr} (h : l.length ≤ 3) : dp (mkT x l) = mx (l.map dp) + 1 := fold_mk dpF h
def ds (st : List Tr) : List Int := st.map fun s => ((dp s : Nat) : Int)
theorem ds_len (st : List Tr) : (ds st).length = st.length := List.length_map ..
theorem depth_of {t : List Nd} {tr : Tr} (h : formB t = true) (ht : treeOf t = some tr) : depthT t = dp tr := by unfold depthT; rw [ht]; dsimp only; rw [if_pos h]
theorem depth_no {t : List Nd} (h : formB t = false) : depthT t = 0 := by
 unfold depthT
 split
 ·rw [h]; rfl
 ·rfl
theorem run_flats : ∀ (L : List Tr) (st : List Tr), (∀ s ∈ L, s.wf) → runS mkT (L.map Tr.flat).flatten st = some (st ++ L)
 | [], st, _ => by rw [List.append_nil]; rfl
 | s :: L, st, h => by
  rw [List.map_cons, List.flatten_cons, run_append, run_flat mkT s st (h s (List.mem_cons_self ..))]
  show runS mkT (L.map Tr.flat).flatten (st ++ [s.fold mkT]) = _
  rw [fold_self, run_flats L _ fun u hu => h u (List.mem_cons_of_mem _ hu), List.append_assoc]; rfl
theorem kids_stk {t : List Nd} {tr : Tr} (hw : tr.wf) (ht : tr.flat = t) (j : Nat) : stk t (fl (tr.kids.take j)) = some (tr.kids.take j) := by
 unfold stk
 have e : t = ((tr.kids.take j).map Tr.flat).flatten ++ (((tr.kids.drop j).map Tr.flat).flatten ++ [tr.top]) := by
  rw [← ht, flat_top, ← List.append_assoc, ← List.flatten_append, ← List.map_append, List.take_append_drop]
 have e2 : t.take (fl (tr.kids.take j)) = ((tr.kids.take j).map Tr.flat).flatten := by
  unfold fl
  rw [e, List.take_left]
 rw [e2]
 exact run_flats _ [] fun s hs => (wf_top hw).2 s (List.mem_of_mem_take hs)
theorem fl_next {l : List Tr} {j : Nat} {s : Tr} (h : l[j]? = some s) : fl (l.take (j + 1)) = fl (l.take j) + s.flat.length := by
 rw [List.take_add_one, h]
 show fl (l.take j ++ [s]) = _
 rw [fl_append, fl_one]
theorem bgA_kid {t : List Nd} {tr : Tr} (hw : tr.wf) (ht : tr.flat = t) {j : Nat} {s : Tr} (h : tr.kids[j]? = some s) : 1 ≤ fl (tr.kids.take (j + 1)) ∧ bgA t (fl (tr.kids.take (j + 1)) - 1) = fl (tr.kids.take j) := by
 have h1 : 1 ≤ s.flat.length := List.length_pos_iff.2 (flat_ne s)
 have h2 := fl_next h
 refine ⟨by omega, ?_⟩
 unfold bgA
 rw [show fl (tr.kids.take (j + 1)) - 1 + 1 = fl (tr.kids.take (j + 1)) by omega, kids_stk hw ht]
 dsimp only
 rw [List.take_add_one, h]
 show fl (tr.kids.take j ++ [s]).dropLast = _
 rw [List.dropLast_concat]
theorem kid_part {t : List Nd} {tr : Tr} (ht : tr.flat = t) {j : Nat} {s : Tr} (h : tr.kids[j]? = some s) : (t.drop (fl (tr.kids.take j))).take s.flat.length = s.flat := by
 obtain ⟨hj, e0⟩ := List.getElem?_eq_some_iff.1 h
 have e : t = ((tr.kids.take j).map Tr.flat).flatten ++ (s.flat ++ (((tr.kids.drop (j + 1)).map Tr.flat).flatten ++ [tr.top])) := by
  rw [← ht, flat_top]
  have : tr.kids = tr.kids.take j ++ (s :: tr.kids.drop (j + 1)) := by rw [← e0, List.getElem_cons_drop, List.take_append_drop]
  conv => lhs; rw [this]
  rw [List.map_append, List.flatten_append, List.map_cons, List.flatten_cons, List.append_assoc, List.append_assoc]
 have e1 : fl (tr.kids.take j) = (((tr.kids.take j).map Tr.flat).flatten).length := rfl
 rw [e1, e, List.drop_left, List.take_left]
theorem kids_fl {t : List Nd} {tr : Tr} (ht : tr.flat = t) : fl tr.kids + 1 = t.length := by
 rw [← ht, flat_top, List.length_append]; rfl
theorem fl_le {l : List Tr} (j : Nat) : fl (l.take j) ≤ fl l := by
 have e : fl l = fl (l.take j) + fl (l.drop j) := by rw [← fl_append, List.take_append_drop]
 omega
theorem args_of {t : List Nd} {tr : Tr} (h : formB t = true) (ht : treeOf t = some tr) : argsT t = tr.kids.map Tr.flat := by unfold argsT; rw [ht]; dsimp only; rw [if_pos h]
theorem args_no {t : List Nd} (h : formB t = false) : argsT t = [] := by
 unfold argsT
 split
 ·rw [h]; rfl
 ·rfl
theorem top_at {t : List Nd} {tr : Tr} (ht : tr.flat = t) : t[t.length - 1]? = some tr.top := by
 rw [← List.getLast?_eq_getElem?, ← ht]; exact flat_last tr
end Tm
end Go.Proofs.YtdeinhkdphgfaaaGreatDoor

/- The program's Add joined; the program's book answers as the document's words. -/
import Derived.Test.YtemnimbedmkagaaGreatDoorAllBk7
namespace Go.Proofs.YtemnimbedmkagaaGreatDoor
open Go.RowKit
set_option linter.unusedSimpArgs false
set_option linter.unusedVariables false

theorem lens_add {ls : List Ln} {K : Nat} (hg : Good ls) (hz : ∀ x ∈ ls, SzK K x) (hK : K ≤ 2000) {k p : Key} {r : Nat} (hx : ls[r]? = some (k, p)) {a s n d : List UInt8} (hy : SzK K ((a, s), (n, d))) :
    (p.1.length ≤ 20000 ∧ p.2.length ≤ 20000) ∧ (n.length ≤ 20000 ∧ d.length ≤ 20000) := by
  have h1 := (hz _ (List.mem_of_getElem? hx)).2
  have h2 := hy.2
  exact ⟨⟨Nat.le_trans h1.1 (by omega), Nat.le_trans h1.2 (by omega)⟩, Nat.le_trans h2.1 (by omega), Nat.le_trans h2.2 (by omega)⟩
/-- An addition's answer is not long. -/
theorem addR_len {ls : List Ln} (hg : Good ls) (hz : ∀ x ∈ ls, SzK 1000 x) {a s n d : List UInt8} (hy : SzK 1000 ((a, s), (n, d))) (hr : isR (n, d) = true) {p : Key} (hp : isR p = true) (hp1 : p.1.length ≤ 1000) (hp2 : p.2.length ≤ 1000) :
    (addR p (n, d)).1.length ≤ 20000 ∧ (addR p (n, d)).2.length ≤ 20000 := by
  have l1 : Lq (valR p) 1000 := Lq.of_text (n := ⟨p.1.toArray⟩) (d := ⟨p.2.toArray⟩) hp (by rw [size_of]; exact hp1) (by rw [size_of]; exact hp2) (by decide)
  have l2 : Lq (valR (n, d)) 1000 := hy.lq (by decide) hr
  have l3 := Lq.add l1 l2 (by decide)
  have e : addR p (n, d) = rd (valR p + valR (n, d)) := by unfold addR; rw [hp, hr]; rfl
  rw [e]
  exact ⟨Nat.le_trans l3.len1 (by decide), Nat.le_trans l3.len2 (by decide)⟩
theorem zero_len {n d : List UInt8} (hr : isR (n, d) = true) : addR ([48], [49]) (n, d) = (n, d) := add_zero_left hr
theorem badd_any (p : Option Addr) (c : Nat) (ls : List Ln) (a s n d : List UInt8) (w : World) (hc : ls.length ≤ c) (hl : ls.length ≤ 1000000) (hz : ∀ x ∈ ls, SzK 1000 x) (hx : SzK 1000 ((a, s), (n, d))) (h : Lns w p ls) :
    Calls Tryz.prog 9 #[.slice p ls.length c, .agg #[.string ⟨a.toArray⟩, .string ⟨s.toArray⟩, .string ⟨n.toArray⟩, .string ⟨d.toArray⟩]] w (GiveLB w (addB ls ((a, s), (n, d)))) := by
  have hzL : ∀ x ∈ ls, SzL x := fun x hx => (hz x hx).szL (by decide)
  have cm := fun v (hv : Below w.heap.size w v) => bmay_any p c ls v hc hl hzL (h.below hv)
  have cn := fun v (hv : Below w.heap.size w v) => bnamed_any a s n d v
  have cr : ∀ v, Below w.heap.size w v → Calls Tryz.prog 28 #[.agg #[.string ⟨n.toArray⟩, .string ⟨d.toArray⟩]] v (GiveB v (isR (n, d))) := fun v hv => qmay_any ⟨n.toArray⟩ ⟨d.toArray⟩ v (by rw [size_of]; exact Nat.le_trans hx.2.1 (by decide)) (by rw [size_of]; exact Nat.le_trans hx.2.2 (by decide))
  cases hm : mayB ls with
  | false =>
    rw [hm] at cm
    rw [addB_no (by rw [hm]; rfl)]
    exact ba_may p c ls a s n d w (Lib.hid cm)
  | true =>
    rw [hm] at cm
    have hg := good_iff.1 hm
    cases hn : (isName a && isName s) with
    | false =>
      rw [hn] at cn
      rw [addB_no (by rw [hm, lineOk_may]; show (true && ((isName a && isName s) && isR (n, d))) = false; rw [hn]; rfl)]
      exact ba_named p c ls a s n d w (Lib.hid cm) (Lib.hid cn)
    | true =>
      rw [hn] at cn
      cases hr : isR (n, d) with
      | false =>
        rw [hr] at cr
        rw [addB_no (by rw [hm, lineOk_may]; show (true && ((isName a && isName s) && isR (n, d))) = false; rw [hn, hr]; rfl)]
        exact ba_rat p c ls a s n d w (Lib.hid cm) (Lib.hid cn) (Lib.hid cr)
      | true =>
        rw [hr] at cr
        have hok : (mayB ls && lineOk ((a, s), (n, d))) = true := by rw [hm, lineOk_may]; show (true && ((isName a && isName s) && isR (n, d))) = true; rw [hn, hr]; rfl
        have cf := fun v (hv : Below w.heap.size w v) => find_any p c ls a s n d v hc hl hg.2 (h.below hv)
        have hrk := rank_le ls (a, s)
        rcases place hg.2 (a, s) with ⟨ht, q, hq, e, hput⟩ | ⟨ht, e, hput⟩
        · rw [ht] at cf
          have hlt := (List.getElem?_eq_some_iff.1 hq).1
          have hmq := List.mem_of_getElem? hq
          have hpq := (lineIn_rat (hg.1 _ hmq)).1
          have hzq := (hz _ hmq).2
          have hal := addR_len hg hz hx hr hpq hzq.1 hzq.2
          have ea : addB ls ((a, s), (n, d)) = (putB ls (a, s) (addR q (n, d)), true) := by
            have eg : getB ls (a, s) = q := by unfold getB rawB; rw [hm, e]; rfl
            unfold addB; rw [hok]
            show (putB ls (a, s) (addR (getB ls (a, s)) (n, d)), true) = _
            rw [eg]
          rw [ea, hput]
          obtain ⟨b, o, rfl, _⟩ := h (rank ls (a, s)) _ hq
          have ca := fun V => qadd_any ⟨q.1.toArray⟩ ⟨q.2.toArray⟩ ⟨n.toArray⟩ ⟨d.toArray⟩ V (by rw [size_of]; exact Nat.le_trans hzq.1 (by decide)) (by rw [size_of]; exact Nat.le_trans hzq.2 (by decide)) (by rw [size_of]; exact Nat.le_trans hx.2.1 (by decide)) (by rw [size_of]; exact Nat.le_trans hx.2.2 (by decide))
          have ca : ∀ V, Calls Tryz.prog 30 #[.agg #[.string ⟨q.1.toArray⟩, .string ⟨q.2.toArray⟩], .agg #[.string ⟨n.toArray⟩, .string ⟨d.toArray⟩]] V (GiveR V ((addR q (n, d)).1, (addR q (n, d)).2)) := ca
          have cs : ∀ V, Calls Tryz.prog 31 #[.agg #[.string ⟨(addR q (n, d)).1.toArray⟩, .string ⟨(addR q (n, d)).2.toArray⟩]] V (GiveI V (sgnR (addR q (n, d)))) := fun V => qsign_any ⟨(addR q (n, d)).1.toArray⟩ ⟨(addR q (n, d)).2.toArray⟩ V (by rw [size_of]; exact Nat.le_trans hal.1 (by decide)) (by rw [size_of]; exact Nat.le_trans hal.2 (by decide))
          generalize addR q (n, d) = Q at *
          by_cases hs : sgnR Q = 0
          · rw [hs] at cs
            rw [hs]
            exact ba_T0 b o c ls _ hc hl a s n d w hlt a s q.1 q.2 Q.1 Q.2 hq h _ (Lib.hid rfl) (Lib.hid cm) (Lib.hid cn) (Lib.hid cr) (Lib.hid cf) (Lib.hid ca) (Lib.hid cs)
          · rw [beq_false_of_ne hs]
            exact ba_T1 b o c ls _ hc hl a s n d w hlt a s q.1 q.2 Q.1 Q.2 hq h _ hs _ (Lib.hid rfl) (Lib.hid cm) (Lib.hid cn) (Lib.hid cr) (Lib.hid cf) (Lib.hid ca) (Lib.hid cs)
        · rw [ht] at cf
          have ea : addB ls ((a, s), (n, d)) = (putB ls (a, s) (n, d), true) := by
            have eg : getB ls (a, s) = ([48], [49]) := by unfold getB rawB; rw [hm, e]; rfl
            unfold addB; rw [hok]
            show (putB ls (a, s) (addR (getB ls (a, s)) (n, d)), true) = _
            rw [eg, add_zero_left hr]
          rw [ea, hput]
          have cs : ∀ V, Calls Tryz.prog 31 #[.agg #[.string ⟨n.toArray⟩, .string ⟨d.toArray⟩]] V (GiveI V (sgnR (n, d))) := fun V => qsign_any ⟨n.toArray⟩ ⟨d.toArray⟩ V (by rw [size_of]; exact Nat.le_trans hx.2.1 (by decide)) (by rw [size_of]; exact Nat.le_trans hx.2.2 (by decide))
          cases ls with
          | nil =>
            by_cases hs : sgnR (n, d) = 0
            · rw [hs] at cs
              rw [hs]
              exact ba_A0 p c a s n d w _ (Lib.hid rfl) (Lib.hid cm) (Lib.hid cn) (Lib.hid cr) (Lib.hid cf) (Lib.hid cs)
            · rw [beq_false_of_ne hs]
              exact ba_A1 p c a s n d w _ hs _ (Lib.hid rfl) (Lib.hid cm) (Lib.hid cn) (Lib.hid cr) (Lib.hid cf) (Lib.hid cs)
          | cons x0 rest =>
            obtain ⟨b, o, rfl, _⟩ := h 0 x0 rfl
            generalize x0 :: rest = L at *
            by_cases hs : sgnR (n, d) = 0
            · rw [hs] at cs
              rw [hs]
              exact ba_N0 b o c L _ hc hl a s n d w hrk h _ (Lib.hid rfl) (Lib.hid cm) (Lib.hid cn) (Lib.hid cr) (Lib.hid cf) (Lib.hid cs)
            · rw [beq_false_of_ne hs]
              exact ba_N1 b o c L _ hc hl a s n d w hrk h _ hs _ (Lib.hid rfl) (Lib.hid cm) (Lib.hid cn) (Lib.hid cr) (Lib.hid cf) (Lib.hid cs)
/-- The program's book answers as the document's words. -/
theorem bookC : BookC GoodT where
  below := fun h hb => GoodT.below h hb
  name := fun s w _ _ => bname_any s w
  may := fun p c ls w hc hl hz h _ => bmay_any p c ls w hc (by omega) (fun x hx => (hz x hx).szL (by decide)) h
  get := fun p c ls u v w hc hl hz _ _ h ht => bget_any p c ls u v w hc (by omega) (fun x hx => (hz x hx).szL (by decide)) h ht
  add := fun p c ls a s n d w hc hl hz hx h _ => badd_any p c ls a s n d w hc (by omega) hz hx h
  total := fun p c ls u K w hc hl hz hK _ h ht => btotal_any p c ls u K w hc (by omega) hz hK h ht
  holders := fun p c ls u w hc hl hz _ h _ => bholders_any p c ls u w hc (by omega) (fun x hx => (hz x hx).szL (by decide)) h
end Go.Proofs.YtemnimbedmkagaaGreatDoor

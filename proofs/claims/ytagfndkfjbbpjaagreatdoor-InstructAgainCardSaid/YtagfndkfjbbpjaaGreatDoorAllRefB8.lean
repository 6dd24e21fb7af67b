/- The document's Add and Total of books, of numbers that are not too long. -/
import Derived.Test.YtagfndkfjbbpjaaGreatDoorAllRefB7
import Derived.Test.YtagfndkfjbbpjaaGreatDoorPostNum
namespace Go.Proofs.YtagfndkfjbbpjaaGreatDoor
open Go.RowKit
set_option linter.unusedSimpArgs false
set_option linter.unusedVariables false
theorem SzF.szL {x : Ln} (h : SzF x) : SzL x := ⟨h.1, Nat.le_trans h.2.1 (by decide), Nat.le_trans h.2.2 (by decide)⟩
theorem get_fit {ls : List Ln} (hz : ∀ x ∈ ls, SzF x) (k : Key) (hm : mayB ls = true) : Fit (getB ls k) := by
 unfold getB rawB
 rw [if_pos hm]
 cases e : lineOf ls k with
 | none => exact zero_fit
 | some x => exact (hz x (of_some e).1).2
theorem rbadd2F_any (p : Option Addr) (c : Nat) (ls : List Ln) (a s n d : List UInt8) (w : World) (hc : ls.length ≤ c) (hl : ls.length ≤ 1000000) (hz : ∀ x ∈ ls, SzF x) (hx : SzF ((a, s), (n, d)))
  (hq : Good ls → lineOk ((a, s), (n, d)) = true → Fit (addR (getB ls (a, s)) (n, d))) (h : Lns w p ls) :
  Calls Tryz.prog 23 #[.slice p ls.length c, .agg #[.string ⟨a.toArray⟩, .string ⟨s.toArray⟩, .string ⟨n.toArray⟩, .string ⟨d.toArray⟩]] w (GiveLBF w (addB ls ((a, s), (n, d)))) := by
 have hzL : ∀ x ∈ ls, SzL x := fun x hx => (hz x hx).szL
 have cm := fun v (hv : Below w.heap.size w v) => rbmay_any p c ls v hc (by omega) hzL (h.below hv)
 have cl := fun w => rbline_any a s n d w hx.1.1 hx.1.2 (Nat.le_trans hx.2.1 (by decide)) (Nat.le_trans hx.2.2 (by decide))
 cases hm : mayB ls with
 | false =>
  rw [hm] at cm
  rw [addB_no (by rw [hm]; rfl)]
  exact rba_may p c ls a s n d w (Lib.hid cm)
 | true =>
  rw [hm] at cm
  cases hk : lineOk ((a, s), (n, d)) with
  | false =>
   rw [hk] at cl
   rw [addB_no (by rw [hm, hk]; rfl)]
   exact rba_line p c ls a s n d w (Lib.hid cm) (Lib.hid cl)
  | true =>
   rw [hk] at cl
   have hf := hq (good_iff.1 hm) hk
   have hg := get_fit hz (a, s) hm
   have cg := fun v (hv : Below w.heap.size w v) => rbget_any p c ls a s v hc (by omega) hzL (h.below hv)
   have e : addB ls ((a, s), (n, d)) = (insB ls (sgnR (addR (getB ls (a, s)) (n, d)) == 0) (a, s) (addR (getB ls (a, s)) (n, d)), true) := by
    unfold addB putB
    rw [hm, hk]; rfl
   rw [e]
   generalize getB ls (a, s) = g at *
   have ca : ∀ w, Calls Tryz.prog 29 #[.agg #[.string ⟨g.1.toArray⟩, .string ⟨g.2.toArray⟩], .agg #[.string ⟨n.toArray⟩, .string ⟨d.toArray⟩]] w (GiveR w (addR g (n, d))) := fun w =>
    rqadd_any ⟨g.1.toArray⟩ ⟨g.2.toArray⟩ ⟨n.toArray⟩ ⟨d.toArray⟩ w (by rw [size_of]; exact Nat.le_trans hg.1 (by decide)) (by rw [size_of]; exact Nat.le_trans hg.2 (by decide)) (by rw [size_of]; exact Nat.le_trans hx.2.1 (by decide)) (by rw [size_of]; exact Nat.le_trans hx.2.2 (by decide))
   generalize addR g (n, d) = q at *
   have cs : ∀ w, Calls Tryz.prog 24 #[.agg #[.string ⟨q.1.toArray⟩, .string ⟨q.2.toArray⟩]] w (GiveI w (sgnR q)) := fun w =>
    rqsign_any ⟨q.1.toArray⟩ ⟨q.2.toArray⟩ w (by rw [size_of]; exact Nat.le_trans hf.1 (by decide)) (by rw [size_of]; exact Nat.le_trans hf.2 (by decide))
   exact rba_yes p c ls a s n d (g1 := g.1) (g2 := g.2) (q1 := q.1) (q2 := q.2) (z := sgnR q) _ rfl w hc hl h (Lib.hid cm) (Lib.hid cl) (Lib.hid cg) (Lib.hid ca) (Lib.hid cs)
theorem rbadd2_any (p : Option Addr) (c : Nat) (ls : List Ln) (a s n d : List UInt8) (w : World) (hc : ls.length ≤ c) (hl : ls.length ≤ 1000000) (hz : ∀ x ∈ ls, SzF x) (hx : SzF ((a, s), (n, d)))
  (hq : Good ls → lineOk ((a, s), (n, d)) = true → Fit (addR (getB ls (a, s)) (n, d))) (h : Lns w p ls) :
  Calls Tryz.prog 23 #[.slice p ls.length c, .agg #[.string ⟨a.toArray⟩, .string ⟨s.toArray⟩, .string ⟨n.toArray⟩, .string ⟨d.toArray⟩]] w (GiveLB w (addB ls ((a, s), (n, d)))) :=
 (rbadd2F_any p c ls a s n d w hc hl hz hx hq h).mono fun _ _ h => h.old
theorem rbtotal2_any (p : Option Addr) (c : Nat) (ls : List Ln) (u : List UInt8) (w : World) (hc : ls.length ≤ c) (hl : ls.length ≤ 1000000) (hz : ∀ x ∈ ls, SzF x)
  (hq : Good ls → ∀ k, Fit (sumL ((holdB ls u).take k))) (h : Lns w p ls) :
  Calls Tryz.prog 26 #[.slice p ls.length c, .string ⟨u.toArray⟩] w (GiveR w (totB ls u)) := by
 have hzL : ∀ x ∈ ls, SzL x := fun x hx => (hz x hx).szL
 have cm := fun v (hv : Below w.heap.size w v) => rbmay_any p c ls v hc (by omega) hzL (h.below hv)
 have ch := fun v (hv : Below w.heap.size w v) => rbholders_any p c ls u v hc hl hzL (h.below hv)
 have co : ∀ w, Calls Tryz.prog 28 #[.int .i64 0] w (GiveR w ([48], [49])) := fun w => by
  have k := rqof_any 0 w (by decide) (by decide)
  rw [wd_0] at k
  exact k
 unfold totB
 cases hm : mayB ls with
 | false => rw [hm] at cm; exact rbt_no p c ls u w (Lib.hid cm)
 | true =>
  rw [hm] at cm
  have hg := good_iff.1 hm
  have hsub : ∀ x ∈ holdB ls u, x ∈ ls := fun x hx => by
   unfold holdB at hx; rw [hm] at hx; exact (List.mem_filter.1 hx).1
  have hr : ∀ x ∈ holdB ls u, isR x.2 = true := fun x hx => (lineIn_rat (hg.1 x (hsub x hx))).1
  have hlen : (holdB ls u).length ≤ ls.length := by unfold holdB; rw [hm]; exact List.length_filter_le _ _
  have ca : ∀ (k : Nat) (x : Ln), (holdB ls u)[k]? = some x → ∀ w, Calls Tryz.prog 29 #[.agg #[.string ⟨(sumL ((holdB ls u).take k)).1.toArray⟩, .string ⟨(sumL ((holdB ls u).take k)).2.toArray⟩], .agg #[.string ⟨x.2.1.toArray⟩, .string ⟨x.2.2.toArray⟩]] w (GiveR w (sumL ((holdB ls u).take (k + 1)))) := fun k x hx w => by
   have hf := hq hg k
   have s3 := (hz x (hsub x (List.mem_of_getElem? hx))).2
   rw [sum_step hx]
   exact rqadd_any ⟨(sumL ((holdB ls u).take k)).1.toArray⟩ ⟨(sumL ((holdB ls u).take k)).2.toArray⟩ ⟨x.2.1.toArray⟩ ⟨x.2.2.toArray⟩ w (by rw [size_of]; exact Nat.le_trans hf.1 (by decide)) (by rw [size_of]; exact Nat.le_trans hf.2 (by decide)) (by rw [size_of]; exact Nat.le_trans s3.1 (by decide)) (by rw [size_of]; exact Nat.le_trans s3.2 (by decide))
  have k := rbt_yes p c ls u w (holdB ls u) (by omega) hr (fun k => sumL ((holdB ls u).take k)) rfl (Lib.hid cm) (Lib.hid co) (Lib.hid ch) (Lib.hid ca)
  rw [List.take_length] at k
  exact k
end Go.Proofs.YtagfndkfjbbpjaaGreatDoor

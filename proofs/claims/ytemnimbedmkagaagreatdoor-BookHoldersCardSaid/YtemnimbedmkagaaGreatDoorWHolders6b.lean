/- BookHolders, all ways joined. -/
import Derived.Test.YtemnimbedmkagaaGreatDoorWHolders6
namespace Go.Proofs.YtemnimbedmkagaaGreatDoor
open Go.RowKit
set_option linter.unusedVariables false
variable {G : World → Prop}
theorem lineOf_mem {ls : List Ln} (h : Good ls) {y : Ln} (hy : y ∈ ls) : lineOf ls y.1 = some y := by
  cases e : lineOf ls y.1 with
  | none => exact absurd (List.find?_eq_none.1 e y hy) (by simp)
  | some z =>
    obtain ⟨hz, ez⟩ := of_some e
    obtain ⟨i, hi, rfl⟩ := List.getElem_of_mem hz
    obtain ⟨j, hj, rfl⟩ := List.getElem_of_mem hy
    have : i = j := by
      rcases Nat.lt_trichotomy i j with c | c | c
      · exact absurd ez (ahead_ne (List.pairwise_iff_getElem.1 h.2 i j hi hj c))
      · exact c
      · exact absurd ez.symm (ahead_ne (List.pairwise_iff_getElem.1 h.2 j i hj hi c))
    subst this
    rfl
/-- A line added again and again. -/
def seqB (ls : List Ln) (x : Ln) : Nat → List Ln
  | 0 => ls
  | j + 1 => (addB (seqB ls x j) x).1
theorem seq_is {ls : List Ln} {x : Ln} (h : Good ls) (hx : lineOk x = true) (hz : ∀ y ∈ ls, SzK 100 y) (zx : SzK 1 x) : ∀ j, j ≤ 30 →
    Good (seqB ls x j) ∧ (seqB ls x j).length ≤ ls.length + j ∧ (∀ y ∈ seqB ls x j, SzK (100 + 3 * j) y) ∧ addB (seqB ls x j) x = (seqB ls x (j + 1), true) ∧ ∀ k, hasQ (seqB ls x j) k = hasQ ls k + if k = x.1 then (j : Rat) * valR x.2 else 0
  | 0, _ => by
    obtain ⟨M, e, _⟩ := add_is h hx
    refine ⟨h, Nat.le_refl _, hz, ?_, fun k => ?_⟩
    · show addB ls x = ((addB ls x).1, true)
      rw [e]
    · show hasQ ls k = hasQ ls k + if k = x.1 then ((0 : Nat) : Rat) * valR x.2 else 0
      split <;> grind
  | j + 1, hj => by
    obtain ⟨g, hl, z, e, hq⟩ := seq_is h hx hz zx j (by omega)
    obtain ⟨M, eM, gM, qM, _⟩ := addB_yes g hx
    obtain rfl : M = seqB ls x (j + 1) := congrArg Prod.fst (eM.symm.trans e)
    obtain ⟨M2, e2, _⟩ := add_is gM hx
    refine ⟨gM, Nat.le_trans (add_len1 g e) (by omega), ?_, ?_, fun k => ?_⟩
    · have := add_szk g hx e z zx (by omega) (by omega)
      intro y hy
      have := this y hy
      exact ⟨this.1, by have := this.2.1; omega, by have := this.2.2; omega⟩
    · show addB (seqB ls x (j + 1)) x = ((addB (seqB ls x (j + 1)) x).1, true)
      rw [e2]
    · rw [qM, hq]
      have : ((j + 1 : Nat) : Rat) = (j : Rat) + 1 := by
        have h := Rat.intCast_add (j : Int) 1
        exact h
      rw [this]
      split <;> grind
theorem less_no {a b : List UInt8} (h : Op.bytesLess a b = true) : Op.bytesLess b a = false ∧ (b == a) = false := by
  refine ⟨?_, beq_false_of_ne fun e => by rw [e, less_irrefl] at h; cases h⟩
  cases e : Op.bytesLess b a with
  | false => rfl
  | true => have := less_trans h e; rw [less_irrefl] at this; cases this
/-- Accounts of an asset's holders rise. -/
theorem hold_rise {ls : List Ln} (h : Good ls) (u : List UInt8) {m : Nat} {x y : Ln} (hx : (ls.filter fun z => z.1.2 == u)[m]? = some x) (hy : (ls.filter fun z => z.1.2 == u)[m + 1]? = some y) : Op.bytesLess y.1.1 x.1.1 = false ∧ (y.1.1 == x.1.1) = false := by
  have hp := h.2.filter (fun z => z.1.2 == u)
  obtain ⟨i1, e1⟩ := List.getElem?_eq_some_iff.1 hx
  obtain ⟨i2, e2⟩ := List.getElem?_eq_some_iff.1 hy
  have k := List.pairwise_iff_getElem.1 hp m (m + 1) i1 i2 (by omega)
  rw [e1, e2] at k
  have m1 : x.1.2 = u := eq_of_beq (List.mem_filter.1 (List.mem_of_getElem? hx)).2
  have m2 : y.1.2 = u := eq_of_beq (List.mem_filter.1 (List.mem_of_getElem? hy)).2
  unfold aheadK at k
  rw [m1, m2, less_irrefl, Bool.and_false, Bool.or_false] at k
  exact less_no k
set_option maxHeartbeats 1000000 in
theorem holders6_any (H : BookC G) (p : Option Addr) (c : Nat) (ls : List Ln) (u : List UInt8) (n : Int) (w : World) (hc : ls.length ≤ c) (hl : ls.length ≤ 4611686018427387904) (hu : u.length ≤ 4611686018427387904) (h : Lns w p ls) (hg : G w) :
    Calls Tryz.prog 5 #[.slice p ls.length c, .string ⟨u.toArray⟩, .int .i64 n] w (GiveB w true) := by
  have c1 := fun v (hv : Below w.heap.size w v) => rbsmall_any p c ls v hc hl (h.below hv)
  cases h1 : smB ls with
  | false => rw [h1] at c1; exact hold6_0 H p c ls u n w hg (Lib.hid c1)
  | true =>
  rw [h1] at c1
  obtain ⟨hs, h40⟩ := smB_iff.1 h1
  have z : ∀ k, 100 ≤ k → ∀ x ∈ ls, SzK k x := fun k hk x hx => shL_szk (hs x hx) hk
  have zL : ∀ x ∈ ls, SzL x := fun x hx => (z 100 (by decide) x hx).szL (by decide)
  have c3 := fun v (hv : Below w.heap.size w v) => rbmay_any p c ls v hc (by omega) zL (h.below hv)
  cases hm : mayB ls with
  | false => rw [hm] at c3; exact hold6_1 H p c ls u n w hg (Lib.hid c1) (Lib.hid c3)
  | true =>
  rw [hm] at c3
  have c4 : ∀ w, Calls Tryz.prog 15 #[.string ⟨u.toArray⟩] w (GiveB w (isName u)) := fun w => calm (rbname_any ⟨u.toArray⟩ w (by rw [size_of]; exact hu))
  cases hn : isName u with
  | false => rw [hn] at c4; exact hold6_2 H p c ls u n w hg (Lib.hid c1) (Lib.hid c3) (Lib.hid c4)
  | true =>
  rw [hn] at c4
  by_cases n0 : n < 0
  · exact hold6_lo H p c ls u n n0 w hg (Lib.hid c1) (Lib.hid c3) (Lib.hid c4)
  by_cases n30 : 30 < n
  · exact hold6_hi H p c ls u n n0 n30 w hg (Lib.hid c1) (Lib.hid c3) (Lib.hid c4)
  have gl := good_iff.1 hm
  have hN : holdB ls u = ls.filter fun z => z.1.2 == u := by unfold holdB; rw [hm]; rfl
  have hsub : ∀ x ∈ holdB ls u, x ∈ ls := fun x hx => by rw [hN] at hx; exact (List.mem_filter.1 hx).1
  have hlen : (holdB ls u).length ≤ ls.length := by rw [hN]; exact List.length_filter_le _ _
  have hr : ∀ x ∈ holdB ls u, isR x.2 = true := fun x hx => (lineIn_rat (gl.1 x (hsub x hx))).1
  have hzh : ∀ x ∈ holdB ls u, SzK 100 x := fun x hx => z 100 (by decide) x (hsub x hx)
  have hl20 : u.length ≤ 20 := by
    unfold isName at hn
    simp only [Bool.and_eq_true, decide_eq_true_eq] at hn
    exact hn.2.2
  have hok : lineOk (([97, 110, 110], u), ([49], [49])) = true := by
    unfold lineOk
    show (isName [97, 110, 110] && (isName u && isR ([49], [49]))) = true
    rw [hn]; decide +kernel
  have zx : SzK 1 (([97, 110, 110], u), ([49], [49])) := ⟨⟨by show 3 ≤ _; decide, hu⟩, Nat.le_refl _, Nat.le_refl _⟩
  have hsq := seq_is gl hok (z 100 (by decide)) zx
  have ch := fun v (hv : Below w.heap.size w v) hgv => H.holders p c ls u v hc (by omega) (z 1000 (by decide)) hu (h.below hv) hgv
  have of := fun (k : Int) (k0 : -1000 ≤ k) (k1 : k ≤ 1000) w => rqof_any k w (by omega) (by omega)
  have co0 : ∀ w, Calls Tryz.prog 25 #[.int .i64 0] w (GiveR w ([48], [49])) := fun w => by have k := of 0 (by decide) (by decide) w; rw [wd_0] at k; exact k
  have co1 : ∀ w, Calls Tryz.prog 25 #[.int .i64 1] w (GiveR w ([49], [49])) := fun w => by have k := of 1 (by decide) (by decide) w; rw [wd_const (n := 1) (q := [49]) (by decide) (by decide)] at k; exact k
  have con := of n (by omega) (by omega)
  have ca : ∀ (k : Nat) (x : Ln), (holdB ls u)[k]? = some x → ∀ w, Calls Tryz.prog 24 #[.agg #[.string ⟨(sumL ((holdB ls u).take k)).1.toArray⟩, .string ⟨(sumL ((holdB ls u).take k)).2.toArray⟩], .agg #[.string ⟨x.2.1.toArray⟩, .string ⟨x.2.2.toArray⟩]] w (GiveR w (sumL ((holdB ls u).take (k + 1)))) := fun k x hx w => by
    have hk := (List.getElem?_eq_some_iff.1 hx).1
    have hmx := List.mem_of_getElem? hx
    obtain ⟨q, e, l⟩ := sum_lq hr hzh k (by omega) (by omega)
    have s1 : (sumL ((holdB ls u).take k)).1.length ≤ 20000 := by rw [e]; exact Nat.le_trans l.len1 (by have := l.le; omega)
    have s2 : (sumL ((holdB ls u).take k)).2.length ≤ 20000 := by rw [e]; exact Nat.le_trans l.len2 (by have := l.le; omega)
    have s3 := (hzh x hmx).2
    rw [sum_step hx]
    exact rqadd_any ⟨(sumL ((holdB ls u).take k)).1.toArray⟩ ⟨(sumL ((holdB ls u).take k)).2.toArray⟩ ⟨x.2.1.toArray⟩ ⟨x.2.2.toArray⟩ w (by rw [size_of]; exact s1) (by rw [size_of]; exact s2) (by rw [size_of]; omega) (by rw [size_of]; omega)
  have cg : ∀ (k : Nat) (x : Ln), (holdB ls u)[k]? = some x → ∀ v, Below w.heap.size w v → G v → Calls Tryz.prog 16 #[.slice p ls.length c, .string ⟨x.1.1.toArray⟩, .string ⟨u.toArray⟩] v (GiveR v x.2) := fun k x hx v hv hgv => by
    have hmx := List.mem_of_getElem? hx
    have hxl := hsub x hmx
    have k := H.get p c ls x.1.1 u v hc (by omega) (z 1000 (by decide)) (z 100 (by decide) x hxl).1.1 hu (h.below hv) hgv
    have ea : x.1.2 = u := by rw [hN] at hmx; exact eq_of_beq (List.mem_filter.1 hmx).2
    have e : getB ls (x.1.1, u) = x.2 := by
      rw [← ea]
      unfold getB rawB
      rw [hm, show ((x.1.1, x.1.2) : Key) = x.1 from rfl, lineOf_mem gl hxl]; rfl
    rw [e] at k
    exact k
  have caj : ∀ (j : Nat) (p : Option Addr) (c : Nat) (v : World), (j : Int) < n → (seqB ls (([97, 110, 110], u), ([49], [49])) j).length ≤ c → Lns v p (seqB ls (([97, 110, 110], u), ([49], [49])) j) → G v → Calls Tryz.prog 9 #[.slice p (seqB ls (([97, 110, 110], u), ([49], [49])) j).length c, .agg #[.string ⟨#[97, 110, 110]⟩, .string ⟨u.toArray⟩, .string ⟨#[49]⟩, .string ⟨#[49]⟩]] v (fun e w' => (∃ p c, e = .returned (.tuple #[.slice p (seqB ls (([97, 110, 110], u), ([49], [49])) (j + 1)).length c, .bool true]) ∧ (seqB ls (([97, 110, 110], u), ([49], [49])) (j + 1)).length ≤ c ∧ Lns w' p (seqB ls (([97, 110, 110], u), ([49], [49])) (j + 1))) ∧ Below v.heap.size v w') := fun j p c v hj hcj hLj hgv => by
    obtain ⟨_, lj, zj, ej, _⟩ := hsq j (by omega)
    have k := H.add p c (seqB ls (([97, 110, 110], u), ([49], [49])) j) [97, 110, 110] u [49] [49] v hcj (by omega) (fun y hy => ⟨(zj y hy).1, by have := (zj y hy).2.1; omega, by have := (zj y hy).2.2; omega⟩) ⟨zx.1, by show 1 ≤ _; decide, by show 1 ≤ _; decide⟩ hLj hgv
    rw [ej] at k
    exact k
  have ct := fun v (hv : Below w.heap.size w v) hgv => H.total p c ls u 100 v hc (by omega) (z 100 (by decide)) (by omega) hu (h.below hv) hgv
  have et : totB ls u = sumL ((holdB ls u).take (holdB ls u).length) := by rw [List.take_length]; unfold totB; rw [hm]; rfl
  rw [et] at ct
  have ev : valR ([49], [49]) = 1 := by decide +kernel
  have cgm : ∀ (j : Nat) (p : Option Addr) (c : Nat) (v : World), n = (j : Int) → (seqB ls (([97, 110, 110], u), ([49], [49])) j).length ≤ c → Lns v p (seqB ls (([97, 110, 110], u), ([49], [49])) j) → G v → Calls Tryz.prog 16 #[.slice p (seqB ls (([97, 110, 110], u), ([49], [49])) j).length c, .string ⟨#[97, 110, 110]⟩, .string ⟨u.toArray⟩] v (GiveR v (rdN (hasQ ls ([97, 110, 110], u) + (n : Rat)), rdD (hasQ ls ([97, 110, 110], u) + (n : Rat)))) := fun j p c v hj hcj hLj hgv => by
    obtain ⟨gj, lj, zj, _, qj⟩ := hsq j (by omega)
    have k := H.get p c (seqB ls (([97, 110, 110], u), ([49], [49])) j) [97, 110, 110] u v hcj (by omega) (fun y hy => ⟨(zj y hy).1, by have := (zj y hy).2.1; omega, by have := (zj y hy).2.2; omega⟩) (by decide) hu hLj hgv
    rw [getB_rd gj, qj, if_pos rfl, ev, Rat.mul_one] at k
    rw [hj]
    exact k
  have cgb := fun v (hv : Below w.heap.size w v) hgv => H.get p c ls [97, 110, 110] u v hc (by omega) (z 1000 (by decide)) (by decide) hu (h.below hv) hgv
  rw [getB_rd gl] at cgb
  have lg := hasQ_lq gl (z 100 (by decide)) (by decide) (by decide) ([97, 110, 110], u)
  have ln : Lq (n : Rat) 2 := ⟨by rw [Rat.num_intCast]; omega, by rw [Rat.den_intCast]; decide, by decide, by decide⟩
  have can : ∀ w, Calls Tryz.prog 24 #[.agg #[.string ⟨(rdN (hasQ ls ([97, 110, 110], u))).toArray⟩, .string ⟨(rdD (hasQ ls ([97, 110, 110], u))).toArray⟩], .agg #[.string ⟨(wd n).toArray⟩, .string ⟨[49].toArray⟩]] w (GiveR w (rdN (hasQ ls ([97, 110, 110], u) + (n : Rat)), rdD (hasQ ls ([97, 110, 110], u) + (n : Rat)))) := fun w => by
    have k := dAdd lg ln (z := hasQ ls ([97, 110, 110], u) + (n : Rat)) rfl w
    rw [rdN_int, rdD_int] at k
    exact k
  exact hold6_main H p c ls u n (holdB ls u) (fun k => sumL ((holdB ls u).take k)) (seqB ls (([97, 110, 110], u), ([49], [49]))) rfl rfl (by omega) hc n0 n30 (fun m x y hx hy => by rw [hN] at hx hy; exact hold_rise gl u hx hy) w hg h (Lib.hid c1) (Lib.hid c3) (Lib.hid c4) (Lib.hid ch) (Lib.hid co0) (Lib.hid co1) (Lib.hid con) (Lib.hid ca) (Lib.hid cg) (Lib.hid caj) (Lib.hid ct) (Lib.hid cgm) (Lib.hid cgb) (Lib.hid can)
end Go.Proofs.YtemnimbedmkagaaGreatDoor

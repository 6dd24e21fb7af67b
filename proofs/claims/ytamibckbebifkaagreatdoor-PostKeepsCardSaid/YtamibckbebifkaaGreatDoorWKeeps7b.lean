/- The walk of PostKeeps, joined. -/
import Derived.Test.YtamibckbebifkaaGreatDoorWKeeps7
namespace Go.Proofs.YtamibckbebifkaaGreatDoor
open Go.RowKit
set_option linter.unusedSimpArgs false
set_option linter.unusedVariables false
variable {G : World → Prop}
/-- What an account has behind the first lines of a posting. -/
def hadB (ls ms : List Ln) (t : Nat) (k : Key) : Rat := hasQ (addAll ls (ms.take t)) k
theorem had_step {ls ms : List Ln} (g : Good ls) (ho : ∀ x ∈ ms, lineOk x = true) {t : Nat} {y : Ln} (hy : ms[t]? = some y) (k : Key) : hadB ls ms (t + 1) k = hadB ls ms t k + (if y.1 = k then valR y.2 else 0) := by
  have s : ∀ n, ∀ x ∈ ms.take n, lineOk x = true := fun n x hx => ho x (List.mem_of_mem_take hx)
  have e : ms.take (t + 1) = ms.take t ++ [y] := by rw [List.take_add_one, hy]; rfl
  unfold hadB
  rw [(addAll_good g (s (t + 1))).2.1, (addAll_good g (s t)).2.1, e, sumK_append, sumK_cons]
  show _ = _ + _
  rw [show sumK [] k = 0 from rfl, Rat.add_zero, Rat.add_assoc]
theorem had_end {ls ms : List Ln} (k : Key) : hadB ls ms ms.length k = hasQ (addAll ls ms) k := by unfold hadB; rw [List.take_length]
theorem had_zero {ls ms : List Ln} (k : Key) : hadB ls ms 0 k = hasQ ls k := rfl
theorem keeps7_any (H : PostC G) (p : Option Addr) (c : Nat) (ls : List Ln) (q : Option Addr) (d : Nat) (ms : List Ln) (cov : Bool) (w : World) (hc : ls.length ≤ c) (hd : ms.length ≤ d) (n1 : ls.length ≤ 4611686018427387904) (n2 : ms.length ≤ 4611686018427387904) (hL : Lns w p ls) (hM : Lns w q ms) (hg : G w) :
    Calls Tryz.prog 4 #[.slice p ls.length c, .slice q ms.length d, .bool cov] w (GiveB w true) := by
  have c1 := fun V (hv : Below w.heap.size w V) => rbsmall_any p c ls V hc n1 (hL.below hv)
  have c2 := fun V (hv : Below w.heap.size w V) => rbsmall_any q d ms V hd n2 (hM.below hv)
  cases h1 : smB ls with
  | false => rw [h1] at c1; exact keeps7_0 H p c ls q d ms cov w hg (Lib.hid c1)
  | true =>
  rw [h1] at c1
  cases h2 : smB ms with
  | false => rw [h2] at c2; exact keeps7_1 H p c ls q d ms cov w hg (Lib.hid c1) (Lib.hid c2)
  | true =>
  rw [h2] at c2
  obtain ⟨s1, k1⟩ := smB_iff.1 h1
  obtain ⟨s2, k2⟩ := smB_iff.1 h2
  have z1 : ∀ x ∈ ls, SzF x := fun x hx => shL_fit (s1 x hx)
  have z2 : ∀ x ∈ ms, SzF x := fun x hx => shL_fit (s2 x hx)
  have c4 := fun V (hv : Below w.heap.size w V) => rbmay_any p c ls V hc (by omega) (fun x hx => (z1 x hx).szL) (hL.below hv)
  cases hm : mayB ls with
  | false => rw [hm] at c4; exact keeps7_2 H p c ls q d ms cov w hg (Lib.hid c1) (Lib.hid c2) (Lib.hid c4)
  | true =>
  rw [hm] at c4
  have g := good_iff.1 hm
  have sA : ∀ x ∈ ls ++ ms, shL x = true := fun x hx => (List.mem_append.1 hx).elim (s1 x) (s2 x)
  have nA : (ls ++ ms).length ≤ 140 := by rw [List.length_append]; omega
  have way : Way (Dp (ls ++ ms)) Ms ls ms := small_way s1 s2 (fun x hx => List.mem_append.2 (.inl hx)) (fun x hx => List.mem_append.2 (.inr hx)) sA nA (by omega)
  have ca := fun V (hv : Below w.heap.size w V) (hgv : G V) => H.apply p c ls q d ms cov _ _ V hc hd (by omega) (by omega) z1 z2 way (hL.below hv) (hM.below hv) hgv
  cases hR : applyB ls ms cov with
  | mk out e =>
  rw [hR] at ca
  by_cases he : e = 0
  · subst he
    obtain ⟨hO, hb, hS⟩ := applyB_ok g hR
    subst hO
    obtain ⟨ok, bal⟩ := balB_iff.1 hb
    obtain ⟨gC, hasC, totC⟩ := addAll_good g ok
    have nC := addAll_len g ok
    have fC : ∀ x ∈ addAll ls ms, SzF x := by
      have h := way.fit g ok ms.length
      rw [List.take_length] at h; exact h
    have tC : Tame (Dp (ls ++ ms)) (Ms * (ms.length + 1)) (addAll ls ms) := good_tame gC fun k => addAll_bd (Dp_pos _) g ok (way.t1 g) (way.t2 ok) k
    have zC : Sized (Dp (ls ++ ms)) (Ms * (ms.length + 1) * (addAll ls ms).length) := by
      rw [Nat.mul_assoc]
      exact small_sized sA nA (Nat.le_trans (Nat.mul_le_mul (show ms.length + 1 ≤ 141 by omega) (show (addAll ls ms).length ≤ 141 by omega)) (by decide))
    have zL : Sized (Dp (ls ++ ms)) (Ms * ls.length) := small_sized sA nA (by omega)
    have eT : ∀ a, totB (addAll ls ms) a = totB ls a := fun a => by rw [totB_rd gC, totB_rd g, totC, bal, Rat.add_zero]
    have fh : ∀ t k, Fit (rd (hadB ls ms t k)) := fun t k => way.has g ok t k
    have sh : ∀ L : List Ln, Good L → ∀ u k, (∀ x ∈ (holdB L u).take k, x ∈ L) ∧ ((holdB L u).take k).length ≤ L.length := fun L hL u k => by
      have e : holdB L u = L.filter fun x => x.1.2 == u := by unfold holdB; rw [good_iff.2 hL]; rfl
      rw [e]
      exact ⟨fun x hx => (List.mem_filter.1 (List.mem_of_mem_take hx)).1, Nat.le_trans (by rw [List.length_take]; exact Nat.min_le_right _ _) (List.length_filter_le _ _)⟩
    refine keeps7_main H p c ls q d ms cov w hg hM (addAll ls ms) (fun i t => match ms[i]? with | some x => rd (hadB ls ms t x.1) | none => ([48], [49])) (fun i => match ms[i]? with | some x => totB ls x.1.2 | none => ([48], [49])) (fun i => match ms[i]? with | some x => isFree x.1.1 | none => true)
      (fun i => match ms[i]? with | some x => sgnR (rd (hadB ls ms ms.length x.1)) | none => 0) (fun i => match ms[i]? with | some x => sgnR (rd (hadB ls ms 0 x.1)) | none => 0) (by omega) (Lib.hid c1) (Lib.hid c2) (Lib.hid c4) (Lib.hid ca) ?_ ?_ ?_ ?_ ?_ ?_ ?_ ?_ ?_ ?_ ?_
    · refine Lib.hid fun i x hx V hv => ?_
      have k := rbget_any p c ls x.1.1 x.1.2 V hc (by omega) (fun x hx => (z1 x hx).szL) (hL.below hv)
      rw [getB_rd g] at k
      rw [hx]; exact k
    · refine Lib.hid fun i x hx V p' c' hc' hL' => ?_
      have k := rbget_any p' c' (addAll ls ms) x.1.1 x.1.2 V hc' (by omega) (fun x hx => (fC x hx).szL) hL'
      rw [getB_rd gC, ← had_end] at k
      rw [hx]; exact k
    · refine Lib.hid fun i x hx V hv => ?_
      rw [hx]
      exact rbtotal2_any p c ls x.1.2 V hc (by omega) z1 (fun _ k => sum_fit (way.t1 g) (good_rat g) (sh ls g _ k).1 (sh ls g _ k).2 zL) (hL.below hv)
    · refine Lib.hid fun i x hx V p' c' hc' hL' => ?_
      have k := rbtotal2_any p' c' (addAll ls ms) x.1.2 V hc' (by omega) fC (fun _ k => sum_fit tC (good_rat gC) (sh _ gC _ k).1 (sh _ gC _ k).2 zC) hL'
      rw [eT] at k
      rw [hx]; exact k
    · refine Lib.hid fun i x hx t y hy hxy V => ?_
      rw [hx]
      have f := fh t x.1
      have fy := (z2 y (List.mem_of_getElem? hy)).2
      have k := rqadd_any ⟨(rd (hadB ls ms t x.1)).1.toArray⟩ ⟨(rd (hadB ls ms t x.1)).2.toArray⟩ ⟨y.2.1.toArray⟩ ⟨y.2.2.toArray⟩ V (by rw [size_of]; exact Nat.le_trans f.1 (by decide)) (by rw [size_of]; exact Nat.le_trans f.2 (by decide)) (by rw [size_of]; exact Nat.le_trans fy.1 (by decide)) (by rw [size_of]; exact Nat.le_trans fy.2 (by decide))
      have e : addR (rd (hadB ls ms t x.1)) y.2 = rd (hadB ls ms (t + 1) x.1) := by
        have ry := ok_rat (ok y (List.mem_of_getElem? hy))
        rw [had_step g ok hy, if_pos hxy]
        unfold addR
        rw [isR_rd, ry, valR_rd]; rfl
      have k' : Calls Tryz.prog 18 #[.agg #[.string ⟨(rd (hadB ls ms t x.1)).1.toArray⟩, .string ⟨(rd (hadB ls ms t x.1)).2.toArray⟩], .agg #[.string ⟨y.2.1.toArray⟩, .string ⟨y.2.2.toArray⟩]] V (GiveR V (addR (rd (hadB ls ms t x.1)) y.2)) := k
      rw [e] at k'
      exact k'
    · refine Lib.hid fun i x hx t y hy hxy => ?_
      rw [hx]
      show rd _ = rd _
      rw [had_step g ok hy, if_neg hxy, Rat.add_zero]
    · refine Lib.hid fun i x hx V hgv => ?_
      rw [hx]; exact H.free ⟨x.1.1.toArray⟩ V hgv
    · refine Lib.hid fun i x hx V => ?_
      rw [hx]
      have f := fh ms.length x.1
      exact rqsign_any ⟨(rd (hadB ls ms ms.length x.1)).1.toArray⟩ ⟨(rd (hadB ls ms ms.length x.1)).2.toArray⟩ V (by rw [size_of]; exact Nat.le_trans f.1 (by decide)) (by rw [size_of]; exact Nat.le_trans f.2 (by decide))
    · refine Lib.hid fun i x hx V => ?_
      rw [hx]
      have f := fh 0 x.1
      exact rqsign_any ⟨(rd (hadB ls ms 0 x.1)).1.toArray⟩ ⟨(rd (hadB ls ms 0 x.1)).2.toArray⟩ V (by rw [size_of]; exact Nat.le_trans f.1 (by decide)) (by rw [size_of]; exact Nat.le_trans f.2 (by decide))
    · refine Lib.hid fun i hi hcov hf hs => ?_
      obtain ⟨x, hx⟩ : ∃ x, ms[i]? = some x := ⟨_, List.getElem?_eq_getElem hi⟩
      rw [hx] at hf hs ⊢
      dsimp only at hf hs ⊢
      rw [sgn_rd, had_end] at hs
      rw [sgn_rd, had_zero]
      rw [hcov, Bool.true_and, List.any_eq_false] at hS
      refine short_no g gC ?_ hf hs
      have := hS x (List.mem_of_getElem? hx)
      simpa using this
    · refine Lib.hid fun V p' c' hc' hL' => ?_
      have k := rbmay_any p' c' (addAll ls ms) V hc' (by omega) (fun x hx => (fC x hx).szL) hL'
      rw [good_iff.2 gC] at k
      exact k
  · obtain ⟨rfl, h | ⟨rfl, h⟩⟩ := applyB_no g hR he
    · subst h
      exact keeps7_70 H p c ls q d ms cov w hg (Lib.hid c1) (Lib.hid c2) (Lib.hid c4) (Lib.hid ca)
    · subst h
      exact keeps7_71 H p c ls q d ms w hg (Lib.hid c1) (Lib.hid c2) (Lib.hid c4) (Lib.hid ca)
end Go.Proofs.YtamibckbebifkaaGreatDoor

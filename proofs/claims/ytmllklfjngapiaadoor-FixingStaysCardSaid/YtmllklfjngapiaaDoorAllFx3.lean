/- The program's fixes: rows, one behind the other; a fix more. -/
import Derived.Lib.AppendZeros
import Derived.Laws.AppendOwnNone
import Derived.Test.YtmllklfjngapiaaDoorAllFx2
namespace Go.Proofs.YtmllklfjngapiaaDoor
open Go.RowKit
set_option linter.unusedSimpArgs false
set_option linter.unusedVariables false
set_option maxRecDepth 100000 in
set_option maxHeartbeats 4000000 in
theorem fgrow_any (n : Nat) (w : World) (hn : n ≤ 3000000) :
    Calls Tryd.prog 31 #[.slice none 0 0, .int .i64 n] w fun e w' => ∃ v, e = .returned v ∧ OwnX w.heap.size w' v [] ∧ Below w.heap.size w w' := by
  obtain ⟨i0, hi, hz0, hz1, hz2⟩ := info_parts fxInfo
  by_cases h0 : n = 0
  · subst h0
    go_enter Tryd.func31, Tryd.ntmps31
    go_wp2_with fail
    go_ret
    exact ⟨_, rfl, World.ownsRow_nil _ _ _ _, Below.refl _ _⟩
  · have happ := Lib.run_append_nil_zeros (P := Tryd.prog) w 22 3 22 26 i0 (.agg #[.string ⟨#[]⟩, .int .i64 0, .string ⟨#[]⟩, .string ⟨#[]⟩]) .i64 .i64 Tryd.underlying22 Tryd.underlying3 hi hz0 n (by omega) (by rw [hz1]; decide) (by omega) (by rw [hz2]; omega)
    have hge := grownCap_ge w n 0 26
    have hcm := grownCap_le_maxLen w n 0 26 (by unfold maxLen; omega)
    generalize grownCap w n 0 26 = cap at *
    have hn0 : (0 : Int) < (n : Int) := by omega
    have hc0 : ¬ cap = 0 := by omega
    obtain ⟨C, hC⟩ : ∃ C, Builtin.zeroCells (Value.agg #[.string ⟨#[]⟩, .int .i64 0, .string ⟨#[]⟩, .string ⟨#[]⟩]).cells n ++ Builtin.zeroCells (Value.agg #[.string ⟨#[]⟩, .int .i64 0, .string ⟨#[]⟩, .string ⟨#[]⟩]).cells (cap - n) = C := ⟨_, rfl⟩
    have hCs : C.size = cap * 4 := by
      rw [← hC, Array.size_append, size_zeroCells, size_zeroCells]
      show n * 4 + (cap - n) * 4 = cap * 4
      omega
    rw [hC] at happ
    clear hC h0
    go_enter Tryd.func31, Tryd.ntmps31
    go_wp2_with (at_builtin; refine Lib.wpList_append_run _ rfl _ _ _ _ rfl _ _ rfl rfl _ _ happ ?_)
    go_ret
    refine ⟨_, rfl, ⟨rfl, .inr ⟨w.heap.size, cap, C, rfl, Nat.le_refl _, heap_alloc_new w.drew _, Nat.zero_le _, hcm, hCs, ?_⟩⟩, Below.alloc (Below.refl _ _).drew (Nat.le_refl _) _⟩
    show C.toList.take (0 * 4) = []
    rw [Nat.zero_mul, List.take_zero]
abbrev FPt := (Option Addr × Nat) × List Fx.Fix
def fpL (ps : List FPt) : List Fx.Fix := ps.flatMap (·.2)
theorem fpL_more {ps : List FPt} {k : Nat} {x : FPt} (hx : ps[k]? = some x) : fpL (ps.take (k + 1)) = fpL (ps.take k) ++ x.2 := by
  unfold fpL
  rw [List.take_add_one, hx, List.flatMap_append]
  congr 1
  show x.2 ++ [] = x.2
  rw [List.append_nil]
theorem fpL_len {ps : List FPt} (h : ∀ x ∈ ps, x.2.length ≤ 1000000) : (fpL ps).length ≤ ps.length * 1000000 := by
  induction ps with
  | nil => exact Nat.zero_le _
  | cons x r ih =>
    have h1 := h x (List.mem_cons_self ..)
    have h2 := ih fun y hy => h y (List.mem_cons_of_mem _ hy)
    show (x.2 ++ fpL r).length ≤ (r.length + 1) * 1000000
    rw [List.length_append]; omega
set_option maxRecDepth 100000 in
set_option maxHeartbeats 4000000 in
theorem fconcat_any (vb : Nat) (ps : List FPt) (w : World) (hvb : vb < w.heap.size) (hm : ps.length ≤ 3) (hv : ∀ (j : Nat) (x : FPt), ps[j]? = some x → w.cell? ⟨vb, j, none⟩ = some (.slice x.1.1 x.2.length x.1.2)) (hL : ∀ x ∈ ps, Fxs w x.1.1 x.2) (hl : ∀ x ∈ ps, x.2.length ≤ 1000000) :
    Calls Tryd.prog 22 #[.slice (some ⟨vb, 0, none⟩) ps.length ps.length] w fun e w' => (∃ p c, e = .returned (.slice p (fpL ps).length c) ∧ (fpL ps).length ≤ c ∧ Fxs w' p (fpL ps)) ∧ Below w.heap.size w w' := by
  have hS : ∀ k, (fpL (ps.take k)).length ≤ 3000000 := fun k => by
    have h1 := fpL_len (ps := ps.take k) fun x hx => hl x (List.mem_of_mem_take hx)
    rw [List.length_take] at h1
    have : min k ps.length * 1000000 ≤ 3 * 1000000 := Nat.mul_le_mul_right _ (by omega)
    omega
  have HV := Lib.hid hv; have HL := Lib.hid hL; have HS := Lib.hid hS; have HN1 := Lib.hid hl
  have hp3 : ps.length ≤ 4611686018427387904 := by omega
  clear hv hL hS hl hm
  go_enter Tryd.func22, Tryd.ntmps22
  go_wp2
  go_loop [3, 11] (fun z i => ∃ k : Nat, k ≤ ps.length ∧ i = .int .i64 k ∧ z = .int .i64 (fpL (ps.take k)).length) (fun _ i => ps.length - (intOf i).toNat)
  case atStart => exact ⟨0, Nat.zero_le _, rfl, rfl⟩
  case round =>
    obtain ⟨k, hk, rfl, rfl⟩ := hrel
    by_cases hlt : k < ps.length
    · obtain ⟨⟨⟨p, c⟩, l⟩, hx⟩ : ∃ x, ps[k]? = some x := ⟨_, List.getElem?_eq_getElem hlt⟩
      have hc := HV.out k _ hx
      dsimp only at hc
      have h1 := HS.out (k + 1)
      have h2 : (fpL (ps.take (k + 1))).length = (fpL (ps.take k)).length + l.length := by rw [fpL_more hx, List.length_append]
      rw [h2] at h1
      have HN := Lib.hid h2
      clear h2 hx
      generalize (fpL (ps.take k)).length = S at *
      generalize l.length = N at *
      have hw : IntKind.i64.wrap ((S : Int) + (N : Int)) = (S : Int) + (N : Int) := IntWalk.i64_in _ (by omega)
      have hneg : ¬ ((S : Int) + (N : Int) < 0) := by omega
      go_wp2
      go_round
      case rel => exact ⟨k + 1, hlt, by go_num, by rw [HN.out]; go_num⟩
      case measure => simp [intOf]; omega
    · obtain rfl : k = ps.length := by omega
      rw [List.take_length]
      have h3 := HS.out ps.length
      rw [List.take_length] at h3
      have cg := fgrow_any (fpL ps).length
      have CG := Lib.hid cg
      clear cg hlt
      go_wp2_with fail
      refine (CG.out _ h3).mono ?_
      rintro e w1 ⟨v, rfl, hown, hbw⟩
      have hO := Lib.hid hown; have hW := Lib.hid hbw
      clear hown hbw CG h3
      go_wp2_with fail
      go_loopw [6, 27] (fun out i wr => ∃ k : Nat, k ≤ ps.length ∧ i = .int .i64 k ∧ OwnX w.heap.size wr out (fpL (ps.take k)) ∧ Below w.heap.size w wr) (fun _ i _ => ps.length - (intOf i).toNat)
      case atStart => exact ⟨0, Nat.zero_le _, rfl, hO.out, hW.out⟩
      case round =>
        clear hO hW
        obtain ⟨k, hk, rfl, hown, hbw⟩ := hrel
        by_cases hlt : k < ps.length
        · obtain ⟨⟨⟨p, c⟩, l⟩, hx⟩ : ∃ x, ps[k]? = some x := ⟨_, List.getElem?_eq_getElem hlt⟩
          have hc := (hbw.cell (p := ⟨vb, k, none⟩) hvb).trans (HV.out k _ hx)
          dsimp only at hc
          have hll := (HL.out _ (List.mem_of_getElem? hx)).below hbw
          dsimp only at hll
          have HT := Lib.hid (fpL_more hx)
          have h1 := HS.out k
          have h2 := HN1.out _ (List.mem_of_getElem? hx)
          have HS1 := Lib.hid h1
          have HS2 := Lib.hid h2
          have hO := Lib.hid hown; have hW := Lib.hid hbw
          have HC := Lib.hid hll
          clear hown hbw hx h1 h2 hll
          go_wp2_with (at_builtin; refine haltG ?_)
          show wpList _ _ _ _ _ _
          refine wpList_append_M rfl _ _ 22 26 rfl Tryd.underlying22 fxInfo rfl (by decide) (by decide) (fun _ => rfl) encX_one w.heap.size _ (fpL (ps.take k)) rfl hO.out p l c rfl HC.out HS1.out (Nat.le_trans HS2.out (by decide)) (Below.size hW.out) ?_
          intro v' w3 hown' hgrow' _
          have hbw' : Below w.heap.size w w3 := Below.grown hW.out hgrow' (Below.size hW.out) (fun j hj => (World.ownsRow.lt hO.out _ hj).1)
          have X : Hid (OwnX w.heap.size w3 v' (fpL (ps.take (k + 1))) ∧ Below w.heap.size w w3) := Lib.hid ⟨by rw [HT.out]; exact hown', hbw'⟩
          clear hown' hgrow' hbw'
          go_frame
          go_wp2_with fail
          go_roundw
          case rel => exact ⟨k + 1, hlt, by go_num, X.out.1, X.out.2⟩
          case measure => simp [intOf]; omega
        · obtain rfl : k = ps.length := by omega
          rw [List.take_length] at hown
          obtain ⟨q, cq, rfl, hcq, hR, _⟩ := ownG_rows (enc := encX) (k := 4) (fun _ => rfl) hown
          have hO := Lib.hid hR; have hW := Lib.hid hbw
          clear hown hbw hR
          go_wp2_with fail
          go_ret
          exact ⟨⟨q, cq, rfl, hcq, hO.out⟩, hW.out⟩
theorem fxs_takes {w : World} {p : Option Addr} {l : List Fx.Fix} (h : Fxs w p l) (i : Nat) : Fxs w p (l.take i) := fun j x hx => by
  have hj := (List.getElem?_eq_some_iff.1 hx).1
  rw [List.length_take] at hj
  rw [List.getElem?_take_of_lt (by omega)] at hx
  exact h j x hx
theorem fxs_drops {w : World} {b o : Nat} {l : List Fx.Fix} (h : Fxs w (some ⟨b, o, none⟩) l) (i : Nat) : Fxs w (some ⟨b, o + i * 4, none⟩) (l.drop i) := fun j x hx => by
  rw [List.getElem?_drop] at hx
  obtain ⟨b', o', hp, hl, c⟩ := h (i + j) x hx
  cases hp
  rw [Nat.add_mul, ← Nat.add_assoc] at c
  exact ⟨b, o + i * 4, rfl, hl, c⟩
theorem fxs_dropI {w : World} {p : Option Addr} {l : List Fx.Fix} {c i : Nat} (h : Fxs w p l) (hc : l.length ≤ c) : Fxs w (if c = i then p else Option.map (fun x => x.add (i * 4)) p) (l.drop i) := fun j x hx => by
  have hj := (List.getElem?_eq_some_iff.1 hx).1
  rw [List.length_drop] at hj
  rw [if_neg (by omega)]
  rw [List.getElem?_drop] at hx
  obtain ⟨b, o, rfl, hl, k⟩ := h (i + j) x hx
  rw [Nat.add_mul, ← Nat.add_assoc] at k
  exact ⟨b, o + i * 4, by show some (Addr.add _ _) = _; rw [Addr.add_lit], hl, k⟩
/-- Three rows, one behind the other: what is ahead, one that is laid, what is behind. -/
theorem fcat3 (V : World) (p1 p2 : Option Addr) (c1 c2 n1 n2 : Nat) (l1 l2 : List Fx.Fix) (a : List UInt8) (d : Int) (n e : List UInt8) (t u : TypeId) (h1 : l1.length = n1) (h2 : l2.length = n2) (L1 : Fxs V p1 l1) (L2 : Fxs V p2 l2) (s1 : n1 ≤ 1000000) (s2 : n2 ≤ 1000000) :
    Calls Tryd.prog 22 #[.slice (some ⟨V.heap.size + 1, 0, none⟩) 3 3] ((V.alloc (.cells #[.string ⟨a.toArray⟩, .int .i64 d, .string ⟨n.toArray⟩, .string ⟨e.toArray⟩] u)).alloc (.cells #[.slice p1 n1 c1, .slice (some ⟨V.heap.size, 0, none⟩) 1 1, .slice p2 n2 c2] t)).drew fun r w' => (∃ p c, r = .returned (.slice p (l1 ++ (((a, d), (n, e)) :: l2)).length c) ∧ (l1 ++ (((a, d), (n, e)) :: l2)).length ≤ c ∧ Fxs w' p (l1 ++ (((a, d), (n, e)) :: l2))) ∧ Below V.heap.size V w' := by
  subst h1 h2
  have hA : Below V.heap.size V (V.alloc (.cells #[.string ⟨a.toArray⟩, .int .i64 d, .string ⟨n.toArray⟩, .string ⟨e.toArray⟩] u)) := Below.step _ (Below.refl _ _)
  have LA := rowsOne (enc := encX) (k := 4) V ((a, d), (n, e)) u _ rfl
  have hs : (V.alloc (.cells #[.string ⟨a.toArray⟩, .int .i64 d, .string ⟨n.toArray⟩, .string ⟨e.toArray⟩] u)).heap.size = V.heap.size + 1 := by simp
  have L1 := L1.below hA
  have L2 := L2.below hA
  have LA : Fxs (V.alloc (.cells #[.string ⟨a.toArray⟩, .int .i64 d, .string ⟨n.toArray⟩, .string ⟨e.toArray⟩] u)) (some ⟨V.heap.size, 0, none⟩) [((a, d), (n, e))] := LA
  generalize V.alloc (.cells #[.string ⟨a.toArray⟩, .int .i64 d, .string ⟨n.toArray⟩, .string ⟨e.toArray⟩] u) = A at *
  rw [← hs]
  have hb : Below A.heap.size A (A.alloc (.cells #[.slice p1 l1.length c1, .slice (some ⟨V.heap.size, 0, none⟩) 1 1, .slice p2 l2.length c2] t)).drew := (Below.step _ (Below.refl _ _)).drew
  have k := fconcat_any A.heap.size [((p1, c1), l1), ((some ⟨V.heap.size, 0, none⟩, 1), [((a, d), (n, e))]), ((p2, c2), l2)] (A.alloc (.cells #[.slice p1 l1.length c1, .slice (some ⟨V.heap.size, 0, none⟩) 1 1, .slice p2 l2.length c2] t)).drew (by simp [World.drew]) (by simp) (fun j x hx => by
    match j, hx with
    | 0, hx => obtain rfl := Option.some.inj hx; exact cell_new _ _ _ _ rfl 0
    | 1, hx => obtain rfl := Option.some.inj hx; exact cell_new _ _ _ _ rfl 1
    | 2, hx => obtain rfl := Option.some.inj hx; exact cell_new _ _ _ _ rfl 2
    | j + 3, hx => cases hx) (fun x hx => by
    rcases List.mem_cons.1 hx with rfl | hx
    · exact L1.below hb
    · rcases List.mem_cons.1 hx with rfl | hx
      · exact LA.below hb
      · obtain rfl := List.mem_singleton.1 hx; exact L2.below hb) (fun x hx => by
    rcases List.mem_cons.1 hx with rfl | hx
    · exact s1
    · rcases List.mem_cons.1 hx with rfl | hx
      · exact (by decide : 1 ≤ 1000000)
      · obtain rfl := List.mem_singleton.1 hx; exact s2)
  have e : fpL [((p1, c1), l1), ((some ⟨V.heap.size, 0, none⟩, 1), [((a, d), (n, e))]), ((p2, c2), l2)] = l1 ++ (((a, d), (n, e)) :: l2) := by show l1 ++ ([((a, d), (n, e))] ++ (l2 ++ [])) = _; rw [List.append_nil]; rfl
  rw [e] at k
  exact k.mono fun _ _ ⟨he, h⟩ => ⟨he, Below.more hA (Below.more hb h)⟩
section
variable {l : List Fx.Fix} {f : Fx.Fix} {i : Nat}
theorem st_has (h : i < l.length) (h3 : l.Pairwise (fun x y => Fx.lessF x.1 y.1 = true) → i = Fx.rankF l f.1 ∧ true = Fx.thereF l f.1) : Fx.setF l f = none := by
  cases hm : Fx.mayF l with
  | false => exact Fx.set_no hm
  | true =>
    have g := (Fx.good_iffF.1 hm).2
    obtain ⟨x, hx, e⟩ := Fx.there_some (h3 g).2.symm
    exact Fx.set_has ⟨x, List.mem_of_getElem? hx, e⟩
theorem st_yes (hm : Fx.mayF l = true) (hf : Fx.okF f = true) (h3 : l.Pairwise (fun x y => Fx.lessF x.1 y.1 = true) → i = Fx.rankF l f.1 ∧ false = Fx.thereF l f.1) : Fx.setF l f = some (l.take i ++ (f :: l.drop i)) := by
  have g := Fx.good_iffF.1 hm
  rw [Fx.set_yes g hf (Fx.there_not g.2 (h3 g.2).2.symm), Fx.ins_place g.2, (h3 g.2).1]
end
set_option maxRecDepth 100000 in
set_option maxHeartbeats 4000000 in
theorem ffset_any (p : Option Addr) (c : Nat) (l : List Fx.Fix) (a : List UInt8) (d : Int) (n e : List UInt8) (w : World) (hc : l.length ≤ c) (hl : l.length ≤ 999999) (hz : ∀ x ∈ l, SzX x) (hf : SzX ((a, d), (n, e))) (h : Fxs w p l) :
    Calls Tryd.prog 9 #[.slice p l.length c, .agg #[.string ⟨a.toArray⟩, .int .i64 d, .string ⟨n.toArray⟩, .string ⟨e.toArray⟩]] w (GiveT w (Fx.setF l ((a, d), (n, e)))) := by
  have hl : l.length ≤ 1000000 := by omega
  have CF := Lib.hid fun V (hV : Below w.heap.size w V) => ffind_any p c l a d n e V hc hl (h.below hV)
  have CM := Lib.hid fun V (hV : Below w.heap.size w V) => ffmay_any p c l V hc hl hz (h.below hV)
  have CO := Lib.hid fun V => fmay1_any a d n e V hf
  have HS := Lib.hid h
  clear h hz hf
  go_enter Tryd.func9, Tryd.ntmps9
  go_upto_region 1 with fail
  obtain ⟨U, hU, BW, s1, r0, r1, r2, r3⟩ := lay4 (Below.refl w.heap.size w) (.string ⟨a.toArray⟩) (.int .i64 d) (.string ⟨n.toArray⟩) (.string ⟨e.toArray⟩) 26
  rw [hU]; clear hU s1
  have b0 := Below.refl U.heap.size U
  go_wp2_with fail
  refine (CF.out _ BW).mono ?_
  rintro e0 w1 ⟨⟨i, z, rfl, g1, g2, g3⟩, b⟩
  have b1 := Below.more b0 b
  have H3 := Lib.hid g3
  clear b g3 CF
  cases z with
  | true =>
    have HE : Hid (Fx.setF l ((a, d), (n, e)) = none) := Lib.hid (st_has (g2 rfl) H3.out)
    go_wp2_with fail
    refine bodyPost_ret (v := .tuple #[.slice none 0 0, .bool false]) (by simp [results, Tryd.results9, go_sem, *]) rfl ?_
    rw [HE.out]
    exact giveT_no (Below.more BW b1)
  | false =>
    clear g2
    cases ho : Fx.okF ((a, d), (n, e)) with
    | false =>
      have HE : Hid (Fx.setF l ((a, d), (n, e)) = none) := Lib.hid (Fx.set_bad ho)
      have co := fun V => CO.out V
      rw [ho] at co
      have C0 := Lib.hid co
      clear co ho CO
      go_wp2_with fail
      refine (C0.out _).mono ?_
      rintro e0 w2 ⟨rfl, b⟩
      have b2 := Below.more b1 b
      clear b
      go_wp2_with fail
      refine bodyPost_ret (v := .tuple #[.slice none 0 0, .bool false]) (by simp [results, Tryd.results9, go_sem, *]) rfl ?_
      rw [HE.out]
      exact giveT_no (Below.more BW b2)
    | true =>
      cases hm : Fx.mayF l with
      | false =>
        have HE : Hid (Fx.setF l ((a, d), (n, e)) = none) := Lib.hid (Fx.set_no hm)
        have co := fun V => CO.out V
        rw [ho] at co
        have C0 := Lib.hid co
        clear co ho CO
        go_wp2_with fail
        refine (C0.out _).mono ?_
        rintro e0 w2 ⟨rfl, b⟩
        have b2 := Below.more b1 b
        clear b
        have cm := fun V (hV : Below w.heap.size w V) => CM.out V hV
        rw [hm] at cm
        have C1 := Lib.hid cm
        clear cm hm CM
        go_wp2_with fail
        refine (C1.out _ (Below.more BW b2)).mono ?_
        rintro e0 w3 ⟨rfl, b⟩
        have b3 := Below.more b2 b
        clear b
        go_wp2_with fail
        refine bodyPost_ret (v := .tuple #[.slice none 0 0, .bool false]) (by simp [results, Tryd.results9, go_sem, *]) rfl ?_
        rw [HE.out]
        exact giveT_no (Below.more BW b3)
      | true =>
        obtain ⟨R, hR⟩ : ∃ R, l.take i ++ (((a, d), (n, e)) :: l.drop i) = R := ⟨_, rfl⟩
        have HE : Hid (Fx.setF l ((a, d), (n, e)) = some R) := Lib.hid (by rw [← hR]; exact st_yes hm ho H3.out)
        have HR0 := Lib.hid hR
        clear hR
        have co := fun V => CO.out V
        rw [ho] at co
        have C0 := Lib.hid co
        clear co ho CO
        go_wp2_with fail
        refine (C0.out _).mono ?_
        rintro e0 w2 ⟨rfl, b⟩
        have b2 := Below.more b1 b
        clear b
        have cm := fun V (hV : Below w.heap.size w V) => CM.out V hV
        rw [hm] at cm
        have C1 := Lib.hid cm
        clear cm hm CM
        go_wp2_with fail
        refine (C1.out _ (Below.more BW b2)).mono ?_
        rintro e0 w3 ⟨rfl, b⟩
        have b3 := Below.more b2 b
        clear b
        have hri : (i : Int) ≤ (l.length : Int) := by omega
        have hrc : (i : Int) ≤ (c : Int) := by omega
        have f1 : (l.take i).length = i := by rw [List.length_take]; omega
        have f2 : (l.drop i).length = l.length - i := List.length_drop
        have HF1 := Lib.hid f1; have HF2 := Lib.hid f2
        clear f1 f2
        have hB := Lib.hid (Nat.le_refl U.heap.size)
        go_wp2_with fail
        refine wp_region_noPanic ?_
        refine wp_region_held_drew (S := fun w' => Below U.heap.size U w') (by kernel_rfl) (b3.drew) (fun hH0 => ?_)
        refine wpAnyH_take (i := 0) (v := ?_) rfl (by kernel_rfl) (by kernel_rfl) (by kernel_rfl) (fun _ _ _ h => h) (Or.inl ⟨by rfl, ?_⟩) (by assumption) ?_
        rotate_left 1
        · (intro w hSw; (try dsimp only at hSw); go_simp <;> (with_reducible rfl))
        try simp only [Act.put, List.getElem_toArray, List.getElem_cons_succ, List.getElem_cons_zero, List.setIfInBounds_toArray, List.set_cons_zero, List.set_cons_succ]
        refine wpAnyH_take (i := 1) (v := ?_) rfl (by kernel_rfl) (by kernel_rfl) (by kernel_rfl) (fun _ _ _ h => h) (Or.inl ⟨by rfl, ?_⟩) (by assumption) ?_
        rotate_left 1
        · (intro w hSw; (try dsimp only at hSw); go_simp <;> (with_reducible rfl))
        try simp only [Act.put, List.getElem_toArray, List.getElem_cons_succ, List.getElem_cons_zero, List.setIfInBounds_toArray, List.set_cons_zero, List.set_cons_succ]
        refine wpAnyH_take (i := 2) (v := ?_) rfl (by kernel_rfl) (by kernel_rfl) (by kernel_rfl) (fun _ _ _ h => h) (Or.inl ⟨by rfl, ?_⟩) (by assumption) ?_
        rotate_left 1
        · (intro w hSw; (try dsimp only at hSw); go_simp <;> (with_reducible rfl))
        try simp only [Act.put, List.getElem_toArray, List.getElem_cons_succ, List.getElem_cons_zero, List.setIfInBounds_toArray, List.set_cons_zero, List.set_cons_succ]
        refine wpAnyH_take (i := 3) (v := ?_) rfl (by kernel_rfl) (by kernel_rfl) (by kernel_rfl) (fun _ _ _ h => h) (Or.inl ⟨by rfl, ?_⟩) (by assumption) ?_
        rotate_left 1
        · (intro w hSw; (try dsimp only at hSw); go_simp <;> (with_reducible rfl))
        try simp only [Act.put, List.getElem_toArray, List.getElem_cons_succ, List.getElem_cons_zero, List.setIfInBounds_toArray, List.set_cons_zero, List.set_cons_succ]
        refine wpAnyH_take (i := 5) (v := ?_) rfl (by kernel_rfl) (by kernel_rfl) (by kernel_rfl) (fun _ _ _ h => h) (Or.inl ⟨by rfl, ?_⟩) (by assumption) ?_
        rotate_left 1
        · (intro w hSw; (try dsimp only at hSw); go_simp <;> (with_reducible rfl))
        try simp only [Act.put, List.getElem_toArray, List.getElem_cons_succ, List.getElem_cons_zero, List.setIfInBounds_toArray, List.set_cons_zero, List.set_cons_succ]
        refine wpAnyH_take (i := 6) (v := ?_) rfl (by kernel_rfl) (by kernel_rfl) (by kernel_rfl) (fun _ _ _ h => h) (Or.inl ⟨by rfl, ?_⟩) (by assumption) ?_
        rotate_left 1
        · (intro w hSw; (try dsimp only at hSw); go_simp <;> (with_reducible rfl))
        try simp only [Act.put, List.getElem_toArray, List.getElem_cons_succ, List.getElem_cons_zero, List.setIfInBounds_toArray, List.set_cons_zero, List.set_cons_succ]
        refine wpAnyH_take (i := 7) (v := ?_) rfl (by kernel_rfl) (by kernel_rfl) (by kernel_rfl) (fun _ _ _ h => h) (Or.inl ⟨by rfl, ?_⟩) (by assumption) ?_
        rotate_left 1
        · (intro w hSw; (try dsimp only at hSw); go_simp <;> (with_reducible rfl))
        try simp only [Act.put, List.getElem_toArray, List.getElem_cons_succ, List.getElem_cons_zero, List.setIfInBounds_toArray, List.set_cons_zero, List.set_cons_succ]
        refine wpAnyH_ready (rs := [4]) (by kernel_rfl) (by simp) ?_
        refine AllReadyH.cons rfl (fun K hK => ?_) AllReadyH.nil
        go_simp
        refine hK.out _ _ (Below.alloc hH0 (Below.size hH0) _) (fun hH1 => ?_)
        clear hK
        try simp only [Act.put, List.getElem_toArray, List.getElem_cons_succ, List.getElem_cons_zero, List.setIfInBounds_toArray, List.set_cons_zero, List.set_cons_succ]
        refine wpAnyH_ready (rs := [8]) (by kernel_rfl) (by simp) ?_
        refine AllReadyH.cons rfl (fun K hK => ?_) AllReadyH.nil
        go_simp
        refine hK.out _ _ (Below.alloc hH1 (Below.size hH1) _) (fun hH2 => ?_)
        clear hK
        try simp only [Act.put, List.getElem_toArray, List.getElem_cons_succ, List.getElem_cons_zero, List.setIfInBounds_toArray, List.set_cons_zero, List.set_cons_succ]
        refine wpAnyH_ready (rs := [9]) (by kernel_rfl) (by simp) ?_
        refine AllReadyH.cons rfl (fun K hK => ?_) AllReadyH.nil
        go_simp
        have hd := fxs_dropI (i := i) (HS.out.below (Below.more BW b3)) hc
        generalize (if c = i then p else Option.map (fun x => x.add (i * 4)) p) = pq at hd ⊢
        refine (fcat3 w3 _ _ _ _ _ _ _ _ a d n e _ _ HF1.out HF2.out (fxs_takes (HS.out.below (Below.more BW b3)) i) hd (by omega) (by omega)).mono ?_
        rintro e0 w9 ⟨⟨q, cq, rfl, hcq, hR⟩, b⟩
        rw [HR0.out] at hcq hR ⊢
        have b9 := b3.trans (b.mono (Below.size b3))
        have HR := Lib.hid hR
        clear b hR
        (try go_wp2_with fail)
        refine hK.out _ _ b9 (fun hH3 => ?_)
        clear hK hH0 hH1 hH2
        try simp only [Act.put, List.getElem_toArray, List.getElem_cons_succ, List.getElem_cons_zero, List.setIfInBounds_toArray, List.set_cons_zero, List.set_cons_succ]
        refine wpAnyH_take (i := 10) (v := ?_) rfl (by kernel_rfl) (by kernel_rfl) (by kernel_rfl) (fun _ _ _ h => h) (Or.inl ⟨by rfl, ?_⟩) (by assumption) ?_
        rotate_left 1
        · (intro w hSw; (try dsimp only at hSw); go_simp <;> (with_reducible rfl))
        try simp only [Act.put, List.getElem_toArray, List.getElem_cons_succ, List.getElem_cons_zero, List.setIfInBounds_toArray, List.set_cons_zero, List.set_cons_succ]
        refine wpAnyH_take (i := 11) (v := ?_) rfl (by kernel_rfl) (by kernel_rfl) (by kernel_rfl) (fun _ _ _ h => h) (Or.inl ⟨by rfl, ?_⟩) (by assumption) ?_
        rotate_left 1
        · (intro w hSw; (try dsimp only at hSw); go_simp <;> (with_reducible rfl))
        try simp only [Act.put, List.getElem_toArray, List.getElem_cons_succ, List.getElem_cons_zero, List.setIfInBounds_toArray, List.set_cons_zero, List.set_cons_succ]
        refine wpAnyH_done (by kernel_rfl) ?_ _
        refine NoPanic.normal ?_
        go_wp2_with fail
        refine bodyPost_ret (v := .tuple #[.slice q R.length cq, .bool true]) (by simp [results, Tryd.results9, go_sem, *]) rfl ?_
        rw [HE.out]
        exact ⟨⟨q, cq, rfl, hcq, HR.out⟩, Below.more BW b9⟩
end Go.Proofs.YtmllklfjngapiaaDoor

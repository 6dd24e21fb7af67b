/- nat.unscaled. -/
import Derived.Test.YtcekdidefomkfaaDoorTrim
import Derived.Test.YtcekdidefomkfaaDoorMakeIn
import Derived.Test.YtcekdidefomkfaaDoorNumU
import Derived.Test.YtcekdidefomkfaaDoorInRound
namespace Go.Proofs.YtcekdidefomkfaaDoor
open Go.RowKit Go.Shelf
attribute [local go_sem] Oper.semAt_some

/-- How things stand between two rounds. -/
def UnI (w : World) (m t : Nat) (V : Nat → Nat → Prop) (pre : List (Pl m V)) (W : World) : Prop :=
  (Boxed W w.heap.size 62 (.int .u64 (t : Int)) ∧ Boxed W (w.heap.size + 2) 44 (.slice (some ⟨w.heap.size + 1, 0, none⟩) m m) ∧
  Boxed W (w.heap.size + 3) 62 (.int .u64 (((unSt t m (pre.map (·.1))).1 : Nat) : Int)) ∧
  ((unSt t m (pre.map (·.1))).2.length = m ∧ Arr W (w.heap.size + 1) 0 (unSt t m (pre.map (·.1))).2 ∧ Free W (w.heap.size + 1) 0 m)) ∧ Below w.heap.size w W

set_option maxRecDepth 100000 in
set_option maxHeartbeats 600000 in
theorem unscaled_in (F : Fence) (n : Nat) (hFw : Hid (F = Fence.wide)) (h1f : F.fn 80) (h2f : F.fn 78) (h3f : F.fn 93) (h4f : F.fn 76) (hro : F.round = none) (hn : 4 ≤ n) (b off cap m t : Nat) (xs : List Nat) (w : World)
    (hm : xs.length = m) (hs : Small xs) (hmb : m ≤ 2147483648) (hb : b < w.heap.size) (ha : Arr w b off xs) (ht : 0 < t) (htb : t ≤ 999999999) :
    CallsIn F n Tryd.prog 80 #[.slice (some ⟨b, off, none⟩) m cap, .int .u64 (t : Int)] w fun e w' => GiveN w (valL xs / t) e w' := by
  have h1 : 1 ≤ n := by omega
  refine callsIn_of_wp_marks Tryd.func80 rfl h1f ?_ hro
  simp only [Tryd.ntmps80, List.size_toArray, List.length_cons, List.length_nil, Nat.reduceAdd, Nat.reduceSub, Array.replicate_succ, Array.replicate_zero, List.push_toArray, List.append_toArray, List.nil_append, List.cons_append]
  gi_wp2_with (first | (gi_at_make; refine wpListIn_make_limbs _ rfl _ _ rfl _ _ _ _ m rfl rfl (by omega) (by omega) (by omega) ?_; intro w1 hmade) | (gi_at_call 78; refine (behind_in F (n - 1) h2f hro _ _ _ _).mono ?_; rintro e w' ⟨rfl, rfl⟩))
  have hsz1 : w1.heap.size = w.heap.size + 2 := by rw [hmade.size]; simp
  have hmar := hmade.arr
  have hmfr := hmade.free
  rw [World.size_alloc] at hmar hmfr
  rw [hsz1]
  obtain ⟨W2, hW2⟩ : ∃ W2, ((w1.alloc (.cells #[.slice (some ⟨w.heap.size + 1, 0, none⟩) m m] 44)).alloc (.cells #[.int .u64 0] 62)).alloc (.cells #[.slice (some ⟨b, off, none⟩) m cap] 44) = W2 := ⟨_, rfl⟩
  rw [hW2]
  have hB1 : Below w.heap.size w w1 := ((Below.refl _ w).alloc (Nat.le_refl _) _).trans (hmade.below.mono (by simp))
  have hB12 : Below w1.heap.size w1 W2 := by
    rw [← hW2]
    exact (((Below.refl _ w1).alloc (Nat.le_refl _) _).alloc (by simp) _).alloc (by simp; omega) _
  have hB2 : Below w.heap.size w W2 := hB1.trans (hB12.mono (by omega))
  have bT : Boxed W2 w.heap.size 62 (.int .u64 (t : Int)) := (hB12.block _ (by omega)).trans ((hmade.below.block _ (by simp)).trans (Boxed.new w 62 (.int .u64 (t : Int))))
  have bO : Boxed W2 (w.heap.size + 2) 44 (.slice (some ⟨w.heap.size + 1, 0, none⟩) m m) := by
    rw [← hW2, ← hsz1]
    exact ((Boxed.new w1 _ _).alloc _).alloc _
  have bR : Boxed W2 (w.heap.size + 3) 62 (.int .u64 0) := by
    have := (Boxed.new (w1.alloc (.cells #[.slice (some ⟨w.heap.size + 1, 0, none⟩) m m] 44)) 62 (.int .u64 0)).alloc (.cells #[.slice (some ⟨b, off, none⟩) m cap] 44)
    rw [World.size_alloc, hsz1, hW2] at this
    exact this
  have bN : Boxed W2 (w.heap.size + 4) 44 (.slice (some ⟨b, off, none⟩) m cap) := by
    have := Boxed.new ((w1.alloc (.cells #[.slice (some ⟨w.heap.size + 1, 0, none⟩) m m] 44)).alloc (.cells #[.int .u64 0] 62)) 44 (.slice (some ⟨b, off, none⟩) m cap)
    rw [World.size_alloc, World.size_alloc, hsz1, hW2] at this
    exact this
  have hsz2 : W2.heap.size = w.heap.size + 5 := by rw [← hW2]; simp [hsz1]
  have aO : Arr W2 (w.heap.size + 1) 0 (List.replicate m 0) := hmar.below hB12 (by omega)
  have fO : Free W2 (w.heap.size + 1) 0 m := hmfr.below hB12 (by omega)
  clear hW2 hB12 hB1 hmar hmfr
  clear hmade hsz1
  have hRd : Ready (w.heap.size + 4) b off m cap (fun j x => x = gl xs j) W2 := ⟨bN.cell, fun j hj => ⟨_, rfl, ha.below hB2 hb j (by omega)⟩⟩
  rw [show w.heap.size + 2 + 1 = w.heap.size + 3 from rfl, show w.heap.size + 3 + 1 = w.heap.size + 4 from rfl]
  refine wpIn_rangeFunc_ownG hro h1 (gf := 93) (lb := #[.pointer (some ⟨w.heap.size + 4, 0, none⟩)]) rfl h3f (enters_of Tryd.func93 (by kernel_rfl) rfl)
    (behind_stops F (n - 1) h3f hro (by omega) (w.heap.size + 4) b off m cap (fun j x => x = gl xs j) (by omega) W2 (by omega) (by omega) hRd) readyK_t (fun W l o o' _ hl ho _ => readyK_b W l o o' hl ho) (Below.refl _ _) (fun _ => rfl)
    (UnI w m t (fun j x => x = gl xs j)) (fun _ _ _ => False)
    (OwnFrom.and (OwnFrom.and (Own.from (boxed_own _ _ (fun _ => Value.int .u64 (t : Int))) _) (OwnFrom.and (Own.from (boxed_own _ _ (fun _ => Value.slice (some ⟨w.heap.size + 1, 0, none⟩) m m)) _) (OwnFrom.and (Own.from (boxed_own _ _ _) _) (Own.from (arr_own _ _ _ _) _)))) (ownFrom_below (Nat.le_refl _) (by omega)))
    (fun _ _ _ _ _ hs _ _ => hs)
    ⟨⟨bT, bO, bR, List.length_replicate, aO, fO⟩, hB2⟩
    (fun x => { tmps := #[.slice (some ⟨b, off, none⟩) m cap, .int .u64 (t : Int), undef, .pointer (some ⟨w.heap.size, 0, none⟩), .slice none 0 0, .pointer (some ⟨w.heap.size + 2, 0, none⟩), .pointer (some ⟨w.heap.size + 3, 0, none⟩), .int .i64 (x.1.1 : Int), .int .u64 (x.1.2 : Int),
      .slice (some ⟨b, off, none⟩) m cap, .int .i64 (m : Int), .slice (some ⟨w.heap.size + 1, 0, none⟩) m m, .slice (some ⟨b, off, none⟩) m cap, .func (.func 93) #[] #[.pointer (some ⟨w.heap.size + 4, 0, none⟩)], .int .i64 (x.1.1 : Int), .int .u64 (x.1.2 : Int),
      undef, undef, undef, undef, undef, undef, undef, undef, undef, undef, undef, undef, undef, undef, undef], defers := [] }) ?assign ?body ?done ?stop
  case assign =>
    intro l x W K hK
    simp only [encP]
    gi_wp2
    exact hK
  case body =>
    rintro l pre x W ⟨⟨hT, hO, hR, hl, hA, hF⟩, hB⟩ _
    have hp : ∀ p ∈ pre.map (·.1), p.2 < 1000000000 := fun p hp => by
      obtain ⟨q, _, rfl⟩ := List.mem_map.1 hp
      rw [show q.1.2 = gl xs q.1.1 from q.2.2]
      exact hs.gl _
    obtain ⟨s1, s2, s3⟩ := unSt_ok (n := m) ht _ (pre.map (·.1)) rfl hp
    have hx1 := x.2.1
    have hx2 : x.1.2 < 1000000000 := by rw [show x.1.2 = gl xs x.1.1 from x.2.2]; exact hs.gl _
    have hun := unSt_snoc t m (pre.map (·.1)) x.1
    have hI : ∀ W', UnI w m t (fun j x => x = gl xs j) (pre ++ [x]) W' ↔ (Boxed W' w.heap.size 62 (.int .u64 (t : Int)) ∧ Boxed W' (w.heap.size + 2) 44 (.slice (some ⟨w.heap.size + 1, 0, none⟩) m m) ∧
        Boxed W' (w.heap.size + 3) 62 (.int .u64 (((unStep t (unSt t m (pre.map (·.1))) x.1).1 : Nat) : Int)) ∧ ((unStep t (unSt t m (pre.map (·.1))) x.1).2.length = m ∧ Arr W' (w.heap.size + 1) 0 (unStep t (unSt t m (pre.map (·.1))) x.1).2 ∧ Free W' (w.heap.size + 1) 0 m)) ∧ Below w.heap.size w W' := by
      intro W'
      unfold UnI
      rw [List.map_append, List.map_singleton, hun]
    generalize hst : unSt t m (pre.map (·.1)) = s at *
    obtain ⟨r, os⟩ := s
    simp only at s1 s2 s3 hR hl hA
    simp only [unStep] at hI
    have HI := Lib.hid hI; clear hI hun hst hp
    have c1 := hT.cell
    have c2 := hO.cell
    have c3 := hR.cell
    have f3 := hR.frozen
    have c4 := hA x.1.1 (by omega)
    have f4 := hF x.1.1 hx1
    rw [Nat.zero_add] at c4 f4
    have HL := Lib.hid hl; clear hl s3
    gi_wp2
    have hFw' := hFw.out
    subst hFw'
    have hq : IntKind.u64.wrap (((r : Int) * 1000000000 + (x.1.2 : Int)).tdiv (t : Int)) = ((r : Int) * 1000000000 + (x.1.2 : Int)) / (t : Int) := by
      have h0 : (0 : Int) ≤ (r : Int) * 1000000000 + (x.1.2 : Int) := by omega
      rw [Int.tdiv_eq_ediv_of_nonneg h0]
      have h1 : ((r : Int) * 1000000000 + (x.1.2 : Int)) / (t : Int) ≤ (r : Int) * 1000000000 + (x.1.2 : Int) := Int.ediv_le_self _ h0
      have h2 : 0 ≤ ((r : Int) * 1000000000 + (x.1.2 : Int)) / (t : Int) := Int.ediv_nonneg h0 (by omega)
      exact IntWalk.u64_in _ ⟨h2, by omega⟩
    have HQ := Lib.hid hq; clear hq
    refine inRound_held (S := fun w' => w'.cell? ⟨w.heap.size + 2, 0, none⟩ = some (.slice (some ⟨w.heap.size + 1, 0, none⟩) m m) ∧ w'.cell? ⟨w.heap.size + 3, 0, none⟩ = some (.int .u64 ((r : Int) * 1000000000 + (x.1.2 : Int))) ∧ w'.cell? ⟨w.heap.size, 0, none⟩ = some (.int .u64 (t : Int))) (by kernel_rfl) ?hno (by kernel_rfl) ?hS ?hgo
    case hno => rintro ⟨a, w, h⟩; exact h.elim
    case hS => exact ⟨by go_simp, by go_simp, by go_simp⟩
    case hgo =>
      intro hHeld
      refine wpAnyH_take (i := 0) (v := ?v0) rfl (by kernel_rfl) (by kernel_rfl) (by kernel_rfl) (fun _ _ _ h => h) (Or.inl ⟨by rfl, ?y0⟩) hHeld ?r0
      case y0 =>
        intro w hSw
        obtain ⟨s1, s2, s3⟩ := hSw
        go_simp
        try with_reducible rfl
      simp only [Act.put, List.setIfInBounds_toArray]
      refine wpAnyH_take (i := 1) (v := ?v1) rfl (by kernel_rfl) (by kernel_rfl) (by kernel_rfl) (fun _ _ _ h => h) (Or.inl ⟨by rfl, ?y1⟩) hHeld ?r1
      case y1 =>
        intro w hSw
        obtain ⟨s1, s2, s3⟩ := hSw
        go_simp
        try with_reducible rfl
      simp only [Act.put]
      refine wpAnyH_take (i := 2) (v := ?v2) rfl (by kernel_rfl) (by kernel_rfl) (by kernel_rfl) (fun _ _ _ h => h) (Or.inl ⟨by rfl, ?y2⟩) hHeld ?r2
      case y2 =>
        intro w hSw
        obtain ⟨s1, s2, s3⟩ := hSw
        go_simp
        try with_reducible rfl
      simp only [Act.put]
      refine wpAnyH_take (i := 3) (v := ?v3) rfl (by kernel_rfl) (by kernel_rfl) (by kernel_rfl) (fun _ _ _ h => h) (Or.inl ⟨by rfl, ?y3⟩) hHeld ?r3
      case y3 =>
        intro w hSw
        obtain ⟨s1, s2, s3⟩ := hSw
        go_simp
        try with_reducible rfl
      simp only [Act.put]
      refine wpAnyH_take (i := 4) (v := .int .u64 (((r : Int) * 1000000000 + (x.1.2 : Int)) / (t : Int))) rfl (by kernel_rfl) (by kernel_rfl) (by kernel_rfl) (fun _ _ _ h => h) (Or.inl ⟨by rfl, ?y4⟩) hHeld ?r4
      case y4 =>
        intro w hSw
        obtain ⟨s1, s2, s3⟩ := hSw
        go_simp
        rw [if_neg (by omega), HQ.out]
        try with_reducible rfl
      simp only [Act.put]
      refine wpAnyH_take (i := 5) (v := ?v5) rfl (by kernel_rfl) (by kernel_rfl) (by kernel_rfl) (fun _ _ _ h => h) (Or.inl ⟨by rfl, ?y5⟩) hHeld ?r5
      case y5 =>
        intro w hSw
        obtain ⟨s1, s2, s3⟩ := hSw
        go_simp
        try with_reducible rfl
      simp only [Act.put]
      refine wpAnyH_ready (rs := [6]) (by kernel_rfl) (by simp) ?_
      refine AllReadyH.cons rfl (fun K hK => ?_) AllReadyH.nil
      go_simp
      refine hK.out _ _ ⟨by go_simp, by go_simp, by go_simp⟩ (fun hHeld2 => ?_)
      clear hK K hHeld
      refine wpAnyH_done (by kernel_rfl) ?_ _
      clear hHeld2
      have hL := HL.out
      have hc1 : ((r : Int) * 1000000000 + (x.1.2 : Int)) = ((r * 1000000000 + x.1.2 : Nat) : Int) := by omega
      have hv1 : r * 1000000000 + x.1.2 ≤ 1000000000000000000 := by omega
      rw [hc1]
      clear HQ
      generalize hA0 : r * 1000000000 + x.1.2 = A at *
      have hc2 : (A : Int) / (t : Int) = ((A / t : Nat) : Int) := by rw [Int.natCast_ediv]
      have hc3 : (A : Int) % (t : Int) = ((A % t : Nat) : Int) := by rw [Int.natCast_emod]
      rw [hc2]
      clear hA0 hc1 hc2 c3 c4 f3 f4
      generalize hW1 : W.setCell ⟨w.heap.size + 3, 0, none⟩ (.int .u64 (A : Int)) = Wa
      have w1' : Wr W Wa (w.heap.size + 3) 0 1 := by rw [← hW1]; exact Wr.one _ _ _ _
      have hRa : Boxed Wa (w.heap.size + 3) 62 (.int .u64 (A : Int)) := by rw [← hW1]; exact hR.set _
      clear hW1
      generalize hW2 : Wa.setCell ⟨w.heap.size + 1, x.1.1, none⟩ (.int .u64 ((A / t : Nat) : Int)) = Wb
      have w2' : Wr Wa Wb (w.heap.size + 1) x.1.1 (x.1.1 + 1) := by rw [← hW2]; exact Wr.one _ _ _ _
      have hAb : Arr Wb (w.heap.size + 1) 0 (os.set x.1.1 (A / t)) := by
        have := (w1'.arr (by omega) hA).set (k := x.1.1) (by omega) (A / t)
        rw [Nat.zero_add, hW2] at this
        exact this
      have hRb : Boxed Wb (w.heap.size + 3) 62 (.int .u64 (A : Int)) := w2'.boxed (by omega) hRa
      have hTb : Boxed Wb w.heap.size 62 (.int .u64 (t : Int)) := w2'.boxed (by omega) (w1'.boxed (by omega) hT)
      clear hW2
      clear c1 c2
      have w2d : Wr Wa Wb.drew (w.heap.size + 1) x.1.1 (x.1.1 + 1) := w2'.drew
      have hAd : Arr Wb.drew (w.heap.size + 1) 0 (os.set x.1.1 (A / t)) := hAb
      have hRd2 : Boxed Wb.drew (w.heap.size + 3) 62 (.int .u64 (A : Int)) := hRb
      have hTd : Boxed Wb.drew w.heap.size 62 (.int .u64 (t : Int)) := hTb
      clear w2' hAb hRb hTb
      generalize Wb.drew = Wc at *
      have w2' := w2d
      have hAb := hAd
      have hRb := hRd2
      have hTb := hTd
      clear w2d hAd hRd2 hTd
      have c1 := hTb.cell
      have c3 := hRb.cell
      have f3 := hRb.frozen
      have HC3 := Lib.hid hc3; clear hc3
      have HLL := Lib.hid hL; clear hL
      gi_wp2
      rw [HC3.out]
      have w3' := Wr.one Wc (w.heap.size + 3) 0 (.int .u64 ((A % t : Nat) : Int))
      have hk := (w1'.keeps.trans w2'.keeps).trans w3'.keeps
      refine ⟨hk.from _, ReadyK.of ?_ ?_, (HI.out _).2 ⟨⟨?_, ?_, ?_, ?_, ?_, ?_⟩, ?_⟩⟩
      · exact (w3'.far (by omega) 0).trans ((w2'.far (by omega) 0).trans (w1'.far (by omega) 0))
      · exact fun j _ => (w3'.far (by omega) _).trans ((w2'.far (by omega) _).trans (w1'.far (by omega) _))
      · exact w3'.boxed (by omega) hTb
      · exact w3'.boxed (by omega) (w2'.boxed (by omega) (w1'.boxed (by omega) hO))
      · exact hRb.set _
      · rw [List.length_set]; exact HLL.out
      · exact w3'.arr (by omega) hAb
      · exact fun j hj => (w3'.farFrozen (by omega) _).trans ((w2'.frozen _).trans ((w1'.farFrozen (by omega) _).trans (hF j hj)))
      · have h1 := hB.trans (w1'.below (by omega) hB.size)
        have h2 := h1.trans (w2'.below (by omega) h1.size)
        exact h2.trans (w3'.below (by omega) h2.size)
  case done =>
   as_aux_lemma =>
    rintro D ys W hD hS ⟨⟨hT, hO, hR, hl, hA, hF⟩, hB⟩ hK
    have hval := unSt_done (n := m) (f := gl xs) ht (fun j => hs.gl j) (pre := ys.map (·.1)) (by
      have h2 : idx ys = dn m m := hS
      unfold idx dn at h2
      rw [List.map_map]
      exact h2) (fun p hp => by
      obtain ⟨q, _, rfl⟩ := List.mem_map.1 hp
      exact q.2.2)
    obtain ⟨s1, s2, s3⟩ := unSt_ok (n := m) ht _ (ys.map (·.1)) rfl (fun p hp => by
      obtain ⟨q, _, rfl⟩ := List.mem_map.1 hp
      rw [show q.1.2 = gl xs q.1.1 from q.2.2]
      exact hs.gl _)
    rw [show sumTo (gl xs) m = valL xs from by unfold valL; rw [hm]] at hval
    generalize hst : (unSt t m (ys.map (·.1))).2 = os at *
    have c2 := hO.cell
    have HV := Lib.hid hval; have HL := Lib.hid hl
    have hD' : w.heap.size ≤ D := by omega
    have hws : w.heap.size + 1 < W.heap.size := by have := hO.lt; omega
    clear hst hval hl hm hsz2 hS
    gi_wp2_with (gi_at_call 76; refine (trim_in F (n - 1) h4f h2f h3f hro (by omega) (w.heap.size + 1) 0 m m os W HL.out s2 (by omega) (by omega) hws hA).mono ?_; rintro e w2 ⟨v, rfl, hv, hbl⟩)
    have hK2 : w2.heap[D]? = some (.deferred (some [])) := (hbl.block D (Array.getElem?_eq_some_iff.1 hK).1).trans hK
    refine ⟨by simp, .inl ⟨_, _, rfl, run_takeDeferred hK2, ?_⟩⟩
    have hlp : Below w.heap.size w (w2.putObj D (.deferred none)) := (hB.trans (hbl.mono hB.size)).trans (belowK_b (w := w) (Nat.le_refl _) w2 D _ (.deferred none) hD' hK2 rfl rfl)
    have hvp := LimN.putObj hv hK2 rfl (.deferred none)
    exact ⟨_, results_tmp rfl _ _ _, v, rfl, by rw [← HV.out]; exact hvp, hlp⟩
  case stop =>
    rintro D c pre W _ _ h _
    exact h.elim

theorem unscaled_any (b off cap m t : Nat) (xs : List Nat) (w : World) (hm : xs.length = m) (hs : Small xs) (hmb : m ≤ 2147483648) (hb : b < w.heap.size) (ha : Arr w b off xs) (ht : 0 < t) (htb : t ≤ 999999999) :
    Calls Tryd.prog 80 #[.slice (some ⟨b, off, none⟩) m cap, .int .u64 (t : Int)] w fun e w' => GiveN w (valL xs / t) e w' :=
  callsIn_wide.1 (unscaled_in Fence.wide 4 (Lib.hid rfl) trivial trivial trivial trivial rfl (by omega) b off cap m t xs w hm hs hmb hb ha ht htb)
end Go.Proofs.YtcekdidefomkfaaDoor

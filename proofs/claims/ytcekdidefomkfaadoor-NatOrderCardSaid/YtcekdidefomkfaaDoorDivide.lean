/- nat.divide. -/
import Derived.Test.YtcekdidefomkfaaDoorUnscaled
import Derived.Test.YtcekdidefomkfaaDoorTakeOut
import Derived.Test.YtcekdidefomkfaaDoorNumV
namespace Go.Proofs.YtcekdidefomkfaaDoor
open Go.RowKit Go.Shelf
attribute [local go_sem] Oper.semAt_some

theorem inF {F : Fence} {n f : Nat} {P : Program} {args : Array Value} {w : World} {R : Ending → World → Prop} (hF : Hid (F = Fence.wide)) (h : Calls P f args w R) : CallsIn F n P f args w R := by
  rw [hF.out]; exact callsIn_wide.2 h

/-- Shorter is less: nothing is divided. -/
theorem divide_less (w : World) (va vb : Value) (xs ys : List Nat) (la : Lim w va xs) (lb : Lim w vb ys) (_hx : xs.length ≤ 1073741824) (_hy : ys.length ≤ 1073741824) (hlt : xs.length < ys.length) :
    Calls Tryd.prog 62 #[va, vb] w fun e w' => e = .returned (.tuple #[.slice none 0 0, va]) ∧ w = w' := by
  obtain ⟨aa, ca, rfl⟩ := la.form
  obtain ⟨ab, cb, rfl⟩ := lb.form
  go_enter Tryd.func62, Tryd.ntmps62
  go_wp2
  go_ret2
  exact ⟨rfl, rfl⟩

/-- How things stand between two rounds. -/
def DvI (w : World) (mq nb : Nat) (left0 zs : List Nat) (pre : List (Pl mq (fun _ _ => True))) (W : World) : Prop :=
  ((∃ left quot : List Nat, (left.length = mq + nb + 1 ∧ Small left ∧ quot.length = mq ∧ (∀ k, k ≤ mq → idx pre = dn mq k → DvKey zs left0 mq k left quot)) ∧
    (Arr W w.heap.size 0 left ∧ Free W w.heap.size 0 (mq + nb + 1)) ∧ (Arr W (w.heap.size + 4) 0 quot ∧ Free W (w.heap.size + 4) 0 mq) ∧ Arr W (w.heap.size + 1) 0 zs) ∧
  Boxed W (w.heap.size + 2) 44 (.slice (some ⟨w.heap.size, 0, none⟩) (mq + nb + 1) (mq + nb + 1)) ∧ Boxed W (w.heap.size + 3) 44 (.slice (some ⟨w.heap.size + 1, 0, none⟩) (nb + 1 + 1) (nb + 1 + 1)) ∧
  Boxed W (w.heap.size + 5) 44 (.slice (some ⟨w.heap.size + 4, 0, none⟩) mq mq)) ∧ Below w.heap.size w W

theorem arr_kept {b off : Nat} {xs : List Nat} {A B : World} {row : Option Nat} (h : Arr A b off xs) (hg : A.grownBy B row) (hr : ∀ r, row = some r → ∃ o : Obj, A.heap[r]? = some o ∧ o.isCells = false) : Arr B b off xs :=
  fun j hj => cell_kept (h j hj) hg hr
theorem free_kept {b off n : Nat} {xs : List Nat} {A B : World} {row : Option Nat} (h : Arr A b off xs) (hl : n ≤ xs.length) (hf : Free A b off n) (hg : A.grownBy B row) (hr : ∀ r, row = some r → ∃ o : Obj, A.heap[r]? = some o ∧ o.isCells = false) : Free B b off n :=
  fun j hj => (frozen_kept (h j (by omega)) hg hr).trans (hf j hj)
theorem dvI_own (w : World) (mq nb : Nat) (left0 zs : List Nat) {D : Nat} (hD : w.heap.size ≤ D) : OwnFrom D (DvI w mq nb left0 zs) := fun s A B row hs hg hr => by
  obtain ⟨⟨⟨left, quot, ⟨h1, h2, h3, h4⟩, ⟨h5, h6⟩, ⟨h7, h8⟩, h9⟩, h10, h11, h12⟩, h13⟩ := hs
  have hr' := fun r e => (hr r e).2
  exact ⟨⟨⟨left, quot, ⟨h1, h2, h3, h4⟩, ⟨arr_kept h5 hg hr', free_kept h5 (by omega) h6 hg hr'⟩, ⟨arr_kept h7 hg hr', free_kept h7 (by omega) h8 hg hr'⟩, arr_kept h9 hg hr'⟩,
    boxed_own _ _ (fun _ : Unit => _) () A B row h10 hg hr', boxed_own _ _ (fun _ : Unit => _) () A B row h11 hg hr', boxed_own _ _ (fun _ : Unit => _) () A B row h12 hg hr'⟩,
    ownFrom_below (Nat.le_refl _) hD () A B row h13 hg hr⟩

set_option maxRecDepth 100000 in
set_option maxHeartbeats 1000000 in
theorem divide_in (F : Fence) (n : Nat) (hFw : Hid (F = Fence.wide)) (h1f : F.fn 62) (h2f : F.fn 78) (h3f : F.fn 93) (h4f : F.fn 77) (hro : F.round = none) (hn : 4 ≤ n)
    (w : World) (aa : Option Addr) (ca bb ob cb mq nb : Nat) (xs ys : List Nat) (hxl : xs.length = mq + nb) (hyl : ys.length = nb + 1) (hmq : 1 ≤ mq) (hbig : mq + nb ≤ 1073741824) (la : Lim w (.slice aa (mq + nb) ca) xs) (hys : Small ys) (hyn : Norm ys) (hbb : bb < w.heap.size) (hay : Arr w bb ob ys) (hcb : nb + 1 ≤ cb) (hcm : cb ≤ 4611686018427387904) :
    CallsIn F n Tryd.prog 62 #[.slice aa (mq + nb) ca, .slice (some ⟨bb, ob, none⟩) (nb + 1) cb] w fun e w' => ∃ v1 v2, e = .returned (.tuple #[v1, v2]) ∧ LimN w' v1 (valL xs / valL ys) ∧ LimN w' v2 (valL xs % valL ys) ∧ Below w.heap.size w w' := by
  have h1 : 1 ≤ n := by omega
  have lb : Lim w (.slice (some ⟨bb, ob, none⟩) (nb + 1) cb) ys := ⟨hys, .inr ⟨bb, ob, cb, by rw [hyl], by omega, hcm, hbb, hay⟩⟩
  have c1 := hay nb (by omega)
  have g1 := hys.gl nb
  have HXL := Lib.hid hxl; have HYL := Lib.hid hyl; clear hxl hyl
  refine callsIn_of_wp_marks Tryd.func62 rfl h1f ?_ hro
  simp only [Tryd.ntmps62, List.size_toArray, List.length_cons, List.length_nil, Nat.reduceAdd, Nat.reduceSub, Array.replicate_succ, Array.replicate_zero, List.push_toArray, List.append_toArray, List.nil_append, List.cons_append]
  gi_wp2_with fail
  obtain ⟨t, ht⟩ : ∃ t : Nat, t = 1000000000 / (gl ys nb + 1) := ⟨_, rfl⟩
  have ht2 : (1000000000 : Int) / (↑(gl ys nb) + 1) = (t : Int) := by
    rw [ht, Int.natCast_ediv, Int.natCast_add]
    rfl
  rw [ht2]
  have htb : t ≤ 999999999 := by
    have h0 := hyn (by intro e; have := HYL.out; rw [e] at this; simp at this)
    rw [HYL.out, Nat.add_sub_cancel, gl_eq] at h0
    rw [ht]
    exact Nat.le_trans (Nat.div_le_div_left (show 2 ≤ gl ys nb + 1 from by omega) (by decide)) (by decide)
  have HT := Lib.hid ht; clear ht ht2 c1
  refine (inF hFw (scaled_any w (.slice aa (mq + nb) ca) xs (mq + nb) t HXL.out (by omega) la htb)).mono ?_
  rintro e w1 ⟨left0, rfl, hl0, hs0, hv0, ha0, hf0, hb0, hz0⟩
  have lb1 := lb.below hb0
  have HL0 := Lib.hid hl0; have HV0 := Lib.hid hv0; have HZ0 := Lib.hid hz0; clear hl0 hv0 hz0
  gi_wp2_with fail
  refine (inF hFw (scaled_any w1 (.slice (some ⟨bb, ob, none⟩) (nb + 1) cb) ys (nb + 1) t HYL.out (by omega) lb1 htb)).mono ?_
  rintro e w2 ⟨zs, rfl, hlz, hsz, hvz, haz, hfz, hbz, hzz⟩
  have HLZ := Lib.hid hlz; have HVZ := Lib.hid hvz; have HZZ := Lib.hid hzz; clear hlz hvz hzz
  rw [HZ0.out]
  gi_wp2_with (first | (gi_at_make; refine wpListIn_make_limbs _ rfl _ _ rfl _ _ _ _ mq rfl rfl (by omega) (by omega) (by omega) ?_; intro w3 hmade) | (gi_at_call 78; refine (behind_in F (n - 1) h2f hro _ _ _ _).mono ?_; rintro e w' ⟨rfl, rfl⟩))
  -- the world at the loop, under a name
  have hsz2 : w2.heap.size = w.heap.size + 2 := by rw [HZZ.out, HZ0.out]
  have hsz3 : w3.heap.size = w.heap.size + 5 := by rw [hmade.size]; simp [hsz2]
  have hmar := hmade.arr
  have hmfr := hmade.free
  have hmbl := hmade.below
  rw [World.size_alloc, World.size_alloc, hsz2] at hmar hmfr hmbl
  have hB2 : Below w.heap.size w w2 := hb0.trans (hbz.mono hb0.size)
  have hB23 : Below w2.heap.size w2 w3 := (((Below.refl _ w2).alloc (Nat.le_refl _) _).alloc (by simp) _).trans (hmbl.mono (by omega))
  have bL3 : Boxed w3 (w.heap.size + 2) 44 (.slice (some ⟨w.heap.size, 0, none⟩) (mq + nb + 1) (mq + nb + 1)) := by
    refine (hmbl.block _ (by omega)).trans ?_
    rw [← hsz2]
    exact (Boxed.new w2 _ _).alloc _
  have bY3 : Boxed w3 (w.heap.size + 3) 44 (.slice (some ⟨w.heap.size + 1, 0, none⟩) (nb + 1 + 1) (nb + 1 + 1)) := by
    refine (hmbl.block _ (by omega)).trans ?_
    have := Boxed.new (w2.alloc (.cells #[.slice (some ⟨w.heap.size, 0, none⟩) (mq + nb + 1) (mq + nb + 1)] 44)) 44 (.slice (some ⟨w.heap.size + 1, 0, none⟩) (nb + 1 + 1) (nb + 1 + 1))
    rw [World.size_alloc, hsz2] at this
    exact this
  rw [hsz3, hsz2]
  rw [show w.heap.size + 2 + 1 + 1 = w.heap.size + 4 from rfl, show w.heap.size + 2 + 1 = w.heap.size + 3 from rfl, show w.heap.size + 5 + 1 = w.heap.size + 6 from rfl] at *
  obtain ⟨W2, hW2⟩ : ∃ W2, (w3.alloc (.cells #[.slice (some ⟨w.heap.size + 4, 0, none⟩) mq mq] 44)).alloc (.cells #[.slice (some ⟨w.heap.size + 4, 0, none⟩) mq mq] 44) = W2 := ⟨_, rfl⟩
  rw [hW2]
  have hB3W : Below w3.heap.size w3 W2 := by
    rw [← hW2]
    exact ((Below.refl _ w3).alloc (Nat.le_refl _) _).alloc (by simp) _
  have bQ : Boxed W2 (w.heap.size + 5) 44 (.slice (some ⟨w.heap.size + 4, 0, none⟩) mq mq) := by
    rw [← hW2, ← hsz3]
    exact (Boxed.new w3 _ _).alloc _
  have bN : Boxed W2 (w.heap.size + 6) 44 (.slice (some ⟨w.heap.size + 4, 0, none⟩) mq mq) := by
    have := Boxed.new (w3.alloc (.cells #[.slice (some ⟨w.heap.size + 4, 0, none⟩) mq mq] 44)) 44 (.slice (some ⟨w.heap.size + 4, 0, none⟩) mq mq)
    rw [World.size_alloc, hsz3, hW2] at this
    exact this
  have bL : Boxed W2 (w.heap.size + 2) 44 (.slice (some ⟨w.heap.size, 0, none⟩) (mq + nb + 1) (mq + nb + 1)) := (hB3W.block _ (by omega)).trans bL3
  have bY : Boxed W2 (w.heap.size + 3) 44 (.slice (some ⟨w.heap.size + 1, 0, none⟩) (nb + 1 + 1) (nb + 1 + 1)) := (hB3W.block _ (by omega)).trans bY3
  have hB2W : Below w2.heap.size w2 W2 := hB23.trans (hB3W.mono (by omega))
  have hBW : Below w.heap.size w W2 := hB2.trans (hB2W.mono (by omega))
  have hz1 : w1.heap.size = w.heap.size + 1 := HZ0.out
  have aL : Arr W2 w.heap.size 0 left0 := (ha0.below hbz (by omega)).below hB2W (by omega)
  have fL : Free W2 w.heap.size 0 (mq + nb + 1) := (hf0.below hbz (by omega)).below hB2W (by omega)
  have aY : Arr W2 (w.heap.size + 1) 0 zs := by rw [hz1] at haz; exact haz.below hB2W (by omega)
  have aQ : Arr W2 (w.heap.size + 4) 0 (List.replicate mq 0) := hmar.below hB3W (by omega)
  have fQ : Free W2 (w.heap.size + 4) 0 mq := hmfr.below hB3W (by omega)
  have hszW : W2.heap.size = w.heap.size + 7 := by rw [← hW2]; simp [hsz3]
  obtain ⟨htp, _, hdiv, hDb⟩ := scale_ok (nb := nb) hyn hys HYL.out HT.out HLZ.out hsz HVZ.out
  have hstart : DvKey zs left0 mq 0 left0 (List.replicate mq 0) := DvKey.start (dv_first (nb := nb) (xs := xs) (ys := ys) (t := t) la.1 (by rw [HXL.out]; omega) hyn HYL.out htp (by rw [HL0.out]; omega) HV0.out HVZ.out)
  have hRd : Ready (w.heap.size + 6) (w.heap.size + 4) 0 mq mq (fun _ _ => True) W2 := ⟨bN.cell, fun j hj => ⟨_, trivial, aQ j (by rw [List.length_replicate]; exact hj)⟩⟩
  have HST := Lib.hid hstart
  clear hstart hW2 hB3W hB23 hB2 hB2W hmar hmfr hmbl bL3 bY3 hsz2 hsz3 hz1 haz hfz ha0 hf0 hb0 hbz lb1
  clear hmade
  refine wpIn_rangeFunc_ownG hro h1 (gf := 93) (lb := #[.pointer (some ⟨w.heap.size + 6, 0, none⟩)]) rfl h3f (enters_of Tryd.func93 (by kernel_rfl) rfl)
    (behind_stops F (n - 1) h3f hro (by omega) (w.heap.size + 6) (w.heap.size + 4) 0 mq mq (fun _ _ => True) (by omega) W2 (by omega) (by omega) hRd) readyK_t (fun W l o o' _ hl ho _ => readyK_b W l o o' hl ho) (Below.refl _ _) (fun _ => rfl)
    (DvI w mq nb left0 zs) (fun _ _ _ => False) (dvI_own w mq nb left0 zs (by omega)) (fun _ _ _ _ _ hs _ _ => hs)
    ⟨⟨⟨left0, List.replicate mq 0, ⟨HL0.out, hs0, List.length_replicate, fun k hk hi => by
      have : k = 0 := by have := congrArg List.length hi; rw [dn_length] at this; simpa [idx] using this.symm
      subst this
      exact HST.out⟩, ⟨aL, fL⟩, ⟨aQ, fQ⟩, aY⟩, bL, bY, bQ⟩, hBW⟩
    (fun x => { tmps := #[.slice aa (mq + nb) ca, .slice (some ⟨bb, ob, none⟩) (nb + 1) cb, undef, undef, .slice none 0 0, .slice none 0 0, .int .u64 (t : Int), .pointer (some ⟨w.heap.size + 2, 0, none⟩), .pointer (some ⟨w.heap.size + 3, 0, none⟩), .pointer (some ⟨w.heap.size + 5, 0, none⟩), .int .i64 (x.1.1 : Int),
      .slice aa (mq + nb) ca, .int .i64 ((mq : Int) + (nb : Int)), .slice (some ⟨bb, ob, none⟩) (nb + 1) cb, .int .i64 ((nb : Int) + 1), .bool (decide ((mq : Int) + (nb : Int) < (nb : Int) + 1)), undef, .slice (some ⟨bb, ob, none⟩) (nb + 1) cb, .slice (some ⟨bb, ob, none⟩) (nb + 1) cb, .int .i64 ((nb : Int) + 1), .int .i64 (nb : Int),
      .pointer (some ⟨bb, ob + nb, none⟩), .int .u64 (gl ys nb : Int), .int .u64 ((gl ys nb : Int) + 1), .int .u64 (t : Int), .slice aa (mq + nb) ca, .int .u64 (t : Int), .slice (some ⟨w.heap.size, 0, none⟩) (mq + nb + 1) (mq + nb + 1), .slice (some ⟨bb, ob, none⟩) (nb + 1) cb, .int .u64 (t : Int), .slice (some ⟨w.heap.size + 1, 0, none⟩) (nb + 1 + 1) (nb + 1 + 1),
      .slice aa (mq + nb) ca, .int .i64 ((mq : Int) + (nb : Int)), .slice (some ⟨bb, ob, none⟩) (nb + 1) cb, .int .i64 ((nb : Int) + 1), .int .i64 ((mq : Int) + (nb : Int) - ((nb : Int) + 1)), .int .i64 ((mq : Int) + (nb : Int) - ((nb : Int) + 1) + 1), .slice (some ⟨w.heap.size + 4, 0, none⟩) mq mq, .slice (some ⟨w.heap.size + 4, 0, none⟩) mq mq,
      .func (.func 93) #[] #[.pointer (some ⟨w.heap.size + 6, 0, none⟩)], .int .i64 (x.1.1 : Int), .int .u64 (x.1.2 : Int), undef, undef, undef, undef, undef, undef, undef, undef, undef, undef, undef, undef, undef, undef, undef, undef, undef], defers := [] }) ?assign ?body ?done ?stop
  case assign =>
    intro l x W K hK
    simp only [encP]
    gi_wp2
    exact hK
  case body =>
    rintro l pre x W ⟨⟨⟨left, quot, ⟨d1, d2, d3, d4⟩, ⟨d5, d6⟩, ⟨d7, d8⟩, d9⟩, d10, d11, d12⟩, d13⟩ _
    have hx1 := x.2.1
    have c10 := d10.cell
    have c11 := d11.cell
    have c12 := d12.cell
    have HD1 := Lib.hid d1; have HD3 := Lib.hid d3; have HD4 := Lib.hid d4; clear d1 d3 d4
    gi_wp2
    have hFw' := hFw.out
    subst hFw'
    have q1 : IntKind.i64.wrap ((x.1.1 : Int) + ((nb : Int) + 1 + 1)) = (x.1.1 : Int) + ((nb : Int) + 1 + 1) := IntWalk.i64_in _ (by omega)
    have q2 : 0 ≤ (x.1.1 : Int) + ((nb : Int) + 1 + 1) := by omega
    have q3 : ((x.1.1 : Int) + ((nb : Int) + 1 + 1)).toNat = x.1.1 + (nb + 1 + 1) := by omega
    have q4 : ¬ (mq + nb + 1 = x.1.1) := by omega
    have q5 : (x.1.1 : Int) + ((nb : Int) + 1 + 1) ≤ (mq : Int) + (nb : Int) + 1 := by omega
    refine inRound_held (S := fun w' => w'.cell? ⟨w.heap.size + 5, 0, none⟩ = some (.slice (some ⟨w.heap.size + 4, 0, none⟩) mq mq) ∧ w'.cell? ⟨w.heap.size + 2, 0, none⟩ = some (.slice (some ⟨w.heap.size, 0, none⟩) (mq + nb + 1) (mq + nb + 1)) ∧ w'.cell? ⟨w.heap.size + 3, 0, none⟩ = some (.slice (some ⟨w.heap.size + 1, 0, none⟩) (nb + 1 + 1) (nb + 1 + 1))) (by kernel_rfl) ?hno (by kernel_rfl) ?hS ?hgo
    case hno => rintro ⟨a, w, h⟩; exact h.elim
    case hS => exact ⟨by go_simp, by go_simp, by go_simp⟩
    case hgo =>
      have e5 : Arr W.drew w.heap.size 0 left := d5
      have e6 : Free W.drew w.heap.size 0 (mq + nb + 1) := d6
      have e7 : Arr W.drew (w.heap.size + 4) 0 quot := d7
      have e8 : Free W.drew (w.heap.size + 4) 0 mq := d8
      have e9 : Arr W.drew (w.heap.size + 1) 0 zs := d9
      have eW : Wr W W.drew w.heap.size 0 0 := (Wr.refl W w.heap.size 0 0).drew
      intro hHeld
      clear c10 c11 c12
      generalize W.drew = Wd at *
      refine wpAnyH_take (i := 0) (v := ?v0) rfl (by kernel_rfl) (by kernel_rfl) (by kernel_rfl) (fun _ _ _ h => h) (Or.inl ⟨by rfl, ?y0⟩) hHeld ?r0
      case y0 =>
        intro w hSw
        obtain ⟨s1, s2, s3⟩ := hSw
        go_simp
        try with_reducible rfl
      simp only [Act.put, List.setIfInBounds_toArray]
      refine wpAnyH_take (i := 1) (v := ?v1) rfl (by kernel_rfl) (by kernel_rfl) (by kernel_rfl) (fun _ _ _ h => h) (Or.inl ⟨by rfl, ?y1⟩) hHeld ?r1
      case y1 =>
        intro w hSw
        obtain ⟨s1, s2, s3⟩ := hSw
        go_simp
        try with_reducible rfl
      simp only [Act.put]
      refine wpAnyH_take (i := 2) (v := ?v2) rfl (by kernel_rfl) (by kernel_rfl) (by kernel_rfl) (fun _ _ _ h => h) (Or.inl ⟨by rfl, ?y2⟩) hHeld ?r2
      case y2 =>
        intro w hSw
        obtain ⟨s1, s2, s3⟩ := hSw
        go_simp
        try with_reducible rfl
      simp only [Act.put]
      refine wpAnyH_take (i := 3) (v := ?v3) rfl (by kernel_rfl) (by kernel_rfl) (by kernel_rfl) (fun _ _ _ h => h) (Or.inl ⟨by rfl, ?y3⟩) hHeld ?r3
      case y3 =>
        intro w hSw
        obtain ⟨s1, s2, s3⟩ := hSw
        go_simp
        try with_reducible rfl
      simp only [Act.put]
      refine wpAnyH_take (i := 4) (v := ?v4) rfl (by kernel_rfl) (by kernel_rfl) (by kernel_rfl) (fun _ _ _ h => h) (Or.inl ⟨by rfl, ?y4⟩) hHeld ?r4
      case y4 =>
        intro w hSw
        obtain ⟨s1, s2, s3⟩ := hSw
        go_simp
        try with_reducible rfl
      simp only [Act.put]
      refine wpAnyH_take (i := 5) (v := ?v5) rfl (by kernel_rfl) (by kernel_rfl) (by kernel_rfl) (fun _ _ _ h => h) (Or.inl ⟨by rfl, ?y5⟩) hHeld ?r5
      case y5 =>
        intro w hSw
        obtain ⟨s1, s2, s3⟩ := hSw
        go_simp
        try with_reducible rfl
      simp only [Act.put]
      refine wpAnyH_take (i := 6) (v := ?v6) rfl (by kernel_rfl) (by kernel_rfl) (by kernel_rfl) (fun _ _ _ h => h) (Or.inl ⟨by rfl, ?y6⟩) hHeld ?r6
      case y6 =>
        intro w hSw
        obtain ⟨s1, s2, s3⟩ := hSw
        go_simp
        try with_reducible rfl
      simp only [Act.put]
      refine wpAnyH_take (i := 7) (v := ?v7) rfl (by kernel_rfl) (by kernel_rfl) (by kernel_rfl) (fun _ _ _ h => h) (Or.inl ⟨by rfl, ?y7⟩) hHeld ?r7
      case y7 =>
        intro w hSw
        obtain ⟨s1, s2, s3⟩ := hSw
        go_simp
        try with_reducible rfl
      simp only [Act.put]
      refine wpAnyH_take (i := 8) (v := ?v8) rfl (by kernel_rfl) (by kernel_rfl) (by kernel_rfl) (fun _ _ _ h => h) (Or.inl ⟨by rfl, ?y8⟩) hHeld ?r8
      case y8 =>
        intro w hSw
        obtain ⟨s1, s2, s3⟩ := hSw
        go_simp
        try with_reducible rfl
      simp only [Act.put]
      refine wpAnyH_take (i := 9) (v := ?v9) rfl (by kernel_rfl) (by kernel_rfl) (by kernel_rfl) (fun _ _ _ h => h) (Or.inl ⟨by rfl, ?y9⟩) hHeld ?r9
      case y9 =>
        intro w hSw
        obtain ⟨s1, s2, s3⟩ := hSw
        go_simp
        try with_reducible rfl
      simp only [Act.put]
      clear q1 q2 q3 q4 q5
      have hwa : Arr Wd w.heap.size (0 + x.1.1) (window left x.1.1 (nb + 1 + 1)) := e5.window (by rw [HD1.out]; omega)
      have hwf : Free Wd w.heap.size (0 + x.1.1) (nb + 1 + 1) := e6.window (by omega)
      rw [Nat.zero_add] at hwa hwf
      have hcall := takeOut_any Wd w.heap.size x.1.1 (mq + nb + 1 - x.1.1) (w.heap.size + 1) 0 (nb + 1 + 1) (nb + 1) (window left x.1.1 (nb + 1 + 1)) zs (by omega) (by omega) (window_length (by rw [HD1.out]; omega)) (d2.window _ _) (by rw [Nat.add_sub_cancel]; exact hdiv) (by omega) hwa e9 hwf
      have HC := Lib.hid hcall; clear hcall hwa hwf
      refine wpAnyH_ready (rs := [10]) (by kernel_rfl) (by simp) ?_
      refine AllReadyH.cons rfl (fun K hK => ?_) AllReadyH.nil
      go_simp
      refine HC.out.mono ?_
      rintro e w3 ⟨zs2, rfl, hz1, hz2, hz3, hz4, hz5⟩
      have g1' := (hz5.far (k := w.heap.size + 5) (by omega) 0).trans hHeld.1
      have g2' := (hz5.far (k := w.heap.size + 2) (by omega) 0).trans hHeld.2.1
      have g3' := (hz5.far (k := w.heap.size + 3) (by omega) 0).trans hHeld.2.2
      clear hHeld
      refine hK.out _ _ ⟨g1', g2', g3'⟩ (fun hHeld => ?_)
      clear hK K
      refine wpAnyH_take (i := 11) (v := ?v11) rfl (by kernel_rfl) (by kernel_rfl) (by kernel_rfl) (fun _ _ _ h => h) (Or.inl ⟨by rfl, ?y11⟩) hHeld ?r11
      case y11 =>
        intro w hSw
        obtain ⟨s1, s2, s3⟩ := hSw
        go_simp
        try with_reducible rfl
      simp only [Act.put]
      have c4 : w3.cell? ⟨w.heap.size + 4, x.1.1, none⟩ = some (.int .u64 ((gl quot x.1.1 : Nat) : Int)) := by
        have := e7 x.1.1 (by rw [HD3.out]; exact hx1)
        rw [Nat.zero_add] at this
        exact (hz5.far (by omega) _).trans this
      have f4 : w3.frozen? ⟨w.heap.size + 4, x.1.1, none⟩ = false := by
        have := e8 x.1.1 hx1
        rw [Nat.zero_add] at this
        exact (hz5.farFrozen (by omega) _).trans this
      refine wpAnyH_ready (rs := [12]) (by kernel_rfl) (by simp) ?_
      refine AllReadyH.cons rfl (fun K hK => ?_) AllReadyH.nil
      go_simp
      refine hK.out _ _ ⟨by go_simp, by go_simp, by go_simp⟩ (fun hHeld2 => ?_)
      clear hK K hHeld hHeld2
      refine wpAnyH_done (by kernel_rfl) ?_ _
      gi_wp2
      have hq : ((valL (window left x.1.1 (nb + 1 + 1)) : Nat) : Int) / ((valL zs : Nat) : Int) = ((valL (window left x.1.1 (nb + 1 + 1)) / valL zs : Nat) : Int) := (Int.natCast_ediv _ _).symm
      rw [hq]
      clear hq c4 f4 g1' g2' g3'
      have w4 := Wr.one w3 (w.heap.size + 4) x.1.1 (.int .u64 ((valL (window left x.1.1 (nb + 1 + 1)) / valL zs : Nat) : Int))
      have hk := (eW.keeps.trans hz5.keeps).trans w4.keeps
      have aq : Arr (w3.setCell ⟨w.heap.size + 4, x.1.1, none⟩ (.int .u64 ((valL (window left x.1.1 (nb + 1 + 1)) / valL zs : Nat) : Int))) (w.heap.size + 4) 0 (quot.set x.1.1 (valL (window left x.1.1 (nb + 1 + 1)) / valL zs)) := by
        have := (hz5.arr (by omega) e7).set (k := x.1.1) (by rw [HD3.out]; exact hx1) (valL (window left x.1.1 (nb + 1 + 1)) / valL zs)
        rw [Nat.zero_add] at this
        exact this
      have al : Arr w3 w.heap.size 0 (splice left x.1.1 zs2) := e5.splice (by rw [hz1, HD1.out]; omega) (by rw [hz1, Nat.zero_add]; exact hz5) (by rw [Nat.zero_add]; exact hz4)
      have b1 := d13.trans (eW.below (Nat.le_refl _) d13.size)
      have b2 := b1.trans (hz5.below (Nat.le_refl _) b1.size)
      have b3 := b2.trans (w4.below (by omega) b2.size)
      refine ⟨hk.from _, fun hR => ⟨?_, fun j hj => ⟨_, trivial, aq j (by rw [List.length_set, HD3.out]; exact hj)⟩⟩, ⟨⟨splice left x.1.1 zs2, _, ⟨?_, d2.splice hz2 _, ?_, ?_⟩, ⟨w4.arr (by omega) al, ?_⟩, ⟨aq, ?_⟩, w4.arr (by omega) (hz5.arr (by omega) e9)⟩, ?_, ?_, ?_⟩, b3⟩
      · exact (w4.far (by omega) 0).trans ((hz5.far (by omega) 0).trans ((eW.far (by omega) 0).trans hR.1))
      · rw [splice_length (by rw [hz1, HD1.out]; omega), HD1.out]
      · rw [List.length_set, HD3.out]
      · intro k hk2 hi2
        obtain ⟨k', rfl⟩ : ∃ k', k = k' + 1 := by
          cases k with
          | zero => have := congrArg List.length hi2; simp [idx, dn] at this
          | succ k' => exact ⟨k', rfl⟩
        rw [idx_snoc, dn_succ] at hi2
        obtain ⟨hp1, hp2⟩ := List.append_inj' hi2 rfl
        have hxi : x.1.1 = mq - 1 - k' := by simpa using hp2
        have hkey := HD4.out k' (by omega) hp1
        rw [hxi] at hz3 ⊢
        exact hkey.step (nb := nb + 1) (by omega) (by rw [HL0.out]; omega) (by rw [HD1.out]; omega) HD3.out d2 (by rw [hz1]) hdiv.pos hDb hz3
      · exact fun j hj => (w4.farFrozen (by omega) _).trans ((hz5.frozen _).trans (e6 j hj))
      · exact fun j hj => (w4.frozen _).trans ((hz5.farFrozen (by omega) _).trans (e8 j hj))
      · exact w4.boxed (by omega) (hz5.boxed (by omega) (eW.boxed (by omega) d10))
      · exact w4.boxed (by omega) (hz5.boxed (by omega) (eW.boxed (by omega) d11))
      · exact w4.boxed (by omega) (hz5.boxed (by omega) (eW.boxed (by omega) d12))
  case done =>
    rintro D ps W hD hS ⟨⟨⟨left, quot, ⟨d1, d2, d3, d4⟩, ⟨d5, d6⟩, ⟨d7, d8⟩, d9⟩, d10, d11, d12⟩, d13⟩ hK
    obtain ⟨r1, r2, r3⟩ := (d4 mq (Nat.le_refl _) hS).done (by rw [d1, HL0.out]) d3 hdiv.pos
    rw [HV0.out, HVZ.out, Nat.mul_div_mul_left _ _ htp] at r2
    rw [HV0.out, HVZ.out, Nat.mul_mod_mul_left] at r3
    have c12 := d12.cell
    have c10 := d10.cell
    have hl9 := d12.lt
    have hcT : ∀ Wx, Below W.heap.size W Wx → Calls Tryd.prog 76 #[.slice (some ⟨w.heap.size + 4, 0, none⟩) mq mq] Wx fun e w' => GiveN Wx (valL xs / valL ys) e w' := fun Wx hbx => by
      rw [← r2]
      exact trim_any (w.heap.size + 4) 0 mq mq quot Wx d3 r1 (by omega) (by omega) (Nat.lt_of_lt_of_le (by omega) hbx.size) (d7.below hbx (by omega))
    have hcU : ∀ Wx, Below W.heap.size W Wx → Calls Tryd.prog 80 #[.slice (some ⟨w.heap.size, 0, none⟩) (mq + nb + 1) (mq + nb + 1), .int .u64 (t : Int)] Wx fun e w' => GiveN Wx (valL xs % valL ys) e w' := fun Wx hbx => by
      have h := unscaled_any w.heap.size 0 (mq + nb + 1) (mq + nb + 1) t left Wx d1 d2 (by omega) (Nat.lt_of_lt_of_le (by omega) hbx.size) (d5.below hbx (by omega)) htp htb
      rw [r3, Nat.mul_div_cancel_left _ htp] at h
      exact h
    have HCT := Lib.hid hcT; have HCU := Lib.hid hcU
    clear hcT hcU r1 r2 r3 d1 d2 d3 d4 d5 d6 d7 d8 d9 d10 d11 d12
    gi_wp2
    have hFw' := hFw.out
    subst hFw'
    refine wpIn_wide.2 ?_
    refine wp_region_noPanic ?_
    refine wp_region_held (S := fun w' => w'.cell? ⟨w.heap.size + 5, 0, none⟩ = some (.slice (some ⟨w.heap.size + 4, 0, none⟩) mq mq) ∧ w'.cell? ⟨w.heap.size + 2, 0, none⟩ = some (.slice (some ⟨w.heap.size, 0, none⟩) (mq + nb + 1) (mq + nb + 1)) ∧ Below W.heap.size W w') (by kernel_rfl) ?_
    have hHeld : (fun w' : World => w'.cell? ⟨w.heap.size + 5, 0, none⟩ = some (.slice (some ⟨w.heap.size + 4, 0, none⟩) mq mq) ∧ w'.cell? ⟨w.heap.size + 2, 0, none⟩ = some (.slice (some ⟨w.heap.size, 0, none⟩) (mq + nb + 1) (mq + nb + 1)) ∧ Below W.heap.size W w') W.drew := ⟨c12, c10, (Below.refl _ W).drew⟩
    change wpAnyH _ _ _ _ _ _ _ _ W.drew
    generalize W.drew = Wd at *
    refine wpAnyH_take (i := 0) (v := ?z0) rfl (by kernel_rfl) (by kernel_rfl) (by kernel_rfl) (fun _ _ _ h => h) (Or.inl ⟨by rfl, ?x0⟩) hHeld ?t0
    case x0 =>
      intro w hSw
      obtain ⟨s1, s2, s3⟩ := hSw
      go_simp
      try with_reducible rfl
    simp only [Act.put, List.setIfInBounds_toArray]
    refine wpAnyH_take (i := 2) (v := ?z2) rfl (by kernel_rfl) (by kernel_rfl) (by kernel_rfl) (fun _ _ _ h => h) (Or.inl ⟨by rfl, ?x2⟩) hHeld ?t2
    case x2 =>
      intro w hSw
      obtain ⟨s1, s2, s3⟩ := hSw
      go_simp
      try with_reducible rfl
    simp only [Act.put]
    refine wpAnyH_take (i := 3) (v := ?z3) rfl (by kernel_rfl) (by kernel_rfl) (by kernel_rfl) (fun _ _ _ h => h) (Or.inl ⟨by rfl, ?x3⟩) hHeld ?t3
    case x3 =>
      intro w hSw
      obtain ⟨s1, s2, s3⟩ := hSw
      go_simp
      try with_reducible rfl
    simp only [Act.put]
    refine wpAnyH_ready (rs := [1]) (by kernel_rfl) (by simp) ?_
    refine AllReadyH.cons rfl (fun K hK => ?_) AllReadyH.nil
    go_simp
    refine (HCT.out _ hHeld.2.2).mono ?_
    rintro e wa ⟨v1, rfl, hv1, hba⟩
    have hs1 := hHeld.2.2.size
    have k1 : wa.cell? ⟨w.heap.size + 5, 0, none⟩ = some (.slice (some ⟨w.heap.size + 4, 0, none⟩) mq mq) := (hba.cell (p := ⟨w.heap.size + 5, 0, none⟩) (by show w.heap.size + 5 < _; omega)).trans hHeld.1
    have k2 : wa.cell? ⟨w.heap.size + 2, 0, none⟩ = some (.slice (some ⟨w.heap.size, 0, none⟩) (mq + nb + 1) (mq + nb + 1)) := (hba.cell (p := ⟨w.heap.size + 2, 0, none⟩) (by show w.heap.size + 2 < _; omega)).trans hHeld.2.1
    have k3 : Below W.heap.size W wa := hHeld.2.2.trans (hba.mono hHeld.2.2.size)
    clear hHeld
    refine hK.out _ _ ⟨k1, k2, k3⟩ (fun hHeld => ?_)
    clear hK K
    refine wpAnyH_ready (rs := [4]) (by kernel_rfl) (by simp) ?_
    refine AllReadyH.cons rfl (fun K hK => ?_) AllReadyH.nil
    go_simp
    refine (HCU.out _ k3).mono ?_
    rintro e wb ⟨v2, rfl, hv2, hbb2⟩
    have hs2 := k3.size
    have k4 : wb.cell? ⟨w.heap.size + 5, 0, none⟩ = some (.slice (some ⟨w.heap.size + 4, 0, none⟩) mq mq) := (hbb2.cell (p := ⟨w.heap.size + 5, 0, none⟩) (by show w.heap.size + 5 < _; omega)).trans k1
    have k5 : wb.cell? ⟨w.heap.size + 2, 0, none⟩ = some (.slice (some ⟨w.heap.size, 0, none⟩) (mq + nb + 1) (mq + nb + 1)) := (hbb2.cell (p := ⟨w.heap.size + 2, 0, none⟩) (by show w.heap.size + 2 < _; omega)).trans k2
    have k6 : Below W.heap.size W wb := k3.trans (hbb2.mono k3.size)
    have hv1b := hv1.below hbb2
    clear hHeld hv1 k1 k2 k3
    refine hK.out _ _ ⟨k4, k5, k6⟩ (fun hHeld => ?_)
    clear hK K
    refine wpAnyH_take (i := 5) (v := ?z5) rfl (by kernel_rfl) (by kernel_rfl) (by kernel_rfl) (fun _ _ _ h => h) (Or.inl ⟨by rfl, ?x5⟩) hHeld ?t5
    case x5 =>
      intro w hSw
      obtain ⟨s1, s2, s3⟩ := hSw
      go_simp
      try with_reducible rfl
    simp only [Act.put]
    refine wpAnyH_take (i := 6) (v := ?z6) rfl (by kernel_rfl) (by kernel_rfl) (by kernel_rfl) (fun _ _ _ h => h) (Or.inl ⟨by rfl, ?x6⟩) hHeld ?t6
    case x6 =>
      intro w hSw
      obtain ⟨s1, s2, s3⟩ := hSw
      go_simp
      try with_reducible rfl
    simp only [Act.put]
    refine wpAnyH_done (by kernel_rfl) ?_ _
    clear hHeld
    refine NoPanic.normal ?_
    gi_wp2
    have hK2 : wb.heap[D]? = some (.deferred (some [])) := (k6.block D (Array.getElem?_eq_some_iff.1 hK).1).trans hK
    refine ⟨by simp, .inl ⟨_, _, rfl, run_takeDeferred hK2, ?_⟩⟩
    have hlp : Below w.heap.size w (wb.putObj D (.deferred none)) := (d13.trans (k6.mono d13.size)).trans (belowK_b (w := w) (Nat.le_refl _) wb D _ (.deferred none) (by omega) hK2 rfl rfl)
    exact ⟨_, results_tmp2 rfl _ _ _, v1, v2, rfl, LimN.putObj hv1b hK2 rfl _, LimN.putObj hv2 hK2 rfl _, hlp⟩
  case stop =>
    rintro D c pre W _ _ h _
    exact h.elim

/-- nat.divide: the quotient, cut off, and what is left. -/
theorem divide_any (w : World) (va vb : Value) (m n : Nat) (ha : LimN w va m) (hb : LimN w vb n) (hm : Big m) (hn : Big n) (hn0 : 0 < n) :
    Calls Tryd.prog 62 #[va, vb] w fun e w' => ∃ v1 v2, e = .returned (.tuple #[v1, v2]) ∧ LimN w' v1 (m / n) ∧ LimN w' v2 (m % n) ∧ Below w.heap.size w w' := by
  obtain ⟨xs, la, na, rfl⟩ := ha
  obtain ⟨ys, lb, nb, rfl⟩ := hb
  have b1 := na.big hm
  have b2 := nb.big hn
  rcases Nat.lt_or_ge xs.length ys.length with hlt | hge
  · refine (divide_less w va vb xs ys la lb b1 b2 hlt).mono ?_
    rintro e w' ⟨rfl, rfl⟩
    have hv := lt_of_shorter la.1 nb hlt
    exact ⟨_, _, rfl, ⟨[], ⟨Small.nil, .inl ⟨rfl, rfl⟩⟩, Norm.nil, by rw [Nat.div_eq_of_lt hv]; rfl⟩, ⟨xs, la, na, (Nat.mod_eq_of_lt hv).symm⟩, Below.refl _ _⟩
  · obtain ⟨aa, ca, rfl⟩ := la.form
    obtain ⟨hys, ⟨rfl, rfl⟩ | ⟨b, off, cap, rfl, hcap, hcm, hbk, hay⟩⟩ := lb
    · exact absurd hn0 (by rw [valL_nil]; omega)
    · have hyl : ys ≠ [] := by intro e; rw [e, valL_nil] at hn0; omega
      have hyp : 0 < ys.length := List.length_pos_iff.2 hyl
      obtain ⟨k, hk⟩ : ∃ k, ys.length = k + 1 := ⟨ys.length - 1, by omega⟩
      obtain ⟨mq, hmq⟩ : ∃ mq, xs.length = mq + k := ⟨xs.length - k, by omega⟩
      rw [hk] at hcap ⊢
      rw [hmq] at la b1 ⊢
      exact callsIn_wide.1 (divide_in Fence.wide 4 (Lib.hid rfl) trivial trivial trivial trivial rfl (by omega) w aa ca b off cap mq k xs ys hmq hk (by omega) b1 la hys nb hbk hay hcap hcm)
end Go.Proofs.YtcekdidefomkfaaDoor

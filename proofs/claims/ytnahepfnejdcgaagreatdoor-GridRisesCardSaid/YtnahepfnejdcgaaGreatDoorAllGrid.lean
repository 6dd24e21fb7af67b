/- The program's rounding to a grid: Round, Cents; all ways joined. -/
import Derived.Test.YtnahepfnejdcgaaGreatDoorAllGrid1
namespace Go.Proofs.YtnahepfnejdcgaaGreatDoor
open Go.RowKit
set_option linter.unusedSimpArgs false
set_option linter.unusedVariables false

/-- Nothing below B has turned since U, and a block of two cells stands. -/
structure KO (B : Nat) (U : World) (o : Nat) (x y : Value) (v : World) : Prop where
  b : Below B U v
  c0 : v.cell? ⟨o, 0, none⟩ = some x
  c1 : v.cell? ⟨o, 1, none⟩ = some y
  lt : o < v.heap.size
  up : U.heap.size ≤ v.heap.size
theorem KO.drew {B o : Nat} {U v : World} {x y : Value} (h : KO B U o x y v) : KO B U o x y v.drew := ⟨h.b.drew, h.c0, h.c1, h.lt, h.up⟩
theorem KO.call {B o : Nat} {U v v' : World} {x y : Value} (h : KO B U o x y v) (hB : B ≤ U.heap.size) (k : Below v.heap.size v v') : KO B U o x y v' :=
  ⟨h.b.trans (k.mono (Nat.le_trans hB h.up)), (k.cell (p := ⟨o, 0, none⟩) h.lt).trans h.c0, (k.cell (p := ⟨o, 1, none⟩) h.lt).trans h.c1, Nat.lt_of_lt_of_le h.lt k.size, Nat.le_trans h.up k.size⟩
theorem KO.put {B o r : Nat} {U v : World} {x y : Value} (h : KO B U o x y v) (hB : B ≤ r) (hn : o ≠ r) (s t : Value) : KO B U o x y ((v.setCell ⟨r, 0, none⟩ s).setCell ⟨r, 1, none⟩ t) := by
  have k : ∀ (u : World) (i j : Nat) (z : Value), (u.setCell ⟨r, i, none⟩ z).cell? ⟨o, j, none⟩ = u.cell? ⟨o, j, none⟩ := fun u i j z => World.cell?_setCell_far _ _ _ _ (fun e => hn e.symm)
  refine ⟨put2 h.b hB s t, by rw [k, k]; exact h.c0, by rw [k, k]; exact h.c1, ?_, ?_⟩
  · simpa using h.lt
  · simpa using h.up
theorem heldK {P : Program} {f : FuncId} {args : Array Value} {B o r : Nat} {u U : World} {x y s t v : Value} (hB : B ≤ U.heap.size) (c : Calls P f args u fun e w' => e = .returned v ∧ Below u.heap.size u w') (h : KO B U o x y u) (hz : Zc r s t u) :
    Calls P f args u fun e w' => e = .returned v ∧ KO B U o x y w' ∧ Zc r s t w' := c.mono fun _ _ ⟨he, hb⟩ => ⟨he, h.call hB hb, hz.below hb⟩
set_option maxRecDepth 100000 in
set_option maxHeartbeats 4000000 in
theorem gr_grid (mode : Int) {x1 x2 g1 g2 : List UInt8} {s : Int} (hs : s ≤ 0) (w : World)
    (CG : Hid (∀ w, Calls Tryz.prog 34 #[.agg #[.string ⟨g1.toArray⟩, .string ⟨g2.toArray⟩]] w (GiveI w s))) :
    Calls Tryz.prog 11 #[.agg #[.string ⟨x1.toArray⟩, .string ⟨x2.toArray⟩], .agg #[.string ⟨g1.toArray⟩, .string ⟨g2.toArray⟩], .int .i64 mode] w (GiveR w ([], [])) := by
  go_enter Tryz.func11, Tryz.ntmps11
  go_wp2_with fail
  obtain ⟨W, hW, BW, sW, k0, k1, k2, k3, r0, r1, r2, r3⟩ := box2z w (.string ⟨x1.toArray⟩) (.string ⟨x2.toArray⟩) (.string ⟨g1.toArray⟩) (.string ⟨g2.toArray⟩) (.string ⟨#[]⟩) (.string ⟨#[]⟩) 23 23 23
  rw [hW]; clear hW
  have b0 := Below.refl W.heap.size W
  go_wp2_with fail
  refine (CG.out _).mono ?_
  rintro e w1 ⟨rfl, b⟩
  have b1 := Below.more b0 b
  clear b
  go_wp2_with fail
  refine bodyPost_ret (v := .agg #[.string ⟨#[]⟩, .string ⟨#[]⟩]) (by simp [results, Tryz.results11, go_sem, *]) rfl ⟨rfl, ?_⟩
  exact put2 (Below.more BW b1) (Nat.le_add_right w.heap.size 2) _ _
set_option maxRecDepth 100000 in
set_option maxHeartbeats 4000000 in
theorem gr_yes (mode : Int) {x1 x2 g1 g2 : List UInt8} {s : Int} (hs : ¬ s ≤ 0) {q1 q2 l y1 y2 : List UInt8} {f : Bool} (w : World)
    (CG : Hid (∀ w, Calls Tryz.prog 34 #[.agg #[.string ⟨g1.toArray⟩, .string ⟨g2.toArray⟩]] w (GiveI w s)))
    (CD : Hid (∀ w, Calls Tryz.prog 35 #[.agg #[.string ⟨x1.toArray⟩, .string ⟨x2.toArray⟩], .agg #[.string ⟨g1.toArray⟩, .string ⟨g2.toArray⟩]] w (GiveRB w ((q1, q2), f))))
    (CW : Hid (∀ w, Calls Tryz.prog 9 #[.agg #[.string ⟨q1.toArray⟩, .string ⟨q2.toArray⟩], .int .i64 mode] w (GiveS w l)))
    (CM : Hid (∀ w, Calls Tryz.prog 36 #[.agg #[.string ⟨g1.toArray⟩, .string ⟨g2.toArray⟩], .agg #[.string ⟨l.toArray⟩, .string ⟨#[49]⟩]] w (GiveR w (y1, y2)))) :
    Calls Tryz.prog 11 #[.agg #[.string ⟨x1.toArray⟩, .string ⟨x2.toArray⟩], .agg #[.string ⟨g1.toArray⟩, .string ⟨g2.toArray⟩], .int .i64 mode] w (GiveR w (y1, y2)) := by
  go_enter Tryz.func11, Tryz.ntmps11
  go_wp2_with fail
  obtain ⟨W, hW, BW, sW, k0, k1, k2, k3, r0, r1, r2, r3⟩ := box2z w (.string ⟨x1.toArray⟩) (.string ⟨x2.toArray⟩) (.string ⟨g1.toArray⟩) (.string ⟨g2.toArray⟩) (.string ⟨#[]⟩) (.string ⟨#[]⟩) 23 23 23
  rw [hW]; clear hW
  have b0 := Below.refl W.heap.size W
  go_wp2_with fail
  refine (CG.out _).mono ?_
  rintro e w1 ⟨rfl, b⟩
  have b1 := Below.more b0 b
  clear b
  go_wp2_with fail
  refine (CD.out _).mono ?_
  rintro e w2 ⟨rfl, b⟩
  have b2 := Below.more b1 b
  clear b
  have ba := fun x => Below.alloc b2 (Below.size b2) x
  go_wp2_with fail
  obtain ⟨U, hU, bU, sU, q0', q1'⟩ := lay b2 (.string ⟨q1.toArray⟩) (.string ⟨q2.toArray⟩) 23
  rw [hU]; clear hU ba
  have hn : w2.heap.size ≠ (w.heap.size + 1 + 1) := by have := b2.size; omega
  have hlt : (w.heap.size + 1 + 1) < U.heap.size := by have := bU.size; omega
  have hB : Hid ((w.heap.size + 1 + 1) ≤ U.heap.size) := Lib.hid (Nat.le_of_lt hlt)
  have hN := Lib.hid hn
  have BU := Below.more BW bU
  have hk : KO (w.heap.size + 1 + 1) U w2.heap.size (.string ⟨q1.toArray⟩) (.string ⟨q2.toArray⟩) U := ⟨Below.refl _ _, q0' U (Below.refl _ _), q1' U (Below.refl _ _), by omega, Nat.le_refl _⟩
  have g0 : ∀ v, KO (w.heap.size + 1 + 1) U w2.heap.size (.string ⟨q1.toArray⟩) (.string ⟨q2.toArray⟩) v → v.cell? ⟨w.heap.size + 1, 0, none⟩ = some (.string ⟨g1.toArray⟩) := fun v h => (h.b.cell (p := ⟨w.heap.size + 1, 0, none⟩) (Nat.lt_succ_self _)).trans (k2 U bU)
  have g1' : ∀ v, KO (w.heap.size + 1 + 1) U w2.heap.size (.string ⟨q1.toArray⟩) (.string ⟨q2.toArray⟩) v → v.cell? ⟨w.heap.size + 1, 1, none⟩ = some (.string ⟨g2.toArray⟩) := fun v h => (h.b.cell (p := ⟨w.heap.size + 1, 1, none⟩) (Nat.lt_succ_self _)).trans (k3 U bU)
  have o0 : ∀ v, KO (w.heap.size + 1 + 1) U w2.heap.size (.string ⟨q1.toArray⟩) (.string ⟨q2.toArray⟩) v → v.cell? ⟨w2.heap.size, 0, none⟩ = some (.string ⟨q1.toArray⟩) := fun v h => h.c0
  have o1 : ∀ v, KO (w.heap.size + 1 + 1) U w2.heap.size (.string ⟨q1.toArray⟩) (.string ⟨q2.toArray⟩) v → v.cell? ⟨w2.heap.size, 1, none⟩ = some (.string ⟨q2.toArray⟩) := fun v h => h.c1
  have hz : Zc (w.heap.size + 1 + 1) (.string ⟨#[]⟩) (.string ⟨#[]⟩) U := ⟨r0 U bU, r1 U bU, r2 U bU, r3 U bU, hlt⟩
  have hzd := hz.drew
  clear k0 k1 k2 k3 r0 r1 r2 r3 q0' q1' b0 b1 b2 bU hn hlt sU sW BW
  go_wp2_with fail
  first | (go_region_held3 (fun w' => KO (w.heap.size + 1 + 1) U w2.heap.size (.string ⟨q1.toArray⟩) (.string ⟨q2.toArray⟩) w')
    (first | (exact hk.drew) | (with_reducible assumption) | (exact KO.put (by with_reducible assumption) (Nat.le_refl _) hN.out _ _))
    (first | (go_at_call 9; (with_reducible refine (heldK hB.out (CW.out _) (by assumption) (by assumption)).mono ?_); rintro e w'' ⟨rfl, hw, hz⟩; (have z0 := hz.c0; have z1 := hz.c1; have z2 := hz.f0; have z3 := hz.f1)) | (go_at_call 36; (with_reducible refine (heldK hB.out (CM.out _) (by assumption) (by assumption)).mono ?_); rintro e w'' ⟨rfl, hw, hz⟩; (have z0 := hz.c0; have z1 := hz.c1; have z2 := hz.f0; have z3 := hz.f1)))) | fail
  all_goals (go_wp2_with fail)
  all_goals (refine bodyPost_ret (v := .agg #[.string ⟨y1.toArray⟩, .string ⟨y2.toArray⟩]) (by simp [results, Tryz.results11, go_sem, *]) rfl ⟨rfl, ?_⟩)
  all_goals (rename_i hH; exact BU.trans (hH.b.mono (Nat.le_add_right w.heap.size 2)))
theorem hi_any (l : List UInt8) (b : Bool) (hl : l.length ≤ 400000) (w : World) :
    Calls Tryz.prog 27 #[.string ⟨l.toArray⟩, .bool b] w (GiveS w (if b then addW l [49] else l)) := by
  cases b with
  | false => exact higher_no w
  | true =>
    have c := fun w => wadd_any ⟨l.toArray⟩ ⟨#[49]⟩ w (by rw [size_of]; exact hl) (by decide)
    exact higher_yes w (Lib.hid c)
theorem above_any (l r : List UInt8) (b : Bool) (hl : l.length ≤ 40000) (hr : r.length ≤ 40000) (w : World) :
    Calls Tryz.prog 29 #[.agg #[.string ⟨l.toArray⟩, .string ⟨r.toArray⟩], .bool b] w (GiveB w (decide (0 < cmpW (addW l l) r) || (b && decide (cmpW (addW l l) r = 0)))) := by
  have cs := fun w => wadd_any ⟨l.toArray⟩ ⟨l.toArray⟩ w (by rw [size_of]; omega) (by rw [size_of]; omega)
  have e : (⟨l.toArray⟩ : ByteArray).data.toList = l := rfl
  rw [e] at cs
  have ht : (addW l l).length ≤ 100000 := Nat.le_trans (addW_len l l (by omega)) (by omega)
  have cc : ∀ w, Calls Tryz.prog 51 #[.string ⟨(addW l l).toArray⟩, .string ⟨r.toArray⟩] w (GiveI w (cmpW (addW l l) r)) := fun w => calm (wcmp_any ⟨(addW l l).toArray⟩ ⟨r.toArray⟩ w (by rw [size_of]; omega) (by rw [size_of]; omega))
  generalize addW l l = t at *
  generalize cmpW t r = c at *
  clear e ht hl hr
  by_cases h : 0 < c
  · rw [decide_eq_true h, Bool.true_or]
    exact above_gt h w (Lib.hid cs) (Lib.hid cc)
  · rw [decide_eq_false h, Bool.false_or]
    cases b with
    | false => exact above_off h w (Lib.hid cs) (Lib.hid cc)
    | true =>
      rw [Bool.true_and]
      by_cases h2 : c = 0
      · rw [decide_eq_true h2]
        exact above_eq h2 w (Lib.hid cs) (Lib.hid cc)
      · rw [decide_eq_false h2]
        exact above_ne h h2 w (Lib.hid cs) (Lib.hid cc)
theorem wd_one (n : Int) : (wd (n % 2) == [49]) = decide (n % 2 = 1) := by
  have h : n % 2 = 0 ∨ n % 2 = 1 := by omega
  rcases h with h | h <;> rw [h]
  · rw [wd_0]; rfl
  · rw [wd_pos (by decide), show (1 : Int).natAbs = 1 from rfl, dig_1]; rfl
theorem odd_is (n : Int) (hl : (wd n).length ≤ 400000) (w : World) :
    Calls Tryz.prog 30 #[.string ⟨(wd n).toArray⟩] w (GiveB w (decide (n % 2 = 1))) := by
  have c := fun w => wdiv_any ⟨(wd n).toArray⟩ ⟨#[50]⟩ w (by rw [size_of]; exact hl) (by decide)
  have e : divW (⟨(wd n).toArray⟩ : ByteArray).data.toList (⟨#[50]⟩ : ByteArray).data.toList = (wd (n / 2), wd (n % 2), true) := by
    have e1 : ([50] : List UInt8) = wd 2 := by rw [wd_pos (by decide)]; exact (dig_valS (l := [50]) (by decide)).symm
    show divW (wd n) [50] = _
    rw [e1]
    unfold divW
    rw [isW_wd, isW_wd, valW_wd, valW_wd]; rfl
  rw [e] at c
  rw [← wd_one]
  exact odd_any w (Lib.hid c)
theorem odd_nil (w : World) : Calls Tryz.prog 30 #[.string ⟨([] : List UInt8).toArray⟩] w (GiveB w false) := by
  have c := fun w => wdiv_any ⟨([] : List UInt8).toArray⟩ ⟨#[50]⟩ w (by decide) (by decide)
  rw [show divW (⟨([] : List UInt8).toArray⟩ : ByteArray).data.toList (⟨#[50]⟩ : ByteArray).data.toList = ([], [], false) from divW_no (by decide)] at c
  exact odd_any w (Lib.hid c)
theorem add1_wd (n : Int) : addW (wd n) [49] = wd (n + 1) := by
  have e1 : ([49] : List UInt8) = wd 1 := by rw [wd_pos (by decide), show (1 : Int).natAbs = 1 from rfl, dig_1]
  rw [e1, addW_ww]
theorem wsg (n : Int) (hl : (wd n).length ≤ 400000) (w : World) : Calls Tryz.prog 28 #[.string ⟨(wd n).toArray⟩] w (GiveI w (if n < 0 then -1 else if n = 0 then 0 else 1)) := by
  have c := wsign_any ⟨(wd n).toArray⟩ w (by rw [size_of]; exact hl)
  have e : sgnW (⟨(wd n).toArray⟩ : ByteArray).data.toList = (if n < 0 then -1 else if n = 0 then 0 else 1) := by
    show sgnW (wd n) = _
    unfold sgnW
    rw [isW_wd, valW_wd]; rfl
  rw [e] at c
  exact calm c
theorem sg_neg {n : Int} : (if n < 0 then (-1 : Int) else if n = 0 then 0 else 1) < 0 ↔ n < 0 := by (repeat' split) <;> omega
theorem sg_pos {n : Int} : 0 < (if n < 0 then (-1 : Int) else if n = 0 then 0 else 1) ↔ 0 < n := by (repeat' split) <;> omega
theorem cmpZ_pos {a b : Int} : 0 < cmpZ a b ↔ b < a := by unfold cmpZ; (repeat' split) <;> omega
theorem cmpZ_eq {a b : Int} : cmpZ a b = 0 ↔ a = b := by unfold cmpZ; (repeat' split) <;> omega
theorem gwhole_q {x : Rat} {k : Nat} (lx : Lq x k) (hk : k ≤ 4000) (mode : Int) (w : World) :
    Calls Tryz.prog 9 #[.agg #[.string ⟨(rdN x).toArray⟩, .string ⟨(rdD x).toArray⟩], .int .i64 mode] w (GiveS w (whS (rd x) mode)) := by
  have lf : x.floor.natAbs < 10 ^ k := by
    rw [Rat.floor_def]
    exact Nat.lt_of_le_of_lt (natAbs_ediv _ _) lx.num
  have hk0 := lx.pos
  have lfl : (wd x.floor).length ≤ k + 1 := Nat.le_trans (wd_length x.floor) (Nat.succ_le_succ (dig_length hk0 lf))
  have lfq := Lq.whole (n := x.floor) (k := k) lf (by omega) hk0
  have csp := qSplit lx (n := x.floor) rfl (z := x - (x.floor : Rat)) rfl
  have lr : Lq (x - (x.floor : Rat)) (k + k + 1) := Lq.sub lx lfq (by omega)
  have l1 := lr.len1
  have l2 := lr.len2
  by_cases m0 : mode = 0
  · subst m0
    have e := whS_yes (p := rd x) (m := 0) (isR_rd x) (by decide)
    rw [valR_rd, whQ_zero] at e
    rw [show (0 : Int) = ((0 : Nat) : Int) from rfl, e]
    exact gw_0 _ (f1 := []) rfl w (Lib.hid csp)
  by_cases m1 : mode = 1
  · subst m1
    have e := whS_yes (p := rd x) (m := 1) (isR_rd x) (by decide)
    rw [valR_rd, trunc_is] at e
    rw [show (1 : Int) = ((1 : Nat) : Int) from rfl, e]
    have cg := fun w => wsg x.floor (by omega) w
    have cn := fun w => wsg (x - (x.floor : Rat)).num (by show (rdN (x - (x.floor : Rat))).length ≤ _; omega) w
    by_cases h : x.floor < 0
    · have ch := fun w => hi_any (wd x.floor) (decide (0 < (if (x - (x.floor : Rat)).num < 0 then (-1 : Int) else if (x - (x.floor : Rat)).num = 0 then 0 else 1))) (by omega) w
      by_cases h2 : 0 < (x - (x.floor : Rat)).num
      · rw [if_pos ⟨h, h2⟩]
        refine gw_1neg _ rfl (sg_neg.2 h) w (Lib.hid csp) (Lib.hid cg) (Lib.hid cn) (Lib.hid fun w => ?_)
        have c := ch w
        rw [decide_eq_true (sg_pos.2 h2)] at c ⊢
        rw [if_pos rfl, add1_wd] at c
        exact c
      · rw [if_neg (fun k => h2 k.2)]
        refine gw_1neg _ rfl (sg_neg.2 h) w (Lib.hid csp) (Lib.hid cg) (Lib.hid cn) (Lib.hid fun w => ?_)
        have c := ch w
        rw [decide_eq_false (fun k => h2 (sg_pos.1 k))] at c ⊢
        exact c
    · rw [if_neg (fun k => h k.1)]
      have ch := fun w => hi_any (wd x.floor) false (by omega) w
      exact gw_1pos _ rfl (fun k => h (sg_neg.1 k)) w (Lib.hid csp) (Lib.hid cg) (Lib.hid ch)
  by_cases m2 : mode = 2
  · subst m2
    have e := whS_yes (p := rd x) (m := 2) (isR_rd x) (by decide)
    rw [valR_rd, even_is] at e
    rw [show (2 : Int) = ((2 : Nat) : Int) from rfl, e]
    have co := fun w => odd_is x.floor (by omega) w
    have cv := fun w => above_any (rdN (x - (x.floor : Rat))) (rdD (x - (x.floor : Rat))) (decide (x.floor % 2 = 1)) (by omega) (by omega) w
    have ec : cmpW (addW (rdN (x - (x.floor : Rat))) (rdN (x - (x.floor : Rat)))) (rdD (x - (x.floor : Rat))) = cmpZ ((x - (x.floor : Rat)).num + (x - (x.floor : Rat)).num) ((x - (x.floor : Rat)).den : Int) := by
      have e3 : rdD (x - (x.floor : Rat)) = wd ((x - (x.floor : Rat)).den : Int) := (wd_pos (Int.natCast_nonneg _)).symm
      rw [e3]
      show cmpW (addW (wd _) (wd _)) _ = _
      rw [addW_ww]
      unfold cmpW
      rw [isW_wd, isW_wd, valW_wd, valW_wd]; rfl
    rw [ec] at cv
    have ch := fun v w => hi_any (wd x.floor) v (by omega) w
    have fin := fun v (hv : (decide (0 < cmpZ ((x - (x.floor : Rat)).num + (x - (x.floor : Rat)).num) ((x - (x.floor : Rat)).den : Int)) || (decide (x.floor % 2 = 1) && decide (cmpZ ((x - (x.floor : Rat)).num + (x - (x.floor : Rat)).num) ((x - (x.floor : Rat)).den : Int) = 0))) = v) =>
      gw_2 ((2 : Nat) : Int) (v := v) rfl w (Lib.hid csp) (Lib.hid co) (Lib.hid (hv ▸ cv)) (Lib.hid (ch v))
    by_cases h : ((x - (x.floor : Rat)).den : Int) < (x - (x.floor : Rat)).num + (x - (x.floor : Rat)).num ∨ (x.floor % 2 = 1 ∧ (x - (x.floor : Rat)).num + (x - (x.floor : Rat)).num = ((x - (x.floor : Rat)).den : Int))
    · rw [if_pos h]
      have hv := fin true (by
        rcases h with h | ⟨h, h'⟩
        · rw [decide_eq_true (cmpZ_pos.2 h), Bool.true_or]
        · rw [decide_eq_true h, decide_eq_true (cmpZ_eq.2 h'), Bool.true_and, Bool.or_true])
      rw [if_pos rfl, add1_wd] at hv
      exact hv
    · rw [if_neg h]
      exact fin false (by
        rw [decide_eq_false (fun k => h (.inl (cmpZ_pos.1 k))), Bool.false_or]
        by_cases h7 : x.floor % 2 = 1
        · rw [decide_eq_false (fun k => h (.inr ⟨h7, cmpZ_eq.1 k⟩)), Bool.and_false]
        · rw [decide_eq_false h7, Bool.false_and])
  · have hw : whS (rd x) mode = [] := by
      unfold whS
      by_cases h0 : 0 ≤ mode
      · rw [decide_eq_false (show ¬ mode ≤ 2 by omega), Bool.and_false, Bool.and_false]; rfl
      · rw [decide_eq_false h0, Bool.false_and, Bool.and_false]; rfl
    rw [hw]
    exact gw_off mode (f1 := []) m0 m1 m2 w (Lib.hid csp)
theorem gwhole_any (n d : ByteArray) (mode : Int) (w : World) (hn : n.size ≤ 4000) (hd : d.size ≤ 4000) (hg : GoodG w) :
    Calls Tryz.prog 9 #[.agg #[.string n, .string d], .int .i64 mode] w (GiveS w (whS (n.data.toList, d.data.toList) mode)) := by
  cases h : isR (n.data.toList, d.data.toList) with
  | false =>
    have csp := fun w => qsplit_any n d w (by omega) (by omega)
    rw [whS_no h]
    rw [splitR_no h] at csp
    have ch := fun w => hi_any [] false (by decide) w
    by_cases m0 : mode = 0
    · exact gw_0 mode (x1 := n.data.toList) (x2 := d.data.toList) (f1 := []) m0 w (Lib.hid csp)
    by_cases m1 : mode = 1
    · have cg : ∀ w, Calls Tryz.prog 28 #[.string ⟨([] : List UInt8).toArray⟩] w (GiveI w 0) := fun w => calm (wsign_any ⟨([] : List UInt8).toArray⟩ w (by decide))
      exact gw_1pos mode (x1 := n.data.toList) (x2 := d.data.toList) m1 (by decide) w (Lib.hid csp) (Lib.hid cg) (Lib.hid ch)
    by_cases m2 : mode = 2
    · have cv := fun w => above_any [] [] false (by decide) (by decide) w
      exact gw_2 mode (x1 := n.data.toList) (x2 := d.data.toList) (v := false) m2 w (Lib.hid csp) (Lib.hid fun w => odd_nil w) (Lib.hid cv) (Lib.hid ch)
    · exact gw_off mode (x1 := n.data.toList) (x2 := d.data.toList) (f1 := []) m0 m1 m2 w (Lib.hid csp)
  | true =>
    have lx := Lq.of_text (k := 4000) h hn hd (by decide)
    obtain ⟨e1, e2⟩ := str_rd h
    have e := rd_valR h
    rw [← e]
    generalize valR (n.data.toList, d.data.toList) = X at *
    subst e1
    subst e2
    exact gwhole_q lx (by decide) mode w
theorem mulR_nil (p : List UInt8 × List UInt8) (d : List UInt8) : mulR p ([], d) = ([], []) := mulR_no (by rw [isR_noW (n := []) (d := d) rfl, Bool.and_false])
theorem ground_any (n d m c : ByteArray) (mode : Int) (w : World) (hn : n.size ≤ 1500) (hd : d.size ≤ 1500) (hm : m.size ≤ 1500) (hc : c.size ≤ 1500) (hg : GoodG w) :
    Calls Tryz.prog 11 #[.agg #[.string n, .string d], .agg #[.string m, .string c], .int .i64 mode] w (GiveR w (rndS (n.data.toList, d.data.toList) (m.data.toList, c.data.toList) mode)) := by
  have cg := fun w => qsign_any m c w (by omega) (by omega)
  cases hg : isR (m.data.toList, c.data.toList) && decide (0 < valR (m.data.toList, c.data.toList)) with
  | false =>
    rw [rndS_grid hg]
    have hs : sgnR (m.data.toList, c.data.toList) ≤ 0 := by
      unfold sgnR
      cases h : isR (m.data.toList, c.data.toList) with
      | false => exact Int.le_refl 0
      | true =>
        rw [h, Bool.true_and, decide_eq_false_iff_not] at hg
        exact sgn_le_zero.2 hg
    exact gr_grid mode (x1 := n.data.toList) (x2 := d.data.toList) hs w (Lib.hid cg)
  | true =>
    rw [Bool.and_eq_true, decide_eq_true_eq] at hg
    obtain ⟨h1, h2⟩ := hg
    have hs : ¬ sgnR (m.data.toList, c.data.toList) ≤ 0 := by
      unfold sgnR
      rw [h1]
      exact fun h => (sgn_le_zero.1 h) h2
    have cd := fun w => qdiv_any n d m c w (by omega) (by omega) (by omega) (by omega)
    have cm0 : ∀ w, Calls Tryz.prog 36 #[.agg #[.string m, .string c], .agg #[.string ⟨([] : List UInt8).toArray⟩, .string ⟨#[49]⟩]] w (GiveR w ([], [])) := fun w => by
      have k := qmul_any m c ⟨([] : List UInt8).toArray⟩ ⟨#[49]⟩ w (by omega) (by omega) (by decide) (by decide)
      rw [show mulR (m.data.toList, c.data.toList) ((⟨([] : List UInt8).toArray⟩ : ByteArray).data.toList, (⟨#[49]⟩ : ByteArray).data.toList) = ([], []) from mulR_nil _ _] at k
      exact k
    cases hx : isR (n.data.toList, d.data.toList) with
    | false =>
      have e : divR (n.data.toList, d.data.toList) (m.data.toList, c.data.toList) = (([], []), false) := by unfold divR; rw [hx]; rfl
      rw [e] at cd
      have cw := fun w => gwhole_any ⟨([] : List UInt8).toArray⟩ ⟨([] : List UInt8).toArray⟩ mode w (by decide) (by decide) ⟨trivial⟩
      have e2 : whS ((⟨([] : List UInt8).toArray⟩ : ByteArray).data.toList, (⟨([] : List UInt8).toArray⟩ : ByteArray).data.toList) mode = [] := whS_no rfl
      rw [e2] at cw
      rw [rndS_no (by rw [hx]; rfl)]
      exact gr_yes mode (x1 := n.data.toList) (x2 := d.data.toList) (g1 := m.data.toList) (g2 := c.data.toList) (q1 := []) (q2 := []) hs w (Lib.hid cg) (Lib.hid cd) (Lib.hid cw) (Lib.hid cm0)
    | true =>
      have lx := Lq.of_text (k := 1500) hx hn hd (by decide)
      have lg := Lq.of_text (k := 1500) h1 hm hc (by decide)
      have h0 := ne_of_pos h2
      have e : divR (n.data.toList, d.data.toList) (m.data.toList, c.data.toList) = (rd (valR (n.data.toList, d.data.toList) / valR (m.data.toList, c.data.toList)), true) := by unfold divR; rw [hx, h1, beq_false_of_ne h0]; rfl
      rw [e] at cd
      have lq := Lq.div lx lg h0 (by decide)
      have cw := fun w => gwhole_q lq (by decide) mode w
      by_cases hmo : 0 ≤ mode ∧ mode ≤ 2
      · obtain ⟨mm, rfl⟩ : ∃ mm : Nat, mode = (mm : Int) := ⟨mode.toNat, by omega⟩
        have e3 := whS_yes (p := rd (valR (n.data.toList, d.data.toList) / valR (m.data.toList, c.data.toList))) (m := mm) (isR_rd _) (by omega)
        rw [valR_rd] at e3
        rw [e3] at cw
        have e4 := rndS_yes (x := valR (n.data.toList, d.data.toList)) (g := valR (m.data.toList, c.data.toList)) (m := mm) h2 (by omega)
        rw [rd_valR hx, rd_valR h1] at e4
        rw [e4]
        have lw := Lq.whole (whS_len lq mm) (by decide) (by decide)
        have cm : ∀ w, Calls Tryz.prog 36 #[.agg #[.string ⟨m.data.toList.toArray⟩, .string ⟨c.data.toList.toArray⟩], .agg #[.string ⟨(wd (whQ mm (valR (n.data.toList, d.data.toList) / valR (m.data.toList, c.data.toList)))).toArray⟩, .string ⟨#[49]⟩]] w (GiveR w (rdN (rndQ mm (valR (n.data.toList, d.data.toList)) (valR (m.data.toList, c.data.toList))), rdD (rndQ mm (valR (n.data.toList, d.data.toList)) (valR (m.data.toList, c.data.toList))))) := fun w => by
          have k := qMul lg lw (z := rndQ mm (valR (n.data.toList, d.data.toList)) (valR (m.data.toList, c.data.toList))) (Rat.mul_comm _ _) w
          rw [rdN_int, rdD_int, ← (str_rd h1).1, ← (str_rd h1).2] at k
          exact k
        exact gr_yes _ (x1 := n.data.toList) (x2 := d.data.toList) (g1 := m.data.toList) (g2 := c.data.toList) hs w (Lib.hid cg) (Lib.hid cd) (Lib.hid cw) (Lib.hid cm)
      · have e3 : whS (rd (valR (n.data.toList, d.data.toList) / valR (m.data.toList, c.data.toList))) mode = [] := whS_mode (by omega)
        rw [e3] at cw
        have e5 : (decide (0 ≤ mode) && decide (mode ≤ 2)) = false := by
          by_cases h5 : 0 ≤ mode
          · rw [decide_eq_false (show ¬ mode ≤ 2 by omega), Bool.and_false]
          · rw [decide_eq_false h5, Bool.false_and]
        rw [rndS_no (by rw [e5, Bool.and_false])]
        exact gr_yes mode (x1 := n.data.toList) (x2 := d.data.toList) (g1 := m.data.toList) (g2 := c.data.toList) hs w (Lib.hid cg) (Lib.hid cd) (Lib.hid cw) (Lib.hid cm0)
set_option maxRecDepth 100000 in
set_option maxHeartbeats 4000000 in
theorem gc_any (w : World) {x1 x2 z1 z2 : List UInt8}
    (CR : Hid (∀ w, Calls Tryz.prog 11 #[.agg #[.string ⟨x1.toArray⟩, .string ⟨x2.toArray⟩], .agg #[.string ⟨#[49]⟩, .string ⟨#[49, 48, 48]⟩], .int .i64 2] w (GiveR w (z1, z2)))) :
    Calls Tryz.prog 13 #[.agg #[.string ⟨x1.toArray⟩, .string ⟨x2.toArray⟩]] w (GiveR w (z1, z2)) := by
  go_enter Tryz.func13, Tryz.ntmps13
  go_wp2_with fail
  obtain ⟨W, hW, BW, sW, k0, k1, r0, r1, r2, r3⟩ := box1z w (.string ⟨x1.toArray⟩) (.string ⟨x2.toArray⟩) (.string ⟨#[]⟩) (.string ⟨#[]⟩) 23 23
  rw [hW]; clear hW
  have b0 := Below.refl W.heap.size W
  go_wp2_with fail
  refine (CR.out _).mono ?_
  rintro e w1 ⟨rfl, b⟩
  have b1 := Below.more b0 b
  clear b
  go_wp2_with fail
  refine bodyPost_ret (v := .agg #[.string ⟨z1.toArray⟩, .string ⟨z2.toArray⟩]) (by simp [results, Tryz.results13, go_sem, *]) rfl ⟨rfl, ?_⟩
  exact put2 (Below.more BW b1) (Nat.le_add_right _ 1) _ _
theorem gcents_any (n d : ByteArray) (w : World) (hn : n.size ≤ 1500) (hd : d.size ≤ 1500) (hg : GoodG w) :
    Calls Tryz.prog 13 #[.agg #[.string n, .string d]] w (GiveR w (cenS (n.data.toList, d.data.toList))) :=
  gc_any w (Lib.hid fun w => ground_any n d ⟨#[49]⟩ ⟨#[49, 48, 48]⟩ 2 w hn hd (by decide) (by decide) ⟨trivial⟩)
end Go.Proofs.YtnahepfnejdcgaaGreatDoor

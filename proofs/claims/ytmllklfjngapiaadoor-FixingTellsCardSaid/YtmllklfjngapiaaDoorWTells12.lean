/- FixingTells. -/
import Derived.Test.YtmllklfjngapiaaDoorFixF
namespace Go.Proofs.YtmllklfjngapiaaDoor
open Go.RowKit
set_option linter.unusedSimpArgs false
set_option linter.unusedVariables false
set_option maxRecDepth 100000 in
set_option maxHeartbeats 4000000 in
theorem tl12_1 (p : Option Addr) (c : Nat) (l : List Fx.Fix) (a : List UInt8) (d : Int) (n e : List UInt8) (w : World)
    (CS : Hid (∀ V, Below w.heap.size w V → Calls Tryd.prog 7 #[.slice p l.length c] V (GiveB V false))) :
    Calls Tryd.prog 3 #[.slice p l.length c, .agg #[.string ⟨a.toArray⟩, .int .i64 d, .string ⟨n.toArray⟩, .string ⟨e.toArray⟩]] w (GiveB w true) := by
  have HT : Hid (NoB w) := Lib.hid (noB w)
  go_enter Tryd.func3, Tryd.ntmps3
  go_wp2_with fail
  have BW := Below.refl w.heap.size w
  have b0 : Below w.heap.size w w := Below.refl _ _
  obtain ⟨U1, hU, bU, s1, rf0, rf1, rf2, rf3⟩ := lay4 b0 (.string ⟨a.toArray⟩) (.int .i64 d) (.string ⟨n.toArray⟩) (.string ⟨e.toArray⟩) 26
  rw [hU]; clear hU
  clear s1
  replace BW := Below.more BW bU
  replace HT := Lib.hid (HT.out.below bU)
  clear bU
  have b1 := Below.refl U1.heap.size U1
  go_wp2_with fail
  refine (CS.out _ (Below.more BW b1)).mono ?_
  rintro e w2 ⟨rfl, b⟩
  have b2 := Below.more b1 b
  clear b
  go_wp2_with fail
  refine (fixed12_any _).mono ?_
  rintro e w3 ⟨rfl, b⟩
  have b3 := Below.more b2 b
  clear b
  go_wp2_with fail
  go_ret
  exact ⟨ret_bool (by first | rfl | simp), Below.more BW b3⟩
set_option maxRecDepth 100000 in
set_option maxHeartbeats 4000000 in
theorem tl12_2 (p : Option Addr) (c : Nat) (l : List Fx.Fix) (a : List UInt8) (d : Int) (n e : List UInt8) (w : World)
    (CS : Hid (∀ V, Below w.heap.size w V → Calls Tryd.prog 7 #[.slice p l.length c] V (GiveB V true)))
    (CS2 : Hid (∀ V q, Fxs V q [((a, d), (n, e))] → Calls Tryd.prog 7 #[.slice q 1 1] V (GiveB V false))) :
    Calls Tryd.prog 3 #[.slice p l.length c, .agg #[.string ⟨a.toArray⟩, .int .i64 d, .string ⟨n.toArray⟩, .string ⟨e.toArray⟩]] w (GiveB w true) := by
  have HT : Hid (NoB w) := Lib.hid (noB w)
  go_enter Tryd.func3, Tryd.ntmps3
  go_wp2_with fail
  have BW := Below.refl w.heap.size w
  have b0 : Below w.heap.size w w := Below.refl _ _
  obtain ⟨U1, hU, bU, s1, rf0, rf1, rf2, rf3⟩ := lay4 b0 (.string ⟨a.toArray⟩) (.int .i64 d) (.string ⟨n.toArray⟩) (.string ⟨e.toArray⟩) 26
  rw [hU]; clear hU
  clear s1
  replace BW := Below.more BW bU
  replace HT := Lib.hid (HT.out.below bU)
  clear bU
  have b1 := Below.refl U1.heap.size U1
  go_wp2_with fail
  refine (CS.out _ (Below.more BW b1)).mono ?_
  rintro e w2 ⟨rfl, b⟩
  have b2 := Below.more b1 b
  clear b
  go_wp2_with fail
  have hrow := rowsLit (enc := encX) (k := 4) (fun _ => rfl) w2 [((a, d), (n, e))] #[.string ⟨a.toArray⟩, .int .i64 d, .string ⟨n.toArray⟩, .string ⟨e.toArray⟩] 26 rfl
  have bn : Below w2.heap.size w2 (w2.alloc (.cells #[.string ⟨a.toArray⟩, .int .i64 d, .string ⟨n.toArray⟩, .string ⟨e.toArray⟩] 26)) := Below.alloc (Below.refl _ _) (Nat.le_refl _) _
  obtain ⟨U3, hU⟩ : ∃ U, w2.alloc (.cells #[.string ⟨a.toArray⟩, .int .i64 d, .string ⟨n.toArray⟩, .string ⟨e.toArray⟩] 26) = U := ⟨_, rfl⟩
  rw [hU] at hrow bn ⊢
  have bU := Below.more b2 bn
  replace rf0 := fun v (h : Below U3.heap.size U3 v) => rf0 v (Below.more bU h)
  replace rf1 := fun v (h : Below U3.heap.size U3 v) => rf1 v (Below.more bU h)
  replace rf2 := fun v (h : Below U3.heap.size U3 v) => rf2 v (Below.more bU h)
  replace rf3 := fun v (h : Below U3.heap.size U3 v) => rf3 v (Below.more bU h)
  replace BW := Below.more BW bU
  replace HT := Lib.hid (HT.out.below bU)
  have Lf := Lib.hid hrow
  clear hrow bU bn hU
  have b3 := Below.refl U3.heap.size U3
  refine (CS2.out _ _ (Lf.out.below b3)).mono ?_
  rintro e w4 ⟨rfl, b⟩
  have b4 := Below.more b3 b
  clear b
  go_wp2_with fail
  refine (fixed12_any _).mono ?_
  rintro e w5 ⟨rfl, b⟩
  have b5 := Below.more b4 b
  clear b
  go_wp2_with fail
  go_ret
  exact ⟨ret_bool (by first | rfl | simp), Below.more BW b5⟩
set_option maxRecDepth 100000 in
set_option maxHeartbeats 4000000 in
theorem tl12_3 (p : Option Addr) (c : Nat) (l : List Fx.Fix) (a : List UInt8) (d : Int) (n e : List UInt8) (w : World) (R : List Fx.Fix) (z gz kz m : Bool) (g1 g2 k1 k2 : List UInt8)
    (CS : Hid (∀ V, Below w.heap.size w V → Calls Tryd.prog 7 #[.slice p l.length c] V (GiveB V true)))
    (CS2 : Hid (∀ V q, Fxs V q [((a, d), (n, e))] → Calls Tryd.prog 7 #[.slice q 1 1] V (GiveB V true)))
    (C1 : Hid (∀ V, Below w.heap.size w V → Calls Tryd.prog 9 #[.slice p l.length c, .agg #[.string ⟨a.toArray⟩, .int .i64 d, .string ⟨n.toArray⟩, .string ⟨e.toArray⟩]] V (GiveT2 V R z)))
    (C2 : Hid (∀ V, Below w.heap.size w V → Calls Tryd.prog 10 #[.slice p l.length c, .agg #[.string ⟨a.toArray⟩, .int .i64 d, .string ⟨n.toArray⟩, .string ⟨e.toArray⟩]] V (GiveT2 V R z)))
    (C3 : Hid (∀ V, Below w.heap.size w V → Calls Tryd.prog 11 #[.slice p l.length c, .string ⟨a.toArray⟩, .int .i64 d] V (GiveRB V ((g1, g2), gz))))
    (C4 : Hid (∀ V, Below w.heap.size w V → Calls Tryd.prog 12 #[.slice p l.length c, .string ⟨a.toArray⟩, .int .i64 d] V (GiveRB V ((g1, g2), gz))))
    (C5 : Hid (∀ V, Below w.heap.size w V → Calls Tryd.prog 13 #[.slice p l.length c, .string ⟨a.toArray⟩, .int .i64 d] V (GiveRB V ((k1, k2), kz))))
    (C6 : Hid (∀ V, Below w.heap.size w V → Calls Tryd.prog 14 #[.slice p l.length c, .string ⟨a.toArray⟩, .int .i64 d] V (GiveRB V ((k1, k2), kz))))
    (C7 : Hid (∀ V p c q b, Fxs V p R → Fxs V q R → Calls Tryd.prog 15 #[.slice p R.length c, .slice q R.length b] V (GiveB V true)))
    (C8 : Hid (∀ V, Below w.heap.size w V → Calls Tryd.prog 16 #[.slice p l.length c] V (GiveB V m)))
    (C9 : Hid (∀ V, Below w.heap.size w V → Calls Tryd.prog 17 #[.slice p l.length c] V (GiveB V m))) :
    Calls Tryd.prog 3 #[.slice p l.length c, .agg #[.string ⟨a.toArray⟩, .int .i64 d, .string ⟨n.toArray⟩, .string ⟨e.toArray⟩]] w (GiveB w true) := by
  have HT : Hid (NoB w) := Lib.hid (noB w)
  go_enter Tryd.func3, Tryd.ntmps3
  go_wp2_with fail
  have BW := Below.refl w.heap.size w
  have b0 : Below w.heap.size w w := Below.refl _ _
  obtain ⟨U1, hU, bU, s1, rf0, rf1, rf2, rf3⟩ := lay4 b0 (.string ⟨a.toArray⟩) (.int .i64 d) (.string ⟨n.toArray⟩) (.string ⟨e.toArray⟩) 26
  rw [hU]; clear hU
  clear s1
  replace BW := Below.more BW bU
  replace HT := Lib.hid (HT.out.below bU)
  clear bU
  have b1 := Below.refl U1.heap.size U1
  go_wp2_with fail
  refine (CS.out _ (Below.more BW b1)).mono ?_
  rintro e w2 ⟨rfl, b⟩
  have b2 := Below.more b1 b
  clear b
  go_wp2_with fail
  have hrow := rowsLit (enc := encX) (k := 4) (fun _ => rfl) w2 [((a, d), (n, e))] #[.string ⟨a.toArray⟩, .int .i64 d, .string ⟨n.toArray⟩, .string ⟨e.toArray⟩] 26 rfl
  have bn : Below w2.heap.size w2 (w2.alloc (.cells #[.string ⟨a.toArray⟩, .int .i64 d, .string ⟨n.toArray⟩, .string ⟨e.toArray⟩] 26)) := Below.alloc (Below.refl _ _) (Nat.le_refl _) _
  obtain ⟨U3, hU⟩ : ∃ U, w2.alloc (.cells #[.string ⟨a.toArray⟩, .int .i64 d, .string ⟨n.toArray⟩, .string ⟨e.toArray⟩] 26) = U := ⟨_, rfl⟩
  rw [hU] at hrow bn ⊢
  have bU := Below.more b2 bn
  replace rf0 := fun v (h : Below U3.heap.size U3 v) => rf0 v (Below.more bU h)
  replace rf1 := fun v (h : Below U3.heap.size U3 v) => rf1 v (Below.more bU h)
  replace rf2 := fun v (h : Below U3.heap.size U3 v) => rf2 v (Below.more bU h)
  replace rf3 := fun v (h : Below U3.heap.size U3 v) => rf3 v (Below.more bU h)
  replace BW := Below.more BW bU
  replace HT := Lib.hid (HT.out.below bU)
  have Lf := Lib.hid hrow
  clear hrow bU bn hU
  have b3 := Below.refl U3.heap.size U3
  refine (CS2.out _ _ (Lf.out.below b3)).mono ?_
  rintro e w4 ⟨rfl, b⟩
  have b4 := Below.more b3 b
  clear b
  go_wp2_with fail
  refine (C1.out _ (Below.more BW b4)).mono ?_
  rintro e0 U5 ⟨⟨pa, ca, rfl, hca, hla⟩, b⟩
  have bU := Below.more b4 b
  clear b
  replace rf0 := fun v (h : Below U5.heap.size U5 v) => rf0 v (Below.more bU h)
  replace rf1 := fun v (h : Below U5.heap.size U5 v) => rf1 v (Below.more bU h)
  replace rf2 := fun v (h : Below U5.heap.size U5 v) => rf2 v (Below.more bU h)
  replace rf3 := fun v (h : Below U5.heap.size U5 v) => rf3 v (Below.more bU h)
  replace Lf := Lib.hid (Lf.out.below bU)
  replace BW := Below.more BW bU
  replace HT := Lib.hid (HT.out.below bU)
  have La := Lib.hid hla
  clear hla bU
  have b5 := Below.refl U5.heap.size U5
  go_wp2_with fail
  refine (C2.out _ (Below.more BW b5)).mono ?_
  rintro e0 U6 ⟨⟨pb, cb, rfl, hcb, hlb⟩, b⟩
  have bU := Below.more b5 b
  clear b
  replace rf0 := fun v (h : Below U6.heap.size U6 v) => rf0 v (Below.more bU h)
  replace rf1 := fun v (h : Below U6.heap.size U6 v) => rf1 v (Below.more bU h)
  replace rf2 := fun v (h : Below U6.heap.size U6 v) => rf2 v (Below.more bU h)
  replace rf3 := fun v (h : Below U6.heap.size U6 v) => rf3 v (Below.more bU h)
  replace Lf := Lib.hid (Lf.out.below bU)
  replace La := Lib.hid (La.out.below bU)
  replace BW := Below.more BW bU
  replace HT := Lib.hid (HT.out.below bU)
  have Lb := Lib.hid hlb
  clear hlb bU
  have b6 := Below.refl U6.heap.size U6
  go_wp2_with fail
  refine (C3.out _ (Below.more BW b6)).mono ?_
  rintro e w7 ⟨rfl, b⟩
  have b7 := Below.more b6 b
  clear b
  have ba := fun x => Below.alloc b7 (Below.size b7) x
  go_wp2_with fail
  obtain ⟨U8, hU, bU, s8, rp0, rp1⟩ := lay b7 (.string ⟨g1.toArray⟩) (.string ⟨g2.toArray⟩) 24
  rw [hU]; clear hU
  clear s8
  replace rf0 := fun v (h : Below U8.heap.size U8 v) => rf0 v (Below.more bU h)
  replace rf1 := fun v (h : Below U8.heap.size U8 v) => rf1 v (Below.more bU h)
  replace rf2 := fun v (h : Below U8.heap.size U8 v) => rf2 v (Below.more bU h)
  replace rf3 := fun v (h : Below U8.heap.size U8 v) => rf3 v (Below.more bU h)
  replace Lf := Lib.hid (Lf.out.below bU)
  replace La := Lib.hid (La.out.below bU)
  replace Lb := Lib.hid (Lb.out.below bU)
  replace BW := Below.more BW bU
  replace HT := Lib.hid (HT.out.below bU)
  clear bU
  have b8 := Below.refl U8.heap.size U8
  clear ba
  go_wp2_with fail
  refine (C4.out _ (Below.more BW b8)).mono ?_
  rintro e w9 ⟨rfl, b⟩
  have b9 := Below.more b8 b
  clear b
  have ba := fun x => Below.alloc b9 (Below.size b9) x
  go_wp2_with fail
  obtain ⟨U10, hU, bU, s10, rq0, rq1⟩ := lay b9 (.string ⟨g1.toArray⟩) (.string ⟨g2.toArray⟩) 24
  rw [hU]; clear hU
  clear s10
  replace rf0 := fun v (h : Below U10.heap.size U10 v) => rf0 v (Below.more bU h)
  replace rf1 := fun v (h : Below U10.heap.size U10 v) => rf1 v (Below.more bU h)
  replace rf2 := fun v (h : Below U10.heap.size U10 v) => rf2 v (Below.more bU h)
  replace rf3 := fun v (h : Below U10.heap.size U10 v) => rf3 v (Below.more bU h)
  replace rp0 := fun v (h : Below U10.heap.size U10 v) => rp0 v (Below.more bU h)
  replace rp1 := fun v (h : Below U10.heap.size U10 v) => rp1 v (Below.more bU h)
  replace Lf := Lib.hid (Lf.out.below bU)
  replace La := Lib.hid (La.out.below bU)
  replace Lb := Lib.hid (Lb.out.below bU)
  replace BW := Below.more BW bU
  replace HT := Lib.hid (HT.out.below bU)
  clear bU
  have b10 := Below.refl U10.heap.size U10
  clear ba
  go_wp2_with fail
  refine (C5.out _ (Below.more BW b10)).mono ?_
  rintro e w11 ⟨rfl, b⟩
  have b11 := Below.more b10 b
  clear b
  have ba := fun x => Below.alloc b11 (Below.size b11) x
  go_wp2_with fail
  obtain ⟨U12, hU, bU, s12, rx0, rx1⟩ := lay b11 (.string ⟨k1.toArray⟩) (.string ⟨k2.toArray⟩) 24
  rw [hU]; clear hU
  clear s12
  replace rf0 := fun v (h : Below U12.heap.size U12 v) => rf0 v (Below.more bU h)
  replace rf1 := fun v (h : Below U12.heap.size U12 v) => rf1 v (Below.more bU h)
  replace rf2 := fun v (h : Below U12.heap.size U12 v) => rf2 v (Below.more bU h)
  replace rf3 := fun v (h : Below U12.heap.size U12 v) => rf3 v (Below.more bU h)
  replace rp0 := fun v (h : Below U12.heap.size U12 v) => rp0 v (Below.more bU h)
  replace rp1 := fun v (h : Below U12.heap.size U12 v) => rp1 v (Below.more bU h)
  replace rq0 := fun v (h : Below U12.heap.size U12 v) => rq0 v (Below.more bU h)
  replace rq1 := fun v (h : Below U12.heap.size U12 v) => rq1 v (Below.more bU h)
  replace Lf := Lib.hid (Lf.out.below bU)
  replace La := Lib.hid (La.out.below bU)
  replace Lb := Lib.hid (Lb.out.below bU)
  replace BW := Below.more BW bU
  replace HT := Lib.hid (HT.out.below bU)
  clear bU
  have b12 := Below.refl U12.heap.size U12
  clear ba
  go_wp2_with fail
  refine (C6.out _ (Below.more BW b12)).mono ?_
  rintro e w13 ⟨rfl, b⟩
  have b13 := Below.more b12 b
  clear b
  have ba := fun x => Below.alloc b13 (Below.size b13) x
  go_wp2_with fail
  obtain ⟨U14, hU, bU, s14, ry0, ry1⟩ := lay b13 (.string ⟨k1.toArray⟩) (.string ⟨k2.toArray⟩) 24
  rw [hU]; clear hU
  clear s14
  replace rf0 := fun v (h : Below U14.heap.size U14 v) => rf0 v (Below.more bU h)
  replace rf1 := fun v (h : Below U14.heap.size U14 v) => rf1 v (Below.more bU h)
  replace rf2 := fun v (h : Below U14.heap.size U14 v) => rf2 v (Below.more bU h)
  replace rf3 := fun v (h : Below U14.heap.size U14 v) => rf3 v (Below.more bU h)
  replace rp0 := fun v (h : Below U14.heap.size U14 v) => rp0 v (Below.more bU h)
  replace rp1 := fun v (h : Below U14.heap.size U14 v) => rp1 v (Below.more bU h)
  replace rq0 := fun v (h : Below U14.heap.size U14 v) => rq0 v (Below.more bU h)
  replace rq1 := fun v (h : Below U14.heap.size U14 v) => rq1 v (Below.more bU h)
  replace rx0 := fun v (h : Below U14.heap.size U14 v) => rx0 v (Below.more bU h)
  replace rx1 := fun v (h : Below U14.heap.size U14 v) => rx1 v (Below.more bU h)
  replace Lf := Lib.hid (Lf.out.below bU)
  replace La := Lib.hid (La.out.below bU)
  replace Lb := Lib.hid (Lb.out.below bU)
  replace BW := Below.more BW bU
  replace HT := Lib.hid (HT.out.below bU)
  clear bU
  have b14 := Below.refl U14.heap.size U14
  clear ba
  go_wp2_with fail
  refine (fixed12_any _).mono ?_
  rintro e w15 ⟨rfl, b⟩
  have b15 := Below.more b14 b
  clear b
  go_wp2_with fail
  refine (C7.out _ _ _ _ _ (La.out.below b15) (Lb.out.below b15)).mono ?_
  rintro e w16 ⟨rfl, b⟩
  have b16 := Below.more b15 b
  clear b
  go_wp2_with fail
  refine (C8.out _ (Below.more BW b16)).mono ?_
  rintro e w17 ⟨rfl, b⟩
  have b17 := Below.more b16 b
  clear b
  go_wp2_with fail
  refine (C9.out _ (Below.more BW b17)).mono ?_
  rintro e w18 ⟨rfl, b⟩
  have b18 := Below.more b17 b
  clear b
  go_wp2_with fail
  go_ret
  exact ⟨ret_bool (by first | rfl | simp), Below.more BW b18⟩
theorem tells12_any (p : Option Addr) (c : Nat) (l : List Fx.Fix) (a : List UInt8) (d : Int) (n e : List UInt8) (w : World) (hc : l.length ≤ c) (hl : l.length ≤ 4611686018427387904) (h : Fxs w p l) :
    Calls Tryd.prog 3 #[.slice p l.length c, .agg #[.string ⟨a.toArray⟩, .int .i64 d, .string ⟨n.toArray⟩, .string ⟨e.toArray⟩]] w (GiveB w true) := by
  have cs := fun V (hV : Below w.heap.size w V) => rfsmall_any p c l V hc hl (h.below hV)
  have cs2 := fun V q (hq : Fxs V q [((a, d), (n, e))]) => rfsmall_any q 1 [((a, d), (n, e))] V (Nat.le_refl _) (show 1 ≤ 4611686018427387904 by decide) hq
  cases h1 : smallX l with
  | false => rw [h1] at cs; exact tl12_1 p c l a d n e w (Lib.hid cs)
  | true =>
    rw [h1] at cs
    cases h2 : smallX [((a, d), (n, e))] with
    | false => rw [h2] at cs2; exact tl12_2 p c l a d n e w (Lib.hid cs) (Lib.hid cs2)
    | true =>
      rw [h2] at cs2
      have hz := small_szX h1
      have hf := small_szX h2 ((a, d), (n, e)) (List.mem_singleton.2 rfl)
      have h60 := (smallX_iff.1 h1).2
      have hR : ((Fx.setF l ((a, d), (n, e))).getD []).length ≤ 4611686018427387904 := by
        cases hs : Fx.setF l ((a, d), (n, e)) with
        | none => exact Nat.zero_le _
        | some R => rw [(Fx.set_some hs).1]; show (Fx.insF l ((a, d), (n, e))).length ≤ _; rw [Fx.ins_len]; omega
      exact tl12_3 p c l a d n e w ((Fx.setF l ((a, d), (n, e))).getD []) (Fx.setF l ((a, d), (n, e))).isSome (Fx.getF l (a, d)).isSome (Fx.lastF l (a, d)).isSome (Fx.mayF l) (optR (Fx.getF l (a, d))).1 (optR (Fx.getF l (a, d))).2 (optR (Fx.lastF l (a, d))).1 (optR (Fx.lastF l (a, d))).2 (Lib.hid cs) (Lib.hid cs2)
        (Lib.hid fun V hV => ffset_any p c l a d n e V hc (by omega) hz hf (h.below hV)) (Lib.hid fun V hV => rfset_any p c l a d n e V hc (by omega) hz hf (h.below hV))
        (Lib.hid fun V hV => ffget_any p c l a d V hc (by omega) hz (h.below hV)) (Lib.hid fun V hV => rfget_any p c l a d V hc (by omega) hz (h.below hV))
        (Lib.hid fun V hV => fflast_any p c l a d V hc (by omega) hz (h.below hV)) (Lib.hid fun V hV => rflast_any p c l a d V hc (by omega) hz (h.below hV))
        (Lib.hid fun V p c q b hp hq => by have k := rfsame_any p q c b _ _ V hR hR hp hq; rw [beq_self_eq_true] at k; exact k)
        (Lib.hid fun V hV => ffmay_any p c l V hc (by omega) hz (h.below hV)) (Lib.hid fun V hV => rfmay_any p c l V hc (by omega) hz (h.below hV))
end Go.Proofs.YtmllklfjngapiaaDoor

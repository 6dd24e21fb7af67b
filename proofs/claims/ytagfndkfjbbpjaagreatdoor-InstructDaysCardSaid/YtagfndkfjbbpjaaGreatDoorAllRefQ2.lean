/- The document's answers for fractions: sums, products, quotients, order, what is split; whether fractions are short, and good. -/
import Derived.Test.YtagfndkfjbbpjaaGreatDoorAllRefQ
namespace Go.Proofs.YtagfndkfjbbpjaaGreatDoor
open Go.RowKit
theorem addR_no {p q : List UInt8 × List UInt8} (h : (isR p && isR q) = false) : addR p q = ([], []) := by unfold addR; rw [h]; rfl
theorem addR_neg (p q : List UInt8 × List UInt8) : addR p (negR q) = subR p q := by
 unfold addR negR subR
 cases isR q with
 | false =>
  rw [if_neg Bool.false_ne_true, show isR (([], []) : List UInt8 × List UInt8) = false from rfl, Bool.and_false]
  rfl
 | true =>
  rw [if_pos rfl, isR_rd, valR_rd, ← Rat.sub_eq_add_neg]
theorem sgnR_sub (p q : List UInt8 × List UInt8) : sgnR (subR p q) = cmpR p q := by
 unfold sgnR subR cmpR
 cases isR p && isR q with
 | false => rfl
 | true => rw [if_pos rfl, if_pos rfl, if_pos (isR_rd _), valR_rd]
theorem mulS_eq {p q : List UInt8 × List UInt8} (hp : isR p = true) (hq : isR q = true) : mulS p.2 q.2 = mulW p.2 q.2 := by
 rw [(isR_den hp).1, (isR_den hq).1, mulS_dd, mulW_dd]
theorem divInt_le {n d : Int} (hd : d ≠ 0) : (Rat.divInt n d).num.natAbs ≤ n.natAbs ∧ (Rat.divInt n d).den ≤ d.natAbs := by
 have key : ∀ (n : Int) (d : Nat), d ≠ 0 → (Rat.divInt n (d : Int)).num.natAbs ≤ n.natAbs ∧ (Rat.divInt n (d : Int)).den ≤ d := fun n d h => by
  have k := divInt_pos (n := n) (d := (d : Int)) (by omega)
  rw [k.1]
  refine ⟨natAbs_ediv _ _, ?_⟩
  have k2 := k.2
  rw [Int.natAbs_natCast, ← Int.natCast_ediv] at k2
  rw [Int.ofNat.inj k2]
  exact Nat.div_le_self _ _
 rcases Int.lt_or_le 0 d with h | h
 ·obtain ⟨e, rfl⟩ : ∃ e : Nat, d = (e : Int) := ⟨d.toNat, by omega⟩
  have := key n e (by omega)
  rwa [Int.natAbs_natCast]
 ·obtain ⟨e, he⟩ : ∃ e : Nat, -d = (e : Int) := ⟨(-d).toNat, by omega⟩
  have := key (-n) e (by omega)
  rw [← he, divInt_swap, Int.natAbs_neg] at this
  rw [show d.natAbs = e from by omega]
  exact this
theorem len_text {l : List UInt8} (h : isW l = true) {z : Int} (hz : z.natAbs ≤ (valW l).natAbs) (hk : l.length ≤ 90000) : (wd z).length ≤ l.length + 1 := by
 have h1 := (Ltw.own h (by omega)).abs
 exact Nat.le_trans (wd_length z) (Nat.succ_le_succ (dig_length (isW_pos h) (Nat.lt_of_le_of_lt hz h1)))
theorem makeR_len (n d : List UInt8) (hn : n.length ≤ 90000) (hd : d.length ≤ 90000) : (makeR n d).1.1.length ≤ n.length + 1 ∧ (makeR n d).1.2.length ≤ d.length + 1 := by
 cases h : (isW n && isW d) && !(valW d == 0) with
 | false => rw [makeR_no h]; exact ⟨Nat.zero_le _, Nat.zero_le _⟩
 | true =>
  rw [Bool.and_eq_true, Bool.and_eq_true] at h
  have h0 : valW d ≠ 0 := by simpa using h.2
  rw [makeR_yes h.1.1 h.1.2 h0]
  have k := divInt_le (n := valW n) h0
  refine ⟨len_text h.1.1 k.1 hn, ?_⟩
  have := len_text h.1.2 (z := ((Rat.divInt (valW n) (valW d)).den : Int)) (by rw [Int.natAbs_natCast]; exact k.2) hd
  rw [wd_nat] at this
  exact this
theorem subR_len (p q : List UInt8 × List UInt8) (h1 : p.1.length ≤ 20000) (h2 : p.2.length ≤ 20000) (h3 : q.1.length ≤ 20000) (h4 : q.2.length ≤ 20000) : (subR p q).1.length ≤ 90000 ∧ (subR p q).2.length ≤ 90000 := by
 rw [← al_sub]
 have l := alR_len p q h1 h2 h3 h4
 have k1 := subW_len' (alR p q).1 (alR p q).2 (by omega)
 have k2 := mulW_len p.2 q.2 (by omega)
 have k := makeR_len (subW (alR p q).1 (alR p q).2) (mulW p.2 q.2) (by omega) (by omega)
 omega
set_option maxRecDepth 100000 in
set_option maxHeartbeats 2000000 in
theorem rqadd_any (n d m c : ByteArray) (w : World) (hn : n.size ≤ 20000) (hd : d.size ≤ 20000) (hm : m.size ≤ 20000) (hc : c.size ≤ 20000) :
  Calls Tryz.prog 29 #[.agg #[.string n, .string d], .agg #[.string m, .string c]] w (GiveR w (addR (n.data.toList, d.data.toList) (m.data.toList, c.data.toList))) := by
 have cm := fun w => rqmay_any n d w (by omega) (by omega)
 have cn := fun w => rqmay_any m c w (by omega) (by omega)
 cases h1 : isR (n.data.toList, d.data.toList) with
 | false =>
  rw [h1] at cm
  rw [addR_no (by rw [h1]; rfl)]
  clear h1 cn hn hd hm hc
  have CM := Lib.hid cm
  clear cm
  go_enter Tryz.func29, Tryz.ntmps29
  go_wp2_with fail
  obtain ⟨W, hW, BW, sW, k0, k1, k2, k3, r0, r1, r2, r3⟩ := box2z w (.string n) (.string d) (.string m) (.string c) (.string ⟨#[]⟩) (.string ⟨#[]⟩) 35 35 35
  have hB := Lib.hid (Nat.le_refl W.heap.size)
  rw [hW]; clear hW
  have b0 := Below.refl W.heap.size W
  refine (CM.out _).mono ?_
  rintro e w1 ⟨rfl, b⟩
  have b1 := Below.more b0 b
  clear b
  go_wp2_with fail
  refine bodyPost_ret (v := .agg #[.string ⟨#[]⟩, .string ⟨#[]⟩]) (by simp [results, Tryz.results29, go_sem, *]) rfl ⟨rfl, ?_⟩
  exact put2 (Below.more BW b1) (Nat.le_add_right w.heap.size 2) _ _
 | true =>
  rw [h1] at cm
  cases h2 : isR (m.data.toList, c.data.toList) with
  | false =>
   rw [h2] at cn
   rw [addR_no (by rw [h1, h2]; rfl)]
   clear h1 h2 hn hd hm hc
   have CM := Lib.hid cm
   have CN := Lib.hid cn
   clear cm cn
   go_enter Tryz.func29, Tryz.ntmps29
   go_wp2_with fail
   obtain ⟨W, hW, BW, sW, k0, k1, k2, k3, r0, r1, r2, r3⟩ := box2z w (.string n) (.string d) (.string m) (.string c) (.string ⟨#[]⟩) (.string ⟨#[]⟩) 35 35 35
   have hB := Lib.hid (Nat.le_refl W.heap.size)
   rw [hW]; clear hW
   have b0 := Below.refl W.heap.size W
   refine (CM.out _).mono ?_
   rintro e w1 ⟨rfl, b⟩
   have b1 := Below.more b0 b
   clear b
   go_wp2_with fail
   refine (CN.out _).mono ?_
   rintro e w2 ⟨rfl, b⟩
   have b2 := Below.more b1 b
   clear b
   go_wp2_with fail
   refine bodyPost_ret (v := .agg #[.string ⟨#[]⟩, .string ⟨#[]⟩]) (by simp [results, Tryz.results29, go_sem, *]) rfl ⟨rfl, ?_⟩
   exact put2 (Below.more BW b2) (Nat.le_add_right w.heap.size 2) _ _
  | true =>
   rw [h2] at cn
   have e : (makeR (addW (mulW n.data.toList c.data.toList) (mulW m.data.toList d.data.toList)) (mulS d.data.toList c.data.toList)).1 = addR (n.data.toList, d.data.toList) (m.data.toList, c.data.toList) := by
    have e1 := al_add (n.data.toList, d.data.toList) (m.data.toList, c.data.toList)
    rw [← al_both h1 h2] at e1
    rw [show mulS d.data.toList c.data.toList = mulW d.data.toList c.data.toList from mulS_eq h1 h2]
    exact e1
   rw [← e]; clear e
   have l1 : (mulW n.data.toList c.data.toList).length ≤ 40001 := Nat.le_trans (mulW_len _ _ (by have h1 : n.data.toList.length = n.size := rfl; have h2 : m.data.toList.length = m.size := rfl; have h3 : d.data.toList.length = d.size := rfl; have h4 : c.data.toList.length = c.size := rfl; omega)) (by have h1 : n.data.toList.length = n.size := rfl; have h2 : m.data.toList.length = m.size := rfl; have h3 : d.data.toList.length = d.size := rfl; have h4 : c.data.toList.length = c.size := rfl; omega)
   have l2 : (mulW m.data.toList d.data.toList).length ≤ 40001 := Nat.le_trans (mulW_len _ _ (by have h1 : n.data.toList.length = n.size := rfl; have h2 : m.data.toList.length = m.size := rfl; have h3 : d.data.toList.length = d.size := rfl; have h4 : c.data.toList.length = c.size := rfl; omega)) (by have h1 : n.data.toList.length = n.size := rfl; have h2 : m.data.toList.length = m.size := rfl; have h3 : d.data.toList.length = d.size := rfl; have h4 : c.data.toList.length = c.size := rfl; omega)
   have l3 : (mulS d.data.toList c.data.toList).length ≤ 40001 := by
    rw [show mulS d.data.toList c.data.toList = mulW d.data.toList c.data.toList from mulS_eq h1 h2]
    exact Nat.le_trans (mulW_len _ _ (by have h1 : n.data.toList.length = n.size := rfl; have h2 : m.data.toList.length = m.size := rfl; have h3 : d.data.toList.length = d.size := rfl; have h4 : c.data.toList.length = c.size := rfl; omega)) (by have h1 : n.data.toList.length = n.size := rfl; have h2 : m.data.toList.length = m.size := rfl; have h3 : d.data.toList.length = d.size := rfl; have h4 : c.data.toList.length = c.size := rfl; omega)
   have ca := fun w => rwmul_any n c w (by omega) (by omega)
   have cb := fun w => rwmul_any m d w (by omega) (by omega)
   have cd := fun w => rmul_any d c w (by omega) (by omega)
   generalize mulW n.data.toList c.data.toList = a at *
   generalize mulW m.data.toList d.data.toList = b at *
   generalize mulS d.data.toList c.data.toList = f at *
   have l4 : (addW a b).length ≤ 80004 := Nat.le_trans (addW_len a b (by omega)) (by omega)
   have cs : ∀ w, Calls Tryz.prog 53 #[.string ⟨a.toArray⟩, .string ⟨b.toArray⟩] w (GiveS w (addW a b)) := fun w => rwadd_any ⟨a.toArray⟩ ⟨b.toArray⟩ w (by rw [size_of]; exact Nat.le_trans l1 (by decide)) (by rw [size_of]; exact Nat.le_trans l2 (by decide))
   generalize addW a b = e at *
   have ck : ∀ w, Calls Tryz.prog 52 #[.string ⟨e.toArray⟩, .string ⟨f.toArray⟩] w (GiveRB w (makeR e f)) := fun w => rqmake_any ⟨e.toArray⟩ ⟨f.toArray⟩ w (by rw [size_of]; exact Nat.le_trans l4 (by decide)) (by rw [size_of]; exact Nat.le_trans l3 (by decide))
   generalize makeR e f = p at *
   clear h1 h2 l1 l2 l3 l4 hn hd hm hc
   have CM := Lib.hid cm
   have CN := Lib.hid cn
   have CA := Lib.hid ca
   have CB := Lib.hid cb
   have CD := Lib.hid cd
   have CS := Lib.hid cs
   have CK := Lib.hid ck
   clear cm cn ca cb cd cs ck
   go_enter Tryz.func29, Tryz.ntmps29
   go_wp2_with fail
   obtain ⟨W, hW, BW, sW, k0, k1, k2, k3, r0, r1, r2, r3⟩ := box2z w (.string n) (.string d) (.string m) (.string c) (.string ⟨#[]⟩) (.string ⟨#[]⟩) 35 35 35
   have hB := Lib.hid (Nat.le_refl W.heap.size)
   rw [hW]; clear hW
   have b0 := Below.refl W.heap.size W
   refine (CM.out _).mono ?_
   rintro e w1 ⟨rfl, b⟩
   have b1 := Below.more b0 b
   clear b
   go_wp2_with fail
   refine (CN.out _).mono ?_
   rintro e w2 ⟨rfl, b⟩
   have b2 := Below.more b1 b
   clear b
   go_wp2_with fail
   first | (go_region_held3 (fun w' => Below W.heap.size W w')
       (first | (exact b2.drew) | (with_reducible assumption) | (exact Below.alloc (by with_reducible assumption) (Nat.le_trans hB.out (Below.size (by with_reducible assumption))) _) | (exact put2 (by with_reducible assumption) (Nat.le_refl _) _ _) | (exact put2 (by with_reducible assumption) hB.out _ _) | (exact put2 (by with_reducible assumption) (Nat.le_trans hB.out (Below.size (by with_reducible assumption))) _ _))
       (first | (go_at_call 54; (with_reducible show Calls _ _ #[.string n, .string c] _ _); (with_reducible refine (held (W := W) hB.out (CA.out _) (by assumption)).mono ?_); rintro e w'' ⟨rfl, hb, hw⟩; (first | (have hz := zc_made0 hb) | (have hz := zc_made hb) | skip); (try have hz := Zc.below (by assumption) hb); (try (have z0 := hz.c0; have z1 := hz.c1; have z2 := hz.f0; have z3 := hz.f1))) | (go_at_call 54; (with_reducible show Calls _ _ #[.string m, .string d] _ _); (with_reducible refine (held (W := W) hB.out (CB.out _) (by assumption)).mono ?_); rintro e w'' ⟨rfl, hb, hw⟩; (first | (have hz := zc_made0 hb) | (have hz := zc_made hb) | skip); (try have hz := Zc.below (by assumption) hb); (try (have z0 := hz.c0; have z1 := hz.c1; have z2 := hz.f0; have z3 := hz.f1))) | (go_at_call 55; (with_reducible refine (held (W := W) hB.out (CD.out _) (by assumption)).mono ?_); rintro e w'' ⟨rfl, hb, hw⟩; (first | (have hz := zc_made0 hb) | (have hz := zc_made hb) | skip); (try have hz := Zc.below (by assumption) hb); (try (have z0 := hz.c0; have z1 := hz.c1; have z2 := hz.f0; have z3 := hz.f1))) | (go_at_call 53; (with_reducible refine (held (W := W) hB.out (CS.out _) (by assumption)).mono ?_); rintro e w'' ⟨rfl, hb, hw⟩; (first | (have hz := zc_made0 hb) | (have hz := zc_made hb) | skip); (try have hz := Zc.below (by assumption) hb); (try (have z0 := hz.c0; have z1 := hz.c1; have z2 := hz.f0; have z3 := hz.f1))) | (go_at_call 52; (with_reducible refine (held (W := W) hB.out (CK.out _) (by assumption)).mono ?_); rintro e w'' ⟨rfl, hb, hw⟩; (first | (have hz := zc_made0 hb) | (have hz := zc_made hb) | skip); (try have hz := Zc.below (by assumption) hb); (try (have z0 := hz.c0; have z1 := hz.c1; have z2 := hz.f0; have z3 := hz.f1))))) | fail
   all_goals (go_wp2_with fail)
   all_goals (refine bodyPost_ret (v := .agg #[.string ⟨p.1.1.toArray⟩, .string ⟨p.1.2.toArray⟩]) (by simp [results, Tryz.results29, go_sem, *]) rfl ⟨rfl, ?_⟩)
   all_goals (exact put2 (Below.more BW (by with_reducible assumption)) (Nat.le_add_right w.heap.size 2) _ _)
set_option maxRecDepth 100000 in
set_option maxHeartbeats 2000000 in
theorem rqsub_any (n d m c : ByteArray) (w : World) (hn : n.size ≤ 19000) (hd : d.size ≤ 19000) (hm : m.size ≤ 19000) (hc : c.size ≤ 19000) :
  Calls Tryz.prog 94 #[.agg #[.string n, .string d], .agg #[.string m, .string c]] w (GiveR w (subR (n.data.toList, d.data.toList) (m.data.toList, c.data.toList))) := by
 have cn := fun w => rqneg_any m c w (by omega) (by omega)
 rw [← addR_neg]
 have l : (negR (m.data.toList, c.data.toList)).1.length ≤ 20000 ∧ (negR (m.data.toList, c.data.toList)).2.length ≤ 20000 := by
  cases h : isR (m.data.toList, c.data.toList) with
  | false => rw [negR_no h]; exact ⟨Nat.zero_le _, Nat.zero_le _⟩
  | true =>
   rw [negR_yes h]
   have := negW_len m.data.toList
   have h1 : m.data.toList.length = m.size := rfl
   have h2 : c.data.toList.length = c.size := rfl
   exact ⟨by show (negW m.data.toList).length ≤ _; omega, by show c.data.toList.length ≤ _; omega⟩
 generalize negR (m.data.toList, c.data.toList) = q at *
 obtain ⟨x, y⟩ := q
 have l1 : x.length ≤ 20000 := l.1
 have l2 : y.length ≤ 20000 := l.2
 have ca : ∀ w, Calls Tryz.prog 29 #[.agg #[.string n, .string d], .agg #[.string ⟨x.toArray⟩, .string ⟨y.toArray⟩]] w (GiveR w (addR (n.data.toList, d.data.toList) (x, y))) := fun w => rqadd_any n d ⟨x.toArray⟩ ⟨y.toArray⟩ w (by omega) (by omega) (by rw [size_of]; exact l1) (by rw [size_of]; exact l2)
 generalize addR (n.data.toList, d.data.toList) (x, y) = p at *
 clear l l1 l2 hn hd hm hc
 have CN := Lib.hid cn
 have CA := Lib.hid ca
 clear cn ca
 go_enter Tryz.func94, Tryz.ntmps94
 go_wp2_with fail
 obtain ⟨W, hW, BW, sW, k0, k1, k2, k3, hz⟩ := box2r w (.string n) (.string d) (.string m) (.string c) (.string ⟨#[]⟩) (.string ⟨#[]⟩) 35 35 35
 have hB : Hid (w.heap.size + 1 + 1 ≤ W.heap.size) := Lib.hid (Nat.le_of_lt hz.lt)
 rw [hW]; clear hW
 have b0 := Below.refl W.heap.size W
 have b1 : Below (w.heap.size + 1 + 1) W W := Below.refl _ _
 have hzd := hz.drew; have z0 := hz.c0; have z1 := hz.c1; have z2 := hz.f0; have z3 := hz.f1
 first | (go_region_held3 (fun w' => Below (w.heap.size + 1 + 1) W w')
     (first | (exact b1.drew) | (with_reducible assumption) | (exact Below.alloc (by with_reducible assumption) (Nat.le_trans hB.out (Below.size (by with_reducible assumption))) _) | (exact put2 (by with_reducible assumption) (Nat.le_refl _) _ _) | (exact put2 (by with_reducible assumption) hB.out _ _) | (exact put2 (by with_reducible assumption) (Nat.le_trans hB.out (Below.size (by with_reducible assumption))) _ _))
     (first | (go_at_call 30; (with_reducible refine (held (W := W) hB.out (CN.out _) (by assumption)).mono ?_); rintro e w'' ⟨rfl, hb, hw⟩; (first | (have hz := zc_made0 hb) | (have hz := zc_made hb) | skip); (try have hz := Zc.below (by assumption) hb); (try (have z0 := hz.c0; have z1 := hz.c1; have z2 := hz.f0; have z3 := hz.f1))) | (go_at_call 29; (with_reducible refine (held (W := W) hB.out (CA.out _) (by assumption)).mono ?_); rintro e w'' ⟨rfl, hb, hw⟩; (first | (have hz := zc_made0 hb) | (have hz := zc_made hb) | skip); (try have hz := Zc.below (by assumption) hb); (try (have z0 := hz.c0; have z1 := hz.c1; have z2 := hz.f0; have z3 := hz.f1))))) | fail
 all_goals (go_wp2_with fail)
 all_goals (refine bodyPost_ret (v := .agg #[.string ⟨p.1.toArray⟩, .string ⟨p.2.toArray⟩]) (by simp [results, Tryz.results94, go_sem, *]) rfl ⟨rfl, ?_⟩)
 all_goals (exact BW.trans (Below.mono (by with_reducible assumption) (Nat.le_add_right w.heap.size 2)))
set_option maxRecDepth 100000 in
set_option maxHeartbeats 2000000 in
theorem rqcmp_any (n d m c : ByteArray) (w : World) (hn : n.size ≤ 19000) (hd : d.size ≤ 19000) (hm : m.size ≤ 19000) (hc : c.size ≤ 19000) :
  Calls Tryz.prog 66 #[.agg #[.string n, .string d], .agg #[.string m, .string c]] w (GiveI w (cmpR (n.data.toList, d.data.toList) (m.data.toList, c.data.toList))) := by
 have cs := fun w => rqsub_any n d m c w (by omega) (by omega) (by omega) (by omega)
 rw [← sgnR_sub]
 have l := subR_len (n.data.toList, d.data.toList) (m.data.toList, c.data.toList) (Nat.le_trans hn (by decide)) (Nat.le_trans hd (by decide)) (Nat.le_trans hm (by decide)) (Nat.le_trans hc (by decide))
 generalize subR (n.data.toList, d.data.toList) (m.data.toList, c.data.toList) = q at *
 obtain ⟨x, y⟩ := q
 have cg : ∀ w, Calls Tryz.prog 24 #[.agg #[.string ⟨x.toArray⟩, .string ⟨y.toArray⟩]] w (GiveI w (sgnR (x, y))) := fun w => rqsign_any ⟨x.toArray⟩ ⟨y.toArray⟩ w (by rw [size_of]; exact Nat.le_trans l.1 (by decide)) (by rw [size_of]; exact Nat.le_trans l.2 (by decide))
 generalize sgnR (x, y) = z at *
 clear l hn hd hm hc
 have CS := Lib.hid cs
 have CG := Lib.hid cg
 clear cs cg
 go_enter Tryz.func66, Tryz.ntmps66
 go_wp2_with fail
 obtain ⟨W, hW, BW, sW, k0, k1, k2, k3⟩ := box2 w (.string n) (.string d) (.string m) (.string c) 35 35
 have hB := Lib.hid (Nat.le_refl W.heap.size)
 rw [hW]; clear hW
 have b0 := Below.refl W.heap.size W
 refine (CS.out _).mono ?_
 rintro e w1 ⟨rfl, b⟩
 have b1 := Below.more b0 b
 clear b
 go_wp2_with fail
 refine (CG.out _).mono ?_
 rintro e w2 ⟨rfl, b⟩
 have b2 := Below.more b1 b
 clear b
 go_wp2_with fail
 go_ret
 exact ⟨rfl, Below.more BW b2⟩
end Go.Proofs.YtagfndkfjbbpjaaGreatDoor

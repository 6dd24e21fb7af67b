/- The document's answers for decimals: plain facts for the print with a point. -/
import Derived.Test.YtdeinhkdphgfaaaGreatDoorDecNum2M
import Derived.Test.YtdeinhkdphgfaaaGreatDoorTermNum3M
namespace Go.Proofs.YtdeinhkdphgfaaaGreatDoor
open Go.RowKit
theorem plc_bound {d k L : Nat} (hd : 0 < d) (h : plc d = some k) (hL : d < 10 ^ L) : k < 4 * L := by
 obtain ⟨a, b, r, e, _, _, hr, hp⟩ := plc_parts d hd
 rw [hp] at h
 by_cases h1 : r = 1
 ·rw [if_pos h1] at h
  have hk : max a b = k := Option.some.inj h
  have h2 : 0 < 2 ^ a := Nat.pow_pos (by decide)
  have h5 : 0 < 5 ^ b := Nat.pow_pos (by decide)
  have h6 : (2 : Nat) ^ b ≤ 5 ^ b := Nat.pow_le_pow_left (by decide) b
  rw [h1, Nat.mul_one] at e
  have ha : 2 ^ a ≤ d := by rw [e]; exact Nat.le_mul_of_pos_right _ h5
  have hb : 2 ^ b ≤ d := by rw [e]; exact Nat.le_trans h6 (Nat.le_mul_of_pos_left _ h2)
  have hm : 1 * 2 ^ k ≤ d := by
   rw [Nat.one_mul]
   rcases Nat.le_total a b with h | h
   ·rw [show k = b by omega]; exact hb
   ·rw [show k = a by omega]; exact ha
  exact two_bound (by decide) hm hL
 ·rw [if_neg h1] at h; cases h
theorem ten_text (k : Nat) : ((⟨#[49]⟩ : ByteArray) ++ ⟨(zerS (k : Int)).toArray⟩).data.toList = dig (10 ^ k) := by
 rw [ba_append, dig_ten]; unfold zerS; rw [Int.toNat_natCast]; rfl
theorem mul_ten_text {p : List UInt8 × List UInt8} {k : Nat} (h : isR p = true) (hp : plc (valR p).den = some k) :
  mulR p (dig (10 ^ k), [49]) = (wd ((valR p).num * ((10 ^ k / (valR p).den : Nat) : Int)), [49]) := by
 have e : (dig (10 ^ k), [49]) = rd ((((10 ^ k : Nat) : Int)) : Rat) := by
  show _ = (wd _, dig _)
  rw [Rat.num_intCast, Rat.den_intCast, wd_nat, dig_one]
 have hd := (plc_dvd (k := k) (Nat.pos_of_ne_zero (valR p).den_nz)).2 ⟨k, hp, Nat.le_refl _⟩
 unfold mulR
 rw [h, e, isR_rd, valR_rd, mul_ten hd]
 show (wd _, dig _) = _
 rw [Rat.num_intCast, Rat.den_intCast, dig_one]
theorem abs_wd (z : Int) : absW (wd z) = dig z.natAbs := by unfold absW; rw [isW_wd, valW_wd]; rfl
theorem sgn_lt {p : List UInt8 × List UInt8} (h : isR p = true) : (sgnR p < 0 ↔ (valR p).num < 0) := by
 rw [← sgn_is h]
 unfold sgnW
 rw [(isR_parts h).1, ← valR_num h]
 show ((if _ then _ else if _ then _ else _) < (0 : Int)) ↔ _
 split
 ·omega
 ·split <;> omega
end Go.Proofs.YtdeinhkdphgfaaaGreatDoor
/- The document's answers for decimals: the print with a point. -/
namespace Go.Proofs.YtdeinhkdphgfaaaGreatDoor
open Go.RowKit
theorem pad_text (k N : Nat) : ((⟨(zerS (max ((k : Int) + 1 - ((dig N).length : Int)) 0)).toArray⟩ : ByteArray) ++ ⟨(dig N).toArray⟩).data.toList = padD (k + 1) (dig N) := by
  rw [ba_append]
  show zerS _ ++ dig N = _
  unfold zerS padD
  rw [show (max ((k : Int) + 1 - ((dig N).length : Int)) 0).toNat = k + 1 - (dig N).length from by omega]
theorem nat_wd_len (z : Int) : (dig z.natAbs).length ≤ (wd z).length := by
  unfold wd; split
  · rw [List.length_cons]; omega
  · exact Nat.le_refl _
theorem prod_len {a q k : Nat} (hk : 0 < k) (hq : q ≤ 10 ^ k) : (dig (a * q)).length ≤ (dig a).length + k := by
  have h1 := valS_lt (dig_all a)
  rw [valS_dig] at h1
  refine dig_length (by omega) ?_
  rw [Nat.pow_add]
  exact Nat.mul_lt_mul_of_lt_of_le h1 hq (Nat.pow_pos (by decide))
theorem zer_size (k : Nat) : (⟨(zerS (k : Int)).toArray⟩ : ByteArray).size = k := by
  rw [size_of]; unfold zerS; rw [List.length_replicate, Int.toNat_natCast]
theorem zer_size' (x : Int) : (⟨(zerS x).toArray⟩ : ByteArray).size = x.toNat := by
  rw [size_of]; unfold zerS; rw [List.length_replicate]
theorem pt_text {S sg : ByteArray} {b : Bool} {k M : Nat} {l : List UInt8} (hs : S.data.toList = l) (hm : S.size = M + k) (hb : sg.data.toList = sgnD b []) :
    sg ++ S.extract 0 M ++ (⟨#[46]⟩ : ByteArray) ++ S.extract M S.size = ⟨(sgnD b (ptD k l)).toArray⟩ := by
  refine bytes_eq ?_
  rw [ba_append, ba_append, ba_append, Lib.extract_data, Lib.extract_data, hs, hb]
  have hl : l.length = M + k := by rw [← hs]; exact hm
  have h1 : (l.drop M).take (S.size - M) = l.drop M := List.take_of_length_le (by rw [List.length_drop]; omega)
  rw [h1]
  show sgnD b [] ++ (l.drop 0).take (M - 0) ++ [46] ++ l.drop M = sgnD b (l.take (l.length - k) ++ 46 :: l.drop (l.length - k))
  rw [show l.length - k = M from by omega, List.drop_zero, Nat.sub_zero, List.append_assoc, List.append_assoc]
  cases b <;> rfl
set_option maxRecDepth 100000 in
set_option maxHeartbeats 4000000 in
theorem rdprint_some (n d : ByteArray) (w : World) (hn : n.size ≤ 4000) (hd : d.size ≤ 4000) (h : isR (n.data.toList, d.data.toList) = true) {k : Nat} (hk : k ≠ 0) (hp : plc (valR (n.data.toList, d.data.toList)).den = some k) :
    Calls Tryz.prog 79 #[.agg #[.string n, .string d]] w (GiveS w (prS (n.data.toList, d.data.toList))) := by
  have cm := fun w => rqmay_any n d w (by omega) (by omega)
  have cp := fun w => rdplaces_any n d w (by omega) (by omega)
  have cs := fun w => rqsign_any n d w (by omega) (by omega)
  rw [h] at cm
  rw [pl_den h, hp] at cp
  have cp : ∀ w, Calls Tryz.prog 77 #[.agg #[.string n, .string d]] w (GiveIB w ((k : Int), true)) := cp
  have hden : (dig (valR (n.data.toList, d.data.toList)).den).length ≤ 4000 := by rw [← (isR_den h).1]; exact hd
  have hnum : (wd (valR (n.data.toList, d.data.toList)).num).length ≤ 4000 := by rw [← (isR_den h).2]; exact hn
  have hkb : k < 16000 := by
    have h1 := plc_bound (Nat.pos_of_ne_zero (valR (n.data.toList, d.data.toList)).den_nz) hp (by have := valS_lt (dig_all (valR (n.data.toList, d.data.toList)).den); rw [valS_dig] at this; exact this)
    omega
  have hts := ten_text k
  have htz : ((⟨#[49]⟩ : ByteArray) ++ ⟨(zerS (k : Int)).toArray⟩).size = k + 1 := by
    rw [← size_toList, ba_append, List.length_append]
    show 1 + (zerS (k : Int)).length = _
    unfold zerS; rw [List.length_replicate, Int.toNat_natCast]; omega
  have cz : ∀ w, Calls Tryz.prog 99 #[.int .i64 (k : Int)] w (GiveS w (zerS (k : Int))) := fun w => calm (rdzeros_any k w (by omega) (by omega))
  have cy := fun w => rqmul_any n d ((⟨#[49]⟩ : ByteArray) ++ ⟨(zerS (k : Int)).toArray⟩) ⟨#[49]⟩ w (by omega) (by omega) (by omega) (by decide)
  rw [hts] at cy
  have cx : ∀ w, Calls Tryz.prog 98 _ w (GiveR w _) := fun w => (mul_ten_text h hp) ▸ cy w
  clear cy
  have hq : (dig ((valR (n.data.toList, d.data.toList)).num.natAbs * (10 ^ k / (valR (n.data.toList, d.data.toList)).den))).length ≤ 20000 := by
    have h1 := prod_len (a := (valR (n.data.toList, d.data.toList)).num.natAbs) (Nat.pos_of_ne_zero hk) (Nat.div_le_self (10 ^ k) (valR (n.data.toList, d.data.toList)).den)
    have h2 := nat_wd_len (valR (n.data.toList, d.data.toList)).num
    omega
  have ez : ((valR (n.data.toList, d.data.toList)).num * ((10 ^ k / (valR (n.data.toList, d.data.toList)).den : Nat) : Int)).natAbs = (valR (n.data.toList, d.data.toList)).num.natAbs * (10 ^ k / (valR (n.data.toList, d.data.toList)).den) := by
    rw [Int.natAbs_mul, Int.natAbs_natCast]
  have hr : prS (n.data.toList, d.data.toList) = sgnD (decide (sgnR (n.data.toList, d.data.toList) < 0)) (ptD k (padD (k + 1) (dig ((valR (n.data.toList, d.data.toList)).num.natAbs * (10 ^ k / (valR (n.data.toList, d.data.toList)).den))))) := by
    rw [prS_yes h, prD_some hp hk, decide_eq_decide.2 (sgn_lt h)]
  rw [hr]
  generalize hZ : (valR (n.data.toList, d.data.toList)).num * ((10 ^ k / (valR (n.data.toList, d.data.toList)).den : Nat) : Int) = Z at *
  rw [← ez] at hq ⊢
  generalize sgnR (n.data.toList, d.data.toList) = g at *
  clear hr hts h hden hnum hZ ez hp
  have hw := wd_length Z
  have ca : ∀ w, Calls Tryz.prog 55 #[.string ⟨(wd Z).toArray⟩] w (fun e w' => e = .returned (.string ⟨(dig Z.natAbs).toArray⟩) ∧ Below w.heap.size w w') := fun w => by
    have c := calm (rwabs_any ⟨(wd Z).toArray⟩ w (by rw [size_of]; omega))
    have e : absW (⟨(wd Z).toArray⟩ : ByteArray).data.toList = dig Z.natAbs := abs_wd Z
    rw [e] at c
    exact c
  have hS := size_dig Z.natAbs
  have hP := pad_text k Z.natAbs
  rw [← hS] at hP
  have cy : ∀ w, Calls Tryz.prog 99 #[.int .i64 (max ((k : Int) + 1 - ((⟨(dig Z.natAbs).toArray⟩ : ByteArray).size : Int)) 0)] w (GiveS w (zerS (max ((k : Int) + 1 - ((⟨(dig Z.natAbs).toArray⟩ : ByteArray).size : Int)) 0))) := fun w => calm (rdzeros_any _ w (by omega) (by omega))
  have zk := zer_size k
  have hk' : ¬ (k : Int) = 0 := by omega
  have hx1 : ¬ 9223372036854775807 < 1 + k := by omega
  generalize (⟨(dig Z.natAbs).toArray⟩ : ByteArray) = S at *
  have hSs : S.size ≤ 20000 := by rw [hS]; exact hq
  have CM := Lib.hid cm
  have CP := Lib.hid cp
  have CS := Lib.hid cs
  have CZ := Lib.hid cz
  have CX := Lib.hid cx
  have CA := Lib.hid ca
  have CY := Lib.hid cy
  have HP := Lib.hid hP
  have HW := Lib.hid hw
  have HQ := Lib.hid hq
  clear cm cp cs cz cx ca cy hP hw hq hS
  go_enter Tryz.func79, Tryz.ntmps79
  go_wp2_with fail
  obtain ⟨W, hW, BW, sW, k0, k1⟩ := box1 w (.string n) (.string d) 39
  have hB := Lib.hid (Nat.le_refl W.heap.size)
  rw [hW]; clear hW
  have b0 := Below.refl W.heap.size W
  refine (CM.out _).mono ?_
  rintro e w1 ⟨rfl, b⟩
  have b1 := Below.more b0 b
  clear b
  go_wp2_with fail
  refine (CP.out _).mono ?_
  rintro e w2 ⟨rfl, b⟩
  have b2 := Below.more b1 b
  clear b
  go_wp2_with fail
  first | (go_region_held3 (fun w' => Below W.heap.size W w')
          (first | (exact b2.drew) | (with_reducible assumption) | (exact Below.alloc (by with_reducible assumption) (Nat.le_trans hB.out (Below.size (by with_reducible assumption))) _) | (exact put2 (by with_reducible assumption) (Nat.le_refl _) _ _) | (exact put2 (by with_reducible assumption) hB.out _ _) | (exact put2 (by with_reducible assumption) (Nat.le_trans hB.out (Below.size (by with_reducible assumption))) _ _))
          (first | (go_at_call 99; (with_reducible refine (held (W := W) hB.out (CZ.out _) (by assumption)).mono ?_); rintro e w'' ⟨rfl, hb, hw⟩; (first | (have hz := zc_made0 hb) | (have hz := zc_made hb) | skip); (try have hz := Zc.below (by assumption) hb); (try (have z0 := hz.c0; have z1 := hz.c1; have z2 := hz.f0; have z3 := hz.f1))) | (go_at_call 98; (with_reducible refine (held (W := W) hB.out (CX.out _) (by assumption)).mono ?_); rintro e w'' ⟨rfl, hb, hw⟩; (first | (have hz := zc_made0 hb) | (have hz := zc_made hb) | skip); (try have hz := Zc.below (by assumption) hb); (try (have z0 := hz.c0; have z1 := hz.c1; have z2 := hz.f0; have z3 := hz.f1))))) | fail
  all_goals (go_wp2_with fail)
  all_goals (refine (CA.out _).mono ?_; rintro e w9 ⟨rfl, b9⟩)
  all_goals (have b3 := Below.more (by with_reducible assumption) b9; clear b9)
  all_goals
    go_wp2_with fail
    refine (CY.out _).mono ?_
    rintro e w10 ⟨rfl, b10⟩
    have b4 := Below.more b3 b10
    clear b10
    have hx2 : ¬ 9223372036854775807 < (⟨(zerS (max ((k : Int) + 1 - (S.size : Int)) 0)).toArray⟩ : ByteArray).size + S.size := by rw [zer_size']; omega
    go_wp2_with fail
    refine (CS.out _).mono ?_
    rintro e w11 ⟨rfl, b11⟩
    have b5 := Below.more b4 b11
    clear b11
    clear hx2
    have hM : ∃ M, ((⟨(zerS (max ((k : Int) + 1 - (S.size : Int)) 0)).toArray⟩ : ByteArray) ++ S).size = M + k ∧ M ≤ 40000 := by
      have h1 := congrArg List.length HP.out
      rw [size_toList] at h1
      have h2 : (padD (k + 1) (dig Z.natAbs)).length = k + 1 - (dig Z.natAbs).length + (dig Z.natAbs).length := by
        unfold padD; rw [List.length_append, List.length_replicate]
      have h3 := HQ.out
      exact ⟨k + 1 - (dig Z.natAbs).length + (dig Z.natAbs).length - k, by omega, by omega⟩
    obtain ⟨M, hm, hM⟩ := hM
    clear b0 b1 b2 b3 b4
    generalize (⟨(zerS (max ((k : Int) + 1 - (S.size : Int)) 0)).toArray⟩ : ByteArray) ++ S = T at *
    have hr := fun sg hb => pt_text (S := T) (sg := sg) (b := decide (g < 0)) HP.out hm hb
    have HR := Lib.hid hr
    clear hr
    by_cases hg : g < 0
    · go_wp2_with fail
      go_quiet (fail)
      go_wp2_with fail
      go_ret
      exact ⟨ret_str (by have := HR.out ⟨#[45]⟩ (by rw [decide_eq_true hg]; rfl); rw [hm] at this; exact this), Below.drewN (Below.more BW (by with_reducible assumption)) _⟩
    · go_wp2_with fail
      go_quiet (fail)
      go_wp2_with fail
      go_ret
      exact ⟨ret_str (by have := HR.out ⟨#[]⟩ (by rw [decide_eq_false (by omega)]; rfl); rw [hm] at this; first | exact this | simpa using this), Below.drewN (Below.more BW (by with_reducible assumption)) _⟩
theorem rdprint_any (n d : ByteArray) (w : World) (hn : n.size ≤ 4000) (hd : d.size ≤ 4000) :
    Calls Tryz.prog 79 #[.agg #[.string n, .string d]] w (GiveS w (prS (n.data.toList, d.data.toList))) := by
  cases h : isR (n.data.toList, d.data.toList) with
  | false => exact rdprint_no n d w hn hd h
  | true => cases hp : plc (valR (n.data.toList, d.data.toList)).den with
    | none => exact rdprint_none n d w hn hd h hp
    | some k => by_cases hk : k = 0
                · rw [hk] at hp; exact rdprint_zero n d w hn hd h hp
                · exact rdprint_some n d w hn hd h hk hp
end Go.Proofs.YtdeinhkdphgfaaaGreatDoor
/- Plain terms: how long prints are; a stack of prints. Own work; no program text. -/
namespace Go.Proofs.YtdeinhkdphgfaaaGreatDoor
set_option linter.unusedSimpArgs false
set_option linter.unusedVariables false
namespace Tm
theorem dig_len_lt {n k : Nat} (hk : 0 < k) (h : n < 10 ^ k) : (dig n).length ≤ k := dig_length hk h
theorem of_len {n : Int} (h0 : 0 ≤ n) (h : n ≤ 9999) : (ofS n).length ≤ 4 := by
 rw [ofS_pos h0]
 exact dig_length (by decide) (by omega)
theorem name_len {l : List UInt8} (h : isName l = true) : l.length ≤ 20 := by
 unfold isName at h
 simp only [Bool.and_eq_true, decide_eq_true_eq] at h
 omega
theorem body_len {k N : Nat} (hk : k ≤ 20) (hN : (dig N).length ≤ 80) : (bodyD k (dig N)).length ≤ 101 := by
 unfold bodyD
 split
 ·omega
 ·unfold ptD padD
  simp only [List.length_append, List.length_take, List.length_cons, List.length_drop, List.length_replicate]
  omega
theorem abs_num {q : Key} (hr : isR q = true) : absW q.1 = dig (valR q).num.natAbs := by
 unfold absW
 rw [if_pos (isR_w hr).1, valR_num hr]
theorem w_len {l : List UInt8} (h : isW l = true) : l.length ≤ (absW l).length + 1 := by
 unfold absW
 rw [if_pos h]
 rcases isW_cases h with ⟨k, e⟩ | ⟨r, e, k, _, e2⟩
 ·rw [e, Int.natAbs_natCast, dig_valS k]; exact Nat.le_succ _
 ·rw [e2, Int.natAbs_neg, Int.natAbs_natCast, dig_valS k, e, List.length_cons]; exact Nat.le_refl _
theorem numP_len {q : Key} (hr : isR q = true) (h1 : (absW q.1).length ≤ 60) (h2 : q.2.length ≤ 60) : (numP q).length ≤ 140 := by
 have hl := w_len (isR_w hr).1
 have h3 := h1
 rw [abs_num hr] at h3
 unfold numP
 split
 ·next hd =>
  obtain ⟨_, ⟨k, hk, hk2⟩, h0⟩ := dec_q hd
  rw [prS_yes hr, prD_body hk, show decide ((valR q).num < 0) = false from decide_eq_false (by omega)]
  show (bodyD k _).length ≤ 140
  have hN : (dig ((valR q).num.natAbs * (10 ^ k / (valR q).den))).length ≤ 80 := by
   by_cases k0 : k = 0
   ·subst k0
    have hq : (10 ^ 0 / (valR q).den) ≤ 1 := Nat.div_le_self _ _
    have h4 : (valR q).num.natAbs * (10 ^ 0 / (valR q).den) ≤ (valR q).num.natAbs := by
     have := Nat.mul_le_mul_left (valR q).num.natAbs hq
     rwa [Nat.mul_one] at this
    exact Nat.le_trans (dig_len_le h4) (by omega)
   ·exact Nat.le_trans (prod_len (Nat.pos_of_ne_zero k0) (Nat.div_le_self _ _)) (by omega)
  exact Nat.le_trans (body_len hk2 hN) (by decide)
 ·simp only [numH, List.length_append, List.length_cons, List.length_nil]
  omega
theorem leafH_len (op : Int) : (leafH op).length ≤ 4 := by
 unfold leafH
 split
 ·exact Nat.le_refl _
 ·split <;> decide
theorem leaf_len {x : Nd} (h : okN x = true) (h0 : arN x.op = some 0) : (leafP x).length ≤ 140 := by
 unfold okN at h
 unfold leafP
 rcases ops0 h0 with e | e | e | e | e
 ·rw [if_pos e] at h ⊢
  simp only [Bool.and_eq_true, decide_eq_true_eq] at h
  exact numP_len h.2.1 h.2.2.1 h.2.2.2
 ·rw [if_neg (by omega), if_pos e] at h ⊢
  simp only [Bool.and_eq_true, decide_eq_true_eq, astB] at h
  have := name_len h.2.1.1
  have := of_len h.2.2.1 h.2.2.2
  simp only [List.length_append, List.length_cons, List.length_nil]
  omega
 all_goals
  rw [if_neg (by omega), if_neg (by omega), if_pos (by omega)] at h
  rw [if_neg (by omega), if_neg (by omega)]
  simp only [Bool.and_eq_true, decide_eq_true_eq, astB] at h
  have := name_len h.2.1.1
  have ha := h.2.2.1
  have hb := h.2.2.2.1
  have hab := h.2.2.2.2.1
  have := of_len ha (by omega)
  have := of_len (n := x.b) (by omega) hb
  have hf := leafH_len x.op
  simp only [List.length_append, List.length_cons, List.length_nil]
  omega
theorem fnH_len (op : Int) : (fnH op).length ≤ 4 := by
 unfold fnH
 split
 ·exact Nat.le_refl _
 ·split <;> decide
theorem pr_len : ∀ {t : Tr}, t.wf → okT t → (pr t).length ≤ 140 * t.flat.length
 | .t0 x, hw, ho => by
  rw [pr0]
  exact leaf_len (ok_t0 ho) hw
 | .t1 x a, hw, ho => by
  obtain ⟨h1, h2⟩ := ok_t1 ho
  have ih := pr_len hw.2 h2
  rw [pr1 (ops1 hw.1)]
  simp only [Tr.flat, List.length_append, List.length_cons, List.length_nil]
  omega
 | .t2 x a b, hw, ho => by
  obtain ⟨h1, h2, h3⟩ := ok_t2 ho
  have iha := pr_len hw.2.1 h2
  have ihb := pr_len hw.2.2 h3
  have hf := fnH_len x.op
  by_cases h9 : x.op ≤ 9
  ·rw [pr2 (by rcases ops2 hw.1 with e | e | e | e | e | e <;> omega) h9]
   simp only [Tr.flat, List.length_append, List.length_cons, List.length_nil]
   omega
  ·rw [pr2f (by omega)]
   simp only [Tr.flat, List.length_append, List.length_cons, List.length_nil]
   omega
 | .t3 x a b c, hw, ho => by
  obtain ⟨h1, h2, h3, h4⟩ := ok_t3 ho
  have iha := pr_len hw.2.1 h2
  have ihb := pr_len hw.2.2.1 h3
  have ihc := pr_len hw.2.2.2 h4
  rw [pr3 (ops3 hw.1)]
  simp only [Tr.flat, List.length_append, List.length_cons, List.length_nil]
  omega
def ps (st : List Tr) : List (List UInt8) := st.map pr
theorem ps_len (st : List Tr) : (ps st).length = st.length := List.length_map ..
theorem pr_mk {x : Nd} {l : List Tr} (h : l.length ≤ 3) : pr (mkT x l) = if l = [] then leafP x else aboveP x.op (ps l) := by
 have k : pr (mkT x l) = prF x (ps l) := fold_mk prF h
 rw [k]
 unfold prF
 by_cases e : l = []
 ·subst e; rfl
 ·rw [if_neg e]
  exact if_neg (fun c => e (List.map_eq_nil_iff.1 c))
theorem print_yes {t : List Nd} {tr : Tr} (h : formB t = true) (ht : treeOf t = some tr) (ho : ∀ x ∈ t, okN x = true) : printT t = pr tr := by
 unfold printT
 rw [ht]
 dsimp only
 rw [if_pos]
 rw [h, List.all_eq_true.2 ho]; rfl
theorem print_form {t : List Nd} (h : formB t = false) : printT t = [] := by
 unfold printT
 split
 ·rw [h]; rfl
 ·rfl
theorem print_bad {t : List Nd} {i : Nat} {x : Nd} (hx : t[i]? = some x) (h : okN x = false) : printT t = [] := by
 unfold printT
 split
 ·rw [if_neg]
  intro k
  simp only [Bool.and_eq_true, List.all_eq_true] at k
  rw [k.2 x (List.mem_of_getElem? hx)] at h
  cases h
 ·rfl
theorem stk_ok {t : List Nd} {i : Nat} {st : List Tr} (h : stk t i = some st) (ho : ∀ j x, j < i → t[j]? = some x → okN x = true) : ∀ s ∈ st, s.wf ∧ okT s := fun s hs => by
 obtain ⟨h1, h2⟩ := stk_flat h
 refine ⟨h2 s hs, fun x hx => ?_⟩
 have hm : x ∈ t.take i := by
  rw [← h1]
  exact List.mem_flatten.2 ⟨s.flat, List.mem_map.2 ⟨s, hs, rfl⟩, hx⟩
 obtain ⟨j, hj⟩ := List.getElem?_of_mem hm
 rw [List.getElem?_take] at hj
 split at hj
 ·next hlt => exact ho j x hlt hj
 ·cases hj
end Tm
end Go.Proofs.YtdeinhkdphgfaaaGreatDoor

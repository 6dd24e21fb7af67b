/- The document's own answer for naturals: Div, Gcd. -/
import Derived.Test.YtcekdidefomkfaaDoorRefE
namespace Go.Proofs.YtcekdidefomkfaaDoor
open Go.RowKit

theorem dig_len_le {m n : Nat} (h : m ≤ n) : (dig m).length ≤ (dig n).length := by
  have h1 := valS_lt (dig_all n)
  rw [valS_dig] at h1
  refine dig_length (List.length_pos_iff.2 (dig_ne n)) (by omega)
theorem dig_len_more {m n : Nat} (h : m < 10 * n) : (dig m).length ≤ (dig n).length + 1 := by
  have h1 := valS_lt (dig_all n)
  rw [valS_dig] at h1
  refine dig_length (by omega) (by rw [Nat.pow_succ]; omega)
theorem dig_len {s : ByteArray} (h : isNat s.data.toList = true) : (dig (valS s.data.toList)).length = s.size := by rw [dig_valS h]; rfl
theorem size_dig (n : Nat) : (⟨(dig n).toArray⟩ : ByteArray).size = (dig n).length := by show (dig n).toArray.size = _; simp
theorem str_dig {s : ByteArray} (h : isNat s.data.toList = true) : s = ⟨(dig (valS s.data.toList)).toArray⟩ := bytes_eq (dig_valS h).symm
theorem step_div {X v d : Nat} (hv : 0 < v) : (10 * X + d) / v = 10 * (X / v) + (10 * (X % v) + d) / v ∧ (10 * X + d) % v = (10 * (X % v) + d) % v := by
  have h : 10 * X + d = v * (10 * (X / v)) + (10 * (X % v) + d) := by
    have := Nat.div_add_mod X v
    have e : v * (10 * (X / v)) = 10 * (v * (X / v)) := Nat.mul_left_comm _ _ _
    omega
  rw [h, Nat.mul_add_div hv, Nat.mul_add_mod]
  exact ⟨rfl, rfl⟩
theorem div_of {Y v d : Nat} (h1 : d * v ≤ Y) (h2 : Y - d * v < v) : Y / v = d ∧ Y % v = Y - d * v := by
  have hv : 0 < v := by omega
  have e : Y = v * d + (Y - d * v) := by rw [Nat.mul_comm v d]; omega
  constructor
  · rw [e, Nat.mul_add_div hv, Nat.div_eq_of_lt h2, Nat.add_zero]
  · conv => lhs; rw [e]
    rw [Nat.mul_add_mod, Nat.mod_eq_of_lt h2]
theorem cmpN_lt {m n : Nat} (h : m < n) : cmpN m n = -1 := by unfold cmpN; rw [if_pos h]
theorem cmpN_ge {m n : Nat} (h : n ≤ m) : 0 ≤ cmpN m n := by unfold cmpN; rw [if_neg (by omega)]; split <;> decide

set_option maxRecDepth 100000 in
set_option maxHeartbeats 1000000 in
theorem rdiv_any (s t : ByteArray) (w : World) (hs : s.size ≤ 1000000) (ht : t.size ≤ 1000000) :
    Calls Tryd.prog 21 #[.string s, .string t] w (GiveSSB w (divS s.data.toList t.data.toList)) := by
  have c1 := fun w => rmay_any s w (by omega)
  have c2 := fun w => rmay_any t w (by omega)
  cases h1 : isNat s.data.toList with
  | false =>
    have hr : divS s.data.toList t.data.toList = ([], [], false) := by unfold divS; rw [h1]; rfl
    rw [hr]
    simp only [h1] at c1
    clear hr h1 c2
    go_enter Tryd.func21, Tryd.ntmps21
    go_wp2_with fail
    refine (c1 _).mono ?_
    rintro e w' ⟨rfl, rfl⟩
    go_wp2_with fail
    go_ret3
    exact ⟨rfl, Below.refl _ _⟩
  | true => cases h2 : isNat t.data.toList with
    | false =>
      have hr : divS s.data.toList t.data.toList = ([], [], false) := by unfold divS; rw [h1, h2]; rfl
      rw [hr]
      simp only [h1] at c1
      simp only [h2] at c2
      clear hr h1 h2
      go_enter Tryd.func21, Tryd.ntmps21
      go_wp2_with fail
      refine (c1 _).mono ?_
      rintro e w' ⟨rfl, rfl⟩
      go_wp2_with fail
      refine (c2 _).mono ?_
      rintro e w' ⟨rfl, rfl⟩
      go_wp2_with fail
      go_ret3
      exact ⟨rfl, Below.refl _ _⟩
    | true =>
      by_cases h0 : valS t.data.toList = 0
      · have hr : divS s.data.toList t.data.toList = ([], [], false) := by
          unfold divS; rw [h1, h2, h0]; rfl
        rw [hr]
        have hz := nat_zero h2 h0
        have e1 := eqB_true hz
        have e2 := toList_is hz
        simp only [h1] at c1
        simp only [h2] at c2
        clear hr h1 h2 h0 hz
        go_enter Tryd.func21, Tryd.ntmps21
        go_wp2_with fail
        refine (c1 _).mono ?_
        rintro e w' ⟨rfl, rfl⟩
        go_wp2_with fail
        refine (c2 _).mono ?_
        rintro e w' ⟨rfl, rfl⟩
        go_wp2_with fail
        go_ret3
        exact ⟨rfl, Below.refl _ _⟩
      · have h0' : 0 < valS t.data.toList := by omega
        have hr : divS s.data.toList t.data.toList = (dig (valS s.data.toList / valS t.data.toList), dig (valS s.data.toList % valS t.data.toList), true) := by
          unfold divS; rw [h1, h2]
          have : decide (0 < valS t.data.toList) = true := by simpa using h0'
          rw [this]; rfl
        rw [hr]
        have hne : t.data.toList ≠ [48] := fun e => h0 (by rw [e]; rfl)
        have e1 := eqB_false hne
        have e2 := eqS_false hne
        have hsz0 : 0 < s.size := nat_size h1
        have hx0 : valS (s.data.toList.take 0) = 0 := by rw [List.take_zero]; rfl
        have hxs : ∀ k, k < s.size → valS (s.data.toList.take (k + 1)) = 10 * valS (s.data.toList.take k) + ((gb s.data.toList k).toNat - 48) := fun k hk => valS_take_more _ hk
        have hxd : ∀ k, k < s.size → 48 ≤ (gb s.data.toList k).toNat ∧ (gb s.data.toList k).toNat ≤ 57 := fun k hk => gb_dig (isNat_all h1) hk
        have hxe : valS (s.data.toList.take s.size) = valS s.data.toList := by rw [← size_toList, List.take_length]
        have hx1 : ∀ k, k < s.size → (s.extract k (k + 1)).data.toList = [gb s.data.toList k] := fun k hk => by
          rw [Lib.extract_data, show k + 1 - k = 1 from by omega, List.drop_eq_getElem_cons (by rw [size_toList]; exact hk)]
          unfold gb
          rw [List.getElem?_eq_getElem (by rw [size_toList]; exact hk)]
          rfl
        have htl := dig_len h2
        have hcmp : ∀ (m : Nat) (w : World), (dig m).length ≤ 1000001 → Calls Tryd.prog 29 #[.string ⟨(dig m).toArray⟩, .string t] w fun e w' => e = .returned (.int .i64 (cmpN m (valS t.data.toList))) ∧ w = w' := fun m w hm => by
          have h := rcmp_any ⟨(dig m).toArray⟩ t w (by rw [size_dig]; omega) (by omega)
          have e : cmpS (⟨(dig m).toArray⟩ : ByteArray).data.toList t.data.toList = cmpN m (valS t.data.toList) := by
            show cmpS (dig m) _ = _
            rw [cmpS_nat (isNat_dig m) h2, valS_dig]
          rw [e] at h
          exact h
        have hsub : ∀ (m : Nat) (w : World), (dig m).length ≤ 1000001 → valS t.data.toList ≤ m → Calls Tryd.prog 19 #[.string ⟨(dig m).toArray⟩, .string t] w (GiveSB w (dig (m - valS t.data.toList), true)) := fun m w hm hle => by
          have h := rsub_any ⟨(dig m).toArray⟩ t w (by rw [size_dig]; omega) (by omega)
          have e : subS (⟨(dig m).toArray⟩ : ByteArray).data.toList t.data.toList = (dig (m - valS t.data.toList), true) := by
            show subS (dig m) _ = _
            unfold subS
            rw [isNat_dig, h2, valS_dig, decide_eq_true hle]; rfl
          rw [e] at h
          exact h
        simp only [h1] at c1
        simp only [h2] at c2
        generalize hX : (fun k => valS (s.data.toList.take k)) = X at *
        have hXe : ∀ k, valS (s.data.toList.take k) = X k := fun k => by rw [← hX]
        simp only [hXe] at hx0 hxs hxe
        rw [← hxe]
        have HX0 := Lib.hid hx0; have HXS := Lib.hid hxs; have HXD := Lib.hid hxd; have HX1 := Lib.hid hx1
        have HCMP := Lib.hid hcmp; have HSUB := Lib.hid hsub
        generalize valS t.data.toList = V at *
        have HTL : Hid ((dig V).length ≤ 1000000) := Lib.hid (by rw [htl]; exact ht)
        clear hx0 hxs hxd hx1 hX hXe hxe hr h1 h2 h0 hne hcmp hsub htl
        go_enter Tryd.func21, Tryd.ntmps21
        go_wp2_with fail
        refine (c1 _).mono ?_
        rintro e w' ⟨rfl, rfl⟩
        go_wp2_with fail
        refine (c2 _).mono ?_
        rintro e w' ⟨rfl, rfl⟩
        go_wp2_with fail
        go_loopw [7, 8, 9] (fun q r i W => ∃ (k : Nat) (qs : ByteArray), k ≤ s.size ∧ i = .int .i64 k ∧ q = .string qs ∧ r = .string ⟨(dig (X k % V)).toArray⟩ ∧ Hid (qs.data.toList.all isDig = true ∧ qs.size = k ∧ valS qs.data.toList = X k / V) ∧ Below w.heap.size w W) (fun _ _ i _ => s.size - (intOf i).toNat)
        case atStart => exact ⟨0, ⟨#[]⟩, Nat.zero_le _, rfl, rfl, by rw [HX0.out, Nat.zero_mod, dig_zero], ⟨rfl, rfl, by rw [HX0.out, Nat.zero_div]; rfl⟩, Below.refl _ _⟩
        case round =>
          obtain ⟨k, qs, hk, rfl, rfl, rfl, HQ, hbw⟩ := hrel
          by_cases hlt : k < s.size
          · obtain ⟨d, hd⟩ : ∃ d, d = (gb s.data.toList k).toNat - 48 := ⟨_, rfl⟩
            have hd9 : d ≤ 9 := by have := HXD.out k hlt; omega
            have hXk := HXS.out k hlt
            rw [← hd] at hXk
            obtain ⟨Y, hY⟩ : ∃ Y, Y = 10 * (X k % V) + d := ⟨_, rfl⟩
            have hR := Nat.mod_lt (X k) h0'
            have hYV : Y < 10 * V := by omega
            have hstep := step_div (X := X k) (d := d) h0'
            rw [← hY] at hstep
            have hlR := dig_len_le (Nat.le_of_lt hR)
            have hlY := dig_len_more hYV
            have hLV := HTL.out
            have hall : ((⟨(dig (X k % V)).toArray⟩ : ByteArray) ++ s.extract k (k + 1)).data.toList = dig (X k % V) ++ [gb s.data.toList k] := by rw [ba_append, HX1.out k hlt]
            have hbd := HXD.out k hlt
            have hallD : (dig (X k % V) ++ [gb s.data.toList k]).all isDig = true := by
              rw [List.all_append, dig_all, Bool.true_and]
              have : isDig (gb s.data.toList k) = true := by unfold isDig; simp only [Bool.and_eq_true, decide_eq_true_eq]; exact hbd
              simp [this]
            have hallV : valS (dig (X k % V) ++ [gb s.data.toList k]) = Y := by rw [valS_snoc, valS_dig, hY, hd]
            have hallL : ((⟨(dig (X k % V)).toArray⟩ : ByteArray) ++ s.extract k (k + 1)).size = (dig (X k % V)).length + 1 := by
              rw [← size_toList, hall, List.length_append]; rfl
            have hes : (s.extract k (k + 1)).size = 1 := by rw [← size_toList, HX1.out k hlt]; rfl
            have hds : (⟨(dig (X k % V)).toArray⟩ : ByteArray).size ≤ 1000000 := by rw [size_dig]; omega
            have htr := fun w => rtrim_any ((⟨(dig (X k % V)).toArray⟩ : ByteArray) ++ s.extract k (k + 1)) w (by rw [hallL]; omega) (by rw [hallL]; omega) (by rw [hall]; exact hallD)
            rw [hall, hallV] at htr
            have HTR := Lib.hid htr
            have HSTEP := Lib.hid hstep; have HXK := Lib.hid hXk; have HLY := Lib.hid hlY; have HYV := Lib.hid hYV
            have hadd := fun w => run_string_add_sum (P := Tryd.prog) w (⟨(dig (X k % V)).toArray⟩ : ByteArray) (s.extract k (k + 1)) (by omega)
            clear hd hXk hY hR hYV hstep hlR hlY hLV hall hbd hallD hallV hallL hes hds htr
            go_wp2_with fail
            refine (HTR.out _).mono ?_
            rintro e w' ⟨rfl, rfl⟩
            clear hadd
            go_wp2_with fail
            go_loopw [8, 10] (fun r c W => ∃ m : Nat, r = .string ⟨(dig (Y - m * V)).toArray⟩ ∧ m * V ≤ Y ∧ c = .int .i64 m ∧ Below w.heap.size w W) (fun _ c _ => 10 - (intOf c).toNat)
            case atStart => exact ⟨0, by rw [Nat.zero_mul, Nat.sub_zero], by rw [Nat.zero_mul]; exact Nat.zero_le _, rfl, hbw⟩
            case round =>
              obtain ⟨m, rfl, hm, rfl, hbw⟩ := hrel
              have hm10 : m < 10 := by
                have h1 := HYV.out
                rcases Nat.lt_or_ge m 10 with h | h
                · exact h
                · have := Nat.mul_le_mul_right V h
                  omega
              have hlen : (dig (Y - m * V)).length ≤ 1000001 := by
                have h1 := dig_len_le (Nat.sub_le Y (m * V))
                have h2 := HLY.out
                have h3 := HTL.out
                omega
              by_cases hge : V ≤ Y - m * V
              · have hc := cmpN_ge hge
                have HC1 := Lib.hid (fun w => HCMP.out (Y - m * V) w hlen)
                have HC2 := Lib.hid (fun w => HSUB.out (Y - m * V) w hlen hge)
                have hnx : (m + 1) * V ≤ Y := by rw [Nat.add_mul, Nat.one_mul]; omega
                have hns : Y - m * V - V = Y - (m + 1) * V := by rw [Nat.add_mul, Nat.one_mul]; omega
                have HNX := Lib.hid hnx; have HNS := Lib.hid hns
                clear hnx hns hlen hge hm
                generalize cmpN (Y - m * V) V = z at *
                go_wp2_with fail
                refine (HC1.out _).mono ?_
                rintro e w' ⟨rfl, rfl⟩
                go_wp2_with fail
                refine (HC2.out _).mono ?_
                rintro e w' ⟨rfl, hb⟩
                go_wp2_with fail
                go_roundw
                case rel => exact ⟨m + 1, by rw [HNS.out], HNX.out, by go_num, hbw.trans (hb.mono hbw.size)⟩
                case measure => simp [intOf]; omega
              · have hc := cmpN_lt (Nat.lt_of_not_le hge)
                have HC1 := Lib.hid (fun w => HCMP.out (Y - m * V) w hlen)
                rw [hc] at HC1
                have hdv := div_of hm (Nat.lt_of_not_le hge)
                have hk1 : X (k + 1) % V = Y - m * V := by rw [HXK.out, HSTEP.out.2, hdv.2]
                have hqs : (qs ++ ⟨#[digN m]⟩).data.toList.all isDig = true ∧ (qs ++ ⟨#[digN m]⟩).size = k + 1 ∧ valS (qs ++ ⟨#[digN m]⟩).data.toList = X (k + 1) / V := by
                  obtain ⟨q1, q2, q3⟩ := HQ.out
                  refine ⟨?_, ?_, ?_⟩
                  · rw [ba_append, List.all_append, q1, Bool.true_and]; simp [isDig_digN]
                  · rw [ByteArray.size_append, q2]; rfl
                  · rw [ba_append, HXK.out, HSTEP.out.1, hdv.1, ← q3]
                    show valS (_ ++ [digN m]) = _
                    rw [valS_snoc, digN_toNat]; omega
                have hqsz : qs.size = k := HQ.out.2.1
                have hex := digs_extract hm10
                have hadd := fun w => run_string_add_sum (P := Tryd.prog) w qs (⟨#[digN m]⟩ : ByteArray) (by rw [hqsz]; show k + 1 ≤ _; omega)
                have HQS := Lib.hid hqs; have HK1 := Lib.hid hk1
                clear hqs hk1 hdv hge hm hlen hqsz hc
                go_wp2_with fail
                refine (HC1.out _).mono ?_
                rintro e w' ⟨rfl, rfl⟩
                go_wp2_with fail
                go_roundw
                case rel => exact ⟨k + 1, _, by omega, by go_num, rfl, by rw [HK1.out], HQS.out, hbw⟩
                case measure => simp [intOf]; omega
          · obtain rfl : k = s.size := by omega
            have htr := fun w => rtrim_any qs w (by rw [HQ.out.2.1]; omega) (by rw [HQ.out.2.1]; exact hsz0) HQ.out.1
            rw [HQ.out.2.2] at htr
            have HTR := Lib.hid htr
            clear htr
            go_wp2_with fail
            refine (HTR.out _).mono ?_
            rintro e w' ⟨rfl, rfl⟩
            go_wp2_with fail
            go_ret3
            exact ⟨rfl, hbw⟩
end Go.Proofs.YtcekdidefomkfaaDoor

/- The document's own answer for naturals: Small, Add, Sub. -/
import Derived.Test.YtcekdidefomkfaaDoorRefO
namespace Go.Proofs.YtcekdidefomkfaaDoor
open Go.RowKit

theorem valS_take_le (l : List UInt8) (k : Nat) : valS (l.take k) ≤ valS l := by
  have h := valS_append (l.take k) (l.drop k)
  rw [List.take_append_drop] at h
  have : valS (l.take k) * 1 ≤ valS (l.take k) * 10 ^ (l.drop k).length := Nat.mul_le_mul_left _ (Nat.pow_pos (by decide))
  omega
theorem valS_take_more (l : List UInt8) {k : Nat} (h : k < l.length) : valS (l.take (k + 1)) = 10 * valS (l.take k) + ((gb l k).toNat - 48) := by
  have h1 : l[k]? = some (gb l k) := by unfold gb; rw [List.getElem?_eq_getElem h]; rfl
  rw [List.take_add_one, h1, Option.toList_some, valS_snoc]
theorem ret_two {a b : Int} {c : Bool} (h : a = b) : Ending.returned (.tuple #[.int .i64 a, .bool c]) = .returned (.tuple #[.int .i64 b, .bool c]) := by rw [h]
def maxTxt : List UInt8 := [57, 50, 50, 51, 51, 55, 50, 48, 51, 54, 56, 53, 52, 55, 55, 53, 56, 48, 55]
theorem maxTxt_nat : isNat maxTxt = true := by decide
theorem maxTxt_val : valS maxTxt = 9223372036854775807 := by decide

set_option maxRecDepth 100000 in
set_option maxHeartbeats 400000 in
theorem rsmall_any (s : ByteArray) (w : World) (hs : s.size ≤ 1000000000) :
    Calls Tryd.prog 23 #[.string s] w fun e w' => e = .returned (.tuple #[.int .i64 (smallS s.data.toList).1, .bool (smallS s.data.toList).2]) ∧ w = w' := by
  have c1 := fun w => rmay_any s w (by omega)
  have c2 := fun w => rcmp_any s ⟨#[57, 50, 50, 51, 51, 55, 50, 48, 51, 54, 56, 53, 52, 55, 55, 53, 56, 48, 55]⟩ w hs (by decide)
  cases h1 : isNat s.data.toList with
  | false =>
    have hr : smallS s.data.toList = (0, false) := by unfold smallS; rw [h1]; rfl
    rw [hr]
    simp only [h1] at c1
    clear hr h1 c2
    go_enter Tryd.func23, Tryd.ntmps23
    go_wp2_with fail
    refine (c1 _).mono ?_
    rintro e w' ⟨rfl, rfl⟩
    go_wp2_with fail
    go_ret2
    exact ⟨rfl, rfl⟩
  | true =>
    have hc : cmpS s.data.toList (⟨#[57, 50, 50, 51, 51, 55, 50, 48, 51, 54, 56, 53, 52, 55, 55, 53, 56, 48, 55]⟩ : ByteArray).data.toList = cmpN (valS s.data.toList) (valS maxTxt) := cmpS_nat (r := maxTxt) h1 maxTxt_nat
    rw [hc] at c2
    have hm := maxTxt_val
    by_cases hle : valS s.data.toList ≤ valS maxTxt
    · have hr : smallS s.data.toList = ((valS s.data.toList : Int), true) := by
        unfold smallS
        have : decide (valS s.data.toList ≤ 9223372036854775807) = true := by simpa [maxTxt_val] using hle
        rw [h1, this]; rfl
      rw [hr]
      have hz : ¬ 0 < cmpN (valS s.data.toList) (valS maxTxt) := by
        unfold cmpN; split
        · omega
        · rw [if_pos (by omega)]; omega
      have hx0 : valS (s.data.toList.take 0) = 0 := by rw [List.take_zero]; rfl
      have hxb : ∀ k, valS (s.data.toList.take k) ≤ 9223372036854775807 := fun k => by have := valS_take_le s.data.toList k; omega
      have hxs : ∀ k, k < s.size → valS (s.data.toList.take (k + 1)) = 10 * valS (s.data.toList.take k) + ((gb s.data.toList k).toNat - 48) := fun k hk => valS_take_more _ hk
      have hxd : ∀ k, k < s.size → 48 ≤ (gb s.data.toList k).toNat ∧ (gb s.data.toList k).toNat ≤ 57 := fun k hk => gb_dig (isNat_all h1) hk
      have hxe : valS (s.data.toList.take s.size) = valS s.data.toList := by rw [← size_toList, List.take_length]
      simp only [h1] at c1
      generalize hX : (fun k => valS (s.data.toList.take k)) = X at *
      have hXe : ∀ k, valS (s.data.toList.take k) = X k := fun k => by rw [← hX]
      simp only [hXe] at hx0 hxb hxs hxe
      rw [← hxe]
      have HX0 := Lib.hid hx0; have HXB := Lib.hid hxb; have HXS := Lib.hid hxs; have HXD := Lib.hid hxd
      generalize cmpN (valS s.data.toList) (valS maxTxt) = z at *
      clear hx0 hxb hxs hxd hX hXe hxe hr h1 hm hle hc
      go_enter Tryd.func23, Tryd.ntmps23
      go_wp2_with fail
      refine (c1 _).mono ?_
      rintro e w' ⟨rfl, rfl⟩
      go_wp2_with fail
      refine (c2 _).mono ?_
      rintro e w' ⟨rfl, rfl⟩
      go_wp2_with fail
      go_loop [4, 5] (fun n i => ∃ k : Nat, k ≤ s.size ∧ i = .int .i64 k ∧ n = .int .i64 (X k)) (fun _ i => s.size - (intOf i).toNat)
      case atStart => exact ⟨0, Nat.zero_le _, rfl, congrArg (Value.int .i64) (by rw [HX0.out]; rfl)⟩
      case round =>
        obtain ⟨k, hk, rfl, rfl⟩ := hrel
        by_cases hlt : k < s.size
        · obtain ⟨hd1, hd2⟩ := HXD.out k hlt
          have hst := HXS.out k hlt
          rw [gb_idx s hlt] at hd1 hd2 hst
          have hb1 := HXB.out k
          have hb2 := HXB.out (k + 1)
          have he : ((X (k + 1) : Nat) : Int) = 10 * (X k : Int) + ((s[k].toNat : Int) - 48) := by omega
          have hb3 : 10 * (X k : Int) + ((s[k].toNat : Int) - 48) ≤ 9223372036854775807 := by omega
          have HE := Lib.hid he
          clear he hst hb2
          go_wp2
          go_round
          case rel => exact ⟨k + 1, by omega, by go_num, congrArg (Value.int .i64) (by rw [HE.out])⟩
          case measure => simp [intOf]; omega
        · obtain rfl : k = s.size := by omega
          go_wp2
          go_ret2
          exact ⟨rfl, rfl⟩
    · have hr : smallS s.data.toList = (0, false) := by
        unfold smallS
        have : decide (valS s.data.toList ≤ 9223372036854775807) = false := by simp; omega
        rw [h1, this]; rfl
      rw [hr]
      have hz : 0 < cmpN (valS s.data.toList) (valS maxTxt) := by
        unfold cmpN; rw [if_neg (by omega), if_neg (by omega)]; decide
      simp only [h1] at c1
      generalize cmpN (valS s.data.toList) (valS maxTxt) = z at *
      clear hr h1 hm hle hc
      go_enter Tryd.func23, Tryd.ntmps23
      go_wp2_with fail
      refine (c1 _).mono ?_
      rintro e w' ⟨rfl, rfl⟩
      go_wp2_with fail
      refine (c2 _).mono ?_
      rintro e w' ⟨rfl, rfl⟩
      go_wp2_with fail
      go_ret2
      exact ⟨rfl, rfl⟩

/-- A text of n digits, trimmed. -/
theorem trim_txt {f : Nat → Nat} {n m : Nat} (hf : ∀ q, f q < 10) (h0 : 0 < n) (hn : n ≤ 4611686018427387904) (hm : dsum f n = m) (w : World) :
    Calls Tryd.prog 61 #[.string ⟨(txt f n).toArray⟩] w fun e w' => e = .returned (.string ⟨(dig m).toArray⟩) ∧ w = w' := by
  have hsz : (⟨(txt f n).toArray⟩ : ByteArray).size = n := by show (txt f n).toArray.size = n; simp [txt_length]
  have h := rtrim_any ⟨(txt f n).toArray⟩ w (by rw [hsz]; exact hn) (by rw [hsz]; exact h0) (txt_all hf n)
  have e : valS (⟨(txt f n).toArray⟩ : ByteArray).data.toList = m := (valS_txt hf n).trans hm
  rw [e] at h
  exact h

set_option maxRecDepth 100000 in
set_option maxHeartbeats 1000000 in
theorem radd_any (s t : ByteArray) (w : World) (hs : s.size ≤ 1000000000) (ht : t.size ≤ 1000000000) :
    Calls Tryd.prog 31 #[.string s, .string t] w (GiveS w (addS s.data.toList t.data.toList)) := by
  have c1 := fun w => rmay_any s w (by omega)
  have c2 := fun w => rmay_any t w (by omega)
  cases h1 : isNat s.data.toList with
  | false =>
    have hr : addS s.data.toList t.data.toList = [] := by unfold addS; rw [h1]; rfl
    rw [hr]
    simp only [h1] at c1
    clear hr h1 c2
    go_enter Tryd.func31, Tryd.ntmps31
    go_wp2_with fail
    refine (c1 _).mono ?_
    rintro e w' ⟨rfl, rfl⟩
    go_wp2_with fail
    go_ret
    exact ⟨rfl, Below.refl _ _⟩
  | true => cases h2 : isNat t.data.toList with
    | false =>
      have hr : addS s.data.toList t.data.toList = [] := by unfold addS; rw [h1, h2]; rfl
      rw [hr]
      simp only [h1] at c1
      simp only [h2] at c2
      clear hr h1 h2
      go_enter Tryd.func31, Tryd.ntmps31
      go_wp2_with fail
      refine (c1 _).mono ?_
      rintro e w' ⟨rfl, rfl⟩
      go_wp2_with fail
      refine (c2 _).mono ?_
      rintro e w' ⟨rfl, rfl⟩
      go_wp2_with fail
      go_ret
      exact ⟨rfl, Below.refl _ _⟩
    | true =>
      have hr : addS s.data.toList t.data.toList = dig (valS s.data.toList + valS t.data.toList) := by unfold addS; rw [h1, h2]; rfl
      rw [hr]
      have a1 := fun (k : Nat) (w : World) (hk : k ≤ 1000000001) => rat_any s k w (by omega) (by omega) (isNat_all h1)
      have a2 := fun (k : Nat) (w : World) (hk : k ≤ 1000000001) => rat_any t k w (by omega) (by omega) (isNat_all h2)
      have f1 := dgS_lt (isNat_all h1)
      have f2 := dgS_lt (isNat_all h2)
      have hmm : ∃ m, m ≤ 1000000000 ∧ s.size ≤ m ∧ t.size ≤ m ∧ ((t.size = m ∧ s.size < m) ∨ (s.size = m ∧ t.size ≤ m)) := by
        rcases Nat.lt_or_ge s.size t.size with h | h
        · exact ⟨t.size, by omega, by omega, by omega, .inl ⟨rfl, by omega⟩⟩
        · exact ⟨s.size, by omega, by omega, by omega, .inr ⟨rfl, by omega⟩⟩
      obtain ⟨m, hb, hx, hy, hcase⟩ := hmm
      have hsum : dsum (adD (dgS s.data.toList) (dgS t.data.toList)) (m + 1) = valS s.data.toList + valS t.data.toList := by
        refine ad_done ?_ ?_
        · rw [dsum_dgS (by rw [size_toList]; omega), dsum_dgS (by rw [size_toList]; omega)]
        · have e1 := nat_lt h1
          have e2 := nat_lt h2
          have e3 : 10 ^ s.size ≤ 10 ^ m := Nat.pow_le_pow_right (by decide) hx
          have e4 : 10 ^ t.size ≤ 10 ^ m := Nat.pow_le_pow_right (by decide) hy
          rw [Nat.pow_succ]; omega
      have hcl := adC_le (f := dgS s.data.toList) (g := dgS t.data.toList) (B := 2) (fun i => by have := f1 i; have := f2 i; omega)
      have HT := Lib.hid (fun w => trim_txt (adD_lt _ _) (Nat.succ_pos m) (by omega) hsum w)
      simp only [h1] at c1
      simp only [h2] at c2
      clear hr h1 h2 hsum hs ht
      generalize valS s.data.toList + valS t.data.toList = M at *
      generalize dgS s.data.toList = F at *
      generalize dgS t.data.toList = G at *
      have HF := Lib.hid f1; have HG := Lib.hid f2; have HA1 := Lib.hid a1; have HA2 := Lib.hid a2; have HC := Lib.hid hcl
      have hx1 : max (s.size : Int) (m : Int) = (m : Int) := by omega
      have hx2 : max (m : Int) (t.size : Int) = (m : Int) := by omega
      clear f1 f2 a1 a2 hx hy hcl
      rcases hcase with ⟨hm, hlt⟩ | ⟨hm, hlt⟩
      all_goals
        go_enter Tryd.func31, Tryd.ntmps31
        go_wp2_with fail
        refine (c1 _).mono ?_
        rintro e w' ⟨rfl, rfl⟩
        go_wp2_with fail
        refine (c2 _).mono ?_
        rintro e w' ⟨rfl, rfl⟩
        go_wp2_with (at_make; refine wpList_make_bytes _ rfl _ _ rfl _ _ _ _ (m + 1) rfl rfl (by omega) (by omega) (by omega) ?_; intro w1 hmade)
        clear hm hx1 hx2
        have hmr := hmade.row
        have hmb := hmade.below
        clear hmade
        go_loopw [7, 8] (fun c i W => ∃ k : Nat, k ≤ m + 1 ∧ i = .int .i64 k ∧ c = .int .i64 (adC F G k : Nat) ∧ ByF W w.heap.size (m + 1) ∧ Tx W w.heap.size (m + 1) (adD F G) k ∧ Below w.heap.size w W) (fun _ i _ => m + 1 - (intOf i).toNat)
        case atStart => exact ⟨0, Nat.zero_le _, rfl, rfl, hmr, fun j _ h => absurd h (by omega), hmb⟩
        case round =>
          obtain ⟨k, hk, rfl, rfl, hrow, htx, hbw⟩ := hrel
          by_cases hlt2 : k < m + 1
          · obtain ⟨i, hi⟩ : ∃ i, i = m + 1 - 1 - k := ⟨_, rfl⟩
            have hi1 : i < m + 1 := by omega
            have hi2 : m + 1 - 1 - i = k := by omega
            have hi3 : (m : Int) - (k : Int) = (i : Int) := by omega
            obtain ⟨⟨y, hy⟩, hfr⟩ := hrow i hi1
            have hr2 := hrow.set ((48 + adD F G k : Nat) : Int) hi1
            have ht2 := htx.set hrow hi1 hi2
            have b1 := HF.out k
            have b2 := HG.out k
            have b3 := HC.out k
            have hc : ((48 + adD F G k : Nat) : Int) = 48 + ((F k : Int) + (G k : Int) + (adC F G k : Int)) % 10 := by unfold adD; omega
            have hc2 : ((adC F G (k + 1) : Nat) : Int) = ((F k : Int) + (G k : Int) + (adC F G k : Int)) / 10 := by rw [adC]; omega
            rw [hc] at hr2 ht2
            have HR2 := Lib.hid hr2; have HT2 := Lib.hid ht2; have HI1 := Lib.hid hi1; have HC2 := Lib.hid hc2
            clear hr2 ht2 hi2 hi hc hc2
            go_wp2_with fail
            refine (HA1.out k _ (by omega)).mono ?_
            rintro e w' ⟨rfl, rfl⟩
            go_wp2_with fail
            refine (HA2.out k _ (by omega)).mono ?_
            rintro e w' ⟨rfl, rfl⟩
            go_wp2_with fail
            go_roundw
            case rel => exact ⟨k + 1, by omega, by go_num, congrArg (Value.int .i64) HC2.out.symm, HR2.out, HT2.out, hbw.trans ((Wr.one wr w.heap.size i _).below (Nat.le_refl _) hbw.size)⟩
            case measure => simp [intOf]; omega
          · obtain rfl : k = m + 1 := by omega
            have hcv := run_convert_bytes_back (P := Tryd.prog) wr 47 9 5 ⟨w.heap.size, 0, none⟩ (m + 1) (txt (adD F G) (m + 1)) Tryd.underlying47 Tryd.underlying5 Tryd.underlying9 (htx.cells (adD_lt F G))
            rw [txt_length] at hcv
            go_wp2_with fail
            refine (HT.out _).mono ?_
            rintro e w' ⟨rfl, rfl⟩
            go_wp2_with fail
            go_ret
            exact ⟨rfl, hbw⟩
end Go.Proofs.YtcekdidefomkfaaDoor

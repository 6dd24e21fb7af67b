/- The walk of NatOrder. -/
import Derived.Test.YtcekdidefomkfaaDoorAllApi
namespace Go.Proofs.YtcekdidefomkfaaDoor
open Go.RowKit

set_option maxRecDepth 100000 in
set_option maxHeartbeats 2000000 in
theorem order1_main (a b c : Nat) (w : World) (la : Lt a 200) (lb : Lt b 200) (lc : Lt c 200) (za : (⟨(dig a).toArray⟩ : ByteArray).size ≤ 200) (zb : (⟨(dig b).toArray⟩ : ByteArray).size ≤ 200) (zc : (⟨(dig c).toArray⟩ : ByteArray).size ≤ 200) (ht : GoodT w) (he : GoodE w) :
    Calls Tryd.prog 7 #[.string ⟨(dig a).toArray⟩, .string ⟨(dig b).toArray⟩, .string ⟨(dig c).toArray⟩] w (GiveB w true) := by
  have HT := Lib.hid ht; have HE := Lib.hid he
  have La := Lib.hid la
  have Lb := Lib.hid lb
  have Lc := Lib.hid lc
  have HS := Lib.hid (fun w => short3_any (short_three ⟨za, zb, zc⟩) w)
  clear ht he la za lb zb lc zc
  have hab : (a < b ∧ cmpN a b = -1 ∧ cmpN b a = 1) ∨ (a = b ∧ cmpN a b = 0 ∧ cmpN b a = 0) ∨ (b < a ∧ cmpN a b = 1 ∧ cmpN b a = -1) := by
    rcases Nat.lt_trichotomy a b with h | h | h
    · exact .inl ⟨h, cmpN_lt h, cmpN_gt h⟩
    · exact .inr (.inl ⟨h, by rw [h]; exact cmpN_eq _, by rw [h]; exact cmpN_eq _⟩)
    · exact .inr (.inr ⟨h, cmpN_gt h, cmpN_lt h⟩)
  have hyz : ∃ y z, cmpN b c = y ∧ cmpN a c = z ∧ ((b ≤ c ∧ y ≤ 0) ∨ (¬ b ≤ c ∧ ¬ y ≤ 0)) ∧ ((a ≤ c ∧ ¬ 0 < z) ∨ (¬ a ≤ c ∧ 0 < z)) := by
    refine ⟨_, _, rfl, rfl, ?_, ?_⟩
    · rcases Nat.lt_or_ge c b with h | h
      · exact .inr ⟨by omega, by rw [cmpN_gt h]; decide⟩
      · refine .inl ⟨h, ?_⟩
        unfold cmpN; split
        · decide
        · rw [if_pos (by omega)]; decide
    · rcases Nat.lt_or_ge c a with h | h
      · exact .inr ⟨by omega, by rw [cmpN_gt h]; decide⟩
      · refine .inl ⟨h, ?_⟩
        unfold cmpN; split
        · decide
        · rw [if_pos (by omega)]; decide
  obtain ⟨y, z, hy, hz, hyc, hzc⟩ := hyz
  have HY := Lib.hid hy; have HZ := Lib.hid hz
  clear hy hz
  rcases hab with ⟨hab, hx, hx'⟩ | ⟨hab, hx, hx'⟩ | ⟨hab, hx, hx'⟩
  · have HX := Lib.hid hx; have HX' := Lib.hid hx'; have HAB := Lib.hid hab
    have e1 := dig_beq (Nat.ne_of_lt hab)
    have e2 := dig_neq (Nat.ne_of_lt hab)
    have hlen : (dig a).length ≤ (dig b).length := dig_len_le (by omega)
    have hlen2 : ((⟨(dig a).toArray⟩ : ByteArray).size : Int) ≤ ((⟨(dig b).toArray⟩ : ByteArray).size : Int) := by rw [size_dig, size_dig]; omega
    clear hx hx'
    rcases hyc with ⟨hbc, hy⟩ | ⟨hbc, hy⟩ <;> rcases hzc with ⟨hac, hz⟩ | ⟨hac, hz⟩
    all_goals first
      | (exfalso; omega)
      | (clear hab hbc hac
         go_enter Tryd.func7, Tryd.ntmps7
         go_wp2_with fail
         refine (fixed1_any _ HT.out HE.out).mono ?_
         rintro e w1 ⟨rfl, b⟩
         have B1 := b
         clear b
         go_wp2_with fail
         refine (HS.out _).mono ?_
         rintro e w2 ⟨rfl, b⟩
         have B2 := Below.more B1 b
         clear b
         go_wp2_with fail
         refine (nMay La.out _).mono ?_
         rintro e w' ⟨rfl, rfl⟩
         go_wp2_with fail
         refine (nMay Lb.out _).mono ?_
         rintro e w' ⟨rfl, rfl⟩
         go_wp2_with fail
         refine (nMay Lc.out _).mono ?_
         rintro e w' ⟨rfl, rfl⟩
         go_wp2_with fail
         refine (nCmp La.out Lb.out HX.out _).mono ?_
         rintro e w' ⟨rfl, rfl⟩
         go_wp2_with fail
         refine (nCmp Lb.out Lc.out HY.out _).mono ?_
         rintro e w' ⟨rfl, rfl⟩
         go_wp2_with fail
         refine (nCmp La.out Lc.out HZ.out _).mono ?_
         rintro e w' ⟨rfl, rfl⟩
         go_wp2_with fail
         refine (nSubNo La.out Lb.out HAB.out _).mono ?_
         rintro e w3 ⟨rfl, b⟩
         have B3 := Below.more B2 b
         clear b
         go_wp2_with fail
         refine (nCmp Lb.out La.out HX'.out _).mono ?_
         rintro e w' ⟨rfl, rfl⟩
         go_wp2_with fail
         all_goals go_ret
         all_goals exact ⟨rfl, B3⟩)
  · subst hab
    have HX := Lib.hid hx; have HX' := Lib.hid hx'
    clear hx hx'
    rcases hyc with ⟨hbc, hy⟩ | ⟨hbc, hy⟩ <;> rcases hzc with ⟨hac, hz⟩ | ⟨hac, hz⟩
    all_goals first
      | (exfalso; omega)
      | (clear hbc hac
         go_enter Tryd.func7, Tryd.ntmps7
         go_wp2_with fail
         refine (fixed1_any _ HT.out HE.out).mono ?_
         rintro e w1 ⟨rfl, b⟩
         have B1 := b
         clear b
         go_wp2_with fail
         refine (HS.out _).mono ?_
         rintro e w2 ⟨rfl, b⟩
         have B2 := Below.more B1 b
         clear b
         go_wp2_with fail
         refine (nMay La.out _).mono ?_
         rintro e w' ⟨rfl, rfl⟩
         go_wp2_with fail
         refine (nMay Lb.out _).mono ?_
         rintro e w' ⟨rfl, rfl⟩
         go_wp2_with fail
         refine (nMay Lc.out _).mono ?_
         rintro e w' ⟨rfl, rfl⟩
         go_wp2_with fail
         refine (nCmp La.out Lb.out HX.out _).mono ?_
         rintro e w' ⟨rfl, rfl⟩
         go_wp2_with fail
         refine (nCmp Lb.out Lc.out HY.out _).mono ?_
         rintro e w' ⟨rfl, rfl⟩
         go_wp2_with fail
         refine (nCmp La.out Lc.out HZ.out _).mono ?_
         rintro e w' ⟨rfl, rfl⟩
         go_wp2_with fail
         refine (nSub La.out Lb.out (Nat.le_refl _) rfl _).mono ?_
         rintro e w3 ⟨rfl, b⟩
         have B3 := Below.more B2 b
         clear b
         go_wp2_with fail
         refine (nCmp Lb.out La.out HX'.out _).mono ?_
         rintro e w' ⟨rfl, rfl⟩
         go_wp2_with fail
         all_goals go_ret
         all_goals exact ⟨rfl, B3⟩)
  · have HX := Lib.hid hx; have HX' := Lib.hid hx'; have HAB := Lib.hid hab
    have e1 := dig_beq (Nat.ne_of_gt hab)
    have e2 := dig_neq (Nat.ne_of_gt hab)
    clear hx hx'
    rcases hyc with ⟨hbc, hy⟩ | ⟨hbc, hy⟩ <;> rcases hzc with ⟨hac, hz⟩ | ⟨hac, hz⟩
    all_goals first
      | (exfalso; omega)
      | (clear hab hbc hac
         go_enter Tryd.func7, Tryd.ntmps7
         go_wp2_with fail
         refine (fixed1_any _ HT.out HE.out).mono ?_
         rintro e w1 ⟨rfl, b⟩
         have B1 := b
         clear b
         go_wp2_with fail
         refine (HS.out _).mono ?_
         rintro e w2 ⟨rfl, b⟩
         have B2 := Below.more B1 b
         clear b
         go_wp2_with fail
         refine (nMay La.out _).mono ?_
         rintro e w' ⟨rfl, rfl⟩
         go_wp2_with fail
         refine (nMay Lb.out _).mono ?_
         rintro e w' ⟨rfl, rfl⟩
         go_wp2_with fail
         refine (nMay Lc.out _).mono ?_
         rintro e w' ⟨rfl, rfl⟩
         go_wp2_with fail
         refine (nCmp La.out Lb.out HX.out _).mono ?_
         rintro e w' ⟨rfl, rfl⟩
         go_wp2_with fail
         refine (nCmp Lb.out Lc.out HY.out _).mono ?_
         rintro e w' ⟨rfl, rfl⟩
         go_wp2_with fail
         refine (nCmp La.out Lc.out HZ.out _).mono ?_
         rintro e w' ⟨rfl, rfl⟩
         go_wp2_with fail
         refine (nSub La.out Lb.out (Nat.le_of_lt HAB.out) rfl _).mono ?_
         rintro e w3 ⟨rfl, b⟩
         have B3 := Below.more B2 b
         clear b
         go_wp2_with fail
         refine (nCmp Lb.out La.out HX'.out _).mono ?_
         rintro e w' ⟨rfl, rfl⟩
         go_wp2_with fail
         all_goals go_ret
         all_goals exact ⟨rfl, B3⟩)

set_option maxRecDepth 100000 in
set_option maxHeartbeats 2000000 in
theorem order1_any (s t u : ByteArray) (w : World) (ht : GoodT w) (he : GoodE w) :
    Calls Tryd.prog 7 #[.string s, .string t, .string u] w (GiveB w true) := by
  by_cases hS : s.size ≤ 200 ∧ t.size ≤ 200 ∧ u.size ≤ 200
  · have HS := Lib.hid (fun w => short3_any (short_three hS) w)
    obtain ⟨zs, zt, zu⟩ := hS
    cases ks : isNat s.data.toList with
    | false =>
      have HT := Lib.hid ht; have HE := Lib.hid he; clear ht he
      have cs := fun w => rmay_any s w (by omega)
      rw [ks] at cs
      have Cs := Lib.hid cs; clear cs
      clear ks zs zt zu
      go_enter Tryd.func7, Tryd.ntmps7
      go_wp2_with fail
      refine (fixed1_any _ HT.out HE.out).mono ?_
      rintro e w1 ⟨rfl, b⟩
      have B1 := b
      clear b
      go_wp2_with fail
      refine (HS.out _).mono ?_
      rintro e w2 ⟨rfl, b⟩
      have B2 := Below.more B1 b
      clear b
      go_wp2_with fail
      refine (Cs.out _).mono ?_
      rintro e w' ⟨rfl, rfl⟩
      go_wp2_with fail
      refine (fixed1_any _ (HT.out.below B2) (HE.out.below B2)).mono ?_
      rintro e w3 ⟨rfl, b⟩
      have B3 := Below.more B2 b
      clear b
      go_wp2_with fail
      go_ret
      exact ⟨rfl, B3⟩
    | true =>
      cases kt : isNat t.data.toList with
      | false =>
        have HT := Lib.hid ht; have HE := Lib.hid he; clear ht he
        have cs := fun w => rmay_any s w (by omega)
        rw [ks] at cs
        have Cs := Lib.hid cs; clear cs
        have ct := fun w => rmay_any t w (by omega)
        rw [kt] at ct
        have Ct := Lib.hid ct; clear ct
        clear ks kt zs zt zu
        go_enter Tryd.func7, Tryd.ntmps7
        go_wp2_with fail
        refine (fixed1_any _ HT.out HE.out).mono ?_
        rintro e w1 ⟨rfl, b⟩
        have B1 := b
        clear b
        go_wp2_with fail
        refine (HS.out _).mono ?_
        rintro e w2 ⟨rfl, b⟩
        have B2 := Below.more B1 b
        clear b
        go_wp2_with fail
        refine (Cs.out _).mono ?_
        rintro e w' ⟨rfl, rfl⟩
        go_wp2_with fail
        refine (Ct.out _).mono ?_
        rintro e w' ⟨rfl, rfl⟩
        go_wp2_with fail
        refine (fixed1_any _ (HT.out.below B2) (HE.out.below B2)).mono ?_
        rintro e w3 ⟨rfl, b⟩
        have B3 := Below.more B2 b
        clear b
        go_wp2_with fail
        go_ret
        exact ⟨rfl, B3⟩
      | true =>
        cases ku : isNat u.data.toList with
        | false =>
          have HT := Lib.hid ht; have HE := Lib.hid he; clear ht he
          have cs := fun w => rmay_any s w (by omega)
          rw [ks] at cs
          have Cs := Lib.hid cs; clear cs
          have ct := fun w => rmay_any t w (by omega)
          rw [kt] at ct
          have Ct := Lib.hid ct; clear ct
          have cu := fun w => rmay_any u w (by omega)
          rw [ku] at cu
          have Cu := Lib.hid cu; clear cu
          clear ks kt ku zs zt zu
          go_enter Tryd.func7, Tryd.ntmps7
          go_wp2_with fail
          refine (fixed1_any _ HT.out HE.out).mono ?_
          rintro e w1 ⟨rfl, b⟩
          have B1 := b
          clear b
          go_wp2_with fail
          refine (HS.out _).mono ?_
          rintro e w2 ⟨rfl, b⟩
          have B2 := Below.more B1 b
          clear b
          go_wp2_with fail
          refine (Cs.out _).mono ?_
          rintro e w' ⟨rfl, rfl⟩
          go_wp2_with fail
          refine (Ct.out _).mono ?_
          rintro e w' ⟨rfl, rfl⟩
          go_wp2_with fail
          refine (Cu.out _).mono ?_
          rintro e w' ⟨rfl, rfl⟩
          go_wp2_with fail
          refine (fixed1_any _ (HT.out.below B2) (HE.out.below B2)).mono ?_
          rintro e w3 ⟨rfl, b⟩
          have B3 := Below.more B2 b
          clear b
          go_wp2_with fail
          go_ret
          exact ⟨rfl, B3⟩
        | true =>
          have es := str_dig ks
          have ls := Lt.of_text ks zs (by decide) (by decide)
          have et := str_dig kt
          have lt := Lt.of_text kt zt (by decide) (by decide)
          have eu := str_dig ku
          have lu := Lt.of_text ku zu (by decide) (by decide)
          generalize valS s.data.toList = a at *
          generalize valS t.data.toList = b at *
          generalize valS u.data.toList = c at *
          clear HS ks kt ku
          subst es
          subst et
          subst eu
          exact order1_main a b c w ls lt lu zs zt zu ht he
  · have HS := Lib.hid (fun w => short3_any (long_three hS) w)
    have HT := Lib.hid ht; have HE := Lib.hid he; clear ht he hS
    go_enter Tryd.func7, Tryd.ntmps7
    go_wp2_with fail
    refine (fixed1_any _ HT.out HE.out).mono ?_
    rintro e w1 ⟨rfl, b⟩
    have B1 := b
    clear b
    go_wp2_with fail
    refine (HS.out _).mono ?_
    rintro e w2 ⟨rfl, b⟩
    have B2 := Below.more B1 b
    clear b
    go_wp2_with fail
    refine (fixed1_any _ (HT.out.below B2) (HE.out.below B2)).mono ?_
    rintro e w3 ⟨rfl, b⟩
    have B3 := Below.more B2 b
    clear b
    go_wp2_with fail
    go_ret
    exact ⟨rfl, B3⟩
end Go.Proofs.YtcekdidefomkfaaDoor

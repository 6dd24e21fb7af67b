/- nat.Div on texts. -/
import Derived.Test.YtcekdidefomkfaaDoorApi2
namespace Go.Proofs.YtcekdidefomkfaaDoor
open Go.RowKit

set_option maxRecDepth 100000 in
set_option maxHeartbeats 400000 in
theorem div_any (s t : ByteArray) (w : World) (hs : s.size ≤ 1000000000) (ht : t.size ≤ 1000000000) :
    Calls Tryd.prog 20 #[.string s, .string t] w (GiveSSB w (divS s.data.toList t.data.toList)) := by
  have c1 := fun w => may_any s w (by omega)
  have c2 := fun w => may_any t w (by omega)
  cases h1 : isNat s.data.toList with
  | false =>
    have hr : divS s.data.toList t.data.toList = ([], [], false) := by unfold divS; rw [h1]; rfl
    rw [hr]
    simp only [h1] at c1
    clear hr h1 c2
    go_enter Tryd.func20, Tryd.ntmps20
    go_wp2_with fail
    refine (c1 _).mono ?_
    rintro e w' ⟨rfl, rfl⟩
    go_wp2_with fail
    go_ret3
    exact ⟨rfl, Below.refl _ _⟩
  | true => cases h2 : isNat t.data.toList with
    | false =>
      have hr : divS s.data.toList t.data.toList = ([], [], false) := by unfold divS; rw [h1, h2]; rfl
      rw [hr]
      simp only [h1] at c1
      simp only [h2] at c2
      clear hr h1 h2
      go_enter Tryd.func20, Tryd.ntmps20
      go_wp2_with fail
      refine (c1 _).mono ?_
      rintro e w' ⟨rfl, rfl⟩
      go_wp2_with fail
      refine (c2 _).mono ?_
      rintro e w' ⟨rfl, rfl⟩
      go_wp2_with fail
      go_ret3
      exact ⟨rfl, Below.refl _ _⟩
    | true =>
      by_cases h0 : valS t.data.toList = 0
      · have hr : divS s.data.toList t.data.toList = ([], [], false) := by
          unfold divS; rw [h1, h2, h0]; rfl
        rw [hr]
        have ht0 : t = ⟨#[48]⟩ := by
          have := nat_zero h2 h0
          have e : t.data = #[48] := by rw [← Array.toArray_toList (xs := t.data), this]
          cases t; simp only at e; rw [e]
        simp only [h1] at c1
        simp only [h2] at c2
        clear hr h1 h2 h0
        subst ht0
        go_enter Tryd.func20, Tryd.ntmps20
        go_wp2_with fail
        refine (c1 _).mono ?_
        rintro e w' ⟨rfl, rfl⟩
        go_wp2_with fail
        refine (c2 _).mono ?_
        rintro e w' ⟨rfl, rfl⟩
        go_wp2_with fail
        go_ret3
        exact ⟨rfl, Below.refl _ _⟩
      · have h0' : 0 < valS t.data.toList := by omega
        have hr : divS s.data.toList t.data.toList = (dig (valS s.data.toList / valS t.data.toList), dig (valS s.data.toList % valS t.data.toList), true) := by
          unfold divS; rw [h1, h2]
          have : decide (0 < valS t.data.toList) = true := by simpa using h0'
          rw [this]; rfl
        rw [hr]
        have hne : ¬ t.data.toList = [48] := fun e => h0 (by rw [e]; rfl)
        have hnb : (t.toList == [48]) = false := by rw [ByteArray.toList_eq]; simpa using hne
        have hn2 : ¬ t.toList = [48] := by rw [ByteArray.toList_eq]; exact hne
        clear hne
        have r1 := fun w => read_any s w (by omega) (nat_size h1) (isNat_all h1)
        have r2 := fun w => read_any t w (by omega) (nat_size h2) (isNat_all h2)
        have B1 := nat_big h1 hs
        have B2 := nat_big h2 ht
        have B3 : Big (valS s.data.toList / valS t.data.toList) := B1.le (Nat.div_le_self _ _)
        have B4 : Big (valS s.data.toList % valS t.data.toList) := B1.le (Nat.mod_le _ _)
        simp only [h1] at c1
        simp only [h2] at c2
        clear hr h1 h2 h0
        generalize valS s.data.toList = m at *
        generalize valS t.data.toList = n at *
        have HB := Lib.hid (And.intro B1 (And.intro B2 (And.intro h0' (And.intro B3 B4))))
        clear B1 B2 B3 B4 h0' hs ht
        go_enter Tryd.func20, Tryd.ntmps20
        go_wp2_with fail
        refine (c1 _).mono ?_
        rintro e w' ⟨rfl, rfl⟩
        go_wp2_with fail
        refine (c2 _).mono ?_
        rintro e w' ⟨rfl, rfl⟩
        go_wp2_with fail
        refine (r1 _).mono ?_
        rintro e w1 ⟨v1, rfl, l1, b1⟩
        go_wp2_with fail
        refine (r2 _).mono ?_
        rintro e w2 ⟨v2, rfl, l2, b2⟩
        go_wp2_with fail
        refine (divide_any _ _ _ _ _ (l1.below b2) l2 HB.out.1 HB.out.2.1 HB.out.2.2.1).mono ?_
        rintro e w3 ⟨v3, v4, rfl, l3, l4, b3⟩
        go_wp2_with fail
        refine (digits_any _ _ _ l3 HB.out.2.2.2.1).mono ?_
        rintro e w4 ⟨rfl, b4⟩
        go_wp2_with fail
        refine (digits_any _ _ _ (l4.below b4) HB.out.2.2.2.2).mono ?_
        rintro e w5 ⟨rfl, b5⟩
        go_wp2_with fail
        go_ret3
        have b12 := b1.trans (b2.mono b1.size)
        have b123 := b12.trans (b3.mono b12.size)
        have b1234 := b123.trans (b4.mono b123.size)
        exact ⟨rfl, b1234.trans (b5.mono b1234.size)⟩
end Go.Proofs.YtcekdidefomkfaaDoor

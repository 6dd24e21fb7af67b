/- The document's own answer for naturals: Sub, Mul. -/
import Derived.StillTailTactics
import Derived.Test.YtcekdidefomkfaaDoorRefC
namespace Go.Proofs.YtcekdidefomkfaaDoor
open Go.RowKit

set_option maxRecDepth 100000 in
set_option maxHeartbeats 1000000 in
theorem rsub_any (s t : ByteArray) (w : World) (hs : s.size ≤ 1000000000) (ht : t.size ≤ 1000000000) :
    Calls Tryd.prog 19 #[.string s, .string t] w (GiveSB w (subS s.data.toList t.data.toList)) := by
  have c1 := fun w => rmay_any s w (by omega)
  have c2 := fun w => rmay_any t w (by omega)
  have c3 := fun w => rcmp_any s t w hs ht
  cases h1 : isNat s.data.toList with
  | false =>
    have hr : subS s.data.toList t.data.toList = ([], false) := by unfold subS; rw [h1]; rfl
    rw [hr]
    simp only [h1] at c1
    clear hr h1 c2 c3
    go_enter Tryd.func19, Tryd.ntmps19
    go_wp2_with fail
    refine (c1 _).mono ?_
    rintro e w' ⟨rfl, rfl⟩
    go_wp2_with fail
    go_ret2
    exact ⟨rfl, Below.refl _ _⟩
  | true => cases h2 : isNat t.data.toList with
    | false =>
      have hr : subS s.data.toList t.data.toList = ([], false) := by unfold subS; rw [h1, h2]; rfl
      rw [hr]
      simp only [h1] at c1
      simp only [h2] at c2
      clear hr h1 h2 c3
      go_enter Tryd.func19, Tryd.ntmps19
      go_wp2_with fail
      refine (c1 _).mono ?_
      rintro e w' ⟨rfl, rfl⟩
      go_wp2_with fail
      refine (c2 _).mono ?_
      rintro e w' ⟨rfl, rfl⟩
      go_wp2_with fail
      go_ret2
      exact ⟨rfl, Below.refl _ _⟩
    | true =>
      rw [cmpS_nat h1 h2] at c3
      by_cases hlt : valS s.data.toList < valS t.data.toList
      · have hr : subS s.data.toList t.data.toList = ([], false) := by
          unfold subS; rw [h1, h2]
          have : decide (valS t.data.toList ≤ valS s.data.toList) = false := by simp; omega
          rw [this]; rfl
        rw [hr]
        have hz : cmpN (valS s.data.toList) (valS t.data.toList) = -1 := by unfold cmpN; rw [if_pos hlt]
        rw [hz] at c3
        simp only [h1] at c1
        simp only [h2] at c2
        clear hr h1 h2 hz hlt
        go_enter Tryd.func19, Tryd.ntmps19
        go_wp2_with fail
        refine (c1 _).mono ?_
        rintro e w' ⟨rfl, rfl⟩
        go_wp2_with fail
        refine (c2 _).mono ?_
        rintro e w' ⟨rfl, rfl⟩
        go_wp2_with fail
        refine (c3 _).mono ?_
        rintro e w' ⟨rfl, rfl⟩
        go_wp2_with fail
        go_ret2
        exact ⟨rfl, Below.refl _ _⟩
      · have hle : valS t.data.toList ≤ valS s.data.toList := by omega
        have hr : subS s.data.toList t.data.toList = (dig (valS s.data.toList - valS t.data.toList), true) := by
          unfold subS; rw [h1, h2]
          have : decide (valS t.data.toList ≤ valS s.data.toList) = true := by simpa using hle
          rw [this]; rfl
        rw [hr]
        have hz : ¬ cmpN (valS s.data.toList) (valS t.data.toList) < 0 := by
          unfold cmpN; rw [if_neg hlt]; split <;> omega
        have hst : t.size ≤ s.size := by
          rcases Nat.lt_or_ge s.size t.size with h | h
          · have := shorter_lt h1 h2 h; omega
          · exact h
        have h0 : 0 < s.size := nat_size h1
        have a1 := fun (k : Nat) (w : World) (hk : k ≤ 1000000001) => rat_any s k w (by omega) (by omega) (isNat_all h1)
        have a2 := fun (k : Nat) (w : World) (hk : k ≤ 1000000001) => rat_any t k w (by omega) (by omega) (isNat_all h2)
        have f1 := dgS_lt (isNat_all h1)
        have f2 := dgS_lt (isNat_all h2)
        have hsum : dsum (sbD (dgS s.data.toList) (dgS t.data.toList)) s.size = valS s.data.toList - valS t.data.toList := by
          refine sb_done f1 f2 ?_
          rw [dsum_dgS (by rw [size_toList]; omega), dsum_dgS (by rw [size_toList]; omega)]
          omega
        have HT := Lib.hid (fun w => trim_txt (sbD_lt f1 f2) h0 (by omega) hsum w)
        simp only [h1] at c1
        simp only [h2] at c2
        clear hr h1 h2 hsum ht hle hlt hst
        generalize valS s.data.toList - valS t.data.toList = M at *
        generalize cmpN (valS s.data.toList) (valS t.data.toList) = z at *
        generalize dgS s.data.toList = F at *
        generalize dgS t.data.toList = G at *
        have HF := Lib.hid f1; have HG := Lib.hid f2; have HA1 := Lib.hid a1; have HA2 := Lib.hid a2
        clear f1 f2 a1 a2
        go_enter Tryd.func19, Tryd.ntmps19
        go_wp2_with fail
        refine (c1 _).mono ?_
        rintro e w' ⟨rfl, rfl⟩
        go_wp2_with fail
        refine (c2 _).mono ?_
        rintro e w' ⟨rfl, rfl⟩
        go_wp2_with fail
        refine (c3 _).mono ?_
        rintro e w' ⟨rfl, rfl⟩
        go_wp2_with (at_make; refine wpList_make_bytes _ rfl _ _ rfl _ _ _ _ s.size rfl rfl (by omega) (by omega) (by omega) ?_; intro w1 hmade)
        have hmr := hmade.row
        have hmb := hmade.below
        clear hmade
        go_loopw [7, 8] (fun c i W => ∃ k : Nat, k ≤ s.size ∧ i = .int .i64 k ∧ c = .int .i64 (sbC F G k : Nat) ∧ ByF W w.heap.size s.size ∧ Tx W w.heap.size s.size (sbD F G) k ∧ Below w.heap.size w W) (fun _ i _ => s.size - (intOf i).toNat)
        case atStart => exact ⟨0, Nat.zero_le _, rfl, rfl, hmr, fun j _ h => absurd h (by omega), hmb⟩
        case round =>
          obtain ⟨k, hk, rfl, rfl, hrow, htx, hbw⟩ := hrel
          by_cases hlt2 : k < s.size
          · obtain ⟨i, hi⟩ : ∃ i, i = s.size - 1 - k := ⟨_, rfl⟩
            have hi1 : i < s.size := by omega
            have hi2 : s.size - 1 - i = k := by omega
            have hi3 : (s.size : Int) - 1 - (k : Int) = (i : Int) := by omega
            obtain ⟨⟨y, hy⟩, hfr⟩ := hrow i hi1
            have hr2 := hrow.set ((48 + sbD F G k : Nat) : Int) hi1
            have ht2 := htx.set hrow hi1 hi2
            have b1 := HF.out k
            have b2 := HG.out k
            have b3 := sbC_le F G k
            have b4 := sb_one (f := F) (HG.out k)
            have b5 := sbD_lt HF.out HG.out k
            have hcc : (F k < G k + sbC F G k ∧ sbC F G (k + 1) = 1) ∨ (¬ F k < G k + sbC F G k ∧ sbC F G (k + 1) = 0) := by
              rw [sbC]
              by_cases h : F k < G k + sbC F G k
              · exact .inl ⟨h, if_pos h⟩
              · exact .inr ⟨h, if_neg h⟩
            rcases hcc with ⟨hc1, hc2⟩ | ⟨hc1, hc2⟩
            · have hc : ((48 + sbD F G k : Nat) : Int) = 48 + ((F k : Int) - (G k : Int) - (sbC F G k : Int) + 10) := by omega
              have hneg : (F k : Int) - (G k : Int) - (sbC F G k : Int) < 0 := by omega
              have hlo : 0 ≤ (F k : Int) - (G k : Int) - (sbC F G k : Int) + 10 := by omega
              rw [hc] at hr2 ht2
              have HR2 := Lib.hid hr2; have HT2 := Lib.hid ht2; have HI1 := Lib.hid hi1; have HC2 := Lib.hid hc2
              clear hr2 ht2 hi2 hi hc hc2 b4 hc1
              go_wp2_with fail
              refine (HA1.out k _ (by omega)).mono ?_
              rintro e w' ⟨rfl, rfl⟩
              go_wp2_with fail
              refine (HA2.out k _ (by omega)).mono ?_
              rintro e w' ⟨rfl, rfl⟩
              go_wp2_with fail
              go_roundw
              case rel => exact ⟨k + 1, by omega, by go_num, congrArg (Value.int .i64) (by rw [HC2.out]; rfl), HR2.out, HT2.out, hbw.trans ((Wr.one wr w.heap.size i _).below (Nat.le_refl _) hbw.size)⟩
              case measure => simp [intOf]; omega
            · have hc : ((48 + sbD F G k : Nat) : Int) = 48 + ((F k : Int) - (G k : Int) - (sbC F G k : Int)) := by omega
              have hneg : ¬ (F k : Int) - (G k : Int) - (sbC F G k : Int) < 0 := by omega
              rw [hc] at hr2 ht2
              have HR2 := Lib.hid hr2; have HT2 := Lib.hid ht2; have HI1 := Lib.hid hi1; have HC2 := Lib.hid hc2
              clear hr2 ht2 hi2 hi hc hc2 b4 hc1
              go_wp2_with fail
              refine (HA1.out k _ (by omega)).mono ?_
              rintro e w' ⟨rfl, rfl⟩
              go_wp2_with fail
              refine (HA2.out k _ (by omega)).mono ?_
              rintro e w' ⟨rfl, rfl⟩
              go_wp2_with fail
              go_roundw
              case rel => exact ⟨k + 1, by omega, by go_num, congrArg (Value.int .i64) (by rw [HC2.out]; rfl), HR2.out, HT2.out, hbw.trans ((Wr.one wr w.heap.size i _).below (Nat.le_refl _) hbw.size)⟩
              case measure => simp [intOf]; omega
          · obtain rfl : k = s.size := by omega
            have hcv := run_convert_bytes_back (P := Tryd.prog) wr 47 9 5 ⟨w.heap.size, 0, none⟩ s.size (txt (sbD F G) s.size) Tryd.underlying47 Tryd.underlying5 Tryd.underlying9 (htx.cells (sbD_lt HF.out HG.out))
            rw [txt_length] at hcv
            go_wp2_with fail
            refine (HT.out _).mono ?_
            rintro e w' ⟨rfl, rfl⟩
            go_wp2_with fail
            go_ret2
            exact ⟨rfl, hbw⟩
end Go.Proofs.YtcekdidefomkfaaDoor

/- nat.divisor: the greatest natural that divides both. -/
import Derived.Deep.QuietTactic
import Derived.BigQuiet
import Derived.Deep.RegionHeld3
import Derived.Deep.LoopGhost
import Derived.Test.YtcekdidefomkfaaDoorCombine
import Derived.Test.YtcekdidefomkfaaDoorForesee
import Derived.Test.YtcekdidefomkfaaDoorDivide
namespace Go.Proofs.YtcekdidefomkfaaDoor
open Go.RowKit

theorem Big.le {m n : Nat} (h : Big n) (hl : m ≤ n) : Big m := ⟨Nat.lt_of_le_of_lt hl h.lt⟩
/-- Behind many divisions at once. -/
theorem told_step {A B : Nat} {a b c d : Int} (h : Told A B a b c d) (hb : b ≠ 0) :
    ∃ A2 B2 : Nat, (A2 : Int) = a * A + b * B ∧ (B2 : Int) = c * A + d * B ∧ A2 ≤ B ∧ B2 < B ∧ Nat.gcd A2 B2 = Nat.gcd A B ∧ (-1000000000 < a ∧ a < 1000000000) ∧ (-1000000000 < b ∧ b < 1000000000) ∧ (-1000000000 < c ∧ c < 1000000000) ∧ (-1000000000 < d ∧ d < 1000000000) := by
  rcases h with h | ⟨ba, bb, bc, bd, hdet, n1, n2, l1, l2⟩
  · exact absurd h hb
  · obtain ⟨A2, h1⟩ := Int.eq_ofNat_of_zero_le n1
    obtain ⟨B2, h2⟩ := Int.eq_ofNat_of_zero_le n2
    exact ⟨A2, B2, h1.symm, h2.symm, by omega, by omega, gcd_steps h1.symm h2.symm hdet, ba, bb, bc, bd⟩

theorem sdiv_next {W2 w' w'' : World} {G : Nat} {a b c d : Value} (hG : G < W2.heap.size) (hb : Below w'.heap.size w' w'') (h : w'.cell? ⟨G, 0, none⟩ = some a ∧ w'.cell? ⟨G, 1, none⟩ = some b ∧ w'.cell? ⟨G, 2, none⟩ = some c ∧ w'.cell? ⟨G, 3, none⟩ = some d ∧ Below W2.heap.size W2 w') :
    w''.cell? ⟨G, 0, none⟩ = some a ∧ w''.cell? ⟨G, 1, none⟩ = some b ∧ w''.cell? ⟨G, 2, none⟩ = some c ∧ w''.cell? ⟨G, 3, none⟩ = some d ∧ Below W2.heap.size W2 w'' := by
  obtain ⟨h0, h1, h2, h3, h4⟩ := h
  have hG' : G < w'.heap.size := Nat.lt_of_lt_of_le hG h4.size
  exact ⟨(hb.cell (p := ⟨G, 0, none⟩) hG').trans h0, (hb.cell (p := ⟨G, 1, none⟩) hG').trans h1, (hb.cell (p := ⟨G, 2, none⟩) hG').trans h2, (hb.cell (p := ⟨G, 3, none⟩) hG').trans h3, h4.trans (hb.mono h4.size)⟩
theorem sdiv_drew {W2 : World} {G : Nat} {a b c d : Value} (h0 : W2.cell? ⟨G, 0, none⟩ = some a) (h1 : W2.cell? ⟨G, 1, none⟩ = some b) (h2 : W2.cell? ⟨G, 2, none⟩ = some c) (h3 : W2.cell? ⟨G, 3, none⟩ = some d) :
    W2.drew.cell? ⟨G, 0, none⟩ = some a ∧ W2.drew.cell? ⟨G, 1, none⟩ = some b ∧ W2.drew.cell? ⟨G, 2, none⟩ = some c ∧ W2.drew.cell? ⟨G, 3, none⟩ = some d ∧ Below W2.heap.size W2 W2.drew := ⟨h0, h1, h2, h3, (Below.refl _ _).drew⟩

set_option maxRecDepth 100000 in
set_option maxHeartbeats 1000000 in
theorem divisor_any (w : World) (va vb : Value) (A B : Nat) (ha : LimN w va A) (hb : LimN w vb B) (hA : Big A) (hB : Big B) :
    Calls Tryd.prog 68 #[va, vb] w (GiveN w (Nat.gcd A B)) := by
  go_enter Tryd.func68, Tryd.ntmps68
  go_wp2_with fail
  go_loopg [0, 1] B (fun g av bv wr => ∃ A2 : Nat, LimN wr av A2 ∧ LimN wr bv g ∧ Big A2 ∧ Big g ∧ Nat.gcd A2 g = Nat.gcd A B ∧ Below w.heap.size w wr)
  case atStart => exact ⟨A, ha, hb, hA, hB, rfl, Below.refl _ _⟩
  case round =>
    clear ha hb hA hB
    obtain ⟨A2, hla, hlb, hA, hB, hg, hbw⟩ := hrel
    have HG := Lib.hid hg; clear hg
    have HA := Lib.hid hla; have HB := Lib.hid hlb
    obtain ⟨ys, lb, nb, hys⟩ := hlb
    obtain ⟨ab, cb, rfl⟩ := lb.form
    by_cases h0 : ys.length = 0
    · have hgk : gk = 0 := by rw [← hys, List.length_eq_zero_iff.1 h0, valL_nil]
      have HK := Lib.hid hgk
      clear hys hgk lb nb
      go_wp2_with fail
      go_ret
      exact ⟨_, rfl, by rw [← HG.out, HK.out, Nat.gcd_zero_right]; exact HA.out, hbw⟩
    · have hg0 : 0 < gk := by
        have := nb.ge (by intro e; rw [e] at h0; exact h0 rfl)
        have := Bp_pos (ys.length - 1)
        omega
      have h0' : 0 < ys.length := by omega
      clear hys lb nb h0
      go_wp2_with fail
      refine (foresee_any _ _ _ A2 gk HA.out HB.out hA hB hg0).mono ?_
      rintro e w2 ⟨a, b, c, d, rfl, hT, hb2⟩
      have hT' := hT
      have HT := Lib.hid hT'
      clear hT hT'
      have HLA := Lib.hid (HA.out.below hb2)
      have HLB := Lib.hid (HB.out.below hb2)
      have hbw2 := hbw.trans (hb2.mono hbw.size)
      clear HA HB hb2 hbw
      obtain ⟨W2, hW2⟩ : ∃ W2, w2.alloc (St a b c d) = W2 := ⟨_, rfl⟩
      have hbW : Below w2.heap.size w2 W2 := by rw [← hW2]; exact (Below.refl _ _).alloc (Nat.le_refl _) _
      have hcell : ∀ j, W2.cell? ⟨w2.heap.size, j, none⟩ = (#[Value.int .i64 a, .int .i64 b, .int .i64 c, .int .i64 d] : Array Value)[j]? := fun j => by
        rw [← hW2]; exact cell_of_row _ _ _ _ _ _ (World.alloc_heap_new w2 (St a b c d))
      have k0 : W2.cell? ⟨w2.heap.size, 0, none⟩ = some (.int .i64 a) := hcell 0
      have k1 : W2.cell? ⟨w2.heap.size, 1, none⟩ = some (.int .i64 b) := hcell 1
      have k2 : W2.cell? ⟨w2.heap.size, 2, none⟩ = some (.int .i64 c) := hcell 2
      have k3 : W2.cell? ⟨w2.heap.size, 3, none⟩ = some (.int .i64 d) := hcell 3
      clear hcell
      have hsz : w2.heap.size < W2.heap.size := by rw [← hW2]; show w2.heap.size < (w2.heap.push _).size; simp
      have HLA2 := Lib.hid (HLA.out.below hbW)
      have HLB2 := Lib.hid (HLB.out.below hbW)
      have hbw3 := hbw2.trans (hbW.mono hbw2.size)
      by_cases hbz : b = 0
      · subst hbz
        go_wp2_with fail
        refine (divide_any _ _ _ A2 gk HLA2.out HLB2.out hA hB hg0).mono ?_
        rintro e w3 ⟨v1, v2, rfl, h1, h2, hb3⟩
        have H2 := Lib.hid h2; clear h1 h2
        have HLB3 := Lib.hid (HLB2.out.below hb3)
        have hbw4 := hbw3.trans (hb3.mono hbw3.size)
        clear hW2
        go_wp2_with fail
        go_roundg (A2 % gk)
        case measure => exact Nat.mod_lt _ hg0
        case rel => exact ⟨gk, HLB3.out, H2.out, hB, hA.le (Nat.mod_le _ _), by rw [← HG.out, Nat.gcd_comm, ← Nat.gcd_rec, Nat.gcd_comm], hbw4⟩
      · obtain ⟨A3, B3, e1, e2, l1, l2, hgg, ba, bb, bc, bd⟩ := told_step HT.out hbz
        have hbb : (b != 0) = true := by simp [hbz]
        go_wp2_with fail
        clear hW2
        generalize w2.heap.size = G at *
        have HT2 := Lib.hid hgg
        have hc1 : ∀ w', (w'.cell? ⟨G, 0, none⟩ = some (.int .i64 a) ∧ w'.cell? ⟨G, 1, none⟩ = some (.int .i64 b) ∧ w'.cell? ⟨G, 2, none⟩ = some (.int .i64 c) ∧ w'.cell? ⟨G, 3, none⟩ = some (.int .i64 d) ∧ Below W2.heap.size W2 w') → Calls Tryd.prog 87 #[u0, .slice ab ys.length cb, .int .i64 a, .int .i64 b] w' (GiveN w' A3) :=
          fun w' hS => combine_any _ _ _ A2 gk A3 a b (HLA2.out.below hS.2.2.2.2) (HLB2.out.below hS.2.2.2.2) hA hB ba bb e1 (.inr l1)
        have hc2 : ∀ w', (w'.cell? ⟨G, 0, none⟩ = some (.int .i64 a) ∧ w'.cell? ⟨G, 1, none⟩ = some (.int .i64 b) ∧ w'.cell? ⟨G, 2, none⟩ = some (.int .i64 c) ∧ w'.cell? ⟨G, 3, none⟩ = some (.int .i64 d) ∧ Below W2.heap.size W2 w') → Calls Tryd.prog 87 #[u0, .slice ab ys.length cb, .int .i64 c, .int .i64 d] w' (GiveN w' B3) :=
          fun w' hS => combine_any _ _ _ A2 gk B3 c d (HLA2.out.below hS.2.2.2.2) (HLB2.out.below hS.2.2.2.2) hA hB bc bd e2 (.inr (by omega))
        have HC1 := Lib.hid hc1; have HC2 := Lib.hid hc2
        clear hc1 hc2
        go_region_held3 (fun w' => w'.cell? ⟨G, 0, none⟩ = some (.int .i64 a) ∧ w'.cell? ⟨G, 1, none⟩ = some (.int .i64 b) ∧ w'.cell? ⟨G, 2, none⟩ = some (.int .i64 c) ∧ w'.cell? ⟨G, 3, none⟩ = some (.int .i64 d) ∧ Below W2.heap.size W2 w')
          (first | (exact sdiv_drew k0 k1 k2 k3) | (with_reducible (exact sdiv_next hsz (by assumption) (by assumption))))
          (first | (go_at_call 87; (with_reducible refine (HC1.out _ (by assumption)).mono ?_); rintro e w'' ⟨v, rfl, hv, hbv⟩) | (go_at_call 87; (with_reducible refine (HC2.out _ (by assumption)).mono ?_); rintro e w'' ⟨v, rfl, hv, hbv⟩))
        rename_i wx v1 hv1 hb1 hH
        have hbF := hbw3.trans (hH.2.2.2.2.mono hbw3.size)
        clear hH HC1 HC2 k0 k1 k2 k3
        go_wp2_with fail
        go_roundg B3
        case measure => exact l2
        case rel => exact ⟨A3, hv1.below hbv, hv, hB.le l1, hB.le (Nat.le_of_lt l2), HT2.out.trans HG.out, hbF⟩
end Go.Proofs.YtcekdidefomkfaaDoor

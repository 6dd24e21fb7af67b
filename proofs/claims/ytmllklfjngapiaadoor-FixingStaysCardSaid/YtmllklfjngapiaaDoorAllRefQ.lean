/- The document's answers for fractions: to the same plain functions. -/
import Derived.Deep.RegionWith
import Derived.Test.YtmllklfjngapiaaDoorAllRat2
namespace Go.Proofs.YtmllklfjngapiaaDoor
open Go.RowKit

theorem isR_noW {n d : List UInt8} (h : isW n = false) : isR (n, d) = false := by unfold isR; rw [h]; rfl
theorem isR_noN {n d : List UInt8} (h : isNat d = false) : isR (n, d) = false := by unfold isR; rw [h, Bool.and_false]; rfl
theorem calm' {P : Program} {f : FuncId} {args : Array Value} {w : World} {v : Value} (c : Calls P f args w fun e w' => e = .returned v ∧ w' = w) : Calls P f args w fun e w' => e = .returned v ∧ Below w.heap.size w w' :=
  c.mono fun _ _ ⟨he, hw⟩ => ⟨he, hw ▸ Below.refl _ _⟩
set_option maxRecDepth 100000 in
set_option maxHeartbeats 2000000 in
theorem rqmay_any (n d : ByteArray) (w : World) (hn : n.size ≤ 100000) (hd : d.size ≤ 100000) :
    Calls Tryd.prog 26 #[.agg #[.string n, .string d]] w (GiveB w (isR (n.data.toList, d.data.toList))) := by
  have c1 : ∀ w, Calls Tryd.prog 35 #[.string n] w (fun e w' => e = .returned (.bool (isW n.data.toList)) ∧ w' = w) := fun w => (rwmay_any n w (by omega)).mono fun _ _ ⟨he, hw⟩ => ⟨he, hw.symm⟩
  have c2 : ∀ w, Calls Tryd.prog 36 #[.string d] w (fun e w' => e = .returned (.bool (isNat d.data.toList)) ∧ w' = w) := fun w => (rmay_any d w (by omega)).mono fun _ _ ⟨he, hw⟩ => ⟨he, hw.symm⟩
  have c3 : ∀ w, Calls Tryd.prog 38 #[.string n] w (GiveS w (absW n.data.toList)) := fun w => calm (rwabs_any n w (by omega))
  have hl := absW_len n.data.toList
  have c4 : ∀ w, Calls Tryd.prog 37 #[.string ⟨(absW n.data.toList).toArray⟩, .string d] w (GiveS w (gcdS (absW n.data.toList) d.data.toList)) := fun w =>
    rgcd_any ⟨(absW n.data.toList).toArray⟩ d w (by show (absW n.data.toList).toArray.size ≤ _; rw [List.size_toArray]; exact Nat.le_trans hl (Nat.le_trans hn (by decide))) (by omega)
  cases h1 : isW n.data.toList with
  | false =>
    rw [h1] at c1
    rw [isR_noW h1]
    clear h1 c2 c3 c4 hl hn hd
    have C1 := Lib.hid c1
    clear c1
    go_enter Tryd.func26, Tryd.ntmps26
    go_wp2_with fail
    obtain ⟨W, hW, BW, sW, k0, k1⟩ := box1 w (.string n) (.string d) 24
    have hB := Lib.hid (Nat.le_refl W.heap.size)
    rw [hW]; clear hW
    have b0 := Below.refl W.heap.size W
    have k0' := k0 W (Below.refl _ _)
    have k1' := k1 W (Below.refl _ _)
    go_quiet ((go_at_call 35; exact Calls.quiet_of_same (C1.out _)))
    go_wp2_with fail
    go_ret
    exact ⟨rfl, ⟨BW.os, BW.tape, BW.output, BW.size, BW.block⟩⟩
  | true =>
    rw [h1] at c1
    cases h2 : isNat d.data.toList with
    | false =>
      rw [h2] at c2
      rw [isR_noN h2]
      clear h1 h2 c3 c4 hl hn hd
      have C1 := Lib.hid c1
      have C2 := Lib.hid c2
      clear c1 c2
      go_enter Tryd.func26, Tryd.ntmps26
      go_wp2_with fail
      obtain ⟨W, hW, BW, sW, k0, k1⟩ := box1 w (.string n) (.string d) 24
      have hB := Lib.hid (Nat.le_refl W.heap.size)
      rw [hW]; clear hW
      have b0 := Below.refl W.heap.size W
      have k0' := k0 W (Below.refl _ _)
      have k1' := k1 W (Below.refl _ _)
      go_quiet (first | (go_at_call 35; exact Calls.quiet_of_same (C1.out _)) | (go_at_call 36; exact Calls.quiet_of_same (C2.out _)))
      go_wp2_with fail
      go_ret
      exact ⟨rfl, ⟨BW.os, BW.tape, BW.output, BW.size, BW.block⟩⟩
    | true =>
      rw [h2] at c2
      by_cases h : d.data.toList = [48]
      · rw [h, may_48]
        have e1 := eqB_true h
        clear h1 h2 c3 c4 hn hd hl h
        have C1 := Lib.hid c1
        have C2 := Lib.hid c2
        clear c1 c2
        go_enter Tryd.func26, Tryd.ntmps26
        go_wp2_with fail
        obtain ⟨W, hW, BW, sW, k0, k1⟩ := box1 w (.string n) (.string d) 24
        have hB := Lib.hid (Nat.le_refl W.heap.size)
        rw [hW]; clear hW
        have b0 := Below.refl W.heap.size W
        have k0' := k0 W (Below.refl _ _)
        have k1' := k1 W (Below.refl _ _)
        go_quiet (first | (go_at_call 35; exact Calls.quiet_of_same (C1.out _)) | (go_at_call 36; exact Calls.quiet_of_same (C2.out _)))
        go_wp2_with fail
        go_ret
        exact ⟨rfl, ⟨BW.os, BW.tape, BW.output, BW.size, BW.block⟩⟩
      · rw [← may_eq h]
        have e1 := eqB_false h
        generalize absW n.data.toList = l at *
        generalize gcdS l d.data.toList = g at *
        clear h1 h2 hn hd hl h
        have C1 := Lib.hid c1
        have C2 := Lib.hid c2
        have C3 := Lib.hid c3
        have C4 := Lib.hid c4
        clear c1 c2 c3 c4
        go_enter Tryd.func26, Tryd.ntmps26
        go_wp2_with fail
        obtain ⟨W, hW, BW, sW, k0, k1⟩ := box1 w (.string n) (.string d) 24
        have hB := Lib.hid (Nat.le_refl W.heap.size)
        rw [hW]; clear hW
        have b0 := Below.refl W.heap.size W
        first | (go_region_held3 (fun w' => Below W.heap.size W w')
                (first | (exact b0.drew) | (with_reducible assumption) | (exact Below.alloc (by with_reducible assumption) (Nat.le_trans hB.out (Below.size (by with_reducible assumption))) _) | (exact put2 (by with_reducible assumption) (Nat.le_refl _) _ _) | (exact put2 (by with_reducible assumption) hB.out _ _) | (exact put2 (by with_reducible assumption) (Nat.le_trans hB.out (Below.size (by with_reducible assumption))) _ _))
                (first | (go_at_call 35; (with_reducible refine (held (W := W) hB.out (calm' (C1.out _)) (by assumption)).mono ?_); rintro e w'' ⟨rfl, hb, hw⟩; (first | (have hz := zc_made0 hb) | (have hz := zc_made hb) | skip); (try have hz := Zc.below (by assumption) hb); (try (have z0 := hz.c0; have z1 := hz.c1; have z2 := hz.f0; have z3 := hz.f1))) | (go_at_call 36; (with_reducible refine (held (W := W) hB.out (calm' (C2.out _)) (by assumption)).mono ?_); rintro e w'' ⟨rfl, hb, hw⟩; (first | (have hz := zc_made0 hb) | (have hz := zc_made hb) | skip); (try have hz := Zc.below (by assumption) hb); (try (have z0 := hz.c0; have z1 := hz.c1; have z2 := hz.f0; have z3 := hz.f1))) | (go_at_call 38; (with_reducible refine (held (W := W) hB.out (C3.out _) (by assumption)).mono ?_); rintro e w'' ⟨rfl, hb, hw⟩; (first | (have hz := zc_made0 hb) | (have hz := zc_made hb) | skip); (try have hz := Zc.below (by assumption) hb); (try (have z0 := hz.c0; have z1 := hz.c1; have z2 := hz.f0; have z3 := hz.f1))) | (go_at_call 37; (with_reducible refine (held (W := W) hB.out (C4.out _) (by assumption)).mono ?_); rintro e w'' ⟨rfl, hb, hw⟩; (first | (have hz := zc_made0 hb) | (have hz := zc_made hb) | skip); (try have hz := Zc.below (by assumption) hb); (try (have z0 := hz.c0; have z1 := hz.c1; have z2 := hz.f0; have z3 := hz.f1))))) | fail
        go_wp2_with fail
        go_ret
        exact ⟨rfl, Below.more BW (by with_reducible assumption)⟩
end Go.Proofs.YtmllklfjngapiaaDoor

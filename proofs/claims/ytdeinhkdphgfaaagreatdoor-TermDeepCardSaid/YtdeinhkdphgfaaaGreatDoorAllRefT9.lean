/- The document's answers for terms: a number's print. -/
import Derived.Test.YtdeinhkdphgfaaaGreatDoorAllRefT8
import Derived.Test.YtdeinhkdphgfaaaGreatDoorTermNum4M
namespace Go.Proofs.YtdeinhkdphgfaaaGreatDoor
open Go.RowKit
set_option linter.unusedSimpArgs false
set_option linter.unusedVariables false
open Tm (Nd numP decB numH)
def GiveU (w : World) (t : List UInt8) (e : Ending) (w' : World) : Prop := e = .returned (.string ⟨t.toArray⟩) ∧ Below w.heap.size w w'
theorem num_text (n d : List UInt8) : (⟨#[110, 117, 109, 40]⟩ : ByteArray) ++ ⟨n.toArray⟩ ++ ⟨#[44, 32]⟩ ++ ⟨d.toArray⟩ ++ ⟨#[41]⟩ = ⟨(numH ++ (n ++ 44 :: 32 :: (d ++ [41]))).toArray⟩ :=
 bytes_eq (by rw [ba_append, ba_append, ba_append, ba_append]; simp [Tm.numH])
theorem ret_u {s : ByteArray} {t : List UInt8} (h : s = ⟨t.toArray⟩) : Ending.returned (.string s) = .returned (.string ⟨t.toArray⟩) := by rw [h]
set_option maxRecDepth 100000 in
set_option maxHeartbeats 4000000 in
theorem rtnumber_any (n d : List UInt8) (w : World) (hn : n.length ≤ 4000) (hd : d.length ≤ 4000) : Calls Tryz.prog 57 #[.agg #[.string ⟨n.toArray⟩, .string ⟨d.toArray⟩]] w (GiveU w (numP (n, d))) := by
 have cp : ∀ w, Calls Tryz.prog 77 #[.agg #[.string ⟨n.toArray⟩, .string ⟨d.toArray⟩]] w (GiveIB w (plS (n, d))) := fun w => rdplaces_any ⟨n.toArray⟩ ⟨d.toArray⟩ w (by rw [size_of]; omega) (by rw [size_of]; omega)
 have cg : ∀ w, Calls Tryz.prog 78 #[.agg #[.string ⟨n.toArray⟩, .string ⟨d.toArray⟩]] w (GiveI w (sgnR (n, d))) := fun w => rqsign_any ⟨n.toArray⟩ ⟨d.toArray⟩ w (by rw [size_of]; omega) (by rw [size_of]; omega)
 have cr : ∀ w, Calls Tryz.prog 79 #[.agg #[.string ⟨n.toArray⟩, .string ⟨d.toArray⟩]] w (GiveS w (prS (n, d))) := fun w => rdprint_any ⟨n.toArray⟩ ⟨d.toArray⟩ w (by rw [size_of]; exact hn) (by rw [size_of]; exact hd)
 have hdec : decB (n, d) = ((plS (n, d)).2 && (decide ((plS (n, d)).1 ≤ 20) && decide (0 ≤ sgnR (n, d)))) := rfl
 have hnum : numP (n, d) = if decB (n, d) then prS (n, d) else numH ++ (n ++ 44 :: 32 :: (d ++ [41])) := rfl
 generalize plS (n, d) = P at *
 generalize sgnR (n, d) = z at *
 generalize prS (n, d) = t at *
 obtain ⟨i, y⟩ := P
 have CP := Lib.hid cp; have CG := Lib.hid cg; have CR := Lib.hid cr
 clear cp cg cr
 dsimp only at hdec
 cases y with
 | false =>
  have HA : Hid (numP (n, d) = numH ++ (n ++ 44 :: 32 :: (d ++ [41]))) := Lib.hid (by rw [hnum, hdec]; rfl)
  clear hnum hdec
  go_enter Tryz.func57, Tryz.ntmps57
  go_wp2_with fail
  have BW := Below.refl w.heap.size w
  have b0 : Below w.heap.size w w := Below.refl _ _
  obtain ⟨U1, hU, bU, s1, rx0, rx1⟩ := lay b0 (.string ⟨n.toArray⟩) (.string ⟨d.toArray⟩) 39
  rw [hU]; clear hU
  clear s1
  replace BW := Below.more BW bU
  clear bU
  have b1 := Below.refl U1.heap.size U1
  go_wp2_with fail
  refine (CP.out _).mono ?_
  rintro e w2 ⟨rfl, b⟩
  have b2 := Below.more b1 b
  clear b
  go_wp2_with fail
  go_ret
  exact ⟨(ret_u (num_text n d)).trans (by rw [HA.out]), Below.more BW b2⟩
 | true =>
  by_cases h20 : i ≤ 20
  ·by_cases hz : 0 ≤ z
   ·have HA : Hid (numP (n, d) = t) := Lib.hid (by rw [hnum, hdec, decide_eq_true h20, decide_eq_true hz]; rfl)
    clear hnum hdec
    go_enter Tryz.func57, Tryz.ntmps57
    go_wp2_with fail
    have BW := Below.refl w.heap.size w
    have b0 : Below w.heap.size w w := Below.refl _ _
    obtain ⟨U1, hU, bU, s1, rx0, rx1⟩ := lay b0 (.string ⟨n.toArray⟩) (.string ⟨d.toArray⟩) 39
    rw [hU]; clear hU
    clear s1
    replace BW := Below.more BW bU
    clear bU
    have b1 := Below.refl U1.heap.size U1
    go_wp2_with fail
    refine (CP.out _).mono ?_
    rintro e w2 ⟨rfl, b⟩
    have b2 := Below.more b1 b
    clear b
    go_wp2_with fail
    refine (CG.out _).mono ?_
    rintro e w3 ⟨rfl, b⟩
    have b3 := Below.more b2 b
    clear b
    go_wp2_with fail
    refine (CR.out _).mono ?_
    rintro e w4 ⟨rfl, b⟩
    have b4 := Below.more b3 b
    clear b
    go_wp2_with fail
    go_ret
    exact ⟨by rw [HA.out]; rfl, Below.more BW b4⟩
   ·have HA : Hid (numP (n, d) = numH ++ (n ++ 44 :: 32 :: (d ++ [41]))) := Lib.hid (by rw [hnum, hdec, decide_eq_true h20, decide_eq_false hz]; rfl)
    clear hnum hdec
    go_enter Tryz.func57, Tryz.ntmps57
    go_wp2_with fail
    have BW := Below.refl w.heap.size w
    have b0 : Below w.heap.size w w := Below.refl _ _
    obtain ⟨U1, hU, bU, s1, rx0, rx1⟩ := lay b0 (.string ⟨n.toArray⟩) (.string ⟨d.toArray⟩) 39
    rw [hU]; clear hU
    clear s1
    replace BW := Below.more BW bU
    clear bU
    have b1 := Below.refl U1.heap.size U1
    go_wp2_with fail
    refine (CP.out _).mono ?_
    rintro e w2 ⟨rfl, b⟩
    have b2 := Below.more b1 b
    clear b
    go_wp2_with fail
    refine (CG.out _).mono ?_
    rintro e w3 ⟨rfl, b⟩
    have b3 := Below.more b2 b
    clear b
    go_wp2_with fail
    go_ret
    exact ⟨(ret_u (num_text n d)).trans (by rw [HA.out]), Below.more BW b3⟩
  ·have HA : Hid (numP (n, d) = numH ++ (n ++ 44 :: 32 :: (d ++ [41]))) := Lib.hid (by rw [hnum, hdec, decide_eq_false h20]; rfl)
   clear hnum hdec
   go_enter Tryz.func57, Tryz.ntmps57
   go_wp2_with fail
   have BW := Below.refl w.heap.size w
   have b0 : Below w.heap.size w w := Below.refl _ _
   obtain ⟨U1, hU, bU, s1, rx0, rx1⟩ := lay b0 (.string ⟨n.toArray⟩) (.string ⟨d.toArray⟩) 39
   rw [hU]; clear hU
   clear s1
   replace BW := Below.more BW bU
   clear bU
   have b1 := Below.refl U1.heap.size U1
   go_wp2_with fail
   refine (CP.out _).mono ?_
   rintro e w2 ⟨rfl, b⟩
   have b2 := Below.more b1 b
   clear b
   go_wp2_with fail
   go_ret
   exact ⟨(ret_u (num_text n d)).trans (by rw [HA.out]), Below.more BW b2⟩
end Go.Proofs.YtdeinhkdphgfaaaGreatDoor

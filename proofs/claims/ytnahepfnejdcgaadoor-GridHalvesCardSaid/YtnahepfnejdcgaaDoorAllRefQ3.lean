/- The document's answers for fractions: what is split, one fraction of two ints; whether fractions are short, and good. -/
import Derived.Test.YtnahepfnejdcgaaDoorAllRefQ2
namespace Go.Proofs.YtnahepfnejdcgaaDoor
open Go.RowKit

theorem len_int {a : Int} (h0 : -9223372036854775808 ≤ a) (h1 : a ≤ 9223372036854775807) : (wd a).length ≤ 20 :=
  Nat.le_trans (wd_length a) (Nat.succ_le_succ (dig_length (k := 19) (by decide) (Nat.lt_of_le_of_lt (show a.natAbs ≤ 9223372036854775808 by omega) (by decide))))
set_option maxRecDepth 100000 in
set_option maxHeartbeats 2000000 in
theorem rqone_any (a b : Int) (w : World) (a0 : -9223372036854775808 ≤ a) (a1 : a ≤ 9223372036854775807) (b0 : -9223372036854775808 ≤ b) (b1 : b ≤ 9223372036854775807) :
    Calls Tryd.prog 6 #[.int .i64 a, .int .i64 b] w (GiveR w (makeR (wd a) (wd b)).1) := by
  have ca := fun w => rwof_any a w a0 a1
  have cb := fun w => rwof_any b w b0 b1
  have l1 := len_int a0 a1
  have l2 := len_int b0 b1
  generalize wd a = s at *
  generalize wd b = t at *
  have ck : ∀ w, Calls Tryd.prog 11 #[.string ⟨s.toArray⟩, .string ⟨t.toArray⟩] w (GiveRB w (makeR s t)) := fun w => rqmake_any ⟨s.toArray⟩ ⟨t.toArray⟩ w (by rw [size_of]; exact Nat.le_trans l1 (by decide)) (by rw [size_of]; exact Nat.le_trans l2 (by decide))
  generalize makeR s t = p at *
  clear l1 l2 a0 a1 b0 b1
  have CA := Lib.hid ca
  have CB := Lib.hid cb
  have CK := Lib.hid ck
  clear ca cb ck
  go_enter Tryd.func6, Tryd.ntmps6
  go_wp2_with fail
  obtain ⟨W, hW, BW, sW, r0, r1, r2, r3⟩ := box0z w (.string ⟨#[]⟩) (.string ⟨#[]⟩) 24
  have hB := Lib.hid (Nat.le_refl W.heap.size)
  rw [hW]; clear hW
  have b0 := Below.refl W.heap.size W
  refine (CA.out _).mono ?_
  rintro e w1 ⟨rfl, b⟩
  have b1 := Below.more b0 b
  clear b
  go_wp2_with fail
  refine (CB.out _).mono ?_
  rintro e w2 ⟨rfl, b⟩
  have b2 := Below.more b1 b
  clear b
  go_wp2_with fail
  refine (CK.out _).mono ?_
  rintro e w3 ⟨rfl, b⟩
  have b3 := Below.more b2 b
  clear b
  have ba := fun x => Below.alloc b3 (Below.size b3) x
  go_wp2_with fail
  refine bodyPost_ret (v := .agg #[.string ⟨p.1.1.toArray⟩, .string ⟨p.1.2.toArray⟩]) (by simp [results, Tryd.results6, go_sem, *]) rfl ⟨rfl, ?_⟩
  exact put2 (Below.more BW (ba _)) (Nat.le_refl _) _ _
theorem split_make {p : List UInt8 × List UInt8} (h : isR p = true) : makeR (divW p.1 p.2).2.1 p.2 = ((splitR p).2, true) ∧ (divW p.1 p.2).1 = (splitR p).1 := by
  obtain ⟨e1, e2⟩ := splitR_yes h
  have hs : splitR p = (wd (valR p).floor, rd (valR p - ((valR p).floor : Int))) := by unfold splitR; rw [h]; rfl
  refine ⟨?_, by rw [e1]⟩
  rw [e1, ← e2]
  have k := isR_rd (valR p - ((valR p).floor : Int))
  have e3 : (splitR p).2 = rd (valR p - ((valR p).floor : Int)) := by rw [hs]
  show makeR (splitR p).2.1 (splitR p).2.2 = _
  rw [e3]
  generalize valR p - ((valR p).floor : Int) = x at *
  show makeR (wd x.num) (dig x.den) = _
  rw [← wd_nat, makeR_ww (by have := x.den_nz; omega)]
  rw [Rat.num_divInt_den]
end Go.Proofs.YtnahepfnejdcgaaDoor

/- The document's answers for fractions: what is split, one fraction of two ints; whether fractions are short, and good. -/
import Derived.Test.YtnahepfnejdcgaaGreatDoorAllRefQ2
namespace Go.Proofs.YtnahepfnejdcgaaGreatDoor
open Go.RowKit

theorem len_int {a : Int} (h0 : -9223372036854775808 ≤ a) (h1 : a ≤ 9223372036854775807) : (wd a).length ≤ 20 :=
  Nat.le_trans (wd_length a) (Nat.succ_le_succ (dig_length (k := 19) (by decide) (Nat.lt_of_le_of_lt (show a.natAbs ≤ 9223372036854775808 by omega) (by decide))))
set_option maxRecDepth 100000 in
set_option maxHeartbeats 2000000 in
theorem rqone_any (a b : Int) (w : World) (a0 : -9223372036854775808 ≤ a) (a1 : a ≤ 9223372036854775807) (b0 : -9223372036854775808 ≤ b) (b1 : b ≤ 9223372036854775807) :
    Calls Tryz.prog 25 #[.int .i64 a, .int .i64 b] w (GiveR w (makeR (wd a) (wd b)).1) := by
  have ca := fun w => rwof_any a w a0 a1
  have cb := fun w => rwof_any b w b0 b1
  have l1 := len_int a0 a1
  have l2 := len_int b0 b1
  generalize wd a = s at *
  generalize wd b = t at *
  have ck : ∀ w, Calls Tryz.prog 38 #[.string ⟨s.toArray⟩, .string ⟨t.toArray⟩] w (GiveRB w (makeR s t)) := fun w => rqmake_any ⟨s.toArray⟩ ⟨t.toArray⟩ w (by rw [size_of]; exact Nat.le_trans l1 (by decide)) (by rw [size_of]; exact Nat.le_trans l2 (by decide))
  generalize makeR s t = p at *
  clear l1 l2 a0 a1 b0 b1
  have CA := Lib.hid ca
  have CB := Lib.hid cb
  have CK := Lib.hid ck
  clear ca cb ck
  go_enter Tryz.func25, Tryz.ntmps25
  go_wp2_with fail
  obtain ⟨W, hW, BW, sW, r0, r1, r2, r3⟩ := box0z w (.string ⟨#[]⟩) (.string ⟨#[]⟩) 23
  have hB := Lib.hid (Nat.le_refl W.heap.size)
  rw [hW]; clear hW
  have b0 := Below.refl W.heap.size W
  refine (CA.out _).mono ?_
  rintro e w1 ⟨rfl, b⟩
  have b1 := Below.more b0 b
  clear b
  go_wp2_with fail
  refine (CB.out _).mono ?_
  rintro e w2 ⟨rfl, b⟩
  have b2 := Below.more b1 b
  clear b
  go_wp2_with fail
  refine (CK.out _).mono ?_
  rintro e w3 ⟨rfl, b⟩
  have b3 := Below.more b2 b
  clear b
  have ba := fun x => Below.alloc b3 (Below.size b3) x
  go_wp2_with fail
  refine bodyPost_ret (v := .agg #[.string ⟨p.1.1.toArray⟩, .string ⟨p.1.2.toArray⟩]) (by simp [results, Tryz.results25, go_sem, *]) rfl ⟨rfl, ?_⟩
  exact put2 (Below.more BW (ba _)) (Nat.le_refl _) _ _
theorem split_make {p : List UInt8 × List UInt8} (h : isR p = true) : makeR (divW p.1 p.2).2.1 p.2 = ((splitR p).2, true) ∧ (divW p.1 p.2).1 = (splitR p).1 := by
  obtain ⟨e1, e2⟩ := splitR_yes h
  have hs : splitR p = (wd (valR p).floor, rd (valR p - ((valR p).floor : Int))) := by unfold splitR; rw [h]; rfl
  refine ⟨?_, by rw [e1]⟩
  rw [e1, ← e2]
  have k := isR_rd (valR p - ((valR p).floor : Int))
  have e3 : (splitR p).2 = rd (valR p - ((valR p).floor : Int)) := by rw [hs]
  show makeR (splitR p).2.1 (splitR p).2.2 = _
  rw [e3]
  generalize valR p - ((valR p).floor : Int) = x at *
  show makeR (wd x.num) (dig x.den) = _
  rw [← wd_nat, makeR_ww (by have := x.den_nz; omega)]
  rw [Rat.num_divInt_den]
set_option maxRecDepth 100000 in
set_option maxHeartbeats 2000000 in
theorem rqsplit_any (n d : ByteArray) (w : World) (hn : n.size ≤ 20000) (hd : d.size ≤ 20000) :
    Calls Tryz.prog 31 #[.agg #[.string n, .string d]] w (GiveSR w (splitR (n.data.toList, d.data.toList))) := by
  have cm := fun w => rqmay_any n d w (by omega) (by omega)
  have cv := fun w => rwdiv_any n d w (by omega) (by omega)
  cases h : isR (n.data.toList, d.data.toList) with
  | false =>
    rw [h] at cm
    rw [splitR_no h]
    clear h cv hn hd
    have CM := Lib.hid cm
    clear cm
    go_enter Tryz.func31, Tryz.ntmps31
    go_wp2_with fail
    obtain ⟨W, hW, BW, sW, k0, k1, r0, r1, r2, r3⟩ := box1z w (.string n) (.string d) (.string ⟨#[]⟩) (.string ⟨#[]⟩) 23 23
    have hB := Lib.hid (Nat.le_refl W.heap.size)
    rw [hW]; clear hW
    have b0 := Below.refl W.heap.size W
    refine (CM.out _).mono ?_
    rintro e w1 ⟨rfl, b⟩
    have b1 := Below.more b0 b
    clear b
    go_wp2_with fail
    refine bodyPost_ret (v := .tuple #[.string ⟨#[]⟩, .agg #[.string ⟨#[]⟩, .string ⟨#[]⟩]]) (by simp [results, Tryz.results31, go_sem, *]) rfl ⟨rfl, ?_⟩
    exact put2 (Below.more BW b1) (Nat.le_add_right _ 1) _ _
  | true =>
    rw [h] at cm
    obtain ⟨e1, e2⟩ := split_make h
    have e1 : makeR (divW n.data.toList d.data.toList).2.1 d.data.toList = _ := e1
    have e2 : (divW n.data.toList d.data.toList).1 = _ := e2
    have l1 : (divW n.data.toList d.data.toList).2.1.length ≤ 90000 := by
      obtain ⟨k1, k2⟩ := splitR_yes h
      have k1 : divW n.data.toList d.data.toList = _ := k1
      rw [k1]
      show ((splitR (n.data.toList, d.data.toList)).2.1).length ≤ 90000
      have k3 : splitR (n.data.toList, d.data.toList) = (wd (valR (n.data.toList, d.data.toList)).floor, rd (valR (n.data.toList, d.data.toList) - ((valR (n.data.toList, d.data.toList)).floor : Int))) := by unfold splitR; rw [h]; rfl
      rw [k3, ← (split_rd (valR (n.data.toList, d.data.toList))).1]
      show (wd ((valR (n.data.toList, d.data.toList)).num % ((valR (n.data.toList, d.data.toList)).den : Int))).length ≤ 90000
      have hden : d.data.toList = dig (valR (n.data.toList, d.data.toList)).den := (isR_den h).1
      have hl : d.data.toList.length ≤ 20000 := hd
      have hw := isW_dig (valR (n.data.toList, d.data.toList)).den
      have hv := valW_dig (valR (n.data.toList, d.data.toList)).den
      rw [hden] at hl
      have hpos := (valR (n.data.toList, d.data.toList)).den_nz
      generalize (valR (n.data.toList, d.data.toList)).den = D at *
      generalize (valR (n.data.toList, d.data.toList)).num = N at *
      have h1 := Int.emod_nonneg N (show (D : Int) ≠ 0 by omega)
      have h2 := Int.emod_lt_of_pos N (show 0 < (D : Int) by omega)
      exact Nat.le_trans (len_text hw (z := N % (D : Int)) (by rw [hv, Int.natAbs_natCast]; omega) (Nat.le_trans hl (by decide))) (by omega)
    generalize divW n.data.toList d.data.toList = x at *
    obtain ⟨x1, x2, x3⟩ := x
    have e1 : makeR x2 d.data.toList = ((splitR (n.data.toList, d.data.toList)).2, true) := e1
    have e2 : x1 = (splitR (n.data.toList, d.data.toList)).1 := e2
    have l1 : x2.length ≤ 90000 := l1
    have ck : ∀ w, Calls Tryz.prog 38 #[.string ⟨x2.toArray⟩, .string d] w (GiveRB w (makeR x2 d.data.toList)) := fun w => rqmake_any ⟨x2.toArray⟩ d w (by rw [size_of]; exact l1) (by omega)
    rw [e1] at ck
    generalize splitR (n.data.toList, d.data.toList) = y at *
    obtain ⟨y1, y2, y3⟩ := y
    have e2 : x1 = y1 := e2
    subst e2
    have ck : ∀ w, Calls Tryz.prog 38 #[.string ⟨x2.toArray⟩, .string d] w (GiveRB w ((y2, y3), true)) := ck
    clear h hn hd e1 l1
    have CM := Lib.hid cm
    have CV := Lib.hid cv
    have CK := Lib.hid ck
    clear cm cv ck
    go_enter Tryz.func31, Tryz.ntmps31
    go_wp2_with fail
    obtain ⟨W, hW, BW, sW, k0, k1, r0, r1, r2, r3⟩ := box1z w (.string n) (.string d) (.string ⟨#[]⟩) (.string ⟨#[]⟩) 23 23
    have hB := Lib.hid (Nat.le_refl W.heap.size)
    rw [hW]; clear hW
    have b0 := Below.refl W.heap.size W
    refine (CM.out _).mono ?_
    rintro e w1 ⟨rfl, b⟩
    have b1 := Below.more b0 b
    clear b
    go_wp2_with fail
    refine (CV.out _).mono ?_
    rintro e w2 ⟨rfl, b⟩
    have b2 := Below.more b1 b
    clear b
    go_wp2_with fail
    refine (CK.out _).mono ?_
    rintro e w3 ⟨rfl, b⟩
    have b3 := Below.more b2 b
    clear b
    have ba := fun x => Below.alloc b3 (Below.size b3) x
    have bd : ∀ x, Below W.heap.size W (w3.alloc x).drew := fun x => (ba x).drew
    clear ck e1
    go_wp2_with fail
    go_region
    all_goals (go_wp2_with fail)
    all_goals (refine bodyPost_ret (v := .tuple #[.string ⟨x1.toArray⟩, .agg #[.string ⟨y2.toArray⟩, .string ⟨y3.toArray⟩]]) (by simp [results, Tryz.results31, go_sem, *]) rfl ⟨rfl, ?_⟩)
    all_goals (exact put2 (Below.more BW (bd _)) (Nat.le_add_right w.heap.size 1) _ _)
end Go.Proofs.YtnahepfnejdcgaaGreatDoor

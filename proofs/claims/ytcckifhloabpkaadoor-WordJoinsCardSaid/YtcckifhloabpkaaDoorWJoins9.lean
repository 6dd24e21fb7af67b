/- The walk of WordJoins. -/
import Derived.Test.YtcckifhloabpkaaDoorWLexes9
import Derived.Test.YtcckifhloabpkaaDoorRowsM
namespace Go.Proofs.YtcckifhloabpkaaDoor
open Go.RowKit
set_option linter.unusedSimpArgs false
set_option linter.unusedVariables false
open Wd (Tk printT ktT lexAt lexD)
variable {G : World → Prop}
theorem lexD_some {l : List UInt8} {p : Nat × Nat} (h : (lexAt l 1 1).2 = some p) (hl : l.length ≤ 20000) : lexD l = ([], 90, p.1, p.2) := by
  unfold lexD
  rw [if_neg (by omega), h]
theorem lexD_none {l : List UInt8} (h : (lexAt l 1 1).2 = none) (hl : l.length ≤ 20000) : lexD l = ((lexAt l 1 1).1, 0, 0, 0) := by
  unfold lexD
  rw [if_neg (by omega), h]
set_option maxRecDepth 100000 in
set_option maxHeartbeats 4000000 in
theorem joins9_0 (H : WordC G) (s t : ByteArray) (h1 : (3000 : Int) < (s.size : Int)) (w : World) (hg : G w) : Calls Tryd.prog 6 #[.string s, .string t] w (GiveB w true) := by
  have HB := Lib.hid H; have HG := Lib.hid hg; clear H hg
  go_enter Tryd.func6, Tryd.ntmps6
  go_wp2_with fail
  have b0 := Below.refl w.heap.size w
  refine (fixed9_any HB.out _ HG.out).mono ?_
  rintro e w1 ⟨rfl, b⟩
  have b1 := Below.more b0 b
  clear b
  go_wp2_with fail
  refine (fixed9_any HB.out _ (HB.out.below HG.out b1)).mono ?_
  rintro e w2 ⟨rfl, b⟩
  have b2 := Below.more b1 b
  clear b
  go_wp2_with fail
  go_ret
  exact ⟨rfl, b2⟩
set_option maxRecDepth 100000 in
set_option maxHeartbeats 4000000 in
theorem joins9_1 (H : WordC G) (s t : ByteArray) (h1 : ¬ (3000 : Int) < (s.size : Int)) (h2 : (3000 : Int) < (t.size : Int)) (w : World) (hg : G w) : Calls Tryd.prog 6 #[.string s, .string t] w (GiveB w true) := by
  have HB := Lib.hid H; have HG := Lib.hid hg; clear H hg
  go_enter Tryd.func6, Tryd.ntmps6
  go_wp2_with fail
  have b0 := Below.refl w.heap.size w
  refine (fixed9_any HB.out _ HG.out).mono ?_
  rintro e w1 ⟨rfl, b⟩
  have b1 := Below.more b0 b
  clear b
  go_wp2_with fail
  refine (fixed9_any HB.out _ (HB.out.below HG.out b1)).mono ?_
  rintro e w2 ⟨rfl, b⟩
  have b2 := Below.more b1 b
  clear b
  go_wp2_with fail
  go_ret
  exact ⟨rfl, b2⟩
set_option maxRecDepth 100000 in
set_option maxHeartbeats 4000000 in
theorem joins9_e1 (H : WordC G) (s t : ByteArray) (h1 : ¬ (3000 : Int) < (s.size : Int)) (h2 : ¬ (3000 : Int) < (t.size : Int)) (w : World) (hg : G w) (a b : Nat) (Y : List Tk) (er : Int) (c d : Nat) (u v : Nat)
    (CL : Hid (∀ V, G V → Calls Tryd.prog 9 #[.string s] V (GiveLex V ([], 90, a, b)))) (CT : Hid (∀ V, G V → Calls Tryd.prog 9 #[.string t] V (GiveLex V (Y, er, c, d)))) (CJ : Hid (∀ V, G V → Calls Tryd.prog 9 #[.string (s ++ (⟨#[32]⟩ : ByteArray) ++ t)] V (GiveLex V ([], 90, u, v)))) :
    Calls Tryd.prog 6 #[.string s, .string t] w (GiveB w true) := by
  have HB := Lib.hid H; have HG := Lib.hid hg; clear H hg
  go_enter Tryd.func6, Tryd.ntmps6
  go_wp2_with fail
  have b0 := Below.refl w.heap.size w
  refine (fixed9_any HB.out _ HG.out).mono ?_
  rintro e w1 ⟨rfl, b⟩
  have b1 := Below.more b0 b
  clear b
  go_wp2_with fail
  refine (CL.out _ (HB.out.below HG.out b1)).mono ?_
  rintro e w2 ⟨⟨p1, c1, rfl, hc1, l1⟩, b⟩
  have b2 := Below.more b1 b
  have L1 := Lib.hid l1
  clear l1 b b1
  go_wp2_with fail
  refine (CT.out _ (HB.out.below HG.out b2)).mono ?_
  rintro e w3 ⟨⟨p2, c2, rfl, hc2, l2⟩, b⟩
  have b3 := Below.more b2 b
  have L2 := Lib.hid (RowsG.below L1.out b)
  have L3 := Lib.hid l2
  clear l2 b L1 b2
  go_wp2_with fail
  refine (CJ.out _ (HB.out.below HG.out b3)).mono ?_
  rintro e w4 ⟨⟨p3, c3, rfl, hc3, l3⟩, b⟩
  have b4 := Below.more b3 b
  have LX := Lib.hid (RowsG.below L2.out b)
  have LY := Lib.hid (RowsG.below L3.out b)
  have LZ := Lib.hid l3
  clear l3 b L2 L3 b3
  go_wp2_with fail
  go_ret
  exact ⟨ret_bool (by first | rfl | simp [*]), b4⟩
set_option maxRecDepth 100000 in
set_option maxHeartbeats 4000000 in
theorem joins9_e2 (H : WordC G) (s t : ByteArray) (h1 : ¬ (3000 : Int) < (s.size : Int)) (h2 : ¬ (3000 : Int) < (t.size : Int)) (w : World) (hg : G w) (X : List Tk) (a b : Nat) (u v : Nat)
    (CL : Hid (∀ V, G V → Calls Tryd.prog 9 #[.string s] V (GiveLex V (X, 0, 0, 0)))) (CT : Hid (∀ V, G V → Calls Tryd.prog 9 #[.string t] V (GiveLex V ([], 90, a, b)))) (CJ : Hid (∀ V, G V → Calls Tryd.prog 9 #[.string (s ++ (⟨#[32]⟩ : ByteArray) ++ t)] V (GiveLex V ([], 90, u, v)))) :
    Calls Tryd.prog 6 #[.string s, .string t] w (GiveB w true) := by
  have HB := Lib.hid H; have HG := Lib.hid hg; clear H hg
  go_enter Tryd.func6, Tryd.ntmps6
  go_wp2_with fail
  have b0 := Below.refl w.heap.size w
  refine (fixed9_any HB.out _ HG.out).mono ?_
  rintro e w1 ⟨rfl, b⟩
  have b1 := Below.more b0 b
  clear b
  go_wp2_with fail
  refine (CL.out _ (HB.out.below HG.out b1)).mono ?_
  rintro e w2 ⟨⟨p1, c1, rfl, hc1, l1⟩, b⟩
  have b2 := Below.more b1 b
  have L1 := Lib.hid l1
  clear l1 b b1
  go_wp2_with fail
  refine (CT.out _ (HB.out.below HG.out b2)).mono ?_
  rintro e w3 ⟨⟨p2, c2, rfl, hc2, l2⟩, b⟩
  have b3 := Below.more b2 b
  have L2 := Lib.hid (RowsG.below L1.out b)
  have L3 := Lib.hid l2
  clear l2 b L1 b2
  go_wp2_with fail
  refine (CJ.out _ (HB.out.below HG.out b3)).mono ?_
  rintro e w4 ⟨⟨p3, c3, rfl, hc3, l3⟩, b⟩
  have b4 := Below.more b3 b
  have LX := Lib.hid (RowsG.below L2.out b)
  have LY := Lib.hid (RowsG.below L3.out b)
  have LZ := Lib.hid l3
  clear l3 b L2 L3 b3
  go_wp2_with fail
  go_ret
  exact ⟨ret_bool (by first | rfl | simp [*]), b4⟩
set_option maxRecDepth 100000 in
set_option maxHeartbeats 4000000 in
theorem joins9_main (H : WordC G) (s t : ByteArray) (h1 : ¬ (3000 : Int) < (s.size : Int)) (h2 : ¬ (3000 : Int) < (t.size : Int)) (w : World) (hg : G w) (X Y Z : List Tk) (HLX : Hid (X.length ≤ 3000000)) (HLY : Hid (Y.length ≤ 3000000)) (HLZ : Hid (Z.length ≤ 4611686018427387904)) (hZ : Hid (Z.map ktT = (X ++ Y).map ktT))
    (CL : Hid (∀ V, G V → Calls Tryd.prog 9 #[.string s] V (GiveLex V (X, 0, 0, 0)))) (CT : Hid (∀ V, G V → Calls Tryd.prog 9 #[.string t] V (GiveLex V (Y, 0, 0, 0)))) (CJ : Hid (∀ V, G V → Calls Tryd.prog 9 #[.string (s ++ (⟨#[32]⟩ : ByteArray) ++ t)] V (GiveLex V (Z, 0, 0, 0)))) :
    Calls Tryd.prog 6 #[.string s, .string t] w (GiveB w true) := by
  have HB := Lib.hid H; have HG := Lib.hid hg; clear H hg
  go_enter Tryd.func6, Tryd.ntmps6
  go_wp2_with fail
  have b0 := Below.refl w.heap.size w
  refine (fixed9_any HB.out _ HG.out).mono ?_
  rintro e w1 ⟨rfl, b⟩
  have b1 := Below.more b0 b
  clear b
  go_wp2_with fail
  refine (CL.out _ (HB.out.below HG.out b1)).mono ?_
  rintro e w2 ⟨⟨p1, c1, rfl, hc1, l1⟩, b⟩
  have b2 := Below.more b1 b
  have L1 := Lib.hid l1
  clear l1 b b1
  go_wp2_with fail
  refine (CT.out _ (HB.out.below HG.out b2)).mono ?_
  rintro e w3 ⟨⟨p2, c2, rfl, hc2, l2⟩, b⟩
  have b3 := Below.more b2 b
  have L2 := Lib.hid (RowsG.below L1.out b)
  have L3 := Lib.hid l2
  clear l2 b L1 b2
  go_wp2_with fail
  refine (CJ.out _ (HB.out.below HG.out b3)).mono ?_
  rintro e w4 ⟨⟨p3, c3, rfl, hc3, l3⟩, b⟩
  have b4 := Below.more b3 b
  have LX := Lib.hid (RowsG.below L2.out b)
  have LY := Lib.hid (RowsG.below L3.out b)
  have LZ := Lib.hid l3
  clear l3 b L2 L3 b3
  go_wp2_with (at_builtin; refine haltG ?_)
  show wpList _ _ _ _ _ _
  have bN : Below w4.heap.size w4 (w4.alloc (.cells #[] 31)) := Below.alloc (Below.refl _ _) (Nat.le_refl _) _
  have oN := ownG_empty (enc := encT) (k := 4) (e := 31) (B := w4.heap.size) w4 (Nat.le_refl _)
  refine wpList_append_W (by first | rfl | kernel_rfl) _ _ 22 31 rfl Tryd.underlying22 tokInfo rfl (by decide) (by decide) (fun _ => rfl) encT_one w4.heap.size _ [] rfl oN p1 X c1 rfl (RowsG.below LX.out bN) (by simp) HLX.out (Below.size bN) ?_
  intro v1 w5 ho hgr hloc
  have b5 : Below w4.heap.size w4 w5 := Below.grown bN hgr (Below.size bN) fun j hj => (World.ownsRow.lt oN j hj).1
  rw [List.nil_append] at ho
  have HO := Lib.hid ho
  clear ho hgr hloc oN bN
  go_wp2_with (at_builtin; refine haltG ?_)
  show wpList _ _ _ _ _ _
  have bN := b5
  refine wpList_append_W (by first | rfl | kernel_rfl) _ _ 22 31 rfl Tryd.underlying22 tokInfo rfl (by decide) (by decide) (fun _ => rfl) encT_one w4.heap.size _ X rfl HO.out p2 Y c2 rfl (RowsG.below LY.out bN) (by exact HLX.out) HLY.out (Below.size bN) ?_
  intro v2 w6 ho hgr hloc
  have b6 : Below w4.heap.size w4 w6 := Below.grown bN hgr (Below.size bN) fun j hj => (World.ownsRow.lt HO.out j hj).1
  obtain ⟨p7, c7, rfl, hc7, l7, _⟩ := ownG_rows (enc := encT) (k := 4) (fun _ => rfl) ho
  clear ho hgr hloc bN HO
  have hl7 : (X ++ Y).length ≤ 4611686018427387904 := by have a := HLX.out; have b := HLY.out; rw [List.length_append]; omega
  have hsm := rlalike_any p3 p7 c3 c7 Z (X ++ Y) w6 HLZ.out hl7 (RowsG.below LZ.out b6) l7
  rw [decide_eq_true hZ.out] at hsm
  have HS := Lib.hid hsm
  have b7 := Below.more b4 b6
  clear hsm b5 b6 l7 LX LY LZ hl7 hc7
  generalize X ++ Y = R at *
  go_wp2_with fail
  refine HS.out.mono ?_
  rintro e w8 ⟨rfl, b⟩
  have b8 := Below.more b7 b
  clear b
  go_wp2_with fail
  go_ret
  exact ⟨ret_bool (by first | rfl | simp [*]), b8⟩
theorem joins9_any (H : WordC G) (s t : ByteArray) (w : World) (hg : G w) : Calls Tryd.prog 6 #[.string s, .string t] w (GiveB w true) := by
  by_cases h1 : (3000 : Int) < (s.size : Int)
  · exact joins9_0 H s t h1 w hg
  by_cases h2 : (3000 : Int) < (t.size : Int)
  · exact joins9_1 H s t h1 h2 w hg
  have hs : s.data.toList.length = s.size := size_toList s
  have ht : t.data.toList.length = t.size := size_toList t
  have hJ : (s ++ (⟨#[32]⟩ : ByteArray) ++ t).data.toList = s.data.toList ++ 32 :: t.data.toList := by
    rw [ba_append, ba_append, List.append_assoc]; rfl
  have hj : (s ++ (⟨#[32]⟩ : ByteArray) ++ t).size = s.size + 1 + t.size := by rw [ByteArray.size_append, ByteArray.size_append]; rfl
  have cl := fun V (hv : G V) => H.lex s V (by omega) hv
  have ct := fun V (hv : G V) => H.lex t V (by omega) hv
  have cj := fun V (hv : G V) => H.lex (s ++ (⟨#[32]⟩ : ByteArray) ++ t) V (by omega) hv
  rw [hJ] at cj
  have hl : (s.data.toList ++ 32 :: t.data.toList).length ≤ 20000 := by rw [List.length_append, List.length_cons]; omega
  obtain ⟨j1, j2⟩ := Wd.lex_join t.data.toList s.data.toList 1 1
  have lx := lex_len s.data.toList 1 1
  have ly := lex_len t.data.toList 1 1
  have lz := lex_len (s.data.toList ++ 32 :: t.data.toList) 1 1
  cases e1 : (lexAt s.data.toList 1 1).2 with
  | some p =>
    obtain ⟨q, hq⟩ := Option.isSome_iff_exists.1 (j2 (by rw [e1]; rfl))
    rw [lexD_some e1 (by omega)] at cl
    rw [lexD_some hq hl] at cj
    generalize lexD t.data.toList = R at *
    obtain ⟨Y, er, c, d⟩ := R
    exact joins9_e1 H s t h1 h2 w hg p.1 p.2 Y er c d q.1 q.2 (Lib.hid cl) (Lib.hid ct) (Lib.hid cj)
  | none =>
    obtain ⟨ln', c', hj'⟩ := j1 e1
    obtain ⟨k1, k2⟩ := Wd.lex_kt t.data.toList ln' c' 1 1
    rw [lexD_none e1 (by omega)] at cl
    cases e2 : (lexAt t.data.toList 1 1).2 with
    | some p =>
      rw [e2] at k2
      obtain ⟨q, hq⟩ := Option.isSome_iff_exists.1 (show (lexAt (s.data.toList ++ 32 :: t.data.toList) 1 1).2.isSome = true by rw [hj']; exact k2)
      rw [lexD_some e2 (by omega)] at ct
      rw [lexD_some hq hl] at cj
      exact joins9_e2 H s t h1 h2 w hg _ p.1 p.2 q.1 q.2 (Lib.hid cl) (Lib.hid ct) (Lib.hid cj)
    | none =>
      rw [e2] at k2
      have hn : (lexAt (s.data.toList ++ 32 :: t.data.toList) 1 1).2 = none := by rw [hj']; exact Option.isSome_eq_false_iff.1 k2 |> Option.isNone_iff_eq_none.1
      rw [lexD_none e2 (by omega)] at ct
      rw [lexD_none hn hl] at cj
      rw [List.length_append, List.length_cons] at lz hl
      refine joins9_main H s t h1 h2 w hg _ _ _ (Lib.hid (by omega)) (Lib.hid (by omega)) (Lib.hid (by omega)) (Lib.hid ?_) (Lib.hid cl) (Lib.hid ct) (Lib.hid cj)
      rw [hj', List.map_append, List.map_append, k1]
end Go.Proofs.YtcckifhloabpkaaDoor

/- The document's words on names and lines: to plain functions. -/
import Derived.Laws.Cover1
import Derived.Test.YtagfndkfjbbpjaaGreatDoorAllRefQ5
import Derived.Test.YtagfndkfjbbpjaaGreatDoorPostNum
namespace Go.Proofs.YtagfndkfjbbpjaaGreatDoor
open Go.RowKit
set_option linter.unusedSimpArgs false
set_option linter.unusedVariables false
structure NoB (w : World) : Prop where
 ok : True
theorem NoB.below {w w' : World} (_ : NoB w) (_ : Below w.heap.size w w') : NoB w' := ⟨trivial⟩
theorem noB (w : World) : NoB w := ⟨trivial⟩
theorem lay4 {V w : World} (h : Below V.heap.size V w) (a b c d : Value) (t : TypeId) : ∃ U, w.alloc (.cells #[a, b, c, d] t) = U ∧ Below V.heap.size V U ∧ w.heap.size + 1 = U.heap.size ∧
  (∀ v, Below U.heap.size U v → v.cell? ⟨w.heap.size, 0, none⟩ = some a) ∧ (∀ v, Below U.heap.size U v → v.cell? ⟨w.heap.size, 1, none⟩ = some b) ∧
  (∀ v, Below U.heap.size U v → v.cell? ⟨w.heap.size, 2, none⟩ = some c) ∧ (∀ v, Below U.heap.size U v → v.cell? ⟨w.heap.size, 3, none⟩ = some d) := by
 have k : ∀ j x, (#[a, b, c, d] : Array Value)[j]? = some x → ∀ v, Below (w.alloc (.cells #[a, b, c, d] t)).heap.size (w.alloc (.cells #[a, b, c, d] t)) v → v.cell? ⟨w.heap.size, j, none⟩ = some x := fun j x e v hv =>
  (hv.cell (p := ⟨w.heap.size, j, none⟩) (by simp)).trans ((cell_new w _ _ _ rfl j).trans e)
 exact ⟨_, rfl, h.alloc h.size _, by simp, k 0 a rfl, k 1 b rfl, k 2 c rfl, k 3 d rfl⟩
theorem okB_iff {i : Nat} {c : UInt8} : okB i c = true ↔ ((97 ≤ c.toNat ∧ c.toNat ≤ 122) ∨ (48 ≤ c.toNat ∧ c.toNat ≤ 57)) ∨ (c.toNat = 33 ∧ i = 0) := by
 unfold okB nameC
 simp only [Bool.or_eq_true, Bool.and_eq_true, decide_eq_true_eq]
theorem okB_no {i : Nat} {c : UInt8} (h : ¬ (((97 ≤ c.toNat ∧ c.toNat ≤ 122) ∨ (48 ≤ c.toNat ∧ c.toNat ≤ 57)) ∨ (c.toNat = 33 ∧ i = 0))) : okB i c = false := by
 cases e : okB i c with
 | false => rfl
 | true => exact absurd (okB_iff.1 e) h
theorem nm_more {s : ByteArray} {k : Nat} (hk : k < s.size) (h : nmFrom 0 (s.data.toList.take k) = true) (ho : okB k s[k] = true) : nmFrom 0 (s.data.toList.take (k + 1)) = true := by
 have hl : k < s.data.toList.length := by rw [size_toList]; exact hk
 rw [nm_step hl, h]
 exact ho
theorem nm_end {s : ByteArray} {k : Nat} (hk : k < s.size) (ho : okB k s[k] = false) : isName s.data.toList = false := nm_stop (by rw [size_toList]; exact hk) ho
set_option maxHeartbeats 1000000 in
theorem rbname_any (s : ByteArray) (w : World) (hs : s.size ≤ 4611686018427387904) :
  Calls Tryz.prog 50 #[.string s] w fun e w' => e = .returned (.bool (isName s.data.toList)) ∧ w = w' := by
 go_enter Tryz.func50, Tryz.ntmps50
 go_wp2
 go_loop [3] (fun i => ∃ k : Nat, k ≤ s.size ∧ i = .int .i64 k ∧ Hid (nmFrom 0 (s.data.toList.take k) = true)) (fun i => s.size - (intOf i).toNat)
 case atStart => exact ⟨0, Nat.zero_le _, rfl, rfl⟩
 case round =>
  obtain ⟨k, hk, rfl, HJ⟩ := hrel
  by_cases hlt : k < s.size
  ·by_cases a1 : (s[k].toNat : Int) < 97
   ·by_cases a2 : (s[k].toNat : Int) < 48
    ·by_cases a3 : (s[k].toNat : Int) = 33
     ·by_cases a4 : k = 0
      ·have f0 : ¬ (0 : Int) < (k : Int) := by omega
       have HO : Hid (okB k s[k] = true) := Lib.hid (okB_iff.2 (.inr ⟨by omega, a4⟩))
       clear a4
       go_wp2
       go_round
       case rel => exact ⟨k + 1, hlt, by go_num, nm_more hlt HJ.out HO.out⟩
       case measure => simp [intOf]; omega
      ·have f0 : (0 : Int) < (k : Int) := by omega
       have HO : Hid (isName s.data.toList = false) := Lib.hid (nm_end hlt (okB_no (by omega)))
       go_wp2
       go_ret
       exact ⟨ret_bool (by rw [HO.out]), rfl⟩
     ·have HO : Hid (isName s.data.toList = false) := Lib.hid (nm_end hlt (okB_no (by omega)))
      go_wp2
      go_ret
      exact ⟨ret_bool (by rw [HO.out]), rfl⟩
    ·by_cases a3 : 57 < (s[k].toNat : Int)
     ·have f0 : ¬ (s[k].toNat : Int) = 33 := by omega
      have HO : Hid (isName s.data.toList = false) := Lib.hid (nm_end hlt (okB_no (by omega)))
      go_wp2
      go_ret
      exact ⟨ret_bool (by rw [HO.out]), rfl⟩
     ·have HO : Hid (okB k s[k] = true) := Lib.hid (okB_iff.2 (.inl (.inr ⟨by omega, by omega⟩)))
      go_wp2
      go_round
      case rel => exact ⟨k + 1, hlt, by go_num, nm_more hlt HJ.out HO.out⟩
      case measure => simp [intOf]; omega
   ·by_cases a2 : 122 < (s[k].toNat : Int)
    ·have f0 : ¬ (s[k].toNat : Int) = 33 := by omega
     have f1 : ¬ (s[k].toNat : Int) < 48 := by omega
     have f2 : 57 < (s[k].toNat : Int) := by omega
     have HO : Hid (isName s.data.toList = false) := Lib.hid (nm_end hlt (okB_no (by omega)))
     go_wp2
     go_ret
     exact ⟨ret_bool (by rw [HO.out]), rfl⟩
    ·have HO : Hid (okB k s[k] = true) := Lib.hid (okB_iff.2 (.inl (.inl ⟨by omega, by omega⟩)))
     go_wp2
     go_round
     case rel => exact ⟨k + 1, hlt, by go_num, nm_more hlt HJ.out HO.out⟩
     case measure => simp [intOf]; omega
  ·obtain rfl : k = s.size := by omega
   have hr := nm_all (l := s.data.toList) (by rw [size_toList]; exact HJ.out)
   rw [size_toList] at hr
   have HR := Lib.hid hr; clear hr
   by_cases h1 : (1 : Int) ≤ (s.size : Int)
   ·by_cases h2 : (s.size : Int) ≤ 20
    ·have HD : Hid ((decide (1 ≤ s.size) && decide (s.size ≤ 20)) = true) := Lib.hid (by rw [decide_eq_true (by omega), decide_eq_true (by omega)]; rfl)
     go_wp2
     go_ret
     exact ⟨ret_bool (by rw [HR.out, HD.out]), rfl⟩
    ·have HD : Hid ((decide (1 ≤ s.size) && decide (s.size ≤ 20)) = false) := Lib.hid (by rw [decide_eq_false (show ¬ s.size ≤ 20 by omega), Bool.and_false])
     go_wp2
     go_ret
     exact ⟨ret_bool (by first | rw [HR.out, HD.out] | (rw [HR.out, HD.out]; exact decide_eq_false h2)), rfl⟩
   ·have HD : Hid ((decide (1 ≤ s.size) && decide (s.size ≤ 20)) = false) := Lib.hid (by rw [decide_eq_false (show ¬ 1 ≤ s.size by omega), Bool.false_and])
    go_wp2
    go_ret
    exact ⟨ret_bool (by rw [HR.out, HD.out]), rfl⟩
set_option maxRecDepth 100000 in
set_option maxHeartbeats 4000000 in
theorem ah_lt {a s n d c t m e : List UInt8} (h1 : Op.bytesLess a c = true) (w : World) :
  Calls Tryz.prog 46 #[.agg #[.string ⟨a.toArray⟩, .string ⟨s.toArray⟩, .string ⟨n.toArray⟩, .string ⟨d.toArray⟩], .agg #[.string ⟨c.toArray⟩, .string ⟨t.toArray⟩, .string ⟨m.toArray⟩, .string ⟨e.toArray⟩]] w (GiveB w (true)) := by
 have HT : Hid (NoB w) := Lib.hid (noB w)
 go_enter Tryz.func46, Tryz.ntmps46
 go_wp2_with fail
 have BW := Below.refl w.heap.size w
 have b0 : Below w.heap.size w w := Below.refl _ _
 obtain ⟨U1, hU, bU, s1, rx0, rx1, rx2, rx3⟩ := lay4 b0 (.string ⟨a.toArray⟩) (.string ⟨s.toArray⟩) (.string ⟨n.toArray⟩) (.string ⟨d.toArray⟩) 46
 rw [hU]; clear hU
 replace BW := Below.more BW bU
 replace HT := Lib.hid (HT.out.below bU)
 clear bU
 have b1 := Below.refl U1.heap.size U1
 obtain ⟨U2, hU, bU, s2, ry0, ry1, ry2, ry3⟩ := lay4 b1 (.string ⟨c.toArray⟩) (.string ⟨t.toArray⟩) (.string ⟨m.toArray⟩) (.string ⟨e.toArray⟩) 46
 rw [hU]; clear hU
 rw [← s1] at ry0 ry1 ry2 ry3
 clear s2
 replace rx0 := fun v (h : Below U2.heap.size U2 v) => rx0 v (Below.more bU h)
 replace rx1 := fun v (h : Below U2.heap.size U2 v) => rx1 v (Below.more bU h)
 replace rx2 := fun v (h : Below U2.heap.size U2 v) => rx2 v (Below.more bU h)
 replace rx3 := fun v (h : Below U2.heap.size U2 v) => rx3 v (Below.more bU h)
 replace BW := Below.more BW bU
 replace HT := Lib.hid (HT.out.below bU)
 clear bU
 have b2 := Below.refl U2.heap.size U2
 clear s1
 go_wp2_with fail
 go_ret
 exact ⟨ret_bool (by first | rfl | simp [*]), Below.more BW b2⟩
set_option maxRecDepth 100000 in
set_option maxHeartbeats 4000000 in
theorem ah_gt {a s n d c t m e : List UInt8} (h1 : Op.bytesLess a c = false) (h2 : (a == c) = false) (w : World) :
  Calls Tryz.prog 46 #[.agg #[.string ⟨a.toArray⟩, .string ⟨s.toArray⟩, .string ⟨n.toArray⟩, .string ⟨d.toArray⟩], .agg #[.string ⟨c.toArray⟩, .string ⟨t.toArray⟩, .string ⟨m.toArray⟩, .string ⟨e.toArray⟩]] w (GiveB w (false)) := by
 have HT : Hid (NoB w) := Lib.hid (noB w)
 go_enter Tryz.func46, Tryz.ntmps46
 go_wp2_with fail
 have BW := Below.refl w.heap.size w
 have b0 : Below w.heap.size w w := Below.refl _ _
 obtain ⟨U1, hU, bU, s1, rx0, rx1, rx2, rx3⟩ := lay4 b0 (.string ⟨a.toArray⟩) (.string ⟨s.toArray⟩) (.string ⟨n.toArray⟩) (.string ⟨d.toArray⟩) 46
 rw [hU]; clear hU
 replace BW := Below.more BW bU
 replace HT := Lib.hid (HT.out.below bU)
 clear bU
 have b1 := Below.refl U1.heap.size U1
 obtain ⟨U2, hU, bU, s2, ry0, ry1, ry2, ry3⟩ := lay4 b1 (.string ⟨c.toArray⟩) (.string ⟨t.toArray⟩) (.string ⟨m.toArray⟩) (.string ⟨e.toArray⟩) 46
 rw [hU]; clear hU
 rw [← s1] at ry0 ry1 ry2 ry3
 clear s2
 replace rx0 := fun v (h : Below U2.heap.size U2 v) => rx0 v (Below.more bU h)
 replace rx1 := fun v (h : Below U2.heap.size U2 v) => rx1 v (Below.more bU h)
 replace rx2 := fun v (h : Below U2.heap.size U2 v) => rx2 v (Below.more bU h)
 replace rx3 := fun v (h : Below U2.heap.size U2 v) => rx3 v (Below.more bU h)
 replace BW := Below.more BW bU
 replace HT := Lib.hid (HT.out.below bU)
 clear bU
 have b2 := Below.refl U2.heap.size U2
 clear s1
 go_wp2_with fail
 go_ret
 exact ⟨ret_bool (by first | rfl | simp [*]), Below.more BW b2⟩
set_option maxRecDepth 100000 in
set_option maxHeartbeats 4000000 in
theorem ah_eq {a s n d c t m e : List UInt8} (h1 : Op.bytesLess a c = false) (h2 : (a == c) = true) (w : World) :
  Calls Tryz.prog 46 #[.agg #[.string ⟨a.toArray⟩, .string ⟨s.toArray⟩, .string ⟨n.toArray⟩, .string ⟨d.toArray⟩], .agg #[.string ⟨c.toArray⟩, .string ⟨t.toArray⟩, .string ⟨m.toArray⟩, .string ⟨e.toArray⟩]] w (GiveB w (Op.bytesLess s t)) := by
 have HT : Hid (NoB w) := Lib.hid (noB w)
 go_enter Tryz.func46, Tryz.ntmps46
 go_wp2_with fail
 have BW := Below.refl w.heap.size w
 have b0 : Below w.heap.size w w := Below.refl _ _
 obtain ⟨U1, hU, bU, s1, rx0, rx1, rx2, rx3⟩ := lay4 b0 (.string ⟨a.toArray⟩) (.string ⟨s.toArray⟩) (.string ⟨n.toArray⟩) (.string ⟨d.toArray⟩) 46
 rw [hU]; clear hU
 replace BW := Below.more BW bU
 replace HT := Lib.hid (HT.out.below bU)
 clear bU
 have b1 := Below.refl U1.heap.size U1
 obtain ⟨U2, hU, bU, s2, ry0, ry1, ry2, ry3⟩ := lay4 b1 (.string ⟨c.toArray⟩) (.string ⟨t.toArray⟩) (.string ⟨m.toArray⟩) (.string ⟨e.toArray⟩) 46
 rw [hU]; clear hU
 rw [← s1] at ry0 ry1 ry2 ry3
 clear s2
 replace rx0 := fun v (h : Below U2.heap.size U2 v) => rx0 v (Below.more bU h)
 replace rx1 := fun v (h : Below U2.heap.size U2 v) => rx1 v (Below.more bU h)
 replace rx2 := fun v (h : Below U2.heap.size U2 v) => rx2 v (Below.more bU h)
 replace rx3 := fun v (h : Below U2.heap.size U2 v) => rx3 v (Below.more bU h)
 replace BW := Below.more BW bU
 replace HT := Lib.hid (HT.out.below bU)
 clear bU
 have b2 := Below.refl U2.heap.size U2
 clear s1
 go_wp2_with fail
 go_ret
 exact ⟨ret_bool (by first | rfl | simp [*]), Below.more BW b2⟩
theorem rbahead_any (a s n d c t m e : List UInt8) (w : World) : Calls Tryz.prog 46 #[.agg #[.string ⟨a.toArray⟩, .string ⟨s.toArray⟩, .string ⟨n.toArray⟩, .string ⟨d.toArray⟩], .agg #[.string ⟨c.toArray⟩, .string ⟨t.toArray⟩, .string ⟨m.toArray⟩, .string ⟨e.toArray⟩]] w (GiveB w (aheadK (a, s) (c, t))) := by
 have k : aheadK (a, s) (c, t) = (Op.bytesLess a c || ((a == c) && Op.bytesLess s t)) := rfl
 rw [k]
 cases h1 : Op.bytesLess a c with
 | true => exact ah_lt h1 w
 | false =>
  cases h2 : (a == c) with
  | true => exact ah_eq h1 h2 w
  | false => exact ah_gt h1 h2 w
set_option maxRecDepth 100000 in
set_option maxHeartbeats 4000000 in
theorem ln_a {a s n d : List UInt8}  (w : World)
  (CA : Hid (∀ w, Calls Tryz.prog 50 #[.string ⟨a.toArray⟩] w (GiveB w false))) :
  Calls Tryz.prog 45 #[.agg #[.string ⟨a.toArray⟩, .string ⟨s.toArray⟩, .string ⟨n.toArray⟩, .string ⟨d.toArray⟩]] w (GiveB w false) := by
 have HT : Hid (NoB w) := Lib.hid (noB w)
 go_enter Tryz.func45, Tryz.ntmps45
 go_wp2_with fail
 have BW := Below.refl w.heap.size w
 have b0 : Below w.heap.size w w := Below.refl _ _
 obtain ⟨U1, hU, bU, s1, rx0, rx1, rx2, rx3⟩ := lay4 b0 (.string ⟨a.toArray⟩) (.string ⟨s.toArray⟩) (.string ⟨n.toArray⟩) (.string ⟨d.toArray⟩) 46
 rw [hU]; clear hU
 clear s1
 replace BW := Below.more BW bU
 replace HT := Lib.hid (HT.out.below bU)
 clear bU
 have b1 := Below.refl U1.heap.size U1
 go_wp2_with fail
 refine (CA.out _).mono ?_
 rintro e w2 ⟨rfl, b⟩
 have b2 := Below.more b1 b
 clear b
 go_wp2_with fail
 go_ret
 exact ⟨ret_bool (by first | rfl | simp [*]), Below.more BW b2⟩
set_option maxRecDepth 100000 in
set_option maxHeartbeats 4000000 in
theorem ln_s {a s n d : List UInt8}  (w : World)
  (CA : Hid (∀ w, Calls Tryz.prog 50 #[.string ⟨a.toArray⟩] w (GiveB w true)))
  (CS : Hid (∀ w, Calls Tryz.prog 50 #[.string ⟨s.toArray⟩] w (GiveB w false))) :
  Calls Tryz.prog 45 #[.agg #[.string ⟨a.toArray⟩, .string ⟨s.toArray⟩, .string ⟨n.toArray⟩, .string ⟨d.toArray⟩]] w (GiveB w false) := by
 have HT : Hid (NoB w) := Lib.hid (noB w)
 go_enter Tryz.func45, Tryz.ntmps45
 go_wp2_with fail
 have BW := Below.refl w.heap.size w
 have b0 : Below w.heap.size w w := Below.refl _ _
 obtain ⟨U1, hU, bU, s1, rx0, rx1, rx2, rx3⟩ := lay4 b0 (.string ⟨a.toArray⟩) (.string ⟨s.toArray⟩) (.string ⟨n.toArray⟩) (.string ⟨d.toArray⟩) 46
 rw [hU]; clear hU
 clear s1
 replace BW := Below.more BW bU
 replace HT := Lib.hid (HT.out.below bU)
 clear bU
 have b1 := Below.refl U1.heap.size U1
 go_wp2_with fail
 refine (CA.out _).mono ?_
 rintro e w2 ⟨rfl, b⟩
 have b2 := Below.more b1 b
 clear b
 go_wp2_with fail
 refine (CS.out _).mono ?_
 rintro e w3 ⟨rfl, b⟩
 have b3 := Below.more b2 b
 clear b
 go_wp2_with fail
 go_ret
 exact ⟨ret_bool (by first | rfl | simp [*]), Below.more BW b3⟩
set_option maxRecDepth 100000 in
set_option maxHeartbeats 4000000 in
theorem ln_q {a s n d : List UInt8} {b : Bool} (w : World)
  (CA : Hid (∀ w, Calls Tryz.prog 50 #[.string ⟨a.toArray⟩] w (GiveB w true)))
  (CS : Hid (∀ w, Calls Tryz.prog 50 #[.string ⟨s.toArray⟩] w (GiveB w true)))
  (CM : Hid (∀ w, Calls Tryz.prog 47 #[.agg #[.string ⟨n.toArray⟩, .string ⟨d.toArray⟩]] w (GiveB w b))) :
  Calls Tryz.prog 45 #[.agg #[.string ⟨a.toArray⟩, .string ⟨s.toArray⟩, .string ⟨n.toArray⟩, .string ⟨d.toArray⟩]] w (GiveB w b) := by
 have HT : Hid (NoB w) := Lib.hid (noB w)
 go_enter Tryz.func45, Tryz.ntmps45
 go_wp2_with fail
 have BW := Below.refl w.heap.size w
 have b0 : Below w.heap.size w w := Below.refl _ _
 obtain ⟨U1, hU, bU, s1, rx0, rx1, rx2, rx3⟩ := lay4 b0 (.string ⟨a.toArray⟩) (.string ⟨s.toArray⟩) (.string ⟨n.toArray⟩) (.string ⟨d.toArray⟩) 46
 rw [hU]; clear hU
 clear s1
 replace BW := Below.more BW bU
 replace HT := Lib.hid (HT.out.below bU)
 clear bU
 have b1 := Below.refl U1.heap.size U1
 go_wp2_with fail
 refine (CA.out _).mono ?_
 rintro e w2 ⟨rfl, b⟩
 have b2 := Below.more b1 b
 clear b
 go_wp2_with fail
 refine (CS.out _).mono ?_
 rintro e w3 ⟨rfl, b⟩
 have b3 := Below.more b2 b
 clear b
 go_wp2_with fail
 refine (CM.out _).mono ?_
 rintro e w4 ⟨rfl, b⟩
 have b4 := Below.more b3 b
 clear b
 go_wp2_with fail
 go_ret
 exact ⟨ret_bool (by first | rfl | simp [*]), Below.more BW b4⟩
theorem rbline_any (a s n d : List UInt8) (w : World) (ha : a.length ≤ 4611686018427387904) (hs : s.length ≤ 4611686018427387904) (hn : n.length ≤ 20000) (hd : d.length ≤ 20000) :
  Calls Tryz.prog 45 #[.agg #[.string ⟨a.toArray⟩, .string ⟨s.toArray⟩, .string ⟨n.toArray⟩, .string ⟨d.toArray⟩]] w (GiveB w (lineOk ((a, s), (n, d)))) := by
 have k : lineOk ((a, s), (n, d)) = (isName a && (isName s && isR (n, d))) := rfl
 have ca : ∀ w, Calls Tryz.prog 50 #[.string ⟨a.toArray⟩] w (GiveB w (isName a)) := fun w => calm (rbname_any ⟨a.toArray⟩ w (by rw [size_of]; exact ha))
 have cs : ∀ w, Calls Tryz.prog 50 #[.string ⟨s.toArray⟩] w (GiveB w (isName s)) := fun w => calm (rbname_any ⟨s.toArray⟩ w (by rw [size_of]; exact hs))
 have cm : ∀ w, Calls Tryz.prog 47 #[.agg #[.string ⟨n.toArray⟩, .string ⟨d.toArray⟩]] w (GiveB w (isR (n, d))) := fun w => rqmay_any ⟨n.toArray⟩ ⟨d.toArray⟩ w (by rw [size_of]; omega) (by rw [size_of]; omega)
 rw [k]
 cases h1 : isName a with
 | false => rw [h1] at ca; exact ln_a w (Lib.hid ca)
 | true =>
  rw [h1] at ca
  cases h2 : isName s with
  | false => rw [h2] at cs; exact ln_s w (Lib.hid ca) (Lib.hid cs)
  | true => rw [h2] at cs; exact ln_q w (Lib.hid ca) (Lib.hid cs) (Lib.hid cm)
end Go.Proofs.YtagfndkfjbbpjaaGreatDoor
/- Rows of lines in memory; whether they are small. -/
namespace Go.Proofs.YtagfndkfjbbpjaaGreatDoor
open Go.RowKit
set_option linter.unusedSimpArgs false
set_option linter.unusedVariables false
def Lns (w : World) (p : Option Addr) (ls : List Ln) : Prop := ∀ (j : Nat) (x : Ln), ls[j]? = some x → ∃ b o, p = some ⟨b, o, none⟩ ∧ b < w.heap.size ∧
 w.cell? ⟨b, o + j * 4, none⟩ = some (.string ⟨x.1.1.toArray⟩) ∧ w.cell? ⟨b, o + j * 4 + 1, none⟩ = some (.string ⟨x.1.2.toArray⟩) ∧
 w.cell? ⟨b, o + j * 4 + 2, none⟩ = some (.string ⟨x.2.1.toArray⟩) ∧ w.cell? ⟨b, o + j * 4 + 3, none⟩ = some (.string ⟨x.2.2.toArray⟩)
theorem Lns.below {w w' : World} {p : Option Addr} {ls : List Ln} (h : Lns w p ls) (hb : Below w.heap.size w w') : Lns w' p ls := fun j x hx => by
 obtain ⟨b, o, hp, hl, c0, c1, c2, c3⟩ := h j x hx
 exact ⟨b, o, hp, Nat.lt_of_lt_of_le hl hb.size, (hb.cell (p := ⟨b, _, none⟩) hl).trans c0, (hb.cell (p := ⟨b, _, none⟩) hl).trans c1, (hb.cell (p := ⟨b, _, none⟩) hl).trans c2, (hb.cell (p := ⟨b, _, none⟩) hl).trans c3⟩
theorem Lns.rule {w : World} {p : Option Addr} {ls : List Ln} (h : Lns w p ls) {k : Nat} {a s n d : List UInt8} (hx : ls[k]? = some ((a, s), (n, d))) : ∃ b o, p = some ⟨b, o, none⟩ ∧
  (∀ v, Below w.heap.size w v → v.cell? ⟨b, o + k * 4, none⟩ = some (.string ⟨a.toArray⟩)) ∧ (∀ v, Below w.heap.size w v → v.cell? ⟨b, o + k * 4 + 1, none⟩ = some (.string ⟨s.toArray⟩)) ∧
  (∀ v, Below w.heap.size w v → v.cell? ⟨b, o + k * 4 + 2, none⟩ = some (.string ⟨n.toArray⟩)) ∧ (∀ v, Below w.heap.size w v → v.cell? ⟨b, o + k * 4 + 3, none⟩ = some (.string ⟨d.toArray⟩)) := by
 obtain ⟨b, o, hp, hl, c0, c1, c2, c3⟩ := h k _ hx
 exact ⟨b, o, hp, fun v hb => (hb.cell (p := ⟨b, _, none⟩) hl).trans c0, fun v hb => (hb.cell (p := ⟨b, _, none⟩) hl).trans c1, fun v hb => (hb.cell (p := ⟨b, _, none⟩) hl).trans c2, fun v hb => (hb.cell (p := ⟨b, _, none⟩) hl).trans c3⟩
theorem more {ls : List Ln} {P : Ln → Prop} {k : Nat} {z : Ln} (h : ∀ (j : Nat) (x : Ln), j < k → ls[j]? = some x → P x) (hz : ls[k]? = some z) (hp : P z) : ∀ (j : Nat) (x : Ln), j < k + 1 → ls[j]? = some x → P x := fun j x hj hx => by
 by_cases e : j = k
 ·subst e
  rw [hz] at hx
  exact Option.some.inj hx ▸ hp
 ·exact h j x (by omega) hx
theorem Lns.nil (w : World) (p : Option Addr) : Lns w p [] := fun j x h => by cases h
def shL (x : Ln) : Bool := (decide (x.2.1.length ≤ 100) && decide (x.2.2.length ≤ 100)) && (decide (x.1.1.length ≤ 100) && decide (x.1.2.length ≤ 100))
def smB (ls : List Ln) : Bool := (List.range ls.length).all (fun j => match ls[j]? with | some x => shL x | none => true) && decide (ls.length ≤ 40)
theorem smB_iff {ls : List Ln} : smB ls = true ↔ (∀ x ∈ ls, shL x = true) ∧ ls.length ≤ 40 := by
 unfold smB
 rw [Bool.and_eq_true, List.all_eq_true, decide_eq_true_eq]
 refine and_congr ⟨fun h x hx => ?_, fun h j hj => ?_⟩ Iff.rfl
 ·obtain ⟨j, hj, rfl⟩ := List.getElem_of_mem hx
  have := h j (List.mem_range.2 hj)
  rw [List.getElem?_eq_getElem hj] at this
  exact this
 ·have hj := List.mem_range.1 hj
  rw [List.getElem?_eq_getElem hj]
  exact h _ (List.getElem_mem hj)
theorem smB_stop {ls : List Ln} {k : Nat} {x : Ln} (hx : ls[k]? = some x) (h : shL x = false) : smB ls = false := by
 cases e : smB ls with
 | false => rfl
 | true =>
  have := (smB_iff.1 e).1 x (List.mem_of_getElem? hx)
  rw [h] at this; cases this
theorem smB_end {ls : List Ln} (h : ∀ (j : Nat) (x : Ln), ls[j]? = some x → shL x = true) : smB ls = decide (ls.length ≤ 40) := by
 cases e : decide (ls.length ≤ 40) with
 | true => exact smB_iff.2 ⟨fun x hx => by
   obtain ⟨j, hj, rfl⟩ := List.getElem_of_mem hx
   exact h j _ (List.getElem?_eq_getElem hj), of_decide_eq_true e⟩
 | false => unfold smB; rw [e, Bool.and_false]
set_option maxRecDepth 100000 in
set_option maxHeartbeats 4000000 in
theorem rbsmall_any (p : Option Addr) (c : Nat) (ls : List Ln) (w : World) (hc : ls.length ≤ c) (hl : ls.length ≤ 4611686018427387904) (h : Lns w p ls) :
  Calls Tryz.prog 8 #[.slice p ls.length c] w (GiveB w (smB ls)) := by
 have HS := Lib.hid h; clear h
 go_enter Tryz.func8, Tryz.ntmps8
 go_wp2
 go_loopw [3] (fun i wr => ∃ k : Nat, k ≤ ls.length ∧ i = .int .i64 k ∧ Hid (∀ j x, j < k → ls[j]? = some x → shL x = true) ∧ Below w.heap.size w wr) (fun i _ => ls.length - (intOf i).toNat)
 case atStart => exact ⟨0, Nat.zero_le _, rfl, fun j x h => absurd h (Nat.not_lt_zero j), Below.refl _ _⟩
 case round =>
  obtain ⟨k, hk, rfl, HJ, hw⟩ := hrel
  by_cases hlt : k < ls.length
  ·obtain ⟨⟨⟨a, s⟩, ⟨n, d⟩⟩, hx⟩ : ∃ x, ls[k]? = some x := ⟨_, List.getElem?_eq_getElem hlt⟩
   obtain ⟨b, o, rfl, k0, k1, k2, k3⟩ := (HS.out.below hw).rule hx
   have HX := Lib.hid hx; have HW := Lib.hid hw
   clear hx hw
   have b0 := Below.refl wr.heap.size wr
   have cs := fun w => short1q w (⟨n.toArray⟩, ⟨d.toArray⟩)
   cases hq : shQ ((⟨n.toArray⟩, ⟨d.toArray⟩) : ByteArray × ByteArray) with
   | false =>
    rw [hq] at cs
    have hq' : (decide (n.length ≤ 100) && decide (d.length ≤ 100)) = false := by rw [← hq]; unfold shQ; rw [size_of, size_of]
    have HO : Hid (smB ls = false) := Lib.hid (smB_stop HX.out (by unfold shL; show (_ && _) = false; rw [hq', Bool.false_and]))
    clear hq
    have CS := Lib.hid cs; clear cs
    go_wp2_with fail
    refine (CS.out _).mono ?_
    rintro e w1 ⟨rfl, b⟩
    have b1 := Below.more b0 b
    clear b
    go_wp2_with fail
    go_ret
    exact ⟨ret_bool (by rw [HO.out]), Below.more HW.out b1⟩
   | true =>
    rw [hq] at cs
    have hq' : (decide (n.length ≤ 100) && decide (d.length ≤ 100)) = true := by rw [← hq]; unfold shQ; rw [size_of, size_of]
    by_cases h1 : (100 : Int) < (a.length : Int)
    ·have HO : Hid (smB ls = false) := Lib.hid (smB_stop HX.out (by unfold shL; show (_ && (decide (a.length ≤ 100) && _)) = false; rw [decide_eq_false (show ¬ a.length ≤ 100 by omega), Bool.false_and, Bool.and_false]))
     have CS := Lib.hid cs; clear cs
     go_wp2_with fail
     refine (CS.out _).mono ?_
     rintro e w1 ⟨rfl, b⟩
     have b1 := Below.more b0 b
     clear b
     go_wp2_with fail
     go_ret
     exact ⟨ret_bool (by rw [HO.out]), Below.more HW.out b1⟩
    ·by_cases h2 : (100 : Int) < (s.length : Int)
     ·have HO : Hid (smB ls = false) := Lib.hid (smB_stop HX.out (by unfold shL; show (_ && (_ && decide (s.length ≤ 100))) = false; rw [decide_eq_false (show ¬ s.length ≤ 100 by omega), Bool.and_false, Bool.and_false]))
      have CS := Lib.hid cs; clear cs
      go_wp2_with fail
      refine (CS.out _).mono ?_
      rintro e w1 ⟨rfl, b⟩
      have b1 := Below.more b0 b
      clear b
      go_wp2_with fail
      go_ret
      exact ⟨ret_bool (by rw [HO.out]), Below.more HW.out b1⟩
     ·have HO : Hid (shL ((a, s), (n, d)) = true) := Lib.hid (by
       show ((decide (n.length ≤ 100) && decide (d.length ≤ 100)) && (decide (a.length ≤ 100) && decide (s.length ≤ 100))) = true
       rw [hq', decide_eq_true (show a.length ≤ 100 by omega), decide_eq_true (show s.length ≤ 100 by omega)]; rfl)
      clear hq hq'
      have CS := Lib.hid cs; clear cs
      go_wp2_with fail
      refine (CS.out _).mono ?_
      rintro e w1 ⟨rfl, b⟩
      have b1 := Below.more b0 b
      clear b
      go_wp2_with fail
      go_roundw
      case rel => exact ⟨k + 1, hlt, by go_num, more HJ.out HX.out HO.out, Below.more HW.out b1⟩
      case measure => simp [intOf]; omega
  ·obtain rfl : k = ls.length := by omega
   have hr := smB_end fun j x hx => HJ.out j x (List.getElem?_eq_some_iff.1 hx).1 hx
   have HR := Lib.hid hr; have HW := Lib.hid hw; clear hr hw
   by_cases h40 : (ls.length : Int) ≤ 40
   ·have HD : Hid (decide (ls.length ≤ 40) = true) := Lib.hid (decide_eq_true (by omega))
    go_wp2
    go_ret
    exact ⟨ret_bool (by rw [HR.out, HD.out]), HW.out⟩
   ·have HD : Hid (decide (ls.length ≤ 40) = false) := Lib.hid (decide_eq_false (by omega))
    go_wp2
    go_ret
    exact ⟨ret_bool (by rw [HR.out, HD.out]), HW.out⟩
end Go.Proofs.YtagfndkfjbbpjaaGreatDoor

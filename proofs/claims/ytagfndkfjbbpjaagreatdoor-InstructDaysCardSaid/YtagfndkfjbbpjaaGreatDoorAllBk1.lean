/- The program's names and the order of its lines: to plain functions. -/
import Derived.Laws.IdiomStrings
import Derived.Test.YtagfndkfjbbpjaaGreatDoorAllRefB2
import Derived.Test.YtagfndkfjbbpjaaGreatDoorPostNum
namespace Go.Proofs.YtagfndkfjbbpjaaGreatDoor
open Go.RowKit
set_option linter.unusedSimpArgs false
set_option linter.unusedVariables false
theorem mark_any (s : ByteArray) (w : World) : Calls Tryz.prog 99 #[.string s, .string ⟨#[33]⟩] w fun e w' => e = .returned (.string ⟨(noMark s.data.toList).toArray⟩) ∧ w = w' := by
 have k := Tryz.strings_TrimPrefix s ⟨#[33]⟩ w
 rw [show (⟨#[33]⟩ : ByteArray).data.toList = [33] from rfl, trim_mark] at k
 exact k.mono fun e w' ⟨h1, h2⟩ => ⟨h1, h2.symm⟩
theorem scmp_any (a b : List UInt8) (w : World) : Calls Tryz.prog 85 #[.string ⟨a.toArray⟩, .string ⟨b.toArray⟩] w (GiveI w (Lib.compareBytes a b)) :=
 (Tryz.strings_Compare ⟨a.toArray⟩ ⟨b.toArray⟩ w).mono fun e w' ⟨h1, h2⟩ => ⟨h1, h2 ▸ Below.refl _ _⟩
theorem nameC_iff {c : UInt8} : nameC c = true ↔ ((97 ≤ c.toNat ∧ c.toNat ≤ 122) ∨ (48 ≤ c.toNat ∧ c.toNat ≤ 57)) := by
 unfold nameC
 simp only [Bool.or_eq_true, Bool.and_eq_true, decide_eq_true_eq]
theorem all_more {l : List UInt8} {k : Nat} (hk : k < l.length) (h : (l.take k).all nameC = true) (ho : nameC (gb l k) = true) : (l.take (k + 1)).all nameC = true := by
 have e : gb l k = l[k] := by unfold gb; rw [List.getElem?_eq_getElem hk]; rfl
 rw [List.take_add_one, List.getElem?_eq_getElem hk, List.all_append, h]
 rw [e] at ho
 show (true && (nameC l[k] && true)) = true
 rw [ho]; rfl
theorem all_stop {l : List UInt8} {k : Nat} (hk : k < l.length) (ho : nameC (gb l k) = false) : l.all nameC = false := by
 have e : gb l k = l[k] := by unfold gb; rw [List.getElem?_eq_getElem hk]; rfl
 rw [e] at ho
 exact List.all_eq_false.2 ⟨l[k], List.getElem_mem hk, by rw [ho]; decide⟩
theorem nameC_no {c : UInt8} (h : ¬ ((97 ≤ c.toNat ∧ c.toNat ≤ 122) ∨ (48 ≤ c.toNat ∧ c.toNat ≤ 57))) : nameC c = false := by
 cases e : nameC c with
 | false => rfl
 | true => exact absurd (nameC_iff.1 e) h
set_option maxRecDepth 100000 in
set_option maxHeartbeats 2000000 in
theorem bname_any (s : ByteArray) (w : World) :
  Calls Tryz.prog 70 #[.string s] w (GiveB w (isName s.data.toList)) := by
 have hsl := size_toList s
 by_cases h0 : s.size = 0
 ·have he : s.toList.isEmpty = true := by rw [toList_empty]; simpa using h0
  have HO : Hid (isName s.data.toList = false) := Lib.hid (by unfold isName; rw [hsl, h0]; simp)
  clear h0 hsl
  go_enter Tryz.func70, Tryz.ntmps70
  go_wp2_with fail
  go_ret
  exact ⟨ret_bool (by rw [HO.out]), Below.refl _ _⟩
 ·have he : s.toList.isEmpty = false := by rw [toList_empty]; simpa using h0
  by_cases h20 : (20 : Int) < (s.size : Int)
  ·have HO : Hid (isName s.data.toList = false) := Lib.hid (by unfold isName; rw [hsl, decide_eq_false (show ¬ s.size ≤ 20 by omega), Bool.and_false, Bool.and_false])
   clear h0 hsl
   go_enter Tryz.func70, Tryz.ntmps70
   go_wp2_with fail
   go_ret
   exact ⟨ret_bool (by rw [HO.out]), Below.refl _ _⟩
  ·have HR : Hid (isName s.data.toList = (noMark s.data.toList).all nameC) := Lib.hid (by rw [name_mark, hsl, decide_eq_true (show s.size ≤ 20 by omega), decide_eq_true (show 1 ≤ s.size by omega)]; simp)
   have ht := noMark_len s.data.toList
   rw [hsl] at ht
   have ct := fun w => mark_any s w
   generalize noMark s.data.toList = t at *
   have ht2 : t.length ≤ 20 := by omega
   have hcv := fun w s => run_bytes_of_string (P := Tryz.prog) w 9 90 5 s Tryz.underlying9 Tryz.underlying90 Tryz.underlying5
   clear h0 hsl ht
   go_enter Tryz.func70, Tryz.ntmps70
   go_wp2_with fail
   refine (ct _).mono ?_
   rintro e w' ⟨rfl, rfl⟩
   go_wp2_with fail
   generalize grownCap w t.length 0 5 = cap
   obtain ⟨Wc, hWc⟩ : ∃ Wc, (w.alloc (.cells (bytesRow ⟨t.toArray⟩ cap) 5 ((bytesRow ⟨t.toArray⟩ cap).size, (bytesRow ⟨t.toArray⟩ cap).size + 1))).drew = Wc := ⟨_, rfl⟩
   rw [hWc]
   have hby : ∀ j, j < t.length → Wc.cell? ⟨w.heap.size, j, none⟩ = some (.int .u8 ((gb t j).toNat : Int)) := fun j hj => by
    rw [← hWc]; exact bytes_new w ⟨t.toArray⟩ cap _ _ j (by rw [size_of]; exact hj)
   have BW : Below w.heap.size w Wc := by rw [← hWc]; exact ((Below.refl _ w).alloc (Nat.le_refl _) _).drew
   clear hWc hcv ct
   go_loop [16] (fun i => ∃ k : Nat, k ≤ t.length ∧ i = .int .i64 k ∧ Hid ((t.take k).all nameC = true)) (fun i => t.length - (intOf i).toNat)
   case atStart => exact ⟨0, Nat.zero_le _, rfl, rfl⟩
   case round =>
    obtain ⟨k, hk, rfl, HJ⟩ := hrel
    by_cases hlt : k < t.length
    ·have hb := hby k hlt
     by_cases a1 : ((gb t k).toNat : Int) < 97
     ·by_cases a2 : ((gb t k).toNat : Int) < 48
      ·have HO : Hid (t.all nameC = false) := Lib.hid (all_stop hlt (nameC_no (by omega)))
       go_wp2
       go_ret
       exact ⟨ret_bool (by rw [HR.out, HO.out]), BW⟩
      ·by_cases a3 : 57 < ((gb t k).toNat : Int)
       ·have HO : Hid (t.all nameC = false) := Lib.hid (all_stop hlt (nameC_no (by omega)))
        go_wp2
        go_ret
        exact ⟨ret_bool (by rw [HR.out, HO.out]), BW⟩
       ·have HO : Hid (nameC (gb t k) = true) := Lib.hid (nameC_iff.2 (by omega))
        go_wp2
        go_round
        case rel => exact ⟨k + 1, hlt, by go_num, all_more hlt HJ.out HO.out⟩
        case measure => simp [intOf]; omega
     ·by_cases a2 : 122 < ((gb t k).toNat : Int)
      ·have f1 : ¬ ((gb t k).toNat : Int) < 48 := by omega
       have f2 : 57 < ((gb t k).toNat : Int) := by omega
       have HO : Hid (t.all nameC = false) := Lib.hid (all_stop hlt (nameC_no (by omega)))
       go_wp2
       go_ret
       exact ⟨ret_bool (by rw [HR.out, HO.out]), BW⟩
      ·have HO : Hid (nameC (gb t k) = true) := Lib.hid (nameC_iff.2 (by omega))
       go_wp2
       go_round
       case rel => exact ⟨k + 1, hlt, by go_num, all_more hlt HJ.out HO.out⟩
       case measure => simp [intOf]; omega
    ·obtain rfl : k = t.length := by omega
     have HO : Hid (t.all nameC = true) := Lib.hid (by have := HJ.out; rw [List.take_length] at this; exact this)
     go_wp2
     go_ret
     exact ⟨ret_bool (by rw [HR.out, HO.out]), BW⟩
set_option maxRecDepth 100000 in
set_option maxHeartbeats 2000000 in
theorem bnamed_any (a s n d : List UInt8) (w : World) :
  Calls Tryz.prog 57 #[.agg #[.string ⟨a.toArray⟩, .string ⟨s.toArray⟩, .string ⟨n.toArray⟩, .string ⟨d.toArray⟩]] w (GiveB w (isName a && isName s)) := by
 have c1 : ∀ w, Calls Tryz.prog 70 #[.string ⟨a.toArray⟩] w (GiveB w (isName a)) := fun w => bname_any ⟨a.toArray⟩ w
 have c2 : ∀ w, Calls Tryz.prog 70 #[.string ⟨s.toArray⟩] w (GiveB w (isName s)) := fun w => bname_any ⟨s.toArray⟩ w
 generalize isName a = x at *
 generalize isName s = y at *
 have C1 := Lib.hid c1; have C2 := Lib.hid c2; clear c1 c2
 cases x with
 | false =>
  go_enter Tryz.func57, Tryz.ntmps57
  go_wp2_with fail
  obtain ⟨U, hU, bU, s1, r0, r1, r2, r3⟩ := lay4 (Below.refl w.heap.size w) (.string ⟨a.toArray⟩) (.string ⟨s.toArray⟩) (.string ⟨n.toArray⟩) (.string ⟨d.toArray⟩) 46
  rw [hU]; clear hU
  have b0 := Below.refl U.heap.size U
  go_wp2_with fail
  refine (C1.out _).mono ?_
  rintro e w1 ⟨rfl, b⟩
  have b1 := Below.more b0 b
  clear b
  go_wp2_with fail
  go_ret
  exact ⟨rfl, Below.more bU b1⟩
 | true =>
  go_enter Tryz.func57, Tryz.ntmps57
  go_wp2_with fail
  obtain ⟨U, hU, bU, s1, r0, r1, r2, r3⟩ := lay4 (Below.refl w.heap.size w) (.string ⟨a.toArray⟩) (.string ⟨s.toArray⟩) (.string ⟨n.toArray⟩) (.string ⟨d.toArray⟩) 46
  rw [hU]; clear hU
  have b0 := Below.refl U.heap.size U
  go_wp2_with fail
  refine (C1.out _).mono ?_
  rintro e w1 ⟨rfl, b⟩
  have b1 := Below.more b0 b
  clear b
  go_wp2_with fail
  refine (C2.out _).mono ?_
  rintro e w2 ⟨rfl, b⟩
  have b2 := Below.more b1 b
  clear b
  go_wp2_with fail
  go_ret
  exact ⟨rfl, Below.more bU b2⟩
set_option maxRecDepth 100000 in
set_option maxHeartbeats 2000000 in
theorem or_any (b : Nat) (x y : Int) (w : World) (h0 : w.cell? ⟨b, 0, none⟩ = some (.int .i64 x)) (h1 : w.cell? ⟨b, 1, none⟩ = some (.int .i64 y)) :
  Calls Tryz.prog 84 #[.slice (some ⟨b, 0, none⟩) 2 2] w (GiveI w (orZ x y)) := by
 go_enter Tryz.func84, Tryz.ntmps84
 go_wp2
 go_loop [8] (fun i => ∃ k : Nat, i = .int .i64 k ∧ (k = 0 ∨ (k = 1 ∧ x = 0) ∨ (k = 2 ∧ (x = 0 ∧ y = 0)))) (fun i => 2 - (intOf i).toNat)
 case atStart => exact ⟨0, rfl, .inl rfl⟩
 case round =>
  obtain ⟨k, rfl, hk⟩ := hrel
  rcases hk with rfl | ⟨rfl, hx⟩ | ⟨rfl, hx, hy⟩
  ·by_cases hx : x = 0
   ·go_wp2
    go_round
    case rel => exact ⟨1, by go_num, .inr (.inl ⟨rfl, hx⟩)⟩
    case measure => simp [intOf]
   ·have HO : Hid (orZ x y = x) := Lib.hid (orZ_left hx)
    go_wp2
    go_ret
    exact ⟨ret_int (by first | rw [HO.out] | exact (orZ_right _).symm | rfl), Below.refl _ _⟩
  ·have HO : Hid (orZ x y = y) := Lib.hid (by rw [hx]; exact orZ_right y)
   by_cases hy : y = 0
   ·go_wp2
    go_round
    case rel => exact ⟨2, by go_num, .inr (.inr ⟨rfl, hx, hy⟩)⟩
    case measure => simp [intOf]
   ·go_wp2
    go_ret
    exact ⟨ret_int (by first | rw [HO.out] | exact (orZ_right _).symm | rfl), Below.refl _ _⟩
  ·have HO : Hid (orZ x y = 0) := Lib.hid (by rw [hx, hy]; rfl)
   go_wp2
   go_ret
   exact ⟨ret_int (by first | rw [HO.out] | exact (orZ_right _).symm | rfl), Below.refl _ _⟩
theorem or_new (w : World) (x y : Int) (t : TypeId) : Calls Tryz.prog 84 #[.slice (some ⟨w.heap.size, 0, none⟩) 2 2] (w.alloc (.cells #[.int .i64 x, .int .i64 y] t)) (GiveI (w.alloc (.cells #[.int .i64 x, .int .i64 y] t)) (orZ x y)) :=
 or_any _ x y _ (cell_new _ _ _ _ rfl 0) (cell_new _ _ _ _ rfl 1)
set_option maxRecDepth 100000 in
set_option maxHeartbeats 4000000 in
theorem border_any (a s n d c t m e : List UInt8) (w : World) :
  Calls Tryz.prog 58 #[.agg #[.string ⟨a.toArray⟩, .string ⟨s.toArray⟩, .string ⟨n.toArray⟩, .string ⟨d.toArray⟩], .agg #[.string ⟨c.toArray⟩, .string ⟨t.toArray⟩, .string ⟨m.toArray⟩, .string ⟨e.toArray⟩]] w (GiveI w (ordK (a, s) (c, t))) := by
 have c1 := fun w => scmp_any a c w
 have c2 := fun w => scmp_any s t w
 have HO : Hid (ordK (a, s) (c, t) = orZ (Lib.compareBytes a c) (Lib.compareBytes s t)) := Lib.hid rfl
 generalize ordK (a, s) (c, t) = o at *
 generalize Lib.compareBytes a c = x at *
 generalize Lib.compareBytes s t = y at *
 have C1 := Lib.hid c1; have C2 := Lib.hid c2; clear c1 c2
 go_enter Tryz.func58, Tryz.ntmps58
 go_wp2_with fail
 obtain ⟨U1, hU, bU, s1, rx0, rx1, rx2, rx3⟩ := lay4 (Below.refl w.heap.size w) (.string ⟨a.toArray⟩) (.string ⟨s.toArray⟩) (.string ⟨n.toArray⟩) (.string ⟨d.toArray⟩) 46
 rw [hU]; clear hU
 obtain ⟨U2, hU, bV, s2, ry0, ry1, ry2, ry3⟩ := lay4 (Below.refl U1.heap.size U1) (.string ⟨c.toArray⟩) (.string ⟨t.toArray⟩) (.string ⟨m.toArray⟩) (.string ⟨e.toArray⟩) 46
 rw [hU]; clear hU
 replace rx0 := fun v (h : Below U2.heap.size U2 v) => rx0 v (Below.more bV h)
 replace rx1 := fun v (h : Below U2.heap.size U2 v) => rx1 v (Below.more bV h)
 rw [← s1] at ry0 ry1
 have BW := Below.more bU bV
 have b0 := Below.refl U2.heap.size U2
 have hB := Lib.hid (Nat.le_refl U2.heap.size)
 clear bU bV rx2 rx3 ry2 ry3 s1 s2
 first | (go_region_held3 (fun w' => Below U2.heap.size U2 w')
    (first | (exact b0.drew) | (with_reducible assumption) | (exact Below.alloc (by with_reducible assumption) (Nat.le_trans hB.out (Below.size (by with_reducible assumption))) _) | (exact put2 (by with_reducible assumption) (Nat.le_refl _) _ _) | (exact put2 (by with_reducible assumption) hB.out _ _) | (exact put2 (by with_reducible assumption) (Nat.le_trans hB.out (Below.size (by with_reducible assumption))) _ _))
    (first | (go_at_call 85; (with_reducible show Calls _ _ #[.string ⟨a.toArray⟩, .string ⟨c.toArray⟩] _ _); (with_reducible refine (held (W := U2) hB.out (C1.out _) (by assumption)).mono ?_); rintro e w'' ⟨rfl, hb, hw⟩; (first | (have hz := zc_made0 hb) | (have hz := zc_made hb) | skip); (try have hz := Zc.below (by assumption) hb); (try (have z0 := hz.c0; have z1 := hz.c1; have z2 := hz.f0; have z3 := hz.f1))) | (go_at_call 85; (with_reducible show Calls _ _ #[.string ⟨s.toArray⟩, .string ⟨t.toArray⟩] _ _); (with_reducible refine (held (W := U2) hB.out (C2.out _) (by assumption)).mono ?_); rintro e w'' ⟨rfl, hb, hw⟩; (first | (have hz := zc_made0 hb) | (have hz := zc_made hb) | skip); (try have hz := Zc.below (by assumption) hb); (try (have z0 := hz.c0; have z1 := hz.c1; have z2 := hz.f0; have z3 := hz.f1))) | (go_at_call 84; (with_reducible refine (held (W := U2) hB.out (or_new _ _ _ _) (by assumption)).mono ?_); rintro e w'' ⟨rfl, hb, hw⟩; (first | (have hz := zc_made0 hb) | (have hz := zc_made hb) | skip); (try have hz := Zc.below (by assumption) hb); (try (have z0 := hz.c0; have z1 := hz.c1; have z2 := hz.f0; have z3 := hz.f1))))) | fail
 all_goals (go_wp2_with fail)
 all_goals go_ret
 all_goals (exact ⟨ret_int (by rw [HO.out]), Below.more BW (by with_reducible assumption)⟩)
end Go.Proofs.YtagfndkfjbbpjaaGreatDoor

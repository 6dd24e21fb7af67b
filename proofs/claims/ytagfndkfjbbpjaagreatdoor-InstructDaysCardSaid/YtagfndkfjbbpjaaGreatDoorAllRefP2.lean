/- The document's Apply. -/
import Derived.Test.YtagfndkfjbbpjaaGreatDoorAllRefB6
import Derived.Test.YtagfndkfjbbpjaaGreatDoorAllRefP
namespace Go.Proofs.YtagfndkfjbbpjaaGreatDoor
open Go.RowKit
set_option linter.unusedSimpArgs false
set_option linter.unusedVariables false
def GiveLE (w : World) (r : List Ln × Int) (e : Ending) (w' : World) : Prop := (∃ p c, e = .returned (.tuple #[.slice p r.1.length c, .int .i64 r.2]) ∧ r.1.length ≤ c ∧ Lns w' p r.1) ∧ Below w.heap.size w w'
def NewR (w : World) (p : Option Addr) (ls : List Ln) (r : Option Addr) (out : List Ln) : Prop := (r = p ∧ out = ls) ∨ ∀ a, r = some a → w.heap.size ≤ a.block
theorem newR_none (w : World) (p : Option Addr) (ls out : List Ln) : NewR w p ls none out := .inr fun _ h => by cases h
def GiveLEF (w : World) (p0 : Option Addr) (ls0 : List Ln) (r : List Ln × Int) (e : Ending) (w' : World) : Prop := (∃ p c, e = .returned (.tuple #[.slice p r.1.length c, .int .i64 r.2]) ∧ r.1.length ≤ c ∧ Lns w' p r.1 ∧ NewR w p0 ls0 p r.1) ∧ Below w.heap.size w w'
theorem GiveLEF.old {w : World} {p0 : Option Addr} {ls0 : List Ln} {r : List Ln × Int} {e : Ending} {w' : World} (h : GiveLEF w p0 ls0 r e w') : GiveLE w r e w' := by
 obtain ⟨⟨p, c, he, hc, hl, _⟩, hb⟩ := h
 exact ⟨⟨p, c, he, hc, hl⟩, hb⟩
theorem giveLEF_no {w w' : World} {p0 : Option Addr} {ls0 : List Ln} {e : Int} (hb : Below w.heap.size w w') : GiveLEF w p0 ls0 ([], e) (.returned (.tuple #[.slice none 0 0, .int .i64 e])) w' := ⟨⟨none, 0, rfl, Nat.le_refl _, Lns.nil _ _, newR_none w p0 ls0 []⟩, hb⟩
theorem none_more {P : Nat → Bool} {k : Nat} (h : ∀ j, j < k → P j = false) (hp : P k = false) : ∀ j, j < k + 1 → P j = false := fun j hj => by
 by_cases e : j = k
 ·exact e ▸ hp
 ·exact h j (by omega)
set_option maxRecDepth 100000 in
set_option maxHeartbeats 4000000 in
theorem rpa_may (p : Option Addr) (c : Nat) (ls : List Ln) (q : Option Addr) (d : Nat) (ms : List Ln) (cov : Bool) (w : World)
  (CM : Hid (∀ V, Below w.heap.size w V → Calls Tryz.prog 22 #[.slice p ls.length c] V (GiveB V false))) :
  Calls Tryz.prog 37 #[.slice p ls.length c, .slice q ms.length d, .bool cov] w (GiveLEF w p ls ([], 1)) := by
 go_enter Tryz.func37, Tryz.ntmps37
 go_wp2_with fail
 have b0 := Below.refl w.heap.size w
 refine (CM.out _ b0).mono ?_
 rintro e w1 ⟨rfl, b⟩
 have b1 := Below.more b0 b
 clear b
 go_wp2_with fail
 go_ret2
 exact giveLEF_no b1
set_option maxRecDepth 100000 in
set_option maxHeartbeats 4000000 in
theorem rpa_bal (p : Option Addr) (c : Nat) (ls : List Ln) (q : Option Addr) (d : Nat) (ms : List Ln) (cov : Bool) (w : World)
  (CM : Hid (∀ V, Below w.heap.size w V → Calls Tryz.prog 22 #[.slice p ls.length c] V (GiveB V true)))
  (CB : Hid (∀ V, Below w.heap.size w V → Calls Tryz.prog 64 #[.slice q ms.length d] V (GiveB V false))) :
  Calls Tryz.prog 37 #[.slice p ls.length c, .slice q ms.length d, .bool cov] w (GiveLEF w p ls ([], 70)) := by
 go_enter Tryz.func37, Tryz.ntmps37
 go_wp2_with fail
 have b0 := Below.refl w.heap.size w
 refine (CM.out _ b0).mono ?_
 rintro e w1 ⟨rfl, b⟩
 have b1 := Below.more b0 b
 clear b
 go_wp2_with fail
 refine (CB.out _ b1).mono ?_
 rintro e w2 ⟨rfl, b⟩
 have b2 := Below.more b1 b
 clear b
 go_wp2_with fail
 go_ret2
 exact giveLEF_no b2
set_option maxRecDepth 100000 in
set_option maxHeartbeats 4000000 in
theorem rpa_main (p : Option Addr) (c : Nat) (ls : List Ln) (q : Option Addr) (d : Nat) (ms : List Ln) (cov : Bool) (w : World) (hc : ls.length ≤ c) (hd : ms.length ≤ d) (hm : ms.length ≤ 1000000) (hL : Lns w p ls) (hM : Lns w q ms) (B : Nat → List Ln) (hB0 : Hid (B 0 = ls)) (now was : Nat → Key) (fr : Nat → Bool) (sg cp : Nat → Int) (R : List Ln × Int)
  (CM : Hid (∀ V, Below w.heap.size w V → Calls Tryz.prog 22 #[.slice p ls.length c] V (GiveB V true)))
  (CB : Hid (∀ V, Below w.heap.size w V → Calls Tryz.prog 64 #[.slice q ms.length d] V (GiveB V true)))
  (CA : Hid (∀ (k : Nat) (x : Ln), ms[k]? = some x → ∀ V r cc, Below w.heap.size w V → (B k).length ≤ cc → Lns V r (B k) → Calls Tryz.prog 23 #[.slice r (B k).length cc, .agg #[.string ⟨x.1.1.toArray⟩, .string ⟨x.1.2.toArray⟩, .string ⟨x.2.1.toArray⟩, .string ⟨x.2.2.toArray⟩]] V (GiveLBF V (B (k + 1), true))))
  (CN : Hid (∀ (k : Nat) (x : Ln), ms[k]? = some x → ∀ V r cc, Below w.heap.size w V → (B ms.length).length ≤ cc → Lns V r (B ms.length) → Calls Tryz.prog 25 #[.slice r (B ms.length).length cc, .string ⟨x.1.1.toArray⟩, .string ⟨x.1.2.toArray⟩] V (GiveR V (now k))))
  (CW : Hid (∀ (k : Nat) (x : Ln), ms[k]? = some x → ∀ V, Below w.heap.size w V → Calls Tryz.prog 25 #[.slice p ls.length c, .string ⟨x.1.1.toArray⟩, .string ⟨x.1.2.toArray⟩] V (GiveR V (was k))))
  (CF : Hid (∀ (k : Nat) (x : Ln), ms[k]? = some x → ∀ V, Calls Tryz.prog 65 #[.string ⟨x.1.1.toArray⟩] V (GiveB V (fr k))))
  (CZ : Hid (∀ (k : Nat) (x : Ln), ms[k]? = some x → ∀ V, Calls Tryz.prog 24 #[.agg #[.string ⟨(now k).1.toArray⟩, .string ⟨(now k).2.toArray⟩]] V (GiveI V (sg k))))
  (CY : Hid (∀ (k : Nat) (x : Ln), ms[k]? = some x → ∀ V, Calls Tryz.prog 66 #[.agg #[.string ⟨(now k).1.toArray⟩, .string ⟨(now k).2.toArray⟩], .agg #[.string ⟨(was k).1.toArray⟩, .string ⟨(was k).2.toArray⟩]] V (GiveI V (cp k))))
  (HY : Hid (cov = true → ∀ k, k < ms.length → fr k = false → sg k < 0 → cp k < 0 → R = ([], 71))) (HN : Hid (cov = false ∨ (∀ k, k < ms.length → (!fr k && (decide (sg k < 0) && decide (cp k < 0))) = false) → R = (B ms.length, 0))) :
  Calls Tryz.prog 37 #[.slice p ls.length c, .slice q ms.length d, .bool cov] w (GiveLEF w p ls R) := by
 have HL := Lib.hid hL; have HM := Lib.hid hM; clear hL hM
 go_enter Tryz.func37, Tryz.ntmps37
 go_wp2_with fail
 have b0 := Below.refl w.heap.size w
 refine (CM.out _ b0).mono ?_
 rintro e w1 ⟨rfl, b⟩
 have b1 := Below.more b0 b
 clear b
 go_wp2_with fail
 refine (CB.out _ b1).mono ?_
 rintro e w2 ⟨rfl, b⟩
 have b2 := Below.more b1 b
 clear b
 have hW0 := Lib.hid b2
 clear b0 b1 b2 CM CB
 go_wp2_with fail
 go_loopw [8, 9] (fun out i wr => ∃ (k : Nat) (r : Option Addr) (cc : Nat), k ≤ ms.length ∧ i = .int .i64 k ∧ out = .slice r (B k).length cc ∧ (B k).length ≤ cc ∧ Lns wr r (B k) ∧ Below w.heap.size w wr ∧ Hid (NewR w p ls r (B k))) (fun _ i _ => ms.length - (intOf i).toNat)
 case atStart => exact ⟨0, p, c, Nat.zero_le _, rfl, by rw [hB0.out], by rw [hB0.out]; exact hc, by rw [hB0.out]; exact HL.out.below hW0.out, hW0.out, Lib.hid (.inl ⟨rfl, hB0.out⟩)⟩
 case round =>
  clear hW0
  obtain ⟨k, r, cc, hk, rfl, rfl, hcc, hR, hw, HNr⟩ := hrel
  by_cases hlt : k < ms.length
  ·obtain ⟨⟨⟨a, s⟩, ⟨n, dd⟩⟩, hx⟩ : ∃ x, ms[k]? = some x := ⟨_, List.getElem?_eq_getElem hlt⟩
   obtain ⟨b, o, rfl, k0, k1, k2, k3⟩ := (HM.out.below hw).rule hx
   have ca := CA.out k _ hx wr r cc hw hcc hR
   dsimp only at ca
   have CAk := Lib.hid ca
   have HW := Lib.hid hw
   have b0 := Below.refl wr.heap.size wr
   clear ca hR hw hx
   go_wp2_with fail
   refine (CAk.out).mono ?_
   rintro e w1 ⟨⟨r', cc', rfl, hcc', hR', hfr⟩, b⟩
   have HNr' : Hid (NewR w p ls r' (B (k + 1))) := Lib.hid (.inr fun a h => Nat.le_trans (Below.size HW.out) (hfr a h))
   have HR := Lib.hid hR'
   have HW1 := Lib.hid (Below.more HW.out b)
   clear b hR' hfr
   dsimp only at hcc' HR
   go_wp2_with fail
   go_roundw
   case rel => exact ⟨k + 1, r', cc', hlt, by go_num, rfl, hcc', HR.out, HW1.out, HNr'⟩
   case measure => simp [intOf]; omega
  ·obtain rfl : k = ms.length := by omega
   have HR := Lib.hid hR
   have hW1 := Lib.hid hw
   clear hR hw CA
   cases cov with
   | false =>
    have HO := Lib.hid (HN.out (.inl rfl))
    clear HN HY
    go_wp2_with fail
    go_loopw [12] (fun i v => i = .int .i64 0 ∧ Below w.heap.size w v ∧ Hid (Lns v r (B ms.length))) (fun i _ => 0)
    case atStart => exact ⟨rfl, hW1.out, HR.out⟩
    case round =>
     obtain ⟨rfl, hw, HR2⟩ := hrel
     have HW := Lib.hid hw
     clear hw hW1
     by_cases h0 : (0 : Int) < (ms.length : Int)
     ·go_wp2_with fail
      go_ret2
      rw [HO.out]
      exact ⟨⟨r, cc, rfl, hcc, HR2.out, HNr.out⟩, HW.out⟩
     ·go_wp2_with fail
      go_ret2
      rw [HO.out]
      exact ⟨⟨r, cc, rfl, hcc, HR2.out, HNr.out⟩, HW.out⟩
   | true =>
    have HYT := Lib.hid (HY.out rfl)
    clear HY
    go_wp2_with fail
    go_loopw [12] (fun i v => ∃ j : Nat, j ≤ ms.length ∧ i = .int .i64 j ∧ Hid (∀ t, t < j → (!fr t && (decide (sg t < 0) && decide (cp t < 0))) = false) ∧ Below w.heap.size w v ∧ Hid (Lns v r (B ms.length))) (fun i _ => ms.length - (intOf i).toNat)
    case atStart => exact ⟨0, Nat.zero_le _, rfl, fun t h => absurd h (Nat.not_lt_zero t), hW1.out, HR.out⟩
    case round =>
     obtain ⟨j, hj, rfl, HJ, hw, HR2⟩ := hrel
     clear hW1 HR
     by_cases hlt : j < ms.length
     ·obtain ⟨⟨⟨a, s⟩, ⟨n, dd⟩⟩, hx⟩ : ∃ x, ms[j]? = some x := ⟨_, List.getElem?_eq_getElem hlt⟩
      obtain ⟨b, o, rfl, k0, k1, k2, k3⟩ := (HM.out.below hw).rule hx
      have cn := fun V (hv : Below wr.heap.size wr V) => CN.out j _ hx V r cc (Below.more hw hv) hcc (HR2.out.below hv)
      have cw := fun V (hv : Below wr.heap.size wr V) => CW.out j _ hx V (Below.more hw hv)
      have cf := CF.out j _ hx
      have cz := CZ.out j _ hx
      have cy := CY.out j _ hx
      have hf : fr j = true ∨ ¬ sg j < 0 ∨ ¬ cp j < 0 → (!fr j && (decide (sg j < 0) && decide (cp j < 0))) = false := fun h => by
       rcases h with h | h | h
       ·rw [h]; rfl
       ·rw [decide_eq_false h, Bool.false_and, Bool.and_false]
       ·rw [decide_eq_false h, Bool.and_false, Bool.and_false]
      have hs := HYT.out j hlt
      dsimp only at cn cw cf
      have HW := Lib.hid hw
      have hLr := HR2
      have b0 := Below.refl wr.heap.size wr
      have hB := Lib.hid (Nat.le_refl wr.heap.size)
      clear hw hx k2 k3
      have HF0 := Lib.hid hf; have HS0 := Lib.hid hs
      clear hf hs
      have hkeep : ∃ g k f z y, now j = g ∧ was j = k ∧ fr j = f ∧ sg j = z ∧ cp j = y := ⟨_, _, _, _, _, rfl, rfl, rfl, rfl, rfl⟩
      obtain ⟨g, k, f, z, y, hg, hk2, hff, hzz, hyy⟩ := hkeep
      rw [hg] at cn cz cy
      rw [hk2] at cw cy
      rw [hff] at cf
      rw [hzz] at cz
      rw [hyy] at cy
      have HF : Hid (f = true ∨ ¬ z < 0 ∨ ¬ y < 0 → (!fr j && (decide (sg j < 0) && decide (cp j < 0))) = false) := Lib.hid (by rw [← hff, ← hzz, ← hyy]; exact HF0.out)
      have HS2 : Hid (f = false → z < 0 → y < 0 → R = ([], 71)) := Lib.hid (by rw [← hff, ← hzz, ← hyy]; exact HS0.out)
      clear HF0 HS0 hg hk2 hff hzz hyy
      have CN1 := Lib.hid cn; have CW1 := Lib.hid cw; have CF1 := Lib.hid cf; have CZ1 := Lib.hid cz; have CY1 := Lib.hid cy
      clear cn cw cf cz cy
      go_upto_region 14 with fail
      go_cut [13, 14] from 47 to 71 (fun t13 t14 wx => (∃ p q, t13 = .pointer (some ⟨p, 0, none⟩) ∧ t14 = .pointer (some ⟨q, 0, none⟩) ∧ Zc p (.string ⟨g.1.toArray⟩) (.string ⟨g.2.toArray⟩) wx ∧ Zc q (.string ⟨k.1.toArray⟩) (.string ⟨k.2.toArray⟩) wx) ∧ Below wr.heap.size wr wx)
      case first =>
       first | (go_region_held3 (fun w' => Below wr.heap.size wr w')
         (repeat' (first | (with_reducible assumption) | (with_reducible refine Below.drew ?_) | (with_reducible refine up_alloc ?_ _) | (with_reducible refine put2 ?_ (by first | exact Nat.le_refl _ | exact Below.size (by with_reducible assumption) | exact Nat.le_trans (Below.size (by with_reducible assumption)) (Nat.le_add_right _ _)) _ _)))
         (first | (go_at_call 25; (with_reducible show Calls _ _ #[.slice r (B ms.length).length cc, .string ⟨a.toArray⟩, .string ⟨s.toArray⟩] _ _); (with_reducible refine (held (W := wr) hB.out (CN1.out _ (by with_reducible assumption)) (by assumption)).mono ?_); rintro e w'' ⟨rfl, hb, hw⟩; (first | ((have hza := Zc.below (by first | (with_reducible exact hza) | (with_reducible exact hza.drew) | (with_reducible exact zc_up hza _) | (with_reducible exact zc_up hza.drew _)) hb); (have hzb := Zc.below (by first | (with_reducible exact hzb) | (with_reducible exact hzb.drew) | (with_reducible exact zc_up hzb _) | (with_reducible exact zc_up hzb.drew _)) hb)) | ((have hne := hza.lt); (have hza := Zc.below (by first | (with_reducible exact hza) | (with_reducible exact hza.drew) | (with_reducible exact zc_up hza _) | (with_reducible exact zc_up hza.drew _)) hb); (first | (have hzb := zc_made0 hb) | (have hzb := zc_made hb) | (have hzb := zc_madeD hb))) | (have hza := Zc.below (by first | (with_reducible exact hza) | (with_reducible exact hza.drew) | (with_reducible exact zc_up hza _) | (with_reducible exact zc_up hza.drew _)) hb) | (first | (have hza := zc_low hb; have hzb := zc_top hb; have hne := low_top hb) | (have hza := zc_lowD hb; have hzb := zc_topD hb; have hne := low_topD hb)) | (first | (have hza := zc_made0 hb) | (have hza := zc_made hb) | (have hza := zc_madeD hb)) | skip); (try (have p0 := hza.c0; have p1 := hza.c1; have p2 := hza.f0; have p3 := hza.f1; have p4 := hza.lt; have p5 := fun o => (zc_up hza o).c0; have p6 := fun o => (zc_up hza o).c1; have p7 := fun o => (zc_up hza o).f0; have p8 := fun o => (zc_up hza o).f1)); (try (have q0 := hzb.c0; have q1 := hzb.c1; have q2 := hzb.f0; have q3 := hzb.f1; have q4 := hzb.lt; have q5 := Nat.ne_of_lt hne; have q6 := (Nat.ne_of_lt hne).symm; have q7 := fun s t => (zc_far (s := s) (t := t) (Nat.ne_of_lt hne).symm hzb).c0; have q8 := fun s t => (zc_far (s := s) (t := t) (Nat.ne_of_lt hne).symm hzb).c1; have q9 := fun s t => (zc_far (s := s) (t := t) (Nat.ne_of_lt hne) hza).c0; have q10 := fun s t => (zc_far (s := s) (t := t) (Nat.ne_of_lt hne) hza).c1))) | (go_at_call 25; (with_reducible show Calls _ _ #[.slice p ls.length c, .string ⟨a.toArray⟩, .string ⟨s.toArray⟩] _ _); (with_reducible refine (held (W := wr) hB.out (CW1.out _ (by with_reducible assumption)) (by assumption)).mono ?_); rintro e w'' ⟨rfl, hb, hw⟩; (first | ((have hza := Zc.below (by first | (with_reducible exact hza) | (with_reducible exact hza.drew) | (with_reducible exact zc_up hza _) | (with_reducible exact zc_up hza.drew _)) hb); (have hzb := Zc.below (by first | (with_reducible exact hzb) | (with_reducible exact hzb.drew) | (with_reducible exact zc_up hzb _) | (with_reducible exact zc_up hzb.drew _)) hb)) | ((have hne := hza.lt); (have hza := Zc.below (by first | (with_reducible exact hza) | (with_reducible exact hza.drew) | (with_reducible exact zc_up hza _) | (with_reducible exact zc_up hza.drew _)) hb); (first | (have hzb := zc_made0 hb) | (have hzb := zc_made hb) | (have hzb := zc_madeD hb))) | (have hza := Zc.below (by first | (with_reducible exact hza) | (with_reducible exact hza.drew) | (with_reducible exact zc_up hza _) | (with_reducible exact zc_up hza.drew _)) hb) | (first | (have hza := zc_low hb; have hzb := zc_top hb; have hne := low_top hb) | (have hza := zc_lowD hb; have hzb := zc_topD hb; have hne := low_topD hb)) | (first | (have hza := zc_made0 hb) | (have hza := zc_made hb) | (have hza := zc_madeD hb)) | skip); (try (have p0 := hza.c0; have p1 := hza.c1; have p2 := hza.f0; have p3 := hza.f1; have p4 := hza.lt; have p5 := fun o => (zc_up hza o).c0; have p6 := fun o => (zc_up hza o).c1; have p7 := fun o => (zc_up hza o).f0; have p8 := fun o => (zc_up hza o).f1)); (try (have q0 := hzb.c0; have q1 := hzb.c1; have q2 := hzb.f0; have q3 := hzb.f1; have q4 := hzb.lt; have q5 := Nat.ne_of_lt hne; have q6 := (Nat.ne_of_lt hne).symm; have q7 := fun s t => (zc_far (s := s) (t := t) (Nat.ne_of_lt hne).symm hzb).c0; have q8 := fun s t => (zc_far (s := s) (t := t) (Nat.ne_of_lt hne).symm hzb).c1; have q9 := fun s t => (zc_far (s := s) (t := t) (Nat.ne_of_lt hne) hza).c0; have q10 := fun s t => (zc_far (s := s) (t := t) (Nat.ne_of_lt hne) hza).c1))))) | fail
       all_goals (try clear p0 p1 p2 p3 p4 p5 p6 p7 p8)
       all_goals (try clear q0 q1 q2 q3 q4 q7 q8 q9 q10)
       all_goals (go_wp2_with fail)
       all_goals (go_meet)
       all_goals (exact ⟨⟨_, _, rfl, rfl, (by (repeat' (first | exact zc_new _ _ _ _ | exact zc_is (by simp) _ _ _ | (with_reducible assumption) | refine zc_up ?_ _ | refine zc_setZ ?_ | (refine zc_far (by first | assumption | omega) ?_) | refine Zc.drew ?_))), (by (repeat' (first | exact zc_new _ _ _ _ | exact zc_is (by simp) _ _ _ | (with_reducible assumption) | refine zc_up ?_ _ | refine zc_setZ ?_ | (refine zc_far (by first | assumption | omega) ?_) | refine Zc.drew ?_)))⟩, by (repeat' (first | (with_reducible assumption) | (with_reducible refine Below.drew ?_) | (with_reducible refine up_alloc ?_ _) | (with_reducible refine put2 ?_ (by first | exact Nat.le_refl _ | exact Below.size (by with_reducible assumption) | exact Nat.le_trans (Below.size (by with_reducible assumption)) (Nat.le_add_right _ _)) _ _)))⟩)
      case rest =>
       obtain ⟨⟨pp, qq, rfl, rfl, hz, hy⟩, hcc⟩ := hcut
       clear hB CN1 CW1
       replace k0 := fun v (h : Below wc.heap.size wc v) => k0 v (Below.more hcc h)
       have HW := Lib.hid (Below.more HW.out hcc)
       have ra0 := fun v (h : Below wc.heap.size wc v) => (hz.below h).c0
       have ra1 := fun v (h : Below wc.heap.size wc v) => (hz.below h).c1
       have rc0 := fun v (h : Below wc.heap.size wc v) => (hy.below h).c0
       have rc1 := fun v (h : Below wc.heap.size wc v) => (hy.below h).c1
       have b0 := Below.refl wc.heap.size wc
       have HR3 := Lib.hid (HR2.out.below hcc)
       clear hz hy hcc k1
       cases f with
       | true =>
        have HNO := Lib.hid (HF.out (.inl rfl))
        clear HF HS2
        go_wp2_with fail
        refine (CF1.out _).mono ?_
        rintro e w1 ⟨rfl, b⟩
        have b1 := Below.more b0 b
        clear b
        go_wp2_with fail
        go_roundw
        case rel => exact ⟨j + 1, hlt, by go_num, none_more HJ.out HNO.out, Below.more HW.out b1, HR3.out.below b1⟩
        case measure => simp [intOf]; omega
       | false =>
        by_cases z0 : z < 0
        ·by_cases y0 : y < 0
         ·have HO := Lib.hid (HS2.out rfl z0 y0)
          clear HF HS2
          go_wp2_with fail
          refine (CF1.out _).mono ?_
          rintro e w1 ⟨rfl, b⟩
          have b1 := Below.more b0 b
          clear b
          go_wp2_with fail
          refine (CZ1.out _).mono ?_
          rintro e w2 ⟨rfl, b⟩
          have b2 := Below.more b1 b
          clear b
          go_wp2_with fail
          refine (CY1.out _).mono ?_
          rintro e w3 ⟨rfl, b⟩
          have b3 := Below.more b2 b
          clear b
          go_wp2_with fail
          go_ret2
          rw [HO.out]
          exact giveLEF_no (Below.more HW.out b3)
         ·have HNO := Lib.hid (HF.out (.inr (.inr y0)))
          clear HF HS2
          go_wp2_with fail
          refine (CF1.out _).mono ?_
          rintro e w1 ⟨rfl, b⟩
          have b1 := Below.more b0 b
          clear b
          go_wp2_with fail
          refine (CZ1.out _).mono ?_
          rintro e w2 ⟨rfl, b⟩
          have b2 := Below.more b1 b
          clear b
          go_wp2_with fail
          refine (CY1.out _).mono ?_
          rintro e w3 ⟨rfl, b⟩
          have b3 := Below.more b2 b
          clear b
          go_wp2_with fail
          go_roundw
          case rel => exact ⟨j + 1, hlt, by go_num, none_more HJ.out HNO.out, Below.more HW.out b3, HR3.out.below b3⟩
          case measure => simp [intOf]; omega
        ·have HNO := Lib.hid (HF.out (.inr (.inl z0)))
         clear HF HS2
         go_wp2_with fail
         refine (CF1.out _).mono ?_
         rintro e w1 ⟨rfl, b⟩
         have b1 := Below.more b0 b
         clear b
         go_wp2_with fail
         refine (CZ1.out _).mono ?_
         rintro e w2 ⟨rfl, b⟩
         have b2 := Below.more b1 b
         clear b
         go_wp2_with fail
         go_roundw
         case rel => exact ⟨j + 1, hlt, by go_num, none_more HJ.out HNO.out, Below.more HW.out b2, HR3.out.below b2⟩
         case measure => simp [intOf]; omega
     ·obtain rfl : j = ms.length := by omega
      have HO := Lib.hid (HN.out (.inr HJ.out))
      have HW := Lib.hid hw
      clear hw HN
      go_wp2_with fail
      go_ret2
      rw [HO.out]
      exact ⟨⟨r, cc, rfl, hcc, HR2.out, HNr.out⟩, HW.out⟩
theorem rpapplyF_any (p : Option Addr) (c : Nat) (ls : List Ln) (q : Option Addr) (d : Nat) (ms : List Ln) (cov : Bool) (w : World) {D M : Nat} (hc : ls.length ≤ c) (hd : ms.length ≤ d) (hl : ls.length ≤ 10000) (hm : ms.length ≤ 10000) (hz1 : ∀ x ∈ ls, SzF x) (hz2 : ∀ x ∈ ms, SzF x) (way : Way D M ls ms) (hL : Lns w p ls) (hM : Lns w q ms) :
  Calls Tryz.prog 37 #[.slice p ls.length c, .slice q ms.length d, .bool cov] w (GiveLEF w p ls (applyB ls ms cov)) := by
 have cm := fun V (hv : Below w.heap.size w V) => rbmay_any p c ls V hc (by omega) (fun x hx => (hz1 x hx).szL) (hL.below hv)
 have cb := fun V (hv : Below w.heap.size w V) => rpbal_any q d ms V hd (by omega) hz2 (way.z.mono (Nat.mul_le_mul_left _ (by omega))) way.t2 (hM.below hv)
 cases h1 : mayB ls with
 | false =>
  rw [h1] at cm
  have e : applyB ls ms cov = ([], 1) := by unfold applyB; rw [h1]; rfl
  rw [e]; exact rpa_may p c ls q d ms cov w (Lib.hid cm)
 | true =>
 rw [h1] at cm
 cases h2 : balB ms with
 | false =>
  rw [h2] at cb
  have e : applyB ls ms cov = ([], 70) := by unfold applyB; rw [h1, h2]; rfl
  rw [e]; exact rpa_bal p c ls q d ms cov w (Lib.hid cm) (Lib.hid cb)
 | true =>
 rw [h2] at cb
 have hg := good_iff.1 h1
 obtain ⟨hok, _⟩ := balB_iff.1 h2
 have hsub : ∀ k, ∀ x ∈ ms.take k, x ∈ ms := fun k x hx => List.mem_of_mem_take hx
 have good : ∀ k, Good (addAll ls (ms.take k)) := fun k => (addAll_good hg fun x hx => hok x (hsub k x hx)).1
 have len : ∀ k, (addAll ls (ms.take k)).length ≤ 20000 := fun k => by
  have h := addAll_len hg fun x hx => hok x (hsub k x hx)
  rw [List.length_take] at h; omega
 have next : ∀ k x, ms[k]? = some x → addB (addAll ls (ms.take k)) x = (addAll ls (ms.take (k + 1)), true) := fun k x hx => by
  obtain ⟨b, e, _⟩ := addB_yes (good k) (hok x (List.mem_of_getElem? hx))
  have e2 : ms.take (k + 1) = ms.take k ++ [x] := by rw [List.take_add_one, hx]; rfl
  rw [e2, addAll_snoc, e]
 have all : addAll ls (ms.take ms.length) = addAll ls ms := by rw [List.take_length]
 have fitn : ∀ key, Fit (getB (addAll ls ms) key) := fun key => by
  have h := way.has hg hok ms.length key
  rw [all] at h
  rw [← all, getB_rd (good _), all]; exact h
 have fitw : ∀ key, Fit (getB ls key) := fun key => get_fit hz1 key h1
 refine rpa_main p c ls q d ms cov w hc hd (by omega) hL hM (fun k => addAll ls (ms.take k)) (Lib.hid rfl) (fun k => match ms[k]? with | some x => getB (addAll ls ms) x.1 | none => ([], [])) (fun k => match ms[k]? with | some x => getB ls x.1 | none => ([], [])) (fun k => match ms[k]? with | some x => isFree x.1.1 | none => true)
  (fun k => match ms[k]? with | some x => sgnR (getB (addAll ls ms) x.1) | none => 0) (fun k => match ms[k]? with | some x => cmpR (getB (addAll ls ms) x.1) (getB ls x.1) | none => 0) (applyB ls ms cov) (Lib.hid cm) (Lib.hid cb) (Lib.hid fun k x hx V r cc hv hcc hr => ?_) (Lib.hid fun k x hx V r cc hv hcc hr => ?_) (Lib.hid fun k x hx V hv => ?_) (Lib.hid fun k x hx V => ?_) (Lib.hid fun k x hx V => ?_) (Lib.hid fun k x hx V => ?_) (Lib.hid fun hcv k hk hf hs hy => ?_) (Lib.hid fun h => ?_)
 ·obtain ⟨⟨a, s⟩, ⟨n, dd⟩⟩ := x
  have k1 := rbadd2F_any r cc (addAll ls (ms.take k)) a s n dd V hcc (Nat.le_trans (len k) (by decide)) (way.fit hg hok k) (hz2 _ (List.mem_of_getElem? hx)) (fun g1 g2 => ?_) hr
  ·rw [next k _ hx] at k1; exact k1
  ·have h := way.has hg hok (k + 1) (a, s)
   obtain ⟨b, e, _, hh, _⟩ := addB_yes (good k) (hok _ (List.mem_of_getElem? hx))
   obtain rfl : b = addAll ls (ms.take (k + 1)) := congrArg Prod.fst (e.symm.trans (next k _ hx))
   rw [hh, if_pos rfl] at h
   rw [getB_rd (good k)]
   have e2 : addR (rd (hasQ (addAll ls (ms.take k)) (a, s))) (n, dd) = rd (hasQ (addAll ls (ms.take k)) (a, s) + valR (n, dd)) := by
    have hr2 : isR (n, dd) = true := ok_rat (hok _ (List.mem_of_getElem? hx))
    unfold addR; rw [isR_rd, hr2, valR_rd]; rfl
   rw [e2]; exact h
 ·try dsimp only
  rw [hx]
  have k1 := rbget_any r cc (addAll ls (ms.take ms.length)) x.1.1 x.1.2 V hcc (Nat.le_trans (len _) (by decide)) (fun y hy => (way.fit hg hok _ y hy).szL) hr
  rw [all] at k1 ⊢
  exact k1
 ·try dsimp only
  rw [hx]
  exact rbget_any p c ls x.1.1 x.1.2 V hc (by omega) (fun y hy => (hz1 y hy).szL) (hL.below hv)
 ·try dsimp only
  rw [hx]
  exact calm (rpfree_any ⟨x.1.1.toArray⟩ V)
 ·try dsimp only
  rw [hx]
  have f := fitn x.1
  exact rqsign_any ⟨(getB (addAll ls ms) x.1).1.toArray⟩ ⟨(getB (addAll ls ms) x.1).2.toArray⟩ V (by rw [size_of]; exact Nat.le_trans f.1 (by decide)) (by rw [size_of]; exact Nat.le_trans f.2 (by decide))
 ·try dsimp only
  rw [hx]
  have f := fitn x.1; have g := fitw x.1
  exact rqcmp_any ⟨(getB (addAll ls ms) x.1).1.toArray⟩ ⟨(getB (addAll ls ms) x.1).2.toArray⟩ ⟨(getB ls x.1).1.toArray⟩ ⟨(getB ls x.1).2.toArray⟩ V (by rw [size_of]; exact f.1) (by rw [size_of]; exact f.2) (by rw [size_of]; exact g.1) (by rw [size_of]; exact g.2)
 ·try dsimp only at hf hs hy
  rw [List.getElem?_eq_getElem hk] at hf hs hy
  dsimp only at hf hs hy
  have hsh : ms.any (shortB ls (addAll ls ms)) = true := List.any_eq_true.2 ⟨ms[k], List.getElem_mem hk, by unfold shortB; rw [hf, decide_eq_true hs, decide_eq_true hy]; rfl⟩
  unfold applyB
  rw [h1, h2, hcv, hsh]; rfl
 ·try dsimp only
  rw [all]
  have hno : (cov && ms.any (shortB ls (addAll ls ms))) = false := by
   rcases h with h | h
   ·rw [h]; rfl
   ·have e : ms.any (shortB ls (addAll ls ms)) = false := by
     rw [List.any_eq_false]
     intro x hx
     obtain ⟨k, hk, rfl⟩ := List.getElem_of_mem hx
     have h := h k hk
     rw [List.getElem?_eq_getElem hk] at h
     dsimp only at h
     unfold shortB
     rw [h]; decide
    rw [e, Bool.and_false]
  unfold applyB
  rw [h1, h2, hno]; rfl
end Go.Proofs.YtagfndkfjbbpjaaGreatDoor

/- The walk of PostKeeps. -/
import Derived.Test.YtamibckbebifkaaGreatDoorSch
import Derived.Test.YtamibckbebifkaaGreatDoorZcTwo
import Derived.Test.YtamibckbebifkaaGreatDoorWTells7
namespace Go.Proofs.YtamibckbebifkaaGreatDoor
open Go.RowKit
set_option linter.unusedSimpArgs false
set_option linter.unusedVariables false
variable {G : World → Prop}
theorem heldZ {P : Program} {f : FuncId} {args : Array Value} {B r : Nat} {u W : World} {s t v : Value} (c : Calls P f args u fun e w' => e = .returned v ∧ Below u.heap.size u w') (h : Below B W u) (hz : Zc r s t u) (hB : B ≤ W.heap.size) :
    Calls P f args u fun e w' => e = .returned v ∧ Below B W w' ∧ Zc r s t w' := c.mono fun _ _ ⟨he, hb⟩ => ⟨he, h.trans (hb.mono (Nat.le_trans hB h.size)), hz.below hb⟩
set_option maxRecDepth 100000 in
set_option maxHeartbeats 4000000 in
theorem keeps7_0 (H : PostC G) (p : Option Addr) (c : Nat) (ls : List Ln) (q : Option Addr) (d : Nat) (ms : List Ln) (cov : Bool) (w : World) (hg : G w)
    (CS1 : Hid (∀ V, Below w.heap.size w V → Calls Tryz.prog 7 #[.slice p ls.length c] V (GiveB V false))) :
    Calls Tryz.prog 4 #[.slice p ls.length c, .slice q ms.length d, .bool cov] w (GiveB w true) := by
  have HB := Lib.hid H; have HT := Lib.hid hg; clear H hg
  go_enter Tryz.func4, Tryz.ntmps4
  go_wp2_with fail
  have BW := Below.refl w.heap.size w
  have b0 : Below w.heap.size w w := Below.refl _ _
  refine (fixed7_any HB.out _ (HB.out.below HT.out b0)).mono ?_
  rintro e w1 ⟨rfl, b⟩
  have b1 := Below.more b0 b
  clear b
  go_wp2_with fail
  refine (CS1.out _ (Below.more BW b1)).mono ?_
  rintro e w2 ⟨rfl, b⟩
  have b2 := Below.more b1 b
  clear b
  go_wp2_with fail
  refine (fixed7_any HB.out _ (HB.out.below HT.out b2)).mono ?_
  rintro e w3 ⟨rfl, b⟩
  have b3 := Below.more b2 b
  clear b
  go_wp2_with fail
  go_ret
  exact ⟨rfl, Below.more BW b3⟩
set_option maxRecDepth 100000 in
set_option maxHeartbeats 4000000 in
theorem keeps7_1 (H : PostC G) (p : Option Addr) (c : Nat) (ls : List Ln) (q : Option Addr) (d : Nat) (ms : List Ln) (cov : Bool) (w : World) (hg : G w)
    (CS1 : Hid (∀ V, Below w.heap.size w V → Calls Tryz.prog 7 #[.slice p ls.length c] V (GiveB V true)))
    (CS2 : Hid (∀ V, Below w.heap.size w V → Calls Tryz.prog 7 #[.slice q ms.length d] V (GiveB V false))) :
    Calls Tryz.prog 4 #[.slice p ls.length c, .slice q ms.length d, .bool cov] w (GiveB w true) := by
  have HB := Lib.hid H; have HT := Lib.hid hg; clear H hg
  go_enter Tryz.func4, Tryz.ntmps4
  go_wp2_with fail
  have BW := Below.refl w.heap.size w
  have b0 : Below w.heap.size w w := Below.refl _ _
  refine (fixed7_any HB.out _ (HB.out.below HT.out b0)).mono ?_
  rintro e w1 ⟨rfl, b⟩
  have b1 := Below.more b0 b
  clear b
  go_wp2_with fail
  refine (CS1.out _ (Below.more BW b1)).mono ?_
  rintro e w2 ⟨rfl, b⟩
  have b2 := Below.more b1 b
  clear b
  go_wp2_with fail
  refine (CS2.out _ (Below.more BW b2)).mono ?_
  rintro e w3 ⟨rfl, b⟩
  have b3 := Below.more b2 b
  clear b
  go_wp2_with fail
  refine (fixed7_any HB.out _ (HB.out.below HT.out b3)).mono ?_
  rintro e w4 ⟨rfl, b⟩
  have b4 := Below.more b3 b
  clear b
  go_wp2_with fail
  go_ret
  exact ⟨rfl, Below.more BW b4⟩
set_option maxRecDepth 100000 in
set_option maxHeartbeats 4000000 in
theorem keeps7_2 (H : PostC G) (p : Option Addr) (c : Nat) (ls : List Ln) (q : Option Addr) (d : Nat) (ms : List Ln) (cov : Bool) (w : World) (hg : G w)
    (CS1 : Hid (∀ V, Below w.heap.size w V → Calls Tryz.prog 7 #[.slice p ls.length c] V (GiveB V true)))
    (CS2 : Hid (∀ V, Below w.heap.size w V → Calls Tryz.prog 7 #[.slice q ms.length d] V (GiveB V true)))
    (CS3 : Hid (∀ V, Below w.heap.size w V → Calls Tryz.prog 16 #[.slice p ls.length c] V (GiveB V false))) :
    Calls Tryz.prog 4 #[.slice p ls.length c, .slice q ms.length d, .bool cov] w (GiveB w true) := by
  have HB := Lib.hid H; have HT := Lib.hid hg; clear H hg
  go_enter Tryz.func4, Tryz.ntmps4
  go_wp2_with fail
  have BW := Below.refl w.heap.size w
  have b0 : Below w.heap.size w w := Below.refl _ _
  refine (fixed7_any HB.out _ (HB.out.below HT.out b0)).mono ?_
  rintro e w1 ⟨rfl, b⟩
  have b1 := Below.more b0 b
  clear b
  go_wp2_with fail
  refine (CS1.out _ (Below.more BW b1)).mono ?_
  rintro e w2 ⟨rfl, b⟩
  have b2 := Below.more b1 b
  clear b
  go_wp2_with fail
  refine (CS2.out _ (Below.more BW b2)).mono ?_
  rintro e w3 ⟨rfl, b⟩
  have b3 := Below.more b2 b
  clear b
  go_wp2_with fail
  refine (CS3.out _ (Below.more BW b3)).mono ?_
  rintro e w4 ⟨rfl, b⟩
  have b4 := Below.more b3 b
  clear b
  go_wp2_with fail
  refine (fixed7_any HB.out _ (HB.out.below HT.out b4)).mono ?_
  rintro e w5 ⟨rfl, b⟩
  have b5 := Below.more b4 b
  clear b
  go_wp2_with fail
  go_ret
  exact ⟨rfl, Below.more BW b5⟩
set_option maxRecDepth 100000 in
set_option maxHeartbeats 4000000 in
theorem keeps7_70 (H : PostC G) (p : Option Addr) (c : Nat) (ls : List Ln) (q : Option Addr) (d : Nat) (ms : List Ln) (cov : Bool) (w : World) (hg : G w)
    (CS1 : Hid (∀ V, Below w.heap.size w V → Calls Tryz.prog 7 #[.slice p ls.length c] V (GiveB V true)))
    (CS2 : Hid (∀ V, Below w.heap.size w V → Calls Tryz.prog 7 #[.slice q ms.length d] V (GiveB V true)))
    (CS3 : Hid (∀ V, Below w.heap.size w V → Calls Tryz.prog 16 #[.slice p ls.length c] V (GiveB V true)))
    (CA : Hid (∀ V, Below w.heap.size w V → G V → Calls Tryz.prog 9 #[.slice p ls.length c, .slice q ms.length d, .bool cov] V (GiveLE V (([], 70))))) :
    Calls Tryz.prog 4 #[.slice p ls.length c, .slice q ms.length d, .bool cov] w (GiveB w true) := by
  have HB := Lib.hid H; have HT := Lib.hid hg; clear H hg
  go_enter Tryz.func4, Tryz.ntmps4
  go_wp2_with fail
  have BW := Below.refl w.heap.size w
  have b0 : Below w.heap.size w w := Below.refl _ _
  refine (fixed7_any HB.out _ (HB.out.below HT.out b0)).mono ?_
  rintro e w1 ⟨rfl, b⟩
  have b1 := Below.more b0 b
  clear b
  go_wp2_with fail
  refine (CS1.out _ (Below.more BW b1)).mono ?_
  rintro e w2 ⟨rfl, b⟩
  have b2 := Below.more b1 b
  clear b
  go_wp2_with fail
  refine (CS2.out _ (Below.more BW b2)).mono ?_
  rintro e w3 ⟨rfl, b⟩
  have b3 := Below.more b2 b
  clear b
  go_wp2_with fail
  refine (CS3.out _ (Below.more BW b3)).mono ?_
  rintro e w4 ⟨rfl, b⟩
  have b4 := Below.more b3 b
  clear b
  go_wp2_with fail
  refine (CA.out _ (Below.more BW b4) (HB.out.below HT.out b4)).mono ?_
  rintro e U5 ⟨⟨pr1, c1, rfl, hc1, hl1⟩, b⟩
  have bU := Below.more b4 b
  clear b
  replace BW := Below.more BW bU
  replace HT := Lib.hid (HB.out.below HT.out bU)
  have L1 := Lib.hid hl1
  clear hl1 bU
  have b5 := Below.refl U5.heap.size U5
  go_wp2_with fail
  go_ret
  exact ⟨rfl, Below.more BW b5⟩
set_option maxRecDepth 100000 in
set_option maxHeartbeats 4000000 in
theorem keeps7_71 (H : PostC G) (p : Option Addr) (c : Nat) (ls : List Ln) (q : Option Addr) (d : Nat) (ms : List Ln) (w : World) (hg : G w)
    (CS1 : Hid (∀ V, Below w.heap.size w V → Calls Tryz.prog 7 #[.slice p ls.length c] V (GiveB V true)))
    (CS2 : Hid (∀ V, Below w.heap.size w V → Calls Tryz.prog 7 #[.slice q ms.length d] V (GiveB V true)))
    (CS3 : Hid (∀ V, Below w.heap.size w V → Calls Tryz.prog 16 #[.slice p ls.length c] V (GiveB V true)))
    (CA : Hid (∀ V, Below w.heap.size w V → G V → Calls Tryz.prog 9 #[.slice p ls.length c, .slice q ms.length d, .bool true] V (GiveLE V (([], 71))))) :
    Calls Tryz.prog 4 #[.slice p ls.length c, .slice q ms.length d, .bool true] w (GiveB w true) := by
  have HB := Lib.hid H; have HT := Lib.hid hg; clear H hg
  go_enter Tryz.func4, Tryz.ntmps4
  go_wp2_with fail
  have BW := Below.refl w.heap.size w
  have b0 : Below w.heap.size w w := Below.refl _ _
  refine (fixed7_any HB.out _ (HB.out.below HT.out b0)).mono ?_
  rintro e w1 ⟨rfl, b⟩
  have b1 := Below.more b0 b
  clear b
  go_wp2_with fail
  refine (CS1.out _ (Below.more BW b1)).mono ?_
  rintro e w2 ⟨rfl, b⟩
  have b2 := Below.more b1 b
  clear b
  go_wp2_with fail
  refine (CS2.out _ (Below.more BW b2)).mono ?_
  rintro e w3 ⟨rfl, b⟩
  have b3 := Below.more b2 b
  clear b
  go_wp2_with fail
  refine (CS3.out _ (Below.more BW b3)).mono ?_
  rintro e w4 ⟨rfl, b⟩
  have b4 := Below.more b3 b
  clear b
  go_wp2_with fail
  refine (CA.out _ (Below.more BW b4) (HB.out.below HT.out b4)).mono ?_
  rintro e U5 ⟨⟨pr1, c1, rfl, hc1, hl1⟩, b⟩
  have bU := Below.more b4 b
  clear b
  replace BW := Below.more BW bU
  replace HT := Lib.hid (HB.out.below HT.out bU)
  have L1 := Lib.hid hl1
  clear hl1 bU
  have b5 := Below.refl U5.heap.size U5
  go_wp2_with fail
  go_ret
  exact ⟨rfl, Below.more BW b5⟩
set_option maxRecDepth 100000 in
set_option maxHeartbeats 4000000 in
theorem keeps7_main (H : PostC G) (p : Option Addr) (c : Nat) (ls : List Ln) (q : Option Addr) (d : Nat) (ms : List Ln) (cov : Bool) (w : World) (hg : G w) (hM : Lns w q ms) (C : List Ln) (W : Nat → Nat → Key) (tt : Nat → Key) (fr : Nat → Bool) (sg ss : Nat → Int) (hm : ms.length ≤ 1000)
    (CS1 : Hid (∀ V, Below w.heap.size w V → Calls Tryz.prog 7 #[.slice p ls.length c] V (GiveB V true)))
    (CS2 : Hid (∀ V, Below w.heap.size w V → Calls Tryz.prog 7 #[.slice q ms.length d] V (GiveB V true)))
    (CS3 : Hid (∀ V, Below w.heap.size w V → Calls Tryz.prog 16 #[.slice p ls.length c] V (GiveB V true)))
    (CA : Hid (∀ V, Below w.heap.size w V → G V → Calls Tryz.prog 9 #[.slice p ls.length c, .slice q ms.length d, .bool cov] V (GiveLE V (C, 0))))
    (CG : Hid (∀ (i : Nat) (x : Ln), ms[i]? = some x → ∀ V, Below w.heap.size w V → Calls Tryz.prog 17 #[.slice p ls.length c, .string ⟨x.1.1.toArray⟩, .string ⟨x.1.2.toArray⟩] V (GiveR V (W i 0))))
    (CC : Hid (∀ (i : Nat) (x : Ln), ms[i]? = some x → ∀ V p' c', C.length ≤ c' → Lns V p' C → Calls Tryz.prog 17 #[.slice p' C.length c', .string ⟨x.1.1.toArray⟩, .string ⟨x.1.2.toArray⟩] V (GiveR V (W i ms.length))))
    (CT : Hid (∀ (i : Nat) (x : Ln), ms[i]? = some x → ∀ V, Below w.heap.size w V → Calls Tryz.prog 19 #[.slice p ls.length c, .string ⟨x.1.2.toArray⟩] V (GiveR V (tt i))))
    (CU : Hid (∀ (i : Nat) (x : Ln), ms[i]? = some x → ∀ V p' c', C.length ≤ c' → Lns V p' C → Calls Tryz.prog 19 #[.slice p' C.length c', .string ⟨x.1.2.toArray⟩] V (GiveR V (tt i))))
    (CD : Hid (∀ (i : Nat) (x : Ln), ms[i]? = some x → ∀ (t : Nat) (y : Ln), ms[t]? = some y → y.1 = x.1 → ∀ V, Calls Tryz.prog 18 #[.agg #[.string ⟨(W i t).1.toArray⟩, .string ⟨(W i t).2.toArray⟩], .agg #[.string ⟨y.2.1.toArray⟩, .string ⟨y.2.2.toArray⟩]] V (GiveR V (W i (t + 1)))))
    (HE : Hid (∀ (i : Nat) (x : Ln), ms[i]? = some x → ∀ (t : Nat) (y : Ln), ms[t]? = some y → ¬ y.1 = x.1 → W i (t + 1) = W i t))
    (CF : Hid (∀ (i : Nat) (x : Ln), ms[i]? = some x → ∀ V, G V → Calls Tryz.prog 11 #[.string ⟨x.1.1.toArray⟩] V (GiveB V (fr i))))
    (CZ : Hid (∀ (i : Nat) (x : Ln), ms[i]? = some x → ∀ V, Calls Tryz.prog 20 #[.agg #[.string ⟨(W i ms.length).1.toArray⟩, .string ⟨(W i ms.length).2.toArray⟩]] V (GiveI V (sg i))))
    (CY : Hid (∀ (i : Nat) (x : Ln), ms[i]? = some x → ∀ V, Calls Tryz.prog 20 #[.agg #[.string ⟨(W i 0).1.toArray⟩, .string ⟨(W i 0).2.toArray⟩]] V (GiveI V (ss i))))
    (HS : Hid (∀ i, i < ms.length → cov = true → fr i = false → sg i < 0 → ¬ 0 ≤ ss i))
    (CM : Hid (∀ V p' c', C.length ≤ c' → Lns V p' C → Calls Tryz.prog 16 #[.slice p' C.length c'] V (GiveB V true))) :
    Calls Tryz.prog 4 #[.slice p ls.length c, .slice q ms.length d, .bool cov] w (GiveB w true) := by
  have HM := Lib.hid hM; clear hM
  have HB := Lib.hid H; have HT := Lib.hid hg; clear H hg
  go_enter Tryz.func4, Tryz.ntmps4
  go_wp2_with fail
  have BW := Below.refl w.heap.size w
  have b0 : Below w.heap.size w w := Below.refl _ _
  refine (fixed7_any HB.out _ (HB.out.below HT.out b0)).mono ?_
  rintro e w1 ⟨rfl, b⟩
  have b1 := Below.more b0 b
  clear b
  go_wp2_with fail
  refine (CS1.out _ (Below.more BW b1)).mono ?_
  rintro e w2 ⟨rfl, b⟩
  have b2 := Below.more b1 b
  clear b
  go_wp2_with fail
  refine (CS2.out _ (Below.more BW b2)).mono ?_
  rintro e w3 ⟨rfl, b⟩
  have b3 := Below.more b2 b
  clear b
  go_wp2_with fail
  refine (CS3.out _ (Below.more BW b3)).mono ?_
  rintro e w4 ⟨rfl, b⟩
  have b4 := Below.more b3 b
  clear b
  go_wp2_with fail
  refine (CA.out _ (Below.more BW b4) (HB.out.below HT.out b4)).mono ?_
  rintro e U5 ⟨⟨pr1, c1, rfl, hc1, hl1⟩, b⟩
  have bU := Below.more b4 b
  clear b
  replace BW := Below.more BW bU
  replace HT := Lib.hid (HB.out.below HT.out bU)
  have L1 := Lib.hid hl1
  clear hl1 bU
  have b5 := Below.refl U5.heap.size U5
  clear CS1 CS2 CS3 CA b5
  go_wp2_with fail
  go_loopw [9] (fun x wr => ∃ i : Nat, i ≤ ms.length ∧ x = .int .i64 i ∧ Below U5.heap.size U5 wr) (fun x _ => ms.length - (intOf x).toNat)
  case atStart => exact ⟨0, Nat.zero_le _, rfl, Below.refl _ _⟩
  case round =>
    obtain ⟨Wr, hWr⟩ : ∃ W : World, W = wr := ⟨_, rfl⟩
    subst hWr
    obtain ⟨i, hi, rfl, hw⟩ := hrel
    have BX := Below.more BW hw
    have HTx := Lib.hid (HB.out.below HT.out hw)
    have L1x := Lib.hid (L1.out.below hw)
    have HW := Lib.hid hw
    clear hw
    by_cases hlt : i < ms.length
    · obtain ⟨⟨⟨a, s⟩, ⟨n, dd⟩⟩, hx⟩ : ∃ x, ms[i]? = some x := ⟨_, List.getElem?_eq_getElem hlt⟩
      obtain ⟨b, o, rfl, k0, k1, k2, k3⟩ := (HM.out.below BX).rule hx
      have cg := fun V (hv : Below Wr.heap.size Wr V) => CG.out i _ hx V (Below.more BX hv)
      have cc := fun V (hv : Below Wr.heap.size Wr V) => CC.out i _ hx V _ _ hc1 (L1x.out.below hv)
      have ct := fun V (hv : Below Wr.heap.size Wr V) => CT.out i _ hx V (Below.more BX hv)
      have cu := fun V (hv : Below Wr.heap.size Wr V) => CU.out i _ hx V _ _ hc1 (L1x.out.below hv)
      have cf := fun V (hv : Below Wr.heap.size Wr V) => CF.out i _ hx V (HB.out.below HTx.out hv)
      have cz := CZ.out i _ hx
      have cy := CY.out i _ hx
      have hsh := HS.out i hlt
      have ca := CD.out i _ hx
      have hst := HE.out i _ hx
      dsimp only at cg cc ct cu cf ca hst
      have CG1 := Lib.hid cg; have CC1 := Lib.hid cc; have CT1 := Lib.hid ct; have CU1 := Lib.hid cu; have CF1 := Lib.hid cf; have CZ1 := Lib.hid cz; have CY1 := Lib.hid cy; have HS1 := Lib.hid hsh; have CD1 := Lib.hid ca; have HE1 := Lib.hid hst
      have HMX := Lib.hid (HM.out.below BX)
      have b0 := Below.refl Wr.heap.size Wr
      have hB := Lib.hid (Nat.le_refl Wr.heap.size)
      clear cg cc ct cu cf cz cy hsh ca hst hx k2 k3 CG CC CT CU CF CZ CY HS CD HE
      have hii : (i : Int) < (ms.length : Int) := by omega
      go_upto_region 9 with fail
      go_cut [10] from 60 to 72 (fun t wx => (∃ pp, t = .pointer (some ⟨pp, 0, none⟩) ∧ Wr.heap.size ≤ pp ∧ Zc pp (.string ⟨(W i 0).1.toArray⟩) (.string ⟨(W i 0).2.toArray⟩) wx) ∧ Below Wr.heap.size Wr wx)
      case first =>
        first | (go_region_held3 (fun w' => Below Wr.heap.size Wr w')
          (repeat' (first | (with_reducible assumption) | (with_reducible refine Below.drew ?_) | (with_reducible refine up_alloc ?_ _) | (with_reducible refine put2 ?_ (by first | exact Nat.le_refl _ | exact Below.size (by with_reducible assumption) | exact Nat.le_trans (Below.size (by with_reducible assumption)) (Nat.le_add_right _ _)) _ _)))
          (first | (go_at_call 17; (with_reducible show Calls _ _ #[.slice p ls.length c, .string ⟨a.toArray⟩, .string ⟨s.toArray⟩] _ _); (with_reducible refine (held (W := Wr) hB.out (CG1.out _ (by with_reducible assumption)) (by assumption)).mono ?_); rintro e w'' ⟨rfl, hb, hw⟩; (first | (have hz := zc_made0 hb) | (have hz := zc_made hb) | (have hz := zc_madeD hb) | skip); (try (have z0 := hz.c0; have z1 := hz.c1; have z2 := hz.f0; have z3 := hz.f1; have z4 := hz.lt))))) | fail
        all_goals (try clear z0 z1 z2 z3)
        all_goals (go_wp2_with fail)
        all_goals (go_meet)
        all_goals (exact ⟨⟨_, rfl, (by first | exact Nat.le_refl _ | exact Below.size (by with_reducible assumption)), (by (repeat' (first | exact zc_new _ _ _ _ | exact zc_is (by simp) _ _ _ | (with_reducible assumption) | refine zc_up ?_ _ | refine zc_setZ ?_ | (refine zc_far (by first | assumption | omega) ?_) | refine Zc.drew ?_)))⟩, by (repeat' (first | (with_reducible assumption) | (with_reducible refine Below.drew ?_) | (with_reducible refine up_alloc ?_ _) | (with_reducible refine put2 ?_ (by first | exact Nat.le_refl _ | exact Below.size (by with_reducible assumption) | exact Nat.le_trans (Below.size (by with_reducible assumption)) (Nat.le_add_right _ _)) _ _)))⟩)
      case rest =>

        obtain ⟨⟨pp, rfl, hpp, hz⟩, hcc⟩ := hcut
        have HPP := Lib.hid hpp
        clear hpp hB b0
        go_wp2_with fail
        go_loopw [11] (fun x v => ∃ t : Nat, t ≤ ms.length ∧ x = .int .i64 t ∧ Zc pp (.string ⟨(W i t).1.toArray⟩) (.string ⟨(W i t).2.toArray⟩) v ∧ Below Wr.heap.size Wr v) (fun x _ => ms.length - (intOf x).toNat)
        case atStart => exact ⟨0, Nat.zero_le _, rfl, hz, hcc⟩
        case round =>
          clear hz hcc
          obtain ⟨t, ht, rfl, hz, hv⟩ := hrel
          by_cases htl : t < ms.length
          · obtain ⟨⟨⟨a', s'⟩, ⟨n', d'⟩⟩, hy⟩ : ∃ x, ms[t]? = some x := ⟨_, List.getElem?_eq_getElem htl⟩
            obtain ⟨b', o', hp', j0, j1, j2, j3⟩ := HMX.out.rule hy
            cases hp'
            have cax := CD1.out t _ hy
            have hsx := HE1.out t _ hy
            dsimp only at cax hsx
            have CAx := Lib.hid cax; have HSx := Lib.hid hsx
            have hti : (t : Int) < (ms.length : Int) := by omega
            have HZ := Lib.hid hz; have HV := Lib.hid hv
            clear hy cax hsx hz CG1 CC1 CT1 CU1 CF1 CZ1 CY1 HS1 CD1 HE1
            by_cases e1 : a' = a
            · by_cases e2 : s' = s
              · have q1 : (a' == a) = true := by rw [beq_iff_eq]; exact e1
                have q2 : (s' == s) = true := by rw [beq_iff_eq]; exact e2
                have CAk := Lib.hid (CAx.out (by rw [e1, e2]))
                clear e1 e2 CAx HSx
                go_wp2_with fail
                refine wp_region_noPanic ?_
                refine wp_region_held_drew (S := fun w' => Below Wr.heap.size Wr w') (by kernel_rfl) (HV.out.drew) (fun hH0 => ?_)
                refine sch_in [0, 1, 2, 3, 4, 5, 6, 7, 8, 9, 10, 11, 12, 13, 14, 15, 16, 17, 18, 19, 20, 21, 22, 23] ?_
                iterate 24 (refine sch_yes (v := ?_) rfl (by kernel_rfl) (by rfl) ?_ (by assumption) ?_; rotate_left 1; (· (intro w hSw; (try dsimp only at hSw); go_simp <;> (with_reducible rfl))); try simp only [Act.put, List.getElem_toArray, List.getElem_cons_succ, List.getElem_cons_zero, List.setIfInBounds_toArray, List.set_cons_zero, List.set_cons_succ])
                refine sch_out ?_
                refine wpAnyH_done (by kernel_rfl) ?_ _
                refine NoPanic.normal ?_
                have b9 := hH0
                clear hH0
                have hz := HZ.out.drew
                have hv := b9
                clear b9
                go_wp2_with fail
                refine wp_region_noPanic ?_
                refine wp_region_held_drew (S := fun w' => Below Wr.heap.size Wr w') (by kernel_rfl) (hv.drew) (fun hH0 => ?_)
                have hzd := hz.drew
                have z0 := hzd.c0; have z1 := hzd.c1
                refine sch_in [1, 2, 3, 4, 5] ?_
                iterate 5 (refine sch_yes (v := ?_) rfl (by kernel_rfl) (by rfl) ?_ (by assumption) ?_; rotate_left 1; (· (intro w hSw; (try dsimp only at hSw); go_simp <;> (with_reducible rfl))); try simp only [Act.put, List.getElem_toArray, List.getElem_cons_succ, List.getElem_cons_zero, List.setIfInBounds_toArray, List.set_cons_zero, List.set_cons_succ])
                refine sch_out ?_
                refine wpAnyH_ready (rs := [0]) (by kernel_rfl) (by simp) ?_
                refine AllReadyH.cons rfl (fun K hK => ?_) AllReadyH.nil
                go_simp
                refine hK.out _ _ hH0 (fun hH1 => ?_)
                clear hK hH0
                try simp only [Act.put, List.getElem_toArray, List.getElem_cons_succ, List.getElem_cons_zero, List.setIfInBounds_toArray, List.set_cons_zero, List.set_cons_succ]
                refine wpAnyH_ready (rs := [6]) (by kernel_rfl) (by simp) ?_
                refine AllReadyH.cons rfl (fun K hK => ?_) AllReadyH.nil
                go_simp
                refine (heldZ (CAk.out _) hH1 hzd (Nat.le_refl _)).mono ?_
                rintro e w'' ⟨rfl, hw2, hzw⟩
                have z0 := hzw.c0; have z1 := hzw.c1; have z2 := hzw.f0; have z3 := hzw.f1
                (try go_wp2_with fail)
                refine hK.out _ _ hw2 (fun hH2 => ?_)
                clear hK hH1
                try simp only [Act.put, List.getElem_toArray, List.getElem_cons_succ, List.getElem_cons_zero, List.setIfInBounds_toArray, List.set_cons_zero, List.set_cons_succ]
                refine wpAnyH_ready (rs := [7]) (by kernel_rfl) (by simp) ?_
                refine AllReadyH.cons rfl (fun K hK => ?_) AllReadyH.nil
                go_simp
                refine hK.out _ _ (put2 hH2 HPP.out _ _) (fun hH3 => ?_)
                clear hK hH2
                try simp only [Act.put, List.getElem_toArray, List.getElem_cons_succ, List.getElem_cons_zero, List.setIfInBounds_toArray, List.set_cons_zero, List.set_cons_succ]
                refine wpAnyH_done (by kernel_rfl) ?_ _
                refine NoPanic.normal ?_
                have hZ := Lib.hid (zc_put (x := .string ⟨(W i (t + 1)).1.toArray⟩) (y := .string ⟨(W i (t + 1)).2.toArray⟩) hzw)
                have hG := Lib.hid hH3
                clear hzw hH3 z0 z1 z2 z3 hzd hw2
                go_wp2_with fail
                go_roundw
                case rel => exact ⟨t + 1, htl, by go_num, hZ.out, hG.out⟩
                case measure => simp [intOf]; omega

              · have q1 : (a' == a) = true := by rw [beq_iff_eq]; exact e1
                have q2 : (s' == s) = false := by rw [beq_eq_false_iff_ne]; exact e2
                have HSt := Lib.hid (HSx.out (fun e => e2 (by cases e; rfl)))
                clear e1 e2 CAx HSx
                go_wp2_with fail
                refine wp_region_noPanic ?_
                refine wp_region_held_drew (S := fun w' => Below Wr.heap.size Wr w') (by kernel_rfl) (HV.out.drew) (fun hH0 => ?_)
                refine sch_in [0, 1, 2, 3, 4, 5, 6, 7, 8, 9, 10, 11, 12, 13, 14, 15, 16, 17, 18, 19, 20, 21, 22, 23] ?_
                iterate 24 (refine sch_yes (v := ?_) rfl (by kernel_rfl) (by rfl) ?_ (by assumption) ?_; rotate_left 1; (· (intro w hSw; (try dsimp only at hSw); go_simp <;> (with_reducible rfl))); try simp only [Act.put, List.getElem_toArray, List.getElem_cons_succ, List.getElem_cons_zero, List.setIfInBounds_toArray, List.set_cons_zero, List.set_cons_succ])
                refine sch_out ?_
                refine wpAnyH_done (by kernel_rfl) ?_ _
                refine NoPanic.normal ?_
                have b9 := hH0
                clear hH0
                have hz := HZ.out.drew
                have hv := b9
                clear b9
                go_wp2_with fail
                go_roundw
                case rel => exact ⟨t + 1, htl, by go_num, by rw [HSt.out]; exact hz, hv⟩
                case measure => simp [intOf]; omega

            · have q1 : (a' == a) = false := by rw [beq_eq_false_iff_ne]; exact e1
              have HSt := Lib.hid (HSx.out (fun e => e1 (by cases e; rfl)))
              clear e1 CAx HSx
              go_wp2_with fail
              refine wp_region_noPanic ?_
              refine wp_region_held_drew (S := fun w' => Below Wr.heap.size Wr w') (by kernel_rfl) (HV.out.drew) (fun hH0 => ?_)
              refine sch_in [0, 1, 2, 3, 4, 5, 6, 7, 8, 9, 10, 11, 12, 13, 14, 15, 16, 17, 18, 19, 20, 21, 22, 23] ?_
              iterate 24 (first | (refine sch_no rfl (by kernel_rfl) (by rfl) (by assumption) ?_; try simp only [Act.put, List.getElem_toArray, List.getElem_cons_succ, List.getElem_cons_zero, List.setIfInBounds_toArray, List.set_cons_zero, List.set_cons_succ]) | (refine sch_yes (v := ?_) rfl (by kernel_rfl) (by rfl) ?_ (by assumption) ?_; rotate_left 1; (· (intro w hSw; (try dsimp only at hSw); go_simp <;> (with_reducible rfl))); try simp only [Act.put, List.getElem_toArray, List.getElem_cons_succ, List.getElem_cons_zero, List.setIfInBounds_toArray, List.set_cons_zero, List.set_cons_succ]))
              refine sch_out ?_
              refine wpAnyH_done (by kernel_rfl) ?_ _
              refine NoPanic.normal ?_
              have b9 := hH0
              clear hH0
              have hz := HZ.out.drew
              have hv := b9
              clear b9
              go_wp2_with fail
              go_roundw
              case rel => exact ⟨t + 1, htl, by go_num, by rw [HSt.out]; exact hz, hv⟩
              case measure => simp [intOf]; omega

          · obtain rfl : t = ms.length := by omega
            clear CD1 HE1 HMX htl ht
            have k0 := fun v (h : Below wr.heap.size wr v) => k0 v (Below.more hv h)
            have k1 := fun v (h : Below wr.heap.size wr v) => k1 v (Below.more hv h)
            have b0 := Below.refl wr.heap.size wr
            have hB := Lib.hid (Nat.le_refl wr.heap.size)
            have HZ := Lib.hid hz; have HV := Lib.hid hv
            have hzl := hz.lt
            clear hz
            go_upto_region 15 with fail
            go_cut [12] from 109 to 121 (fun t wx => (∃ pp, t = .pointer (some ⟨pp, 0, none⟩) ∧ wr.heap.size ≤ pp ∧ Zc pp (.string ⟨(W i ms.length).1.toArray⟩) (.string ⟨(W i ms.length).2.toArray⟩) wx) ∧ Below wr.heap.size wr wx)
            case first =>
              first | (go_region_held3 (fun w' => Below wr.heap.size wr w')
                (repeat' (first | (with_reducible assumption) | (with_reducible refine Below.drew ?_) | (with_reducible refine up_alloc ?_ _) | (with_reducible refine put2 ?_ (by first | exact Nat.le_refl _ | exact Below.size (by with_reducible assumption) | exact Nat.le_trans (Below.size (by with_reducible assumption)) (Nat.le_add_right _ _)) _ _)))
                (first | (go_at_call 17; (with_reducible show Calls _ _ #[.slice pr1 C.length c1, .string ⟨a.toArray⟩, .string ⟨s.toArray⟩] _ _); (with_reducible refine (held (W := wr) hB.out (CC1.out _ (Below.more hv (by with_reducible assumption))) (by assumption)).mono ?_); rintro e w'' ⟨rfl, hb, hw⟩; (first | (have hz := zc_made0 hb) | (have hz := zc_made hb) | (have hz := zc_madeD hb) | skip); (try (have z0 := hz.c0; have z1 := hz.c1; have z2 := hz.f0; have z3 := hz.f1; have z4 := hz.lt))))) | fail
              all_goals (try clear z0 z1 z2 z3)
              all_goals (go_wp2_with fail)
              all_goals (go_meet)
              all_goals (exact ⟨⟨_, rfl, (by first | exact Nat.le_refl _ | exact Below.size (by with_reducible assumption)), (by (repeat' (first | exact zc_new _ _ _ _ | exact zc_is (by simp) _ _ _ | (with_reducible assumption) | refine zc_up ?_ _ | refine zc_setZ ?_ | (refine zc_far (by first | assumption | omega) ?_) | refine Zc.drew ?_)))⟩, by (repeat' (first | (with_reducible assumption) | (with_reducible refine Below.drew ?_) | (with_reducible refine up_alloc ?_ _) | (with_reducible refine put2 ?_ (by first | exact Nat.le_refl _ | exact Below.size (by with_reducible assumption) | exact Nat.le_trans (Below.size (by with_reducible assumption)) (Nat.le_add_right _ _)) _ _)))⟩)
            case rest =>
              obtain ⟨⟨p2, rfl, hp2, hz2⟩, hcc⟩ := hcut
              have ra0 := fun v (h : Below wc.heap.size wc v) => (hz2.below h).c0
              have ra1 := fun v (h : Below wc.heap.size wc v) => (hz2.below h).c1
              have hz := HZ.out.below hcc
              have rc0 := fun v (h : Below wc.heap.size wc v) => (hz.below h).c0
              have rc1 := fun v (h : Below wc.heap.size wc v) => (hz.below h).c1
              have k0 := fun v (h : Below wc.heap.size wc v) => k0 v (Below.more hcc h)
              have k1 := fun v (h : Below wc.heap.size wc v) => k1 v (Below.more hcc h)
              have HX := Lib.hid (Below.more hv hcc)
              clear hz2 hz hcc hv HZ HV b0 hB hzl hp2 CC1
              have b0 := Below.refl wc.heap.size wc
              have hB := Lib.hid (Nat.le_refl wc.heap.size)
              generalize fr i = f at *
              generalize sg i = z at *
              generalize ss i = y at *
              generalize W i ms.length = X at *
              generalize W i 0 = Y at *
              go_wp2_with fail
              refine wp_region_noPanic ?_
              refine wp_region_held_drew (S := fun w' => Below wc.heap.size wc w') (by kernel_rfl) (b0.drew) (fun hH0 => ?_)
              refine sch_in [0, 1, 2, 3, 4, 5, 6, 7, 8, 9, 11, 12, 13, 14, 15, 16] ?_
              iterate 16 (refine sch_yes (v := ?_) rfl (by kernel_rfl) (by rfl) ?_ (by assumption) ?_; rotate_left 1; (· (intro w hSw; (try dsimp only at hSw); go_simp <;> (with_reducible rfl))); try simp only [Act.put, List.getElem_toArray, List.getElem_cons_succ, List.getElem_cons_zero, List.setIfInBounds_toArray, List.set_cons_zero, List.set_cons_succ])
              refine sch_out ?_
              refine wpAnyH_ready (rs := [10]) (by kernel_rfl) (by simp) ?_
              refine AllReadyH.cons rfl (fun K hK => ?_) AllReadyH.nil
              go_simp
              refine (held (W := wc) hB.out (CU1.out _ (Below.more HX.out (by with_reducible assumption))) (by assumption)).mono ?_
              rintro e w'' ⟨rfl, hb, hw⟩
              (try go_wp2_with fail)
              refine hK.out _ _ hw (fun hH1 => ?_)
              clear hK hH0 hb
              try simp only [Act.put, List.getElem_toArray, List.getElem_cons_succ, List.getElem_cons_zero, List.setIfInBounds_toArray, List.set_cons_zero, List.set_cons_succ]
              refine wpAnyH_ready (rs := [17]) (by kernel_rfl) (by simp) ?_
              refine AllReadyH.cons rfl (fun K hK => ?_) AllReadyH.nil
              go_simp
              refine (held (W := wc) hB.out (CT1.out _ (Below.more HX.out (by with_reducible assumption))) (by assumption)).mono ?_
              rintro e w'' ⟨rfl, hb, hw⟩
              (try go_wp2_with fail)
              refine hK.out _ _ hw (fun hH2 => ?_)
              clear hK hH1 hb
              try simp only [Act.put, List.getElem_toArray, List.getElem_cons_succ, List.getElem_cons_zero, List.setIfInBounds_toArray, List.set_cons_zero, List.set_cons_succ]
              refine sch_in [18, 19] ?_
              iterate 2 (refine sch_yes (v := ?_) rfl (by kernel_rfl) (by rfl) ?_ (by assumption) ?_; rotate_left 1; (· (intro w hSw; (try dsimp only at hSw); go_simp <;> (with_reducible rfl))); try simp only [Act.put, List.getElem_toArray, List.getElem_cons_succ, List.getElem_cons_zero, List.setIfInBounds_toArray, List.set_cons_zero, List.set_cons_succ])
              refine sch_out ?_
              refine wpAnyH_done (by kernel_rfl) ?_ _
              refine NoPanic.normal ?_
              have b8 := hw
              clear hw
              go_wp2_with fail
              cases cov with
              | false =>
                go_wp2_with fail
                refine wp_region_noPanic ?_
                refine wp_region_held_drew (S := fun w' => Below wc.heap.size wc w') (by kernel_rfl) (b8.drew) (fun hH0 => ?_)
                refine sch_in [0, 1, 2, 3, 4, 5, 6, 7, 8, 9, 10, 11, 12, 13, 14, 15, 16, 17, 18, 19, 20, 21, 22, 23, 24, 25, 26, 27, 28, 29, 30] ?_
                iterate 31 (first | (refine sch_no rfl (by kernel_rfl) (by rfl) (by assumption) ?_; try simp only [Act.put, List.getElem_toArray, List.getElem_cons_succ, List.getElem_cons_zero, List.setIfInBounds_toArray, List.set_cons_zero, List.set_cons_succ]) | (refine sch_yes (v := ?_) rfl (by kernel_rfl) (by rfl) ?_ (by assumption) ?_; rotate_left 1; (· (intro w hSw; (try dsimp only at hSw); go_simp <;> (with_reducible rfl))); try simp only [Act.put, List.getElem_toArray, List.getElem_cons_succ, List.getElem_cons_zero, List.setIfInBounds_toArray, List.set_cons_zero, List.set_cons_succ]))
                refine sch_out ?_
                refine wpAnyH_done (by kernel_rfl) ?_ _
                refine NoPanic.normal ?_
                have b9 := hH0
                clear hH0
                go_wp2_with fail
                go_roundw
                case rel => exact ⟨i + 1, hlt, by go_num, Below.more HW.out (Below.more HX.out b9)⟩
                case measure => simp [intOf]; omega
              | true =>
                cases f with
                | true =>
                  go_wp2_with fail
                  refine wp_region_noPanic ?_
                  refine wp_region_held_drew (S := fun w' => Below wc.heap.size wc w') (by kernel_rfl) (b8.drew) (fun hH0 => ?_)
                  refine sch_in [0, 1, 2, 3, 4, 5, 6] ?_
                  iterate 7 (refine sch_yes (v := ?_) rfl (by kernel_rfl) (by rfl) ?_ (by assumption) ?_; rotate_left 1; (· (intro w hSw; (try dsimp only at hSw); go_simp <;> (with_reducible rfl))); try simp only [Act.put, List.getElem_toArray, List.getElem_cons_succ, List.getElem_cons_zero, List.setIfInBounds_toArray, List.set_cons_zero, List.set_cons_succ])
                  refine sch_out ?_
                  refine wpAnyH_ready (rs := [7]) (by kernel_rfl) (by simp) ?_
                  refine AllReadyH.cons rfl (fun K hK => ?_) AllReadyH.nil
                  go_simp
                  refine (held (W := wc) hB.out (CF1.out _ (Below.more HX.out (by with_reducible assumption))) (by assumption)).mono ?_
                  rintro e w'' ⟨rfl, hb, hw⟩
                  (try go_wp2_with fail)
                  refine hK.out _ _ hw (fun hH1 => ?_)
                  clear hK hH0 hb
                  try simp only [Act.put, List.getElem_toArray, List.getElem_cons_succ, List.getElem_cons_zero, List.setIfInBounds_toArray, List.set_cons_zero, List.set_cons_succ]
                  refine sch_in [8, 9, 10, 11, 12, 13, 14, 15, 16, 17, 18, 19, 20, 21, 22, 23, 24, 25, 26, 27, 28, 29, 30] ?_
                  iterate 23 (first | (refine sch_no rfl (by kernel_rfl) (by rfl) (by assumption) ?_; try simp only [Act.put, List.getElem_toArray, List.getElem_cons_succ, List.getElem_cons_zero, List.setIfInBounds_toArray, List.set_cons_zero, List.set_cons_succ]) | (refine sch_yes (v := ?_) rfl (by kernel_rfl) (by rfl) ?_ (by assumption) ?_; rotate_left 1; (· (intro w hSw; (try dsimp only at hSw); go_simp <;> (with_reducible rfl))); try simp only [Act.put, List.getElem_toArray, List.getElem_cons_succ, List.getElem_cons_zero, List.setIfInBounds_toArray, List.set_cons_zero, List.set_cons_succ]))
                  refine sch_out ?_
                  refine wpAnyH_done (by kernel_rfl) ?_ _
                  refine NoPanic.normal ?_
                  have b9 := hw
                  clear hw
                  go_wp2_with fail
                  go_roundw
                  case rel => exact ⟨i + 1, hlt, by go_num, Below.more HW.out (Below.more HX.out b9)⟩
                  case measure => simp [intOf]; omega
                | false =>
                  by_cases z0 : z < 0
                  · have y0 := HS1.out rfl rfl z0
                    have y2 : decide (0 ≤ y) = false := decide_eq_false (by omega)
                    have y3 : decide (y ≥ 0) = false := decide_eq_false (by omega)
                    clear y0
                    go_wp2_with fail
                    refine wp_region_noPanic ?_
                    refine wp_region_held_drew (S := fun w' => Below wc.heap.size wc w') (by kernel_rfl) (b8.drew) (fun hH0 => ?_)
                    refine sch_in [0, 1, 2, 3, 4, 5, 6] ?_
                    iterate 7 (refine sch_yes (v := ?_) rfl (by kernel_rfl) (by rfl) ?_ (by assumption) ?_; rotate_left 1; (· (intro w hSw; (try dsimp only at hSw); go_simp <;> (with_reducible rfl))); try simp only [Act.put, List.getElem_toArray, List.getElem_cons_succ, List.getElem_cons_zero, List.setIfInBounds_toArray, List.set_cons_zero, List.set_cons_succ])
                    refine sch_out ?_
                    refine wpAnyH_ready (rs := [7]) (by kernel_rfl) (by simp) ?_
                    refine AllReadyH.cons rfl (fun K hK => ?_) AllReadyH.nil
                    go_simp
                    refine (held (W := wc) hB.out (CF1.out _ (Below.more HX.out (by with_reducible assumption))) (by assumption)).mono ?_
                    rintro e w'' ⟨rfl, hb, hw⟩
                    (try go_wp2_with fail)
                    refine hK.out _ _ hw (fun hH1 => ?_)
                    clear hK hH0 hb
                    try simp only [Act.put, List.getElem_toArray, List.getElem_cons_succ, List.getElem_cons_zero, List.setIfInBounds_toArray, List.set_cons_zero, List.set_cons_succ]
                    refine sch_in [8, 9, 10, 11] ?_
                    iterate 4 (refine sch_yes (v := ?_) rfl (by kernel_rfl) (by rfl) ?_ (by assumption) ?_; rotate_left 1; (· (intro w hSw; (try dsimp only at hSw); go_simp <;> (with_reducible rfl))); try simp only [Act.put, List.getElem_toArray, List.getElem_cons_succ, List.getElem_cons_zero, List.setIfInBounds_toArray, List.set_cons_zero, List.set_cons_succ])
                    refine sch_out ?_
                    refine wpAnyH_ready (rs := [12]) (by kernel_rfl) (by simp) ?_
                    refine AllReadyH.cons rfl (fun K hK => ?_) AllReadyH.nil
                    go_simp
                    refine (held (W := wc) hB.out (CZ1.out _) (by assumption)).mono ?_
                    rintro e w'' ⟨rfl, hb, hw⟩
                    (try go_wp2_with fail)
                    refine hK.out _ _ hw (fun hH2 => ?_)
                    clear hK hH1 hb
                    try simp only [Act.put, List.getElem_toArray, List.getElem_cons_succ, List.getElem_cons_zero, List.setIfInBounds_toArray, List.set_cons_zero, List.set_cons_succ]
                    refine sch_in [13, 14, 15, 16, 17, 18, 19, 20, 21, 22, 23, 24, 25, 26] ?_
                    iterate 14 (refine sch_yes (v := ?_) rfl (by kernel_rfl) (by rfl) ?_ (by assumption) ?_; rotate_left 1; (· (intro w hSw; (try dsimp only at hSw); go_simp <;> (with_reducible rfl))); try simp only [Act.put, List.getElem_toArray, List.getElem_cons_succ, List.getElem_cons_zero, List.setIfInBounds_toArray, List.set_cons_zero, List.set_cons_succ])
                    refine sch_out ?_
                    refine wpAnyH_ready (rs := [27]) (by kernel_rfl) (by simp) ?_
                    refine AllReadyH.cons rfl (fun K hK => ?_) AllReadyH.nil
                    go_simp
                    refine (held (W := wc) hB.out (CG1.out _ (Below.more HX.out (by with_reducible assumption))) (by assumption)).mono ?_
                    rintro e w'' ⟨rfl, hb, hw⟩
                    (try go_wp2_with fail)
                    refine hK.out _ _ hw (fun hH3 => ?_)
                    clear hK hH2 hb
                    try simp only [Act.put, List.getElem_toArray, List.getElem_cons_succ, List.getElem_cons_zero, List.setIfInBounds_toArray, List.set_cons_zero, List.set_cons_succ]
                    refine wpAnyH_ready (rs := [28]) (by kernel_rfl) (by simp) ?_
                    refine AllReadyH.cons rfl (fun K hK => ?_) AllReadyH.nil
                    go_simp
                    refine (held (W := wc) hB.out (CY1.out _) (by assumption)).mono ?_
                    rintro e w'' ⟨rfl, hb, hw⟩
                    (try go_wp2_with fail)
                    refine hK.out _ _ hw (fun hH4 => ?_)
                    clear hK hH3 hb
                    try simp only [Act.put, List.getElem_toArray, List.getElem_cons_succ, List.getElem_cons_zero, List.setIfInBounds_toArray, List.set_cons_zero, List.set_cons_succ]
                    refine sch_in [29, 30] ?_
                    iterate 2 (refine sch_yes (v := ?_) rfl (by kernel_rfl) (by rfl) ?_ (by assumption) ?_; rotate_left 1; (· (intro w hSw; (try dsimp only at hSw); go_simp <;> (with_reducible rfl))); try simp only [Act.put, List.getElem_toArray, List.getElem_cons_succ, List.getElem_cons_zero, List.setIfInBounds_toArray, List.set_cons_zero, List.set_cons_succ])
                    refine sch_out ?_
                    refine wpAnyH_done (by kernel_rfl) ?_ _
                    refine NoPanic.normal ?_
                    have b9 := hw
                    clear hw
                    go_wp2_with fail
                    go_roundw
                    case rel => exact ⟨i + 1, hlt, by go_num, Below.more HW.out (Below.more HX.out b9)⟩
                    case measure => simp [intOf]; omega
                  · have z1 : decide (z < 0) = false := decide_eq_false z0
                    clear z0
                    go_wp2_with fail
                    refine wp_region_noPanic ?_
                    refine wp_region_held_drew (S := fun w' => Below wc.heap.size wc w') (by kernel_rfl) (b8.drew) (fun hH0 => ?_)
                    refine sch_in [0, 1, 2, 3, 4, 5, 6] ?_
                    iterate 7 (refine sch_yes (v := ?_) rfl (by kernel_rfl) (by rfl) ?_ (by assumption) ?_; rotate_left 1; (· (intro w hSw; (try dsimp only at hSw); go_simp <;> (with_reducible rfl))); try simp only [Act.put, List.getElem_toArray, List.getElem_cons_succ, List.getElem_cons_zero, List.setIfInBounds_toArray, List.set_cons_zero, List.set_cons_succ])
                    refine sch_out ?_
                    refine wpAnyH_ready (rs := [7]) (by kernel_rfl) (by simp) ?_
                    refine AllReadyH.cons rfl (fun K hK => ?_) AllReadyH.nil
                    go_simp
                    refine (held (W := wc) hB.out (CF1.out _ (Below.more HX.out (by with_reducible assumption))) (by assumption)).mono ?_
                    rintro e w'' ⟨rfl, hb, hw⟩
                    (try go_wp2_with fail)
                    refine hK.out _ _ hw (fun hH1 => ?_)
                    clear hK hH0 hb
                    try simp only [Act.put, List.getElem_toArray, List.getElem_cons_succ, List.getElem_cons_zero, List.setIfInBounds_toArray, List.set_cons_zero, List.set_cons_succ]
                    refine sch_in [8, 9, 10, 11] ?_
                    iterate 4 (refine sch_yes (v := ?_) rfl (by kernel_rfl) (by rfl) ?_ (by assumption) ?_; rotate_left 1; (· (intro w hSw; (try dsimp only at hSw); go_simp <;> (with_reducible rfl))); try simp only [Act.put, List.getElem_toArray, List.getElem_cons_succ, List.getElem_cons_zero, List.setIfInBounds_toArray, List.set_cons_zero, List.set_cons_succ])
                    refine sch_out ?_
                    refine wpAnyH_ready (rs := [12]) (by kernel_rfl) (by simp) ?_
                    refine AllReadyH.cons rfl (fun K hK => ?_) AllReadyH.nil
                    go_simp
                    refine (held (W := wc) hB.out (CZ1.out _) (by assumption)).mono ?_
                    rintro e w'' ⟨rfl, hb, hw⟩
                    (try go_wp2_with fail)
                    refine hK.out _ _ hw (fun hH2 => ?_)
                    clear hK hH1 hb
                    try simp only [Act.put, List.getElem_toArray, List.getElem_cons_succ, List.getElem_cons_zero, List.setIfInBounds_toArray, List.set_cons_zero, List.set_cons_succ]
                    refine sch_in [13, 14, 15, 16, 17, 18, 19, 20, 21, 22, 23, 24, 25, 26, 27, 28, 29, 30] ?_
                    iterate 18 (first | (refine sch_no rfl (by kernel_rfl) (by rfl) (by assumption) ?_; try simp only [Act.put, List.getElem_toArray, List.getElem_cons_succ, List.getElem_cons_zero, List.setIfInBounds_toArray, List.set_cons_zero, List.set_cons_succ]) | (refine sch_yes (v := ?_) rfl (by kernel_rfl) (by rfl) ?_ (by assumption) ?_; rotate_left 1; (· (intro w hSw; (try dsimp only at hSw); go_simp <;> (with_reducible rfl))); try simp only [Act.put, List.getElem_toArray, List.getElem_cons_succ, List.getElem_cons_zero, List.setIfInBounds_toArray, List.set_cons_zero, List.set_cons_succ]))
                    refine sch_out ?_
                    refine wpAnyH_done (by kernel_rfl) ?_ _
                    refine NoPanic.normal ?_
                    have b9 := hw
                    clear hw
                    go_wp2_with fail
                    go_roundw
                    case rel => exact ⟨i + 1, hlt, by go_num, Below.more HW.out (Below.more HX.out b9)⟩
                    case measure => simp [intOf]; omega

    · obtain rfl : i = ms.length := by omega
      clear CG CC CT CU CD HE CF CZ CY HS
      have b0 := Below.refl Wr.heap.size Wr
      go_wp2_with fail
      refine (CM.out _ _ _ hc1 L1x.out).mono ?_
      rintro e w9 ⟨rfl, b9⟩
      go_wp2_with fail
      go_ret
      exact ⟨rfl, Below.more BX b9⟩
end Go.Proofs.YtamibckbebifkaaGreatDoor

/- The document's words on who is free, sums by asset, balanced lines. -/
import Derived.Test.YtagfndkfjbbpjaaGreatDoorSch
import Derived.Test.YtagfndkfjbbpjaaGreatDoorAllRefB8
namespace Go.Proofs.YtagfndkfjbbpjaaGreatDoor
open Go.RowKit
set_option linter.unusedSimpArgs false
set_option linter.unusedVariables false
theorem free_no {s : ByteArray} (h : s.size = 0) : isFree s.data.toList = false := by
 have : s.data.toList = [] := List.length_eq_zero_iff.1 h
 rw [this]; rfl
theorem free_head {s : ByteArray} (h : 0 < s.size) : isFree s.data.toList = decide ((s[0].toNat : Int) = 33) := by
 have e := byte_at s 0 h
 cases hl : s.data.toList with
 | nil => rw [hl] at e; cases e
 | cons c r =>
  rw [hl] at e
  have e : c = s[0] := Option.some.inj e
  rw [← e]
  unfold isFree
  split
  ·rename_i x heq
   obtain ⟨rfl, _⟩ := List.cons.inj heq
   rfl
  ·rename_i l' hne
   refine (decide_eq_false fun k => hne r ?_).symm
   rw [show c = 33 from UInt8.toNat_inj.1 (by show c.toNat = 33; omega)]
set_option maxRecDepth 100000 in
set_option maxHeartbeats 4000000 in
theorem rpfree_any (s : ByteArray) (w : World) :
  Calls Tryz.prog 65 #[.string s] w fun e w' => e = .returned (.bool (isFree s.data.toList)) ∧ w = w' := by
 by_cases h0 : s.size = 0
 ·have HO := Lib.hid (free_no h0)
  have h1 : ¬ (0 : Int) < (s.size : Int) := by omega
  clear h0
  go_enter Tryz.func65, Tryz.ntmps65
  go_wp2
  go_ret
  exact ⟨ret_bool (by rw [HO.out]), rfl⟩
 ·have hp : 0 < s.size := by omega
  have HO := Lib.hid (free_head hp)
  clear h0
  by_cases h : (s[0].toNat : Int) = 33
  ·go_enter Tryz.func65, Tryz.ntmps65
   go_wp2
   go_ret
   exact ⟨ret_bool (by rw [HO.out, decide_eq_true h]), rfl⟩
  ·go_enter Tryz.func65, Tryz.ntmps65
   go_wp2
   go_ret
   exact ⟨ret_bool (by rw [HO.out, decide_eq_false h]; first | rfl | exact beq_false_of_ne h | simp [h]), rfl⟩
def sumT (ms : List Ln) (u : List UInt8) (k : Nat) : Key := sumL ((ms.take k).filter fun x => x.1.2 == u)
theorem sumT_0 (ms : List Ln) (u : List UInt8) : sumT ms u 0 = ([48], [49]) := rfl
theorem sumT_end (ms : List Ln) (u : List UInt8) : sumT ms u ms.length = sumA ms u := by unfold sumT sumA; rw [List.take_length]
theorem sumT_yes {ms : List Ln} {u : List UInt8} {k : Nat} {x : Ln} (hx : ms[k]? = some x) (e : (x.1.2 == u) = true) : sumT ms u (k + 1) = addR (sumT ms u k) x.2 := by
 unfold sumT sumL
 rw [take_more _ hx, List.foldl_append]
 show List.foldl _ _ (if x.1.2 == u then [x] else []) = _
 rw [e]; rfl
theorem sumT_no {ms : List Ln} {u : List UInt8} {k : Nat} {x : Ln} (hx : ms[k]? = some x) (e : (x.1.2 == u) = false) : sumT ms u (k + 1) = sumT ms u k := by
 unfold sumT sumL
 rw [take_more _ hx, List.foldl_append]
 show List.foldl _ _ (if x.1.2 == u then [x] else []) = _
 rw [e]; rfl
set_option maxRecDepth 100000 in
set_option maxHeartbeats 4000000 in
theorem rpsum_any (p : Option Addr) (c : Nat) (ms : List Ln) (u : List UInt8) (w : World) (hc : ms.length ≤ c) (hl : ms.length ≤ 1000000) (hz : ∀ x ∈ ms, SzF x) (hq : ∀ k, k < ms.length → Fit (sumT ms u k)) (h : Lns w p ms) :
  Calls Tryz.prog 93 #[.slice p ms.length c, .string ⟨u.toArray⟩] w (GiveR w (sumA ms u)) := by
 have co : ∀ w, Calls Tryz.prog 28 #[.int .i64 0] w (GiveR w ([48], [49])) := fun w => by
  have k := rqof_any 0 w (by decide) (by decide)
  rw [wd_0] at k
  exact k
 have ca : ∀ (k : Nat) (x : Ln), ms[k]? = some x → (x.1.2 == u) = true → ∀ w, Calls Tryz.prog 29 #[.agg #[.string ⟨(sumT ms u k).1.toArray⟩, .string ⟨(sumT ms u k).2.toArray⟩], .agg #[.string ⟨x.2.1.toArray⟩, .string ⟨x.2.2.toArray⟩]] w (GiveR w (sumT ms u (k + 1))) := fun k x hx e w => by
  have hk := (List.getElem?_eq_some_iff.1 hx).1
  have hf := hq k hk
  have s3 := (hz x (List.mem_of_getElem? hx)).2
  rw [sumT_yes hx e]
  exact rqadd_any ⟨(sumT ms u k).1.toArray⟩ ⟨(sumT ms u k).2.toArray⟩ ⟨x.2.1.toArray⟩ ⟨x.2.2.toArray⟩ w (by rw [size_of]; exact Nat.le_trans hf.1 (by decide)) (by rw [size_of]; exact Nat.le_trans hf.2 (by decide)) (by rw [size_of]; exact Nat.le_trans s3.1 (by decide)) (by rw [size_of]; exact Nat.le_trans s3.2 (by decide))
 have HE := Lib.hid (sumT_end ms u)
 have CO := Lib.hid co; have CA := Lib.hid ca; have HL := Lib.hid h
 clear co ca hz hq h
 go_enter Tryz.func93, Tryz.ntmps93
 go_wp2_with fail
 obtain ⟨W, hW, BW, sW, r0, r1, r2, r3⟩ := box0z w (.string ⟨#[]⟩) (.string ⟨#[]⟩) 35
 rw [hW]; clear hW
 have b0 := Below.refl W.heap.size W
 refine (CO.out _).mono ?_
 rintro e w2 ⟨rfl, b⟩
 have b2 := Below.more b0 b
 clear b
 have ba := fun x => Below.alloc b2 (Below.size b2) x
 go_upto_region 2 with fail
 obtain ⟨U, hV, bV, sV, q0, q1⟩ := lay b2 (.string ⟨#[48]⟩) (.string ⟨#[49]⟩) 35
 rw [hV]
 have hz : Zc w2.heap.size (.string ⟨#[48]⟩) (.string ⟨#[49]⟩) U := hV ▸ zc_new _ _ _ _
 have hU2 : Below w2.heap.size w2 U := hV ▸ Below.step _ (Below.refl _ _)
 clear hV ba q0 q1
 have BU := Below.more BW bV
 have b2s : W.heap.size ≤ w2.heap.size := b2.size
 have hlw : w.heap.size < w2.heap.size := by omega
 have HN := Lib.hid (Nat.ne_of_lt hlw)
 have HLU := Lib.hid (HL.out.below BU)
 have hold : ∀ (p' : Addr), p'.block < w.heap.size → p'.block ≠ w2.heap.size := fun p' h => by omega
 have HOLD := Lib.hid hold
 have HLW := Lib.hid (fun (k : Nat) (x : Ln) (hx : ms[k]? = some x) => (HL.out k x hx))
 have y0 := r0 U bV; have y1 := r1 U bV; have y2 := r2 U bV; have y3 := r3 U bV
 have hlt2 : w2.heap.size < U.heap.size := hz.lt
 clear b0 b2 r0 r1 r2 r3 CO hU2 hold b2s
 go_wp2_with fail
 go_loopw [6] (fun i wr => ∃ k : Nat, k ≤ ms.length ∧ i = .int .i64 k ∧ Zc w2.heap.size (.string ⟨(sumT ms u k).1.toArray⟩) (.string ⟨(sumT ms u k).2.toArray⟩) wr ∧ U.grownBy wr (some w2.heap.size)) (fun i _ => ms.length - (intOf i).toNat)
 case atStart => exact ⟨0, Nat.zero_le _, rfl, by rw [sumT_0]; exact hz, ⟨rfl, rfl, rfl, Nat.le_refl _, fun _ _ _ => rfl⟩⟩
 case round =>
  obtain ⟨k, hk, rfl, hz', hg⟩ := hrel
  by_cases hlt' : k < ms.length
  ·obtain ⟨⟨⟨a, s⟩, ⟨n, d⟩⟩, hx⟩ : ∃ x, ms[k]? = some x := ⟨_, List.getElem?_eq_getElem hlt'⟩
   obtain ⟨b, o, hp, hbl, c0, c1, c2, c3⟩ := HLU.out k _ hx
   have hnb : b ≠ w2.heap.size := by
    obtain ⟨b', o', hp', hbl', _⟩ := HLW.out k _ hx
    rw [hp] at hp'; cases hp'
    omega
   subst hp
   have k1 : ∀ v, U.grownBy v (some w2.heap.size) → v.cell? ⟨b, o + k * 4 + 1, none⟩ = some (.string ⟨s.toArray⟩) := fun v h => gb_cell h c1 hnb
   have k2 : ∀ v, U.grownBy v (some w2.heap.size) → v.cell? ⟨b, o + k * 4 + 2, none⟩ = some (.string ⟨n.toArray⟩) := fun v h => gb_cell h c2 hnb
   have k3 : ∀ v, U.grownBy v (some w2.heap.size) → v.cell? ⟨b, o + k * 4 + 3, none⟩ = some (.string ⟨d.toArray⟩) := fun v h => gb_cell h c3 hnb
   have hk1 : (k : Int) < (ms.length : Int) := by omega
   cases e0 : (s == u) with
   | false =>
    have HS := Lib.hid (sumT_no hx e0)
    have hG := Lib.hid hg; have hZ := Lib.hid hz'
    clear CA hx c0 c1 c2 c3 hbl hnb y0 y1 y2 y3 k2 k3 hz'
    go_wp2_with fail
    go_roundw
    case rel => exact ⟨k + 1, hlt', by go_num, by rw [HS.out]; exact hZ.out, hG.out⟩
    case measure => simp [intOf]; omega
   | true =>
    have CAk := Lib.hid (CA.out k _ hx e0)
    have hzd := hz'.drew
    have z0 := hzd.c0; have z1 := hzd.c1
    clear CA hx c0 c1 c2 c3 hbl hnb y0 y1 y2 y3 hz'
    go_wp2_with fail
    refine wp_region_noPanic ?_
    refine wp_region_held_drew (S := fun w' => U.grownBy w' (some w2.heap.size)) (by kernel_rfl) (gb_drew hg) (fun hH0 => ?_)
    refine sch_in [1, 2, 3, 4, 5] ?_
    iterate 5 (refine sch_yes (v := ?_) rfl (by kernel_rfl) (by rfl) ?_ (by assumption) ?_; rotate_left 1; (· (intro w hSw; (try dsimp only at hSw); go_simp <;> (with_reducible rfl))); try simp only [Act.put, qA, qB, qC, qD, qE, qF])
    refine sch_out ?_
    refine wpAnyH_ready (rs := [0]) (by kernel_rfl) (by simp) ?_
    refine AllReadyH.cons rfl (fun K hK => ?_) AllReadyH.nil
    go_simp
    refine hK.out _ _ hH0 (fun hH1 => ?_)
    clear hK hH0
    try simp only [Act.put, qA, qB, qC, qD, qE, qF]
    refine wpAnyH_ready (rs := [6]) (by kernel_rfl) (by simp) ?_
    refine AllReadyH.cons rfl (fun K hK => ?_) AllReadyH.nil
    go_simp
    refine (heldG (CAk.out _) hH1 hzd).mono ?_
    rintro e w'' ⟨rfl, hw, hzw⟩
    have z0 := hzw.c0; have z1 := hzw.c1; have z2 := hzw.f0; have z3 := hzw.f1
    (try go_wp2_with fail)
    refine hK.out _ _ hw (fun hH2 => ?_)
    clear hK hH1
    try simp only [Act.put, qA, qB, qC, qD, qE, qF]
    refine wpAnyH_ready (rs := [7]) (by kernel_rfl) (by simp) ?_
    refine AllReadyH.cons rfl (fun K hK => ?_) AllReadyH.nil
    go_simp
    refine hK.out _ _ (gb_put hH2 _ _) (fun hH3 => ?_)
    clear hK hH2
    try simp only [Act.put, qA, qB, qC, qD, qE, qF]
    refine wpAnyH_done (by kernel_rfl) ?_ _
    refine NoPanic.normal ?_
    have hZ := Lib.hid (zc_put (x := .string ⟨(sumT ms u (k + 1)).1.toArray⟩) (y := .string ⟨(sumT ms u (k + 1)).2.toArray⟩) hzw)
    have hG := Lib.hid hH3
    clear hzw hH3 z0 z1 z2 z3 hzd k2 k3
    go_wp2_with fail
    go_roundw
    case rel => exact ⟨k + 1, hlt', by go_num, hZ.out, hG.out⟩
    case measure => simp [intOf]; omega
  ·obtain rfl : k = ms.length := by omega
   rw [HE.out] at hz'
   have hb' : Below (w.heap.size + 1) U wr := Below.grown (Below.refl _ _) hg (by omega) (fun j hj => by cases hj; omega)
   have z0 := hz'.c0; have z1 := hz'.c1
   have x0 := (hb'.cell (p := ⟨w.heap.size, 0, none⟩) (Nat.lt_succ_self _)).trans y0
   have x1 := (hb'.cell (p := ⟨w.heap.size, 1, none⟩) (Nat.lt_succ_self _)).trans y1
   have x2 := (hb'.frozen (p := ⟨w.heap.size, 0, none⟩) (Nat.lt_succ_self _)).trans y2
   have x3 := (hb'.frozen (p := ⟨w.heap.size, 1, none⟩) (Nat.lt_succ_self _)).trans y3
   have hBB := Lib.hid (BU.trans (hb'.mono (Nat.le_succ _)))
   clear hb' hz' hg CA y0 y1 y2 y3 BU bV
   go_wp2_with fail
   refine bodyPost_ret (v := .agg #[.string ⟨(sumA ms u).1.toArray⟩, .string ⟨(sumA ms u).2.toArray⟩]) (by simp [results, Tryz.results93, go_sem, *]) rfl ⟨rfl, ?_⟩
   exact put2 hBB.out (Nat.le_refl _) _ _
set_option maxRecDepth 100000 in
set_option maxHeartbeats 4000000 in
theorem rpb_no (p : Option Addr) (c : Nat) (ms : List Ln) (w : World) (hc : ms.length ≤ c) (hl : ms.length ≤ 1000000) (h : Lns w p ms) (F : Nat → Bool)
  (CL : Hid (∀ (k : Nat) (x : Ln), ms[k]? = some x → ∀ w, Calls Tryz.prog 45 #[.agg #[.string ⟨x.1.1.toArray⟩, .string ⟨x.1.2.toArray⟩, .string ⟨x.2.1.toArray⟩, .string ⟨x.2.2.toArray⟩]] w (GiveB w (F k))))
  (CS : Hid ((∀ k, k < ms.length → F k = true) → ∀ (k : Nat) (x : Ln), ms[k]? = some x → ∀ V, Below w.heap.size w V → Calls Tryz.prog 93 #[.slice p ms.length c, .string ⟨x.1.2.toArray⟩] V (GiveR V (sumA ms x.1.2))))
  (CG : Hid ((∀ k, k < ms.length → F k = true) → ∀ (k : Nat) (x : Ln), ms[k]? = some x → ∀ V, Calls Tryz.prog 24 #[.agg #[.string ⟨(sumA ms x.1.2).1.toArray⟩, .string ⟨(sumA ms x.1.2).2.toArray⟩]] V (GiveI V (sgnR (sumA ms x.1.2)))))
  (HN : Hid (∀ k, k < ms.length → F k = false → balB ms = false)) (HS : Hid (∀ (k : Nat) (x : Ln), ms[k]? = some x → ¬ sgnR (sumA ms x.1.2) = 0 → balB ms = false))
  (HY : Hid ((∀ k, k < ms.length → F k = true) → (∀ (k : Nat) (x : Ln), k < ms.length → ms[k]? = some x → sgnR (sumA ms x.1.2) = 0) → balB ms = true)) :
  Calls Tryz.prog 64 #[.slice p ms.length c] w (GiveB w (balB ms)) := by
 have HL := Lib.hid h; clear h
 go_enter Tryz.func64, Tryz.ntmps64
 go_wp2
 go_loopw [3] (fun i wr => ∃ k : Nat, k ≤ ms.length ∧ i = .int .i64 k ∧ Hid (∀ j, j < k → F j = true) ∧ Below w.heap.size w wr) (fun i _ => ms.length - (intOf i).toNat)
 case atStart => exact ⟨0, Nat.zero_le _, rfl, fun j h => absurd h (Nat.not_lt_zero j), Below.refl _ _⟩
 case round =>
  obtain ⟨k, hk, rfl, HJ, hw⟩ := hrel
  by_cases hlt : k < ms.length
  ·obtain ⟨⟨⟨a, s⟩, ⟨n, d⟩⟩, hx⟩ : ∃ x, ms[k]? = some x := ⟨_, List.getElem?_eq_getElem hlt⟩
   obtain ⟨b, o, rfl, k0, k1, k2, k3⟩ := (HL.out.below hw).rule hx
   have cl := CL.out k _ hx
   have b0 := Below.refl wr.heap.size wr
   have HW := Lib.hid hw
   have HNk := Lib.hid (HN.out k hlt)
   clear hw hx
   generalize hF : F k = f at *
   have HF := Lib.hid hF
   clear hF
   dsimp only at cl
   have CLk := Lib.hid cl
   clear cl
   cases f with
   | false =>
    have HO := Lib.hid (HNk.out rfl)
    clear HNk
    go_wp2_with fail
    refine (CLk.out _).mono ?_
    rintro e w1 ⟨rfl, b⟩
    have b1 := Below.more b0 b
    clear b
    go_wp2_with fail
    go_ret
    exact ⟨ret_bool (by rw [HO.out]), Below.more HW.out b1⟩
   | true =>
    clear HNk
    go_wp2_with fail
    refine (CLk.out _).mono ?_
    rintro e w1 ⟨rfl, b⟩
    have b1 := Below.more b0 b
    clear b
    go_wp2_with fail
    go_roundw
    case rel => exact ⟨k + 1, hlt, by go_num, less_more HJ.out HF.out, Below.more HW.out b1⟩
    case measure => simp [intOf]; omega
  ·obtain rfl : k = ms.length := by omega
   have HA := Lib.hid HJ.out
   have hW0 := Lib.hid hw
   clear hw hk hlt
   have CS2 := Lib.hid (CS.out HA.out); have CG2 := Lib.hid (CG.out HA.out); have HY2 := Lib.hid (HY.out HA.out)
   go_wp2_with fail
   go_loopw [4] (fun i v => ∃ k : Nat, k ≤ ms.length ∧ i = .int .i64 k ∧ Hid (∀ (j : Nat) (x : Ln), j < k → ms[j]? = some x → sgnR (sumA ms x.1.2) = 0) ∧ Below w.heap.size w v) (fun i _ => ms.length - (intOf i).toNat)
   case atStart => exact ⟨0, Nat.zero_le _, rfl, fun j x h => absurd h (Nat.not_lt_zero j), hW0.out⟩
   case round =>
    obtain ⟨k, hk, rfl, HJ2, hw⟩ := hrel
    by_cases hlt : k < ms.length
    ·obtain ⟨⟨⟨a, s⟩, ⟨n, d⟩⟩, hx⟩ : ∃ x, ms[k]? = some x := ⟨_, List.getElem?_eq_getElem hlt⟩
     obtain ⟨b, o, rfl, k0, k1, k2, k3⟩ := (HL.out.below hw).rule hx
     have cs := CS2.out k _ hx
     have cg := CG2.out k _ hx
     have HSk := Lib.hid (HS.out k _ hx)
     have HX := Lib.hid hx
     have b0 := Below.refl wr.heap.size wr
     have HW := Lib.hid hw
     clear hw hx
     dsimp only at cs cg
     have hsg : ∃ z, sgnR (sumA ms s) = z := ⟨_, rfl⟩
     obtain ⟨z, hzz⟩ := hsg
     have HZ := Lib.hid hzz
     rw [hzz] at cg
     clear hzz
     generalize sumA ms s = q at cs cg
     have CSk := Lib.hid cs; have CGk := Lib.hid cg
     clear cs cg
     by_cases z0 : z = 0
     ·go_wp2_with fail
      refine (CSk.out _ HW.out).mono ?_
      rintro e w1 ⟨rfl, b⟩
      have b1 := Below.more b0 b
      clear b
      go_wp2_with fail
      refine (CGk.out _).mono ?_
      rintro e w2 ⟨rfl, b⟩
      have b2 := Below.more b1 b
      clear b
      go_wp2_with fail
      go_roundw
      case rel => exact ⟨k + 1, hlt, by go_num, more HJ2.out HX.out (HZ.out.trans z0), Below.more HW.out b2⟩
      case measure => simp [intOf]; omega
     ·go_wp2_with fail
      refine (CSk.out _ HW.out).mono ?_
      rintro e w1 ⟨rfl, b⟩
      have b1 := Below.more b0 b
      clear b
      go_wp2_with fail
      refine (CGk.out _).mono ?_
      rintro e w2 ⟨rfl, b⟩
      have b2 := Below.more b1 b
      clear b
      go_wp2_with fail
      go_ret
      exact ⟨ret_bool (by rw [HSk.out (fun e => z0 (HZ.out.symm.trans e))]), Below.more HW.out b2⟩
    ·obtain rfl : k = ms.length := by omega
     have HR := Lib.hid (HY2.out HJ2.out)
     have HW := Lib.hid hw; clear hw
     go_wp2_with fail
     go_ret
     exact ⟨ret_bool (by rw [HR.out]), HW.out⟩
theorem rpbal_any (p : Option Addr) (c : Nat) (ms : List Ln) (w : World) {D M : Nat} (hc : ms.length ≤ c) (hl : ms.length ≤ 1000000) (hz : ∀ x ∈ ms, SzF x) (hs : Sized D (M * ms.length)) (ht : (∀ x ∈ ms, lineOk x = true) → Tame D M ms) (h : Lns w p ms) :
  Calls Tryz.prog 64 #[.slice p ms.length c] w (GiveB w (balB ms)) := by
 have hall : (∀ k, k < ms.length → (match ms[k]? with | some x => lineOk x | none => true) = true) → ∀ x ∈ ms, lineOk x = true := fun H x hx => by
  obtain ⟨k, hk, rfl⟩ := List.getElem_of_mem hx
  have := H k hk
  rw [List.getElem?_eq_getElem hk] at this
  exact this
 have fits : (∀ x ∈ ms, lineOk x = true) → ∀ L : List Ln, (∀ x ∈ L, x ∈ ms) → L.length ≤ ms.length → Fit (sumL L) := fun H L h1 h2 => sum_fit (ht H) (fun x hx => ok_rat (H x hx)) h1 h2 hs
 refine rpb_no p c ms w hc hl h (fun k => match ms[k]? with | some x => lineOk x | none => true) (Lib.hid fun k x hx v => ?_) (Lib.hid fun H k x hx V hV => ?_) (Lib.hid fun H k x hx V => ?_) (Lib.hid fun k hk hF => ?_) (Lib.hid fun k x hx hn => ?_) (Lib.hid fun H1 H2 => ?_)
 ·obtain ⟨⟨a, s⟩, ⟨n, d⟩⟩ := x
  have z := hz _ (List.mem_of_getElem? hx)
  dsimp only
  rw [hx]
  exact rbline_any a s n d v z.1.1 z.1.2 (Nat.le_trans z.2.1 (by decide)) (Nat.le_trans z.2.2 (by decide))
 ·refine rpsum_any p c ms x.1.2 V hc hl hz (fun j hj => fits (hall H) _ (fun y hy => List.mem_of_mem_take (List.mem_filter.1 hy).1) ?_) (h.below hV)
  exact Nat.le_trans (List.length_filter_le _ _) (by rw [List.length_take]; omega)
 ·have hf : Fit (sumA ms x.1.2) := fits (hall H) _ (fun y hy => (List.mem_filter.1 hy).1) (List.length_filter_le _ _)
  exact rqsign_any ⟨(sumA ms x.1.2).1.toArray⟩ ⟨(sumA ms x.1.2).2.toArray⟩ V (by rw [size_of]; exact Nat.le_trans hf.1 (by decide)) (by rw [size_of]; exact Nat.le_trans hf.2 (by decide))
 ·rw [List.getElem?_eq_getElem hk] at hF
  unfold balB
  rw [List.all_eq_false.2 ⟨_, List.getElem_mem hk, by have hF : lineOk ms[k] = false := hF; rw [hF]; decide⟩, Bool.false_and]
 ·unfold balB
  rw [List.all_eq_false (p := fun x => sgnR (sumA ms x.1.2) == 0) |>.2 ⟨x, List.mem_of_getElem? hx, by rw [beq_false_of_ne hn]; decide⟩, Bool.and_false]
 ·unfold balB
  rw [List.all_eq_true.2 (hall H1), List.all_eq_true.2 fun x hx => by
   obtain ⟨k, hk, e⟩ := List.getElem_of_mem hx
   have := H2 k x hk (by rw [List.getElem?_eq_getElem hk, e])
   rw [this]; rfl]
  rfl
end Go.Proofs.YtagfndkfjbbpjaaGreatDoor

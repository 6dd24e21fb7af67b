/- A line more, all ways joined; an asset's total. -/
import Derived.Lib.HexFns
import Derived.Lib.HexFns2
import Derived.Lib.BufferOwn
import Derived.Test.YtagfndkfjbbpjaaGreatDoorSch
import Derived.Test.YtagfndkfjbbpjaaGreatDoorAllRefB6
namespace Go.Proofs.YtagfndkfjbbpjaaGreatDoor
open Go.RowKit
set_option linter.unusedSimpArgs false
set_option linter.unusedVariables false
theorem gb_call {U v v' : World} {b : Nat} (h : U.grownBy v (some b)) (k : Below v.heap.size v v') : U.grownBy v' (some b) := Lib.grownBy_below h k
theorem gb_drew {U v : World} {b : Nat} (h : U.grownBy v (some b)) : U.grownBy v.drew (some b) := ⟨h.os, h.tape, h.output, h.size, h.block⟩
theorem gb_put {U v : World} {b : Nat} (h : U.grownBy v (some b)) (x y : Value) : U.grownBy ((v.setCell ⟨b, 0, none⟩ x).setCell ⟨b, 1, none⟩ y) (some b) := Lib.grownBy_setB (Lib.grownBy_setB h 0 x) 1 y
theorem gb_cell {U v : World} {b g i : Nat} {x : Value} (h : U.grownBy v (some b)) (hg : U.cell? ⟨g, i, none⟩ = some x) (hn : g ≠ b) : v.cell? ⟨g, i, none⟩ = some x := h.cell hg (fun e => hn (Option.some.inj e))
theorem heldG {P : Program} {f : FuncId} {args : Array Value} {r : Nat} {u U : World} {s t v : Value} (c : Calls P f args u fun e w' => e = .returned v ∧ Below u.heap.size u w') (h : U.grownBy u (some r)) (hz : Zc r s t u) :
  Calls P f args u fun e w' => e = .returned v ∧ U.grownBy w' (some r) ∧ Zc r s t w' := c.mono fun _ _ ⟨he, hb⟩ => ⟨he, gb_call h hb, hz.below hb⟩
theorem sum_step {hs : List Ln} {k : Nat} {x : Ln} (hx : hs[k]? = some x) : sumL (hs.take (k + 1)) = addR (sumL (hs.take k)) x.2 := by
 unfold sumL
 rw [List.take_add_one, hx, List.foldl_append]
 rfl
set_option maxRecDepth 100000 in
set_option maxHeartbeats 4000000 in
theorem rbt_no (p : Option Addr) (c : Nat) (ls : List Ln) (u : List UInt8) (w : World)
  (CM : Hid (∀ v, Below w.heap.size w v → Calls Tryz.prog 22 #[.slice p ls.length c] v (GiveB v false))) :
  Calls Tryz.prog 26 #[.slice p ls.length c, .string ⟨u.toArray⟩] w (GiveR w ([], [])) := by
 go_enter Tryz.func26, Tryz.ntmps26
 go_wp2_with fail
 obtain ⟨W, hW, BW, sW, r0, r1, r2, r3⟩ := box0z w (.string ⟨#[]⟩) (.string ⟨#[]⟩) 35
 rw [hW]; clear hW
 have b0 := Below.refl W.heap.size W
 refine (CM.out _ BW).mono ?_
 rintro e w1 ⟨rfl, b⟩
 have b1 := Below.more b0 b
 clear b
 go_wp2_with fail
 refine bodyPost_ret (v := .agg #[.string ⟨#[]⟩, .string ⟨#[]⟩]) (by simp [results, Tryz.results26, go_sem, *]) rfl ⟨rfl, ?_⟩
 exact put2 (Below.more BW b1) (Nat.le_refl _) _ _
set_option maxRecDepth 100000 in
set_option maxHeartbeats 4000000 in
theorem rbt_yes (p : Option Addr) (c : Nat) (ls : List Ln) (u : List UInt8) (w : World) (hs : List Ln) (hsl : hs.length ≤ 1000000) (hr : ∀ x ∈ hs, isR x.2 = true) (S : Nat → Key) (h0 : S 0 = ([48], [49]))
  (CM : Hid (∀ v, Below w.heap.size w v → Calls Tryz.prog 22 #[.slice p ls.length c] v (GiveB v true)))
  (CO : Hid (∀ w, Calls Tryz.prog 28 #[.int .i64 0] w (GiveR w ([48], [49]))))
  (CH : Hid (∀ v, Below w.heap.size w v → Calls Tryz.prog 49 #[.slice p ls.length c, .string ⟨u.toArray⟩] v (GiveL v hs)))
  (CA : Hid (∀ (k : Nat) (x : Ln), hs[k]? = some x → ∀ w, Calls Tryz.prog 29 #[.agg #[.string ⟨(S k).1.toArray⟩, .string ⟨(S k).2.toArray⟩], .agg #[.string ⟨x.2.1.toArray⟩, .string ⟨x.2.2.toArray⟩]] w (GiveR w (S (k + 1))))) :
  Calls Tryz.prog 26 #[.slice p ls.length c, .string ⟨u.toArray⟩] w (GiveR w (S hs.length)) := by
 go_enter Tryz.func26, Tryz.ntmps26
 go_wp2_with fail
 obtain ⟨W, hW, BW, sW, r0, r1, r2, r3⟩ := box0z w (.string ⟨#[]⟩) (.string ⟨#[]⟩) 35
 rw [hW]; clear hW
 have b0 := Below.refl W.heap.size W
 refine (CM.out _ BW).mono ?_
 rintro e w1 ⟨rfl, b⟩
 have b1 := Below.more b0 b
 clear b
 go_wp2_with fail
 refine (CO.out _).mono ?_
 rintro e w2 ⟨rfl, b⟩
 have b2 := Below.more b1 b
 clear b
 have ba := fun x => Below.alloc b2 (Below.size b2) x
 go_wp2_with fail
 obtain ⟨V, hV, bV, sV, q0, q1⟩ := lay b2 (.string ⟨#[48]⟩) (.string ⟨#[49]⟩) 35
 rw [hV]
 have hz : Zc w2.heap.size (.string ⟨#[48]⟩) (.string ⟨#[49]⟩) V := hV ▸ zc_new _ _ _ _
 clear hV ba q0 q1
 refine (CH.out _ (Below.more BW bV)).mono ?_
 rintro e U ⟨⟨p', c', rfl, hc', hL, hfr⟩, b⟩
 have hz := hz.below b
 have bU := Below.more bV b
 have b2s : W.heap.size ≤ w2.heap.size := b2.size
 have hne : w.heap.size ≠ w2.heap.size := by omega
 have hlt : w2.heap.size < U.heap.size := by have := b.size; omega
 have BU := Below.more BW bU
 have y0 := r0 U bU; have y1 := r1 U bU; have y2 := r2 U bU; have y3 := r3 U bU
 clear b0 b1 b2 bV r0 r1 r2 r3 b CM CO CH
 have HN := Lib.hid hne
 have HL := Lib.hid hL
 have HF := Lib.hid hfr
 have hlw : w.heap.size < w2.heap.size := by have := b2s; omega
 clear hL hfr hne b2s
 go_wp2_with fail
 go_loopw [7] (fun i wr => ∃ k : Nat, k ≤ hs.length ∧ i = .int .i64 k ∧ Zc w2.heap.size (.string ⟨(S k).1.toArray⟩) (.string ⟨(S k).2.toArray⟩) wr ∧ U.grownBy wr (some w2.heap.size)) (fun i _ => hs.length - (intOf i).toNat)
 case atStart => exact ⟨0, Nat.zero_le _, rfl, by rw [h0]; exact hz, ⟨rfl, rfl, rfl, Nat.le_refl _, fun _ _ _ => rfl⟩⟩
 case round =>
  obtain ⟨k, hk, rfl, hz', hg⟩ := hrel
  by_cases hlt' : k < hs.length
  ·obtain ⟨⟨⟨a, s⟩, ⟨n, d⟩⟩, hx⟩ : ∃ x, hs[k]? = some x := ⟨_, List.getElem?_eq_getElem hlt'⟩
   obtain ⟨b, o, hp, hbl, c0, c1, c2, c3⟩ := HL.out k _ hx
   have hnb : b ≠ w2.heap.size := by have := HF.out _ hp; have : V.heap.size ≤ b := this; omega
   subst hp
   have k2 : ∀ v, U.grownBy v (some w2.heap.size) → v.cell? ⟨b, o + k * 4 + 2, none⟩ = some (.string ⟨n.toArray⟩) := fun v h => gb_cell h c2 hnb
   have k3 : ∀ v, U.grownBy v (some w2.heap.size) → v.cell? ⟨b, o + k * 4 + 3, none⟩ = some (.string ⟨d.toArray⟩) := fun v h => gb_cell h c3 hnb
   have CAk := Lib.hid (CA.out k _ hx)
   have hzd := hz'.drew
   have z0 := hzd.c0; have z1 := hzd.c1
   have hk1 : (k : Int) < (hs.length : Int) := by omega
   clear CA hx c0 c1 c2 c3 hbl hnb y0 y1 y2 y3 hz'
   go_wp2_with fail
   refine wp_region_noPanic ?_
   refine wp_region_held_drew (S := fun w' => U.grownBy w' (some w2.heap.size)) (by kernel_rfl) (gb_drew hg) (fun hH0 => ?_)
   refine sch_in [1, 2, 3, 4, 5] ?_
   iterate 5 (refine sch_yes (v := ?_) rfl (by kernel_rfl) (by rfl) ?_ (by assumption) ?_; rotate_left 1; (· (intro w hSw; (try dsimp only at hSw); go_simp <;> (with_reducible rfl))); try simp only [Act.put, qA, qB, qC, qD, qE, qF])
   refine sch_out ?_
   refine wpAnyH_ready (rs := [0]) (by kernel_rfl) (by simp) ?_
   refine AllReadyH.cons rfl (fun K hK => ?_) AllReadyH.nil
   go_simp
   refine hK.out _ _ hH0 (fun hH1 => ?_)
   clear hK hH0
   try simp only [Act.put, qA, qB, qC, qD, qE, qF]
   refine wpAnyH_ready (rs := [6]) (by kernel_rfl) (by simp) ?_
   refine AllReadyH.cons rfl (fun K hK => ?_) AllReadyH.nil
   go_simp
   refine (heldG (CAk.out _) hH1 hzd).mono ?_
   rintro e w'' ⟨rfl, hw, hzw⟩
   have z0 := hzw.c0; have z1 := hzw.c1; have z2 := hzw.f0; have z3 := hzw.f1
   (try go_wp2_with fail)
   refine hK.out _ _ hw (fun hH2 => ?_)
   clear hK hH1
   try simp only [Act.put, qA, qB, qC, qD, qE, qF]
   refine wpAnyH_ready (rs := [7]) (by kernel_rfl) (by simp) ?_
   refine AllReadyH.cons rfl (fun K hK => ?_) AllReadyH.nil
   go_simp
   refine hK.out _ _ (gb_put hH2 _ _) (fun hH3 => ?_)
   clear hK hH2
   try simp only [Act.put, qA, qB, qC, qD, qE, qF]
   refine wpAnyH_done (by kernel_rfl) ?_ _
   refine NoPanic.normal ?_
   have hZ := Lib.hid (zc_put (x := .string ⟨(S (k + 1)).1.toArray⟩) (y := .string ⟨(S (k + 1)).2.toArray⟩) hzw)
   have hG := Lib.hid hH3
   clear hzw hH3 z0 z1 z2 z3 hzd k2 k3
   go_wp2_with fail
   go_roundw
   case rel => exact ⟨k + 1, hlt', by go_num, hZ.out, hG.out⟩
   case measure => simp [intOf]; omega
  ·obtain rfl : k = hs.length := by omega
   have hb' : Below (w.heap.size + 1) U wr := Below.grown (Below.refl _ _) hg (by omega) (fun j hj => by cases hj; have := HN.out; omega)
   have z0 := hz'.c0; have z1 := hz'.c1
   have x0 := (hb'.cell (p := ⟨w.heap.size, 0, none⟩) (Nat.lt_succ_self _)).trans y0
   have x1 := (hb'.cell (p := ⟨w.heap.size, 1, none⟩) (Nat.lt_succ_self _)).trans y1
   have x2 := (hb'.frozen (p := ⟨w.heap.size, 0, none⟩) (Nat.lt_succ_self _)).trans y2
   have x3 := (hb'.frozen (p := ⟨w.heap.size, 1, none⟩) (Nat.lt_succ_self _)).trans y3
   have hBB := Lib.hid (BU.trans (hb'.mono (Nat.le_succ _)))
   clear hb' hz' hg CA y0 y1 y2 y3 BU bU
   go_wp2_with fail
   refine bodyPost_ret (v := .agg #[.string ⟨(S hs.length).1.toArray⟩, .string ⟨(S hs.length).2.toArray⟩]) (by simp [results, Tryz.results26, go_sem, *]) rfl ⟨rfl, ?_⟩
   exact put2 hBB.out (Nat.le_refl _) _ _
end Go.Proofs.YtagfndkfjbbpjaaGreatDoor

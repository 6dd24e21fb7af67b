/- The program's instruct: a day's run; what the laws want of it. -/
import Derived.Test.YtagfndkfjbbpjaaGreatDoorAllInA
import Derived.Test.YtagfndkfjbbpjaaGreatDoorAllInB
import Derived.Test.YtagfndkfjbbpjaaGreatDoorInsApi
namespace Go.Proofs.YtagfndkfjbbpjaaGreatDoor
open Go.RowKit Go.Maps Go.Lib
set_option linter.unusedSimpArgs false
set_option linter.unusedVariables false
theorem keep_cell {w w' : World} {row : Option Nat} {b o : Nat} {v : Value} (hg : w.grownBy w' row) (hlt : b < w.heap.size) (hne : some b ≠ row) (h : w.cell? ⟨b, o, none⟩ = some v) : w'.cell? ⟨b, o, none⟩ = some v :=
 (World.cell?_of_block (w := w) (hg.block b hlt hne)).trans h
structure RunM (B bm n : Nat) (w : World) (b : List Ln) (rest done : Value) (fs : List In) (ns : List Int) : Prop where
 own1 : OwnI B w rest fs
 own2 : OwnN B w done ns
 map : ∃ D, HoldM w bm n (numH b) D
 lt : bm < B
 sep : ∀ g, rest.ownBlock = some g → done.ownBlock ≠ some g
 big : B ≤ w.heap.size
section
variable {B bm n : Nat} {w w' : World} {b : List Ln} {rest done : Value} {fs : List In} {ns : List Int}
theorem RunM.mono (s : RunM B bm n w b rest done fs ns) {m : Nat} (h : n ≤ m) : RunM B bm m w b rest done fs ns := by
 obtain ⟨D, hD⟩ := s.map
 exact ⟨s.own1, s.own2, ⟨D, hD.mono h⟩, s.lt, s.sep, s.big⟩
theorem RunM.below (s : RunM B bm n w b rest done fs ns) (hb : Below w.heap.size w w') : RunM B bm n w' b rest done fs ns := by
 obtain ⟨D, hD⟩ := s.map
 exact ⟨ownG_below s.own1 hb, ownG_below s.own2 hb, ⟨D, hD.below hb⟩, s.lt, s.sep, Nat.le_trans s.big (Below.size hb)⟩
theorem RunM.turn (s : RunM B bm n w b rest done fs ns) {m : Nat} {b' : List Ln} (hg : w.grownBy w' (some bm)) {D : DV} (hD : HoldM w' bm m (numH b') D) : RunM B bm m w' b' rest done fs ns := by
 have k : ∀ {e : TypeId} {sz len : Nat} {v : Value} {xs : List Value}, w.ownsRow B e sz v len xs → v.ownBlock = none ∨ v.ownBlock ≠ some bm := fun h => .inr fun e => by
  have := (World.ownsRow.lt h bm e).1; have := s.lt; omega
 exact ⟨World.ownsRow.kept s.own1 hg (k s.own1), World.ownsRow.kept s.own2 hg (k s.own2), ⟨D, hD⟩, s.lt, s.sep, Nat.le_trans s.big hg.size⟩
theorem RunM.addDone {v' : Value} {m : Int} (s : RunM B bm n w b rest done fs ns) (ho : OwnN B w' v' (ns ++ [m])) (hg : w.grownBy w' done.ownBlock) (hloc : v'.ownBlock = done.ownBlock ∨ ∃ g, v'.ownBlock = some g ∧ w.heap.size ≤ g) : RunM B bm n w' b rest v' fs (ns ++ [m]) := by
 obtain ⟨D, hD⟩ := s.map
 have hne : some bm ≠ done.ownBlock := fun e => by have := (World.ownsRow.lt s.own2 bm e.symm).1; have := s.lt; omega
 refine ⟨World.ownsRow.kept s.own1 hg ?_, ho, ⟨D, hD.grown hg hne⟩, s.lt, fun g e c => ?_, Nat.le_trans s.big hg.size⟩
 ·cases e : rest.ownBlock with
  | none => exact .inl rfl
  | some g => exact .inr fun c => s.sep g e c.symm
 ·rcases hloc with k | ⟨h, k, hge⟩
  ·exact s.sep g e (k.symm.trans c)
  ·rw [k] at c
   have := Option.some.inj c
   have := (World.ownsRow.lt s.own1 g e).2
   omega
theorem RunM.addRest {v' : Value} {x : In} (s : RunM B bm n w b rest done fs ns) (ho : OwnI B w' v' (fs ++ [x])) (hg : w.grownBy w' rest.ownBlock) (hloc : v'.ownBlock = rest.ownBlock ∨ ∃ g, v'.ownBlock = some g ∧ w.heap.size ≤ g) : RunM B bm n w' b v' done (fs ++ [x]) ns := by
 obtain ⟨D, hD⟩ := s.map
 have hne : some bm ≠ rest.ownBlock := fun e => by have := (World.ownsRow.lt s.own1 bm e.symm).1; have := s.lt; omega
 refine ⟨ho, World.ownsRow.kept s.own2 hg ?_, ⟨D, hD.grown hg hne⟩, s.lt, fun g e c => ?_, Nat.le_trans s.big hg.size⟩
 ·cases e : done.ownBlock with
  | none => exact .inl rfl
  | some g => exact .inr fun c => s.sep g c.symm e
 ·rcases hloc with k | ⟨h, k, hge⟩
  ·exact s.sep g (k.symm.trans e) c
  ·rw [k] at e
   have := Option.some.inj e
   have := (World.ownsRow.lt s.own2 g c).2
   omega
theorem giveRun_m {W : World} {r : Option Addr} {cc : Nat} (s : RunM B bm n w' b rest done fs ns) (hL : Lns w' r b) (hc : b.length ≤ cc) (hb : Below W.heap.size W w') : GiveRun W ⟨b, fs, ns, 0⟩ (.returned (.tuple #[.slice r b.length cc, rest, done, .int .i64 0])) w' := by
 obtain ⟨p1, c1, rfl, h1, r1, _⟩ := ownG_rows (enc := encI) (k := 10) (fun _ => rfl) s.own1
 obtain ⟨p2, c2, rfl, h2, r2, _⟩ := ownG_rows (enc := encN) (k := 1) (fun _ => rfl) s.own2
 exact ⟨⟨r, cc, p1, c1, p2, c2, rfl, ⟨hc, h1, h2⟩, hL, ins_of r1, nums_of r2⟩, hb⟩
end
theorem runM_start {w : World} {bm n : Nat} {b : List Ln} {D : DV} (h : HoldM w bm n (numH b) D) : RunM (bm + 1) bm n w b (.slice none 0 0) (.slice none 0 0) [] [] :=
 ⟨World.ownsRow_nil _ _ _ _, World.ownsRow_nil _ _ _ _, ⟨D, h⟩, Nat.lt_succ_self _, fun _ e => (by cases e), h.map.lt⟩
set_option maxRecDepth 100000 in
set_option maxHeartbeats 4000000 in
theorem prun_a (p : Option Addr) (c : Nat) (ls : List Ln) (q : Option Addr) (d : Nat) (l : List In) (day : Int) (w : World)
  (CM : Hid (∀ V, Below w.heap.size w V → Calls Tryz.prog 33 #[.slice p ls.length c] V (GiveB V false))) :
  Calls Tryz.prog 11 #[.slice p ls.length c, .slice q l.length d, .int .i64 day] w (GiveRun w ⟨[], [], [], 1⟩) := by
 go_enter Tryz.func11, Tryz.ntmps11
 go_wp2_with fail
 have b0 := Below.refl w.heap.size w
 refine (CM.out _ b0).mono ?_
 rintro e w1 ⟨rfl, b⟩
 have b1 := Below.more b0 b
 clear b
 go_wp2_with fail
 refine bodyPost_ret (v := .tuple #[.slice none 0 0, .slice none 0 0, .slice none 0 0, .int .i64 1]) (by simp [results, Tryz.results11, go_sem, *]) rfl ?_
 exact giveRun_no b1
set_option maxRecDepth 100000 in
set_option maxHeartbeats 4000000 in
theorem prun_b (p : Option Addr) (c : Nat) (ls : List Ln) (q : Option Addr) (d : Nat) (l : List In) (day : Int) (w : World)
  (CM : Hid (∀ V, Below w.heap.size w V → Calls Tryz.prog 33 #[.slice p ls.length c] V (GiveB V true)))
  (CI : Hid (∀ V, Below w.heap.size w V → Calls Tryz.prog 16 #[.slice q l.length d] V (GiveB V false))) :
  Calls Tryz.prog 11 #[.slice p ls.length c, .slice q l.length d, .int .i64 day] w (GiveRun w ⟨[], [], [], 1⟩) := by
 go_enter Tryz.func11, Tryz.ntmps11
 go_wp2_with fail
 have b0 := Below.refl w.heap.size w
 refine (CM.out _ b0).mono ?_
 rintro e w1 ⟨rfl, b⟩
 have b1 := Below.more b0 b
 clear b
 go_wp2_with fail
 refine (CI.out _ b1).mono ?_
 rintro e w2 ⟨rfl, b⟩
 have b2 := Below.more b1 b
 clear b
 go_wp2_with fail
 refine bodyPost_ret (v := .tuple #[.slice none 0 0, .slice none 0 0, .slice none 0 0, .int .i64 1]) (by simp [results, Tryz.results11, go_sem, *]) rfl ?_
 exact giveRun_no b2
set_option maxRecDepth 100000 in
set_option maxHeartbeats 4000000 in
theorem prun_main (p : Option Addr) (c : Nat) (ls : List Ln) (q : Option Addr) (d : Nat) (l : List In) (day : Int) (w : World) (B : Nat → List Ln) (F : Nat → List In) (N : Nat → List Int) (AP : Nat → List Ln × Int) (n0 : Nat) (hB0 : B 0 = ls) (hF0 : F 0 = []) (hN0 : N 0 = []) (hl : l.length ≤ 1000000) (hI : Ins w q l)
  (HFF : Hid (∀ k, (F k).length ≤ 3000000)) (HNN : Hid (∀ k, (N k).length ≤ 3000000))
  (HAP : Hid (∀ (k : Nat) (x : In), l[k]? = some x → AP k = applyB (B k) (linesI x) true))
  (HST : Hid (∀ (k : Nat) (x : In), l[k]? = some x → ((x.due ≤ day ∧ (AP k).2 = 0) → B (k + 1) = (AP k).1 ∧ F (k + 1) = F k ∧ N (k + 1) = N k ++ [x.id]) ∧ (¬ (x.due ≤ day ∧ (AP k).2 = 0) → B (k + 1) = B k ∧ F (k + 1) = F k ++ [x] ∧ N (k + 1) = N k)))
  (CM : Hid (∀ V, Below w.heap.size w V → Calls Tryz.prog 33 #[.slice p ls.length c] V (GiveB V true)))
  (CI : Hid (∀ V, Below w.heap.size w V → Calls Tryz.prog 16 #[.slice q l.length d] V (GiveB V true)))
  (CH : Hid (∀ V, Below w.heap.size w V → Calls Tryz.prog 34 #[.slice p ls.length c] V (fun e w' => ∃ D, e = .returned (.map (some V.heap.size)) ∧ HoldM w' V.heap.size n0 (numH (B 0)) D ∧ Below V.heap.size V w')))
  (CL : Hid (∀ (k : Nat) (x : In), l[k]? = some x → ∀ V, Calls Tryz.prog 14 #[.agg #[.int .i64 x.id, .int .i64 x.dealt, .int .i64 x.due, .string ⟨x.frm.toArray⟩, .string ⟨x.dst.toArray⟩, .string ⟨x.ast.toArray⟩, .string ⟨x.q.1.toArray⟩, .string ⟨x.q.2.toArray⟩, .string ⟨x.pay.1.toArray⟩, .string ⟨x.pay.2.toArray⟩]] V (GiveLI V (linesI x))))
  (CS : Hid (∀ (k : Nat) (x : In), l[k]? = some x → ∀ V bm q' d' D, HoldM V bm (n0 + 2000 * k) (numH (B k)) D → (linesI x).length ≤ d' → Lns V q' (linesI x) → Calls Tryz.prog 35 #[.map (some bm), .slice q' (linesI x).length d'] V (GiveSet V bm (n0 + 2000 * k) (B k) (linesI x))))
  (CB : Hid (∀ V bm D, HoldM V bm (n0 + 2000 * l.length) (numH (B l.length)) D → Calls Tryz.prog 36 #[.map (some bm)] V (fun e w' => (∃ p cc, e = .returned (.slice p (B l.length).length cc) ∧ (B l.length).length ≤ cc ∧ Lns w' p (B l.length)) ∧ Below V.heap.size V w'))) :
  Calls Tryz.prog 11 #[.slice p ls.length c, .slice q l.length d, .int .i64 day] w (GiveRun w ⟨B l.length, F l.length, N l.length, 0⟩) := by
 have HI := Lib.hid hI; have HB0 := Lib.hid hB0; have HF0 := Lib.hid hF0; have HN0 := Lib.hid hN0
 clear hI hB0 hF0 hN0
 go_enter Tryz.func11, Tryz.ntmps11
 go_wp2_with fail
 have b0 := Below.refl w.heap.size w
 refine (CM.out _ b0).mono ?_
 rintro e w1 ⟨rfl, b⟩
 have b1 := Below.more b0 b
 clear b
 go_wp2_with fail
 refine (CI.out _ b1).mono ?_
 rintro e w2 ⟨rfl, b⟩
 have b2 := Below.more b1 b
 clear b
 go_wp2_with fail
 refine (CH.out _ b2).mono ?_
 rintro e w3 ⟨D0, rfl, hD0, b⟩
 have b3 := Below.more b2 b
 obtain ⟨bm, hbm⟩ : ∃ bm, w2.heap.size = bm := ⟨_, rfl⟩
 have HBW : Hid (w.heap.size ≤ bm) := Lib.hid (by rw [← hbm]; exact Below.size b2)
 rw [hbm] at hD0 ⊢
 have HS00 := Lib.hid (runM_start hD0)
 have HW00 := Lib.hid b3
 clear b b0 b1 b2 b3 CM CI CH hD0 hbm
 go_wp2_with fail
 go_loopw [11, 12, 27] (fun rest done i wr => ∃ (k : Nat), k ≤ l.length ∧ i = .int .i64 k ∧ Hid (RunM (bm + 1) bm (n0 + 2000 * k) wr (B k) rest done (F k) (N k)) ∧ Below w.heap.size w wr) (fun _ _ i _ => l.length - (intOf i).toNat)
 case atStart => exact ⟨0, Nat.zero_le _, rfl, by rw [HF0.out, HN0.out]; exact HS00, HW00.out⟩
 case round =>
  clear HS00 HW00
  obtain ⟨k, hk, rfl, HS0, hw⟩ := hrel
  by_cases hlt : k < l.length
  ·obtain ⟨⟨i, g, u, f, t, a, ⟨qn, qd⟩, ⟨pn, pd⟩⟩, hx⟩ : ∃ x, l[k]? = some x := ⟨_, List.getElem?_eq_getElem hlt⟩
   obtain ⟨b, o, rfl, k0, k1, k2, k3, k4, k5, k6, k7, k8, k9⟩ := (HI.out.below hw).rule hx
   have cl := CL.out k _ hx
   have cs := CS.out k _ hx
   have hst := HST.out k _ hx
   have hap := HAP.out k _ hx
   dsimp only at cl cs hst
   obtain ⟨LL, hLL⟩ : ∃ LL, linesI (In.mk i g u f t a (qn, qd) (pn, pd)) = LL := ⟨_, rfl⟩
   rw [hLL] at cl cs hap
   rw [hap] at hst
   have CLk := Lib.hid cl
   have CSk := Lib.hid fun V q' d' D => cs V bm q' d' D
   have HNl := Lib.hid (HNN.out k)
   have HFl := Lib.hid (HFF.out k)
   have HW := Lib.hid hw
   have HNE : Hid (some wr.heap.size ≠ some bm) := Lib.hid fun e => by have := HS0.out.big; have := Option.some.inj e; omega
   have b0 := Below.refl wr.heap.size wr
   clear cl cs hw hx hLL hap
   go_upto_region 9 with fail
   obtain ⟨U, hU, bU, s1, r0, r1, r2, r3, r4, r5, r6, r7, r8, r9⟩ := lay10 b0 (.int .i64 i) (.int .i64 g) (.int .i64 u) (.string ⟨f.toArray⟩) (.string ⟨t.toArray⟩) (.string ⟨a.toArray⟩) (.string ⟨qn.toArray⟩) (.string ⟨qd.toArray⟩) (.string ⟨pn.toArray⟩) (.string ⟨pd.toArray⟩) 37
   rw [hU]; clear hU k0 k1 k2 k3 k4 k5 k6 k7 k8 k9 b0
   have HSU := Lib.hid (HS0.out.below bU)
   have HWU := Lib.hid (HW.out.trans (bU.mono (Below.size HW.out)))
   have HLU : Hid (wr.heap.size < U.heap.size) := Lib.hid (by omega)
   have b0 := Below.refl U.heap.size U
   clear bU s1 HS0 HW
   by_cases hdue : u ≤ day
   ·cases hz : ((applyB (B k) LL true).2 == 0) with
    | true =>
     have hz0 := eq_of_beq hz
     obtain ⟨h1, h2, h3⟩ := hst.1 ⟨hdue, hz0⟩
     have HB1 := Lib.hid h1; have HF1 := Lib.hid h2; have HN1 := Lib.hid h3
     have HZ := Lib.hid hz; have HZ0 := Lib.hid hz0
     clear h1 h2 h3 hst hz hz0
     go_wp2_with fail
     refine (CLk.out _).mono ?_
     rintro e w1 ⟨⟨q', d', rfl, hd', hLq⟩, b1⟩
     have HS1 := Lib.hid (HSU.out.below b1)
     have HW1 := Lib.hid (HWU.out.trans (b1.mono (Below.size HWU.out)))
     obtain ⟨D, hD⟩ := HS1.out.map
     have cs := CSk.out w1 q' d' D hD hd' hLq
     have r0 := r0 w1 b1
     have r1 := r1 w1 b1
     have r2 := r2 w1 b1
     have r3 := r3 w1 b1
     have r4 := r4 w1 b1
     have r5 := r5 w1 b1
     have r6 := r6 w1 b1
     have r7 := r7 w1 b1
     have r8 := r8 w1 b1
     have r9 := r9 w1 b1
     have HLT : Hid (wr.heap.size < w1.heap.size) := Lib.hid (Nat.lt_of_lt_of_le HLU.out (Below.size b1))
     clear CSk CLk hD hd' hLq b1 b0
     go_wp2_with fail
     refine cs.mono ?_
     rintro e w2 ⟨rfl, ⟨D2, hD2⟩, hg2⟩
     have HW2 := Lib.hid (grown_in HW1.out hg2 HBW.out)
     have m0 := keep_cell hg2 HLT.out HNE.out r0
     have m1 := keep_cell hg2 HLT.out HNE.out r1
     have m2 := keep_cell hg2 HLT.out HNE.out r2
     have m3 := keep_cell hg2 HLT.out HNE.out r3
     have m4 := keep_cell hg2 HLT.out HNE.out r4
     have m5 := keep_cell hg2 HLT.out HNE.out r5
     have m6 := keep_cell hg2 HLT.out HNE.out r6
     have m7 := keep_cell hg2 HLT.out HNE.out r7
     have m8 := keep_cell hg2 HLT.out HNE.out r8
     have m9 := keep_cell hg2 HLT.out HNE.out r9
     clear cs r0 r1 r2 r3 r4 r5 r6 r7 r8 r9
     rw [HZ0.out, if_pos rfl] at hD2
     have HS2 := Lib.hid (HS1.out.turn hg2 hD2)
     rw [HZ.out]
     clear hD2 hg2 HS1 HSU
     go_wp2_with (at_builtin; refine halt ?_)
     show wpList _ _ _ _ _ _
     refine wpList_append_G rfl _ _ 28 3 rfl Tryz.underlying28 numInfo rfl (by decide) (by decide) (fun _ => rfl) encN_one (bm + 1) _ (N k) rfl (World.ownsRow.alloc HS2.out.own2 _) ⟨w2.heap.size, 0, none⟩ i 1 rfl (rowsOne w2 i 3 _ rfl) HNl.out (by have := HS2.out.big; simp; omega) ?_
     intro v' w3 ho hg hloc
     have HS3 := Lib.hid (HS2.out.addDone ho ((World.grownBy_alloc w2 _ _).trans hg) (hloc.imp id fun h => ⟨_, h, by simp⟩))
     have HW3 := Lib.hid (Below.grown (Below.alloc HW2.out (Below.size HW2.out) _) hg (Below.size (Below.alloc HW2.out (Below.size HW2.out) _)) fun j hj => by have := (World.ownsRow.lt HS2.out.own2 j hj).1; have := HBW.out; omega)
     clear ho hg hloc
     go_frame
     go_wp2_with fail
     go_roundw
     case rel => exact ⟨k + 1, hlt, by go_num, (by rw [HB1.out, HF1.out, HN1.out]; exact Lib.hid (HS3.out.mono (m := n0 + 2000 * (k + 1)) (by omega))), HW3.out⟩
     case measure => simp [intOf]; omega
    | false =>
     have hz0 : ¬ (applyB (B k) LL true).2 = 0 := fun c => by rw [c] at hz; cases hz
     obtain ⟨h1, h2, h3⟩ := hst.2 (fun h => hz0 h.2)
     have HB1 := Lib.hid h1; have HF1 := Lib.hid h2; have HN1 := Lib.hid h3
     have HZ := Lib.hid hz; have HZ0 := Lib.hid hz0
     clear h1 h2 h3 hst hz hz0
     go_wp2_with fail
     refine (CLk.out _).mono ?_
     rintro e w1 ⟨⟨q', d', rfl, hd', hLq⟩, b1⟩
     have HS1 := Lib.hid (HSU.out.below b1)
     have HW1 := Lib.hid (HWU.out.trans (b1.mono (Below.size HWU.out)))
     obtain ⟨D, hD⟩ := HS1.out.map
     have cs := CSk.out w1 q' d' D hD hd' hLq
     have r0 := r0 w1 b1
     have r1 := r1 w1 b1
     have r2 := r2 w1 b1
     have r3 := r3 w1 b1
     have r4 := r4 w1 b1
     have r5 := r5 w1 b1
     have r6 := r6 w1 b1
     have r7 := r7 w1 b1
     have r8 := r8 w1 b1
     have r9 := r9 w1 b1
     have HLT : Hid (wr.heap.size < w1.heap.size) := Lib.hid (Nat.lt_of_lt_of_le HLU.out (Below.size b1))
     clear CSk CLk hD hd' hLq b1 b0
     go_wp2_with fail
     refine cs.mono ?_
     rintro e w2 ⟨rfl, ⟨D2, hD2⟩, hg2⟩
     have HW2 := Lib.hid (grown_in HW1.out hg2 HBW.out)
     have m0 := keep_cell hg2 HLT.out HNE.out r0
     have m1 := keep_cell hg2 HLT.out HNE.out r1
     have m2 := keep_cell hg2 HLT.out HNE.out r2
     have m3 := keep_cell hg2 HLT.out HNE.out r3
     have m4 := keep_cell hg2 HLT.out HNE.out r4
     have m5 := keep_cell hg2 HLT.out HNE.out r5
     have m6 := keep_cell hg2 HLT.out HNE.out r6
     have m7 := keep_cell hg2 HLT.out HNE.out r7
     have m8 := keep_cell hg2 HLT.out HNE.out r8
     have m9 := keep_cell hg2 HLT.out HNE.out r9
     clear cs r0 r1 r2 r3 r4 r5 r6 r7 r8 r9
     rw [if_neg HZ0.out] at hD2
     have HS2 := Lib.hid (HS1.out.turn hg2 hD2)
     rw [HZ.out]
     clear hD2 hg2 HS1 HSU
     go_wp2_with (at_builtin; refine halt ?_)
     show wpList _ _ _ _ _ _
     refine wpList_append_G rfl _ _ 24 37 rfl Tryz.underlying24 insInfo rfl (by decide) (by decide) (fun _ => rfl) encI_one (bm + 1) _ (F k) rfl (World.ownsRow.alloc HS2.out.own1 _) ⟨w2.heap.size, 0, none⟩ (In.mk i g u f t a (qn, qd) (pn, pd)) 1 rfl (rowsOne w2 (In.mk i g u f t a (qn, qd) (pn, pd)) 37 _ rfl) HFl.out (by have := HS2.out.big; simp; omega) ?_
     intro v' w3 ho hg hloc
     have HS3 := Lib.hid (HS2.out.addRest ho ((World.grownBy_alloc w2 _ _).trans hg) (hloc.imp id fun h => ⟨_, h, by simp⟩))
     have HW3 := Lib.hid (Below.grown (Below.alloc HW2.out (Below.size HW2.out) _) hg (Below.size (Below.alloc HW2.out (Below.size HW2.out) _)) fun j hj => by have := (World.ownsRow.lt HS2.out.own1 j hj).1; have := HBW.out; omega)
     clear ho hg hloc
     go_frame
     go_wp2_with fail
     go_roundw
     case rel => exact ⟨k + 1, hlt, by go_num, (by rw [HB1.out, HF1.out, HN1.out]; exact Lib.hid (HS3.out.mono (m := n0 + 2000 * (k + 1)) (by omega))), HW3.out⟩
     case measure => simp [intOf]; omega
   ·obtain ⟨h1, h2, h3⟩ := hst.2 (fun h => hdue h.1)
    have HB1 := Lib.hid h1; have HF1 := Lib.hid h2; have HN1 := Lib.hid h3
    clear h1 h2 h3 hst CSk CLk
    have r0 := r0 U b0
    have r1 := r1 U b0
    have r2 := r2 U b0
    have r3 := r3 U b0
    have r4 := r4 U b0
    have r5 := r5 U b0
    have r6 := r6 U b0
    have r7 := r7 U b0
    have r8 := r8 U b0
    have r9 := r9 U b0
    clear b0
    go_wp2_with (at_builtin; refine halt ?_)
    show wpList _ _ _ _ _ _
    refine wpList_append_G rfl _ _ 24 37 rfl Tryz.underlying24 insInfo rfl (by decide) (by decide) (fun _ => rfl) encI_one (bm + 1) _ (F k) rfl (World.ownsRow.alloc HSU.out.own1 _) ⟨U.heap.size, 0, none⟩ (In.mk i g u f t a (qn, qd) (pn, pd)) 1 rfl (rowsOne U (In.mk i g u f t a (qn, qd) (pn, pd)) 37 _ rfl) HFl.out (by have := HSU.out.big; simp; omega) ?_
    intro v' w3 ho hg hloc
    have HS3 := Lib.hid (HSU.out.addRest ho ((World.grownBy_alloc U _ _).trans hg) (hloc.imp id fun h => ⟨_, h, by simp⟩))
    have HW3 := Lib.hid (Below.grown (Below.alloc HWU.out (Below.size HWU.out) _) hg (Below.size (Below.alloc HWU.out (Below.size HWU.out) _)) fun j hj => by have := (World.ownsRow.lt HSU.out.own1 j hj).1; have := HBW.out; omega)
    clear ho hg hloc
    go_frame
    go_wp2_with fail
    go_roundw
    case rel => exact ⟨k + 1, hlt, by go_num, (by rw [HB1.out, HF1.out, HN1.out]; exact Lib.hid (HS3.out.mono (m := n0 + 2000 * (k + 1)) (by omega))), HW3.out⟩
    case measure => simp [intOf]; omega
  ·obtain rfl : k = l.length := by omega
   have HW := Lib.hid hw
   obtain ⟨D, hD⟩ := HS0.out.map
   have cb := CB.out wr bm D hD
   clear hw hD
   go_wp2_with fail
   refine cb.mono ?_
   rintro e w4 ⟨⟨p4, c4, rfl, hc4, hL4⟩, b4⟩
   have HS4 := Lib.hid (HS0.out.below b4)
   have HW4 := Lib.hid (HW.out.trans (b4.mono (Below.size HW.out)))
   have HL4 := Lib.hid hL4
   clear b4 hL4 cb
   go_wp2_with fail
   refine bodyPost_ret (v := .tuple #[.slice p4 (B l.length).length c4, u11, u12, .int .i64 0]) (by simp [results, Tryz.results11, go_sem, *]) rfl ?_
   exact giveRun_m HS4.out HL4.out hc4 HW4.out
theorem lnK_of {x : Ln} (h : SzF x) : LenK x.1 := ⟨Nat.le_trans h.1.1 (by unfold maxLen; omega), Nat.le_trans h.1.2 (by unfold maxLen; omega)⟩
theorem prun_any (p : Option Addr) (c : Nat) (ls : List Ln) (q : Option Addr) (d : Nat) (l : List In) (day : Int) (D M : Nat) (w : World) (hc : ls.length ≤ c) (hd : l.length ≤ d) (hl : ls.length ≤ 1000) (hl2 : l.length ≤ 40) (hz : ∀ x ∈ ls, SzF x) (hzi : ∀ x ∈ l, SzI x) (z : Sized D (M * 2000)) (t : Good ls → ∀ key, Bd D M (hasQ ls key)) (hb : ∀ x ∈ l, oneB x = true → Bd D M (valR x.q) ∧ Bd D M (valR x.pay)) (hL : Lns w p ls) (hI : Ins w q l) :
  Calls Tryz.prog 11 #[.slice p ls.length c, .slice q l.length d, .int .i64 day] w (GiveRun w (runI ls l day)) := by
 have cm := fun V (hv : Below w.heap.size w V) => bmay_any p c ls V hc (by omega) (fun x hx => (hz x hx).szL) (hL.below hv)
 have ci := fun V (hv : Below w.heap.size w V) => imay_any q d l V (by omega) hzi (hI.below hv)
 unfold runI
 cases h1 : mayB ls with
 | false => rw [h1] at cm; exact prun_a p c ls q d l day w (Lib.hid cm)
 | true =>
  rw [h1] at cm
  cases h2 : mayI l with
  | false => rw [h2] at ci; exact prun_b p c ls q d l day w (Lib.hid cm) (Lib.hid ci)
  | true =>
   rw [h2] at ci
   have hg := good_iff.1 h1
   refine prun_main p c ls q d l day w (fun k => (runTo ls l day k).book) (fun k => (runTo ls l day k).rest) (fun k => (runTo ls l day k).done) (fun k => match l[k]? with | some x => applyB (runTo ls l day k).book (linesI x) true | none => ([], 0)) 1000 rfl rfl rfl (by omega) hI
    (Lib.hid fun k => Nat.le_trans (rest_len k).1 (by omega)) (Lib.hid fun k => Nat.le_trans (rest_len k).2 (by omega)) (Lib.hid fun k x hx => ?_) (Lib.hid fun k x hx => ?_) (Lib.hid cm) (Lib.hid ci) (Lib.hid fun V hv => ?_) (Lib.hid fun k x hx V => ?_) (Lib.hid fun k x hx V bm q' d' D' hD hd' hq => ?_) (Lib.hid fun V bm D' hD => ?_)
   ·show (match l[k]? with | some x => applyB (runTo ls l day k).book (linesI x) true | none => ([], 0)) = _
    rw [hx]
   ·rw [hx]
    exact step_is hx
   ·refine (holdingsOf_any p c ls V (by omega) (fun x hx => lnK_of (hz x hx)) (hL.below hv)).mono ?_
    rintro e w' ⟨D', he, hD, hb'⟩
    exact ⟨D', he, by rw [put_all hg] at hD; exact hD.mono hl, hb'⟩
   ·obtain ⟨i, g, u, f, t, a, ⟨qn, qd⟩, ⟨pn, pd⟩⟩ := x
    exact plines_any V (hzi _ (List.mem_of_getElem? hx))
   ·have hk := (List.getElem?_eq_some_iff.1 hx).1
    have ft := run_fits (day := day) z hg hl hl2 (t hg) hb k (Nat.le_of_lt hk) (List.mem_of_getElem? hx)
    have ln := lines_len x
    have rl := run_len (l := l) (day := day) hg k (Nat.le_of_lt hk)
    exact settle_any bm _ q' d' (linesI x) _ D' D (M * 161) V ft.good (lines_bal x) (by omega) hd' (by omega) (by omega) ft.book ft.lines ft.way hD hq
   ·have A := along (ls := ls) (l := l) (day := day) hg l.length (Nat.le_refl _)
    exact asBook_any bm _ _ D' V A.good (by omega) hD
theorem insC : InsC (fun _ => True) where
 below := fun _ _ => trivial
 may := fun q d l w hd hl hz h _ => imay_any q d l w (by omega) hz h
 lines := fun x w hz _ => by
  obtain ⟨i, g, u, f, t, a, ⟨qn, qd⟩, ⟨pn, pd⟩⟩ := x
  exact plines_any w hz
 run := fun p c ls q d l day D M w hc hd hl hl2 hz hzi z t hb hL hI _ => prun_any p c ls q d l day D M w hc hd hl hl2 hz hzi z t hb hL hI
 find := fun q d l n w hd hl h _ => pfind_any q d l n w (by omega) h
end Go.Proofs.YtagfndkfjbbpjaaGreatDoor

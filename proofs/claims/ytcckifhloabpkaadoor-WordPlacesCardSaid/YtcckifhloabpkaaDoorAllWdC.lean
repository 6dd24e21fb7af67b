/- The program's tokens of a text. -/
import Derived.ScopeJumps
import Derived.Deep.CutRange
import Derived.Test.YtcckifhloabpkaaDoorAllWdB
namespace Go.Proofs.YtcckifhloabpkaaDoor
open Go.RowKit
open Fl (fl)
open Wd (Tk lexAt lexD)
set_option linter.unusedSimpArgs false
set_option linter.unusedVariables false
section
variable {P : Program} {a : Act} {w : World} {Q : Exit → Act → World → Prop}
theorem jump_weak {l : Nat} {J J' : Act → World → Prop} (h : ∀ a w, J a w → J' a w) : ∀ e a w, Exit.jump l J Q e a w → Exit.jump l J' Q e a w := fun e a w hq => by
  cases e with
  | goto l' => exact ⟨hq.1, h a w hq.2⟩
  | _ => exact hq
/-- A scope with one label, that is jumped back to: one pass from the label serves for the first one too. -/
theorem wp_scope_pass {c rest : Code} (l : Nat) (J : Act → World → Prop) (μ : Act → World → Nat) (hf : findLabel c l = some (.seq .skip rest))
    (pass : ∀ a w, J a w → rest.wp P (Exit.jump l (fun a' w' => J a' w' ∧ μ a' w' < μ a w) Q) a w)
    (first : (∀ a w, J a w → rest.wp P (Exit.jump l J Q) a w) → c.wp P (Exit.jump l J Q) a w) : (Code.scope c).wp P Q a w :=
  wp_scope_jumps l J μ hf (first fun a w h => wp_mono (pass a w h) (jump_weak fun _ _ h => h.1)) fun a w h => wp_seq (wp_skip (pass a w h))
end
/-- What the program wants of the world: its table of greatest sizes. -/
structure GoodL (w : World) : Prop where
  c0 : w.cell? ⟨0, 0, none⟩ = some (.int .i64 20)
  c1 : w.cell? ⟨0, 1, none⟩ = some (.int .i64 100)
  c2 : w.cell? ⟨0, 2, none⟩ = some (.int .i64 1)
theorem GoodL.lt {w : World} (h : GoodL w) : 0 < w.heap.size := World.block_lt_of_cell? w ⟨0, 0, none⟩ h.c0
theorem GoodL.below {w w' : World} (h : GoodL w) (hb : Below w.heap.size w w') : GoodL w' :=
  ⟨(hb.cell (p := ⟨0, 0, none⟩) h.lt).trans h.c0, (hb.cell (p := ⟨0, 1, none⟩) h.lt).trans h.c1, (hb.cell (p := ⟨0, 2, none⟩) h.lt).trans h.c2⟩
def lim (k : Nat) : Nat := if k = 0 then 20 else if k = 1 then 100 else 1
theorem GoodL.cell {w : World} (h : GoodL w) {k : Nat} (hk : k < 3) : w.cell? ⟨0, k, none⟩ = some (.int .i64 (lim k : Int)) := by
  match k, hk with
  | 0, _ => exact h.c0
  | 1, _ => exact h.c1
  | 2, _ => exact h.c2
theorem fst_cons (x : UInt8) (r : List UInt8) : fst (x :: r) = if Wd.isLet x then (0, Wd.run Wd.isLD (x :: r)) else if Wd.isDig x then (1, Wd.numL (x :: r)) else if Wd.isSgn x then (2, 1) else (0, 0) := rfl
theorem fst_lt (x : UInt8) (r : List UInt8) : (fst (x :: r)).1 < 3 := by
  rw [fst_cons]
  split
  · exact (by decide : 0 < 3)
  · split
    · exact (by decide : 1 < 3)
    · split
      · exact (by decide : 2 < 3)
      · exact (by decide : 0 < 3)
theorem fst_le (x : UInt8) (r : List UInt8) : (fst (x :: r)).2 ≤ (x :: r).length := by
  rw [fst_cons]
  split
  · exact Wd.run_le _ _
  · split
    · exact Wd.num_le _
    · split
      · rw [List.length_cons]; exact Nat.le_add_left 1 _
      · exact Nat.zero_le _
theorem fst_kl (x : UInt8) (r : List UInt8) : Wd.kl (x :: r) = if (fst (x :: r)).2 = 0 ∨ lim (fst (x :: r)).1 < (fst (x :: r)).2 then none else some ((fst (x :: r)).1, (fst (x :: r)).2) := by
  rw [Wd.kl_cons]
  cases h1 : Wd.isLet x with
  | true =>
    have e : fst (x :: r) = (0, Wd.run Wd.isLD (x :: r)) := by rw [fst_cons, if_pos h1]
    have hp : Wd.run Wd.isLD (x :: r) = Wd.run Wd.isLD r + 1 := Wd.run_pos (by unfold Wd.isLD; rw [h1]; rfl)
    rw [e, if_pos rfl]
    show _ = if Wd.run Wd.isLD (x :: r) = 0 ∨ 20 < Wd.run Wd.isLD (x :: r) then none else some (0, Wd.run Wd.isLD (x :: r))
    by_cases c : Wd.run Wd.isLD (x :: r) ≤ 20
    · rw [if_pos c, if_neg (by omega)]
    · rw [if_neg c, if_pos (by omega)]
  | false =>
    rw [if_neg (by decide)]
    cases h2 : Wd.isDig x with
    | true =>
      have e : fst (x :: r) = (1, Wd.numL (x :: r)) := by rw [fst_cons, if_neg (by rw [h1]; decide), if_pos h2]
      have hp := Wd.num_pos (r := r) h2
      rw [e, if_pos rfl]
      show _ = if Wd.numL (x :: r) = 0 ∨ 100 < Wd.numL (x :: r) then none else some (1, Wd.numL (x :: r))
      by_cases c : Wd.numL (x :: r) ≤ 100
      · rw [if_pos c, if_neg (by omega)]
      · rw [if_neg c, if_pos (by omega)]
    | false =>
      rw [if_neg (by decide)]
      cases h3 : Wd.isSgn x with
      | true =>
        have e : fst (x :: r) = (2, 1) := by rw [fst_cons, if_neg (by rw [h1]; decide), if_neg (by rw [h2]; decide), if_pos h3]
        rw [e, if_pos rfl, if_neg (by decide)]
      | false =>
        have e : fst (x :: r) = (0, 0) := by rw [fst_cons, if_neg (by rw [h1]; decide), if_neg (by rw [h2]; decide), if_neg (by rw [h3]; decide)]
        rw [e, if_neg (by decide), if_pos (.inl rfl)]
/-- On the way: tokens that are read, and what is still to be read. -/
def LexP (l : List UInt8) (ts : List Tk) (t : List UInt8) (L C : Nat) : Prop := lexAt l 1 1 = (ts ++ (lexAt t L C).1, (lexAt t L C).2)
theorem lexP_skip {l t : List UInt8} {ts : List Tk} {L C : Nat} (h : LexP l ts t L C) : LexP l ts (skp t L C).1 (skp t L C).2.1 (skp t L C).2.2 := by
  unfold LexP at *
  rw [h, skp_lex t L C]
theorem lexP_end {l : List UInt8} {ts : List Tk} {L C : Nat} (h : LexP l ts [] L C) (hs : l.length ≤ 10000) : lexD l = (ts, 0, 0, 0) := by
  unfold LexP at h
  rw [Wd.lex_nil] at h
  unfold lexD
  rw [if_neg (by omega), h]
  show (ts ++ [], _) = _
  rw [List.append_nil]
theorem lexP_bad {l r : List UInt8} {x : UInt8} {ts : List Tk} {L C : Nat} (h : LexP l ts (x :: r) L C) (h1 : x ≠ 32) (h2 : x ≠ 10) (hk : (fst (x :: r)).2 = 0 ∨ lim (fst (x :: r)).1 < (fst (x :: r)).2) (hs : l.length ≤ 10000) : lexD l = ([], 90, L, C) := by
  have k := fst_kl x r
  rw [if_pos hk] at k
  unfold LexP at h
  rw [Wd.lex_bad L C h1 h2 k] at h
  unfold lexD
  rw [if_neg (by omega), h]
theorem lexP_tok {l r : List UInt8} {x : UInt8} {ts : List Tk} {L C : Nat} (h : LexP l ts (x :: r) L C) (h1 : x ≠ 32) (h2 : x ≠ 10) (hk : ¬ ((fst (x :: r)).2 = 0 ∨ lim (fst (x :: r)).1 < (fst (x :: r)).2)) :
    LexP l (ts ++ [Tk.mk (fst (x :: r)).1 ((x :: r).take (fst (x :: r)).2) L C]) ((x :: r).drop (fst (x :: r)).2) L (C + (fst (x :: r)).2) := by
  have k := fst_kl x r
  rw [if_neg hk] at k
  unfold LexP at *
  rw [h, Wd.lex_tok L C h1 h2 k, List.append_assoc]
  rfl
theorem cut_head (t : List UInt8) (m : Nat) : (⟨t.toArray⟩ : ByteArray).extract 0 m = ⟨(t.take m).toArray⟩ := by
  have k := cut_text ⟨t.toArray⟩ 0 m
  rw [Nat.zero_add, List.drop_zero] at k
  exact k
theorem cut_tail (t : List UInt8) (m : Nat) : (⟨t.toArray⟩ : ByteArray).extract m t.length = ⟨(t.drop m).toArray⟩ := by
  have k := cut_rest ⟨t.toArray⟩ m
  rw [size_tx] at k
  exact k
/-- How things stand at the label. -/
def LexJ (s : List UInt8) (w : World) (a' : Act) (w' : World) : Prop :=
  ∃ (t : List UInt8) (ts : List Tk) (L C : Nat) (out : Value) (u1 u8 u9 u10 u11 u12 u13 u14 u15 u16 u17 u18 u19 u20 u21 u22 u23 u24 u25 u26 u27 u28 u29 u30 u31 u32 u33 u34 u35 u36 u37 u38 u39 u40 u41 u42 u43 u44 u45 u46 u47 u48 u49 u50 u51 u52 u53 u54 u55 u56 u57 u58 u59 u60 u61 : Value), a' = { tmps := #[.string ⟨t.toArray⟩, u1, .slice none 0 0, .int .i64 0, .int .i64 0, .int .i64 0, out, plV L C, u8, u9, u10, u11, u12, u13, u14, u15, u16, u17, u18, u19, u20, u21, u22, u23, u24, u25, u26, u27, u28, u29, u30, u31, u32, u33, u34, u35, u36, u37, u38, u39, u40, u41, u42, u43, u44, u45, u46, u47, u48, u49, u50, u51, u52, u53, u54, u55, u56, u57, u58, u59, u60, u61], defers := [] } ∧
    L + t.length ≤ 10001 ∧ C + t.length ≤ 10001 ∧ ts.length + t.length ≤ 10000 ∧ Hid (LexP s ts t L C) ∧ OwnT w.heap.size w' out ts ∧ Below w.heap.size w w'
def sizeV : Value → Nat
  | .string s => s.size
  | _ => 0
set_option maxRecDepth 100000 in
set_option maxHeartbeats 4000000 in
theorem wlex_l (s : List UInt8) (w : World) (hsl : s.length ≤ 10000) (hg : GoodL w) : Calls Tryd.prog 9 #[.string ⟨s.toArray⟩] w (GiveLex w (lexD s)) := by
  have hb : ¬ (20000 : Int) < (s.length : Int) := by omega
  have HG := Lib.hid hg
  have HSL := Lib.hid hsl
  clear hg hsl
  go_enter Tryd.func9, Tryd.ntmps9
  go_wp2
  refine wp_scope_pass 0 (LexJ s w) (fun a' _ => sizeV (a'.tmps.getD 0 undef)) rfl ?_ ?_
  · rintro a' w1 ⟨t, ts, L, C, out, u1, u8, u9, u10, u11, u12, u13, u14, u15, u16, u17, u18, u19, u20, u21, u22, u23, u24, u25, u26, u27, u28, u29, u30, u31, u32, u33, u34, u35, u36, u37, u38, u39, u40, u41, u42, u43, u44, u45, u46, u47, u48, u49, u50, u51, u52, u53, u54, u55, u56, u57, u58, u59, u60, u61, rfl, hL, hC, hn, HP, ho, hw⟩
    have HO := Lib.hid ho; have HW := Lib.hid hw
    have HGW := Lib.hid (HG.out.below hw)
    clear ho hw
    have cs := fun V => wskip_any ⟨t.toArray⟩ L C V (by rw [size_tx]; omega) (by rw [size_tx]; omega)
    have HP2 := Lib.hid (lexP_skip HP.out)
    obtain ⟨f1, f2, f3⟩ := skp_fit t L C 10001 hL hC
    have fh := skp_head t L C
    have cs : ∀ V, Calls Tryd.prog 16 #[.string ⟨t.toArray⟩, plV L C] V (GiveQ V (skV (skp t L C))) := cs
    generalize skp t L C = K at *
    obtain ⟨t2, L2, C2⟩ := K
    dsimp only [skV] at cs HP2 f1 f2 f3 fh
    have CS := Lib.hid cs
    clear cs HP
    rcases fh with rfl | ⟨x, r, rfl, hx1, hx2⟩
    · have HR := Lib.hid (lexP_end HP2.out HSL.out)
      go_wp2_with fail
      refine (CS.out _).mono ?_
      rintro e w2 ⟨rfl, rfl⟩
      go_wp2_with fail
      simp only [Exit.jump]
      refine bodyPost_ret (v := .tuple #[out, .int .i64 0, .int .i64 0, .int .i64 0]) (by simp [results, Tryd.results9, go_sem, *]) rfl ?_
      exact giveLex_yes HR.out HO.out HW.out
    · have cf := fun V => wfirst_any ⟨(x :: r).toArray⟩ V (by rw [size_tx, List.length_cons]; omega) (by rw [size_tx]; omega)
      have fk := fst_lt x r
      have fl' := fst_le x r
      have hne : ¬ x :: r = [] := by simp
      have HB := fun (h : (fst (x :: r)).2 = 0 ∨ lim (fst (x :: r)).1 < (fst (x :: r)).2) => lexP_bad HP2.out hx1 hx2 h HSL.out
      have HT := fun (h : ¬ ((fst (x :: r)).2 = 0 ∨ lim (fst (x :: r)).1 < (fst (x :: r)).2)) => lexP_tok HP2.out hx1 hx2 h
      have hc1 := fun m => cut_head (x :: r) m
      have hc2 := fun m => cut_tail (x :: r) m
      have hsz := size_tx (x :: r)
      have cf : ∀ V, Calls Tryd.prog 17 #[.string ⟨(x :: r).toArray⟩] V (GiveQ V (.tuple #[.int .i64 ((fst (x :: r)).1 : Int), .int .i64 ((fst (x :: r)).2 : Int)])) := cf
      generalize fst (x :: r) = F at *
      obtain ⟨kd, sz⟩ := F
      dsimp only at cf fk fl' HB HT f1 f2 f3
      generalize x :: r = q at *
      have CF := Lib.hid cf
      have hne' : (q == []) = false := beq_false_of_ne hne
      have cw := fun V => wwrong_any L2 C2 V (by omega) (by omega)
      have CW := Lib.hid cw
      have hfl := fl'
      have hcell := HGW.out.cell fk
      have hk0 : ¬ ((kd : Nat) : Int) < 0 := by omega
      have hk3 : ((kd : Nat) : Int) < 3 := by omega
      clear cf cw HP2 hx1 hx2 HGW
      by_cases h0 : sz = 0
      · have HR := Lib.hid (HB (.inl h0))
        have hz : ((sz : Int) == 0) = true := by rw [h0]; rfl
        clear HB HT hc1 hc2
        go_wp2_with fail
        refine (CS.out _).mono ?_
        rintro e w2 ⟨rfl, rfl⟩
        go_wp2_with fail
        refine (CF.out _).mono ?_
        rintro e w3 ⟨rfl, rfl⟩
        go_wp2_with fail
        refine (CW.out _).mono ?_
        rintro e w4 ⟨rfl, rfl⟩
        go_wp2_with fail
        simp only [Exit.jump]
        refine bodyPost_ret (v := .tuple #[.slice none 0 0, .int .i64 90, .int .i64 (L2 : Int), .int .i64 (C2 : Int)]) (by simp [results, Tryd.results9, go_sem, *]) rfl ?_
        exact giveLex_no HR.out HW.out
      · have hz : ((sz : Int) == 0) = false := beq_false_of_ne (by omega)
        by_cases hl : lim kd < sz
        · have HR := Lib.hid (HB (.inr hl))
          have hl' : ((lim kd : Nat) : Int) < (sz : Int) := by omega
          clear HB HT hc1 hc2
          go_wp2_with fail
          refine (CS.out _).mono ?_
          rintro e w2 ⟨rfl, rfl⟩
          go_wp2_with fail
          refine (CF.out _).mono ?_
          rintro e w3 ⟨rfl, rfl⟩
          go_wp2_with fail
          refine (CW.out _).mono ?_
          rintro e w4 ⟨rfl, rfl⟩
          go_wp2_with fail
          simp only [Exit.jump]
          refine bodyPost_ret (v := .tuple #[.slice none 0 0, .int .i64 90, .int .i64 (L2 : Int), .int .i64 (C2 : Int)]) (by simp [results, Tryd.results9, go_sem, *]) rfl ?_
          exact giveLex_no HR.out HW.out
        · have hl' : ¬ ((lim kd : Nat) : Int) < (sz : Int) := by omega
          have HP3 := Lib.hid (HT (by omega))
          have e1 := hc1 sz
          have e2 := hc2 sz
          have hdl : (q.drop sz).length = q.length - sz := List.length_drop
          generalize q.take sz = tx at *
          generalize q.drop sz = rest at *
          have HX1 := Lib.hid e1; have HX2 := Lib.hid e2
          have ct := fun V => wtoken_any kd L2 C2 ⟨tx.toArray⟩ V (by omega) (by omega)
          have cb := fun V => wbehind_any L2 C2 sz V (by omega) (by omega)
          have CT := Lib.hid ct; have CB := Lib.hid cb
          have hs0 : ¬ ((sz : Nat) : Int) < 0 := by omega
          clear HB HT hc1 hc2 e1 e2 ct cb
          go_wp2_with fail
          refine (CS.out _).mono ?_
          rintro e w2 ⟨rfl, rfl⟩
          go_wp2_with fail
          refine (CF.out _).mono ?_
          rintro e w3 ⟨rfl, rfl⟩
          go_wp2_with fail
          rw [HX1.out]
          refine (CT.out _).mono ?_
          rintro e w4 ⟨rfl, b4⟩
          have HO4 := Lib.hid (ownG_below HO.out b4)
          have HW4 := Lib.hid (Below.more HW.out b4)
          clear HO HW b4 hcell
          go_wp2_with (at_builtin; refine haltG ?_)
          show wpList _ _ _ _ _ _
          have hrow := rowsOne (enc := encT) (k := 4) w4 (Tk.mk kd tx L2 C2) 31 #[.int .i64 (kd : Int), .string ⟨tx.toArray⟩, .int .i64 (L2 : Int), .int .i64 (C2 : Int)] rfl
          refine wpList_append_G rfl _ _ 22 31 rfl Tryd.underlying22 tokInfo rfl (by decide) (by decide) (fun _ => rfl) encT_one w.heap.size _ ts rfl (World.ownsRow.alloc HO4.out _) ⟨w4.heap.size, 0, none⟩ (Tk.mk kd tx L2 C2) 1 rfl hrow (by omega) (Below.size (Below.alloc HW4.out (Below.size HW4.out) _)) ?_
          intro v' w5 ho hg hloc
          have HO5 := Lib.hid ho
          have HW5 := Lib.hid (Below.grown (Below.alloc HW4.out (Below.size HW4.out) _) hg (Below.size (Below.alloc HW4.out (Below.size HW4.out) _)) fun j hj => (World.ownsRow.lt HO4.out j hj).1)
          clear ho hg hloc hrow HO4 HW4
          go_wp2_with fail
          go_quiet ((go_at_call 19; exact Calls.quiet_of_same (CB.out _)))
          go_wp2_with fail
          go_step3
          rw [HX2.out]
          have bd := below_drewN (Below.refl w5.heap.size w5) nq
          refine ⟨rfl, ⟨rest, ts ++ [Tk.mk kd tx L2 C2], L2, C2 + sz, v', _, _, _, _, _, _, _, _, _, _, _, _, _, _, _, _, _, _, _, _, _, _, _, _, _, _, _, _, _, _, _, _, _, _, _, _, _, _, _, _, _, _, _, _, _, _, _, _, _, _, _, _, _, _, _, rfl, by omega, by omega, by rw [List.length_append, List.length_singleton]; omega, HP3, ownG_below HO5.out bd, Below.more HW5.out bd⟩, ?_⟩
          show (⟨rest.toArray⟩ : ByteArray).size < (⟨t.toArray⟩ : ByteArray).size
          rw [size_tx, size_tx]
          omega
  · intro K
    have HK := Lib.hid K
    clear K
    go_upto_region 5 with fail
    rename_i K0 hK0
    refine wp_label ?_
    have hsl := HSL.out
    show K0 _ _
    rw [← Fl.fl_1]
    exact hK0 _ _ (HK.out _ _ ⟨s, [], 1, 1, .slice none 0 0, _, _, _, _, _, _, _, _, _, _, _, _, _, _, _, _, _, _, _, _, _, _, _, _, _, _, _, _, _, _, _, _, _, _, _, _, _, _, _, _, _, _, _, _, _, _, _, _, _, _, _, _, _, _, _, rfl, by omega, by omega, by show 0 + s.length ≤ 10000; omega, Lib.hid (show LexP s [] s 1 1 from rfl), ⟨rfl, .inl ⟨rfl, rfl⟩⟩, Below.refl _ _⟩)
theorem wlex_any (s : ByteArray) (w : World) (hs : s.size ≤ 10000) (hg : GoodL w) : Calls Tryd.prog 9 #[.string s] w (GiveLex w (lexD s.data.toList)) := by
  have k := wlex_l s.data.toList w (by rw [size_toList]; exact hs) hg
  have e : (⟨s.data.toList.toArray⟩ : ByteArray) = s := bytes_eq rfl
  rw [e] at k
  exact k
end Go.Proofs.YtcckifhloabpkaaDoor

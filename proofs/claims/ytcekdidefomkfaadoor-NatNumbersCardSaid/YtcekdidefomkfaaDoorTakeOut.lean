/- nat.scaled, nat.takeOut. -/
import Derived.ScopeJumps
import Derived.Scope
import Derived.Test.YtcekdidefomkfaaDoorProduct
import Derived.Test.YtcekdidefomkfaaDoorNumD
namespace Go.Proofs.YtcekdidefomkfaaDoor
open Go.RowKit

set_option maxRecDepth 100000 in
set_option maxHeartbeats 400000 in
theorem scaled_any (w : World) (v : Value) (xs : List Nat) (m t : Nat) (hm : xs.length = m) (hmb : m ≤ 1073741824) (hl : Lim w v xs) (ht : t ≤ 999999999) :
    Calls Tryd.prog 77 #[v, .int .u64 (t : Int)] w fun e w' => ∃ zs, e = .returned (.slice (some ⟨w.heap.size, 0, none⟩) (m + 1) (m + 1)) ∧ zs.length = m + 1 ∧ Small zs ∧ valL zs = t * valL xs ∧ Arr w' w.heap.size 0 zs ∧ Free w' w.heap.size 0 (m + 1) ∧ Below w.heap.size w w' ∧ w'.heap.size = w.heap.size + 1 := by
  obtain ⟨aa, ca, rfl⟩ := hl.form
  rw [hm] at hl
  have HM := Lib.hid hm
  go_enter Tryd.func77, Tryd.ntmps77
  go_wp2_with (at_make; refine wpList_make_limbs _ rfl _ _ rfl _ _ _ _ (m + 1) rfl rfl (by omega) (by omega) (by omega) ?_; intro w1 hmade)
  have hwin : Arr w1 w.heap.size 0 (List.replicate m 0) := fun j hj => by
    rw [List.length_replicate] at hj
    have := hmade.arr j (by rw [List.length_replicate]; omega)
    rw [gl_zeros] at this ⊢
    exact this
  have hfr : Free w1 w.heap.size 0 m := fun j hj => hmade.free j (by omega)
  have hco := hmade.arr m (by rw [List.length_replicate]; omega)
  have hfl := hmade.free m (by omega)
  rw [gl_zeros] at hco
  have hsz := hmade.size
  have hbl := hmade.below
  have hne : ∀ b off m' c, (Value.slice aa m ca) = .slice (some ⟨b, off, none⟩) m' c → b ≠ w.heap.size := fun b' off' m' c' e => by
    obtain ⟨_, ⟨h1, _⟩ | ⟨b2, o2, c2, h1, _, _, h3, _⟩⟩ := hl
    · rw [h1] at e; cases e
    · rw [h1] at e; cases e; omega
  have hcall := addTimes_any w1 w.heap.size 0 m (m + 1) (.slice aa m ca) (List.replicate m 0) xs (t : Nat) (by omega) (by omega) (Small.zeros m) List.length_replicate HM.out (hl.below hbl) hne hwin hfr
  rw [Int.toNat_natCast] at hcall
  have HC := Lib.hid hcall; clear hcall hne hwin hfr hm
  have HS := Lib.hid hsz; clear hsz
  go_wp2_with fail
  refine HC.out.mono ?_
  rintro e w2 ⟨ws, cy, rfl, hwl, hs, hc, he, ha2, hw2⟩
  have hv0 : valL (List.replicate m 0) = 0 := sumTo_zero (fun j _ => gl_zeros m j)
  rw [hv0, Nat.zero_add] at he
  have hval : valL (ws ++ [cy]) = t * valL xs := by
    rw [← he]
    unfold valL
    rw [List.length_append, List.length_singleton, sumTo, hwl]
    congr 1
    · exact sumTo_congr (fun j hj => by unfold gl; rw [List.getElem?_append_left (by omega)])
    · unfold gl
      rw [← hwl]
      simp
  have hlen : (ws ++ [cy]).length = m + 1 := by rw [List.length_append, hwl]; rfl
  have hsm : Small (ws ++ [cy]) := fun x hx => by
    rcases List.mem_append.1 hx with h | h
    · exact hs _ h
    · rw [List.mem_singleton.1 h]; omega
  have hwr : Wr w1 w2 w.heap.size 0 (m + 1) := hw2.mono (by omega) (by omega)
  have c3 : w2.cell? ⟨w.heap.size, m, none⟩ = some (.int .u64 0) := by
    rw [hw2.cell m (by omega)]
    rw [Nat.zero_add] at hco
    exact hco
  have f3 : w2.frozen? ⟨w.heap.size, m, none⟩ = false := by
    rw [hw2.frozen m]
    rw [Nat.zero_add] at hfl
    exact hfl
  have hset : Arr (w2.setCell ⟨w.heap.size, m, none⟩ (.int .u64 (cy : Int))) w.heap.size 0 (ws ++ [cy]) := fun j hj => by
    by_cases e : j = m
    · subst e
      rw [Nat.zero_add, World.cell?_setCell_same' _ _ _ (by rw [c3]; rfl)]
      unfold gl
      rw [← hwl]
      simp
    · rw [cell?_setCell_ne _ _ _ _ _ (by omega)]
      have hj2 : j < ws.length := by rw [hwl]; omega
      rw [ha2 j hj2]
      unfold gl
      rw [List.getElem?_append_left hj2]
  have HV := Lib.hid hval; have HL := Lib.hid hlen; have HSM := Lib.hid hsm; have HST := Lib.hid hset
  clear hval hlen hsm hset he hwl hco hfl hv0
  go_wp2_with fail
  go_ret
  have hwr2 := hwr.set (k := m) (.int .u64 (cy : Int)) (by omega) (by omega)
  exact ⟨_, rfl, HL.out, HSM.out, HV.out, HST.out, hwr2.free hmade.free, hbl.trans (hwr2.below (Nat.le_refl _) (by rw [HS.out]; omega)), by rw [hwr2.size, HS.out]⟩

/-- How things stand at the label. -/
def OutInv (w : World) (bl ol cl bb ob cb m : Nat) (xs ys : List Nat) (a' : Act) (w' : World) : Prop :=
  ∃ (t bw : Nat) (zs : List Nat) (u8 u9 u10 u11 u12 u13 u14 u15 u16 u17 u18 u19 u20 u21 u22 u23 u24 u25 u26 u27 u28 u29 u30 u31 u32 u33 u34 u35 u36 u37 u38 u39 u40 u41 : Value), a' = { tmps := #[.slice (some ⟨bl, ol, none⟩) (m + 1) cl, .slice (some ⟨bb, ob, none⟩) (m + 1) cb, undef, undef, .int .u64 0, .int .i64 (m : Int), .int .u64 (t : Int), .int .u64 (bw : Int), u8, u9, u10, u11, u12, u13, u14, u15, u16, u17, u18, u19, u20, u21, u22, u23, u24, u25, u26, u27, u28, u29, u30, u31, u32, u33, u34, u35, u36, u37, u38, u39, u40, u41], defers := [] } ∧
    OutRel xs ys zs (m + 1) t bw ∧ Arr w' bl ol zs ∧ Wr w w' bl ol (ol + (m + 1))
def OutPost (w : World) (bl ol m : Nat) (xs ys : List Nat) (e : Ending) (w' : World) : Prop :=
  ∃ zs, e = .returned (.int .u64 ((valL xs / valL ys : Nat) : Int)) ∧ zs.length = m + 1 ∧ Small zs ∧ valL zs = valL xs % valL ys ∧ Arr w' bl ol zs ∧ Wr w w' bl ol (ol + (m + 1))

set_option maxRecDepth 100000 in
set_option maxHeartbeats 400000 in
theorem takeOut_any (w : World) (bl ol cl bb ob cb m : Nat) (xs ys : List Nat) (hm : 1 ≤ m) (hmb : m ≤ 2147483648) (hx : xs.length = m + 1) (hsx : Small xs) (hd : Divi ys (m - 1)) (hne : bb ≠ bl) (hax : Arr w bl ol xs) (hay : Arr w bb ob ys) (hfr : Free w bl ol (m + 1)) :
    Calls Tryd.prog 79 #[.slice (some ⟨bl, ol, none⟩) (m + 1) cl, .slice (some ⟨bb, ob, none⟩) (m + 1) cb] w (OutPost w bl ol m xs ys) := by
  have hyl : ys.length = m + 1 := by have := hd.len; omega
  have c1 := hax (m - 1) (by omega)
  have c2 := hax m (by omega)
  have c3 := hay (m - 1) (by omega)
  have b1 := hsx.gl (m - 1)
  have b2 := hsx.gl m
  have b3 := hd.lo
  have b4 := hd.small.gl (m - 1)
  have e1 : ((m - 1 : Nat) : Int) = (m : Int) - 1 := by omega
  have HX := Lib.hid hx; clear hx
  have HY := Lib.hid hyl; clear hyl
  have HE := Lib.hid e1; clear e1
  go_enter Tryd.func79, Tryd.ntmps79
  go_wp2
  refine wp_scope_jumps 0 (OutInv w bl ol cl bb ob cb m xs ys) (fun a' _ => (intOf (a'.tmps.getD 6 undef)).toNat) rfl ?_ ?_
  · go_wp2
    go_quiet (fail)
    go_wp2_with fail
    obtain ⟨t, ht⟩ : ∃ t : Nat, t = (gl xs m * 1000000000 + gl xs (m - 1)) / gl ys (m - 1) := ⟨_, rfl⟩
    have ht2 : (↑(gl xs m) * 1000000000 + ↑(gl xs (m - 1))) / ↑(gl ys (m - 1)) = (t : Int) := by
      rw [ht, Int.natCast_ediv, Int.natCast_add, Int.natCast_mul]
      rfl
    have hest := hd.est (xs := xs) (by have := HX.out; omega) hsx
    rw [Nat.sub_add_cancel hm, ← ht] at hest
    rw [ht2]
    have hay' : Arr (w.drewN nq) bb ob ys := hay
    refine (takeTimes_any (w.drewN nq) bl ol (m + 1) cl bb ob cb xs ys t hsx hd.small HX.out HY.out (by omega) (by omega) hne hax hay' hfr).mono ?_
    rintro e w2 ⟨zs, bw, rfl, hl, hs, hb, he, ha2, hw2⟩
    have hw2 : Wr w w2 bl ol (ol + (m + 1)) := ((Wr.refl w bl ol _).drewN nq).trans hw2
    have hrel := OutRel.start hd HX.out (by omega) hsx (by rw [Nat.sub_add_cancel hm]; exact ht) hl hs hb he
    clear ht ht2 hest hl he
    by_cases hbz : bw = 0
    · subst hbz
      obtain ⟨h1, h2⟩ := hrel.done hd.pos
      have hl := hrel.1
      have H1 := Lib.hid h1; have H2 := Lib.hid h2; have HL := Lib.hid hl
      clear h1 h2 hl
      go_wp2
      go_step3
      go_wp2
      simp only [Exit.jump]
      go_ret
      exact ⟨zs, ret_int (by rw [← H1.out]), HL.out, hs, H2.out, ha2, hw2⟩
    · have hpos := (hrel.pos hd.pos (by omega)).1
      have hfr2 := hw2.free hfr
      have hcall := addTimes_one w2 bl ol (m + 1) cl bb ob cb zs ys hs hd.small hrel.1 HY.out (by omega) hne ha2 (hw2.arr hne hay) hfr2
      have HC := Lib.hid hcall; clear hcall
      have hb2 := hrel.2.2.2.1
      have hb3 := hrel.2.2.1
      go_wp2_with fail
      go_step3
      go_wp2_with fail
      refine HC.out.mono ?_
      rintro e w3 ⟨zs2, cy, rfl, hl2, hs2, hc2, he2, ha3, hw3⟩
      have hst := hrel.step hd.pos (by omega) hl2 hs2 hc2 he2
      have HST := Lib.hid hst; clear hst
      clear hl2 he2
      go_wp2_with fail
      go_step3
      rw [show (t : Int) - 1 = ((t - 1 : Nat) : Int) from by omega, show (bw : Int) - (cy : Int) = ((bw - cy : Nat) : Int) from by omega]
      exact ⟨rfl, t - 1, bw - cy, zs2, _, _, _, _, _, _, _, _, _, _, _, _, _, _, _, _, _, _, _, _, _, _, _, _, _, _, _, _, _, _, _, _, _, _, rfl, HST.out, ha3, hw2.trans hw3⟩
  · rintro a' w2 ⟨t, bw, zs, u8, u9, u10, u11, u12, u13, u14, u15, u16, u17, u18, u19, u20, u21, u22, u23, u24, u25, u26, u27, u28, u29, u30, u31, u32, u33, u34, u35, u36, u37, u38, u39, u40, u41, rfl, hrel, ha2, hw2⟩
    have hs := hrel.2.1
    by_cases hbz : bw = 0
    · subst hbz
      obtain ⟨h1, h2⟩ := hrel.done hd.pos
      have hl := hrel.1
      have H1 := Lib.hid h1; have H2 := Lib.hid h2; have HL := Lib.hid hl
      clear h1 h2 hl
      go_wp2
      simp only [Exit.jump]
      go_ret
      exact ⟨zs, ret_int (by rw [← H1.out]), HL.out, hs, H2.out, ha2, hw2⟩
    · have hpos := (hrel.pos hd.pos (by omega)).1
      have hfr2 := hw2.free hfr
      have hcall := addTimes_one w2 bl ol (m + 1) cl bb ob cb zs ys hs hd.small hrel.1 HY.out (by omega) hne ha2 (hw2.arr hne hay) hfr2
      have HC := Lib.hid hcall; clear hcall
      have hb2 := hrel.2.2.2.1
      have hb3 := hrel.2.2.1
      go_wp2_with fail
      refine HC.out.mono ?_
      rintro e w3 ⟨zs2, cy, rfl, hl2, hs2, hc2, he2, ha3, hw3⟩
      have hst := hrel.step hd.pos (by omega) hl2 hs2 hc2 he2
      have HST := Lib.hid hst; clear hst
      clear hl2 he2
      go_wp2_with fail
      go_step3
      rw [show (t : Int) - 1 = ((t - 1 : Nat) : Int) from by omega, show (bw : Int) - (cy : Int) = ((bw - cy : Nat) : Int) from by omega]
      refine ⟨rfl, ⟨t - 1, bw - cy, zs2, _, _, _, _, _, _, _, _, _, _, _, _, _, _, _, _, _, _, _, _, _, _, _, _, _, _, _, _, _, _, _, _, _, _, rfl, HST.out, ha3, hw2.trans hw3⟩, ?_⟩
      simp [intOf]
      omega
end Go.Proofs.YtcekdidefomkfaaDoor

/- Whether the program's book may be; a place found by halves. -/
import Derived.Test.YtagfndkfjbbpjaaGreatDoorAllRefB7
import Derived.Test.YtagfndkfjbbpjaaGreatDoorAllBk1
namespace Go.Proofs.YtagfndkfjbbpjaaGreatDoor
open Go.RowKit
set_option linter.unusedSimpArgs false
set_option linter.unusedVariables false
theorem bool_t {b : Bool} (h : true = !b) : b = false := by cases b <;> simp at h ⊢
theorem bool_f {b : Bool} (h : false = !b) : b = true := by cases b <;> simp at h ⊢
theorem okAt_in {ls : List Ln} {a s n d : List UInt8} {k : Nat} {v : Bool} {z : Int} (hx : ls[k]? = some ((a, s), (n, d))) (h1 : (isName a && isName s) = v) (h2 : sgnR (n, d) = z) (h : (v && !(z == 0)) = false) : okAt ls k = false :=
 okAt_no hx (by rw [lineIn_sgn]; show ((isName a && isName s) && !(sgnR (n, d) == 0)) = false; rw [h1, h2, h])
set_option maxRecDepth 100000 in
set_option maxHeartbeats 4000000 in
theorem bmay_any (p : Option Addr) (c : Nat) (ls : List Ln) (w : World) (hc : ls.length ≤ c) (hl : ls.length ≤ 1000000) (hz : ∀ x ∈ ls, SzL x) (h : Lns w p ls) :
  Calls Tryz.prog 33 #[.slice p ls.length c] w (GiveB w (mayB ls)) := by
 have HS := Lib.hid h; have HZ := Lib.hid hz; clear h hz
 go_enter Tryz.func33, Tryz.ntmps33
 go_wp2
 go_loopw [7] (fun i wr => ∃ k : Nat, k ≤ ls.length ∧ i = .int .i64 k ∧ Hid (∀ j, j < k → okAt ls j = true) ∧ Below w.heap.size w wr) (fun i _ => ls.length - (intOf i).toNat)
 case atStart => exact ⟨0, Nat.zero_le _, rfl, fun j h => absurd h (Nat.not_lt_zero j), Below.refl _ _⟩
 case round =>
  obtain ⟨k, hk, rfl, HJ, hw⟩ := hrel
  by_cases hlt : k < ls.length
  ·obtain ⟨⟨⟨a, s⟩, ⟨n, d⟩⟩, hx⟩ : ∃ x, ls[k]? = some x := ⟨_, List.getElem?_eq_getElem hlt⟩
   obtain ⟨b, o, rfl, k0, k1, k2, k3⟩ := (HS.out.below hw).rule hx
   obtain ⟨⟨z1, z2⟩, z3, z4⟩ := HZ.out _ (List.mem_of_getElem? hx)
   have cl := fun w => bnamed_any a s n d w
   have cg : ∀ w, Calls Tryz.prog 39 #[.agg #[.string ⟨n.toArray⟩, .string ⟨d.toArray⟩]] w (GiveI w (sgnR (n, d))) := fun w => qsign_any ⟨n.toArray⟩ ⟨d.toArray⟩ w (by rw [size_of]; exact Nat.le_trans z3 (by decide)) (by rw [size_of]; exact Nat.le_trans z4 (by decide))
   clear z1 z2 z3 z4
   have bw := Below.refl wr.heap.size wr
   cases h1 : (isName a && isName s) with
   | false =>
    have HO : Hid (mayB ls = false) := Lib.hid (mayB_stop hlt (okAt_in hx h1 rfl (Bool.false_and _)))
    rw [h1] at cl
    clear hx h1 cg
    have CL := Lib.hid cl
    clear cl
    go_upto_region 4 with fail
    obtain ⟨U, hU, bU, s1, r0, r1, r2, r3⟩ := lay4 (Below.refl wr.heap.size wr) (.string ⟨a.toArray⟩) (.string ⟨s.toArray⟩) (.string ⟨n.toArray⟩) (.string ⟨d.toArray⟩) 46
    rw [hU]; clear hU s1
    replace k0 := fun v (h : Below U.heap.size U v) => k0 v (Below.more bU h)
    replace k1 := fun v (h : Below U.heap.size U v) => k1 v (Below.more bU h)
    replace k2 := fun v (h : Below U.heap.size U v) => k2 v (Below.more bU h)
    replace k3 := fun v (h : Below U.heap.size U v) => k3 v (Below.more bU h)
    have HW := Lib.hid (Below.more hw bU)
    have b0 := Below.refl U.heap.size U
    have hB := Lib.hid (Nat.le_refl U.heap.size)
    clear hw bU bw
    go_wp2_with fail
    refine (CL.out _).mono ?_
    rintro e w1 ⟨rfl, b⟩
    have b1 := Below.more b0 b
    clear b
    go_wp2_with fail
    go_ret
    exact ⟨ret_bool (by rw [HO.out]), Below.more HW.out b1⟩
   | true =>
    rw [h1] at cl
    have CL := Lib.hid cl
    clear cl
    by_cases h0 : sgnR (n, d) = 0
    ·have HO : Hid (mayB ls = false) := Lib.hid (mayB_stop hlt (okAt_in hx h1 h0 rfl))
     rw [h0] at cg
     clear hx h1 h0
     have CG := Lib.hid cg
     clear cg
     go_upto_region 4 with fail
     obtain ⟨U, hU, bU, s1, r0, r1, r2, r3⟩ := lay4 (Below.refl wr.heap.size wr) (.string ⟨a.toArray⟩) (.string ⟨s.toArray⟩) (.string ⟨n.toArray⟩) (.string ⟨d.toArray⟩) 46
     rw [hU]; clear hU s1
     replace k0 := fun v (h : Below U.heap.size U v) => k0 v (Below.more bU h)
     replace k1 := fun v (h : Below U.heap.size U v) => k1 v (Below.more bU h)
     replace k2 := fun v (h : Below U.heap.size U v) => k2 v (Below.more bU h)
     replace k3 := fun v (h : Below U.heap.size U v) => k3 v (Below.more bU h)
     have HW := Lib.hid (Below.more hw bU)
     have b0 := Below.refl U.heap.size U
     have hB := Lib.hid (Nat.le_refl U.heap.size)
     clear hw bU bw
     go_wp2_with fail
     refine (CL.out _).mono ?_
     rintro e w1 ⟨rfl, b⟩
     have b1 := Below.more b0 b
     clear b
     go_wp2_with fail
     refine (CG.out _).mono ?_
     rintro e w2 ⟨rfl, b⟩
     have b2 := Below.more b1 b
     clear b
     go_wp2_with fail
     go_ret
     exact ⟨ret_bool (by rw [HO.out]), Below.more HW.out b2⟩
    ·have hin : lineIn ((a, s), (n, d)) = true := by rw [lineIn_sgn]; show ((isName a && isName s) && !(sgnR (n, d) == 0)) = true; rw [h1, beq_false_of_ne h0]; rfl
     generalize sgnR (n, d) = z at *
     have CG := Lib.hid cg
     clear cg h1
     cases k with
     | zero =>
      simp only [Nat.zero_mul, Nat.add_zero] at k0 k1 k2 k3
      have HO : Hid (okAt ls 0 = true) := Lib.hid (okAt_0 hx hin)
      clear hx hin
      go_upto_region 4 with fail
      obtain ⟨U, hU, bU, s1, r0, r1, r2, r3⟩ := lay4 (Below.refl wr.heap.size wr) (.string ⟨a.toArray⟩) (.string ⟨s.toArray⟩) (.string ⟨n.toArray⟩) (.string ⟨d.toArray⟩) 46
      rw [hU]; clear hU s1
      replace k0 := fun v (h : Below U.heap.size U v) => k0 v (Below.more bU h)
      replace k1 := fun v (h : Below U.heap.size U v) => k1 v (Below.more bU h)
      replace k2 := fun v (h : Below U.heap.size U v) => k2 v (Below.more bU h)
      replace k3 := fun v (h : Below U.heap.size U v) => k3 v (Below.more bU h)
      have HW := Lib.hid (Below.more hw bU)
      have b0 := Below.refl U.heap.size U
      have hB := Lib.hid (Nat.le_refl U.heap.size)
      clear hw bU bw
      go_wp2_with fail
      refine (CL.out _).mono ?_
      rintro e w1 ⟨rfl, b⟩
      have b1 := Below.more b0 b
      clear b
      go_wp2_with fail
      refine (CG.out _).mono ?_
      rintro e w2 ⟨rfl, b⟩
      have b2 := Below.more b1 b
      clear b
      go_wp2_with fail
      refine wp_region_noPanic ?_
      refine wp_region_held_drew (S := fun w' => Below U.heap.size U w') (by kernel_rfl) (b2.drew) (fun hH0 => ?_)
      refine wpAnyH_take (i := 0) (v := ?_) rfl (by kernel_rfl) (by kernel_rfl) (by kernel_rfl) (fun _ _ _ h => h) (Or.inl ⟨by rfl, ?_⟩) (by assumption) ?_
      rotate_left 1
      ·(intro w hSw; (try dsimp only at hSw); go_simp <;> (with_reducible rfl))
      try simp only [Act.put, qA, qB, qC, qD, qE, qF]
      refine wpAnyH_take (i := 1) (v := ?_) rfl (by kernel_rfl) (by kernel_rfl) (by kernel_rfl) (fun _ _ _ h => h) (Or.inl ⟨by rfl, ?_⟩) (by assumption) ?_
      rotate_left 1
      ·(intro w hSw; (try dsimp only at hSw); go_simp <;> (with_reducible rfl))
      try simp only [Act.put, qA, qB, qC, qD, qE, qF]
      refine wpAnyH_take (i := 2) (v := ?_) rfl (by kernel_rfl) (by kernel_rfl) (by kernel_rfl) (fun _ _ _ h => h) (Or.inl ⟨by rfl, ?_⟩) (by assumption) ?_
      rotate_left 1
      ·(intro w hSw; (try dsimp only at hSw); go_simp <;> (with_reducible rfl))
      try simp only [Act.put, qA, qB, qC, qD, qE, qF]
      refine wpAnyH_take (i := 3) (v := undef) rfl (by kernel_rfl) (by kernel_rfl) (by kernel_rfl) (fun _ _ _ h => h) (Or.inr ⟨by rfl, rfl⟩) (by assumption) ?_
      try simp only [Act.put, qA, qB, qC, qD, qE, qF]
      refine wpAnyH_take (i := 4) (v := undef) rfl (by kernel_rfl) (by kernel_rfl) (by kernel_rfl) (fun _ _ _ h => h) (Or.inr ⟨by rfl, rfl⟩) (by assumption) ?_
      try simp only [Act.put, qA, qB, qC, qD, qE, qF]
      refine wpAnyH_take (i := 5) (v := undef) rfl (by kernel_rfl) (by kernel_rfl) (by kernel_rfl) (fun _ _ _ h => h) (Or.inr ⟨by rfl, rfl⟩) (by assumption) ?_
      try simp only [Act.put, qA, qB, qC, qD, qE, qF]
      refine wpAnyH_take (i := 6) (v := undef) rfl (by kernel_rfl) (by kernel_rfl) (by kernel_rfl) (fun _ _ _ h => h) (Or.inr ⟨by rfl, rfl⟩) (by assumption) ?_
      try simp only [Act.put, qA, qB, qC, qD, qE, qF]
      refine wpAnyH_take (i := 7) (v := undef) rfl (by kernel_rfl) (by kernel_rfl) (by kernel_rfl) (fun _ _ _ h => h) (Or.inr ⟨by rfl, rfl⟩) (by assumption) ?_
      try simp only [Act.put, qA, qB, qC, qD, qE, qF]
      refine wpAnyH_take (i := 8) (v := undef) rfl (by kernel_rfl) (by kernel_rfl) (by kernel_rfl) (fun _ _ _ h => h) (Or.inr ⟨by rfl, rfl⟩) (by assumption) ?_
      try simp only [Act.put, qA, qB, qC, qD, qE, qF]
      refine wpAnyH_take (i := 9) (v := undef) rfl (by kernel_rfl) (by kernel_rfl) (by kernel_rfl) (fun _ _ _ h => h) (Or.inr ⟨by rfl, rfl⟩) (by assumption) ?_
      try simp only [Act.put, qA, qB, qC, qD, qE, qF]
      refine wpAnyH_take (i := 10) (v := undef) rfl (by kernel_rfl) (by kernel_rfl) (by kernel_rfl) (fun _ _ _ h => h) (Or.inr ⟨by rfl, rfl⟩) (by assumption) ?_
      try simp only [Act.put, qA, qB, qC, qD, qE, qF]
      refine wpAnyH_take (i := 11) (v := ?_) rfl (by kernel_rfl) (by kernel_rfl) (by kernel_rfl) (fun _ _ _ h => h) (Or.inl ⟨by rfl, ?_⟩) (by assumption) ?_
      rotate_left 1
      ·(intro w hSw; (try dsimp only at hSw); go_simp <;> (with_reducible rfl))
      try simp only [Act.put, qA, qB, qC, qD, qE, qF]
      refine wpAnyH_done (by kernel_rfl) ?_ _
      refine NoPanic.normal ?_
      have b3 := hH0
      clear hH0
      go_wp2_with fail
      go_roundw
      case rel => exact ⟨0 + 1, hlt, by go_num, less_more HJ.out HO.out, Below.more HW.out b3⟩
      case measure => simp [intOf]; omega
     | succ m =>
      obtain ⟨⟨⟨a', s'⟩, ⟨n', d'⟩⟩, hy⟩ : ∃ x, ls[m]? = some x := ⟨_, List.getElem?_eq_getElem (by omega)⟩
      obtain ⟨b', o', hp, p0, p1, p2, p3⟩ := (HS.out.below hw).rule hy
      cases hp
      have co := fun w => border_any a' s' n' d' a s n d w
      have hord := ord_geq (a', s') (a, s)
      have hok := okAt_s hx hy hin
      generalize ordK (a', s') (a, s) = q at *
      have hm1 : ((m + 1 : Nat) : Int) - 1 = (m : Int) := by omega
      have hm0 : (0 : Int) < ((m + 1 : Nat) : Int) := by omega
      have hwm : IntKind.i64.wrap (m : Int) = (m : Int) := IntWalk.i64_in _ (by omega)
      have hml : (m : Int) < (ls.length : Int) := by omega
      have CO := Lib.hid co
      clear co hx hin hy
      by_cases hq : 0 ≤ q
      ·have HO : Hid (mayB ls = false) := Lib.hid (mayB_stop hlt (by rw [hok]; rw [decide_eq_true hq] at hord; exact bool_t hord))
       clear hok hord
       go_upto_region 4 with fail
       obtain ⟨U, hU, bU, s1, r0, r1, r2, r3⟩ := lay4 (Below.refl wr.heap.size wr) (.string ⟨a.toArray⟩) (.string ⟨s.toArray⟩) (.string ⟨n.toArray⟩) (.string ⟨d.toArray⟩) 46
       rw [hU]; clear hU s1
       replace k0 := fun v (h : Below U.heap.size U v) => k0 v (Below.more bU h)
       replace k1 := fun v (h : Below U.heap.size U v) => k1 v (Below.more bU h)
       replace k2 := fun v (h : Below U.heap.size U v) => k2 v (Below.more bU h)
       replace k3 := fun v (h : Below U.heap.size U v) => k3 v (Below.more bU h)
       replace p0 := fun v (h : Below U.heap.size U v) => p0 v (Below.more bU h)
       replace p1 := fun v (h : Below U.heap.size U v) => p1 v (Below.more bU h)
       replace p2 := fun v (h : Below U.heap.size U v) => p2 v (Below.more bU h)
       replace p3 := fun v (h : Below U.heap.size U v) => p3 v (Below.more bU h)
       have HW := Lib.hid (Below.more hw bU)
       have b0 := Below.refl U.heap.size U
       have hB := Lib.hid (Nat.le_refl U.heap.size)
       clear hw bU bw
       go_wp2_with fail
       refine (CL.out _).mono ?_
       rintro e w1 ⟨rfl, b⟩
       have b1 := Below.more b0 b
       clear b
       go_wp2_with fail
       refine (CG.out _).mono ?_
       rintro e w2 ⟨rfl, b⟩
       have b2 := Below.more b1 b
       clear b
       go_wp2_with fail
       refine wp_region_noPanic ?_
       refine wp_region_held_drew (S := fun w' => Below U.heap.size U w') (by kernel_rfl) (b2.drew) (fun hH0 => ?_)
       refine wpAnyH_take (i := 0) (v := ?_) rfl (by kernel_rfl) (by kernel_rfl) (by kernel_rfl) (fun _ _ _ h => h) (Or.inl ⟨by rfl, ?_⟩) (by assumption) ?_
       rotate_left 1
       ·(intro w hSw; (try dsimp only at hSw); go_simp <;> (with_reducible rfl))
       try simp only [Act.put, qA, qB, qC, qD, qE, qF]
       refine wpAnyH_take (i := 1) (v := ?_) rfl (by kernel_rfl) (by kernel_rfl) (by kernel_rfl) (fun _ _ _ h => h) (Or.inl ⟨by rfl, ?_⟩) (by assumption) ?_
       rotate_left 1
       ·(intro w hSw; (try dsimp only at hSw); go_simp <;> (with_reducible rfl))
       try simp only [Act.put, qA, qB, qC, qD, qE, qF]
       refine wpAnyH_take (i := 2) (v := ?_) rfl (by kernel_rfl) (by kernel_rfl) (by kernel_rfl) (fun _ _ _ h => h) (Or.inl ⟨by rfl, ?_⟩) (by assumption) ?_
       rotate_left 1
       ·(intro w hSw; (try dsimp only at hSw); go_simp <;> (with_reducible rfl))
       try simp only [Act.put, qA, qB, qC, qD, qE, qF]
       refine wpAnyH_take (i := 3) (v := ?_) rfl (by kernel_rfl) (by kernel_rfl) (by kernel_rfl) (fun _ _ _ h => h) (Or.inl ⟨by rfl, ?_⟩) (by assumption) ?_
       rotate_left 1
       ·(intro w hSw; (try dsimp only at hSw); go_simp <;> (with_reducible rfl))
       try simp only [Act.put, qA, qB, qC, qD, qE, qF]
       refine wpAnyH_take (i := 4) (v := ?_) rfl (by kernel_rfl) (by kernel_rfl) (by kernel_rfl) (fun _ _ _ h => h) (Or.inl ⟨by rfl, ?_⟩) (by assumption) ?_
       rotate_left 1
       ·(intro w hSw; (try dsimp only at hSw); go_simp <;> (with_reducible rfl))
       try simp only [Act.put, qA, qB, qC, qD, qE, qF]
       refine wpAnyH_take (i := 5) (v := ?_) rfl (by kernel_rfl) (by kernel_rfl) (by kernel_rfl) (fun _ _ _ h => h) (Or.inl ⟨by rfl, ?_⟩) (by assumption) ?_
       rotate_left 1
       ·(intro w hSw; (try dsimp only at hSw); go_simp <;> (with_reducible rfl))
       try simp only [Act.put, qA, qB, qC, qD, qE, qF]
       refine wpAnyH_take (i := 6) (v := ?_) rfl (by kernel_rfl) (by kernel_rfl) (by kernel_rfl) (fun _ _ _ h => h) (Or.inl ⟨by rfl, ?_⟩) (by assumption) ?_
       rotate_left 1
       ·(intro w hSw; (try dsimp only at hSw); go_simp <;> (with_reducible rfl))
       try simp only [Act.put, qA, qB, qC, qD, qE, qF]
       refine wpAnyH_take (i := 7) (v := ?_) rfl (by kernel_rfl) (by kernel_rfl) (by kernel_rfl) (fun _ _ _ h => h) (Or.inl ⟨by rfl, ?_⟩) (by assumption) ?_
       rotate_left 1
       ·(intro w hSw; (try dsimp only at hSw); go_simp <;> (with_reducible rfl))
       try simp only [Act.put, qA, qB, qC, qD, qE, qF]
       refine wpAnyH_take (i := 8) (v := ?_) rfl (by kernel_rfl) (by kernel_rfl) (by kernel_rfl) (fun _ _ _ h => h) (Or.inl ⟨by rfl, ?_⟩) (by assumption) ?_
       rotate_left 1
       ·(intro w hSw; (try dsimp only at hSw); go_simp <;> (with_reducible rfl))
       try simp only [Act.put, qA, qB, qC, qD, qE, qF]
       refine wpAnyH_ready (rs := [9]) (by kernel_rfl) (by simp) ?_
       refine AllReadyH.cons rfl (fun K hK => ?_) AllReadyH.nil
       go_simp
       refine (held (W := U) hB.out (CO.out _) (by assumption)).mono ?_
       rintro e w'' ⟨rfl, hb, hw⟩
       (try go_wp2_with fail)
       refine hK.out _ _ hw (fun hH1 => ?_)
       clear hK hH0 hb
       try simp only [Act.put, qA, qB, qC, qD, qE, qF]
       refine wpAnyH_take (i := 10) (v := ?_) rfl (by kernel_rfl) (by kernel_rfl) (by kernel_rfl) (fun _ _ _ h => h) (Or.inl ⟨by rfl, ?_⟩) (by assumption) ?_
       rotate_left 1
       ·(intro w hSw; (try dsimp only at hSw); go_simp <;> (with_reducible rfl))
       try simp only [Act.put, qA, qB, qC, qD, qE, qF]
       refine wpAnyH_take (i := 11) (v := ?_) rfl (by kernel_rfl) (by kernel_rfl) (by kernel_rfl) (fun _ _ _ h => h) (Or.inl ⟨by rfl, ?_⟩) (by assumption) ?_
       rotate_left 1
       ·(intro w hSw; (try dsimp only at hSw); go_simp <;> (with_reducible rfl))
       try simp only [Act.put, qA, qB, qC, qD, qE, qF]
       refine wpAnyH_done (by kernel_rfl) ?_ _
       refine NoPanic.normal ?_
       have b3 := hw
       clear hw
       go_wp2_with fail
       go_ret
       exact ⟨ret_bool (by rw [HO.out]), Below.more HW.out b3⟩
      ·have HO : Hid (okAt ls (m + 1) = true) := Lib.hid (by rw [hok]; rw [decide_eq_false hq] at hord; exact bool_f hord)
       clear hok hord
       go_upto_region 4 with fail
       obtain ⟨U, hU, bU, s1, r0, r1, r2, r3⟩ := lay4 (Below.refl wr.heap.size wr) (.string ⟨a.toArray⟩) (.string ⟨s.toArray⟩) (.string ⟨n.toArray⟩) (.string ⟨d.toArray⟩) 46
       rw [hU]; clear hU s1
       replace k0 := fun v (h : Below U.heap.size U v) => k0 v (Below.more bU h)
       replace k1 := fun v (h : Below U.heap.size U v) => k1 v (Below.more bU h)
       replace k2 := fun v (h : Below U.heap.size U v) => k2 v (Below.more bU h)
       replace k3 := fun v (h : Below U.heap.size U v) => k3 v (Below.more bU h)
       replace p0 := fun v (h : Below U.heap.size U v) => p0 v (Below.more bU h)
       replace p1 := fun v (h : Below U.heap.size U v) => p1 v (Below.more bU h)
       replace p2 := fun v (h : Below U.heap.size U v) => p2 v (Below.more bU h)
       replace p3 := fun v (h : Below U.heap.size U v) => p3 v (Below.more bU h)
       have HW := Lib.hid (Below.more hw bU)
       have b0 := Below.refl U.heap.size U
       have hB := Lib.hid (Nat.le_refl U.heap.size)
       clear hw bU bw
       go_wp2_with fail
       refine (CL.out _).mono ?_
       rintro e w1 ⟨rfl, b⟩
       have b1 := Below.more b0 b
       clear b
       go_wp2_with fail
       refine (CG.out _).mono ?_
       rintro e w2 ⟨rfl, b⟩
       have b2 := Below.more b1 b
       clear b
       go_wp2_with fail
       refine wp_region_noPanic ?_
       refine wp_region_held_drew (S := fun w' => Below U.heap.size U w') (by kernel_rfl) (b2.drew) (fun hH0 => ?_)
       refine wpAnyH_take (i := 0) (v := ?_) rfl (by kernel_rfl) (by kernel_rfl) (by kernel_rfl) (fun _ _ _ h => h) (Or.inl ⟨by rfl, ?_⟩) (by assumption) ?_
       rotate_left 1
       ·(intro w hSw; (try dsimp only at hSw); go_simp <;> (with_reducible rfl))
       try simp only [Act.put, qA, qB, qC, qD, qE, qF]
       refine wpAnyH_take (i := 1) (v := ?_) rfl (by kernel_rfl) (by kernel_rfl) (by kernel_rfl) (fun _ _ _ h => h) (Or.inl ⟨by rfl, ?_⟩) (by assumption) ?_
       rotate_left 1
       ·(intro w hSw; (try dsimp only at hSw); go_simp <;> (with_reducible rfl))
       try simp only [Act.put, qA, qB, qC, qD, qE, qF]
       refine wpAnyH_take (i := 2) (v := ?_) rfl (by kernel_rfl) (by kernel_rfl) (by kernel_rfl) (fun _ _ _ h => h) (Or.inl ⟨by rfl, ?_⟩) (by assumption) ?_
       rotate_left 1
       ·(intro w hSw; (try dsimp only at hSw); go_simp <;> (with_reducible rfl))
       try simp only [Act.put, qA, qB, qC, qD, qE, qF]
       refine wpAnyH_take (i := 3) (v := ?_) rfl (by kernel_rfl) (by kernel_rfl) (by kernel_rfl) (fun _ _ _ h => h) (Or.inl ⟨by rfl, ?_⟩) (by assumption) ?_
       rotate_left 1
       ·(intro w hSw; (try dsimp only at hSw); go_simp <;> (with_reducible rfl))
       try simp only [Act.put, qA, qB, qC, qD, qE, qF]
       refine wpAnyH_take (i := 4) (v := ?_) rfl (by kernel_rfl) (by kernel_rfl) (by kernel_rfl) (fun _ _ _ h => h) (Or.inl ⟨by rfl, ?_⟩) (by assumption) ?_
       rotate_left 1
       ·(intro w hSw; (try dsimp only at hSw); go_simp <;> (with_reducible rfl))
       try simp only [Act.put, qA, qB, qC, qD, qE, qF]
       refine wpAnyH_take (i := 5) (v := ?_) rfl (by kernel_rfl) (by kernel_rfl) (by kernel_rfl) (fun _ _ _ h => h) (Or.inl ⟨by rfl, ?_⟩) (by assumption) ?_
       rotate_left 1
       ·(intro w hSw; (try dsimp only at hSw); go_simp <;> (with_reducible rfl))
       try simp only [Act.put, qA, qB, qC, qD, qE, qF]
       refine wpAnyH_take (i := 6) (v := ?_) rfl (by kernel_rfl) (by kernel_rfl) (by kernel_rfl) (fun _ _ _ h => h) (Or.inl ⟨by rfl, ?_⟩) (by assumption) ?_
       rotate_left 1
       ·(intro w hSw; (try dsimp only at hSw); go_simp <;> (with_reducible rfl))
       try simp only [Act.put, qA, qB, qC, qD, qE, qF]
       refine wpAnyH_take (i := 7) (v := ?_) rfl (by kernel_rfl) (by kernel_rfl) (by kernel_rfl) (fun _ _ _ h => h) (Or.inl ⟨by rfl, ?_⟩) (by assumption) ?_
       rotate_left 1
       ·(intro w hSw; (try dsimp only at hSw); go_simp <;> (with_reducible rfl))
       try simp only [Act.put, qA, qB, qC, qD, qE, qF]
       refine wpAnyH_take (i := 8) (v := ?_) rfl (by kernel_rfl) (by kernel_rfl) (by kernel_rfl) (fun _ _ _ h => h) (Or.inl ⟨by rfl, ?_⟩) (by assumption) ?_
       rotate_left 1
       ·(intro w hSw; (try dsimp only at hSw); go_simp <;> (with_reducible rfl))
       try simp only [Act.put, qA, qB, qC, qD, qE, qF]
       refine wpAnyH_ready (rs := [9]) (by kernel_rfl) (by simp) ?_
       refine AllReadyH.cons rfl (fun K hK => ?_) AllReadyH.nil
       go_simp
       refine (held (W := U) hB.out (CO.out _) (by assumption)).mono ?_
       rintro e w'' ⟨rfl, hb, hw⟩
       (try go_wp2_with fail)
       refine hK.out _ _ hw (fun hH1 => ?_)
       clear hK hH0 hb
       try simp only [Act.put, qA, qB, qC, qD, qE, qF]
       refine wpAnyH_take (i := 10) (v := ?_) rfl (by kernel_rfl) (by kernel_rfl) (by kernel_rfl) (fun _ _ _ h => h) (Or.inl ⟨by rfl, ?_⟩) (by assumption) ?_
       rotate_left 1
       ·(intro w hSw; (try dsimp only at hSw); go_simp <;> (with_reducible rfl))
       try simp only [Act.put, qA, qB, qC, qD, qE, qF]
       refine wpAnyH_take (i := 11) (v := ?_) rfl (by kernel_rfl) (by kernel_rfl) (by kernel_rfl) (fun _ _ _ h => h) (Or.inl ⟨by rfl, ?_⟩) (by assumption) ?_
       rotate_left 1
       ·(intro w hSw; (try dsimp only at hSw); go_simp <;> (with_reducible rfl))
       try simp only [Act.put, qA, qB, qC, qD, qE, qF]
       refine wpAnyH_done (by kernel_rfl) ?_ _
       refine NoPanic.normal ?_
       have b3 := hw
       clear hw
       go_wp2_with fail
       go_roundw
       case rel => exact ⟨(m + 1) + 1, hlt, by go_num, less_more HJ.out HO.out, Below.more HW.out b3⟩
       case measure => simp [intOf]; omega
  ·obtain rfl : k = ls.length := by omega
   have HR := Lib.hid (mayB_end HJ.out); have HW := Lib.hid hw; clear hw
   go_wp2_with fail
   go_ret
   exact ⟨ret_bool (by rw [HR.out]), HW.out⟩
end Go.Proofs.YtagfndkfjbbpjaaGreatDoor

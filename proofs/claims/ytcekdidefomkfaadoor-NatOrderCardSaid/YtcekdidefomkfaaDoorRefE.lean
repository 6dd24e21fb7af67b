/- The document's own answer for naturals: Mul. -/
import Derived.StillTailTactics
import Derived.Test.YtcekdidefomkfaaDoorRefD
namespace Go.Proofs.YtcekdidefomkfaaDoor
open Go.RowKit

/-- A row of n ints that may be written, and holds z. -/
def Ci (w : World) (b n : Nat) (z : Nat → Nat) : Prop := ∀ j, j < n → w.cell? ⟨b, j, none⟩ = some (.int .i64 ((z j : Nat) : Int)) ∧ w.frozen? ⟨b, j, none⟩ = false
theorem Ci.below {B : Nat} {w w' : World} {b n : Nat} {z : Nat → Nat} (h : Below B w w') (hb : b < B) (ha : Ci w b n z) : Ci w' b n z :=
  fun j hj => ⟨(h.cell (p := ⟨b, j, none⟩) hb).trans (ha j hj).1, (h.frozen (p := ⟨b, j, none⟩) hb).trans (ha j hj).2⟩
theorem Ci.add {w : World} {b n : Nat} {z : Nat → Nat} (h : Ci w b n z) {i : Nat} (hi : i < n) (d : Nat) : Ci (w.setCell ⟨b, i, none⟩ (.int .i64 ((z i + d : Nat) : Int))) b n (upd z i d) := fun j hj => by
  refine ⟨?_, (World.frozen?_setCell _ _ _ _).trans (h j hj).2⟩
  unfold upd
  by_cases e : j = i
  · subst e
    rw [if_pos rfl]
    exact World.cell?_setCell_same' _ _ _ (by rw [(h j hj).1]; rfl)
  · rw [if_neg e, cell?_setCell_ne _ _ _ _ _ (fun e' => e e'.symm)]
    exact (h j hj).1
structure MadeI (w w' : World) (n : Nat) : Prop where
  size : w'.heap.size = w.heap.size + 1
  row : Ci w' w.heap.size n (fun _ => 0)
  below : Below w.heap.size w w'
theorem madeI (w : World) (n t : Nat) : MadeI w (w.alloc (.cells (madeCells #[.int .i64 0] n) t)) n := by
  have hb := World.alloc_heap_new w (.cells (madeCells #[.int .i64 0] n) t)
  have hl : (madeCells #[Value.int .i64 0] n).toList = List.replicate n (.int .i64 0) := toList_madeCells_one _ _
  refine ⟨by simp, fun j hj => ⟨?_, ?_⟩, (Below.refl _ _).alloc (Nat.le_refl _) _⟩
  · rw [cell_of_row _ _ _ _ _ _ hb, ← Array.getElem?_toList, hl]
    simp [hj]
  · unfold World.frozen?
    rw [hb]
    simp
theorem info_int : (Tryd.prog.info? 3).map (fun i => (i.zero, i.size, i.bytes)) = some (some (.int .i64 0), 1, 8) := by kernel_rfl
theorem wpList_make_ints (w : World) {ops : Array Oper} {rest : List Oper} {o : Oper} {a : Act} {Q : Exit → Act → World → Prop}
    (hg : o.guard = none) (l c : Operand) (hop : o.op = Op.makeSlice 55 l c) (kl kc : IntKind) (L C : Int) (n : Nat) (hl : a.eval l = .int kl L) (hc : a.eval c = .int kc C) (hL : L = (n : Int)) (hC : C = (n : Int))
    (h : n ≤ 4294967296) (hK : ∀ w', MadeI w w' n → wpList Tryd.prog ops Q rest (a.put o.dst (.slice (some ⟨w.heap.size, 0, none⟩) n n)) w') :
    wpList Tryd.prog ops Q (o :: rest) a w := by
  obtain ⟨i, hi, hz0, hz1, hz2⟩ := info_parts info_int
  subst hL
  subst hC
  exact wpList_make_row w hg l c 55 hop 3 i (.int .i64 0) Tryd.underlying55 hi hz0 hz1 rfl kl kc n hl hc (by rw [hz2]; omega) (by omega) (hK _ (madeI w n 3))

theorem rat_same (s : ByteArray) (i : Nat) (w : World) (hs : s.size ≤ 4611686018427387904) (hi : i ≤ 4611686018427387904) (hd : s.data.toList.all isDig = true) :
    Calls Tryd.prog 60 #[.string s, .int .i64 (i : Int)] w fun e w' => e = .returned (.int .i64 ((dgS s.data.toList i : Nat) : Int)) ∧ w' = w :=
  (rat_any s i w hs hi hd).mono fun _ _ ⟨he, hw⟩ => ⟨he, hw.symm⟩
def zr (_ : Nat) : Nat := 0
theorem dsum_zr (n : Nat) : dsum zr n = 0 := dsum_zero (fun _ _ => rfl)

set_option maxRecDepth 100000 in
set_option maxHeartbeats 1000000 in
theorem rmul_any (s t : ByteArray) (w : World) (hs : s.size ≤ 1000000) (ht : t.size ≤ 1000000) :
    Calls Tryd.prog 33 #[.string s, .string t] w (GiveS w (mulS s.data.toList t.data.toList)) := by
  have c1 := fun w => rmay_any s w (by omega)
  have c2 := fun w => rmay_any t w (by omega)
  cases h1 : isNat s.data.toList with
  | false =>
    have hr : mulS s.data.toList t.data.toList = [] := by unfold mulS; rw [h1]; rfl
    rw [hr]
    simp only [h1] at c1
    clear hr h1 c2
    go_enter Tryd.func33, Tryd.ntmps33
    go_wp2_with fail
    refine (c1 _).mono ?_
    rintro e w' ⟨rfl, rfl⟩
    go_wp2_with fail
    go_ret
    exact ⟨rfl, Below.refl _ _⟩
  | true => cases h2 : isNat t.data.toList with
    | false =>
      have hr : mulS s.data.toList t.data.toList = [] := by unfold mulS; rw [h1, h2]; rfl
      rw [hr]
      simp only [h1] at c1
      simp only [h2] at c2
      clear hr h1 h2
      go_enter Tryd.func33, Tryd.ntmps33
      go_wp2_with fail
      refine (c1 _).mono ?_
      rintro e w' ⟨rfl, rfl⟩
      go_wp2_with fail
      refine (c2 _).mono ?_
      rintro e w' ⟨rfl, rfl⟩
      go_wp2_with fail
      go_ret
      exact ⟨rfl, Below.refl _ _⟩
    | true =>
      have hr : mulS s.data.toList t.data.toList = dig (valS s.data.toList * valS t.data.toList) := by unfold mulS; rw [h1, h2]; rfl
      rw [hr]
      have a1 := fun (k : Nat) (w : World) (hk : k ≤ 1000000001) => rat_same s k w (by omega) (by omega) (isNat_all h1)
      have a2 := fun (k : Nat) (w : World) (hk : k ≤ 1000000001) => rat_same t k w (by omega) (by omega) (isNat_all h2)
      have f1 := dgS_lt (isNat_all h1)
      have f2 := dgS_lt (isNat_all h2)
      have h0 : 0 < s.size := nat_size h1
      have hv : valS s.data.toList * valS t.data.toList < 10 ^ (s.size + t.size) := mul_lt (nat_lt h1) (nat_lt h2)
      have d1 : dsum (dgS s.data.toList) s.size = valS s.data.toList := dsum_self _
      have d2 : dsum (dgS t.data.toList) t.size = valS t.data.toList := dsum_self _
      rw [← d1, ← d2] at hv
      rw [← d1, ← d2]
      simp only [h1] at c1
      simp only [h2] at c2
      clear hr h1 h2 d1 d2
      generalize dgS s.data.toList = F at *
      generalize dgS t.data.toList = G at *
      have HF := Lib.hid f1; have HG := Lib.hid f2; have HA1 := Lib.hid a1; have HA2 := Lib.hid a2; have HV := Lib.hid hv
      obtain ⟨N, hN⟩ : ∃ N, s.size + t.size = N := ⟨_, rfl⟩
      have hNi : (s.size : Int) + (t.size : Int) = (N : Int) := by omega
      have hN0 : 0 < N := by omega
      have hN1 : N ≤ 2000000 := by omega
      have HN := Lib.hid hN
      clear f1 f2 a1 a2 hN hv
      go_enter Tryd.func33, Tryd.ntmps33
      go_wp2_with fail
      refine (c1 _).mono ?_
      rintro e w' ⟨rfl, rfl⟩
      go_wp2_with fail
      refine (c2 _).mono ?_
      rintro e w' ⟨rfl, rfl⟩
      go_wp2_with (at_make; refine wpList_make_ints _ rfl _ _ rfl _ _ _ _ (N + 1) rfl rfl (by omega) (by omega) (by omega) ?_; intro w1 hmade)
      clear hNi
      have hmr := hmade.row
      have hmb := hmade.below
      have hmz : w.heap.size < w1.heap.size := by rw [hmade.size]; omega
      clear hmade
      go_loopw [7] (fun i W => ∃ (k : Nat) (z : Nat → Nat), k ≤ s.size ∧ i = .int .i64 k ∧ MulRel F G s.size t.size z k 0 ∧ Ci W w.heap.size (N + 1) z ∧ w.heap.size < W.heap.size ∧ Below w.heap.size w W) (fun i _ => s.size - (intOf i).toNat)
      case atStart => exact ⟨0, _, Nat.zero_le _, rfl, MulRel.start F G _ _, hmr, hmz, hmb⟩
      case round =>
        obtain ⟨k, z, hk, rfl, hr, hci, hsz, hbw⟩ := hrel
        by_cases hlt : k < s.size
        · go_wp2
          go_loopw [8] (fun i W => ∃ (j : Nat) (z : Nat → Nat), j ≤ t.size ∧ i = .int .i64 j ∧ MulRel F G s.size t.size z k j ∧ Ci W w.heap.size (N + 1) z ∧ w.heap.size < W.heap.size ∧ Below w.heap.size w W) (fun i _ => t.size - (intOf i).toNat)
          case atStart => exact ⟨0, z, Nat.zero_le _, rfl, hr, hci, hsz, hbw⟩
          case round =>
            obtain ⟨j, z, hj, rfl, hr, hci, hsz, hbw⟩ := hrel
            by_cases hlt2 : j < t.size
            · have b1 := HF.out k
              have b2 := HG.out j
              have hst := hr.step (HF.out k) (HG.out j) hlt hlt2
              have hkj : k + j < N + 1 := by have := HN.out; omega
              obtain ⟨q1, q2⟩ := hci (k + j) hkj
              have hzb : z (k + j) ≤ 100000000000000 := by
                have h1 := hr.2.1 (k + j)
                have h2 : k * t.size ≤ 1000000 * 1000000 := Nat.mul_le_mul (by omega) (by omega)
                omega
              have hpb : F k * G j ≤ 81 := Nat.le_trans (Nat.mul_le_mul (by omega : F k ≤ 9) (by omega : G j ≤ 9)) (by decide)
              have hcast : ((z (k + j) + F k * G j : Nat) : Int) = (z (k + j) : Int) + (F k : Int) * (G j : Int) := by rw [Int.natCast_add, Int.natCast_mul]
              have hpb2 : (F k : Int) * (G j : Int) ≤ 81 := by rw [← Int.natCast_mul]; omega
              have hpb3 : 0 ≤ (F k : Int) * (G j : Int) := by rw [← Int.natCast_mul]; omega
              have HST := Lib.hid hst
              clear hst hr
              have A1 := Lib.hid (HA1.out k wr.drew (by omega))
              have A2 := Lib.hid (HA2.out j wr.drew (by omega))
              have hx1 : IntKind.i64.wrap ((k : Int) + (j : Int)) = (k : Int) + (j : Int) := IntWalk.i64_in _ (by omega)
              have hx2 : ((k : Int) + (j : Int)).toNat = k + j := by omega
              have hx3 : 0 ≤ (k : Int) + (j : Int) ∧ (k : Int) + (j : Int) < (N : Int) + 1 := by omega
              have hx4 : IntKind.i64.wrap ((F k : Int) * (G j : Int)) = (F k : Int) * (G j : Int) := IntWalk.i64_in _ (by omega)
              have hx5 : IntKind.i64.wrap ((z (k + j) : Int) + (F k : Int) * (G j : Int)) = (z (k + j) : Int) + (F k : Int) * (G j : Int) := IntWalk.i64_in _ (by omega)
              go_wp2_with fail
              refine wp_region_still_tail 15 (by kernel_rfl) (by kernel_rfl) ?_
              simp only [List.take_succ_cons, List.take_zero, List.drop_succ_cons, List.drop_zero]
              repeat still_step
              still_call A1.out
              repeat still_step
              still_call A2.out
              repeat still_step
              refine wpStill_nil ?_
              change wpList _ _ _ _ _ wr.drew
              clear hx1 hx2 hx3 hx4 hx5
              have q1d : wr.drew.cell? ⟨w.heap.size, k + j, none⟩ = some (.int .i64 (z (k + j) : Nat)) := q1
              have q2d : wr.drew.frozen? ⟨w.heap.size, k + j, none⟩ = false := q2
              have hszd : w.heap.size < wr.drew.heap.size := hsz
              have hbwd : Below w.heap.size w wr.drew := hbw.drew
              have hcid : Ci wr.drew w.heap.size (N + 1) z := hci
              have HADD := Lib.hid (by have h := hcid.add hkj (F k * G j); rw [hcast] at h; exact h)
              clear q1 q2 hsz hbw hci hcid hcast
              generalize wr.drew = w2 at *
              go_wp2
              go_roundw
              case rel => exact ⟨j + 1, _, by omega, by go_num, HST.out, HADD.out, by rw [size_setCell]; exact hszd, hbwd.trans ((Wr.one w2 w.heap.size (k + j) _).below (Nat.le_refl _) hbwd.size)⟩
              case measure => simp [intOf]; omega
            · obtain rfl : j = t.size := by omega
              have hrow := hr.row
              have HROW := Lib.hid hrow; clear hrow
              go_wp2
              go_roundw
              case rel => exact ⟨k + 1, z, by omega, by go_num, HROW.out, hci, hsz, hbw⟩
              case measure => simp [intOf]; omega
        · obtain rfl : k = s.size := by omega
          have hsum : dsum (adD z zr) N = dsum F s.size * dsum G t.size := by
            refine ad_done ?_ ?_
            · rw [dsum_zr, Nat.add_zero, ← HN.out, hr.1]
              have : dsum G 0 = 0 := rfl
              rw [this, Nat.mul_zero, Nat.add_zero]
            · rw [← HN.out]; exact HV.out
          have hzb : ∀ j, z j ≤ 100000000000000 := fun j => by
            have h1 := hr.2.1 j
            have h2 : s.size * t.size ≤ 1000000 * 1000000 := Nat.mul_le_mul (by omega) (by omega)
            omega
          have hcl := adC_le (f := z) (g := zr) (B := 100000000000000) (fun i => by have := hzb i; show z i + 0 ≤ _; omega)
          have HT := Lib.hid (fun w => trim_txt (adD_lt z zr) hN0 (by omega) hsum w)
          have HZB := Lib.hid hzb; have HC := Lib.hid hcl
          clear hr hzb hcl hsum
          go_wp2_with (at_make; refine wpList_make_bytes _ rfl _ _ rfl _ _ _ _ N rfl rfl (by omega) (by omega) (by omega) ?_; intro w2 hmade2)
          have hmr2 := hmade2.row
          have hmb2 := hmade2.below
          clear hmade2
          have hbw2 : Below w.heap.size w w2 := hbw.trans (hmb2.mono hbw.size)
          have hci2 : Ci w2 w.heap.size (N + 1) z := hci.below hmb2 hsz
          have hB2 : wr.heap.size ≤ w2.heap.size := hmb2.size
          clear hmb2 hci hbw
          generalize wr.heap.size = B2 at *
          go_loopw [10, 11] (fun c i W => ∃ k : Nat, k ≤ N ∧ i = .int .i64 k ∧ c = .int .i64 (adC z zr k : Nat) ∧ ByF W B2 N ∧ Tx W B2 N (adD z zr) k ∧ Below B2 w2 W) (fun _ i _ => N - (intOf i).toNat)
          case atStart => exact ⟨0, Nat.zero_le _, rfl, rfl, hmr2, fun j _ h => absurd h (by omega), Below.refl _ _⟩
          case round =>
            obtain ⟨k, hk, rfl, rfl, hrow, htx, hbw3⟩ := hrel
            by_cases hlt2 : k < N
            · obtain ⟨i, hi⟩ : ∃ i, i = N - 1 - k := ⟨_, rfl⟩
              have hi1 : i < N := by omega
              have hi2 : N - 1 - i = k := by omega
              have hi3 : (N : Int) - 1 - (k : Int) = (i : Int) := by omega
              obtain ⟨⟨y, hy⟩, hfr⟩ := hrow i hi1
              obtain ⟨q1, q2⟩ := (hci2.below hbw3 hsz) k (by omega)
              have hr2 := hrow.set ((48 + adD z zr k : Nat) : Int) hi1
              have ht2 := htx.set hrow hi1 hi2
              have b1 := HZB.out k
              have b3 := HC.out k
              have hc : ((48 + adD z zr k : Nat) : Int) = 48 + ((z k : Int) + (adC z zr k : Int)) % 10 := by unfold adD zr; omega
              have hc2 : ((adC z zr (k + 1) : Nat) : Int) = ((z k : Int) + (adC z zr k : Int)) / 10 := by rw [adC]; unfold zr; omega
              rw [hc] at hr2 ht2
              have HR2 := Lib.hid hr2; have HT2 := Lib.hid ht2; have HI1 := Lib.hid hi1; have HC2 := Lib.hid hc2
              clear hr2 ht2 hi2 hi hc hc2
              go_wp2_with fail
              go_roundw
              case rel => exact ⟨k + 1, by omega, by go_num, congrArg (Value.int .i64) HC2.out.symm, HR2.out, HT2.out, hbw3.trans ((Wr.one _ _ i _).below (Nat.le_refl _) (Nat.le_trans hB2 hbw3.size))⟩
              case measure => simp [intOf]; omega
            · obtain rfl : k = N := by omega
              have hcv := run_convert_bytes_back (P := Tryd.prog) wr 47 9 5 ⟨B2, 0, none⟩ k (txt (adD z zr) k) Tryd.underlying47 Tryd.underlying5 Tryd.underlying9 (htx.cells (adD_lt z zr))
              rw [txt_length] at hcv
              go_wp2_with fail
              refine (HT.out _).mono ?_
              rintro e w' ⟨rfl, rfl⟩
              go_wp2_with fail
              go_ret
              exact ⟨rfl, hbw2.trans (hbw3.mono (Nat.le_of_lt hsz))⟩
end Go.Proofs.YtcekdidefomkfaaDoor

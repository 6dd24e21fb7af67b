/- The document's answers for terms: the print of a node that takes some: signs. -/
import Derived.Test.YtdeinhkdphgfaaaGreatDoorAllRefTa
namespace Go.Proofs.YtdeinhkdphgfaaaGreatDoor
open Go.RowKit
set_option linter.unusedSimpArgs false
set_option linter.unusedVariables false
open Tm (Nd aboveP sgnO)
def encX (u : List UInt8) : List Value := [.string ⟨u.toArray⟩]
theorem encX_one (u : List UInt8) : ∀ v ∈ encX u, v.oneCell' = true := fun v hv => by
 obtain rfl := List.mem_singleton.1 hv; rfl
theorem txInfo : (Tryz.prog.info? 9).map (fun i => (i.zero, i.size, i.bytes)) = some (some (.string ⟨#[]⟩), 1, 16) := by kernel_rfl
theorem txs_rule {w : World} {p : Option Addr} {l : List (List UInt8)} (h : RowsG encX 1 w p l) {k : Nat} {u : List UInt8} (hu : l[k]? = some u) : ∃ b o, p = some ⟨b, o, none⟩ ∧ ∀ v, Below w.heap.size w v → v.cell? ⟨b, o + k, none⟩ = some (.string ⟨u.toArray⟩) := by
 obtain ⟨b, o, hp, hl, c⟩ := h k u hu
 refine ⟨b, o, hp, fun v hb => ?_⟩
 have k0 := c 0 _ rfl
 rw [Nat.mul_one] at k0
 exact (hb.cell (p := ⟨b, _, none⟩) hl).trans k0
theorem neg_text (u : List UInt8) : (⟨#[40, 45]⟩ : ByteArray) ++ ⟨u.toArray⟩ ++ ⟨#[41]⟩ = ⟨(40 :: 45 :: (u ++ [41])).toArray⟩ :=
 bytes_eq (by rw [ba_append, ba_append]; simp)
theorem sgn_text (u v : List UInt8) (c : UInt8) : (⟨#[40]⟩ : ByteArray) ++ ⟨u.toArray⟩ ++ ⟨#[32]⟩ ++ ⟨#[c]⟩ ++ ⟨#[32]⟩ ++ ⟨v.toArray⟩ ++ ⟨#[41]⟩ = ⟨(40 :: (u ++ 32 :: c :: 32 :: (v ++ [41]))).toArray⟩ :=
 bytes_eq (by rw [ba_append, ba_append, ba_append, ba_append, ba_append, ba_append]; simp)
set_option maxRecDepth 100000 in
set_option maxHeartbeats 4000000 in
theorem above_5 {b o c : Nat} {u : List UInt8} (w : World) (hu : u.length ≤ 4611686018427387904) (k0 : ∀ v, Below w.heap.size w v → v.cell? ⟨b, o, none⟩ = some (.string ⟨u.toArray⟩)) : Calls Tryz.prog 36 #[.int .i64 5, .slice (some ⟨b, o, none⟩) 1 c] w (GiveU w (40 :: 45 :: (u ++ [41]))) := by
 have z0 : ¬ 9223372036854775807 < 2 + u.length := by omega
 have z1 : ¬ 9223372036854775807 < 2 + u.length + 1 := by omega
 have b0 := Below.refl w.heap.size w
 go_enter Tryz.func36, Tryz.ntmps36
 go_wp2_with fail
 go_ret
 exact ⟨ret_u (neg_text u), b0⟩
set_option maxRecDepth 100000 in
set_option maxHeartbeats 4000000 in
theorem above_6 {b o c : Nat} {u v : List UInt8} (w : World) (hu : u.length ≤ 4611686018427387904) (hv : v.length ≤ 1000000000) (k0 : ∀ v, Below w.heap.size w v → v.cell? ⟨b, o, none⟩ = some (.string ⟨u.toArray⟩)) (k1 : ∀ x, Below w.heap.size w x → x.cell? ⟨b, o + 1, none⟩ = some (.string ⟨v.toArray⟩)) : Calls Tryz.prog 36 #[.int .i64 6, .slice (some ⟨b, o, none⟩) 2 c] w (GiveU w (40 :: (u ++ 32 :: 43 :: 32 :: (v ++ [41])))) := by
 have z0 : ¬ 9223372036854775807 < 1 + u.length := by omega
 have z1 : ¬ 9223372036854775807 < 1 + u.length + 1 := by omega
 have z2 : ¬ 9223372036854775807 < 1 + u.length + 1 + 1 := by omega
 have z3 : ¬ 9223372036854775807 < 1 + u.length + 1 + 1 + 1 := by omega
 have z4 : ¬ 9223372036854775807 < 1 + u.length + 1 + 1 + 1 + v.length := by omega
 have z5 : ¬ 9223372036854775807 < 1 + u.length + 1 + 1 + 1 + v.length + 1 := by omega
 have b0 := Below.refl w.heap.size w
 have w6 : IntKind.i64.wrap 0 = 0 := by decide
 have w5 : IntKind.i64.wrap 1 = 1 := by decide
 have hB := Lib.hid (Nat.le_refl w.heap.size)
 have hx : ByteArray.extract ⟨#[43, 45, 42, 47]⟩ 0 1 = ⟨#[43]⟩ := by decide
 go_enter Tryz.func36, Tryz.ntmps36
 go_wp2_with fail
 refine wp_region_noPanic ?_
 refine wp_region_held_drew (S := fun w' => Below w.heap.size w w') (by kernel_rfl) (b0.drew) (fun hH0 => ?_)
 refine wpAnyH_take (i := 0) (v := ?_) rfl (by kernel_rfl) (by kernel_rfl) (by kernel_rfl) (fun _ _ _ h => h) (Or.inl ⟨by rfl, ?_⟩) (by assumption) ?_
 rotate_left 1
 ·(intro w hSw; (try dsimp only at hSw); go_simp <;> (with_reducible rfl))
 try simp only [Act.put, qA, qB, qC, qD, qE, qF]
 refine wpAnyH_take (i := 1) (v := ?_) rfl (by kernel_rfl) (by kernel_rfl) (by kernel_rfl) (fun _ _ _ h => h) (Or.inl ⟨by rfl, ?_⟩) (by assumption) ?_
 rotate_left 1
 ·(intro w hSw; (try dsimp only at hSw); go_simp <;> (with_reducible rfl))
 try simp only [Act.put, qA, qB, qC, qD, qE, qF]
 refine wpAnyH_take (i := 2) (v := ?_) rfl (by kernel_rfl) (by kernel_rfl) (by kernel_rfl) (fun _ _ _ h => h) (Or.inl ⟨by rfl, ?_⟩) (by assumption) ?_
 rotate_left 1
 ·(intro w hSw; (try dsimp only at hSw); go_simp <;> (with_reducible rfl))
 try simp only [Act.put, qA, qB, qC, qD, qE, qF]
 refine wpAnyH_take (i := 3) (v := ?_) rfl (by kernel_rfl) (by kernel_rfl) (by kernel_rfl) (fun _ _ _ h => h) (Or.inl ⟨by rfl, ?_⟩) (by assumption) ?_
 rotate_left 1
 ·(intro w hSw; (try dsimp only at hSw); go_simp <;> (with_reducible rfl))
 try simp only [Act.put, qA, qB, qC, qD, qE, qF]
 refine wpAnyH_take (i := 4) (v := ?_) rfl (by kernel_rfl) (by kernel_rfl) (by kernel_rfl) (fun _ _ _ h => h) (Or.inl ⟨by rfl, ?_⟩) (by assumption) ?_
 rotate_left 1
 ·(intro w hSw; (try dsimp only at hSw); go_simp <;> (with_reducible rfl))
 try simp only [Act.put, qA, qB, qC, qD, qE, qF]
 refine wpAnyH_take (i := 5) (v := ?_) rfl (by kernel_rfl) (by kernel_rfl) (by kernel_rfl) (fun _ _ _ h => h) (Or.inl ⟨by rfl, ?_⟩) (by assumption) ?_
 rotate_left 1
 ·(intro w hSw; (try dsimp only at hSw); go_simp <;> (with_reducible rfl))
 try simp only [Act.put, qA, qB, qC, qD, qE, qF]
 refine wpAnyH_take (i := 6) (v := ?_) rfl (by kernel_rfl) (by kernel_rfl) (by kernel_rfl) (fun _ _ _ h => h) (Or.inl ⟨by rfl, ?_⟩) (by assumption) ?_
 rotate_left 1
 ·(intro w hSw; (try dsimp only at hSw); go_simp <;> (with_reducible rfl))
 try simp only [Act.put, qA, qB, qC, qD, qE, qF]
 refine wpAnyH_take (i := 7) (v := ?_) rfl (by kernel_rfl) (by kernel_rfl) (by kernel_rfl) (fun _ _ _ h => h) (Or.inl ⟨by rfl, ?_⟩) (by assumption) ?_
 rotate_left 1
 ·(intro w hSw; (try dsimp only at hSw); go_simp <;> (with_reducible rfl))
 try simp only [Act.put, qA, qB, qC, qD, qE, qF]
 refine wpAnyH_take (i := 8) (v := ?_) rfl (by kernel_rfl) (by kernel_rfl) (by kernel_rfl) (fun _ _ _ h => h) (Or.inl ⟨by rfl, ?_⟩) (by assumption) ?_
 rotate_left 1
 ·(intro w hSw; (try dsimp only at hSw); go_simp <;> (with_reducible rfl))
 try simp only [Act.put, qA, qB, qC, qD, qE, qF]
 refine wpAnyH_take (i := 9) (v := ?_) rfl (by kernel_rfl) (by kernel_rfl) (by kernel_rfl) (fun _ _ _ h => h) (Or.inl ⟨by rfl, ?_⟩) (by assumption) ?_
 rotate_left 1
 ·(intro w hSw; (try dsimp only at hSw); go_simp <;> (with_reducible rfl))
 try simp only [Act.put, qA, qB, qC, qD, qE, qF]
 refine wpAnyH_take (i := 10) (v := ?_) rfl (by kernel_rfl) (by kernel_rfl) (by kernel_rfl) (fun _ _ _ h => h) (Or.inl ⟨by rfl, ?_⟩) (by assumption) ?_
 rotate_left 1
 ·(intro w hSw; (try dsimp only at hSw); go_simp <;> (with_reducible rfl))
 try simp only [Act.put, qA, qB, qC, qD, qE, qF]
 refine wpAnyH_take (i := 11) (v := ?_) rfl (by kernel_rfl) (by kernel_rfl) (by kernel_rfl) (fun _ _ _ h => h) (Or.inl ⟨by rfl, ?_⟩) (by assumption) ?_
 rotate_left 1
 ·(intro w hSw; (try dsimp only at hSw); go_simp <;> (with_reducible rfl))
 try simp only [Act.put, qA, qB, qC, qD, qE, qF]
 refine wpAnyH_take (i := 12) (v := ?_) rfl (by kernel_rfl) (by kernel_rfl) (by kernel_rfl) (fun _ _ _ h => h) (Or.inl ⟨by rfl, ?_⟩) (by assumption) ?_
 rotate_left 1
 ·(intro w hSw; (try dsimp only at hSw); go_simp <;> (with_reducible rfl))
 try simp only [Act.put, qA, qB, qC, qD, qE, qF]
 refine wpAnyH_take (i := 13) (v := ?_) rfl (by kernel_rfl) (by kernel_rfl) (by kernel_rfl) (fun _ _ _ h => h) (Or.inl ⟨by rfl, ?_⟩) (by assumption) ?_
 rotate_left 1
 ·(intro w hSw; (try dsimp only at hSw); go_simp <;> (with_reducible rfl))
 try simp only [Act.put, qA, qB, qC, qD, qE, qF]
 refine wpAnyH_take (i := 14) (v := ?_) rfl (by kernel_rfl) (by kernel_rfl) (by kernel_rfl) (fun _ _ _ h => h) (Or.inl ⟨by rfl, ?_⟩) (by assumption) ?_
 rotate_left 1
 ·(intro w hSw; (try dsimp only at hSw); go_simp <;> (with_reducible rfl))
 try simp only [Act.put, qA, qB, qC, qD, qE, qF]
 refine wpAnyH_take (i := 15) (v := ?_) rfl (by kernel_rfl) (by kernel_rfl) (by kernel_rfl) (fun _ _ _ h => h) (Or.inl ⟨by rfl, ?_⟩) (by assumption) ?_
 rotate_left 1
 ·(intro w hSw; (try dsimp only at hSw); go_simp <;> (with_reducible rfl))
 try simp only [Act.put, qA, qB, qC, qD, qE, qF]
 refine wpAnyH_take (i := 16) (v := ?_) rfl (by kernel_rfl) (by kernel_rfl) (by kernel_rfl) (fun _ _ _ h => h) (Or.inl ⟨by rfl, ?_⟩) (by assumption) ?_
 rotate_left 1
 ·(intro w hSw; (try dsimp only at hSw); go_simp <;> (with_reducible rfl))
 try simp only [Act.put, qA, qB, qC, qD, qE, qF]
 refine wpAnyH_take (i := 17) (v := ?_) rfl (by kernel_rfl) (by kernel_rfl) (by kernel_rfl) (fun _ _ _ h => h) (Or.inl ⟨by rfl, ?_⟩) (by assumption) ?_
 rotate_left 1
 ·(intro w hSw; (try dsimp only at hSw); go_simp <;> (with_reducible rfl))
 try simp only [Act.put, qA, qB, qC, qD, qE, qF]
 refine wpAnyH_done (by kernel_rfl) ?_ _
 refine NoPanic.normal ?_
 have b9 := hH0
 clear hH0
 go_wp2_with fail
 go_ret
 exact ⟨ret_u (sgn_text u v 43), b9⟩
set_option maxRecDepth 100000 in
set_option maxHeartbeats 4000000 in
theorem above_7 {b o c : Nat} {u v : List UInt8} (w : World) (hu : u.length ≤ 4611686018427387904) (hv : v.length ≤ 1000000000) (k0 : ∀ v, Below w.heap.size w v → v.cell? ⟨b, o, none⟩ = some (.string ⟨u.toArray⟩)) (k1 : ∀ x, Below w.heap.size w x → x.cell? ⟨b, o + 1, none⟩ = some (.string ⟨v.toArray⟩)) : Calls Tryz.prog 36 #[.int .i64 7, .slice (some ⟨b, o, none⟩) 2 c] w (GiveU w (40 :: (u ++ 32 :: 45 :: 32 :: (v ++ [41])))) := by
 have z0 : ¬ 9223372036854775807 < 1 + u.length := by omega
 have z1 : ¬ 9223372036854775807 < 1 + u.length + 1 := by omega
 have z2 : ¬ 9223372036854775807 < 1 + u.length + 1 + 1 := by omega
 have z3 : ¬ 9223372036854775807 < 1 + u.length + 1 + 1 + 1 := by omega
 have z4 : ¬ 9223372036854775807 < 1 + u.length + 1 + 1 + 1 + v.length := by omega
 have z5 : ¬ 9223372036854775807 < 1 + u.length + 1 + 1 + 1 + v.length + 1 := by omega
 have b0 := Below.refl w.heap.size w
 have w6 : IntKind.i64.wrap 1 = 1 := by decide
 have w5 : IntKind.i64.wrap 2 = 2 := by decide
 have hB := Lib.hid (Nat.le_refl w.heap.size)
 have hx : ByteArray.extract ⟨#[43, 45, 42, 47]⟩ 1 2 = ⟨#[45]⟩ := by decide
 go_enter Tryz.func36, Tryz.ntmps36
 go_wp2_with fail
 refine wp_region_noPanic ?_
 refine wp_region_held_drew (S := fun w' => Below w.heap.size w w') (by kernel_rfl) (b0.drew) (fun hH0 => ?_)
 refine wpAnyH_take (i := 0) (v := ?_) rfl (by kernel_rfl) (by kernel_rfl) (by kernel_rfl) (fun _ _ _ h => h) (Or.inl ⟨by rfl, ?_⟩) (by assumption) ?_
 rotate_left 1
 ·(intro w hSw; (try dsimp only at hSw); go_simp <;> (with_reducible rfl))
 try simp only [Act.put, qA, qB, qC, qD, qE, qF]
 refine wpAnyH_take (i := 1) (v := ?_) rfl (by kernel_rfl) (by kernel_rfl) (by kernel_rfl) (fun _ _ _ h => h) (Or.inl ⟨by rfl, ?_⟩) (by assumption) ?_
 rotate_left 1
 ·(intro w hSw; (try dsimp only at hSw); go_simp <;> (with_reducible rfl))
 try simp only [Act.put, qA, qB, qC, qD, qE, qF]
 refine wpAnyH_take (i := 2) (v := ?_) rfl (by kernel_rfl) (by kernel_rfl) (by kernel_rfl) (fun _ _ _ h => h) (Or.inl ⟨by rfl, ?_⟩) (by assumption) ?_
 rotate_left 1
 ·(intro w hSw; (try dsimp only at hSw); go_simp <;> (with_reducible rfl))
 try simp only [Act.put, qA, qB, qC, qD, qE, qF]
 refine wpAnyH_take (i := 3) (v := ?_) rfl (by kernel_rfl) (by kernel_rfl) (by kernel_rfl) (fun _ _ _ h => h) (Or.inl ⟨by rfl, ?_⟩) (by assumption) ?_
 rotate_left 1
 ·(intro w hSw; (try dsimp only at hSw); go_simp <;> (with_reducible rfl))
 try simp only [Act.put, qA, qB, qC, qD, qE, qF]
 refine wpAnyH_take (i := 4) (v := ?_) rfl (by kernel_rfl) (by kernel_rfl) (by kernel_rfl) (fun _ _ _ h => h) (Or.inl ⟨by rfl, ?_⟩) (by assumption) ?_
 rotate_left 1
 ·(intro w hSw; (try dsimp only at hSw); go_simp <;> (with_reducible rfl))
 try simp only [Act.put, qA, qB, qC, qD, qE, qF]
 refine wpAnyH_take (i := 5) (v := ?_) rfl (by kernel_rfl) (by kernel_rfl) (by kernel_rfl) (fun _ _ _ h => h) (Or.inl ⟨by rfl, ?_⟩) (by assumption) ?_
 rotate_left 1
 ·(intro w hSw; (try dsimp only at hSw); go_simp <;> (with_reducible rfl))
 try simp only [Act.put, qA, qB, qC, qD, qE, qF]
 refine wpAnyH_take (i := 6) (v := ?_) rfl (by kernel_rfl) (by kernel_rfl) (by kernel_rfl) (fun _ _ _ h => h) (Or.inl ⟨by rfl, ?_⟩) (by assumption) ?_
 rotate_left 1
 ·(intro w hSw; (try dsimp only at hSw); go_simp <;> (with_reducible rfl))
 try simp only [Act.put, qA, qB, qC, qD, qE, qF]
 refine wpAnyH_take (i := 7) (v := ?_) rfl (by kernel_rfl) (by kernel_rfl) (by kernel_rfl) (fun _ _ _ h => h) (Or.inl ⟨by rfl, ?_⟩) (by assumption) ?_
 rotate_left 1
 ·(intro w hSw; (try dsimp only at hSw); go_simp <;> (with_reducible rfl))
 try simp only [Act.put, qA, qB, qC, qD, qE, qF]
 refine wpAnyH_take (i := 8) (v := ?_) rfl (by kernel_rfl) (by kernel_rfl) (by kernel_rfl) (fun _ _ _ h => h) (Or.inl ⟨by rfl, ?_⟩) (by assumption) ?_
 rotate_left 1
 ·(intro w hSw; (try dsimp only at hSw); go_simp <;> (with_reducible rfl))
 try simp only [Act.put, qA, qB, qC, qD, qE, qF]
 refine wpAnyH_take (i := 9) (v := ?_) rfl (by kernel_rfl) (by kernel_rfl) (by kernel_rfl) (fun _ _ _ h => h) (Or.inl ⟨by rfl, ?_⟩) (by assumption) ?_
 rotate_left 1
 ·(intro w hSw; (try dsimp only at hSw); go_simp <;> (with_reducible rfl))
 try simp only [Act.put, qA, qB, qC, qD, qE, qF]
 refine wpAnyH_take (i := 10) (v := ?_) rfl (by kernel_rfl) (by kernel_rfl) (by kernel_rfl) (fun _ _ _ h => h) (Or.inl ⟨by rfl, ?_⟩) (by assumption) ?_
 rotate_left 1
 ·(intro w hSw; (try dsimp only at hSw); go_simp <;> (with_reducible rfl))
 try simp only [Act.put, qA, qB, qC, qD, qE, qF]
 refine wpAnyH_take (i := 11) (v := ?_) rfl (by kernel_rfl) (by kernel_rfl) (by kernel_rfl) (fun _ _ _ h => h) (Or.inl ⟨by rfl, ?_⟩) (by assumption) ?_
 rotate_left 1
 ·(intro w hSw; (try dsimp only at hSw); go_simp <;> (with_reducible rfl))
 try simp only [Act.put, qA, qB, qC, qD, qE, qF]
 refine wpAnyH_take (i := 12) (v := ?_) rfl (by kernel_rfl) (by kernel_rfl) (by kernel_rfl) (fun _ _ _ h => h) (Or.inl ⟨by rfl, ?_⟩) (by assumption) ?_
 rotate_left 1
 ·(intro w hSw; (try dsimp only at hSw); go_simp <;> (with_reducible rfl))
 try simp only [Act.put, qA, qB, qC, qD, qE, qF]
 refine wpAnyH_take (i := 13) (v := ?_) rfl (by kernel_rfl) (by kernel_rfl) (by kernel_rfl) (fun _ _ _ h => h) (Or.inl ⟨by rfl, ?_⟩) (by assumption) ?_
 rotate_left 1
 ·(intro w hSw; (try dsimp only at hSw); go_simp <;> (with_reducible rfl))
 try simp only [Act.put, qA, qB, qC, qD, qE, qF]
 refine wpAnyH_take (i := 14) (v := ?_) rfl (by kernel_rfl) (by kernel_rfl) (by kernel_rfl) (fun _ _ _ h => h) (Or.inl ⟨by rfl, ?_⟩) (by assumption) ?_
 rotate_left 1
 ·(intro w hSw; (try dsimp only at hSw); go_simp <;> (with_reducible rfl))
 try simp only [Act.put, qA, qB, qC, qD, qE, qF]
 refine wpAnyH_take (i := 15) (v := ?_) rfl (by kernel_rfl) (by kernel_rfl) (by kernel_rfl) (fun _ _ _ h => h) (Or.inl ⟨by rfl, ?_⟩) (by assumption) ?_
 rotate_left 1
 ·(intro w hSw; (try dsimp only at hSw); go_simp <;> (with_reducible rfl))
 try simp only [Act.put, qA, qB, qC, qD, qE, qF]
 refine wpAnyH_take (i := 16) (v := ?_) rfl (by kernel_rfl) (by kernel_rfl) (by kernel_rfl) (fun _ _ _ h => h) (Or.inl ⟨by rfl, ?_⟩) (by assumption) ?_
 rotate_left 1
 ·(intro w hSw; (try dsimp only at hSw); go_simp <;> (with_reducible rfl))
 try simp only [Act.put, qA, qB, qC, qD, qE, qF]
 refine wpAnyH_take (i := 17) (v := ?_) rfl (by kernel_rfl) (by kernel_rfl) (by kernel_rfl) (fun _ _ _ h => h) (Or.inl ⟨by rfl, ?_⟩) (by assumption) ?_
 rotate_left 1
 ·(intro w hSw; (try dsimp only at hSw); go_simp <;> (with_reducible rfl))
 try simp only [Act.put, qA, qB, qC, qD, qE, qF]
 refine wpAnyH_done (by kernel_rfl) ?_ _
 refine NoPanic.normal ?_
 have b9 := hH0
 clear hH0
 go_wp2_with fail
 go_ret
 exact ⟨ret_u (sgn_text u v 45), b9⟩
set_option maxRecDepth 100000 in
set_option maxHeartbeats 4000000 in
theorem above_8 {b o c : Nat} {u v : List UInt8} (w : World) (hu : u.length ≤ 4611686018427387904) (hv : v.length ≤ 1000000000) (k0 : ∀ v, Below w.heap.size w v → v.cell? ⟨b, o, none⟩ = some (.string ⟨u.toArray⟩)) (k1 : ∀ x, Below w.heap.size w x → x.cell? ⟨b, o + 1, none⟩ = some (.string ⟨v.toArray⟩)) : Calls Tryz.prog 36 #[.int .i64 8, .slice (some ⟨b, o, none⟩) 2 c] w (GiveU w (40 :: (u ++ 32 :: 42 :: 32 :: (v ++ [41])))) := by
 have z0 : ¬ 9223372036854775807 < 1 + u.length := by omega
 have z1 : ¬ 9223372036854775807 < 1 + u.length + 1 := by omega
 have z2 : ¬ 9223372036854775807 < 1 + u.length + 1 + 1 := by omega
 have z3 : ¬ 9223372036854775807 < 1 + u.length + 1 + 1 + 1 := by omega
 have z4 : ¬ 9223372036854775807 < 1 + u.length + 1 + 1 + 1 + v.length := by omega
 have z5 : ¬ 9223372036854775807 < 1 + u.length + 1 + 1 + 1 + v.length + 1 := by omega
 have b0 := Below.refl w.heap.size w
 have w6 : IntKind.i64.wrap 2 = 2 := by decide
 have w5 : IntKind.i64.wrap 3 = 3 := by decide
 have hB := Lib.hid (Nat.le_refl w.heap.size)
 have hx : ByteArray.extract ⟨#[43, 45, 42, 47]⟩ 2 3 = ⟨#[42]⟩ := by decide
 go_enter Tryz.func36, Tryz.ntmps36
 go_wp2_with fail
 refine wp_region_noPanic ?_
 refine wp_region_held_drew (S := fun w' => Below w.heap.size w w') (by kernel_rfl) (b0.drew) (fun hH0 => ?_)
 refine wpAnyH_take (i := 0) (v := ?_) rfl (by kernel_rfl) (by kernel_rfl) (by kernel_rfl) (fun _ _ _ h => h) (Or.inl ⟨by rfl, ?_⟩) (by assumption) ?_
 rotate_left 1
 ·(intro w hSw; (try dsimp only at hSw); go_simp <;> (with_reducible rfl))
 try simp only [Act.put, qA, qB, qC, qD, qE, qF]
 refine wpAnyH_take (i := 1) (v := ?_) rfl (by kernel_rfl) (by kernel_rfl) (by kernel_rfl) (fun _ _ _ h => h) (Or.inl ⟨by rfl, ?_⟩) (by assumption) ?_
 rotate_left 1
 ·(intro w hSw; (try dsimp only at hSw); go_simp <;> (with_reducible rfl))
 try simp only [Act.put, qA, qB, qC, qD, qE, qF]
 refine wpAnyH_take (i := 2) (v := ?_) rfl (by kernel_rfl) (by kernel_rfl) (by kernel_rfl) (fun _ _ _ h => h) (Or.inl ⟨by rfl, ?_⟩) (by assumption) ?_
 rotate_left 1
 ·(intro w hSw; (try dsimp only at hSw); go_simp <;> (with_reducible rfl))
 try simp only [Act.put, qA, qB, qC, qD, qE, qF]
 refine wpAnyH_take (i := 3) (v := ?_) rfl (by kernel_rfl) (by kernel_rfl) (by kernel_rfl) (fun _ _ _ h => h) (Or.inl ⟨by rfl, ?_⟩) (by assumption) ?_
 rotate_left 1
 ·(intro w hSw; (try dsimp only at hSw); go_simp <;> (with_reducible rfl))
 try simp only [Act.put, qA, qB, qC, qD, qE, qF]
 refine wpAnyH_take (i := 4) (v := ?_) rfl (by kernel_rfl) (by kernel_rfl) (by kernel_rfl) (fun _ _ _ h => h) (Or.inl ⟨by rfl, ?_⟩) (by assumption) ?_
 rotate_left 1
 ·(intro w hSw; (try dsimp only at hSw); go_simp <;> (with_reducible rfl))
 try simp only [Act.put, qA, qB, qC, qD, qE, qF]
 refine wpAnyH_take (i := 5) (v := ?_) rfl (by kernel_rfl) (by kernel_rfl) (by kernel_rfl) (fun _ _ _ h => h) (Or.inl ⟨by rfl, ?_⟩) (by assumption) ?_
 rotate_left 1
 ·(intro w hSw; (try dsimp only at hSw); go_simp <;> (with_reducible rfl))
 try simp only [Act.put, qA, qB, qC, qD, qE, qF]
 refine wpAnyH_take (i := 6) (v := ?_) rfl (by kernel_rfl) (by kernel_rfl) (by kernel_rfl) (fun _ _ _ h => h) (Or.inl ⟨by rfl, ?_⟩) (by assumption) ?_
 rotate_left 1
 ·(intro w hSw; (try dsimp only at hSw); go_simp <;> (with_reducible rfl))
 try simp only [Act.put, qA, qB, qC, qD, qE, qF]
 refine wpAnyH_take (i := 7) (v := ?_) rfl (by kernel_rfl) (by kernel_rfl) (by kernel_rfl) (fun _ _ _ h => h) (Or.inl ⟨by rfl, ?_⟩) (by assumption) ?_
 rotate_left 1
 ·(intro w hSw; (try dsimp only at hSw); go_simp <;> (with_reducible rfl))
 try simp only [Act.put, qA, qB, qC, qD, qE, qF]
 refine wpAnyH_take (i := 8) (v := ?_) rfl (by kernel_rfl) (by kernel_rfl) (by kernel_rfl) (fun _ _ _ h => h) (Or.inl ⟨by rfl, ?_⟩) (by assumption) ?_
 rotate_left 1
 ·(intro w hSw; (try dsimp only at hSw); go_simp <;> (with_reducible rfl))
 try simp only [Act.put, qA, qB, qC, qD, qE, qF]
 refine wpAnyH_take (i := 9) (v := ?_) rfl (by kernel_rfl) (by kernel_rfl) (by kernel_rfl) (fun _ _ _ h => h) (Or.inl ⟨by rfl, ?_⟩) (by assumption) ?_
 rotate_left 1
 ·(intro w hSw; (try dsimp only at hSw); go_simp <;> (with_reducible rfl))
 try simp only [Act.put, qA, qB, qC, qD, qE, qF]
 refine wpAnyH_take (i := 10) (v := ?_) rfl (by kernel_rfl) (by kernel_rfl) (by kernel_rfl) (fun _ _ _ h => h) (Or.inl ⟨by rfl, ?_⟩) (by assumption) ?_
 rotate_left 1
 ·(intro w hSw; (try dsimp only at hSw); go_simp <;> (with_reducible rfl))
 try simp only [Act.put, qA, qB, qC, qD, qE, qF]
 refine wpAnyH_take (i := 11) (v := ?_) rfl (by kernel_rfl) (by kernel_rfl) (by kernel_rfl) (fun _ _ _ h => h) (Or.inl ⟨by rfl, ?_⟩) (by assumption) ?_
 rotate_left 1
 ·(intro w hSw; (try dsimp only at hSw); go_simp <;> (with_reducible rfl))
 try simp only [Act.put, qA, qB, qC, qD, qE, qF]
 refine wpAnyH_take (i := 12) (v := ?_) rfl (by kernel_rfl) (by kernel_rfl) (by kernel_rfl) (fun _ _ _ h => h) (Or.inl ⟨by rfl, ?_⟩) (by assumption) ?_
 rotate_left 1
 ·(intro w hSw; (try dsimp only at hSw); go_simp <;> (with_reducible rfl))
 try simp only [Act.put, qA, qB, qC, qD, qE, qF]
 refine wpAnyH_take (i := 13) (v := ?_) rfl (by kernel_rfl) (by kernel_rfl) (by kernel_rfl) (fun _ _ _ h => h) (Or.inl ⟨by rfl, ?_⟩) (by assumption) ?_
 rotate_left 1
 ·(intro w hSw; (try dsimp only at hSw); go_simp <;> (with_reducible rfl))
 try simp only [Act.put, qA, qB, qC, qD, qE, qF]
 refine wpAnyH_take (i := 14) (v := ?_) rfl (by kernel_rfl) (by kernel_rfl) (by kernel_rfl) (fun _ _ _ h => h) (Or.inl ⟨by rfl, ?_⟩) (by assumption) ?_
 rotate_left 1
 ·(intro w hSw; (try dsimp only at hSw); go_simp <;> (with_reducible rfl))
 try simp only [Act.put, qA, qB, qC, qD, qE, qF]
 refine wpAnyH_take (i := 15) (v := ?_) rfl (by kernel_rfl) (by kernel_rfl) (by kernel_rfl) (fun _ _ _ h => h) (Or.inl ⟨by rfl, ?_⟩) (by assumption) ?_
 rotate_left 1
 ·(intro w hSw; (try dsimp only at hSw); go_simp <;> (with_reducible rfl))
 try simp only [Act.put, qA, qB, qC, qD, qE, qF]
 refine wpAnyH_take (i := 16) (v := ?_) rfl (by kernel_rfl) (by kernel_rfl) (by kernel_rfl) (fun _ _ _ h => h) (Or.inl ⟨by rfl, ?_⟩) (by assumption) ?_
 rotate_left 1
 ·(intro w hSw; (try dsimp only at hSw); go_simp <;> (with_reducible rfl))
 try simp only [Act.put, qA, qB, qC, qD, qE, qF]
 refine wpAnyH_take (i := 17) (v := ?_) rfl (by kernel_rfl) (by kernel_rfl) (by kernel_rfl) (fun _ _ _ h => h) (Or.inl ⟨by rfl, ?_⟩) (by assumption) ?_
 rotate_left 1
 ·(intro w hSw; (try dsimp only at hSw); go_simp <;> (with_reducible rfl))
 try simp only [Act.put, qA, qB, qC, qD, qE, qF]
 refine wpAnyH_done (by kernel_rfl) ?_ _
 refine NoPanic.normal ?_
 have b9 := hH0
 clear hH0
 go_wp2_with fail
 go_ret
 exact ⟨ret_u (sgn_text u v 42), b9⟩
set_option maxRecDepth 100000 in
set_option maxHeartbeats 4000000 in
theorem above_9 {b o c : Nat} {u v : List UInt8} (w : World) (hu : u.length ≤ 4611686018427387904) (hv : v.length ≤ 1000000000) (k0 : ∀ v, Below w.heap.size w v → v.cell? ⟨b, o, none⟩ = some (.string ⟨u.toArray⟩)) (k1 : ∀ x, Below w.heap.size w x → x.cell? ⟨b, o + 1, none⟩ = some (.string ⟨v.toArray⟩)) : Calls Tryz.prog 36 #[.int .i64 9, .slice (some ⟨b, o, none⟩) 2 c] w (GiveU w (40 :: (u ++ 32 :: 47 :: 32 :: (v ++ [41])))) := by
 have z0 : ¬ 9223372036854775807 < 1 + u.length := by omega
 have z1 : ¬ 9223372036854775807 < 1 + u.length + 1 := by omega
 have z2 : ¬ 9223372036854775807 < 1 + u.length + 1 + 1 := by omega
 have z3 : ¬ 9223372036854775807 < 1 + u.length + 1 + 1 + 1 := by omega
 have z4 : ¬ 9223372036854775807 < 1 + u.length + 1 + 1 + 1 + v.length := by omega
 have z5 : ¬ 9223372036854775807 < 1 + u.length + 1 + 1 + 1 + v.length + 1 := by omega
 have b0 := Below.refl w.heap.size w
 have w6 : IntKind.i64.wrap 3 = 3 := by decide
 have w5 : IntKind.i64.wrap 4 = 4 := by decide
 have hB := Lib.hid (Nat.le_refl w.heap.size)
 have hx : ByteArray.extract ⟨#[43, 45, 42, 47]⟩ 3 4 = ⟨#[47]⟩ := by decide
 go_enter Tryz.func36, Tryz.ntmps36
 go_wp2_with fail
 refine wp_region_noPanic ?_
 refine wp_region_held_drew (S := fun w' => Below w.heap.size w w') (by kernel_rfl) (b0.drew) (fun hH0 => ?_)
 refine wpAnyH_take (i := 0) (v := ?_) rfl (by kernel_rfl) (by kernel_rfl) (by kernel_rfl) (fun _ _ _ h => h) (Or.inl ⟨by rfl, ?_⟩) (by assumption) ?_
 rotate_left 1
 ·(intro w hSw; (try dsimp only at hSw); go_simp <;> (with_reducible rfl))
 try simp only [Act.put, qA, qB, qC, qD, qE, qF]
 refine wpAnyH_take (i := 1) (v := ?_) rfl (by kernel_rfl) (by kernel_rfl) (by kernel_rfl) (fun _ _ _ h => h) (Or.inl ⟨by rfl, ?_⟩) (by assumption) ?_
 rotate_left 1
 ·(intro w hSw; (try dsimp only at hSw); go_simp <;> (with_reducible rfl))
 try simp only [Act.put, qA, qB, qC, qD, qE, qF]
 refine wpAnyH_take (i := 2) (v := ?_) rfl (by kernel_rfl) (by kernel_rfl) (by kernel_rfl) (fun _ _ _ h => h) (Or.inl ⟨by rfl, ?_⟩) (by assumption) ?_
 rotate_left 1
 ·(intro w hSw; (try dsimp only at hSw); go_simp <;> (with_reducible rfl))
 try simp only [Act.put, qA, qB, qC, qD, qE, qF]
 refine wpAnyH_take (i := 3) (v := ?_) rfl (by kernel_rfl) (by kernel_rfl) (by kernel_rfl) (fun _ _ _ h => h) (Or.inl ⟨by rfl, ?_⟩) (by assumption) ?_
 rotate_left 1
 ·(intro w hSw; (try dsimp only at hSw); go_simp <;> (with_reducible rfl))
 try simp only [Act.put, qA, qB, qC, qD, qE, qF]
 refine wpAnyH_take (i := 4) (v := ?_) rfl (by kernel_rfl) (by kernel_rfl) (by kernel_rfl) (fun _ _ _ h => h) (Or.inl ⟨by rfl, ?_⟩) (by assumption) ?_
 rotate_left 1
 ·(intro w hSw; (try dsimp only at hSw); go_simp <;> (with_reducible rfl))
 try simp only [Act.put, qA, qB, qC, qD, qE, qF]
 refine wpAnyH_take (i := 5) (v := ?_) rfl (by kernel_rfl) (by kernel_rfl) (by kernel_rfl) (fun _ _ _ h => h) (Or.inl ⟨by rfl, ?_⟩) (by assumption) ?_
 rotate_left 1
 ·(intro w hSw; (try dsimp only at hSw); go_simp <;> (with_reducible rfl))
 try simp only [Act.put, qA, qB, qC, qD, qE, qF]
 refine wpAnyH_take (i := 6) (v := ?_) rfl (by kernel_rfl) (by kernel_rfl) (by kernel_rfl) (fun _ _ _ h => h) (Or.inl ⟨by rfl, ?_⟩) (by assumption) ?_
 rotate_left 1
 ·(intro w hSw; (try dsimp only at hSw); go_simp <;> (with_reducible rfl))
 try simp only [Act.put, qA, qB, qC, qD, qE, qF]
 refine wpAnyH_take (i := 7) (v := ?_) rfl (by kernel_rfl) (by kernel_rfl) (by kernel_rfl) (fun _ _ _ h => h) (Or.inl ⟨by rfl, ?_⟩) (by assumption) ?_
 rotate_left 1
 ·(intro w hSw; (try dsimp only at hSw); go_simp <;> (with_reducible rfl))
 try simp only [Act.put, qA, qB, qC, qD, qE, qF]
 refine wpAnyH_take (i := 8) (v := ?_) rfl (by kernel_rfl) (by kernel_rfl) (by kernel_rfl) (fun _ _ _ h => h) (Or.inl ⟨by rfl, ?_⟩) (by assumption) ?_
 rotate_left 1
 ·(intro w hSw; (try dsimp only at hSw); go_simp <;> (with_reducible rfl))
 try simp only [Act.put, qA, qB, qC, qD, qE, qF]
 refine wpAnyH_take (i := 9) (v := ?_) rfl (by kernel_rfl) (by kernel_rfl) (by kernel_rfl) (fun _ _ _ h => h) (Or.inl ⟨by rfl, ?_⟩) (by assumption) ?_
 rotate_left 1
 ·(intro w hSw; (try dsimp only at hSw); go_simp <;> (with_reducible rfl))
 try simp only [Act.put, qA, qB, qC, qD, qE, qF]
 refine wpAnyH_take (i := 10) (v := ?_) rfl (by kernel_rfl) (by kernel_rfl) (by kernel_rfl) (fun _ _ _ h => h) (Or.inl ⟨by rfl, ?_⟩) (by assumption) ?_
 rotate_left 1
 ·(intro w hSw; (try dsimp only at hSw); go_simp <;> (with_reducible rfl))
 try simp only [Act.put, qA, qB, qC, qD, qE, qF]
 refine wpAnyH_take (i := 11) (v := ?_) rfl (by kernel_rfl) (by kernel_rfl) (by kernel_rfl) (fun _ _ _ h => h) (Or.inl ⟨by rfl, ?_⟩) (by assumption) ?_
 rotate_left 1
 ·(intro w hSw; (try dsimp only at hSw); go_simp <;> (with_reducible rfl))
 try simp only [Act.put, qA, qB, qC, qD, qE, qF]
 refine wpAnyH_take (i := 12) (v := ?_) rfl (by kernel_rfl) (by kernel_rfl) (by kernel_rfl) (fun _ _ _ h => h) (Or.inl ⟨by rfl, ?_⟩) (by assumption) ?_
 rotate_left 1
 ·(intro w hSw; (try dsimp only at hSw); go_simp <;> (with_reducible rfl))
 try simp only [Act.put, qA, qB, qC, qD, qE, qF]
 refine wpAnyH_take (i := 13) (v := ?_) rfl (by kernel_rfl) (by kernel_rfl) (by kernel_rfl) (fun _ _ _ h => h) (Or.inl ⟨by rfl, ?_⟩) (by assumption) ?_
 rotate_left 1
 ·(intro w hSw; (try dsimp only at hSw); go_simp <;> (with_reducible rfl))
 try simp only [Act.put, qA, qB, qC, qD, qE, qF]
 refine wpAnyH_take (i := 14) (v := ?_) rfl (by kernel_rfl) (by kernel_rfl) (by kernel_rfl) (fun _ _ _ h => h) (Or.inl ⟨by rfl, ?_⟩) (by assumption) ?_
 rotate_left 1
 ·(intro w hSw; (try dsimp only at hSw); go_simp <;> (with_reducible rfl))
 try simp only [Act.put, qA, qB, qC, qD, qE, qF]
 refine wpAnyH_take (i := 15) (v := ?_) rfl (by kernel_rfl) (by kernel_rfl) (by kernel_rfl) (fun _ _ _ h => h) (Or.inl ⟨by rfl, ?_⟩) (by assumption) ?_
 rotate_left 1
 ·(intro w hSw; (try dsimp only at hSw); go_simp <;> (with_reducible rfl))
 try simp only [Act.put, qA, qB, qC, qD, qE, qF]
 refine wpAnyH_take (i := 16) (v := ?_) rfl (by kernel_rfl) (by kernel_rfl) (by kernel_rfl) (fun _ _ _ h => h) (Or.inl ⟨by rfl, ?_⟩) (by assumption) ?_
 rotate_left 1
 ·(intro w hSw; (try dsimp only at hSw); go_simp <;> (with_reducible rfl))
 try simp only [Act.put, qA, qB, qC, qD, qE, qF]
 refine wpAnyH_take (i := 17) (v := ?_) rfl (by kernel_rfl) (by kernel_rfl) (by kernel_rfl) (fun _ _ _ h => h) (Or.inl ⟨by rfl, ?_⟩) (by assumption) ?_
 rotate_left 1
 ·(intro w hSw; (try dsimp only at hSw); go_simp <;> (with_reducible rfl))
 try simp only [Act.put, qA, qB, qC, qD, qE, qF]
 refine wpAnyH_done (by kernel_rfl) ?_ _
 refine NoPanic.normal ?_
 have b9 := hH0
 clear hH0
 go_wp2_with fail
 go_ret
 exact ⟨ret_u (sgn_text u v 47), b9⟩
end Go.Proofs.YtdeinhkdphgfaaaGreatDoor

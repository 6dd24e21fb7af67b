/- The document's answers for terms: how many an op takes; where terms begin. -/
import Derived.Test.YtdeinhkdphgfaaaGreatDoorRowsMM
import Derived.Test.YtdeinhkdphgfaaaGreatDoorTermNum3M
namespace Go.Proofs.YtdeinhkdphgfaaaGreatDoor
open Go.RowKit
set_option linter.unusedSimpArgs false
set_option linter.unusedVariables false
open Tm (Nd Tr arN arI formB)
def encD (x : Nd) : List Value := [.int .i64 x.op, .string ⟨x.num.1.toArray⟩, .string ⟨x.num.2.toArray⟩, .string ⟨x.ast.toArray⟩, .int .i64 x.a, .int .i64 x.b]
theorem encD_one (x : Nd) : ∀ v ∈ encD x, v.oneCell' = true := fun v hv => by
 unfold encD at hv
 simp only [List.mem_cons, List.not_mem_nil, or_false] at hv
 rcases hv with rfl | rfl | rfl | rfl | rfl | rfl <;> rfl
theorem ndInfo : (Tryz.prog.info? 41).map (fun i => (i.zero, i.size, i.bytes)) = some (some (.agg #[.int .i64 0, .string ⟨#[]⟩, .string ⟨#[]⟩, .string ⟨#[]⟩, .int .i64 0, .int .i64 0]), 6, 72) := by kernel_rfl
abbrev Nds (w : World) (p : Option Addr) (t : List Nd) : Prop := RowsG encD 6 w p t
abbrev OwnD (B : Nat) (w : World) (v : Value) (l : List Nd) : Prop := OwnG encD 6 41 B w v l
theorem nds_rule {w : World} {p : Option Addr} {l : List Nd} (h : Nds w p l) {k : Nat} {x : Nd} (hx : l[k]? = some x) : ∃ b o, p = some ⟨b, o, none⟩ ∧ (∀ v, Below w.heap.size w v → v.cell? ⟨b, o + k * 6, none⟩ = some (.int .i64 x.op)) ∧
  (∀ v, Below w.heap.size w v → v.cell? ⟨b, o + k * 6 + 1, none⟩ = some (.string ⟨x.num.1.toArray⟩)) ∧ (∀ v, Below w.heap.size w v → v.cell? ⟨b, o + k * 6 + 2, none⟩ = some (.string ⟨x.num.2.toArray⟩)) ∧
  (∀ v, Below w.heap.size w v → v.cell? ⟨b, o + k * 6 + 3, none⟩ = some (.string ⟨x.ast.toArray⟩)) ∧ (∀ v, Below w.heap.size w v → v.cell? ⟨b, o + k * 6 + 4, none⟩ = some (.int .i64 x.a)) ∧ (∀ v, Below w.heap.size w v → v.cell? ⟨b, o + k * 6 + 5, none⟩ = some (.int .i64 x.b)) := by
 obtain ⟨b, o, hp, hl, c⟩ := h k x hx
 exact ⟨b, o, hp, fun v hb => (hb.cell (p := ⟨b, _, none⟩) hl).trans (c 0 _ rfl), fun v hb => (hb.cell (p := ⟨b, _, none⟩) hl).trans (c 1 _ rfl), fun v hb => (hb.cell (p := ⟨b, _, none⟩) hl).trans (c 2 _ rfl), fun v hb => (hb.cell (p := ⟨b, _, none⟩) hl).trans (c 3 _ rfl), fun v hb => (hb.cell (p := ⟨b, _, none⟩) hl).trans (c 4 _ rfl), fun v hb => (hb.cell (p := ⟨b, _, none⟩) hl).trans (c 5 _ rfl)⟩
theorem ar_0 (w : World) : (Instr.index 67 (.agg #[.int .i64 0, .int .i64 0, .int .i64 0, .int .i64 0, .int .i64 0, .int .i64 1, .int .i64 2, .int .i64 2, .int .i64 2, .int .i64 2, .int .i64 2, .int .i64 2, .int .i64 3]) (.int .i64 0)).run Tryz.prog w = .ok (.int .i64 0) w := by kernel_rfl
theorem ar_1 (w : World) : (Instr.index 67 (.agg #[.int .i64 0, .int .i64 0, .int .i64 0, .int .i64 0, .int .i64 0, .int .i64 1, .int .i64 2, .int .i64 2, .int .i64 2, .int .i64 2, .int .i64 2, .int .i64 2, .int .i64 3]) (.int .i64 1)).run Tryz.prog w = .ok (.int .i64 0) w := by kernel_rfl
theorem ar_2 (w : World) : (Instr.index 67 (.agg #[.int .i64 0, .int .i64 0, .int .i64 0, .int .i64 0, .int .i64 0, .int .i64 1, .int .i64 2, .int .i64 2, .int .i64 2, .int .i64 2, .int .i64 2, .int .i64 2, .int .i64 3]) (.int .i64 2)).run Tryz.prog w = .ok (.int .i64 0) w := by kernel_rfl
theorem ar_3 (w : World) : (Instr.index 67 (.agg #[.int .i64 0, .int .i64 0, .int .i64 0, .int .i64 0, .int .i64 0, .int .i64 1, .int .i64 2, .int .i64 2, .int .i64 2, .int .i64 2, .int .i64 2, .int .i64 2, .int .i64 3]) (.int .i64 3)).run Tryz.prog w = .ok (.int .i64 0) w := by kernel_rfl
theorem ar_4 (w : World) : (Instr.index 67 (.agg #[.int .i64 0, .int .i64 0, .int .i64 0, .int .i64 0, .int .i64 0, .int .i64 1, .int .i64 2, .int .i64 2, .int .i64 2, .int .i64 2, .int .i64 2, .int .i64 2, .int .i64 3]) (.int .i64 4)).run Tryz.prog w = .ok (.int .i64 0) w := by kernel_rfl
theorem ar_5 (w : World) : (Instr.index 67 (.agg #[.int .i64 0, .int .i64 0, .int .i64 0, .int .i64 0, .int .i64 0, .int .i64 1, .int .i64 2, .int .i64 2, .int .i64 2, .int .i64 2, .int .i64 2, .int .i64 2, .int .i64 3]) (.int .i64 5)).run Tryz.prog w = .ok (.int .i64 1) w := by kernel_rfl
theorem ar_6 (w : World) : (Instr.index 67 (.agg #[.int .i64 0, .int .i64 0, .int .i64 0, .int .i64 0, .int .i64 0, .int .i64 1, .int .i64 2, .int .i64 2, .int .i64 2, .int .i64 2, .int .i64 2, .int .i64 2, .int .i64 3]) (.int .i64 6)).run Tryz.prog w = .ok (.int .i64 2) w := by kernel_rfl
theorem ar_7 (w : World) : (Instr.index 67 (.agg #[.int .i64 0, .int .i64 0, .int .i64 0, .int .i64 0, .int .i64 0, .int .i64 1, .int .i64 2, .int .i64 2, .int .i64 2, .int .i64 2, .int .i64 2, .int .i64 2, .int .i64 3]) (.int .i64 7)).run Tryz.prog w = .ok (.int .i64 2) w := by kernel_rfl
theorem ar_8 (w : World) : (Instr.index 67 (.agg #[.int .i64 0, .int .i64 0, .int .i64 0, .int .i64 0, .int .i64 0, .int .i64 1, .int .i64 2, .int .i64 2, .int .i64 2, .int .i64 2, .int .i64 2, .int .i64 2, .int .i64 3]) (.int .i64 8)).run Tryz.prog w = .ok (.int .i64 2) w := by kernel_rfl
theorem ar_9 (w : World) : (Instr.index 67 (.agg #[.int .i64 0, .int .i64 0, .int .i64 0, .int .i64 0, .int .i64 0, .int .i64 1, .int .i64 2, .int .i64 2, .int .i64 2, .int .i64 2, .int .i64 2, .int .i64 2, .int .i64 3]) (.int .i64 9)).run Tryz.prog w = .ok (.int .i64 2) w := by kernel_rfl
theorem ar_10 (w : World) : (Instr.index 67 (.agg #[.int .i64 0, .int .i64 0, .int .i64 0, .int .i64 0, .int .i64 0, .int .i64 1, .int .i64 2, .int .i64 2, .int .i64 2, .int .i64 2, .int .i64 2, .int .i64 2, .int .i64 3]) (.int .i64 10)).run Tryz.prog w = .ok (.int .i64 2) w := by kernel_rfl
theorem ar_11 (w : World) : (Instr.index 67 (.agg #[.int .i64 0, .int .i64 0, .int .i64 0, .int .i64 0, .int .i64 0, .int .i64 1, .int .i64 2, .int .i64 2, .int .i64 2, .int .i64 2, .int .i64 2, .int .i64 2, .int .i64 3]) (.int .i64 11)).run Tryz.prog w = .ok (.int .i64 2) w := by kernel_rfl
theorem ar_12 (w : World) : (Instr.index 67 (.agg #[.int .i64 0, .int .i64 0, .int .i64 0, .int .i64 0, .int .i64 0, .int .i64 1, .int .i64 2, .int .i64 2, .int .i64 2, .int .i64 2, .int .i64 2, .int .i64 2, .int .i64 3]) (.int .i64 12)).run Tryz.prog w = .ok (.int .i64 3) w := by kernel_rfl
set_option maxRecDepth 100000 in
set_option maxHeartbeats 4000000 in
theorem rtarity_no (op : Int) (h : op < 0 ∨ 12 < op) (w : World) : Calls Tryz.prog 20 #[.int .i64 op] w (GiveI w (-1)) := by
 by_cases h1 : op < 0
 ·go_enter Tryz.func20, Tryz.ntmps20
  go_wp2_with fail
  go_ret
  exact ⟨rfl, Below.refl _ _⟩
 ·have h2 : 12 < op := by omega
  clear h
  go_enter Tryz.func20, Tryz.ntmps20
  go_wp2_with fail
  go_ret
  exact ⟨rfl, Below.refl _ _⟩
set_option maxRecDepth 100000 in
set_option maxHeartbeats 4000000 in
theorem rtarity_0 (w : World) : Calls Tryz.prog 20 #[.int .i64 0] w (GiveI w 0) := by
 go_enter Tryz.func20, Tryz.ntmps20
 go_wp2_with fail
 all_goals (try rw [ar_0])
 all_goals (try go_wp2_with fail)
 go_ret
 exact ⟨rfl, Below.refl _ _⟩
set_option maxRecDepth 100000 in
set_option maxHeartbeats 4000000 in
theorem rtarity_1 (w : World) : Calls Tryz.prog 20 #[.int .i64 1] w (GiveI w 0) := by
 go_enter Tryz.func20, Tryz.ntmps20
 go_wp2_with fail
 all_goals (try rw [ar_1])
 all_goals (try go_wp2_with fail)
 go_ret
 exact ⟨rfl, Below.refl _ _⟩
set_option maxRecDepth 100000 in
set_option maxHeartbeats 4000000 in
theorem rtarity_2 (w : World) : Calls Tryz.prog 20 #[.int .i64 2] w (GiveI w 0) := by
 go_enter Tryz.func20, Tryz.ntmps20
 go_wp2_with fail
 all_goals (try rw [ar_2])
 all_goals (try go_wp2_with fail)
 go_ret
 exact ⟨rfl, Below.refl _ _⟩
set_option maxRecDepth 100000 in
set_option maxHeartbeats 4000000 in
theorem rtarity_3 (w : World) : Calls Tryz.prog 20 #[.int .i64 3] w (GiveI w 0) := by
 go_enter Tryz.func20, Tryz.ntmps20
 go_wp2_with fail
 all_goals (try rw [ar_3])
 all_goals (try go_wp2_with fail)
 go_ret
 exact ⟨rfl, Below.refl _ _⟩
set_option maxRecDepth 100000 in
set_option maxHeartbeats 4000000 in
theorem rtarity_4 (w : World) : Calls Tryz.prog 20 #[.int .i64 4] w (GiveI w 0) := by
 go_enter Tryz.func20, Tryz.ntmps20
 go_wp2_with fail
 all_goals (try rw [ar_4])
 all_goals (try go_wp2_with fail)
 go_ret
 exact ⟨rfl, Below.refl _ _⟩
set_option maxRecDepth 100000 in
set_option maxHeartbeats 4000000 in
theorem rtarity_5 (w : World) : Calls Tryz.prog 20 #[.int .i64 5] w (GiveI w 1) := by
 go_enter Tryz.func20, Tryz.ntmps20
 go_wp2_with fail
 all_goals (try rw [ar_5])
 all_goals (try go_wp2_with fail)
 go_ret
 exact ⟨rfl, Below.refl _ _⟩
set_option maxRecDepth 100000 in
set_option maxHeartbeats 4000000 in
theorem rtarity_6 (w : World) : Calls Tryz.prog 20 #[.int .i64 6] w (GiveI w 2) := by
 go_enter Tryz.func20, Tryz.ntmps20
 go_wp2_with fail
 all_goals (try rw [ar_6])
 all_goals (try go_wp2_with fail)
 go_ret
 exact ⟨rfl, Below.refl _ _⟩
set_option maxRecDepth 100000 in
set_option maxHeartbeats 4000000 in
theorem rtarity_7 (w : World) : Calls Tryz.prog 20 #[.int .i64 7] w (GiveI w 2) := by
 go_enter Tryz.func20, Tryz.ntmps20
 go_wp2_with fail
 all_goals (try rw [ar_7])
 all_goals (try go_wp2_with fail)
 go_ret
 exact ⟨rfl, Below.refl _ _⟩
set_option maxRecDepth 100000 in
set_option maxHeartbeats 4000000 in
theorem rtarity_8 (w : World) : Calls Tryz.prog 20 #[.int .i64 8] w (GiveI w 2) := by
 go_enter Tryz.func20, Tryz.ntmps20
 go_wp2_with fail
 all_goals (try rw [ar_8])
 all_goals (try go_wp2_with fail)
 go_ret
 exact ⟨rfl, Below.refl _ _⟩
set_option maxRecDepth 100000 in
set_option maxHeartbeats 4000000 in
theorem rtarity_9 (w : World) : Calls Tryz.prog 20 #[.int .i64 9] w (GiveI w 2) := by
 go_enter Tryz.func20, Tryz.ntmps20
 go_wp2_with fail
 all_goals (try rw [ar_9])
 all_goals (try go_wp2_with fail)
 go_ret
 exact ⟨rfl, Below.refl _ _⟩
set_option maxRecDepth 100000 in
set_option maxHeartbeats 4000000 in
theorem rtarity_10 (w : World) : Calls Tryz.prog 20 #[.int .i64 10] w (GiveI w 2) := by
 go_enter Tryz.func20, Tryz.ntmps20
 go_wp2_with fail
 all_goals (try rw [ar_10])
 all_goals (try go_wp2_with fail)
 go_ret
 exact ⟨rfl, Below.refl _ _⟩
set_option maxRecDepth 100000 in
set_option maxHeartbeats 4000000 in
theorem rtarity_11 (w : World) : Calls Tryz.prog 20 #[.int .i64 11] w (GiveI w 2) := by
 go_enter Tryz.func20, Tryz.ntmps20
 go_wp2_with fail
 all_goals (try rw [ar_11])
 all_goals (try go_wp2_with fail)
 go_ret
 exact ⟨rfl, Below.refl _ _⟩
set_option maxRecDepth 100000 in
set_option maxHeartbeats 4000000 in
theorem rtarity_12 (w : World) : Calls Tryz.prog 20 #[.int .i64 12] w (GiveI w 3) := by
 go_enter Tryz.func20, Tryz.ntmps20
 go_wp2_with fail
 all_goals (try rw [ar_12])
 all_goals (try go_wp2_with fail)
 go_ret
 exact ⟨rfl, Below.refl _ _⟩
theorem rtarity_any (op : Int) (w : World) : Calls Tryz.prog 20 #[.int .i64 op] w (GiveI w (arI op)) := by
 by_cases h : op < 0 ∨ 12 < op
 ·have e : arI op = -1 := by unfold arI arN; rw [if_pos h]
  rw [e]; exact rtarity_no op h w
 ·have h : op = 0 ∨ op = 1 ∨ op = 2 ∨ op = 3 ∨ op = 4 ∨ op = 5 ∨ op = 6 ∨ op = 7 ∨ op = 8 ∨ op = 9 ∨ op = 10 ∨ op = 11 ∨ op = 12 := by omega
  rcases h with rfl | rfl | rfl | rfl | rfl | rfl | rfl | rfl | rfl | rfl | rfl | rfl | rfl
  ·exact rtarity_0 w
  ·exact rtarity_1 w
  ·exact rtarity_2 w
  ·exact rtarity_3 w
  ·exact rtarity_4 w
  ·exact rtarity_5 w
  ·exact rtarity_6 w
  ·exact rtarity_7 w
  ·exact rtarity_8 w
  ·exact rtarity_9 w
  ·exact rtarity_10 w
  ·exact rtarity_11 w
  ·exact rtarity_12 w
end Go.Proofs.YtdeinhkdphgfaaaGreatDoor

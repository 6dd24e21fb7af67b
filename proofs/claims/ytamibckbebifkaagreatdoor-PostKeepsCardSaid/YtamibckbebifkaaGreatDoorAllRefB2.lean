/- Rows of lines in memory; whether they are small. -/
import Derived.Test.YtamibckbebifkaaGreatDoorAllRefB
namespace Go.Proofs.YtamibckbebifkaaGreatDoor
open Go.RowKit
set_option linter.unusedSimpArgs false
set_option linter.unusedVariables false

/-- Lines that lie one behind the other. -/
def Lns (w : World) (p : Option Addr) (ls : List Ln) : Prop := ∀ (j : Nat) (x : Ln), ls[j]? = some x → ∃ b o, p = some ⟨b, o, none⟩ ∧ b < w.heap.size ∧
  w.cell? ⟨b, o + j * 4, none⟩ = some (.string ⟨x.1.1.toArray⟩) ∧ w.cell? ⟨b, o + j * 4 + 1, none⟩ = some (.string ⟨x.1.2.toArray⟩) ∧
  w.cell? ⟨b, o + j * 4 + 2, none⟩ = some (.string ⟨x.2.1.toArray⟩) ∧ w.cell? ⟨b, o + j * 4 + 3, none⟩ = some (.string ⟨x.2.2.toArray⟩)
theorem Lns.below {w w' : World} {p : Option Addr} {ls : List Ln} (h : Lns w p ls) (hb : Below w.heap.size w w') : Lns w' p ls := fun j x hx => by
  obtain ⟨b, o, hp, hl, c0, c1, c2, c3⟩ := h j x hx
  exact ⟨b, o, hp, Nat.lt_of_lt_of_le hl hb.size, (hb.cell (p := ⟨b, _, none⟩) hl).trans c0, (hb.cell (p := ⟨b, _, none⟩) hl).trans c1, (hb.cell (p := ⟨b, _, none⟩) hl).trans c2, (hb.cell (p := ⟨b, _, none⟩) hl).trans c3⟩
theorem Lns.rule {w : World} {p : Option Addr} {ls : List Ln} (h : Lns w p ls) {k : Nat} {a s n d : List UInt8} (hx : ls[k]? = some ((a, s), (n, d))) : ∃ b o, p = some ⟨b, o, none⟩ ∧
    (∀ v, Below w.heap.size w v → v.cell? ⟨b, o + k * 4, none⟩ = some (.string ⟨a.toArray⟩)) ∧ (∀ v, Below w.heap.size w v → v.cell? ⟨b, o + k * 4 + 1, none⟩ = some (.string ⟨s.toArray⟩)) ∧
    (∀ v, Below w.heap.size w v → v.cell? ⟨b, o + k * 4 + 2, none⟩ = some (.string ⟨n.toArray⟩)) ∧ (∀ v, Below w.heap.size w v → v.cell? ⟨b, o + k * 4 + 3, none⟩ = some (.string ⟨d.toArray⟩)) := by
  obtain ⟨b, o, hp, hl, c0, c1, c2, c3⟩ := h k _ hx
  exact ⟨b, o, hp, fun v hb => (hb.cell (p := ⟨b, _, none⟩) hl).trans c0, fun v hb => (hb.cell (p := ⟨b, _, none⟩) hl).trans c1, fun v hb => (hb.cell (p := ⟨b, _, none⟩) hl).trans c2, fun v hb => (hb.cell (p := ⟨b, _, none⟩) hl).trans c3⟩
theorem more {ls : List Ln} {P : Ln → Prop} {k : Nat} {z : Ln} (h : ∀ (j : Nat) (x : Ln), j < k → ls[j]? = some x → P x) (hz : ls[k]? = some z) (hp : P z) : ∀ (j : Nat) (x : Ln), j < k + 1 → ls[j]? = some x → P x := fun j x hj hx => by
  by_cases e : j = k
  · subst e
    rw [hz] at hx
    exact Option.some.inj hx ▸ hp
  · exact h j x (by omega) hx
theorem Lns.nil (w : World) (p : Option Addr) : Lns w p [] := fun j x h => by cases h
def shL (x : Ln) : Bool := (decide (x.2.1.length ≤ 100) && decide (x.2.2.length ≤ 100)) && (decide (x.1.1.length ≤ 100) && decide (x.1.2.length ≤ 100))
def smB (ls : List Ln) : Bool := (List.range ls.length).all (fun j => match ls[j]? with | some x => shL x | none => true) && decide (ls.length ≤ 40)
theorem smB_iff {ls : List Ln} : smB ls = true ↔ (∀ x ∈ ls, shL x = true) ∧ ls.length ≤ 40 := by
  unfold smB
  rw [Bool.and_eq_true, List.all_eq_true, decide_eq_true_eq]
  refine and_congr ⟨fun h x hx => ?_, fun h j hj => ?_⟩ Iff.rfl
  · obtain ⟨j, hj, rfl⟩ := List.getElem_of_mem hx
    have := h j (List.mem_range.2 hj)
    rw [List.getElem?_eq_getElem hj] at this
    exact this
  · have hj := List.mem_range.1 hj
    rw [List.getElem?_eq_getElem hj]
    exact h _ (List.getElem_mem hj)
theorem smB_stop {ls : List Ln} {k : Nat} {x : Ln} (hx : ls[k]? = some x) (h : shL x = false) : smB ls = false := by
  cases e : smB ls with
  | false => rfl
  | true =>
    have := (smB_iff.1 e).1 x (List.mem_of_getElem? hx)
    rw [h] at this; cases this
theorem smB_end {ls : List Ln} (h : ∀ (j : Nat) (x : Ln), ls[j]? = some x → shL x = true) : smB ls = decide (ls.length ≤ 40) := by
  cases e : decide (ls.length ≤ 40) with
  | true => exact smB_iff.2 ⟨fun x hx => by
      obtain ⟨j, hj, rfl⟩ := List.getElem_of_mem hx
      exact h j _ (List.getElem?_eq_getElem hj), of_decide_eq_true e⟩
  | false => unfold smB; rw [e, Bool.and_false]
set_option maxRecDepth 100000 in
set_option maxHeartbeats 4000000 in
theorem rbsmall_any (p : Option Addr) (c : Nat) (ls : List Ln) (w : World) (hc : ls.length ≤ c) (hl : ls.length ≤ 4611686018427387904) (h : Lns w p ls) :
    Calls Tryz.prog 7 #[.slice p ls.length c] w (GiveB w (smB ls)) := by
  have HS := Lib.hid h; clear h
  go_enter Tryz.func7, Tryz.ntmps7
  go_wp2
  go_loopw [3] (fun i wr => ∃ k : Nat, k ≤ ls.length ∧ i = .int .i64 k ∧ Hid (∀ j x, j < k → ls[j]? = some x → shL x = true) ∧ Below w.heap.size w wr) (fun i _ => ls.length - (intOf i).toNat)
  case atStart => exact ⟨0, Nat.zero_le _, rfl, fun j x h => absurd h (Nat.not_lt_zero j), Below.refl _ _⟩
  case round =>
    obtain ⟨k, hk, rfl, HJ, hw⟩ := hrel
    by_cases hlt : k < ls.length
    · obtain ⟨⟨⟨a, s⟩, ⟨n, d⟩⟩, hx⟩ : ∃ x, ls[k]? = some x := ⟨_, List.getElem?_eq_getElem hlt⟩
      obtain ⟨b, o, rfl, k0, k1, k2, k3⟩ := (HS.out.below hw).rule hx
      have HX := Lib.hid hx; have HW := Lib.hid hw
      clear hx hw
      have b0 := Below.refl wr.heap.size wr
      have cs := fun w => short1q w (⟨n.toArray⟩, ⟨d.toArray⟩)
      cases hq : shQ ((⟨n.toArray⟩, ⟨d.toArray⟩) : ByteArray × ByteArray) with
      | false =>
        rw [hq] at cs
        have hq' : (decide (n.length ≤ 100) && decide (d.length ≤ 100)) = false := by rw [← hq]; unfold shQ; rw [size_of, size_of]
        have HO : Hid (smB ls = false) := Lib.hid (smB_stop HX.out (by unfold shL; show (_ && _) = false; rw [hq', Bool.false_and]))
        clear hq
        have CS := Lib.hid cs; clear cs
        go_wp2_with fail
        refine (CS.out _).mono ?_
        rintro e w1 ⟨rfl, b⟩
        have b1 := Below.more b0 b
        clear b
        go_wp2_with fail
        go_ret
        exact ⟨ret_bool (by rw [HO.out]), Below.more HW.out b1⟩
      | true =>
        rw [hq] at cs
        have hq' : (decide (n.length ≤ 100) && decide (d.length ≤ 100)) = true := by rw [← hq]; unfold shQ; rw [size_of, size_of]
        by_cases h1 : (100 : Int) < (a.length : Int)
        · have HO : Hid (smB ls = false) := Lib.hid (smB_stop HX.out (by unfold shL; show (_ && (decide (a.length ≤ 100) && _)) = false; rw [decide_eq_false (show ¬ a.length ≤ 100 by omega), Bool.false_and, Bool.and_false]))
          have CS := Lib.hid cs; clear cs
          go_wp2_with fail
          refine (CS.out _).mono ?_
          rintro e w1 ⟨rfl, b⟩
          have b1 := Below.more b0 b
          clear b
          go_wp2_with fail
          go_ret
          exact ⟨ret_bool (by rw [HO.out]), Below.more HW.out b1⟩
        · by_cases h2 : (100 : Int) < (s.length : Int)
          · have HO : Hid (smB ls = false) := Lib.hid (smB_stop HX.out (by unfold shL; show (_ && (_ && decide (s.length ≤ 100))) = false; rw [decide_eq_false (show ¬ s.length ≤ 100 by omega), Bool.and_false, Bool.and_false]))
            have CS := Lib.hid cs; clear cs
            go_wp2_with fail
            refine (CS.out _).mono ?_
            rintro e w1 ⟨rfl, b⟩
            have b1 := Below.more b0 b
            clear b
            go_wp2_with fail
            go_ret
            exact ⟨ret_bool (by rw [HO.out]), Below.more HW.out b1⟩
          · have HO : Hid (shL ((a, s), (n, d)) = true) := Lib.hid (by
              show ((decide (n.length ≤ 100) && decide (d.length ≤ 100)) && (decide (a.length ≤ 100) && decide (s.length ≤ 100))) = true
              rw [hq', decide_eq_true (show a.length ≤ 100 by omega), decide_eq_true (show s.length ≤ 100 by omega)]; rfl)
            clear hq hq'
            have CS := Lib.hid cs; clear cs
            go_wp2_with fail
            refine (CS.out _).mono ?_
            rintro e w1 ⟨rfl, b⟩
            have b1 := Below.more b0 b
            clear b
            go_wp2_with fail
            go_roundw
            case rel => exact ⟨k + 1, hlt, by go_num, more HJ.out HX.out HO.out, Below.more HW.out b1⟩
            case measure => simp [intOf]; omega
    · obtain rfl : k = ls.length := by omega
      have hr := smB_end fun j x hx => HJ.out j x (List.getElem?_eq_some_iff.1 hx).1 hx
      have HR := Lib.hid hr; have HW := Lib.hid hw; clear hr hw
      by_cases h40 : (ls.length : Int) ≤ 40
      · have HD : Hid (decide (ls.length ≤ 40) = true) := Lib.hid (decide_eq_true (by omega))
        go_wp2
        go_ret
        exact ⟨ret_bool (by rw [HR.out, HD.out]), HW.out⟩
      · have HD : Hid (decide (ls.length ≤ 40) = false) := Lib.hid (decide_eq_false (by omega))
        go_wp2
        go_ret
        exact ⟨ret_bool (by rw [HR.out, HD.out]), HW.out⟩
end Go.Proofs.YtamibckbebifkaaGreatDoor

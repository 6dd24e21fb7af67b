/- What the laws of layer 7 want of the program's post; so much moved; constants. -/
import Derived.Test.YtamibckbebifkaaGreatDoorPostNum3
import Derived.Test.YtamibckbebifkaaGreatDoorAllRefP2
namespace Go.Proofs.YtamibckbebifkaaGreatDoor
open Go.RowKit
set_option linter.unusedSimpArgs false
set_option linter.unusedVariables false
/-- A row of lines is answered. -/
def GiveRow (w : World) (ls : List Ln) (e : Ending) (w' : World) : Prop := (∃ p c, e = .returned (.slice p ls.length c) ∧ ls.length ≤ c ∧ Lns w' p ls) ∧ Below w.heap.size w w'
theorem giveRow {w w' : World} {ls : List Ln} {e : Ending} (h : GiveL w ls e w') : GiveRow w ls e w' := by
  obtain ⟨⟨p, c, he, hc, hl, _⟩, hb⟩ := h
  exact ⟨⟨p, c, he, hc, hl⟩, hb⟩
/-- The program's post answers as the document's words; G: what it wants of the world. -/
structure PostC (G : World → Prop) : Prop where
  below : ∀ {w w' : World}, G w → Below w.heap.size w w' → G w'
  free : ∀ (s : ByteArray) (w : World), G w → Calls Tryz.prog 11 #[.string s] w (GiveB w (isFree s.data.toList))
  bal : ∀ (q : Option Addr) (d : Nat) (ms : List Ln) (D M : Nat) (w : World), ms.length ≤ d → ms.length ≤ 200 → (∀ x ∈ ms, SzF x) → Sized D (M * ms.length) → ((∀ x ∈ ms, lineOk x = true) → Tame D M ms) → Lns w q ms → G w →
    Calls Tryz.prog 14 #[.slice q ms.length d] w (GiveB w (balB ms))
  apply : ∀ (p : Option Addr) (c : Nat) (ls : List Ln) (q : Option Addr) (d : Nat) (ms : List Ln) (cov : Bool) (D M : Nat) (w : World), ls.length ≤ c → ms.length ≤ d → ls.length ≤ 200 → ms.length ≤ 200 → (∀ x ∈ ls, SzF x) → (∀ x ∈ ms, SzF x) → Way D M ls ms → Lns w p ls → Lns w q ms → G w →
    Calls Tryz.prog 9 #[.slice p ls.length c, .slice q ms.length d, .bool cov] w (GiveLE w (applyB ls ms cov))
/-- So much of x from an account to another one. -/
def moveL (f t : List UInt8) (n : Int) : List Ln := [((f, [120]), (wd (-n), [49])), ((t, [120]), (wd n, [49]))]
set_option maxRecDepth 100000 in
set_option maxHeartbeats 4000000 in
theorem move_any (f t : List UInt8) (n : Int) (w : World) (h0 : -9223372036854775807 ≤ n) (h1 : n ≤ 9223372036854775807) :
    Calls Tryz.prog 23 #[.string ⟨f.toArray⟩, .string ⟨t.toArray⟩, .int .i64 n] w (GiveRow w (moveL f t n)) := by
  have c1 := fun w => rqof_any (-n) w (by omega) (by omega)
  have c2 := fun w => rqof_any n w (by omega) h1
  have hn : IntKind.i64.wrap (-n) = -n := IntWalk.i64_in _ (by omega)
  have HM : Hid (moveL f t n = [((f, [120]), (wd (-n), [49])), ((t, [120]), (wd n, [49]))]) := Lib.hid rfl
  generalize moveL f t n = L at *
  generalize wd (-n) = a at *
  generalize wd n = b at *
  have C1 := Lib.hid c1; have C2 := Lib.hid c2
  clear c1 c2
  go_enter Tryz.func23, Tryz.ntmps23
  go_wp2_with fail
  have b0 := Below.refl w.heap.size w
  refine (C1.out _).mono ?_
  rintro e w1 ⟨rfl, b⟩
  have b1 := Below.more b0 b
  clear b
  go_wp2_with fail
  refine (C2.out _).mono ?_
  rintro e w2 ⟨rfl, b⟩
  have b2 := Below.more b1 b
  clear b
  go_wp2_with fail
  go_ret
  rw [HM.out]
  refine giveRow (giveL (ls := [((f, [120]), (a, [49])), ((t, [120]), (b, [49]))]) ?_ (Below.alloc b2 (Below.size b2) _))
  exact World.ownsRow_lit w2 #[.string ⟨f.toArray⟩, .string ⟨#[120]⟩, .string ⟨a.toArray⟩, .string ⟨#[49]⟩, .string ⟨t.toArray⟩, .string ⟨#[120]⟩, .string ⟨b.toArray⟩, .string ⟨#[49]⟩] 2 (Below.size b2) (by decide) rfl
theorem mv_1 : moveL [33, 105, 115, 115, 117, 101, 114] [97, 110, 110] 2 = ([(([33, 105, 115, 115, 117, 101, 114], [120]), ([45, 50], [49])), (([97, 110, 110], [120]), ([50], [49]))] : List Ln) := by unfold moveL; rw [show wd (-2) = [45, 50] from wd_const (by decide) (by decide), show wd 2 = [50] from wd_const (by decide) (by decide)]
theorem mv_2 : moveL [97, 110, 110] [98, 111, 98] 3 = ([(([97, 110, 110], [120]), ([45, 51], [49])), (([98, 111, 98], [120]), ([51], [49]))] : List Ln) := by unfold moveL; rw [show wd (-3) = [45, 51] from wd_const (by decide) (by decide), show wd 3 = [51] from wd_const (by decide) (by decide)]
theorem mv_5 : moveL [33, 105, 115, 115, 117, 101, 114] [97, 110, 110] 1 = ([(([33, 105, 115, 115, 117, 101, 114], [120]), ([45, 49], [49])), (([97, 110, 110], [120]), ([49], [49]))] : List Ln) := by unfold moveL; rw [show wd (-1) = [45, 49] from wd_const (by decide) (by decide), show wd 1 = [49] from wd_const (by decide) (by decide)]
theorem bl_1 : balB ([(([33, 105, 115, 115, 117, 101, 114], [120]), ([45, 50], [49])), (([97, 110, 110], [120]), ([50], [49]))] : List Ln) = true := bal_two (by decide +kernel) (by decide +kernel)
theorem bl_2 : balB ([(([97, 110, 110], [120]), ([45, 51], [49])), (([98, 111, 98], [120]), ([51], [49]))] : List Ln) = true := bal_two (by decide +kernel) (by decide +kernel)
theorem bl_5 : balB ([(([33, 105, 115, 115, 117, 101, 114], [120]), ([45, 49], [49])), (([97, 110, 110], [120]), ([49], [49]))] : List Ln) = true := bal_two (by decide +kernel) (by decide +kernel)
theorem bl_4 : balB ([(([97, 110, 110], [120]), ([45, 51], [49]))] : List Ln) = false := by
  have e : sumA ([(([97, 110, 110], [120]), ([45, 51], [49]))] : List Ln) [120] = ([45, 51], [49]) := by
    show addR ([48], [49]) ([45, 51], [49]) = _
    exact addR_c (by decide +kernel)
  have h : ((([(([97, 110, 110], [120]), ([45, 51], [49]))] : List Ln)).all fun x => sgnR (sumA ([(([97, 110, 110], [120]), ([45, 51], [49]))] : List Ln) x.1.2) == 0) = false := by
    show ((sgnR (sumA ([(([97, 110, 110], [120]), ([45, 51], [49]))] : List Ln) [120]) == 0) && true) = false
    rw [e]; decide +kernel
  unfold balB
  rw [h, Bool.and_false]
theorem bl_0 : balB [] = true := rfl
theorem ap_1 : applyB [] ([(([33, 105, 115, 115, 117, 101, 114], [120]), ([45, 50], [49])), (([97, 110, 110], [120]), ([50], [49]))] : List Ln) true = (([(([33, 105, 115, 115, 117, 101, 114], [120]), ([45, 50], [49])), (([97, 110, 110], [120]), ([50], [49]))] : List Ln), 0) := apply_c rfl bl_1 (all_two (add_c (g := ([48], [49])) (q := ([45, 50], [49])) (by decide +kernel) (by decide +kernel) (addR_c (by decide +kernel)) (by decide +kernel) : addB ([] : List Ln) (([33, 105, 115, 115, 117, 101, 114], [120]), ([45, 50], [49])) = (([(([33, 105, 115, 115, 117, 101, 114], [120]), ([45, 50], [49]))] : List Ln), true)) (add_c (g := ([48], [49])) (q := ([50], [49])) (by decide +kernel) (by decide +kernel) (addR_c (by decide +kernel)) (by decide +kernel) : addB ([(([33, 105, 115, 115, 117, 101, 114], [120]), ([45, 50], [49]))] : List Ln) (([97, 110, 110], [120]), ([50], [49])) = (([(([33, 105, 115, 115, 117, 101, 114], [120]), ([45, 50], [49])), (([97, 110, 110], [120]), ([50], [49]))] : List Ln), true))) (by decide +kernel)
theorem ap_2 : applyB ([(([33, 105, 115, 115, 117, 101, 114], [120]), ([45, 50], [49])), (([97, 110, 110], [120]), ([50], [49]))] : List Ln) ([(([97, 110, 110], [120]), ([45, 51], [49])), (([98, 111, 98], [120]), ([51], [49]))] : List Ln) true = ([], 71) := apply_short (by decide +kernel) bl_2 (all_two (add_c (g := ([50], [49])) (q := ([45, 49], [49])) (by decide +kernel) (by decide +kernel) (addR_c (by decide +kernel)) (by decide +kernel) : addB ([(([33, 105, 115, 115, 117, 101, 114], [120]), ([45, 50], [49])), (([97, 110, 110], [120]), ([50], [49]))] : List Ln) (([97, 110, 110], [120]), ([45, 51], [49])) = (([(([33, 105, 115, 115, 117, 101, 114], [120]), ([45, 50], [49])), (([97, 110, 110], [120]), ([45, 49], [49]))] : List Ln), true)) (add_c (g := ([48], [49])) (q := ([51], [49])) (by decide +kernel) (by decide +kernel) (addR_c (by decide +kernel)) (by decide +kernel) : addB ([(([33, 105, 115, 115, 117, 101, 114], [120]), ([45, 50], [49])), (([97, 110, 110], [120]), ([45, 49], [49]))] : List Ln) (([98, 111, 98], [120]), ([51], [49])) = (([(([33, 105, 115, 115, 117, 101, 114], [120]), ([45, 50], [49])), (([97, 110, 110], [120]), ([45, 49], [49])), (([98, 111, 98], [120]), ([51], [49]))] : List Ln), true))) (by decide +kernel)
theorem ap_3 : applyB ([(([33, 105, 115, 115, 117, 101, 114], [120]), ([45, 50], [49])), (([97, 110, 110], [120]), ([50], [49]))] : List Ln) ([(([97, 110, 110], [120]), ([45, 51], [49])), (([98, 111, 98], [120]), ([51], [49]))] : List Ln) false = (([(([33, 105, 115, 115, 117, 101, 114], [120]), ([45, 50], [49])), (([97, 110, 110], [120]), ([45, 49], [49])), (([98, 111, 98], [120]), ([51], [49]))] : List Ln), 0) := apply_c (by decide +kernel) bl_2 (all_two (add_c (g := ([50], [49])) (q := ([45, 49], [49])) (by decide +kernel) (by decide +kernel) (addR_c (by decide +kernel)) (by decide +kernel) : addB ([(([33, 105, 115, 115, 117, 101, 114], [120]), ([45, 50], [49])), (([97, 110, 110], [120]), ([50], [49]))] : List Ln) (([97, 110, 110], [120]), ([45, 51], [49])) = (([(([33, 105, 115, 115, 117, 101, 114], [120]), ([45, 50], [49])), (([97, 110, 110], [120]), ([45, 49], [49]))] : List Ln), true)) (add_c (g := ([48], [49])) (q := ([51], [49])) (by decide +kernel) (by decide +kernel) (addR_c (by decide +kernel)) (by decide +kernel) : addB ([(([33, 105, 115, 115, 117, 101, 114], [120]), ([45, 50], [49])), (([97, 110, 110], [120]), ([45, 49], [49]))] : List Ln) (([98, 111, 98], [120]), ([51], [49])) = (([(([33, 105, 115, 115, 117, 101, 114], [120]), ([45, 50], [49])), (([97, 110, 110], [120]), ([45, 49], [49])), (([98, 111, 98], [120]), ([51], [49]))] : List Ln), true))) (by decide +kernel)
theorem ap_4 : applyB ([(([33, 105, 115, 115, 117, 101, 114], [120]), ([45, 50], [49])), (([97, 110, 110], [120]), ([50], [49]))] : List Ln) ([(([97, 110, 110], [120]), ([45, 51], [49]))] : List Ln) true = ([], 70) := by unfold applyB; rw [bl_4, if_pos (show mayB ([(([33, 105, 115, 115, 117, 101, 114], [120]), ([45, 50], [49])), (([97, 110, 110], [120]), ([50], [49]))] : List Ln) = true from (by decide +kernel))]; rfl
theorem ap_5 : applyB ([(([33, 105, 115, 115, 117, 101, 114], [120]), ([45, 50], [49])), (([97, 110, 110], [120]), ([45, 49], [49])), (([98, 111, 98], [120]), ([51], [49]))] : List Ln) ([(([33, 105, 115, 115, 117, 101, 114], [120]), ([45, 49], [49])), (([97, 110, 110], [120]), ([49], [49]))] : List Ln) true = (([(([33, 105, 115, 115, 117, 101, 114], [120]), ([45, 51], [49])), (([98, 111, 98], [120]), ([51], [49]))] : List Ln), 0) := apply_c (by decide +kernel) bl_5 (all_two (add_c (g := ([45, 50], [49])) (q := ([45, 51], [49])) (by decide +kernel) (by decide +kernel) (addR_c (by decide +kernel)) (by decide +kernel) : addB ([(([33, 105, 115, 115, 117, 101, 114], [120]), ([45, 50], [49])), (([97, 110, 110], [120]), ([45, 49], [49])), (([98, 111, 98], [120]), ([51], [49]))] : List Ln) (([33, 105, 115, 115, 117, 101, 114], [120]), ([45, 49], [49])) = (([(([33, 105, 115, 115, 117, 101, 114], [120]), ([45, 51], [49])), (([97, 110, 110], [120]), ([45, 49], [49])), (([98, 111, 98], [120]), ([51], [49]))] : List Ln), true)) (add_c (g := ([45, 49], [49])) (q := ([48], [49])) (by decide +kernel) (by decide +kernel) (addR_c (by decide +kernel)) (by decide +kernel) : addB ([(([33, 105, 115, 115, 117, 101, 114], [120]), ([45, 51], [49])), (([97, 110, 110], [120]), ([45, 49], [49])), (([98, 111, 98], [120]), ([51], [49]))] : List Ln) (([97, 110, 110], [120]), ([49], [49])) = (([(([33, 105, 115, 115, 117, 101, 114], [120]), ([45, 51], [49])), (([98, 111, 98], [120]), ([51], [49]))] : List Ln), true))) (by decide +kernel)
end Go.Proofs.YtamibckbebifkaaGreatDoor

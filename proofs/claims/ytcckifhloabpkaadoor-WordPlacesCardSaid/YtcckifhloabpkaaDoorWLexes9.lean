/- The walk of WordLexes. -/
import Derived.Test.YtcckifhloabpkaaDoorWordApi
namespace Go.Proofs.YtcckifhloabpkaaDoor
open Go.RowKit
set_option linter.unusedSimpArgs false
set_option linter.unusedVariables false
open Wd (Tk printT ktT lexAt lexD)
variable {G : World → Prop}
theorem lex_len : ∀ (l : List UInt8) (ln c : Nat), (lexAt l ln c).1.length ≤ l.length := by
  refine Wd.lex_ind (fun ln c => ?_) (fun r ih ln c => ?_) (fun r ih ln c => ?_) (fun x r e1 e2 e ln c => ?_) (fun x r kd m e1 e2 e ih ln c => ?_)
  · rw [Wd.lex_nil]; exact Nat.le_refl _
  · rw [Wd.lex_blank]; exact Nat.le_succ_of_le (ih ln (c + 1))
  · rw [Wd.lex_line]; exact Nat.le_succ_of_le (ih (ln + 1) 1)
  · rw [Wd.lex_bad ln c e1 e2 e]; exact Nat.zero_le _
  · rw [Wd.lex_tok ln c e1 e2 e]
    have k := ih ln (c + m)
    have h := Wd.kl_len e
    rw [List.length_drop] at k
    show (lexAt ((x :: r).drop m) ln (c + m)).1.length + 1 ≤ _
    omega
theorem print_sum : ∀ ns : List (List UInt8), (printT ns).length ≤ (ns.map fun u => u.length + 1).sum
  | [] => Nat.le_refl _
  | [x] => by show x.length ≤ x.length + 1 + 0; omega
  | x :: y :: r => by
    have := print_sum (y :: r)
    show (x ++ 32 :: printT (y :: r)).length ≤ (x.length + 1) + ((y :: r).map fun u => u.length + 1).sum
    rw [List.length_append, List.length_cons]; omega
theorem sum_bound (B : Nat) : ∀ ns : List (List UInt8), (∀ u ∈ ns, u.length ≤ B) → (ns.map fun u => u.length + 1).sum ≤ ns.length * (B + 1)
  | [], _ => Nat.zero_le _
  | x :: r, h => by
    have a := h x (List.mem_cons_self ..)
    have b := sum_bound B r fun u hu => h u (List.mem_cons_of_mem _ hu)
    rw [List.map_cons, List.sum_cons, List.length_cons, Nat.add_mul, Nat.one_mul]
    omega
theorem lexD_len (l : List UInt8) : (lexD l).1.length ≤ l.length := by
  unfold lexD
  split
  · exact Nat.zero_le _
  · split
    · exact lex_len l 1 1
    · exact Nat.zero_le _
set_option maxRecDepth 100000 in
set_option maxHeartbeats 4000000 in
theorem lexes9_s (H : WordC G) (s : ByteArray) (q : Option Addr) (d : Nat) (ns : List (List UInt8)) (h1 : (3000 : Int) < (s.size : Int)) (w : World) (hg : G w) : Calls Tryd.prog 3 #[.string s, .slice q ns.length d] w (GiveB w true) := by
  go_enter Tryd.func3, Tryd.ntmps3
  go_wp2_with fail
  refine (fixed9_any H _ hg).mono ?_
  rintro e w1 ⟨rfl, b⟩
  go_wp2_with fail
  go_ret
  exact ⟨rfl, b⟩
set_option maxRecDepth 100000 in
set_option maxHeartbeats 4000000 in
theorem lexes9_l (H : WordC G) (s : ByteArray) (q : Option Addr) (d : Nat) (ns : List (List UInt8)) (h1 : ¬ (3000 : Int) < (s.size : Int)) (h2 : (200 : Int) < (ns.length : Int)) (w : World) (hg : G w) : Calls Tryd.prog 3 #[.string s, .slice q ns.length d] w (GiveB w true) := by
  go_enter Tryd.func3, Tryd.ntmps3
  go_wp2_with fail
  refine (fixed9_any H _ hg).mono ?_
  rintro e w1 ⟨rfl, b⟩
  go_wp2_with fail
  go_ret
  exact ⟨rfl, b⟩
set_option maxRecDepth 100000 in
set_option maxHeartbeats 4000000 in
theorem lexes9_main (H : WordC G) (s : ByteArray) (q : Option Addr) (d : Nat) (ns : List (List UInt8)) (h1 : ¬ (3000 : Int) < (s.size : Int)) (h2 : ¬ (200 : Int) < (ns.length : Int)) (w : World) (hg : G w) (hT : TkTx w q ns) (X : List Tk) (hX : X.length ≤ 4611686018427387904) (er : Int) (ln co : Nat) (T : List UInt8)
    (CL : Hid (∀ V, G V → Calls Tryd.prog 9 #[.string s] V (GiveLex V (X, er, ln, co))))
    (CD : Hid (∀ V, Calls Tryd.prog 10 #[.string s] V (GiveLex V (X, er, ln, co))))
    (CP : Hid (∀ V, Below w.heap.size w V → G V → Calls Tryd.prog 12 #[.slice q ns.length d] V (GiveSt V T)))
    (CQ : Hid (∀ V, Below w.heap.size w V → Calls Tryd.prog 13 #[.slice q ns.length d] V (GiveQ V (.string ⟨T.toArray⟩)))) :
    Calls Tryd.prog 3 #[.string s, .slice q ns.length d] w (GiveB w true) := by
  have HB := Lib.hid H; have HG := Lib.hid hg; clear H hg
  go_enter Tryd.func3, Tryd.ntmps3
  go_wp2_with fail
  have b0 := Below.refl w.heap.size w
  refine (CL.out _ HG.out).mono ?_
  rintro e w1 ⟨⟨p1, c1, rfl, hc1, l1⟩, b⟩
  have b1 := Below.more b0 b
  have L1 := Lib.hid l1
  clear l1 b
  go_wp2_with fail
  refine (CD.out _).mono ?_
  rintro e w2 ⟨⟨p2, c2, rfl, hc2, l2⟩, b⟩
  have b2 := Below.more b1 b
  have L2 := Lib.hid l2
  have L3 := Lib.hid (RowsG.below L1.out b)
  clear l2 b L1
  go_wp2_with fail
  refine (fixed9_any HB.out _ (HB.out.below HG.out b2)).mono ?_
  rintro e w3 ⟨rfl, b⟩
  have b3 := Below.more b2 b
  have L4 := Lib.hid (RowsG.below L2.out b)
  have L5 := Lib.hid (RowsG.below L3.out b)
  clear b L2 L3
  go_wp2_with fail
  have hsm := rlsame_any p1 p2 c1 c2 X X w3 hX hX L5.out L4.out
  rw [decide_eq_true rfl] at hsm
  refine hsm.mono ?_
  rintro e w4 ⟨rfl, b⟩
  have b4 := Below.more b3 b
  clear b hsm
  go_wp2_with fail
  refine (CP.out _ b4 (HB.out.below HG.out b4)).mono ?_
  rintro e w5 ⟨rfl, b⟩
  have b5 := Below.more b4 b
  clear b
  go_wp2_with fail
  refine (CQ.out _ b5).mono ?_
  rintro e w' ⟨rfl, rfl⟩
  go_wp2_with fail
  go_ret
  exact ⟨ret_bool (by first | rfl | simp), b5⟩
theorem lexes9_any (H : WordC G) (s : ByteArray) (q : Option Addr) (d : Nat) (ns : List (List UInt8)) (w : World) (hs : s.size ≤ 4611686018427387904) (hd : ns.length ≤ d) (hn : ns.length ≤ 4611686018427387904) (hu : ∀ u ∈ ns, u.length ≤ 1048576) (hT : TkTx w q ns) (hg : G w) :
    Calls Tryd.prog 3 #[.string s, .slice q ns.length d] w (GiveB w true) := by
  by_cases h1 : (3000 : Int) < (s.size : Int)
  · exact lexes9_s H s q d ns h1 w hg
  by_cases h2 : (200 : Int) < (ns.length : Int)
  · exact lexes9_l H s q d ns h1 h2 w hg
  have hp : (printT ns).length ≤ 140737488355328 := by
    have a := print_sum ns
    have b := sum_bound _ ns hu
    have c : ns.length * (1048576 + 1) ≤ 200 * (1048576 + 1) := Nat.mul_le_mul_right _ (by omega)
    omega
  have cl := fun V (hv : G V) => H.lex s V (by omega) hv
  have cd := fun V => rllex_any s V hs
  have hl := lexD_len s.data.toList
  rw [size_toList] at hl
  have cp := fun V (hv : Below w.heap.size w V) (hgv : G V) => H.print q d ns V hd (by omega) hp (hT.below hv) hgv
  have cq := fun V (hv : Below w.heap.size w V) => rlprint_any q d ns V hn (by omega) (hT.below hv)
  generalize hR : lexD s.data.toList = R at *
  obtain ⟨X, er, ln, co⟩ := R
  exact lexes9_main H s q d ns h1 h2 w hg hT X (Nat.le_trans hl hs) er ln co _ (Lib.hid cl) (Lib.hid cd) (Lib.hid cp) (Lib.hid cq)
end Go.Proofs.YtcckifhloabpkaaDoor

/- The walk of PostChain. -/
import Derived.Test.YtamibckbebifkaaGreatDoorSch
import Derived.Test.YtamibckbebifkaaGreatDoorRowCells
import Derived.Test.YtamibckbebifkaaGreatDoorWTells7
namespace Go.Proofs.YtamibckbebifkaaGreatDoor
open Go.RowKit
set_option linter.unusedSimpArgs false
set_option linter.unusedVariables false
variable {G : World → Prop}
set_option maxHeartbeats 1000000 in
theorem rbname_max (s : ByteArray) (w : World) (hs : s.size ≤ 9223372036854775807) :
    Calls Tryz.prog 22 #[.string s] w fun e w' => e = .returned (.bool (isName s.data.toList)) ∧ w = w' := by
  go_enter Tryz.func22, Tryz.ntmps22
  go_wp2
  go_loop [3] (fun i => ∃ k : Nat, k ≤ s.size ∧ i = .int .i64 k ∧ Hid (nmFrom 0 (s.data.toList.take k) = true)) (fun i => s.size - (intOf i).toNat)
  case atStart => exact ⟨0, Nat.zero_le _, rfl, rfl⟩
  case round =>
    obtain ⟨k, hk, rfl, HJ⟩ := hrel
    by_cases hlt : k < s.size
    · by_cases a1 : (s[k].toNat : Int) < 97
      · by_cases a2 : (s[k].toNat : Int) < 48
        · by_cases a3 : (s[k].toNat : Int) = 33
          · by_cases a4 : k = 0
            · have f0 : ¬ (0 : Int) < (k : Int) := by omega
              have HO : Hid (okB k s[k] = true) := Lib.hid (okB_iff.2 (.inr ⟨by omega, a4⟩))
              clear a4
              go_wp2
              go_round
              case rel => exact ⟨k + 1, hlt, by go_num, nm_more hlt HJ.out HO.out⟩
              case measure => simp [intOf]; omega
            · have f0 : (0 : Int) < (k : Int) := by omega
              have HO : Hid (isName s.data.toList = false) := Lib.hid (nm_end hlt (okB_no (by omega)))
              go_wp2
              go_ret
              exact ⟨ret_bool (by rw [HO.out]), rfl⟩
          · have HO : Hid (isName s.data.toList = false) := Lib.hid (nm_end hlt (okB_no (by omega)))
            go_wp2
            go_ret
            exact ⟨ret_bool (by rw [HO.out]), rfl⟩
        · by_cases a3 : 57 < (s[k].toNat : Int)
          · have f0 : ¬ (s[k].toNat : Int) = 33 := by omega
            have HO : Hid (isName s.data.toList = false) := Lib.hid (nm_end hlt (okB_no (by omega)))
            go_wp2
            go_ret
            exact ⟨ret_bool (by rw [HO.out]), rfl⟩
          · have HO : Hid (okB k s[k] = true) := Lib.hid (okB_iff.2 (.inl (.inr ⟨by omega, by omega⟩)))
            go_wp2
            go_round
            case rel => exact ⟨k + 1, hlt, by go_num, nm_more hlt HJ.out HO.out⟩
            case measure => simp [intOf]; omega
      · by_cases a2 : 122 < (s[k].toNat : Int)
        · have f0 : ¬ (s[k].toNat : Int) = 33 := by omega
          have f1 : ¬ (s[k].toNat : Int) < 48 := by omega
          have f2 : 57 < (s[k].toNat : Int) := by omega
          have HO : Hid (isName s.data.toList = false) := Lib.hid (nm_end hlt (okB_no (by omega)))
          go_wp2
          go_ret
          exact ⟨ret_bool (by rw [HO.out]), rfl⟩
        · have HO : Hid (okB k s[k] = true) := Lib.hid (okB_iff.2 (.inl (.inl ⟨by omega, by omega⟩)))
          go_wp2
          go_round
          case rel => exact ⟨k + 1, hlt, by go_num, nm_more hlt HJ.out HO.out⟩
          case measure => simp [intOf]; omega
    · obtain rfl : k = s.size := by omega
      have hr := nm_all (l := s.data.toList) (by rw [size_toList]; exact HJ.out)
      rw [size_toList] at hr
      have HR := Lib.hid hr; clear hr
      by_cases h1 : (1 : Int) ≤ (s.size : Int)
      · by_cases h2 : (s.size : Int) ≤ 20
        · have HD : Hid ((decide (1 ≤ s.size) && decide (s.size ≤ 20)) = true) := Lib.hid (by rw [decide_eq_true (by omega), decide_eq_true (by omega)]; rfl)
          go_wp2
          go_ret
          exact ⟨ret_bool (by rw [HR.out, HD.out]), rfl⟩
        · have HD : Hid ((decide (1 ≤ s.size) && decide (s.size ≤ 20)) = false) := Lib.hid (by rw [decide_eq_false (show ¬ s.size ≤ 20 by omega), Bool.and_false])
          go_wp2
          go_ret
          exact ⟨ret_bool (by first | rw [HR.out, HD.out] | (rw [HR.out, HD.out]; exact decide_eq_false h2)), rfl⟩
      · have HD : Hid ((decide (1 ≤ s.size) && decide (s.size ≤ 20)) = false) := Lib.hid (by rw [decide_eq_false (show ¬ 1 ≤ s.size by omega), Bool.false_and])
        go_wp2
        go_ret
        exact ⟨ret_bool (by rw [HR.out, HD.out]), rfl⟩

/-- Texts that lie one behind the other. -/
def Txs (w : World) (p : Option Addr) (ns : List (List UInt8)) : Prop := ∀ (j : Nat) (u : List UInt8), ns[j]? = some u → ∃ b o, p = some ⟨b, o, none⟩ ∧ b < w.heap.size ∧ w.cell? ⟨b, o + j, none⟩ = some (.string ⟨u.toArray⟩)
theorem Txs.below {w w' : World} {p : Option Addr} {ns : List (List UInt8)} (h : Txs w p ns) (hb : Below w.heap.size w w') : Txs w' p ns := fun j u hu => by
  obtain ⟨b, o, hp, hl, c0⟩ := h j u hu
  exact ⟨b, o, hp, Nat.lt_of_lt_of_le hl hb.size, (hb.cell (p := ⟨b, _, none⟩) hl).trans c0⟩
theorem Txs.rule {w : World} {p : Option Addr} {ns : List (List UInt8)} (h : Txs w p ns) {j : Nat} {u : List UInt8} (hu : ns[j]? = some u) : ∃ b o, p = some ⟨b, o, none⟩ ∧ ∀ v, Below w.heap.size w v → v.cell? ⟨b, o + j, none⟩ = some (.string ⟨u.toArray⟩) := by
  obtain ⟨b, o, hp, hl, c0⟩ := h j u hu
  exact ⟨b, o, hp, fun v hb => (hb.cell (p := ⟨b, _, none⟩) hl).trans c0⟩

/-! The chain, plainly. -/
def nth (ns : List (List UInt8)) (i : Nat) : List UInt8 := ns.getD i []
def chainL (ns : List (List UInt8)) (n : Int) (k : Nat) : List Ln := (List.range k).flatMap fun i => moveL (nth ns i) (nth ns ((i + 1) % ns.length)) n
theorem chain_more (ns : List (List UInt8)) (n : Int) (k : Nat) : chainL ns n (k + 1) = chainL ns n k ++ moveL (nth ns k) (nth ns ((k + 1) % ns.length)) n := by
  unfold chainL
  rw [List.range_succ, List.flatMap_append]
  rfl
theorem nth_get {ns : List (List UInt8)} {i : Nat} {u : List UInt8} (h : ns[i]? = some u) : nth ns i = u := by unfold nth; rw [List.getD_eq_getElem?_getD, h]; rfl
theorem wd_rd (n : Int) : ((wd n, [49]) : Key) = rd (n : Rat) := by
  show _ = (wd (n : Rat).num, dig (n : Rat).den)
  rw [Rat.num_intCast, Rat.den_intCast, dig_1]
theorem move_val (n : Int) : valR (wd n, [49]) = (n : Rat) := by rw [wd_rd, valR_rd]
def gK (ns : List (List UInt8)) (n : Int) (key : Key) (i : Nat) : Rat := if ((nth ns i, [120]) : Key) = key then (n : Rat) else 0
theorem sum_move (ns : List (List UInt8)) (n : Int) (key : Key) (i j : Nat) : sumK (moveL (nth ns i) (nth ns j) n) key = gK ns n key j - gK ns n key i := by
  unfold moveL gK
  rw [sumK_cons, sumK_cons]
  show (if ((nth ns i, [120]) : Key) = key then valR (wd (-n), [49]) else 0) + ((if ((nth ns j, [120]) : Key) = key then valR (wd n, [49]) else 0) + 0) = _
  rw [move_val, move_val, Rat.intCast_neg]
  split <;> split <;> grind
theorem sum_chain (ns : List (List UInt8)) (n : Int) (key : Key) : ∀ k, k < ns.length → sumK (chainL ns n k) key = gK ns n key k - gK ns n key 0
  | 0, _ => Rat.sub_self.symm
  | k + 1, h => by
    rw [chain_more, sumK_append, sum_chain ns n key k (by omega), sum_move, Nat.mod_eq_of_lt h]
    grind
theorem sum_ring (ns : List (List UInt8)) (n : Int) (key : Key) (h : 1 ≤ ns.length) : sumK (chainL ns n ns.length) key = 0 := by
  obtain ⟨m, hm⟩ : ∃ m, ns.length = m + 1 := ⟨ns.length - 1, by omega⟩
  have e : chainL ns n ns.length = chainL ns n (m + 1) := by rw [hm]
  rw [e, chain_more, sumK_append, sum_chain ns n key m (by omega), sum_move, hm, Nat.mod_self]
  grind
theorem tot_chain (ns : List (List UInt8)) (n : Int) (a : List UInt8) : ∀ k, totQ (chainL ns n k) a = 0
  | 0 => rfl
  | k + 1 => by
    rw [chain_more, totQ_append, tot_chain ns n a k]
    unfold moveL
    rw [totQ_cons, totQ_cons]
    show (0 : Rat) + ((if [120] = a then valR (wd (-n), [49]) else 0) + ((if [120] = a then valR (wd n, [49]) else 0) + 0)) = 0
    rw [move_val, move_val, Rat.intCast_neg]
    split <;> grind
theorem chain_mem {ns : List (List UInt8)} {n : Int} {k : Nat} {x : Ln} (h : x ∈ chainL ns n k) (h1 : 1 ≤ ns.length) (hk : k ≤ ns.length) : ∃ i, i < ns.length ∧ (x = ((nth ns i, [120]), (wd (-n), [49])) ∨ x = ((nth ns i, [120]), (wd n, [49]))) := by
  unfold chainL at h
  obtain ⟨i, hi, hx⟩ := List.mem_flatMap.1 h
  have hi := List.mem_range.1 hi
  unfold moveL at hx
  rcases List.mem_cons.1 hx with e | hx
  · exact ⟨i, by omega, .inl e⟩
  · exact ⟨(i + 1) % ns.length, Nat.mod_lt _ (by omega), .inr (List.mem_singleton.1 hx)⟩
theorem chain_len (ns : List (List UInt8)) (n : Int) : ∀ k, (chainL ns n k).length = 2 * k
  | 0 => rfl
  | k + 1 => by
    rw [chain_more, List.length_append, chain_len ns n k]
    show 2 * k + 2 = _
    omega
theorem chain_ok {ns : List (List UInt8)} {n : Int} {k : Nat} (h1 : 1 ≤ ns.length) (hk : k ≤ ns.length) (hn : ∀ i, i < ns.length → isName (nth ns i) = true) : ∀ x ∈ chainL ns n k, lineOk x = true := fun x hx => by
  obtain ⟨i, hi, e⟩ := chain_mem hx h1 hk
  have ok : ∀ z : Int, lineOk ((nth ns i, [120]), (wd z, [49])) = true := fun z => by
    unfold lineOk
    show (isName (nth ns i) && (isName [120] && isR (wd z, [49]))) = true
    rw [hn i hi, wd_rd, isR_rd]; decide +kernel
  rcases e with e | e <;> rw [e] <;> exact ok _
theorem chain_tame {D : Nat} {ns : List (List UInt8)} {n : Int} {k : Nat} (h1 : 1 ≤ ns.length) (hk : k ≤ ns.length) (n0 : 0 ≤ n) (n1 : n ≤ 1000) : Tame D Ms (chainL ns n k) := fun x hx => by
  obtain ⟨i, hi, e⟩ := chain_mem hx h1 hk
  have hM : ((1000 : Nat) : Rat) ≤ (Ms : Rat) := Rat.natCast_le_natCast.2 (by unfold Ms; decide)
  have hi1 : (n : Rat) ≤ ((1000 : Nat) : Rat) := by
    have : ((1000 : Nat) : Rat) = ((1000 : Int) : Rat) := rfl
    rw [this]; exact Rat.intCast_le_intCast.2 n1
  have hi0 : (0 : Rat) ≤ (n : Rat) := by
    have : (0 : Rat) = ((0 : Int) : Rat) := rfl
    rw [this]; exact Rat.intCast_le_intCast.2 n0
  have b : Bd D Ms (n : Rat) := ⟨by rw [Rat.den_intCast]; exact Nat.one_dvd _, by grind, by grind⟩
  rcases e with e | e <;> rw [e]
  · show Bd D Ms (valR (wd (-n), [49]))
    rw [move_val, Rat.intCast_neg]; exact b.neg
  · show Bd D Ms (valR (wd n, [49]))
    rw [move_val]; exact b
theorem chain_fit {ns : List (List UInt8)} {n : Int} {k : Nat} (h1 : 1 ≤ ns.length) (hk : k ≤ ns.length) (n0 : 0 ≤ n) (n1 : n ≤ 1000) (hn : ∀ i, i < ns.length → isName (nth ns i) = true) : ∀ x ∈ chainL ns n k, SzF x := fun x hx => by
  have l := lineOk_len (chain_ok h1 hk hn x hx)
  refine ⟨⟨Nat.le_trans l.1 (by decide), Nat.le_trans l.2 (by decide)⟩, ?_⟩
  have f : ∀ z : Int, z.natAbs ≤ 1000 → Fit ((wd z, [49]) : Key) := fun z hz =>
    ⟨Nat.le_trans (wd_length z) (Nat.le_trans (Nat.succ_le_succ (dig_length (k := 4) (by decide) (Nat.lt_of_le_of_lt hz (by decide)))) (by decide)), by show 1 ≤ 19000; decide⟩
  obtain ⟨i, hi, e⟩ := chain_mem hx h1 hk
  rcases e with e | e <;> rw [e]
  · exact f _ (by omega)
  · exact f _ (by omega)
/-- Handed on from one to the next one, and back to the first one, nothing changes. -/
theorem chain_none {ls : List Ln} {ns : List (List UInt8)} {n : Int} (g : Good ls) (h1 : 1 ≤ ns.length) (hn : ∀ i, i < ns.length → isName (nth ns i) = true) : applyB ls (chainL ns n ns.length) true = (ls, 0) := by
  have ok := chain_ok (n := n) h1 (Nat.le_refl _) hn
  refine apply_c (good_iff.2 g) (balB_iff.2 ⟨ok, fun a => tot_chain ns n a _⟩) (add_none g ok fun k => sum_ring ns n k h1) ?_
  have : (chainL ns n ns.length).any (shortB ls ls) = false := List.any_eq_false.2 fun x _ => by rw [short_same]; decide
  rw [this, Bool.and_false]
theorem nil_none {ls : List Ln} (g : Good ls) : applyB ls [] true = (ls, 0) := apply_c (good_iff.2 g) rfl rfl rfl
theorem str_at (u : List UInt8) : (⟨u.toArray⟩ : ByteArray).data.toList = u := rfl
set_option maxRecDepth 100000 in
set_option maxHeartbeats 4000000 in
theorem chain7_0 (H : PostC G) (p : Option Addr) (c : Nat) (ls : List Ln) (q : Option Addr) (d : Nat) (ns : List (List UInt8)) (n : Int) (w : World) (hg : G w)
    (CS1 : Hid (∀ V, Below w.heap.size w V → Calls Tryz.prog 7 #[.slice p ls.length c] V (GiveB V false))) :
    Calls Tryz.prog 6 #[.slice p ls.length c, .slice q ns.length d, .int .i64 n] w (GiveB w true) := by
  have HB := Lib.hid H; have HT := Lib.hid hg; clear H hg
  go_enter Tryz.func6, Tryz.ntmps6
  go_wp2_with fail
  have BW := Below.refl w.heap.size w
  have b0 : Below w.heap.size w w := Below.refl _ _
  refine (fixed7_any HB.out _ (HB.out.below HT.out b0)).mono ?_
  rintro e w1 ⟨rfl, b⟩
  have b1 := Below.more b0 b
  clear b
  go_wp2_with fail
  refine (CS1.out _ (Below.more BW b1)).mono ?_
  rintro e w2 ⟨rfl, b⟩
  have b2 := Below.more b1 b
  clear b
  go_wp2_with fail
  refine (fixed7_any HB.out _ (HB.out.below HT.out b2)).mono ?_
  rintro e w3 ⟨rfl, b⟩
  have b3 := Below.more b2 b
  clear b
  go_wp2_with fail
  go_ret
  exact ⟨rfl, Below.more BW b3⟩
set_option maxRecDepth 100000 in
set_option maxHeartbeats 4000000 in
theorem chain7_1 (H : PostC G) (p : Option Addr) (c : Nat) (ls : List Ln) (q : Option Addr) (d : Nat) (ns : List (List UInt8)) (n : Int) (w : World) (hg : G w)
    (CS1 : Hid (∀ V, Below w.heap.size w V → Calls Tryz.prog 7 #[.slice p ls.length c] V (GiveB V true)))
    (CS2 : Hid (∀ V, Below w.heap.size w V → Calls Tryz.prog 16 #[.slice p ls.length c] V (GiveB V false))) :
    Calls Tryz.prog 6 #[.slice p ls.length c, .slice q ns.length d, .int .i64 n] w (GiveB w true) := by
  have HB := Lib.hid H; have HT := Lib.hid hg; clear H hg
  go_enter Tryz.func6, Tryz.ntmps6
  go_wp2_with fail
  have BW := Below.refl w.heap.size w
  have b0 : Below w.heap.size w w := Below.refl _ _
  refine (fixed7_any HB.out _ (HB.out.below HT.out b0)).mono ?_
  rintro e w1 ⟨rfl, b⟩
  have b1 := Below.more b0 b
  clear b
  go_wp2_with fail
  refine (CS1.out _ (Below.more BW b1)).mono ?_
  rintro e w2 ⟨rfl, b⟩
  have b2 := Below.more b1 b
  clear b
  go_wp2_with fail
  refine (CS2.out _ (Below.more BW b2)).mono ?_
  rintro e w3 ⟨rfl, b⟩
  have b3 := Below.more b2 b
  clear b
  go_wp2_with fail
  refine (fixed7_any HB.out _ (HB.out.below HT.out b3)).mono ?_
  rintro e w4 ⟨rfl, b⟩
  have b4 := Below.more b3 b
  clear b
  go_wp2_with fail
  go_ret
  exact ⟨rfl, Below.more BW b4⟩
set_option maxRecDepth 100000 in
set_option maxHeartbeats 4000000 in
theorem chain7_2 (H : PostC G) (p : Option Addr) (c : Nat) (ls : List Ln) (q : Option Addr) (d : Nat) (ns : List (List UInt8)) (n : Int) (w : World) (hg : G w) (h : ns.length < 1)
    (CS1 : Hid (∀ V, Below w.heap.size w V → Calls Tryz.prog 7 #[.slice p ls.length c] V (GiveB V true)))
    (CS2 : Hid (∀ V, Below w.heap.size w V → Calls Tryz.prog 16 #[.slice p ls.length c] V (GiveB V true))) :
    Calls Tryz.prog 6 #[.slice p ls.length c, .slice q ns.length d, .int .i64 n] w (GiveB w true) := by
  have a1 : (ns.length : Int) < 1 := by omega
  have HB := Lib.hid H; have HT := Lib.hid hg; clear H hg
  go_enter Tryz.func6, Tryz.ntmps6
  go_wp2_with fail
  have BW := Below.refl w.heap.size w
  have b0 : Below w.heap.size w w := Below.refl _ _
  refine (fixed7_any HB.out _ (HB.out.below HT.out b0)).mono ?_
  rintro e w1 ⟨rfl, b⟩
  have b1 := Below.more b0 b
  clear b
  go_wp2_with fail
  refine (CS1.out _ (Below.more BW b1)).mono ?_
  rintro e w2 ⟨rfl, b⟩
  have b2 := Below.more b1 b
  clear b
  go_wp2_with fail
  refine (CS2.out _ (Below.more BW b2)).mono ?_
  rintro e w3 ⟨rfl, b⟩
  have b3 := Below.more b2 b
  clear b
  go_wp2_with fail
  refine (fixed7_any HB.out _ (HB.out.below HT.out b3)).mono ?_
  rintro e w4 ⟨rfl, b⟩
  have b4 := Below.more b3 b
  clear b
  go_wp2_with fail
  go_ret
  exact ⟨rfl, Below.more BW b4⟩
set_option maxRecDepth 100000 in
set_option maxHeartbeats 4000000 in
theorem chain7_3 (H : PostC G) (p : Option Addr) (c : Nat) (ls : List Ln) (q : Option Addr) (d : Nat) (ns : List (List UInt8)) (n : Int) (w : World) (hg : G w) (h : 10 < ns.length)
    (CS1 : Hid (∀ V, Below w.heap.size w V → Calls Tryz.prog 7 #[.slice p ls.length c] V (GiveB V true)))
    (CS2 : Hid (∀ V, Below w.heap.size w V → Calls Tryz.prog 16 #[.slice p ls.length c] V (GiveB V true))) :
    Calls Tryz.prog 6 #[.slice p ls.length c, .slice q ns.length d, .int .i64 n] w (GiveB w true) := by
  have a1 : ¬ (ns.length : Int) < 1 := by omega
  have a2 : (10 : Int) < (ns.length : Int) := by omega
  have HB := Lib.hid H; have HT := Lib.hid hg; clear H hg
  go_enter Tryz.func6, Tryz.ntmps6
  go_wp2_with fail
  have BW := Below.refl w.heap.size w
  have b0 : Below w.heap.size w w := Below.refl _ _
  refine (fixed7_any HB.out _ (HB.out.below HT.out b0)).mono ?_
  rintro e w1 ⟨rfl, b⟩
  have b1 := Below.more b0 b
  clear b
  go_wp2_with fail
  refine (CS1.out _ (Below.more BW b1)).mono ?_
  rintro e w2 ⟨rfl, b⟩
  have b2 := Below.more b1 b
  clear b
  go_wp2_with fail
  refine (CS2.out _ (Below.more BW b2)).mono ?_
  rintro e w3 ⟨rfl, b⟩
  have b3 := Below.more b2 b
  clear b
  go_wp2_with fail
  refine (fixed7_any HB.out _ (HB.out.below HT.out b3)).mono ?_
  rintro e w4 ⟨rfl, b⟩
  have b4 := Below.more b3 b
  clear b
  go_wp2_with fail
  go_ret
  exact ⟨rfl, Below.more BW b4⟩
set_option maxRecDepth 100000 in
set_option maxHeartbeats 4000000 in
theorem chain7_4 (H : PostC G) (p : Option Addr) (c : Nat) (ls : List Ln) (q : Option Addr) (d : Nat) (ns : List (List UInt8)) (n : Int) (w : World) (hg : G w) (h1 : 1 ≤ ns.length) (h2 : ns.length ≤ 10) (h : n < 1)
    (CS1 : Hid (∀ V, Below w.heap.size w V → Calls Tryz.prog 7 #[.slice p ls.length c] V (GiveB V true)))
    (CS2 : Hid (∀ V, Below w.heap.size w V → Calls Tryz.prog 16 #[.slice p ls.length c] V (GiveB V true))) :
    Calls Tryz.prog 6 #[.slice p ls.length c, .slice q ns.length d, .int .i64 n] w (GiveB w true) := by
  have a1 : ¬ (ns.length : Int) < 1 := by omega
  have a2 : ¬ (10 : Int) < (ns.length : Int) := by omega
  have HB := Lib.hid H; have HT := Lib.hid hg; clear H hg
  go_enter Tryz.func6, Tryz.ntmps6
  go_wp2_with fail
  have BW := Below.refl w.heap.size w
  have b0 : Below w.heap.size w w := Below.refl _ _
  refine (fixed7_any HB.out _ (HB.out.below HT.out b0)).mono ?_
  rintro e w1 ⟨rfl, b⟩
  have b1 := Below.more b0 b
  clear b
  go_wp2_with fail
  refine (CS1.out _ (Below.more BW b1)).mono ?_
  rintro e w2 ⟨rfl, b⟩
  have b2 := Below.more b1 b
  clear b
  go_wp2_with fail
  refine (CS2.out _ (Below.more BW b2)).mono ?_
  rintro e w3 ⟨rfl, b⟩
  have b3 := Below.more b2 b
  clear b
  go_wp2_with fail
  refine (fixed7_any HB.out _ (HB.out.below HT.out b3)).mono ?_
  rintro e w4 ⟨rfl, b⟩
  have b4 := Below.more b3 b
  clear b
  go_wp2_with fail
  go_ret
  exact ⟨rfl, Below.more BW b4⟩
set_option maxRecDepth 100000 in
set_option maxHeartbeats 4000000 in
theorem chain7_5 (H : PostC G) (p : Option Addr) (c : Nat) (ls : List Ln) (q : Option Addr) (d : Nat) (ns : List (List UInt8)) (n : Int) (w : World) (hg : G w) (h1 : 1 ≤ ns.length) (h2 : ns.length ≤ 10) (h3 : ¬ n < 1) (h : 1000 < n)
    (CS1 : Hid (∀ V, Below w.heap.size w V → Calls Tryz.prog 7 #[.slice p ls.length c] V (GiveB V true)))
    (CS2 : Hid (∀ V, Below w.heap.size w V → Calls Tryz.prog 16 #[.slice p ls.length c] V (GiveB V true))) :
    Calls Tryz.prog 6 #[.slice p ls.length c, .slice q ns.length d, .int .i64 n] w (GiveB w true) := by
  have a1 : ¬ (ns.length : Int) < 1 := by omega
  have a2 : ¬ (10 : Int) < (ns.length : Int) := by omega
  have HB := Lib.hid H; have HT := Lib.hid hg; clear H hg
  go_enter Tryz.func6, Tryz.ntmps6
  go_wp2_with fail
  have BW := Below.refl w.heap.size w
  have b0 : Below w.heap.size w w := Below.refl _ _
  refine (fixed7_any HB.out _ (HB.out.below HT.out b0)).mono ?_
  rintro e w1 ⟨rfl, b⟩
  have b1 := Below.more b0 b
  clear b
  go_wp2_with fail
  refine (CS1.out _ (Below.more BW b1)).mono ?_
  rintro e w2 ⟨rfl, b⟩
  have b2 := Below.more b1 b
  clear b
  go_wp2_with fail
  refine (CS2.out _ (Below.more BW b2)).mono ?_
  rintro e w3 ⟨rfl, b⟩
  have b3 := Below.more b2 b
  clear b
  go_wp2_with fail
  refine (fixed7_any HB.out _ (HB.out.below HT.out b3)).mono ?_
  rintro e w4 ⟨rfl, b⟩
  have b4 := Below.more b3 b
  clear b
  go_wp2_with fail
  go_ret
  exact ⟨rfl, Below.more BW b4⟩
theorem heldM {P : Program} {f : FuncId} {args : Array Value} {B : Nat} {u W : World} {r : Value} {fs mv : List Ln} (c : Calls P f args u (GiveRow u mv)) (h : Below B W u) (ho : Own B u r fs) (hB : B ≤ W.heap.size) :
    Calls P f args u fun e w' => (∃ p c, e = .returned (.slice p mv.length c) ∧ mv.length ≤ c ∧ Lns w' p mv) ∧ Below B W w' ∧ Own B w' r fs := c.mono fun _ _ ⟨he, hb⟩ => ⟨he, h.trans (hb.mono (Nat.le_trans hB h.size)), own_below ho hb⟩
set_option maxRecDepth 100000 in
set_option maxHeartbeats 4000000 in
theorem chain7_main (H : PostC G) (p : Option Addr) (c : Nat) (ls : List Ln) (q : Option Addr) (d : Nat) (ns : List (List UInt8)) (n : Int) (w : World) (hg : G w) (hL : Lns w p ls) (hQ : Txs w q ns) (h0 : ls.length ≤ 4611686018427387904) (h1 : 1 ≤ ns.length) (h2 : ns.length ≤ 10) (h3 : ¬ n < 1) (h4 : ¬ 1000 < n)
    (CS1 : Hid (∀ V, Below w.heap.size w V → Calls Tryz.prog 7 #[.slice p ls.length c] V (GiveB V true)))
    (CS2 : Hid (∀ V, Below w.heap.size w V → Calls Tryz.prog 16 #[.slice p ls.length c] V (GiveB V true)))
    (CN : Hid (∀ (k : Nat) (u : List UInt8), ns[k]? = some u → ∀ V, Calls Tryz.prog 22 #[.string ⟨u.toArray⟩] V (GiveB V (isName u))))
    (CA1 : Hid ((∀ j, j < ns.length → isName (nth ns j) = true) → ∀ V, Below w.heap.size w V → G V → ∀ q' d', (chainL ns n ns.length).length ≤ d' → Lns V q' (chainL ns n ns.length) → Calls Tryz.prog 9 #[.slice p ls.length c, .slice q' (chainL ns n ns.length).length d', .bool true] V (GiveLE V (ls, 0))))
    (CA2 : Hid (∀ V, Below w.heap.size w V → G V → Calls Tryz.prog 9 #[.slice p ls.length c, .slice none 0 0, .bool true] V (GiveLE V (ls, 0)))) :
    Calls Tryz.prog 6 #[.slice p ls.length c, .slice q ns.length d, .int .i64 n] w (GiveB w true) := by
  have HL := Lib.hid hL; have HQ := Lib.hid hQ; clear hL hQ
  have a1 : ¬ (ns.length : Int) < 1 := by omega
  have a2 : ¬ (10 : Int) < (ns.length : Int) := by omega
  have HB := Lib.hid H; have HT := Lib.hid hg; clear H hg
  go_enter Tryz.func6, Tryz.ntmps6
  go_wp2_with fail
  have BW := Below.refl w.heap.size w
  have b0 : Below w.heap.size w w := Below.refl _ _
  refine (fixed7_any HB.out _ (HB.out.below HT.out b0)).mono ?_
  rintro e w1 ⟨rfl, b⟩
  have b1 := Below.more b0 b
  clear b
  go_wp2_with fail
  refine (CS1.out _ (Below.more BW b1)).mono ?_
  rintro e w2 ⟨rfl, b⟩
  have b2 := Below.more b1 b
  clear b
  go_wp2_with fail
  refine (CS2.out _ (Below.more BW b2)).mono ?_
  rintro e w3 ⟨rfl, b⟩
  have b3 := Below.more b2 b
  clear b
  go_upto_region 3 with fail
  obtain ⟨U, hU⟩ : ∃ U, w3 = U := ⟨_, rfl⟩
  rw [hU] at b3 ⊢
  clear hU
  have BU := Below.more BW b3
  have HTU := Lib.hid (HB.out.below HT.out b3)
  clear b0 b1 b2 b3 BW HT CS1 CS2
  go_wp2_with fail
  go_loopw [7, 8] (fun out i wr => ∃ (k : Nat) (fs : List Ln), k ≤ ns.length ∧ i = .int .i64 k ∧ Own U.heap.size wr out fs ∧ Below U.heap.size U wr ∧ Hid (fs = chainL ns n k) ∧ Hid (∀ j, j < k → isName (nth ns j) = true)) (fun _ i _ => ns.length - (intOf i).toNat)
  case atStart => exact ⟨0, [], Nat.zero_le _, rfl, own_empty U (Nat.le_refl _), Below.step _ (Below.refl _ _), rfl, fun j h => absurd h (Nat.not_lt_zero j)⟩
  case round =>
    obtain ⟨k, fs, hk, rfl, hown, hw, HF, HJ⟩ := hrel
    by_cases hlt : k < ns.length
    · obtain ⟨u, hu⟩ : ∃ u, ns[k]? = some u := ⟨_, List.getElem?_eq_getElem hlt⟩
      obtain ⟨k2, hk2⟩ : ∃ k2, k2 = (k + 1) % ns.length := ⟨_, rfl⟩
      have hk2l : k2 < ns.length := by rw [hk2]; exact Nat.mod_lt _ (by omega)
      obtain ⟨v, hv⟩ : ∃ v, ns[k2]? = some v := ⟨_, List.getElem?_eq_getElem hk2l⟩
      obtain ⟨b, o, rfl, r0⟩ := (HQ.out.below BU).rule hu
      obtain ⟨b', o', hp', r1⟩ := (HQ.out.below BU).rule hv
      cases hp'
      have hm : ((k : Int) + 1) % (ns.length : Int) = (k2 : Int) := by rw [hk2]; exact (Int.natCast_emod (k + 1) ns.length).symm
      have hmt : ((k : Int) + 1).tmod (ns.length : Int) = (k2 : Int) := by rw [Int.tmod_eq_emod_of_nonneg (by omega)]; exact hm
      have hnz : ¬ (ns.length : Int) = 0 := by omega
      have hne : ¬ ns = [] := fun e => by rw [e] at hlt; exact absurd hlt (Nat.not_lt_zero _)
      have hw1' : IntKind.i64.wrap ((k : Int) + 1) = (k : Int) + 1 := IntWalk.i64_in _ (by omega)
      have hk2i : (k2 : Int) < (ns.length : Int) := by omega
      have hfs : fs.length ≤ 3000000 := by rw [HF.out, chain_len]; omega
      have cnm := CN.out k u hu
      have mvx := fun V => move_any u v n V (by omega) (by omega)
      have hch : Hid (fs ++ moveL u v n = chainL ns n (k + 1)) := Lib.hid (by rw [chain_more, HF.out, nth_get hu, ← hk2, nth_get hv])
      have hnk := nth_get hu
      have hmv : (moveL u v n).length ≤ 3000000 := by show 2 ≤ 3000000; decide
      generalize moveL u v n = mv at *
      have HMV := Lib.hid hmv
      have MV := Lib.hid mvx; have CNk := Lib.hid cnm
      have HNK := Lib.hid hnk
      have hO := Lib.hid hown; have b0 := Below.refl wr.heap.size wr
      have HW := Lib.hid hw
      clear mvx cnm hnk hown hu hv hk2 CN
      cases hn : isName u with
      | false =>
        rw [hn] at CNk
        clear hm hmt hnz hne hw1' r1
        go_wp2_with fail
        refine (CNk.out _).mono ?_
        rintro e w1 ⟨rfl, b⟩
        have b1 := Below.more b0 b
        clear b
        go_wp2_with fail
        go_ret
        exact ⟨rfl, Below.more BU (Below.more HW.out b1)⟩
      | true =>
        rw [hn] at CNk
        have HJ2 : Hid (∀ j, j < k + 1 → isName (nth ns j) = true) := Lib.hid (less_more HJ.out (by rw [HNK.out]; exact hn))
        clear hn
        go_wp2_with fail
        refine (CNk.out _).mono ?_
        rintro e w1 ⟨rfl, b⟩
        have b1 := Below.more b0 b
        clear b
        have hw1 := Below.more HW.out b1
        have hO1 := Lib.hid (own_below hO.out b1)
        clear b0 b1
        go_wp2_with fail
        refine wp_region_noPanic ?_
        refine wp_region_held_drew (S := fun w' => Below U.heap.size U w') (by kernel_rfl) (hw1.drew) (fun hH0 => ?_)
        have hOd := World.ownsRow.drew hO1.out
        refine sch_in [0, 1, 2, 3, 4, 5, 6, 7, 8, 9, 10, 11, 12, 13] ?_
        iterate 14 (refine sch_yes (v := ?_) rfl (by kernel_rfl) (by rfl) ?_ (by assumption) ?_; rotate_left 1; (· (intro w hSw; (try dsimp only at hSw); go_simp <;> (with_reducible rfl))); try simp only [Act.put, List.getElem_toArray, List.getElem_cons_succ, List.getElem_cons_zero, List.setIfInBounds_toArray, List.set_cons_zero, List.set_cons_succ])
        refine sch_out ?_
        refine wpAnyH_ready (rs := [14]) (by kernel_rfl) (by simp) ?_
        refine AllReadyH.cons rfl (fun K hK => ?_) AllReadyH.nil
        go_simp
        refine (heldM (MV.out _) hH0 hOd (Nat.le_refl _)).mono ?_
        rintro e w'' ⟨⟨pm, cm, rfl, hcm, hLm⟩, hw2, hO2⟩
        (try go_wp2_with fail)
        refine hK.out _ _ hw2 (fun hH1 => ?_)
        clear hK hH0 hOd
        try simp only [Act.put, List.getElem_toArray, List.getElem_cons_succ, List.getElem_cons_zero, List.setIfInBounds_toArray, List.set_cons_zero, List.set_cons_succ]
        refine wpAnyH_ready (rs := [15]) (by kernel_rfl) (by simp) ?_
        refine AllReadyH.cons rfl (fun K hK => ?_) AllReadyH.nil
        rw [if_pos (by rfl)]
        refine wp_append_lns _ _ 22 rfl U.heap.size Tryz.underlying22 _ fs rfl hO2 pm mv cm rfl hLm hfs hmv (Below.size hH1) ?_
        intro v' w4 hO4 hB4
        refine hK.out _ _ (hH1.trans hB4) (fun hH3 => ?_)
        clear hK
        try simp only [Act.put, List.getElem_toArray, List.getElem_cons_succ, List.getElem_cons_zero, List.setIfInBounds_toArray, List.set_cons_zero, List.set_cons_succ]
        refine wpAnyH_take (i := 16) (v := ?_) rfl (by kernel_rfl) (by kernel_rfl) (by kernel_rfl) (fun _ _ _ h => h) (Or.inl ⟨by rfl, ?_⟩) (by assumption) ?_
        rotate_left 1
        · (intro w hSw; (try dsimp only at hSw); go_simp <;> (with_reducible rfl))
        try simp only [Act.put, List.getElem_toArray, List.getElem_cons_succ, List.getElem_cons_zero, List.setIfInBounds_toArray, List.set_cons_zero, List.set_cons_succ]
        refine wpAnyH_done (by kernel_rfl) ?_ _
        refine NoPanic.normal ?_
        have X := Lib.hid hO4; have Y := Lib.hid hH3
        clear hO4 hH3 hH1 hB4 hO2 hLm
        go_wp2_with fail
        go_roundw
        case rel => exact ⟨k + 1, _, hlt, by go_num, X.out, Y.out, hch.out, HJ2.out⟩
        case measure => simp [intOf]; omega
    · obtain rfl : k = ns.length := by omega
      have HALL := Lib.hid HJ.out
      rw [HF.out] at hown
      have CA1' := Lib.hid (CA1.out HALL.out)
      have HLN := Lib.hid (chain_len ns n ns.length)
      generalize chainL ns n ns.length = L at *
      obtain ⟨pb, cb, rfl, hcb, hLb, _⟩ := own_lns hown
      have LB := Lib.hid hLb
      clear hown hLb CN HF CA1
      have BW := Below.more BU hw
      have HT := Lib.hid (HB.out.below HTU.out hw)
      clear hw BU HTU
      have b20 := Below.refl wr.heap.size wr
      go_wp2_with fail
      refine (CA1'.out _ (Below.more BW b20) (HB.out.below HT.out b20) _ _ hcb (LB.out.below b20)).mono ?_
      rintro e U21 ⟨⟨pr3, c3, rfl, hc3, hl3⟩, b⟩
      have bU := Below.more b20 b
      clear b
      replace LB := Lib.hid (LB.out.below bU)
      replace BW := Below.more BW bU
      replace HT := Lib.hid (HB.out.below HT.out bU)
      have L3 := Lib.hid hl3
      clear hl3 bU
      have b21 := Below.refl U21.heap.size U21
      go_wp2_with fail
      refine (CA2.out _ (Below.more BW b21) (HB.out.below HT.out b21)).mono ?_
      rintro e U22 ⟨⟨pr4, c4, rfl, hc4, hl4⟩, b⟩
      have bU := Below.more b21 b
      clear b
      replace LB := Lib.hid (LB.out.below bU)
      replace L3 := Lib.hid (L3.out.below bU)
      replace BW := Below.more BW bU
      replace HT := Lib.hid (HB.out.below HT.out bU)
      have L4 := Lib.hid hl4
      clear hl4 bU
      have b22 := Below.refl U22.heap.size U22
      go_wp2_with fail
      refine (same_rows _ _ _ _ ls _ h0 (L3.out.below b22) (HL.out.below (Below.more BW b22))).mono ?_
      rintro e w23 ⟨rfl, b⟩
      have b23 := Below.more b22 b
      clear b
      go_wp2_with fail
      refine (same_rows _ _ _ _ ls _ h0 (L4.out.below b23) (HL.out.below (Below.more BW b23))).mono ?_
      rintro e w24 ⟨rfl, b⟩
      have b24 := Below.more b23 b
      clear b
      go_wp2_with fail
      go_ret
      exact ⟨rfl, Below.more BW b24⟩
theorem chain7_any (H : PostC G) (p : Option Addr) (c : Nat) (ls : List Ln) (q : Option Addr) (d : Nat) (ns : List (List UInt8)) (n : Int) (w : World) (hc : ls.length ≤ c) (hl : ls.length ≤ 4611686018427387904) (hu : ∀ u ∈ ns, u.length ≤ 9223372036854775807) (hL : Lns w p ls) (hQ : Txs w q ns) (hg : G w) :
    Calls Tryz.prog 6 #[.slice p ls.length c, .slice q ns.length d, .int .i64 n] w (GiveB w true) := by
  have c1 := fun V (hv : Below w.heap.size w V) => rbsmall_any p c ls V hc hl (hL.below hv)
  cases k1 : smB ls with
  | false => rw [k1] at c1; exact chain7_0 H p c ls q d ns n w hg (Lib.hid c1)
  | true =>
  rw [k1] at c1
  obtain ⟨s1, n1⟩ := smB_iff.1 k1
  have z1 : ∀ x ∈ ls, SzF x := fun x hx => shL_fit (s1 x hx)
  have c2 := fun V (hv : Below w.heap.size w V) => rbmay_any p c ls V hc (by omega) (fun x hx => (z1 x hx).szL) (hL.below hv)
  cases k2 : mayB ls with
  | false => rw [k2] at c2; exact chain7_1 H p c ls q d ns n w hg (Lib.hid c1) (Lib.hid c2)
  | true =>
  rw [k2] at c2
  by_cases h1 : ns.length < 1
  · exact chain7_2 H p c ls q d ns n w hg h1 (Lib.hid c1) (Lib.hid c2)
  by_cases h2 : 10 < ns.length
  · exact chain7_3 H p c ls q d ns n w hg h2 (Lib.hid c1) (Lib.hid c2)
  by_cases h3 : n < 1
  · exact chain7_4 H p c ls q d ns n w hg (by omega) (by omega) h3 (Lib.hid c1) (Lib.hid c2)
  by_cases h4 : 1000 < n
  · exact chain7_5 H p c ls q d ns n w hg (by omega) (by omega) h3 h4 (Lib.hid c1) (Lib.hid c2)
  have g := good_iff.1 k2
  have len := chain_len ns n ns.length
  exact chain7_main H p c ls q d ns n w hg hL hQ hl (by omega) (by omega) h3 h4 (Lib.hid c1) (Lib.hid c2)
    (Lib.hid fun k u hx V => calm (rbname_max ⟨u.toArray⟩ V (by rw [size_of]; exact hu u (List.mem_of_getElem? hx))))
    (Lib.hid fun hn V hv hgv q' d' hd' hq' => by
      have k := H.apply p c ls q' d' (chainL ns n ns.length) true (Dp ls) Ms V hc hd' (by omega) (by omega) z1 (chain_fit (by omega) (Nat.le_refl _) (by omega) (by omega) hn) ⟨small_sized s1 (by omega) (by omega), fun gg => small_tame s1 (fun _ h => h) (good_rat gg), fun _ => chain_tame (by omega) (Nat.le_refl _) (by omega) (by omega)⟩ (hL.below hv) hq' hgv
      rw [chain_none g (by omega) hn] at k; exact k)
    (Lib.hid fun V hv hgv => by
      have k := H.apply p c ls none 0 [] true (Dp ls) Ms V hc (Nat.le_refl _) (by omega) (by decide) z1 (fun _ h => by cases h) ⟨small_sized s1 (by omega) (by decide), fun gg => small_tame s1 (fun _ h => h) (good_rat gg), fun _ _ h => by cases h⟩ (hL.below hv) (Lns.nil _ _) hgv
      rw [nil_none g] at k; exact k)
end Go.Proofs.YtamibckbebifkaaGreatDoor

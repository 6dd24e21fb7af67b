/- Rows of lines, one behind the other (slices.Grow, slices.Concat). -/
import Derived.Lib.AppendZeros
import Derived.Laws.AppendOwnNone
import Derived.Test.YtemnimbedmkagaaGreatDoorBookApi
import Derived.Test.YtemnimbedmkagaaGreatDoorAllBk4
namespace Go.Proofs.YtemnimbedmkagaaGreatDoor
open Go.RowKit
set_option linter.unusedSimpArgs false
set_option linter.unusedVariables false
theorem run_append_none {P : Program} {w : World} (base : Nat) (t ty e : TypeId) (i : TypeInfo) (size c : Nat) (ht : P.underlying t = some (.slice e)) (hi : P.info? e = some i)
    (v : Value) (n : Nat) (xs : List Value) (hown : w.ownsRow base e size v n xs) :
    (Builtin.append_ #[t, t] ty #[v, .slice none 0 c]).run P w = .ok v w := by
  rcases hown.2 with ⟨rfl, rfl⟩ | ⟨g, cap, cur, rfl, _, _, hnc, _⟩
  · simp [Builtin.append_, run_underlying ht, sizeOf, typeInfo, hi, Builtin.lenOf, Builtin.firstCells]
  · simp [Builtin.append_, run_underlying ht, sizeOf, typeInfo, hi, Builtin.lenOf, Builtin.firstCells, hnc, storeCells]
theorem Lns.cells {w : World} {ad : Addr} {l : List Ln} (h : Lns w (some ad) l) : ∀ (j : Nat) (u : Value), (cellsL l)[j]? = some u → w.cell? (ad.add j) = some u := fun j u hu => by
  have hj := (List.getElem?_eq_some_iff.1 hu).1
  rw [cellsL_len] at hj
  have hq : j / 4 < l.length := by omega
  have hx : l[j / 4]? = some l[j / 4] := List.getElem?_eq_getElem hq
  obtain ⟨b, o, hp, hl, c0, c1, c2, c3⟩ := h (j / 4) _ hx
  cases hp
  obtain ⟨g0, g1, g2, g3⟩ := cellsL_get hx
  rw [Addr.add_lit]
  have hm : j = j / 4 * 4 ∨ j = j / 4 * 4 + 1 ∨ j = j / 4 * 4 + 2 ∨ j = j / 4 * 4 + 3 := by omega
  generalize j / 4 = q at *
  rcases hm with e | e | e | e <;> subst e
  · rw [g0] at hu; rw [← hu]; exact c0
  · rw [g1] at hu; rw [← hu, ← Nat.add_assoc]; exact c1
  · rw [g2] at hu; rw [← hu, ← Nat.add_assoc]; exact c2
  · rw [g3] at hu; rw [← hu, ← Nat.add_assoc]; exact c3
theorem cellsL_one : ∀ l : List Ln, ∀ u ∈ cellsL l, u.oneCell' = true
  | [], u, h => by cases h
  | x :: r, u, h => by
    rw [cellsL_cons] at h
    simp only [List.mem_cons] at h
    rcases h with rfl | rfl | rfl | rfl | h
    · rfl
    · rfl
    · rfl
    · rfl
    · exact cellsL_one r u h
theorem Lns.none {w : World} {l : List Ln} (h : Lns w none l) : l = [] := by
  cases l with
  | nil => rfl
  | cons x r => obtain ⟨b, o, hp, _⟩ := h 0 x rfl; cases hp
set_option maxRecDepth 100000 in
set_option maxHeartbeats 4000000 in
theorem bgrow_any (n : Nat) (w : World) (hn : n ≤ 3000000) :
    Calls Tryz.prog 55 #[.slice none 0 0, .int .i64 n] w fun e w' => ∃ v, e = .returned v ∧ Own w.heap.size w' v [] ∧ Below w.heap.size w w' := by
  obtain ⟨i0, hi, hz0, hz1, hz2⟩ := info_parts lnInfo
  by_cases h0 : n = 0
  · subst h0
    go_enter Tryz.func55, Tryz.ntmps55
    go_wp2_with fail
    go_ret
    exact ⟨_, rfl, World.ownsRow_nil _ _ _ _, Below.refl _ _⟩
  · have happ := Lib.run_append_nil_zeros (P := Tryz.prog) w 23 3 23 27 i0 (.agg #[.string ⟨#[]⟩, .string ⟨#[]⟩, .string ⟨#[]⟩, .string ⟨#[]⟩]) .i64 .i64 Tryz.underlying23 Tryz.underlying3 hi hz0 n (by omega) (by rw [hz1]; decide) (by omega) (by rw [hz2]; omega)
    have hge := grownCap_ge w n 0 27
    have hcm := grownCap_le_maxLen w n 0 27 (by unfold maxLen; omega)
    generalize grownCap w n 0 27 = cap at *
    have hn0 : (0 : Int) < (n : Int) := by omega
    have hc0 : ¬ cap = 0 := by omega
    obtain ⟨C, hC⟩ : ∃ C, Builtin.zeroCells (Value.agg #[.string ⟨#[]⟩, .string ⟨#[]⟩, .string ⟨#[]⟩, .string ⟨#[]⟩]).cells n ++ Builtin.zeroCells (Value.agg #[.string ⟨#[]⟩, .string ⟨#[]⟩, .string ⟨#[]⟩, .string ⟨#[]⟩]).cells (cap - n) = C := ⟨_, rfl⟩
    have hCs : C.size = cap * 4 := by
      rw [← hC, Array.size_append, size_zeroCells, size_zeroCells]
      show n * 4 + (cap - n) * 4 = cap * 4
      omega
    rw [hC] at happ
    clear hC h0
    go_enter Tryz.func55, Tryz.ntmps55
    go_wp2_with (at_builtin; refine Lib.wpList_append_run _ rfl _ _ _ _ rfl _ _ rfl rfl _ _ happ ?_)
    go_ret
    refine ⟨_, rfl, ⟨rfl, .inr ⟨w.heap.size, cap, C, rfl, Nat.le_refl _, heap_alloc_new w.drew _, Nat.zero_le _, hcm, hCs, ?_⟩⟩, Below.alloc (Below.refl _ _).drew (Nat.le_refl _) _⟩
    show C.toList.take (0 * 4) = []
    rw [Nat.zero_mul, List.take_zero]
abbrev Pt := (Option Addr × Nat) × List Ln
def ptL (ps : List Pt) : List Ln := ps.flatMap (·.2)
theorem ptL_more {ps : List Pt} {k : Nat} {x : Pt} (hx : ps[k]? = some x) : ptL (ps.take (k + 1)) = ptL (ps.take k) ++ x.2 := by
  unfold ptL
  rw [List.take_add_one, hx, List.flatMap_append]
  congr 1
  show x.2 ++ [] = x.2
  rw [List.append_nil]
theorem ptL_len {ps : List Pt} (h : ∀ x ∈ ps, x.2.length ≤ 1000000) : (ptL ps).length ≤ ps.length * 1000000 := by
  induction ps with
  | nil => exact Nat.zero_le _
  | cons x r ih =>
    have h1 := h x (List.mem_cons_self ..)
    have h2 := ih fun y hy => h y (List.mem_cons_of_mem _ hy)
    show (x.2 ++ ptL r).length ≤ (r.length + 1) * 1000000
    rw [List.length_append]; omega
theorem own_more {B : Nat} {w : World} {v : Value} {fs l r : List Ln} (h : w.ownsRow B 27 4 v (fs.length + l.length) (cellsL fs ++ cellsL l)) (e : r = fs ++ l) : Own B w v r := by
  subst e
  rw [← cellsL_append, ← List.length_append] at h
  exact h
set_option maxRecDepth 100000 in
set_option maxHeartbeats 4000000 in
theorem bconcat_any (vb : Nat) (ps : List Pt) (w : World) (hvb : vb < w.heap.size) (hm : ps.length ≤ 3) (hv : ∀ (j : Nat) (x : Pt), ps[j]? = some x → w.cell? ⟨vb, j, none⟩ = some (.slice x.1.1 x.2.length x.1.2)) (hL : ∀ x ∈ ps, Lns w x.1.1 x.2) (hl : ∀ x ∈ ps, x.2.length ≤ 1000000) :
    Calls Tryz.prog 32 #[.slice (some ⟨vb, 0, none⟩) ps.length ps.length] w (GiveLs w (ptL ps)) := by
  obtain ⟨i0, hi, hz0, hz1, hz2⟩ := info_parts lnInfo
  have hS : ∀ k, (ptL (ps.take k)).length ≤ 3000000 := fun k => by
    have h1 := ptL_len (ps := ps.take k) fun x hx => hl x (List.mem_of_mem_take hx)
    rw [List.length_take] at h1
    have : min k ps.length * 1000000 ≤ 3 * 1000000 := Nat.mul_le_mul_right _ (by omega)
    omega
  have HV := Lib.hid hv; have HL := Lib.hid hL; have HS := Lib.hid hS
  have hp3 : ps.length ≤ 4611686018427387904 := by omega
  clear hv hL hS hl hm
  go_enter Tryz.func32, Tryz.ntmps32
  go_wp2
  go_loop [3, 11] (fun z i => ∃ k : Nat, k ≤ ps.length ∧ i = .int .i64 k ∧ z = .int .i64 (ptL (ps.take k)).length) (fun _ i => ps.length - (intOf i).toNat)
  case atStart => exact ⟨0, Nat.zero_le _, rfl, rfl⟩
  case round =>
    obtain ⟨k, hk, rfl, rfl⟩ := hrel
    by_cases hlt : k < ps.length
    · obtain ⟨⟨⟨p, c⟩, l⟩, hx⟩ : ∃ x, ps[k]? = some x := ⟨_, List.getElem?_eq_getElem hlt⟩
      have hc := HV.out k _ hx
      dsimp only at hc
      have h1 := HS.out (k + 1)
      have h2 : (ptL (ps.take (k + 1))).length = (ptL (ps.take k)).length + l.length := by rw [ptL_more hx, List.length_append]
      rw [h2] at h1
      have HN := Lib.hid h2
      clear h2 hx
      generalize (ptL (ps.take k)).length = S at *
      generalize l.length = N at *
      have hw : IntKind.i64.wrap ((S : Int) + (N : Int)) = (S : Int) + (N : Int) := IntWalk.i64_in _ (by omega)
      have hneg : ¬ ((S : Int) + (N : Int) < 0) := by omega
      go_wp2
      go_round
      case rel => exact ⟨k + 1, hlt, by go_num, by rw [HN.out]; go_num⟩
      case measure => simp [intOf]; omega
    · obtain rfl : k = ps.length := by omega
      rw [List.take_length]
      have h3 := HS.out ps.length
      rw [List.take_length] at h3
      have cg := bgrow_any (ptL ps).length
      have CG := Lib.hid cg
      clear cg hlt
      go_wp2_with fail
      refine (CG.out _ h3).mono ?_
      rintro e w1 ⟨v, rfl, hown, hbw⟩
      have hO := Lib.hid hown; have hW := Lib.hid hbw
      clear hown hbw CG h3
      go_wp2_with fail
      go_loopw [6, 27] (fun out i wr => ∃ k : Nat, k ≤ ps.length ∧ i = .int .i64 k ∧ Own w.heap.size wr out (ptL (ps.take k)) ∧ Below w.heap.size w wr) (fun _ i _ => ps.length - (intOf i).toNat)
      case atStart => exact ⟨0, Nat.zero_le _, rfl, hO.out, hW.out⟩
      case round =>
        clear hO hW
        obtain ⟨k, hk, rfl, hown, hbw⟩ := hrel
        by_cases hlt : k < ps.length
        · obtain ⟨⟨⟨p, c⟩, l⟩, hx⟩ : ∃ x, ps[k]? = some x := ⟨_, List.getElem?_eq_getElem hlt⟩
          have hc := (hbw.cell (p := ⟨vb, k, none⟩) hvb).trans (HV.out k _ hx)
          dsimp only at hc
          have hll := (HL.out _ (List.mem_of_getElem? hx)).below hbw
          dsimp only at hll
          have HT := Lib.hid (ptL_more hx)
          have h1 := HS.out (k + 1)
          rw [HT.out, List.length_append] at h1
          have HS1 := Lib.hid h1
          have hO := Lib.hid hown; have hW := Lib.hid hbw
          clear hown hbw hx h1
          cases p with
          | none =>
            obtain rfl := hll.none
            have happ := run_append_none (P := Tryz.prog) (w := wr) w.heap.size 23 23 27 i0 4 c Tryz.underlying23 hi _ _ _ hO.out
            have hT2 : Hid (ptL (ps.take (k + 1)) = ptL (ps.take k)) := Lib.hid (by rw [HT.out]; exact List.append_nil _)
            clear hll
            go_wp2_with (at_builtin; refine Lib.wpList_append_run _ rfl _ _ _ _ rfl _ _ rfl rfl _ _ happ ?_)
            go_roundw
            case rel => exact ⟨k + 1, hlt, by go_num, by rw [hT2.out]; exact hO.out, hW.out⟩
            case measure => simp [intOf]; omega
          | some ad =>
            have HC := Lib.hid hll.cells
            clear hll
            go_wp2_with (at_builtin; refine stop ?_)
            show wpList _ _ _ _ _ _
            refine wpList_append_own _ rfl _ _ 23 rfl w.heap.size 27 i0 (.agg #[.string ⟨#[]⟩, .string ⟨#[]⟩, .string ⟨#[]⟩, .string ⟨#[]⟩]) 4 64 Tryz.underlying23 hi hz0 hz1 hz2 rfl (by decide) _ _ _ rfl hO.out ad l.length c (cellsL l) rfl (cellsL_len l) HC.out (cellsL_one l) (by unfold maxLen; have := HS1.out; omega) (by have := HS1.out; omega) (Below.size hW.out) ?_
            intro v' w3 hown' hgrow' hnil'
            have hbw' : Below w.heap.size w w3 := Below.grown hW.out hgrow' (Below.size hW.out) (fun j hj => (World.ownsRow.lt hO.out _ hj).1)
            have X : Hid (Own w.heap.size w3 v' (ptL (ps.take (k + 1))) ∧ Below w.heap.size w w3) := Lib.hid ⟨own_more hown' HT.out, hbw'⟩
            clear hown' hgrow' hnil' hbw'
            go_wp2_with fail
            go_roundw
            case rel => exact ⟨k + 1, hlt, by go_num, X.out.1, X.out.2⟩
            case measure => simp [intOf]; omega
        · obtain rfl : k = ps.length := by omega
          rw [List.take_length] at hown
          have hO := Lib.hid hown; have hW := Lib.hid hbw
          clear hown hbw
          go_wp2_with fail
          go_ret
          exact (giveL hO.out hW.out).row
end Go.Proofs.YtemnimbedmkagaaGreatDoor

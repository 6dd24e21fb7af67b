/- The program's instruct: lines sorted by place; numbers by place. -/
import Derived.DeepKeys4
import Derived.Maps.RangeWalk
import Derived.Maps.OwnSet
import Derived.Shelf.SlSortCmp.NoneTotal
import Derived.Lib.SlicesCompact
import Derived.Laws.IdiomCopy
import Derived.Test.YtagfndkfjbbpjaaGreatDoorAllPoB
import Derived.Test.YtagfndkfjbbpjaaGreatDoorAllPost
import Derived.Test.YtagfndkfjbbpjaaGreatDoorInsNum
import Derived.Test.YtagfndkfjbbpjaaGreatDoorSch
import Derived.Test.YtagfndkfjbbpjaaGreatDoorAllRefI6
namespace Go.Proofs.YtagfndkfjbbpjaaGreatDoor
open Go.RowKit Go.Sort Go.Shelf
set_option linter.unusedSimpArgs false
set_option linter.unusedVariables false
set_option maxRecDepth 100000 in
set_option maxHeartbeats 4000000 in
theorem iorderG_any (a s n d c t m e : List UInt8) (w : World) :
  Calls Tryz.prog 63 #[.agg #[.string ⟨a.toArray⟩, .string ⟨s.toArray⟩, .string ⟨n.toArray⟩, .string ⟨d.toArray⟩], .agg #[.string ⟨c.toArray⟩, .string ⟨t.toArray⟩, .string ⟨m.toArray⟩, .string ⟨e.toArray⟩]] w (GiveG w (ordK (a, s) (c, t))) := by
 have c1 := fun w => scmpG a c w
 have c2 := fun w => scmpG s t w
 have HO : Hid (ordK (a, s) (c, t) = orZ (Lib.compareBytes a c) (Lib.compareBytes s t)) := Lib.hid rfl
 generalize ordK (a, s) (c, t) = o at *
 generalize Lib.compareBytes a c = x at *
 generalize Lib.compareBytes s t = y at *
 have C1 := Lib.hid c1; have C2 := Lib.hid c2; clear c1 c2
 go_enter Tryz.func63, Tryz.ntmps63
 go_wp2_with fail
 obtain ⟨U1, hU, bU, s1, rx0, rx1, rx2, rx3⟩ := lay4 (Below.refl w.heap.size w) (.string ⟨a.toArray⟩) (.string ⟨s.toArray⟩) (.string ⟨n.toArray⟩) (.string ⟨d.toArray⟩) 46
 have g1 : Grw w U1 := hU ▸ (Grw.refl w).alloc _
 rw [hU]; clear hU
 obtain ⟨U2, hU, bV, s2, ry0, ry1, ry2, ry3⟩ := lay4 (Below.refl U1.heap.size U1) (.string ⟨c.toArray⟩) (.string ⟨t.toArray⟩) (.string ⟨m.toArray⟩) (.string ⟨e.toArray⟩) 46
 have g2 : Hid (Grw w U2) := Lib.hid (hU ▸ g1.alloc _)
 rw [hU]; clear hU g1
 have qx0 := fun v (h : Grw U2 v) => rx0 v (Below.more bV h.below)
 have qx1 := fun v (h : Grw U2 v) => rx1 v (Below.more bV h.below)
 have qy0 := fun v (h : Grw U2 v) => ry0 v h.below
 have qy1 := fun v (h : Grw U2 v) => ry1 v h.below
 rw [← s1] at qy0 qy1
 have g0 := Grw.refl U2
 clear bU bV rx0 rx1 ry0 ry1 rx2 rx3 ry2 ry3 s1 s2
 first | (go_region_held3 (fun w' => Grw U2 w')
    (first | (exact g0.drew) | (with_reducible assumption) | (exact Grw.alloc (by with_reducible assumption) _))
    (first | (go_at_call 85; (with_reducible show Calls _ _ #[.string ⟨a.toArray⟩, .string ⟨c.toArray⟩] _ _); (with_reducible refine (heldW (C1.out _) (by assumption)).mono ?_); rintro e w'' ⟨rfl, hw⟩) | (go_at_call 85; (with_reducible show Calls _ _ #[.string ⟨s.toArray⟩, .string ⟨t.toArray⟩] _ _); (with_reducible refine (heldW (C2.out _) (by assumption)).mono ?_); rintro e w'' ⟨rfl, hw⟩) | (go_at_call 84; (with_reducible refine (heldW (orG_new _ _ _ _) (by assumption)).mono ?_); rintro e w'' ⟨rfl, hw⟩))) | fail
 all_goals (go_wp2_with fail)
 all_goals go_ret
 all_goals (exact ⟨ret_int (by rw [HO.out]), g2.out.trans (by with_reducible assumption)⟩)
theorem cmpI (blk off size : Nat) (w : World) : CmpLays Tryz.prog 63 #[] encL 4 cfL blk off size w := fun m os dk _ x y => by
 obtain ⟨⟨a, s⟩, ⟨n, d⟩⟩ := x
 obtain ⟨⟨c, t⟩, ⟨k, e⟩⟩ := y
 refine (iorderG_any a s n d c t k e _).mono ?_
 rintro e' w' ⟨rfl, q, ot, rfl⟩
 exact ⟨rfl, q, ot, rfl⟩
theorem enters_iorder : ∀ (args : Array Value) (w : World), (callFunc 63 args).run Tryz.prog w = .ok (.enter 63 args) w := enters_of Tryz.func63 (by kernel_rfl) rfl
def HoldR (B : Nat) (w : World) (p : Option Addr) (d : List Ln) : Prop := d = [] ∨ ∃ g, p = some ⟨g, 0, none⟩ ∧ B ≤ g ∧ g < w.heap.size ∧ HoldsK encL 4 w g 0 d.toArray
set_option maxRecDepth 100000 in
set_option maxHeartbeats 4000000 in
theorem isortW (g cap : Nat) (d : Array Ln) (w : World) (hH : HoldsK encL 4 w g 0 d) (hg : g < w.heap.size) (hsz : d.size ≤ 1000000) :
  Calls Tryz.prog 62 #[.slice (some ⟨g, 0, none⟩) d.size cap, .func (.func 63) #[] #[]] w fun e w' => e = .returned (.tuple #[]) ∧ ∃ d' n os, PermIn 0 d.size d d' ∧ SortedIn (ltOf cfL) 0 d.size d' ∧ w' = sortWorldK encL 4 w g 0 n d' os := by
 have hsz' : d.size < 4611686018427387904 := by omega
 have hlim : Lib.bitLen d.size < 4611686018427387904 := Nat.lt_of_le_of_lt (Lib.bitLen_le d.size 62 (by omega) (by omega)) (by omega)
 have hp := AnyQ.pdqsortCmpFunc_all (P := Tryz.prog) (ρ := Tryz.sortLn_ren) { Tryz.sortLn with } 4 (fun w => isAggL w) (fun w => sizeL w) encL cfL 63 #[] swoL g 0 cap d w enters_iorder (cmpI _ _ _ _) ⟨enc_len, enc_one, hH, hg⟩ (d.size + 1) 0 d.size (Lib.bitLen d.size) d w (by omega) rfl (SWK.start hH) (Nat.zero_le _) (Nat.le_refl _) hsz' hlim (Or.inl rfl)
 change Calls Tryz.prog 91 _ _ _ at hp
 have hl : Calls Tryz.prog 92 #[.int .u64 (d.size : Int)] w fun e w' => e = .returned (.int .i64 (Lib.bitLen d.size : Nat)) ∧ w' = w := by
  have h := Any.bits_Len (SlLaysF0.n15.bits (P := Tryz.prog) (ρ := Tryz.sortLn_ren) { Tryz.sortLn with }) (d.size : Int) w (by omega) (by omega)
  rwa [Int.toNat_natCast] at h
 have wr : IntKind.u64.wrap (d.size : Int) = d.size := by simp [IntKind.wrap, IntKind.bits, IntKind.signed]; omega
 have HS := Lib.hid (pdq_sorts (ltOf cfL) swoL d 0 d.size (Lib.bitLen d.size) true true (Nat.zero_le _) (Nat.le_refl _) (Or.inl rfl))
 generalize pdq (ltOf cfL) d 0 d.size (Lib.bitLen d.size) true true = d' at *
 generalize Lib.bitLen d.size = bl at *
 have HP := Lib.hid hp; have HLn := Lib.hid hl
 clear hp hl hH
 go_enter Tryz.func62, Tryz.ntmps62
 go_wp2_with fail
 refine HLn.out.mono ?_
 rintro e w1 ⟨rfl, rfl⟩
 go_wp2_with fail
 refine HP.out.mono ?_
 rintro e w2 ⟨rfl, n, os, rfl⟩
 go_wp2_with fail
 go_end0
 exact ⟨rfl, d', n, os, HS.out.1, HS.out.2, rfl⟩
set_option maxRecDepth 100000 in
set_option maxHeartbeats 4000000 in
theorem isort_none (p : Option Addr) (c : Nat) (w : World) : Calls Tryz.prog 62 #[.slice p 0 c, .func (.func 63) #[] #[]] w fun e w' => e = .returned (.tuple #[]) ∧ w' = w := by
 have hp := fun lim W => AnyF.pdqsortCmpFunc_none (P := Tryz.prog) (ρ := Tryz.sortLn_ren) { Tryz.sortLn with } p c lim (.func (.func 63) #[] #[]) W
 have hl : ∀ W, Calls Tryz.prog 92 #[.int .u64 0] W fun e w' => e = .returned (.int .i64 (Lib.bitLen 0 : Nat)) ∧ w' = W := fun W => by
  have h := Any.bits_Len (SlLaysF0.n15.bits (P := Tryz.prog) (ρ := Tryz.sortLn_ren) { Tryz.sortLn with }) 0 W (by omega) (by omega)
  exact h
 change ∀ lim W, Calls Tryz.prog 91 _ _ _ at hp
 have HP := Lib.hid hp; have HLn := Lib.hid hl
 clear hp hl
 go_enter Tryz.func62, Tryz.ntmps62
 go_wp2_with fail
 refine (HLn.out _).mono ?_
 rintro e w1 ⟨rfl, rfl⟩
 go_wp2_with fail
 refine (HP.out _ _).mono ?_
 rintro e w2 ⟨rfl, rfl⟩
 go_wp2_with fail
 go_end0
 exact ⟨rfl, rfl⟩
theorem isort_any {B : Nat} (v : Value) (ls : List Ln) (w : World) (h : Own B w v ls) (hl : ls.length ≤ 1000000) :
  Calls Tryz.prog 62 #[v, .func (.func 63) #[] #[]] w fun e w' => e = .returned (.tuple #[]) ∧ ∃ p c d, v = .slice p d.length c ∧ d.length ≤ c ∧ d.Perm ls ∧ SortedK d ∧ Lns w' p d ∧ HoldR B w' p d ∧ Below B w w' := by
 obtain ⟨p, c, rfl, hc, hL, hf⟩ := own_lns h
 rcases h.2 with ⟨hv, h0⟩ | ⟨g, cap, cur, hv, k2, k3, k4, k5⟩
 ·have : ls = [] := List.length_eq_zero_iff.1 h0
  subst this
  have k := isort_none p c w
  refine k.mono ?_
  rintro e w' ⟨rfl, rfl⟩
  exact ⟨rfl, p, c, [], rfl, Nat.zero_le _, List.Perm.refl _, List.Pairwise.nil, Lns.nil _ _, .inl rfl, Below.refl _ _⟩
 ·cases hv
  have hg : g < w.heap.size := (Array.getElem?_eq_some_iff.1 k3).1
  have hH := holds_of k3 hL
  have k := isortW g c ls.toArray w hH hg (by rw [List.size_toArray]; omega)
  rw [List.size_toArray] at k
  refine k.mono ?_
  rintro e w' ⟨rfl, d, n, os, hp, hs, rfl⟩
  have hsz : d.size = ls.length := by rw [hp.1, List.size_toArray]
  have hperm : d.toList.Perm ls := by
   have k := hp.2.2
   have e1 : (d.extract 0 ls.length).toList = d.toList := by rw [← hsz, Array.extract_size]
   have e2 : (ls.toArray.extract 0 ls.length).toList = ls := by simp
   rw [e1, e2] at k
   exact k
  have hd : d.toList.length = ls.length := by rw [Array.length_toList, hsz]
  have hh := holdsK_sortWorldK_c encL 4 w g 0 ls.toArray d n os hH hg (by rw [hsz, List.size_toArray])
  have hgs := Nat.lt_of_lt_of_le hg (size_sortWorldK_c encL 4 w g 0 n d os)
  refine ⟨rfl, some ⟨g, 0, none⟩, c, d.toList, by rw [hd], by rw [hd]; exact hc, hperm, sorted_of (by rw [hsz]; exact hs), lns_of hh hgs, .inr ⟨g, rfl, k2, hgs, by rw [Array.toArray_toList]; exact hh⟩, sortW_below k2 hg⟩
end Go.Proofs.YtagfndkfjbbpjaaGreatDoor
/- The program's instruct: numbers by place, in a map. -/
namespace Go.Proofs.YtagfndkfjbbpjaaGreatDoor
open Go.RowKit Go.Maps Go.WideMaps
set_option linter.unusedSimpArgs false
set_option linter.unusedVariables false
theorem laidI : laidOutB Tryz.prog = true := by kernel_rfl
theorem keyedS : Keyed Tryz.prog 77 := Keyed.of_law (deep_law_laid laidI (m := 2) (by omega) (of_decide_eq_true (by kernel_rfl)) (by kernel_rfl) (by kernel_rfl))
def spotV (k : Key) : Value := .agg #[.string ⟨k.1.toArray⟩, .string ⟨k.2.toArray⟩]
def kb (k : Key) : Lit := .string (keyBytes [.string k.1, .string k.2])
def LenK (k : Key) : Prop := k.1.length ≤ maxLen ∧ k.2.length ≤ maxLen
set_option maxRecDepth 100000 in
theorem lits_str {d : Nat} {s : ByteArray} (hs : s.size ≤ maxLen) : Tryz.prog.keyLits (d + 1) 9 [.string s] = some [.string s.data.toList] := by
 unfold Program.keyLits
 rw [Tryz.underlying9]
 exact if_pos hs
set_option maxRecDepth 100000 in
theorem lits_inv {d : Nat} {cs : List Value} {L : List Lit} (h : Tryz.prog.keyLits (d + 1) 9 cs = some L) : ∃ s : ByteArray, cs = [.string s] ∧ L = [.string s.data.toList] ∧ s.size ≤ maxLen := by
 unfold Program.keyLits at h
 rw [Tryz.underlying9] at h
 match cs, h with
 | [.string s], h =>
  have h : (if s.size ≤ maxLen then some [Lit.string s.data.toList] else none) = some L := h
  split at h
  ·exact ⟨s, rfl, (Option.some.inj h).symm, by assumption⟩
  ·cases h
theorem spot_cells : Tryz.prog.cellsOf 77 = 2 := by kernel_rfl
theorem str_cells : Tryz.prog.cellsOf 9 = 1 := by kernel_rfl
theorem spot_type : Tryz.prog.keyType 77 = true := by kernel_rfl
theorem types_pos : ∃ d, Tryz.prog.types.size = d + 1 := ⟨Tryz.prog.types.size - 1, by have : 0 < Tryz.prog.types.size := of_decide_eq_true (by kernel_rfl); omega⟩
set_option maxRecDepth 100000 in
theorem lits_two {d : Nat} {x y : Value} : Tryz.prog.keyLits (d + 2) 77 [x, y] = (Tryz.prog.keyLits (d + 1) 9 [x]).bind fun a => (Tryz.prog.keyLits (d + 1) 9 [y]).map fun b => a ++ b := by
 rw [show d + 2 = (d + 1) + 1 from rfl]
 conv => lhs; unfold Program.keyLits
 rw [Tryz.underlying77]
 simp only [spot_cells]
 rw [if_pos ⟨rfl, by kernel_rfl⟩]
 simp [List.mapM_cons, str_cells]
 cases Tryz.prog.keyLits (d + 1) 9 [x] with
 | none => rfl
 | some a =>
  cases Tryz.prog.keyLits (d + 1) 9 [y] with
  | none => rfl
  | some b => simp
set_option maxRecDepth 100000 in
theorem lits_len {d : Nat} {xs : List Value} {L : List Lit} (h : Tryz.prog.keyLits (d + 2) 77 xs = some L) : xs.length = 2 := by
 rw [show d + 2 = (d + 1) + 1 from rfl] at h
 unfold Program.keyLits at h
 rw [Tryz.underlying77] at h
 simp only [spot_cells] at h
 by_cases c : xs.length = 2
 ·exact c
 ·rw [if_neg (fun k => c k.1)] at h; cases h
set_option maxRecDepth 100000 in
theorem key_spot {k : Key} (h : LenK k) : keyOf Tryz.prog 77 (spotV k) = some (kb k) := by
 obtain ⟨d, hd⟩ := types_pos
 have hf : (spotV k).formed Tryz.prog 77 = true := by
  simp [Value.formed, spotV, Tryz.underlying77, spot_cells]
 have hl : Tryz.prog.keyLits (Tryz.prog.types.size + 1) 77 (spotV k).cells.toList = some [.string k.1, .string k.2] := by
  rw [hd]
  show Tryz.prog.keyLits (d + 2) 77 [.string ⟨k.1.toArray⟩, .string ⟨k.2.toArray⟩] = _
  rw [lits_two, lits_str (by rw [size_of]; exact h.1), lits_str (by rw [size_of]; exact h.2)]
  rfl
 unfold keyOf
 rw [Tryz.underlying77]
 show (if Tryz.prog.keyType 77 && (spotV k).formed Tryz.prog 77 then (Tryz.prog.keyLits (Tryz.prog.types.size + 1) 77 (spotV k).cells.toList).map fun ls => Lit.string (keyBytes ls) else none) = _
 rw [spot_type, hf, hl]
 rfl
set_option maxRecDepth 100000 in
theorem spot_inv {v : Value} {kl : Lit} (h : keyOf Tryz.prog 77 v = some kl) : ∃ k, LenK k ∧ v = spotV k ∧ kl = kb k := by
 obtain ⟨⟨xs⟩, L, rfl, hl, rfl⟩ := keyOf_top (by kernel_rfl) h
 obtain ⟨d, hd⟩ := types_pos
 rw [hd] at hl
 have hl : Tryz.prog.keyLits (d + 2) 77 xs = some L := hl
 have hn := lits_len hl
 obtain ⟨x, y, rfl⟩ : ∃ x y, xs = [x, y] := by
  match xs, hn with
  | [x, y], _ => exact ⟨x, y, rfl⟩
 rw [lits_two] at hl
 cases h1 : Tryz.prog.keyLits (d + 1) 9 [x] with
 | none => rw [h1] at hl; cases hl
 | some a =>
  rw [h1] at hl
  have hl : ((Tryz.prog.keyLits (d + 1) 9 [y]).map fun b => a ++ b) = some L := hl
  obtain ⟨b, h2, rfl⟩ := Option.map_eq_some_iff.1 hl
  obtain ⟨s, e1, rfl, l1⟩ := lits_inv h1
  obtain ⟨t, e2, rfl, l2⟩ := lits_inv h2
  obtain rfl := (List.cons.inj e1).1
  obtain rfl := (List.cons.inj e2).1
  exact ⟨(s.data.toList, t.data.toList), ⟨by rw [Array.length_toList]; exact l1, by rw [Array.length_toList]; exact l2⟩, rfl, rfl⟩
set_option maxRecDepth 100000 in
theorem spotV_inj {k m : Key} (h : spotV k = spotV m) : k = m := by
 obtain ⟨a, s⟩ := k
 obtain ⟨c, t⟩ := m
 simpa [spotV] using h
set_option maxRecDepth 100000 in
theorem kb_inj {k m : Key} (hk : LenK k) (hm : LenK m) (h : kb k = kb m) : k = m := spotV_inj (keyedS.inj (key_spot hk) (by rw [h]; exact key_spot hm))
theorem kb_lit (k : Key) : WideAt.IsKeyLit (kb k) := trivial
structure HoldM (w : World) (bm n : Nat) (H : Key → Option Key) (D : DV) : Prop where
 map : w.ownsMap Tryz.prog 77 tokR bm n D
 has : ∀ k, LenK k → Maps.has D (kb k) = (H k).isSome
 at_ : ∀ k q, LenK k → H k = some q → ∀ zd, D.atKey (kb k) zd = .held (ratV q)
theorem hold_start (w : World) : HoldM (w.alloc (.map #[] 0)) w.heap.size 0 (fun _ => none) (.map []) := ⟨World.ownsMap_made w _ _ _, fun _ _ => rfl, fun _ _ _ h => (by cases h)⟩
theorem HoldM.grown {w w' : World} {row : Option Nat} {bm n : Nat} {H : Key → Option Key} {D : DV} (h : HoldM w bm n H D) (hg : w.grownBy w' row) (hr : some bm ≠ row) : HoldM w' bm n H D := ⟨h.map.kept hg hr, h.has, h.at_⟩
theorem HoldM.below {w w' : World} {bm n : Nat} {H : Key → Option Key} {D : DV} (h : HoldM w bm n H D) (hb : Below w.heap.size w w') : HoldM w' bm n H D := h.grown (grown_of (row := none) hb) (by simp)
theorem HoldM.mono {w : World} {bm n m : Nat} {H : Key → Option Key} {D : DV} (h : HoldM w bm n H D) (hn : n ≤ m) : HoldM w bm m H D := ⟨h.map.mono hn, h.has, h.at_⟩
theorem HoldM.drew {w : World} {bm n : Nat} {H : Key → Option Key} {D : DV} (h : HoldM w bm n H D) : HoldM w.drew bm n H D := ⟨h.map, h.has, h.at_⟩
theorem HoldM.block {w : World} {bm n : Nat} {H : Key → Option Key} {D : DV} (h : HoldM w bm n H D) : ∃ es clock, w.heap[bm]? = some (.map es clock) := by
 obtain ⟨es, clock, hb, _⟩ := h.map
 exact ⟨es, clock, hb⟩
theorem hold_put {w w' : World} {bm n m : Nat} {H : Key → Option Key} {D : DV} (h : HoldM w bm n H D) {k : Key} (q : Key) (hk : LenK k) (hm : w'.ownsMap Tryz.prog 77 tokR bm m (D.put (kb k) (.held (ratV q)))) : HoldM w' bm m (fun k' => if k' = k then some q else H k') (D.put (kb k) (.held (ratV q))) := by
 have hD := h.map.isMap
 refine ⟨hm, fun k' hk' => ?_, fun k' q' hk' hq zd => ?_⟩
 ·by_cases e : k' = k
  ·subst e
   rw [if_pos rfl, has_put_same (k := kb k') hD (kb_lit _)]; rfl
  ·rw [if_neg e, has_put_other (fun c => e (kb_inj hk' hk c)), h.has k' hk']
 ·by_cases e : k' = k
  ·subst e
   rw [if_pos rfl] at hq
   rw [atKey_put_same (k := kb k') hD (kb_lit _), Option.some.inj hq]
  ·rw [if_neg e] at hq
   rw [atKey_put_other (fun c => e (kb_inj hk' hk c)), h.at_ k' q' hk' hq]
theorem hold_del {w w' : World} {bm n m : Nat} {H : Key → Option Key} {D : DV} (h : HoldM w bm n H D) {k : Key} (hk : LenK k) (hm : w'.ownsMap Tryz.prog 77 tokR bm m (D.del (kb k))) : HoldM w' bm m (fun k' => if k' = k then none else H k') (D.del (kb k)) := by
 refine ⟨hm, fun k' hk' => ?_, fun k' q' hk' hq zd => ?_⟩
 ·by_cases e : k' = k
  ·subst e
   rw [if_pos rfl, has_del_same]; rfl
  ·rw [if_neg e, has_del_other (fun c => e (kb_inj hk' hk c)), h.has k' hk']
 ·by_cases e : k' = k
  ·rw [if_pos e] at hq; cases hq
  ·rw [if_neg e] at hq
   rw [atKey_del_other (fun c => e (kb_inj hk' hk c)), h.at_ k' q' hk' hq]
def noRat : Value := .agg #[.string ⟨#[]⟩, .string ⟨#[]⟩]
def ratOf : Option Key → Value
 | some q => ratV q
 | none => noRat
set_option maxRecDepth 100000 in
theorem zeroR (w : World) : (zeroValue 35).run Tryz.prog w = .ok noRat w := by kernel_rfl
set_option maxRecDepth 100000 in
theorem hold_look {w : World} {bm n : Nat} {H : Key → Option Key} {D : DV} (h : HoldM w bm n H D) {k : Key} (hk : LenK k) : (Instr.lookup 58 (.map (some bm)) (spotV k) true).run Tryz.prog w = .ok (.tuple #[ratOf (H k), .bool (H k).isSome]) w := by
 obtain ⟨v, ps, hrun, hv⟩ := h.map.look_ok keyedS Tryz.underlying58 (zeroR w) (zd := .held noRat) (zp := []) rfl (key_spot hk)
 have hh := h.has k hk
 have hv' : v = ratOf (H k) := by
  have e : DataW.held v = D.atKey (kb k) (.held noRat) := (Prod.mk.inj (Option.some.inj hv)).1
  cases c : H k with
  | none =>
   rw [c] at hh
   rw [atKey_of_not_has hh] at e
   exact DataW.held.inj e
  | some q =>
   rw [h.at_ k q hk c] at e
   exact DataW.held.inj e
 rw [hh, hv'] at hrun
 exact hrun
section
variable {ops : Array Oper} {rest : List Oper} {o : Oper} {a : Act} {Q : Exit → Act → World → Prop} {w : World} {bm n : Nat} {H : Key → Option Key} {D : DV}
theorem wpList_hold_look (hg : o.guard = none) (m x : Operand) (hop : o.op = Op.lookup 58 m x true) (hm : a.eval m = .map (some bm)) (h : HoldM w bm n H D) {k : Key} (hk : LenK k) (hx : a.eval x = spotV k)
  (hK : wpList Tryz.prog ops Q rest (a.put o.dst (.tuple #[ratOf (H k), .bool (H k).isSome])) w) : wpList Tryz.prog ops Q (o :: rest) a w := by
 refine wpList_plain hg fun K' hK' => ?_
 unfold Oper.wp
 simp [execOp, hop, hm, hx, hold_look h hk, Result.andThen]
 exact hK' _ _ hK
theorem wpList_hold_del (hg : o.guard = none) (m x : Operand) (hop : o.op = Op.call { callee := Callee.builtin Builtin.delete, args := #[m, x], argTypes := #[58, 77] }) (hm : a.eval m = .map (some bm)) (h : HoldM w bm n H D) {k : Key} (hk : LenK k) (hx : a.eval x = spotV k)
  (hK : ∀ w', HoldM w' bm n (fun k' => if k' = k then none else H k') (D.del (kb k)) → w.grownBy w' (some bm) → wpList Tryz.prog ops Q rest (a.put o.dst (.tuple #[])) w') : wpList Tryz.prog ops Q (o :: rest) a w :=
 wpList_delete_own w hg m x _ _ hop _ keyedS Tryz.underlying58 tokR bm n D hm h.map (spotV k) (kb k) hx (key_spot hk) fun w' ho ht => hK w' (hold_del h hk ho) ht.grown
end
set_option maxRecDepth 100000 in
theorem hold_store {w : World} {bm n : Nat} {H : Key → Option Key} {D : DV} (h : HoldM w bm n H D) (hn : n < maxLen) {k : Key} (q : Key) (hk : LenK k) : ∃ w', (Instr.mapUpdate 58 (.map (some bm)) (spotV k) (ratV q)).run Tryz.prog w = .ok () w' ∧ HoldM w' bm (n + 1) (fun k' => if k' = k then some q else H k') (D.put (kb k) (.held (ratV q))) ∧ w.grownBy w' (some bm) := by
 obtain ⟨w', hrun, ho, ht⟩ := h.map.store keyedS Tryz.underlying58 hn (key_spot hk) (val := ratV q) (d := .held (ratV q)) (ps := []) rfl
 exact ⟨w', hrun, hold_put h q hk ho, ht.grown⟩
set_option maxRecDepth 100000 in
set_option maxHeartbeats 4000000 in
theorem spot_any (a s n d : List UInt8) (w : World) :
  Calls Tryz.prog 59 #[.agg #[.string ⟨a.toArray⟩, .string ⟨s.toArray⟩, .string ⟨n.toArray⟩, .string ⟨d.toArray⟩]] w fun e w' => e = .returned (.agg #[.string ⟨a.toArray⟩, .string ⟨s.toArray⟩]) ∧ Below w.heap.size w w' := by
 go_enter Tryz.func59, Tryz.ntmps59
 go_wp2_with fail
 refine bodyPost_ret (v := .agg #[.string ⟨a.toArray⟩, .string ⟨s.toArray⟩]) (by simp [results, Tryz.results59, go_sem, *]) rfl ⟨rfl, ?_⟩
 exact Below.alloc (Below.step _ (Below.refl _ _)) (by simp) _
theorem nums_snoc {ls : List Ln} {k : Nat} {x : Ln} (h : ls[k]? = some x) (H : Key → Option Key) : putL H (ls.take (k + 1)) = fun k' => if k' = x.1 then some x.2 else putL H (ls.take k) k' := by rw [take_snoc h, putL_snoc]
theorem nums_del {ls : List Ln} {k : Nat} {x : Ln} (h : ls[k]? = some x) (H : Key → Option Key) : delL H (ls.take (k + 1)) = fun k' => if k' = x.1 then none else delL H (ls.take k) k' := by rw [take_snoc h, delL_snoc]
def GiveH (w : World) (ls : List Ln) (e : Ending) (w' : World) : Prop := ∃ D, e = .returned (.map (some w.heap.size)) ∧ HoldM w' w.heap.size ls.length (putL (fun _ => none) ls) D ∧ Below w.heap.size w w'
set_option maxRecDepth 100000 in
set_option maxHeartbeats 4000000 in
theorem holdingsOf_any (p : Option Addr) (c : Nat) (ls : List Ln) (w : World) (hl : ls.length ≤ 1000000) (hz : ∀ x ∈ ls, LenK x.1) (h : Lns w p ls) :
  Calls Tryz.prog 34 #[.slice p ls.length c] w (GiveH w ls) := by
 have HS := Lib.hid h; have HZ := Lib.hid hz; clear h hz
 have hmm := @run_makeMap Tryz.prog
 go_enter Tryz.func34, Tryz.ntmps34
 go_wp2_with fail
 go_loopw [9] (fun i wr => ∃ (k : Nat) (D : DV), k ≤ ls.length ∧ i = .int .i64 k ∧ Hid (HoldM wr w.heap.size k (putL (fun _ => none) (ls.take k)) D) ∧ Below w.heap.size w wr) (fun i _ => ls.length - (intOf i).toNat)
 case atStart => exact ⟨0, _, Nat.zero_le _, rfl, Lib.hid (hold_start w), Below.step _ (Below.refl _ _)⟩
 case round =>
  obtain ⟨k, D, hk, rfl, HG, hw⟩ := hrel
  by_cases hlt : k < ls.length
  ·obtain ⟨⟨⟨a, s⟩, ⟨n, d⟩⟩, hx⟩ : ∃ x, ls[k]? = some x := ⟨_, List.getElem?_eq_getElem hlt⟩
   obtain ⟨b, o, rfl, k0, k1, k2, k3⟩ := (HS.out.below hw).rule hx
   have HTK := Lib.hid (nums_snoc hx (fun _ => none))
   have HLK : Hid (LenK (a, s)) := Lib.hid (HZ.out _ (List.mem_of_getElem? hx))
   have HKM : Hid (k < maxLen) := Lib.hid (by unfold maxLen; omega)
   have HBM : Hid (w.heap.size < wr.heap.size) := Lib.hid HG.out.map.lt
   clear hx
   have bw := Below.refl wr.heap.size wr
   go_upto_region 5 with fail
   obtain ⟨U, hU, bU, s1, r0, r1, r2, r3⟩ := lay4 (Below.refl wr.heap.size wr) (.string ⟨a.toArray⟩) (.string ⟨s.toArray⟩) (.string ⟨n.toArray⟩) (.string ⟨d.toArray⟩) 46
   have hz : C4 wr.heap.size (.string ⟨a.toArray⟩) (.string ⟨s.toArray⟩) (.string ⟨n.toArray⟩) (.string ⟨d.toArray⟩) U := ⟨r0 _ (Below.refl _ _), r1 _ (Below.refl _ _), r2 _ (Below.refl _ _), r3 _ (Below.refl _ _), by omega⟩
   rw [hU]; clear hU r0 r1 r2 r3 k0 k1 k2 k3 bw
   have hGU := Lib.hid (HG.out.below bU)
   have hWU := Lib.hid (hw.trans (bU.mono (Below.size hw)))
   have q0 := fun v (h : C4 wr.heap.size (.string ⟨a.toArray⟩) (.string ⟨s.toArray⟩) (.string ⟨n.toArray⟩) (.string ⟨d.toArray⟩) v) => h.c0
   have q1 := fun v (h : C4 wr.heap.size (.string ⟨a.toArray⟩) (.string ⟨s.toArray⟩) (.string ⟨n.toArray⟩) (.string ⟨d.toArray⟩) v) => h.c1
   have q2 := fun v (h : C4 wr.heap.size (.string ⟨a.toArray⟩) (.string ⟨s.toArray⟩) (.string ⟨n.toArray⟩) (.string ⟨d.toArray⟩) v) => h.c2
   have q3 := fun v (h : C4 wr.heap.size (.string ⟨a.toArray⟩) (.string ⟨s.toArray⟩) (.string ⟨n.toArray⟩) (.string ⟨d.toArray⟩) v) => h.c3
   have CSP := Lib.hid (spot_any a s n d)
   refine wp_region_noPanic ?_
   refine wp_region_held_drew (S := fun w' => C4 wr.heap.size (.string ⟨a.toArray⟩) (.string ⟨s.toArray⟩) (.string ⟨n.toArray⟩) (.string ⟨d.toArray⟩) w') (by kernel_rfl) (hz.drew) (fun hH0 => ?_)
   refine sch_in [0, 1, 3, 4] ?_
   iterate 4 (refine sch_yes (v := ?_) rfl (by kernel_rfl) (by rfl) ?_ (by assumption) ?_; rotate_left 1; (· (intro w hSw; (try dsimp only at hSw); go_simp <;> (with_reducible rfl))); try simp only [Act.put, qA, qB, qC, qD, qE, qF])
   refine sch_out ?_
   refine wpAnyH_ready (rs := [2]) (by kernel_rfl) (by simp) ?_
   refine AllReadyH.cons rfl (fun K hK => ?_) AllReadyH.nil
   go_simp
   refine (CSP.out _).mono ?_
   rintro e w4 ⟨rfl, hb⟩
   (try go_wp2_with fail)
   refine hK.out _ _ (hH0.grown (grown_of (row := none) hb) (by simp)) (fun hH1 => ?_)
   clear hK
   try simp only [Act.put, qA, qB, qC, qD, qE, qF]
   obtain ⟨w5, hrun5, hG5, hg5⟩ := hold_store (hGU.out.drew.below hb) HKM.out (n, d) HLK.out
   refine wpAnyH_ready (rs := [5]) (by kernel_rfl) (by simp) ?_
   refine AllReadyH.cons rfl (fun K hK => ?_) AllReadyH.nil
   rw [if_pos (by rfl)]
   refine wp_update_run _ _ _ 58 rfl _ _ _ rfl rfl rfl hrun5 ?_
   refine hK.out _ _ (hH1.grown hg5 (fun e => Nat.ne_of_lt HBM.out (Option.some.inj e))) (fun hH2 => ?_)
   clear hK
   try simp only [Act.put, qA, qB, qC, qD, qE, qF]
   refine wpAnyH_done (by kernel_rfl) ?_ _
   refine NoPanic.normal ?_
   have hW4 := hWU.out.drew.trans (hb.mono (Below.size hWU.out.drew))
   have hW5 := Lib.hid (grown_in hW4 hg5 (Nat.le_refl _))
   have X := Lib.hid hG5
   clear hG5 hg5 hrun5 hb hH0 hH1 hH2 hz q0 q1 q2 q3 hW4 hWU hGU HG
   go_wp2_with fail
   go_roundw
   case rel => exact ⟨k + 1, _, hlt, by go_num, by rw [HTK.out]; exact X, hW5.out⟩
   case measure => simp [intOf]; omega
  ·obtain rfl : k = ls.length := by omega
   rw [List.take_length] at HG
   have HW := Lib.hid hw
   clear hw
   go_wp2_with fail
   go_ret
   exact ⟨D, rfl, HG.out, HW.out⟩
end Go.Proofs.YtagfndkfjbbpjaaGreatDoor
/- The program's instruct: of equal neighbours one stays. -/
namespace Go.Proofs.YtagfndkfjbbpjaaGreatDoor
open Go.RowKit Go.Sort Go.Lib
set_option linter.unusedSimpArgs false
set_option linter.unusedVariables false
theorem thin_snoc (l : List Ln) (y : Ln) : thin (l ++ [y]) = thin l ++ (if l.getLast? = some y then [] else [y]) := by
 induction l with
 | nil => rfl
 | cons x r ih =>
  cases r with
  | nil =>
   show (if x = y then thin [y] else x :: thin [y]) = [x] ++ (if some x = some y then [] else [y])
   by_cases e : x = y
   ·subst e; rw [if_pos rfl, if_pos rfl]; rfl
   ·rw [if_neg e, if_neg (fun c => e (Option.some.inj c))]; rfl
  | cons z r =>
   have ih : thin (z :: (r ++ [y])) = thin (z :: r) ++ (if (z :: r).getLast? = some y then [] else [y]) := ih
   show (if x = z then thin (z :: (r ++ [y])) else x :: thin (z :: (r ++ [y]))) = (if x = z then thin (z :: r) else x :: thin (z :: r)) ++ (if (x :: z :: r).getLast? = some y then [] else [y])
   rw [ih, List.getLast?_cons_cons]
   split <;> rfl
theorem thin_is (d : Array Ln) : ∀ m, m ≤ d.size → compactUpTo d m = thin (d.toList.take m)
 | 0, _ => rfl
 | m + 1, h => by
  have hx : d.toList[m]? = some d[m]! := by
   rw [getElem!_pos d m (by omega), List.getElem?_eq_getElem (by rw [Array.length_toList]; omega)]; rfl
  rw [compactUpTo_succ, thin_is d m (by omega), take_snoc hx, thin_snoc]
  congr 1
  cases m with
  | zero => rfl
  | succ n =>
   have hy : d.toList[n]? = some d[n]! := by
    rw [getElem!_pos d n (by omega), List.getElem?_eq_getElem (by simp; omega)]; rfl
   have hl : (d.toList.take (n + 1)).getLast? = some d[n]! := by rw [take_snoc hy]; simp
   rw [hl]
   by_cases e : d[n + 1]! = d[n]!
   ·rw [keeps_neg (Nat.succ_pos n) (show d[n + 1]! = d[n + 1 - 1]! from e), if_neg (by decide), if_pos (by rw [e])]
   ·rw [keeps_pos (show d[n + 1]! ≠ d[n + 1 - 1]! from e), if_pos rfl, if_neg fun c => e (Option.some.inj c).symm]
theorem compact_thin (d : List Ln) : compactUpTo d.toArray d.length = thin d := by
 rw [thin_is d.toArray d.length (by simp)]
 simp
def RowW (w : World) (g off : Nat) (d : Array Ln) : Prop := g < w.heap.size ∧ ∀ i, i < d.size → ((w.cell? ⟨g, off + i * 4, none⟩ = some (.string ⟨d[i]!.1.1.toArray⟩) ∧ w.cell? ⟨g, off + i * 4 + 1, none⟩ = some (.string ⟨d[i]!.1.2.toArray⟩) ∧ w.cell? ⟨g, off + i * 4 + 2, none⟩ = some (.string ⟨d[i]!.2.1.toArray⟩) ∧ w.cell? ⟨g, off + i * 4 + 3, none⟩ = some (.string ⟨d[i]!.2.2.toArray⟩)) ∧ w.frozen? ⟨g, off + i * 4, none⟩ = false ∧ w.frozen? ⟨g, off + i * 4 + 1, none⟩ = false ∧ w.frozen? ⟨g, off + i * 4 + 2, none⟩ = false ∧ w.frozen? ⟨g, off + i * 4 + 3, none⟩ = false)
theorem rowW_of {w : World} {g off : Nat} {d : Array Ln} (h : HoldsK encL 4 w g off d) (hg : g < w.heap.size) : RowW w g off d := ⟨hg, fun i hi => by
 have k := fun c (hc : c < 4) => HoldsK.cell h hi hc
 exact ⟨⟨(k 0 (by decide)).1, (k 1 (by decide)).1, (k 2 (by decide)).1, (k 3 (by decide)).1⟩, (k 0 (by decide)).2, (k 1 (by decide)).2, (k 2 (by decide)).2, (k 3 (by decide)).2⟩⟩
theorem RowW.drew {w : World} {g off : Nat} {d : Array Ln} (h : RowW w g off d) : RowW w.drew g off d := h
theorem RowW.lns {w : World} {g off : Nat} {d : Array Ln} (h : RowW w g off d) {l : List Ln} (hl : ∀ (j : Nat) (x : Ln), l[j]? = some x → j < d.size ∧ d[j]! = x) : Lns w (some ⟨g, off, none⟩) l := fun j x hx => by
 obtain ⟨hj, rfl⟩ := hl j x hx
 obtain ⟨⟨c0, c1, c2, c3⟩, _⟩ := h.2 j hj
 exact ⟨g, off, rfl, h.1, c0, c1, c2, c3⟩
theorem below_cells {B g : Nat} {W : World} (hB : B ≤ g) : ∀ (vs : List Value) (o : Nat) (v : World), Below B W v → Below B W (v.setCells g o vs)
 | [], _, _, h => h
 | x :: r, o, v, h => below_cells hB r (o + 1) _ (Below.setCell h hB _)
theorem RowW.put {w : World} {g off : Nat} {d : Array Ln} (h : RowW w g off d) {k : Nat} (hk : k < d.size) (x : Ln) : RowW (w.setCells g (off + k * 4) (encL x)) g off (d.setIfInBounds k x) := by
 refine ⟨Nat.lt_of_lt_of_le h.1 (Below.size (below_cells (W := w) (Nat.le_refl g) (encL x) (off + k * 4) w (Below.refl _ _))), fun i hi => ?_⟩
 rw [Array.size_setIfInBounds] at hi
 obtain ⟨⟨c0, c1, c2, c3⟩, f0, f1, f2, f3⟩ := h.2 i hi
 refine ⟨?_, by rw [World.frozen?_setCells]; exact f0, by rw [World.frozen?_setCells]; exact f1, by rw [World.frozen?_setCells]; exact f2, by rw [World.frozen?_setCells]; exact f3⟩
 by_cases e : i = k
 ·subst e
  rw [getElem!_set_same d i x hk]
  have hs : ∀ j, j < (encL x).length → (w.cell? ⟨g, off + i * 4 + j, none⟩).isSome = true := fun j hj => by
   have hj : j < 4 := hj
   match j, hj with
   | 0, _ => rw [Nat.add_zero, c0]; rfl
   | 1, _ => rw [c1]; rfl
   | 2, _ => rw [c2]; rfl
   | 3, _ => rw [c3]; rfl
  have k := World.cell?_setCells_in g (encL x) (off + i * 4) w hs
  exact ⟨k 0 (show 0 < 4 by decide), k 1 (show 1 < 4 by decide), k 2 (show 2 < 4 by decide), k 3 (show 3 < 4 by decide)⟩
 ·rw [getElem!_set_other d k i x (fun c => e c)]
  have k := fun c (hc : c < 4) => World.cell?_setCells_out g (encL x) (off + k * 4) w ⟨g, off + i * 4 + c, none⟩ (fun _ _ => by
   show off + i * 4 + c < off + k * 4 ∨ off + k * 4 + 4 ≤ off + i * 4 + c
   omega)
  exact ⟨(k 0 (by decide)).trans c0, (k 1 (by decide)).trans c1, (k 2 (by decide)).trans c2, (k 3 (by decide)).trans c3⟩
theorem RowW.clear {w : World} {g off : Nat} {d : Array Ln} (h : RowW w g off d) {k : Nat} (vs : List Value) {l : List Ln} (hl : ∀ (j : Nat) (x : Ln), l[j]? = some x → j < k ∧ j < d.size ∧ d[j]! = x) : Lns (w.setCells g (off + k * 4) vs) (some ⟨g, off, none⟩) l := fun j x hx => by
 obtain ⟨hk, hj, rfl⟩ := hl j x hx
 obtain ⟨⟨c0, c1, c2, c3⟩, _⟩ := h.2 j hj
 have q := fun c (hc : c < 4) => World.cell?_setCells_out g vs (off + k * 4) w ⟨g, off + j * 4 + c, none⟩ (fun _ _ => by
  show off + j * 4 + c < off + k * 4 ∨ off + k * 4 + vs.length ≤ off + j * 4 + c
  omega)
 exact ⟨g, off, rfl, Nat.lt_of_lt_of_le h.1 (Below.size (below_cells (W := w) (Nat.le_refl g) vs (off + k * 4) w (Below.refl _ _))), (q 0 (by decide)).trans c0, (q 1 (by decide)).trans c1, (q 2 (by decide)).trans c2, (q 3 (by decide)).trans c3⟩
theorem zeroL (w : World) : (zeroValue 46).run Tryz.prog w = .ok (.agg #[.string ⟨#[]⟩, .string ⟨#[]⟩, .string ⟨#[]⟩, .string ⟨#[]⟩]) w := by kernel_rfl
theorem clear_lines (w : World) (ty : TypeId) (b o n c : Nat) (hn : 0 < n) (hc : ∀ j, j < n * 4 → (w.cell? ⟨b, o + j, none⟩).isSome = true) (hf : ∀ j, j < n * 4 → w.frozen? ⟨b, o + j, none⟩ = false) :
  ∃ vs, (Builtin.clear_ #[23] ty #[.slice (some ⟨b, o, none⟩) n c]).run Tryz.prog w = .ok (.tuple #[]) (w.setCells b o vs) := by
 have hlen : (Builtin.zeroCells (Value.agg #[.string ⟨#[]⟩, .string ⟨#[]⟩, .string ⟨#[]⟩, .string ⟨#[]⟩]).cells n).toList.length = n * 4 := by
  simp [Builtin.zeroCells, Value.cells]
 have hone : ∀ v ∈ (Builtin.zeroCells (Value.agg #[.string ⟨#[]⟩, .string ⟨#[]⟩, .string ⟨#[]⟩, .string ⟨#[]⟩]).cells n).toList, v.oneCell' = true := fun v hv => by
  obtain ⟨i, hi, e⟩ := List.getElem_of_mem hv
  have e2 : v = .string ⟨#[]⟩ := by
   rw [← e]
   simp [Builtin.zeroCells, Value.cells]
   have : i % 4 = 0 ∨ i % 4 = 1 ∨ i % 4 = 2 ∨ i % 4 = 3 := by omega
   rcases this with c | c | c | c <;> simp [c]
  rw [e2]; rfl
 have hst := run_storeCells_cells (P := Tryz.prog) b o (Builtin.zeroCells (Value.agg #[.string ⟨#[]⟩, .string ⟨#[]⟩, .string ⟨#[]⟩, .string ⟨#[]⟩]).cells n).toList 0 w (by rw [hlen]; simpa using hc) (by rw [hlen]; simpa using hf) hone
 simp only [Nat.add_zero] at hst
 refine ⟨(Builtin.zeroCells (Value.agg #[.string ⟨#[]⟩, .string ⟨#[]⟩, .string ⟨#[]⟩, .string ⟨#[]⟩]).cells n).toList, ?_⟩
 obtain ⟨m, rfl⟩ : ∃ m, n = m + 1 := ⟨n - 1, by omega⟩
 simp [Builtin.clear_, run_underlying Tryz.underlying23, zeroL, hst]
theorem str_eq (a b : List UInt8) (d : Nat) (w : World) : (Op.equalIn (d + 1) 9 (.string ⟨a.toArray⟩) (.string ⟨b.toArray⟩)).run Tryz.prog w = .ok (decide (a = b)) w := by
 rw [run_equalIn_string w d _ _ _ Tryz.underlying9, ByteArray.toList_eq, ByteArray.toList_eq]
 congr 1
 rw [Bool.eq_iff_iff, beq_iff_eq, decide_eq_true_iff]
set_option maxRecDepth 100000 in
theorem rat_eq (a b c e : List UInt8) (d : Nat) (w : World) : (Op.equalIn (d + 2) 35 (.agg #[.string ⟨a.toArray⟩, .string ⟨b.toArray⟩]) (.agg #[.string ⟨c.toArray⟩, .string ⟨e.toArray⟩])).run Tryz.prog w = .ok (decide (a = c) && decide (b = e)) w := by
 have u1 : Tryz.prog.underlying 35 = some (.struct (Tryz.prog.fieldsOf 35)) := by kernel_rfl
 have p1 : Tryz.prog.stoodInHeld 35 = false := by kernel_rfl
 rw [show d + 2 = (d + 1) + 1 from rfl, run_equalIn_agg w (d + 1) _ _ _ u1 p1]
 simp [go_sem, Tryz.underlying35, str_eq]
 by_cases h1 : a = c <;> by_cases h2 : b = e <;> simp [h1, h2]
set_option maxRecDepth 100000 in
theorem line_eq (a s n d a' s' n' d' : List UInt8) (w : World) : (Op.equalIn 10000 46 (.agg #[.string ⟨a.toArray⟩, .string ⟨s.toArray⟩, .string ⟨n.toArray⟩, .string ⟨d.toArray⟩]) (.agg #[.string ⟨a'.toArray⟩, .string ⟨s'.toArray⟩, .string ⟨n'.toArray⟩, .string ⟨d'.toArray⟩])).run Tryz.prog w = .ok (decide (a = a') && (decide (s = s') && (decide (n = n') && decide (d = d')))) w := by
 have u1 : Tryz.prog.underlying 46 = some (.struct (Tryz.prog.fieldsOf 46)) := by kernel_rfl
 have p1 : Tryz.prog.stoodInHeld 46 = false := by kernel_rfl
 have hr := fun w => rat_eq n d n' d' 9997 w
 rw [show (10000 : Nat) = (9998 + 1) + 1 from rfl, run_equalIn_agg w (9998 + 1) _ _ _ u1 p1]
 simp [go_sem, Tryz.underlying46, str_eq, hr]
 by_cases h1 : a = a' <;> by_cases h2 : s = s' <;> by_cases h3 : n = n' <;> by_cases h4 : d = d' <;> simp [h1, h2, h3, h4]
theorem eqFl (x y : Ln) (w : World) : (Op.equalIn 10000 46 (.agg #[.string ⟨x.1.1.toArray⟩, .string ⟨x.1.2.toArray⟩, .string ⟨x.2.1.toArray⟩, .string ⟨x.2.2.toArray⟩]) (.agg #[.string ⟨y.1.1.toArray⟩, .string ⟨y.1.2.toArray⟩, .string ⟨y.2.1.toArray⟩, .string ⟨y.2.2.toArray⟩])).run Tryz.prog w = .ok (decide (x = y)) w := by
 obtain ⟨⟨a, s⟩, ⟨n, d⟩⟩ := x
 obtain ⟨⟨a', s'⟩, ⟨n', d'⟩⟩ := y
 rw [line_eq]
 congr 1
 rw [Bool.eq_iff_iff]
 simp [and_assoc]
theorem eql_line (x y : Ln) (w : World) : (binOp .eql 46 (.agg #[.string ⟨x.1.1.toArray⟩, .string ⟨x.1.2.toArray⟩, .string ⟨x.2.1.toArray⟩, .string ⟨x.2.2.toArray⟩]) (.agg #[.string ⟨y.1.1.toArray⟩, .string ⟨y.1.2.toArray⟩, .string ⟨y.2.1.toArray⟩, .string ⟨y.2.2.toArray⟩])).run Tryz.prog w = .ok (.bool (decide (x = y))) w := by
 rw [run_eql_struct, eqFl]; rfl
theorem neq_line (x y : Ln) (w : World) : (binOp .neq 46 (.agg #[.string ⟨x.1.1.toArray⟩, .string ⟨x.1.2.toArray⟩, .string ⟨x.2.1.toArray⟩, .string ⟨x.2.2.toArray⟩]) (.agg #[.string ⟨y.1.1.toArray⟩, .string ⟨y.1.2.toArray⟩, .string ⟨y.2.1.toArray⟩, .string ⟨y.2.2.toArray⟩])).run Tryz.prog w = .ok (.bool (!decide (x = y))) w := by
 rw [run_neq_struct, eqFl]; rfl
set_option maxRecDepth 1000000 in
set_option maxHeartbeats 4000000 in
theorem pcompact_any {B : Nat} (g off cap : Nat) (d : Array Ln) (w : World) (hB : B ≤ g) (hH : RowW w g off d) (hl : d.size ≤ 1000) (hc : d.size ≤ cap) :
  Calls Tryz.prog 90 #[.slice (some ⟨g, off, none⟩) d.size cap] w fun e w' => (∃ c, e = .returned (.slice (some ⟨g, off, none⟩) (compactUpTo d d.size).length c) ∧ (compactUpTo d d.size).length ≤ c ∧ Lns w' (some ⟨g, off, none⟩) (compactUpTo d d.size)) ∧ Below B w w' := by
 have hsame : (∀ j, j < d.size → keeps d j = true) → compactUpTo d d.size = d.toList := fun h => by rw [compactUpTo_all d _ h, range_map_get]
 have hlist : ∀ (j : Nat) (x : Ln), d.toList[j]? = some x → j < d.size ∧ d[j]! = x := fun j x hx => by
  obtain ⟨h1, h2⟩ := List.getElem?_eq_some_iff.1 hx
  have h1' : j < d.size := by simpa using h1
  exact ⟨h1', by rw [getElem!_pos d j h1']; rw [← h2]; rfl⟩
 have HSM := Lib.hid hsame; have HLS := Lib.hid hlist; have HBB := Lib.hid hB
 clear hsame hlist hB
 by_cases h2 : d.size < 2
 ·have HH := Lib.hid hH
  clear hH
  go_enter Tryz.func90, Tryz.ntmps90
  go_wp2_with fail
  go_ret
  have e1 := HSM.out (fun j hj => keeps_lt_one d j (by omega))
  exact ⟨⟨cap, by rw [e1]; simp, by rw [e1]; simpa using hc, by rw [e1]; exact HH.out.lns HLS.out⟩, Below.refl _ _⟩
 ·go_enter Tryz.func90, Tryz.ntmps90
  go_wp2_with fail
  have HH0 := Lib.hid hH
  clear hH
  go_loopw [3] (fun s3 wr => ∃ k : Nat, 1 ≤ k ∧ k ≤ d.size ∧ s3 = .int .i64 k ∧ Hid (∀ j, j < k → keeps d j = true) ∧ RowW wr g off d ∧ Below B w wr) (fun s3 _ => d.size - (intOf s3).toNat)
  case atStart => exact ⟨1, Nat.le_refl _, by omega, rfl, Lib.hid (keeps_lt_one d), HH0.out, Below.refl _ _⟩
  case round =>
   obtain ⟨k, hk1, hk, rfl, HA, hR, hw⟩ := hrel
   have HR := Lib.hid hR; have HW := Lib.hid hw
   clear hR hw HH0
   by_cases hlt : k < d.size
   ·obtain ⟨⟨c0, c1, c2, c3⟩, f0, f1, f2, f3⟩ := HR.out.2 k hlt
    obtain ⟨⟨p0, p1, p2, p3⟩, _⟩ := HR.out.2 (k - 1) (by omega)
    obtain ⟨x, hx⟩ : ∃ x, d[k]! = x := ⟨_, rfl⟩
    obtain ⟨y, hy⟩ : ∃ y, d[k - 1]! = y := ⟨_, rfl⟩
    have HX := Lib.hid hx; have HY := Lib.hid hy
    rw [hx] at c0 c1 c2 c3
    rw [hy] at p0 p1 p2 p3
    clear hx hy
    have heq := fun w => eql_line x y w
    have hk0 : (0 : Int) ≤ (k : Int) - 1 := by omega
    have hk01 : (1 : Int) ≤ (k : Int) := by omega
    have hkl : (k : Int) - 1 < (d.size : Int) := by omega
    have hki : (k : Int) < (d.size : Int) := by omega
    have hkm : IntKind.i64.wrap ((k : Int) - 1) = (k : Int) - 1 := IntWalk.i64_in _ (by omega)
    have hkt : ((k : Int) - 1).toNat = k - 1 := by omega
    have HG := Lib.hid HR.out.1
    replace c0 := fun v (h : Below wr.heap.size wr v) => (h.cell (p := ⟨g, off + k * 4, none⟩) HG.out).trans c0
    replace c1 := fun v (h : Below wr.heap.size wr v) => (h.cell (p := ⟨g, off + k * 4 + 1, none⟩) HG.out).trans c1
    replace c2 := fun v (h : Below wr.heap.size wr v) => (h.cell (p := ⟨g, off + k * 4 + 2, none⟩) HG.out).trans c2
    replace c3 := fun v (h : Below wr.heap.size wr v) => (h.cell (p := ⟨g, off + k * 4 + 3, none⟩) HG.out).trans c3
    replace p0 := fun v (h : Below wr.heap.size wr v) => (h.cell (p := ⟨g, off + (k - 1) * 4, none⟩) HG.out).trans p0
    replace p1 := fun v (h : Below wr.heap.size wr v) => (h.cell (p := ⟨g, off + (k - 1) * 4 + 1, none⟩) HG.out).trans p1
    replace p2 := fun v (h : Below wr.heap.size wr v) => (h.cell (p := ⟨g, off + (k - 1) * 4 + 2, none⟩) HG.out).trans p2
    replace p3 := fun v (h : Below wr.heap.size wr v) => (h.cell (p := ⟨g, off + (k - 1) * 4 + 3, none⟩) HG.out).trans p3
    by_cases hdup : x = y
    ·rw [decide_eq_true hdup] at heq
     have HD : Hid (keeps d k = false) := Lib.hid (keeps_neg (by omega) (by rw [HX.out, HY.out]; exact hdup))
     go_wp2_with fail
     refine wp_region_noPanic ?_
     refine wp_region_held_drew (S := fun w' => Below wr.heap.size wr w') (by kernel_rfl) ((Below.refl _ _).drew) (fun hH0 => ?_)
     refine sch_in [0, 1, 2, 3, 4, 5, 6, 7, 8, 9] ?_
     iterate 10 (refine sch_yes (v := ?_) rfl (by kernel_rfl) (by rfl) ?_ (by assumption) ?_; rotate_left 1; (· (intro w hSw; (try dsimp only at hSw); go_simp <;> (with_reducible rfl))); try simp only [Act.put, qA, qB, qC, qD, qE, qF])
     refine sch_out ?_
     refine wpAnyH_done (by kernel_rfl) ?_ _
     refine NoPanic.normal ?_
     have HR2 := Lib.hid HR.out.drew
     have HW2 := Lib.hid HW.out.drew
     clear c0 c1 c2 c3 p0 p1 p2 p3 heq hH0 f0 f1 f2 f3
     have hcast : ((d.size - k : Nat) : Int) = (d.size : Int) - (k : Int) := by omega
     go_wp2_with fail
     go_loopw [3, 5] (fun s3 s5 wr => ∃ (kk k2 : Nat) (dk : Array Ln), s3 = .int .i64 kk ∧ s5 = .int .i64 k2 ∧ 1 ≤ k2 ∧ k + k2 ≤ d.size ∧ Hid (CompInv d (k + k2) kk dk) ∧ RowW wr g off dk ∧ Below B w wr) (fun _ s5 _ => d.size - k - (intOf s5).toNat)
     case atStart => exact ⟨k, 1, d, rfl, rfl, Nat.le_refl _, by omega, Lib.hid (CompInv.start HA.out HD.out), HR2.out, HW2.out⟩
     case round =>
      clear HR2 HW2 HR HW HX HY HD
      obtain ⟨kk, k2, dk, rfl, rfl, h1, hle, HI, hR, hw⟩ := hrel
      have HR := Lib.hid hR; have HW := Lib.hid hw
      clear hR hw
      have hkk := HI.out.lt
      have hds := HI.out.size
      by_cases hlt2 : k + k2 < d.size
      ·obtain ⟨⟨c0, c1, c2, c3⟩, _⟩ := HR.out.2 (k + k2) (by omega)
       obtain ⟨⟨p0, p1, p2, p3⟩, _⟩ := HR.out.2 (k + k2 - 1) (by omega)
       obtain ⟨⟨o0, o1, o2, o3⟩, f0, f1, f2, f3⟩ := HR.out.2 kk (by omega)
       rw [HI.out.high (k + k2) (by omega), show off + (k + k2) * 4 = off + k * 4 + k2 * 4 by omega] at c0 c1 c2 c3
       rw [HI.out.high (k + k2 - 1) (by omega), show off + (k + k2 - 1) * 4 = off + k * 4 + (k2 - 1) * 4 by omega] at p0 p1 p2 p3
       obtain ⟨x, hx⟩ : ∃ x, d[k + k2]! = x := ⟨_, rfl⟩
       obtain ⟨y, hy⟩ : ∃ y, d[k + k2 - 1]! = y := ⟨_, rfl⟩
       have HX := Lib.hid hx; have HY := Lib.hid hy
       rw [hx] at c0 c1 c2 c3
       rw [hy] at p0 p1 p2 p3
       clear hx hy
       have m0 : wr.drew.cell? ⟨g, off + k * 4 + k2 * 4, none⟩ = _ := c0
       have m1 : wr.drew.cell? ⟨g, off + k * 4 + k2 * 4 + 1, none⟩ = _ := c1
       have m2 : wr.drew.cell? ⟨g, off + k * 4 + k2 * 4 + 2, none⟩ = _ := c2
       have m3 : wr.drew.cell? ⟨g, off + k * 4 + k2 * 4 + 3, none⟩ = _ := c3
       have hne := fun w => neq_line x y w
       have hj0 : (0 : Int) ≤ (k2 : Int) - 1 := by omega
       have hj01 : (1 : Int) ≤ (k2 : Int) := by omega
       have hjl : (k2 : Int) - 1 < (d.size : Int) - (k : Int) := by omega
       have hji : (k2 : Int) < (d.size : Int) - (k : Int) := by omega
       have hjm : IntKind.i64.wrap ((k2 : Int) - 1) = (k2 : Int) - 1 := IntWalk.i64_in _ (by omega)
       have hjt : ((k2 : Int) - 1).toNat = k2 - 1 := by omega
       have hkki : (kk : Int) < (d.size : Int) := by omega
       have HG := Lib.hid HR.out.1
       replace c0 := fun v (h : Below wr.heap.size wr v) => (h.cell (p := ⟨g, off + k * 4 + k2 * 4, none⟩) HG.out).trans c0
       replace c1 := fun v (h : Below wr.heap.size wr v) => (h.cell (p := ⟨g, off + k * 4 + k2 * 4 + 1, none⟩) HG.out).trans c1
       replace c2 := fun v (h : Below wr.heap.size wr v) => (h.cell (p := ⟨g, off + k * 4 + k2 * 4 + 2, none⟩) HG.out).trans c2
       replace c3 := fun v (h : Below wr.heap.size wr v) => (h.cell (p := ⟨g, off + k * 4 + k2 * 4 + 3, none⟩) HG.out).trans c3
       replace p0 := fun v (h : Below wr.heap.size wr v) => (h.cell (p := ⟨g, off + k * 4 + (k2 - 1) * 4, none⟩) HG.out).trans p0
       replace p1 := fun v (h : Below wr.heap.size wr v) => (h.cell (p := ⟨g, off + k * 4 + (k2 - 1) * 4 + 1, none⟩) HG.out).trans p1
       replace p2 := fun v (h : Below wr.heap.size wr v) => (h.cell (p := ⟨g, off + k * 4 + (k2 - 1) * 4 + 2, none⟩) HG.out).trans p2
       replace p3 := fun v (h : Below wr.heap.size wr v) => (h.cell (p := ⟨g, off + k * 4 + (k2 - 1) * 4 + 3, none⟩) HG.out).trans p3
       by_cases huv : x = y
       ·rw [decide_eq_true huv] at hne
        go_wp2_with fail
        refine wp_region_noPanic ?_
        refine wp_region_held_drew (S := fun w' => Below wr.heap.size wr w') (by kernel_rfl) ((Below.refl _ _).drew) (fun hH0 => ?_)
        refine sch_in [0, 1, 2, 3, 4, 5, 6, 7, 8, 9] ?_
        iterate 10 (refine sch_yes (v := ?_) rfl (by kernel_rfl) (by rfl) ?_ (by assumption) ?_; rotate_left 1; (· (intro w hSw; (try dsimp only at hSw); go_simp <;> (with_reducible rfl))); try simp only [Act.put, qA, qB, qC, qD, qE, qF])
        refine sch_out ?_
        refine wpAnyH_done (by kernel_rfl) ?_ _
        refine NoPanic.normal ?_
        clear c0 c1 c2 c3 p0 p1 p2 p3 hne hH0 o0 o1 o2 o3 f0 f1 f2 f3 m0 m1 m2 m3
        have HR3 := Lib.hid HR.out.drew
        have HW3 := Lib.hid HW.out.drew
        have HI3 := Lib.hid (HI.out.skip (keeps_neg (by omega) (by rw [HX.out, HY.out]; exact huv)))
        go_wp2_with fail
        go_roundw
        case rel => exact ⟨kk, k2 + 1, dk, rfl, by go_num, by omega, by omega, HI3, HR3.out, HW3.out⟩
        case measure => simp [intOf]; omega
       ·rw [decide_eq_false huv] at hne
        go_wp2_with fail
        refine wp_region_noPanic ?_
        refine wp_region_held_drew (S := fun w' => Below wr.heap.size wr w') (by kernel_rfl) ((Below.refl _ _).drew) (fun hH0 => ?_)
        refine sch_in [0, 1, 2, 3, 4, 5, 6, 7, 8, 9] ?_
        iterate 10 (refine sch_yes (v := ?_) rfl (by kernel_rfl) (by rfl) ?_ (by assumption) ?_; rotate_left 1; (· (intro w hSw; (try dsimp only at hSw); go_simp <;> (with_reducible rfl))); try simp only [Act.put, qA, qB, qC, qD, qE, qF])
        refine sch_out ?_
        refine wpAnyH_done (by kernel_rfl) ?_ _
        refine NoPanic.normal ?_
        clear c0 c1 c2 c3 p0 p1 p2 p3 hne hH0
        have HR3 := Lib.hid (HR.out.drew.put (k := kk) (by omega) x)
        have HW3 := Lib.hid (below_cells HBB.out (encL x) (off + kk * 4) _ HW.out.drew)
        have HI3 := Lib.hid (HI.out.keep hlt2 (keeps_pos (by rw [HX.out, HY.out]; exact huv)))
        rw [HX.out] at HI3
        go_wp2_with fail
        go_roundw
        case rel => exact ⟨kk + 1, k2 + 1, dk.setIfInBounds kk x, by go_num, by go_num, by omega, by omega, HI3, HR3.out, HW3.out⟩
        case measure => simp [intOf]; omega
      ·have hend : k + k2 = d.size := by omega
       have hr := HR.out
       obtain ⟨vs, hcl⟩ := clear_lines wr 0 g (off + kk * 4) (d.size - kk) (cap - kk) (by omega) (fun j hj => by
        obtain ⟨⟨q0, q1, q2, q3⟩, _⟩ := hr.2 (kk + j / 4) (by omega)
        have : j % 4 = 0 ∨ j % 4 = 1 ∨ j % 4 = 2 ∨ j % 4 = 3 := by omega
        rcases this with e | e | e | e
        ·rw [show off + kk * 4 + j = off + (kk + j / 4) * 4 by omega, q0]; rfl
        ·rw [show off + kk * 4 + j = off + (kk + j / 4) * 4 + 1 by omega, q1]; rfl
        ·rw [show off + kk * 4 + j = off + (kk + j / 4) * 4 + 2 by omega, q2]; rfl
        ·rw [show off + kk * 4 + j = off + (kk + j / 4) * 4 + 3 by omega, q3]; rfl) (fun j hj => by
        obtain ⟨_, q0, q1, q2, q3⟩ := hr.2 (kk + j / 4) (by omega)
        have : j % 4 = 0 ∨ j % 4 = 1 ∨ j % 4 = 2 ∨ j % 4 = 3 := by omega
        rcases this with e | e | e | e
        ·rw [show off + kk * 4 + j = off + (kk + j / 4) * 4 by omega, q0]
        ·rw [show off + kk * 4 + j = off + (kk + j / 4) * 4 + 1 by omega, q1]
        ·rw [show off + kk * 4 + j = off + (kk + j / 4) * 4 + 2 by omega, q2]
        ·rw [show off + kk * 4 + j = off + (kk + j / 4) * 4 + 3 by omega, q3])
       have hI := HI.out
       rw [hend] at hI
       have HL := Lib.hid (hr.clear (k := kk) vs (l := compactUpTo d d.size) (fun j x hx => by
        have hj : j < kk := by rw [← hI.len]; exact (List.getElem?_eq_some_iff.1 hx).1
        have h2 := hI.low j hj
        rw [hx] at h2
        exact ⟨hj, by omega, (Option.some.inj h2).symm⟩))
       have HW3 := Lib.hid (below_cells HBB.out vs (off + kk * 4) _ HW.out)
       have HLen := Lib.hid hI.len
       clear hr hI
       have hk3 : (kk : Int) ≤ (d.size : Int) := by omega
       go_wp2_with fail
       go_ret
       exact ⟨⟨cap, by rw [HLen.out]; rfl, by rw [HLen.out]; omega, HL.out⟩, HW3.out⟩
    ·rw [decide_eq_false hdup] at heq
     go_wp2_with fail
     refine wp_region_noPanic ?_
     refine wp_region_held_drew (S := fun w' => Below wr.heap.size wr w') (by kernel_rfl) ((Below.refl _ _).drew) (fun hH0 => ?_)
     refine sch_in [0, 1, 2, 3, 4, 5, 6, 7, 8, 9] ?_
     iterate 10 (refine sch_yes (v := ?_) rfl (by kernel_rfl) (by rfl) ?_ (by assumption) ?_; rotate_left 1; (· (intro w hSw; (try dsimp only at hSw); go_simp <;> (with_reducible rfl))); try simp only [Act.put, qA, qB, qC, qD, qE, qF])
     refine sch_out ?_
     refine wpAnyH_done (by kernel_rfl) ?_ _
     refine NoPanic.normal ?_
     have hR2 := HR.out.drew
     have hW2 := HW.out.drew
     have HK2 : Hid (∀ j, j < k + 1 → keeps d j = true) := Lib.hid fun j hj => by
      by_cases e : j = k
      ·subst e; exact keeps_pos (by rw [HX.out, HY.out]; exact hdup)
      ·exact HA.out j (by omega)
     clear c0 c1 c2 c3 p0 p1 p2 p3 heq
     go_wp2_with fail
     go_roundw
     case rel => exact ⟨k + 1, by omega, hlt, by go_num, HK2, hR2, hW2⟩
     case measure => simp [intOf]; omega
   ·obtain rfl : k = d.size := by omega
    go_wp2_with fail
    go_ret
    have e1 := HSM.out HA.out
    exact ⟨⟨cap, by rw [e1]; simp, by rw [e1]; simpa using hc, by rw [e1]; exact HR.out.lns HLS.out⟩, HW.out⟩
end Go.Proofs.YtagfndkfjbbpjaaGreatDoor
/- The program's instruct: the book of some places, and of all. -/
namespace Go.Proofs.YtagfndkfjbbpjaaGreatDoor
open Go.RowKit Go.Maps Go.Lib
set_option linter.unusedSimpArgs false
set_option linter.unusedVariables false
set_option maxRecDepth 100000 in
set_option maxHeartbeats 4000000 in
theorem pcompact_none (p : Option Addr) (c : Nat) (w : World) : Calls Tryz.prog 90 #[.slice p 0 c] w fun e w' => e = .returned (.slice p 0 c) ∧ Below w.heap.size w w' := by
 go_enter Tryz.func90, Tryz.ntmps90
 go_wp2_with fail
 go_ret
 exact ⟨rfl, Below.refl _ _⟩
section
variable {ops : Array Oper} {rest : List Oper} {o : Oper} {a : Act} {Q : Exit → Act → World → Prop} {w : World} {bm n : Nat} {H : Key → Option Key} {D : DV}
theorem wpList_hold_some (hg : o.guard = none) (m x : Operand) (hop : o.op = Op.lookup 58 m x true) (hm : a.eval m = .map (some bm)) (h : HoldM w bm n H D) {k q : Key} (hk : LenK k) (hx : a.eval x = spotV k) (hh : H k = some q)
  (hK : wpList Tryz.prog ops Q rest (a.put o.dst (.tuple #[.agg #[.string ⟨q.1.toArray⟩, .string ⟨q.2.toArray⟩], .bool true])) w) : wpList Tryz.prog ops Q (o :: rest) a w :=
 wpList_hold_look hg m x hop hm h hk hx (by rw [hh]; exact hK)
theorem wpList_hold_none (hg : o.guard = none) (m x : Operand) (hop : o.op = Op.lookup 58 m x true) (hm : a.eval m = .map (some bm)) (h : HoldM w bm n H D) {k : Key} (hk : LenK k) (hx : a.eval x = spotV k) (hh : H k = none)
  (hK : wpList Tryz.prog ops Q rest (a.put o.dst (.tuple #[.agg #[.string ⟨#[]⟩, .string ⟨#[]⟩], .bool false])) w) : wpList Tryz.prog ops Q (o :: rest) a w :=
 wpList_hold_look hg m x hop hm h hk hx (by rw [hh]; exact hK)
theorem wpList_append_one (hgd : o.guard = none) (s x : Operand) (t : TypeId) (ho : o.op = .call { callee := .builtin .append, args := #[s, x], argTypes := #[t, t] })
  (base : Nat) (ht : Tryz.prog.underlying t = some (.slice 46)) (v : Value) (fs : List Ln) (hs : a.eval s = v) (hown : Own base w v fs) (ad : Addr) (l : Ln) (c : Nat) (hx : a.eval x = .slice (some ad) 1 c) (hl : Lns w (some ad) [l])
  (hf : fs.length ≤ 3000000) (hbase : base ≤ w.heap.size) (h : ∀ v' w', Own base w' v' (fs ++ [l]) → w.grownBy w' v.ownBlock → (v'.ownBlock = v.ownBlock ∨ v'.ownBlock = some w.heap.size) → wpList Tryz.prog ops Q rest (a.put o.dst v') w') : wpList Tryz.prog ops Q (o :: rest) a w :=
 wpList_plain hgd fun _ hK => wp_append_one s x t ho base ht v fs hs hown ad l c hx hl hf hbase fun v' w' h1 h2 h3 => hK _ _ (h v' w' h1 h2 h3)
end
theorem own_nil {B : Nat} (w : World) : Own B w (.slice none 0 0) [] := World.ownsRow_nil _ _ _ _
theorem got_some {b ms : List Ln} {k : Nat} {x : Ln} {q : Key} (hx : ms[k]? = some x) (hh : numH b x.1 = some q) : gotL b (ms.take (k + 1)) = gotL b (ms.take k) ++ [(x.1, q)] := by rw [take_snoc hx, got_snoc, hh]
theorem got_none {b ms : List Ln} {k : Nat} {x : Ln} (hx : ms[k]? = some x) (hh : numH b x.1 = none) : gotL b (ms.take (k + 1)) = gotL b (ms.take k) := by rw [take_snoc hx, got_snoc, hh]; exact List.append_nil _
set_option maxRecDepth 100000 in
set_option maxHeartbeats 4000000 in
theorem around_any (bm n : Nat) (q : Option Addr) (c : Nat) (ms b : List Ln) (D : DV) (w : World) (hgb : Good b) (hl : ms.length ≤ 200) (hz : ∀ x ∈ ms, LenK x.1) (hM : HoldM w bm n (numH b) D) (h : Lns w q ms) :
  Calls Tryz.prog 61 #[.map (some bm), .slice q ms.length c] w fun e w' => (∃ p cc, e = .returned (.slice p (pick b ms).length cc) ∧ (pick b ms).length ≤ cc ∧ Lns w' p (pick b ms)) ∧ Below w.heap.size w w' := by
 have HS := Lib.hid h; have HZ := Lib.hid hz; have HM := Lib.hid hM; have HGB := Lib.hid hgb
 clear h hz hM hgb
 go_enter Tryz.func61, Tryz.ntmps61
 go_wp2_with fail
 go_loopw [5, 12] (fun out i wr => ∃ k : Nat, k ≤ ms.length ∧ i = .int .i64 k ∧ Hid (Own w.heap.size wr out (gotL b (ms.take k))) ∧ Below w.heap.size w wr) (fun _ i _ => ms.length - (intOf i).toNat)
 case atStart => exact ⟨0, Nat.zero_le _, rfl, Lib.hid (own_nil w), Below.refl _ _⟩
 case round =>
  obtain ⟨k, hk, rfl, HO, hw⟩ := hrel
  by_cases hlt : k < ms.length
  ·obtain ⟨⟨⟨a, s⟩, ⟨n, d⟩⟩, hx⟩ : ∃ x, ms[k]? = some x := ⟨_, List.getElem?_eq_getElem hlt⟩
   obtain ⟨b', o', rfl, k0, k1, k2, k3⟩ := (HS.out.below hw).rule hx
   have HLK : Hid (LenK (a, s)) := Lib.hid (HZ.out _ (List.mem_of_getElem? hx))
   have HMW := Lib.hid (HM.out.below hw)
   have HLEN : Hid ((gotL b (ms.take k)).length ≤ 3000000) := Lib.hid (Nat.le_trans (got_len _ _) (by rw [List.length_take]; omega))
   have CSP := Lib.hid (spot_any a s n d)
   have HX := Lib.hid hx
   have HW := Lib.hid hw
   have bw := Below.refl wr.heap.size wr
   clear hx hw
   go_wp2_with fail
   obtain ⟨U, hU, bU, s1, r0, r1, r2, r3⟩ := lay4 (Below.refl wr.heap.size wr) (.string ⟨a.toArray⟩) (.string ⟨s.toArray⟩) (.string ⟨n.toArray⟩) (.string ⟨d.toArray⟩) 46
   rw [hU]; clear hU k0 k1 k2 k3 bw
   have b0 := Below.refl U.heap.size U
   go_wp2_with fail
   refine (CSP.out _).mono ?_
   rintro e w1 ⟨rfl, b1⟩
   have HM1 := Lib.hid ((HMW.out.below bU).below b1)
   have HO1 := Lib.hid (own_below (own_below HO.out bU) b1)
   have HW1 := Lib.hid (Below.more (Below.more HW.out bU) b1)
   have q0 := fun v (h : Below w1.heap.size w1 v) => r0 v (Below.more b1 h)
   have q1 := fun v (h : Below w1.heap.size w1 v) => r1 v (Below.more b1 h)
   clear r0 r1 r2 r3 b0 b1 bU s1 HMW HO HW
   cases hh : numH b (a, s) with
   | none =>
    have HT := Lib.hid (got_none HX.out hh)
    have HH := Lib.hid hh
    clear hh
    go_wp2_with (at_lookup; refine halt ?_)
    show wpList _ _ _ _ _ _
    refine wpList_hold_none rfl _ _ rfl rfl HM1.out HLK.out rfl HH.out ?_
    go_frame
    go_wp2_with fail
    go_roundw
    case rel => exact ⟨k + 1, hlt, by go_num, by rw [HT.out]; exact Lib.hid (own_below HO1.out (Below.step _ (Below.refl _ _))), Below.more HW1.out (Below.step _ (Below.refl _ _))⟩
    case measure => simp [intOf]; omega
   | some qq =>
    have HT := Lib.hid (got_some HX.out hh)
    have HH := Lib.hid hh
    obtain ⟨qn, qd⟩ := qq
    clear hh
    go_wp2_with (at_lookup; refine halt ?_)
    show wpList _ _ _ _ _ _
    refine wpList_hold_some rfl _ _ rfl rfl HM1.out HLK.out rfl HH.out ?_
    go_frame
    go_upto_region 7 with fail
    obtain ⟨V, hV, bV, s2, t0, t1⟩ := box1 w1 (.string ⟨qn.toArray⟩) (.string ⟨qd.toArray⟩) 35
    rw [hV]; clear hV
    have HO2 := Lib.hid (own_below HO1.out bV)
    have HW2 := Lib.hid (Below.more HW1.out bV)
    have p0 := q0 V bV; have p1 := q1 V bV
    have z0 := t0 V (Below.refl _ _); have z1 := t1 V (Below.refl _ _)
    clear q0 q1 t0 t1 bV s2 HO1 HM1 HW1
    go_wp2_with (at_builtin; refine halt ?_)
    show wpList _ _ _ _ _ _
    refine wpList_append_lns rfl _ _ 23 rfl w.heap.size Tryz.underlying23 _ (gotL b (ms.take k)) rfl (World.ownsRow.alloc HO2.out _) (some ⟨V.heap.size, 0, none⟩) [((a, s), (qn, qd))] 1 rfl (lnsOne V a s qn qd 46) HLEN.out (show 1 ≤ 3000000 by decide) (Below.size (Below.alloc HW2.out (Below.size HW2.out) _)) ?_
    intro v' w6 o6 b6
    have HO6 := Lib.hid o6
    have HW6 := Lib.hid ((Below.alloc HW2.out (Below.size HW2.out) _).trans b6)
    clear o6 b6
    go_frame
    go_wp2_with fail
    go_roundw
    case rel => exact ⟨k + 1, hlt, by go_num, by rw [HT.out]; exact HO6, HW6.out⟩
    case measure => simp [intOf]; omega
  ·obtain rfl : k = ms.length := by omega
   rw [List.take_length] at HO
   have HW := Lib.hid hw
   have HLEN : Hid ((gotL b ms).length ≤ 200) := Lib.hid (Nat.le_trans (got_len _ _) hl)
   clear hw
   go_wp2_with fail
   refine (isort_any _ (gotL b ms) _ HO.out (Nat.le_trans HLEN.out (by decide))).mono ?_
   rintro e w2 ⟨rfl, p2, c2, d, rfl, hc2, hp, hso, hL, hR, hb2⟩
   have hpk := got_pick HGB.out hp hso
   have hdl : d.length ≤ 200 := by rw [hp.length_eq]; exact HLEN.out
   have HPK := Lib.hid hpk
   have HB2 := Lib.hid (HW.out.trans hb2)
   rcases hR with rfl | ⟨g, rfl, hBg, hg, hH⟩
   ·clear hc2 hp hso hL hb2 hpk
    go_wp2_with fail
    refine (pcompact_none p2 c2 _).mono ?_
    rintro e w3 ⟨rfl, b3⟩
    have HB3 := Lib.hid (HB2.out.trans (b3.mono (Below.size HB2.out)))
    clear b3
    go_wp2_with fail
    go_ret
    rw [← HPK.out]
    exact ⟨⟨p2, c2, rfl, Nat.zero_le _, Lns.nil _ _⟩, HB3.out⟩
   ·have cc := pcompact_any (B := w.heap.size) g 0 c2 d.toArray w2 hBg (rowW_of hH hg) (by rw [List.size_toArray]; omega) (by rw [List.size_toArray]; exact hc2)
    rw [List.size_toArray, compact_thin, hpk] at cc
    have CC := Lib.hid cc
    clear hc2 hp hso hL hb2 hpk cc hH hg hBg hdl
    go_wp2_with fail
    refine CC.out.mono ?_
    rintro e w3 ⟨⟨c3, rfl, hc3, hL3⟩, b3⟩
    have HL3 := Lib.hid hL3
    have HB3 := Lib.hid (HB2.out.trans b3)
    clear b3 hL3
    go_wp2_with fail
    go_ret
    exact ⟨⟨_, c3, rfl, hc3, HL3.out⟩, HB3.out⟩
structure Coll (b : List Ln) (left : Lit → Bool) (ls : List Ln) : Prop where
 sub : ∀ x ∈ ls, x ∈ b ∧ left (kb x.1) = false
 all : ∀ x ∈ b, left (kb x.1) = true ∨ x ∈ ls
 dis : ls.Pairwise fun x y => x.1 ≠ y.1
theorem good_len {b : List Ln} (h : Good b) : ∀ x ∈ b, LenK x.1 := fun x hx => by
 have := lineOk_len (lineIn_ok (h.1 x hx))
 exact ⟨Nat.le_trans this.1 (by unfold maxLen; omega), Nat.le_trans this.2 (by unfold maxLen; omega)⟩
theorem coll_start {w : World} {bm n : Nat} {b : List Ln} {D : DV} (hg : Good b) (h : HoldM w bm n (numH b) D) : Coll b (Maps.has D) [] :=
 ⟨fun _ hx => (by cases hx), fun x hx => .inl (by rw [h.has _ (good_len hg x hx), (numH_iff hg (k := x.1) (q := x.2)).2 hx]; rfl), List.Pairwise.nil⟩
theorem Coll.step {b : List Ln} {left : Lit → Bool} {ls : List Ln} (h : Coll b left ls) (hg : Good b) {k q : Key} (hh : numH b k = some q) (hl : left (kb k) = true) : Coll b (fun z => left z && !z.sameKey (kb k)) (ls ++ [(k, q)]) := by
 have hm := (numH_iff hg).1 hh
 have hk := good_len hg _ hm
 refine ⟨fun x hx => ?_, fun x hx => ?_, ?_⟩
 ·rcases List.mem_append.1 hx with hx | hx
  ·obtain ⟨h1, h2⟩ := h.sub x hx
   exact ⟨h1, by rw [h2]; rfl⟩
  ·obtain rfl := List.mem_singleton.1 hx
   exact ⟨hm, by show (left (kb k) && !(kb k).sameKey (kb k)) = false; rw [WideAt.sameKey_self (kb_lit k), Bool.not_true, Bool.and_false]⟩
 ·by_cases e : x.1 = k
  ·right
   have : numH b x.1 = some x.2 := (numH_iff hg (k := x.1) (q := x.2)).2 hx
   rw [e, hh] at this
   refine List.mem_append.2 (.inr (List.mem_singleton.2 ?_))
   exact Prod.ext e (Option.some.inj this).symm
  ·rcases h.all x hx with h1 | h1
   ·left
    show (left (kb x.1) && !(kb x.1).sameKey (kb k)) = true
    rw [h1, sameKey_ne fun c => e (kb_inj (good_len hg x hx) hk c)]; rfl
   ·exact .inr (List.mem_append.2 (.inl h1))
 ·refine List.pairwise_append.2 ⟨h.dis, List.pairwise_singleton _ _, fun x hx y hy e => ?_⟩
  obtain rfl := List.mem_singleton.1 hy
  have h2 := (h.sub x hx).2
  rw [show x.1 = k from e, hl] at h2
  cases h2
theorem Coll.done {b : List Ln} {left : Lit → Bool} {ls : List Ln} (h : Coll b left ls) (hl : ∀ kl, left kl = false) : ∀ x, x ∈ ls ↔ x ∈ b := fun x =>
 ⟨fun hx => (h.sub x hx).1, fun hx => (h.all x hx).resolve_left (by rw [hl]; decide)⟩
theorem invS (key : Value) (kl : Lit) (h : keyOf Tryz.prog 77 key = some kl) : ∃ x : Key, key = spotV x := by
 obtain ⟨k, _, e, _⟩ := spot_inv h; exact ⟨k, e⟩
theorem spot_is {x : Key} {kl : Lit} (h : keyOf Tryz.prog 77 (spotV x) = some kl) : LenK x ∧ kl = kb x := by
 obtain ⟨k, hk, e, rfl⟩ := spot_inv h
 obtain rfl := spotV_inj e
 exact ⟨hk, rfl⟩
theorem num_left {w : World} {bm n : Nat} {b : List Ln} {D : DV} (h : HoldM w bm n (numH b) D) {k : Key} {v : Value} (hk : LenK k) (ha : ∀ zd, D.atKey (kb k) zd = .held v) : ∃ q, numH b k = some q ∧ v = ratV q := by
 have hh : Maps.has D (kb k) = true := has_true_of_atKey ha
 rw [h.has k hk] at hh
 cases e : numH b k with
 | none => rw [e] at hh; cases hh
 | some q =>
  have := ha (.held v)
  rw [h.at_ k q hk e] at this
  exact ⟨q, rfl, (DataW.held.inj this).symm⟩
set_option maxRecDepth 100000 in
set_option maxHeartbeats 4000000 in
theorem asBook_any (bm n : Nat) (b : List Ln) (D : DV) (w : World) (hgb : Good b) (hn : n ≤ 1000000) (hM : HoldM w bm n (numH b) D) :
  Calls Tryz.prog 36 #[.map (some bm)] w fun e w' => (∃ p cc, e = .returned (.slice p b.length cc) ∧ b.length ≤ cc ∧ Lns w' p b) ∧ Below w.heap.size w w' := by
 have HM := Lib.hid hM; have HGB := Lib.hid hgb
 have hA := hM.map
 have hBM : bm < w.heap.size := hM.map.lt
 have HCS := Lib.hid (coll_start hgb hM)
 clear hM hgb
 go_enter Tryz.func36, Tryz.ntmps36
 go_wp2_with (at_range; refine halt ?_)
 show wpList _ _ _ _ _ _
 refine wpList_range_own _ rfl _ 58 rfl 77 35 keyedS Tryz.underlying58 tokR bm n D rfl hA ?_
 intro w0 hrg0 hg0 hs0
 go_frame
 obtain ⟨r, hr0⟩ : ∃ r, w.heap.size = r := ⟨_, rfl⟩
 have HRS := Lib.hid hr0
 have HBM : Hid (bm < r) := Lib.hid (by rw [← hr0]; exact hBM)
 have hW0 : Below w.heap.size w w0 := Below.grown (Below.refl _ _) hg0 (Nat.le_refl _) (fun k hk => by cases hk)
 have hsz := hA.size_le
 rw [hr0] at hrg0 hs0 ⊢
 clear hBM
 have HR1 : Hid (r + 1 ≤ w0.heap.size) := Lib.hid hrg0.lt
 go_wp2_with fail
 go_loopw [3] (fun out wr => ∃ (left : Lit → Bool) (cnt : Nat) (ls : List Ln), ls.length + cnt ≤ n ∧ wr.ranges Tryz.prog 77 tokR bm r n D left cnt ∧ Hid (Own (r + 1) wr out ls) ∧ Hid (Coll b left ls) ∧ Hid (Below r w wr)) (fun _ wr => wr.rangeLeft bm r)
 case atStart => exact ⟨_, _, [], by simpa using hsz, hrg0, Lib.hid (own_nil w0), HCS, Lib.hid (by rw [← hr0]; exact hW0)⟩
 case round =>
  clear hW0 hrg0 hg0 hs0 hA HCS hsz
  obtain ⟨left, cnt, ls, hmc, hrg, HO, HC, HW⟩ := hrel
  go_wp2_with (at_next; refine halt ?_)
  show wpList _ _ _ _ _ _
  refine wpList_next_ranges _ rfl _ rfl 77 keyedS tokR spotV id invS invV bm r n D left cnt rfl hrg ?_ ?_
  ·intro hc0 hl0
   have HD := Lib.hid (HC.out.done hl0)
   have HDI := Lib.hid HC.out.dis
   have HLL : Hid (ls.length ≤ 1000000) := Lib.hid (by omega)
   clear hrg hl0
   go_wp2_with fail
   refine (isort_any _ ls _ HO.out HLL.out).mono ?_
   rintro e w2 ⟨rfl, p2, c2, d, rfl, hc2, hp, hso, hL, hR, hb2⟩
   have e := all_got HGB.out HD.out HDI.out hp hso
   subst e
   have HL := Lib.hid hL
   have HW2 := Lib.hid (HW.out.trans (hb2.mono (Nat.le_succ r)))
   clear hp hso hL hR hb2
   go_wp2_with fail
   go_ret
   exact ⟨⟨p2, c2, rfl, hc2, HL.out⟩, by rw [HRS.out]; exact HW2.out⟩
  ·intro x c kl y w2 cnt2 hkey hlk hv hat hrg2 hlt2 hg2 hs2 hen
   obtain ⟨hlx, rfl⟩ := spot_is hkey
   obtain ⟨q, hq, rfl⟩ := num_left HM.out hlx (fun zd => by rw [hat zd]; exact (congrArg Prod.fst (Option.some.inj hv)).symm)
   have HC2 := Lib.hid (HC.out.step HGB.out hq hlk)
   have HL2 : Hid (ls.length ≤ 3000000) := Lib.hid (by omega)
   have HO2 := Lib.hid (World.ownsRow.kept HO.out hg2 (Decidable.or_iff_not_imp_left.2 fun _ e => by have := (World.ownsRow.lt HO.out r e).1; omega))
   have HW2 := Lib.hid (Below.grown HW.out hg2 (Nat.le_of_lt hrg.lt) (fun k hk => by cases hk; exact Nat.le_refl _))
   have HRG2 := Lib.hid hrg2
   have HLT : Hid (cnt2 < cnt) := Lib.hid hlt2
   have hL0 := hrg.left_eq
   obtain ⟨a, s⟩ := x
   obtain ⟨qn, qd⟩ := q
   simp only [spotV, ratV, id] at hen
   clear hat hv hkey hlk hlx hq hg2 hs2 hrg2 hrg hlt2 HO HW HC
   go_upto_region 5 with fail
   obtain ⟨V, hV, bV, s2, t0, t1, t2, t3⟩ := box2 w2 (.string ⟨a.toArray⟩) (.string ⟨s.toArray⟩) (.string ⟨qn.toArray⟩) (.string ⟨qd.toArray⟩) 77 35
   rw [hV]; clear hV
   have HO3 := Lib.hid (own_below HO2.out bV)
   have HW3 := Lib.hid (HW2.out.trans (bV.mono (Nat.le_of_lt (Nat.lt_of_le_of_lt (Nat.le_refl r) HRG2.out.lt))))
   have HRG3 := Lib.hid (HRG2.out.kept (grown_of (row := none) bV) (by simp) (by simp))
   have z0 := t0 V (Below.refl _ _); have z1 := t1 V (Below.refl _ _); have z2 := t2 V (Below.refl _ _); have z3 := t3 V (Below.refl _ _)
   have hrv : r + 1 ≤ V.heap.size := HRG3.out.lt
   clear t0 t1 t2 t3 bV s2 HO2 HW2 HRG2 hen
   go_wp2_with (at_builtin; refine halt ?_)
   show wpList _ _ _ _ _ _
   refine wpList_append_one rfl _ _ 23 rfl (r + 1) Tryz.underlying23 _ ls rfl (World.ownsRow.alloc HO3.out _) ⟨V.heap.size, 0, none⟩ ((a, s), (qn, qd)) 1 rfl (lnsOne V a s qn qd 46) HL2.out (by simp; omega) ?_
   intro v' w6 o6 hg6 hl6
   have hne : ∀ j, j ≤ r → some j ≠ Value.ownBlock u3 := fun j hj e => by have := (World.ownsRow.lt HO3.out j e.symm).1; omega
   have HRG6 := Lib.hid ((HRG3.out.alloc (.cells #[.string ⟨a.toArray⟩, .string ⟨s.toArray⟩, .string ⟨qn.toArray⟩, .string ⟨qd.toArray⟩] 46)).kept hg6 (hne bm (Nat.le_of_lt HBM.out)) (hne r (Nat.le_refl r)))
   have hW4 := Below.alloc HW3.out (Nat.le_of_lt hrv) (.cells #[.string ⟨a.toArray⟩, .string ⟨s.toArray⟩, .string ⟨qn.toArray⟩, .string ⟨qd.toArray⟩] 46)
   have HW6 := Lib.hid (Below.grown hW4 hg6 (by simp; omega) (fun j hj => by have := (World.ownsRow.lt HO3.out j hj).1; omega))
   have HO6 := Lib.hid o6
   have hL6 := HRG6.out.left_eq
   have HLL : Hid (w6.rangeLeft bm r < wr.rangeLeft bm r) := Lib.hid (by rw [hL0, hL6]; exact HLT.out)
   have hlt3 := HLT.out
   clear o6 hg6 hl6 hne hW4 hL0 hL6 HO3 HW3 HRG3
   go_frame
   go_wp2_with fail
   go_roundw
   case rel => exact ⟨_, cnt2, _, by rw [List.length_append, List.length_singleton]; omega, HRG6.out, HO6, HC2, HW6⟩
   case measure => exact HLL.out
end Go.Proofs.YtagfndkfjbbpjaaGreatDoor
/- The program's instruct: an instruction's lines are posted, or not. -/
namespace Go.Proofs.YtagfndkfjbbpjaaGreatDoor
open Go.RowKit Go.Maps Go.Lib
set_option linter.unusedSimpArgs false
set_option linter.unusedVariables false
theorem map_no_cell {w : World} {bm : Nat} {es : Array MapEntry} {clock : Nat} (h : w.heap[bm]? = some (.map es clock)) (o : Nat) : w.cell? ⟨bm, o, none⟩ = none := by simp [World.cell?, h]
theorem Lns.off {w w' : World} {bm : Nat} {p : Option Addr} {l : List Ln} {es : Array MapEntry} {clock : Nat} (h : Lns w p l) (hb : w.heap[bm]? = some (.map es clock)) (hg : w.grownBy w' (some bm)) : Lns w' p l := by
 refine h.grown hg ?_
 cases l with
 | nil => exact .inl rfl
 | cons x r =>
  right
  rintro a rfl e
  obtain ⟨b, o, hp, _, c0, _⟩ := h 0 x rfl
  obtain rfl := Option.some.inj hp
  have e : bm = b := Option.some.inj e
  subst e
  rw [map_no_cell hb] at c0
  cases c0
def GiveSet (w : World) (bm n : Nat) (b ms : List Ln) (e : Ending) (w' : World) : Prop := e = .returned (.bool ((applyB b ms true).2 == 0)) ∧ (∃ D, HoldM w' bm (n + 2000) (numH (if (applyB b ms true).2 = 0 then (applyB b ms true).1 else b)) D) ∧ w.grownBy w' (some bm)
theorem ok_len {ms : List Ln} (h : ∀ x ∈ ms, lineOk x = true) : ∀ x ∈ ms, LenK x.1 := fun x hx => by
 have := lineOk_len (h x hx)
 exact ⟨Nat.le_trans this.1 (by unfold maxLen; omega), Nat.le_trans this.2 (by unfold maxLen; omega)⟩
theorem grown_trans {a b c : World} {row : Option Nat} (h : Below a.heap.size a b) (k : b.grownBy c row) : a.grownBy c row := (grown_of (row := row) h).trans k
set_option maxRecDepth 100000 in
set_option maxHeartbeats 4000000 in
theorem set_no (bm n : Nat) (q : Option Addr) (c : Nat) (ms b sb : List Ln) (D : DV) (w : World) (hM : HoldM w bm n (numH b) D) (he : (applyB b ms true).2 = 71)
  (CR : Hid (Calls Tryz.prog 61 #[.map (some bm), .slice q ms.length c] w fun e w' => (∃ p cc, e = .returned (.slice p sb.length cc) ∧ sb.length ≤ cc ∧ Lns w' p sb) ∧ Below w.heap.size w w'))
  (CA : Hid (∀ p cc V, Below w.heap.size w V → sb.length ≤ cc → Lns V p sb → Calls Tryz.prog 60 #[.slice p sb.length cc, .slice q ms.length c, .bool true] V (GiveLE V ([], 71)))) :
  Calls Tryz.prog 35 #[.map (some bm), .slice q ms.length c] w (GiveSet w bm n b ms) := by
 have HM := Lib.hid hM; have HE := Lib.hid he
 clear hM he
 go_enter Tryz.func35, Tryz.ntmps35
 go_wp2_with fail
 refine CR.out.mono ?_
 rintro e w1 ⟨⟨p1, c1, rfl, hc1, hL1⟩, b1⟩
 have ca := CA.out p1 c1 w1 b1 hc1 hL1
 clear hc1 hL1
 go_wp2_with fail
 refine ca.mono ?_
 rintro e w2 ⟨⟨p2, c2, rfl, hc2, hL2⟩, b2⟩
 have HB := Lib.hid (Below.more b1 b2)
 clear ca b1 b2 hc2 hL2
 go_wp2_with fail
 go_ret
 refine ⟨by rw [HE.out]; rfl, ⟨D, ?_⟩, grown_of HB.out⟩
 rw [HE.out, if_neg (by decide)]
 exact (HM.out.below HB.out).mono (by omega)
set_option maxRecDepth 100000 in
set_option maxHeartbeats 4000000 in
theorem set_yes (bm n : Nat) (q : Option Addr) (c : Nat) (ms b sb out : List Ln) (D : DV) (w : World) (hl : ms.length ≤ 200) (ho : out.length ≤ 2000) (hn : n ≤ 900000) (hz : ∀ x ∈ ms, LenK x.1) (hzo : ∀ x ∈ out, LenK x.1) (hM : HoldM w bm n (numH b) D) (h : Lns w q ms)
  (hF : applyB b ms true = (addAll b ms, 0)) (hP : putL (delL (numH b) ms) out = numH (addAll b ms))
  (CR : Hid (Calls Tryz.prog 61 #[.map (some bm), .slice q ms.length c] w fun e w' => (∃ p cc, e = .returned (.slice p sb.length cc) ∧ sb.length ≤ cc ∧ Lns w' p sb) ∧ Below w.heap.size w w'))
  (CA : Hid (∀ p cc V, Below w.heap.size w V → sb.length ≤ cc → Lns V p sb → Calls Tryz.prog 60 #[.slice p sb.length cc, .slice q ms.length c, .bool true] V (GiveLE V (out, 0)))) :
  Calls Tryz.prog 35 #[.map (some bm), .slice q ms.length c] w (GiveSet w bm n b ms) := by
 have HM := Lib.hid hM; have HS := Lib.hid h; have HZ := Lib.hid hz; have HZO := Lib.hid hzo; have HF := Lib.hid hF; have HP := Lib.hid hP
 clear hM h hz hzo hF hP
 go_enter Tryz.func35, Tryz.ntmps35
 go_wp2_with fail
 refine CR.out.mono ?_
 rintro e w1 ⟨⟨p1, c1, rfl, hc1, hL1⟩, b1⟩
 have ca := CA.out p1 c1 w1 b1 hc1 hL1
 clear hc1 hL1
 go_wp2_with fail
 refine ca.mono ?_
 rintro e w2 ⟨⟨p2, c2, rfl, hc2, hL2⟩, b2⟩
 have HB := Lib.hid (Below.more b1 b2)
 have HL2 := Lib.hid hL2
 clear ca b1 b2 hc2 hL2 CR CA
 have HS2 := Lib.hid (HS.out.below HB.out)
 have HM2 := Lib.hid (HM.out.below HB.out)
 have HG0 : Hid (w2.grownBy w2 (some bm)) := Lib.hid (grown_of (Below.refl _ _))
 obtain ⟨es0, ck0, hes⟩ := HM2.out.block
 have HES := Lib.hid hes
 clear hes
 go_wp2_with fail
 go_loopw [23] (fun i wr => ∃ (k : Nat) (D : DV), k ≤ ms.length ∧ i = .int .i64 k ∧ Hid (HoldM wr bm n (delL (numH b) (ms.take k)) D) ∧ Hid (w2.grownBy wr (some bm))) (fun i _ => ms.length - (intOf i).toNat)
 case atStart => exact ⟨0, _, Nat.zero_le _, rfl, HM2, HG0⟩
 case round =>
  obtain ⟨k, D, hk, rfl, HH, HG⟩ := hrel
  by_cases hlt : k < ms.length
  ·obtain ⟨⟨⟨a, s⟩, ⟨n', d⟩⟩, hx⟩ : ∃ x, ms[k]? = some x := ⟨_, List.getElem?_eq_getElem hlt⟩
   obtain ⟨b', o', rfl, k0, k1, k2, k3⟩ := (HS2.out.off HES.out HG.out).rule hx
   have HLK : Hid (LenK (a, s)) := Lib.hid (HZ.out _ (List.mem_of_getElem? hx))
   have HT := Lib.hid (nums_del hx (numH b))
   have CSP := Lib.hid (spot_any a s n' d)
   have bw := Below.refl wr.heap.size wr
   clear hx
   go_wp2_with fail
   obtain ⟨U, hU, bU, s1, r0, r1, r2, r3⟩ := lay4 (Below.refl wr.heap.size wr) (.string ⟨a.toArray⟩) (.string ⟨s.toArray⟩) (.string ⟨n'.toArray⟩) (.string ⟨d.toArray⟩) 46
   rw [hU]; clear hU k0 k1 k2 k3 bw
   have b0 := Below.refl U.heap.size U
   go_wp2_with fail
   refine (CSP.out _).mono ?_
   rintro e w3 ⟨rfl, b3⟩
   have HH3 := Lib.hid ((HH.out.below bU).below b3)
   have HG3 := Lib.hid ((HG.out.trans (grown_of bU)).trans (grown_of b3))
   clear r0 r1 r2 r3 b0 b3 bU s1 HH HG
   go_wp2_with (at_delete; refine halt ?_)
   show wpList _ _ _ _ _ _
   refine wpList_hold_del rfl _ _ rfl rfl HH3.out HLK.out rfl ?_
   intro w4 h4 g4
   have HH4 := Lib.hid h4
   have HG4 := Lib.hid (HG3.out.trans g4)
   clear h4 g4 HH3 HG3
   go_frame
   go_wp2_with fail
   go_roundw
   case rel => exact ⟨k + 1, _, hlt, by go_num, by rw [HT.out]; exact HH4, HG4⟩
   case measure => simp [intOf]; omega
  ·obtain rfl : k = ms.length := by omega
   rw [List.take_length] at HH
   have HL3 := Lib.hid (HL2.out.off HES.out HG.out)
   have HH0 := HH
   have HG1 := HG
   obtain ⟨es1, ck1, hes1⟩ := HH0.out.block
   have HES1 := Lib.hid hes1
   have HM0 : Hid (HoldM wr bm (n + 0) (putL (delL (numH b) ms) (out.take 0)) D) := HH
   have HG00 : Hid (wr.grownBy wr (some bm)) := Lib.hid (grown_of (Below.refl _ _))
   clear hes1 HES HL2 HS2 HH HG
   generalize hW3 : wr = w3 at *
   clear hW3
   go_wp2_with fail
   go_loopw [33] (fun i wr => ∃ (k : Nat) (D : DV), k ≤ out.length ∧ i = .int .i64 k ∧ Hid (HoldM wr bm (n + k) (putL (delL (numH b) ms) (out.take k)) D) ∧ Hid (w3.grownBy wr (some bm))) (fun i _ => out.length - (intOf i).toNat)
   case atStart => exact ⟨0, _, Nat.zero_le _, rfl, HM0, HG00⟩
   case round =>
    clear HM0 HG00 HH0
    obtain ⟨k, D, hk, rfl, HH, HG⟩ := hrel
    by_cases hlt : k < out.length
    ·obtain ⟨⟨⟨a, s⟩, ⟨n', d⟩⟩, hx⟩ : ∃ x, out[k]? = some x := ⟨_, List.getElem?_eq_getElem hlt⟩
     obtain ⟨b', o', rfl, k0, k1, k2, k3⟩ := (HL3.out.off HES1.out HG.out).rule hx
     have HLK : Hid (LenK (a, s)) := Lib.hid (HZO.out _ (List.mem_of_getElem? hx))
     have HT := Lib.hid (nums_snoc hx (delL (numH b) ms))
     have CSP := Lib.hid (spot_any a s n' d)
     have HKM : Hid (n + k < maxLen) := Lib.hid (by unfold maxLen; omega)
     have HBM : Hid (bm < wr.heap.size) := Lib.hid HH.out.map.lt
     have bw := Below.refl wr.heap.size wr
     clear hx
     go_upto_region 12 with fail
     obtain ⟨U, hU, bU, s1, r0, r1, r2, r3⟩ := lay4 (Below.refl wr.heap.size wr) (.string ⟨a.toArray⟩) (.string ⟨s.toArray⟩) (.string ⟨n'.toArray⟩) (.string ⟨d.toArray⟩) 46
     have hz : C4 wr.heap.size (.string ⟨a.toArray⟩) (.string ⟨s.toArray⟩) (.string ⟨n'.toArray⟩) (.string ⟨d.toArray⟩) U := ⟨r0 _ (Below.refl _ _), r1 _ (Below.refl _ _), r2 _ (Below.refl _ _), r3 _ (Below.refl _ _), by omega⟩
     rw [hU]; clear hU r0 r1 r2 r3 k0 k1 k2 k3 bw
     have hGU := Lib.hid (HH.out.below bU)
     have hWU := Lib.hid (HG.out.trans (grown_of bU))
     have q0 := fun v (h : C4 wr.heap.size (.string ⟨a.toArray⟩) (.string ⟨s.toArray⟩) (.string ⟨n'.toArray⟩) (.string ⟨d.toArray⟩) v) => h.c0
     have q1 := fun v (h : C4 wr.heap.size (.string ⟨a.toArray⟩) (.string ⟨s.toArray⟩) (.string ⟨n'.toArray⟩) (.string ⟨d.toArray⟩) v) => h.c1
     have q2 := fun v (h : C4 wr.heap.size (.string ⟨a.toArray⟩) (.string ⟨s.toArray⟩) (.string ⟨n'.toArray⟩) (.string ⟨d.toArray⟩) v) => h.c2
     have q3 := fun v (h : C4 wr.heap.size (.string ⟨a.toArray⟩) (.string ⟨s.toArray⟩) (.string ⟨n'.toArray⟩) (.string ⟨d.toArray⟩) v) => h.c3
     refine wp_region_noPanic ?_
     refine wp_region_held_drew (S := fun w' => C4 wr.heap.size (.string ⟨a.toArray⟩) (.string ⟨s.toArray⟩) (.string ⟨n'.toArray⟩) (.string ⟨d.toArray⟩) w') (by kernel_rfl) (hz.drew) (fun hH0 => ?_)
     refine sch_in [0, 1, 3, 4] ?_
     iterate 4 (refine sch_yes (v := ?_) rfl (by kernel_rfl) (by rfl) ?_ (by assumption) ?_; rotate_left 1; (· (intro w hSw; (try dsimp only at hSw); go_simp <;> (with_reducible rfl))); try simp only [Act.put, qA, qB, qC, qD, qE, qF])
     refine sch_out ?_
     refine wpAnyH_ready (rs := [2]) (by kernel_rfl) (by simp) ?_
     refine AllReadyH.cons rfl (fun K hK => ?_) AllReadyH.nil
     go_simp
     refine (CSP.out _).mono ?_
     rintro e w4 ⟨rfl, hb⟩
     (try go_wp2_with fail)
     refine hK.out _ _ (hH0.grown (grown_of (row := none) hb) (by simp)) (fun hH1 => ?_)
     clear hK
     try simp only [Act.put, qA, qB, qC, qD, qE, qF]
     obtain ⟨w5, hrun5, hG5, hg5⟩ := hold_store (hGU.out.drew.below hb) HKM.out (n', d) HLK.out
     refine wpAnyH_ready (rs := [5]) (by kernel_rfl) (by simp) ?_
     refine AllReadyH.cons rfl (fun K hK => ?_) AllReadyH.nil
     rw [if_pos (by rfl)]
     refine wp_update_run _ _ _ 58 rfl _ _ _ rfl rfl rfl hrun5 ?_
     refine hK.out _ _ (hH1.grown hg5 (fun e => Nat.ne_of_lt HBM.out (Option.some.inj e))) (fun hH2 => ?_)
     clear hK
     try simp only [Act.put, qA, qB, qC, qD, qE, qF]
     refine wpAnyH_done (by kernel_rfl) ?_ _
     refine NoPanic.normal ?_
     have hW5 := Lib.hid ((hWU.out.trans (grown_of ((Below.refl U.heap.size U).drew.trans hb))).trans hg5)
     have X := Lib.hid hG5
     clear hG5 hg5 hrun5 hb hH0 hH1 hH2 hz q0 q1 q2 q3 hWU hGU HH HG
     go_wp2_with fail
     go_roundw
     case rel => exact ⟨k + 1, _, hlt, by go_num, by rw [HT.out]; exact X, hW5⟩
     case measure => simp [intOf]; omega
    ·obtain rfl : k = out.length := by omega
     rw [List.take_length, HP.out] at HH
     have HE1 := Lib.hid (congrArg Prod.fst HF.out)
     have HE2 := Lib.hid (congrArg Prod.snd HF.out)
     have HGG := Lib.hid ((grown_trans HB.out HG1.out).trans HG.out)
     go_wp2_with fail
     go_ret
     refine ⟨by rw [HE2.out]; rfl, ⟨D, ?_⟩, HGG.out⟩
     rw [HE2.out, if_pos rfl, HE1.out]
     exact HH.out.mono (by omega)
theorem pick_len {b : List Ln} (ms : List Ln) : (pick b ms).length ≤ b.length := List.length_filter_le _ _
theorem settle_any (bm n : Nat) (q : Option Addr) (c : Nat) (ms b : List Ln) (D : DV) (D0 M : Nat) (w : World) (hg : Good b) (hb : balB ms = true) (hl : ms.length ≤ 200) (hcm : ms.length ≤ c) (hbl : b.length ≤ 1500) (hn : n ≤ 900000) (hzb : ∀ x ∈ b, SzF x) (hzm : ∀ x ∈ ms, SzF x) (hw : Way D0 M b ms) (hM : HoldM w bm n (numH b) D) (h : Lns w q ms) :
  Calls Tryz.prog 35 #[.map (some bm), .slice q ms.length c] w (GiveSet w bm n b ms) := by
 have hm := (balB_iff.1 hb).1
 have hz := ok_len hm
 have cr := around_any bm n q c ms b D w hg hl hz hM h
 have gp := pick_good hg ms
 have ca : ∀ p cc V, Below w.heap.size w V → (pick b ms).length ≤ cc → Lns V p (pick b ms) → Calls Tryz.prog 60 #[.slice p (pick b ms).length cc, .slice q ms.length c, .bool true] V (GiveLE V (applyB (pick b ms) ms true)) := fun p cc V hV hcc hL =>
  papply_any p cc (pick b ms) q c ms true D0 M V hcc hcm (by have := pick_len (b := b) ms; omega) hl (fun x hx => hzb x (List.mem_filter.1 hx).1) hzm ⟨hw.z, fun _ => (hw.t1 hg).sub fun x hx => (List.mem_filter.1 hx).1, hw.t2⟩ hL (h.below hV)
 obtain ⟨g2, _, _⟩ := addAll_good hg hm
 rcases pick_apply hg hb with ⟨e0, e1, e2⟩ | ⟨e1, e2⟩
 ·rw [e2] at ca
  exact set_yes bm n q c ms b _ _ D w hl (by have := pick_len (b := addAll b ms) ms; have := addAll_len hg hm; omega) hn hz (good_len (pick_good g2 ms)) hM h e1 (put_after hg hm) (Lib.hid cr) (Lib.hid ca)
 ·rw [e2] at ca
  exact set_no bm n q c ms b _ D w hM e1 (Lib.hid cr) (Lib.hid ca)
end Go.Proofs.YtagfndkfjbbpjaaGreatDoor

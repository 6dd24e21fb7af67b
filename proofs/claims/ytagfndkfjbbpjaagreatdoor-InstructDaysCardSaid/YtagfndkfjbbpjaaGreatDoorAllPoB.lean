/- Rows of lines, sorted by account and asset. -/
import Derived.Shelf.SlSortCmp.NoneTotal
import Derived.Test.YtagfndkfjbbpjaaGreatDoorSortL
import Derived.Test.YtagfndkfjbbpjaaGreatDoorAllPoA
namespace Go.Proofs.YtagfndkfjbbpjaaGreatDoor
open Go.RowKit Go.Sort Go.Shelf
set_option linter.unusedSimpArgs false
set_option linter.unusedVariables false
def encL (x : Ln) : List Value := [.string ⟨x.1.1.toArray⟩, .string ⟨x.1.2.toArray⟩, .string ⟨x.2.1.toArray⟩, .string ⟨x.2.2.toArray⟩]
theorem enc_len (x : Ln) : (encL x).length = 4 := rfl
theorem enc_one (x : Ln) : ∀ v ∈ encL x, v.oneCell' = true := fun v hv => by
 unfold encL at hv
 simp only [List.mem_cons, List.not_mem_nil, or_false] at hv
 rcases hv with rfl | rfl | rfl | rfl <;> rfl
def cfL (x y : Ln) : Int := ordK x.1 y.1
theorem lt_cfL (x y : Ln) : ltOf cfL x y = aheadK x.1 y.1 := by
 unfold ltOf cfL
 cases h : aheadK x.1 y.1 with
 | true => rw [ord_lt h]; rfl
 | false => exact decide_eq_false fun k => by rw [ord_neg.1 k] at h; cases h
theorem swoL : SWO (ltOf cfL) where
 irrefl x := by rw [lt_cfL]; exact ahead_irrefl _
 trans x y z h k := by rw [lt_cfL] at *; exact ahead_trans h k
 ntrans x y z h k := by
  rw [lt_cfL] at *
  rcases ahead_cases x.1 y.1 with c | c | c
  ·rw [c] at h; cases h
  ·rw [c]; exact k
  ·rcases ahead_cases y.1 z.1 with c2 | c2 | c2
   ·rw [c2] at k; cases k
   ·rw [← c2]; exact h
   ·exact ahead_asym (ahead_trans c2 c)
theorem cmpL (blk off size : Nat) (w : World) : CmpLays Tryz.prog 105 #[] encL 4 cfL blk off size w := fun m os dk _ x y => by
 obtain ⟨⟨a, s⟩, ⟨n, d⟩⟩ := x
 obtain ⟨⟨c, t⟩, ⟨k, e⟩⟩ := y
 refine (porderG_any a s n d c t k e _).mono ?_
 rintro e' w' ⟨rfl, q, ot, rfl⟩
 exact ⟨rfl, q, ot, rfl⟩
theorem isAggL (w : World) : (isAgg 46).run Tryz.prog w = .ok true w := by kernel_rfl
theorem sizeL (w : World) : (Go.sizeOf 46).run Tryz.prog w = .ok 4 w := by kernel_rfl
theorem enters_order : ∀ (args : Array Value) (w : World), (callFunc 105 args).run Tryz.prog w = .ok (.enter 105 args) w := enters_of Tryz.func105 (by kernel_rfl) rfl
theorem holds_of {w : World} {g : Nat} {ls : List Ln} {cur : Array Value} {e : TypeId} (hg : w.heap[g]? = some (.cells cur e (0, 0))) (h : Lns w (some ⟨g, 0, none⟩) ls) : HoldsK encL 4 w g 0 ls.toArray := fun j hj => by
 rw [size_flatK] at hj
 have hj : j < ls.length * 4 := hj
 obtain ⟨t, r, hr, rfl⟩ : ∃ t r, r < 4 ∧ j = t * 4 + r := ⟨j / 4, j % 4, by omega, by omega⟩
 have hq : t < ls.length := by omega
 obtain ⟨b, o, hp, hl, c0, c1, c2, c3⟩ := h t _ (List.getElem?_eq_getElem hq)
 cases hp
 have e1 : (ls.toArray)[t]! = ls[t] := by rw [getElem!_pos ls.toArray t (by simpa using hq)]; rfl
 have e2 : (t * 4 + r) / 4 = t := by omega
 have e3 : (t * 4 + r) % 4 = r := by omega
 rw [get_flatK _ _ _ _ (by simpa using hj), e2, e3, e1]
 rw [Nat.zero_add] at c0 c1 c2 c3 ⊢
 refine ⟨?_, by simp [World.frozen?, hg]⟩
 have hm : r = 0 ∨ r = 1 ∨ r = 2 ∨ r = 3 := by omega
 rcases hm with rfl | rfl | rfl | rfl
 ·exact c0
 ·exact c1
 ·exact c2
 ·exact c3
theorem lns_of {w : World} {g : Nat} {d : Array Ln} (h : HoldsK encL 4 w g 0 d) (hg : g < w.heap.size) : Lns w (some ⟨g, 0, none⟩) d.toList := fun j x hx => by
 obtain ⟨hj, e⟩ := List.getElem?_eq_some_iff.1 hx
 have hj' : j < d.size := by simpa using hj
 have e1 : d[j]! = x := by rw [getElem!_pos d j hj']; rw [← e]; rfl
 have k := fun c (hc : c < 4) => (HoldsK.cell h hj' hc).1
 rw [e1] at k
 exact ⟨g, 0, rfl, hg, k 0 (by decide), k 1 (by decide), k 2 (by decide), k 3 (by decide)⟩
theorem sortW_below {B blk off m : Nat} {w : World} {d : Array Ln} {os : Array Obj} (hB : B ≤ blk) (hb : blk < w.heap.size) : Below B w (sortWorldK encL 4 w blk off m d os) := by
 refine ⟨rfl, rfl, rfl, size_sortWorldK_c encL 4 w blk off m d os, fun k hk => ?_⟩
 unfold sortWorldK putRowK putRow mapBlock Go.Sort.ahead grow
 have hs : k < w.heap.size := by omega
 simp only [Array.getElem?_append, Array.size_modify, hs, if_true, Array.getElem?_modify]
 rw [if_neg (by omega)]
theorem sorted_of {d : Array Ln} (h : SortedIn (ltOf cfL) 0 d.size d) : SortedK d.toList := List.pairwise_iff_getElem.2 fun i j hi hj hij => by
 have hi' : i < d.size := by simpa using hi
 have hj' : j < d.size := by simpa using hj
 have k := h i j (Nat.zero_le _) hij hj'
 rw [lt_cfL, getElem!_pos d i hi', getElem!_pos d j hj'] at k
 exact k
theorem psort_any {B : Nat} (v : Value) (ls : List Ln) (w : World) (h : Own B w v ls) (hl : ls.length ≤ 1000000) :
  Calls Tryz.prog 104 #[v, .func (.func 105) #[] #[]] w fun e w' => e = .returned (.tuple #[]) ∧ ∃ p c d, v = .slice p d.length c ∧ d.length ≤ c ∧ d.Perm ls ∧ SortedK d ∧ Lns w' p d ∧ Below B w w' := by
 obtain ⟨p, c, rfl, hc, hL, hf⟩ := own_lns h
 rcases h.2 with ⟨hv, h0⟩ | ⟨g, cap, cur, hv, k2, k3, k4, k5⟩
 ·have : ls = [] := List.length_eq_zero_iff.1 h0
  subst this
  have k := AnyF.slices_SortFunc_none Tryz.sortLn p c (.func (.func 105) #[] #[]) w
  change Calls Tryz.prog 104 _ _ _ at k
  refine k.mono ?_
  rintro e w' ⟨rfl, rfl⟩
  exact ⟨rfl, p, c, [], rfl, Nat.zero_le _, List.Perm.refl _, List.Pairwise.nil, Lns.nil _ _, Below.refl _ _⟩
 ·cases hv
  have hg : g < w.heap.size := (Array.getElem?_eq_some_iff.1 k3).1
  have hH := holds_of k3 hL
  have k := AnyQ.slices_SortFunc Tryz.sortLn 4 (fun w => isAggL w) (fun w => sizeL w) encL enc_len enc_one cfL swoL 105 #[] g 0 c ls.toArray w enters_order (cmpL _ _ _ _) hH hg (by rw [List.size_toArray]; omega)
  change Calls Tryz.prog 104 _ _ _ at k
  rw [List.size_toArray] at k
  refine k.mono ?_
  rintro e w' ⟨rfl, d, n, os, hp, hs, rfl⟩
  have hsz : d.size = ls.length := by rw [hp.1, List.size_toArray]
  have hperm : d.toList.Perm ls := by
   have k := hp.2.2
   have e1 : (d.extract 0 ls.length).toList = d.toList := by rw [← hsz, Array.extract_size]
   have e2 : (ls.toArray.extract 0 ls.length).toList = ls := by simp
   rw [e1, e2] at k
   exact k
  have hd : d.toList.length = ls.length := by rw [Array.length_toList, hsz]
  refine ⟨rfl, some ⟨g, 0, none⟩, c, d.toList, by rw [hd], by rw [hd]; exact hc, hperm, sorted_of (by rw [hsz]; exact hs), lns_of (holdsK_sortWorldK_c encL 4 w g 0 ls.toArray d n os hH hg (by rw [hsz, List.size_toArray])) (Nat.lt_of_lt_of_le hg (size_sortWorldK_c encL 4 w g 0 n d os)), sortW_below k2 hg⟩
end Go.Proofs.YtagfndkfjbbpjaaGreatDoor
/- The program's post: lines gathered by account and asset. -/
namespace Go.Proofs.YtagfndkfjbbpjaaGreatDoor
open Go.RowKit
set_option linter.unusedSimpArgs false
set_option linter.unusedVariables false
structure Z4 (b : Nat) (x y z u : Value) (v : World) : Prop where
 c0 : v.cell? ⟨b, 0, none⟩ = some x
 c1 : v.cell? ⟨b, 1, none⟩ = some y
 c2 : v.cell? ⟨b, 2, none⟩ = some z
 c3 : v.cell? ⟨b, 3, none⟩ = some u
 f0 : v.frozen? ⟨b, 0, none⟩ = false
 f1 : v.frozen? ⟨b, 1, none⟩ = false
 f2 : v.frozen? ⟨b, 2, none⟩ = false
 f3 : v.frozen? ⟨b, 3, none⟩ = false
 lt : b < v.heap.size
theorem Z4.below {b : Nat} {x y z u : Value} {v v' : World} (h : Z4 b x y z u v) (hb : Below v.heap.size v v') : Z4 b x y z u v' :=
 ⟨(hb.cell (p := ⟨b, 0, none⟩) h.lt).trans h.c0, (hb.cell (p := ⟨b, 1, none⟩) h.lt).trans h.c1, (hb.cell (p := ⟨b, 2, none⟩) h.lt).trans h.c2, (hb.cell (p := ⟨b, 3, none⟩) h.lt).trans h.c3,
 (hb.frozen (p := ⟨b, 0, none⟩) h.lt).trans h.f0, (hb.frozen (p := ⟨b, 1, none⟩) h.lt).trans h.f1, (hb.frozen (p := ⟨b, 2, none⟩) h.lt).trans h.f2, (hb.frozen (p := ⟨b, 3, none⟩) h.lt).trans h.f3, Nat.lt_of_lt_of_le h.lt hb.size⟩
theorem z4_new (w : World) (x y z u : Value) (t : TypeId) : Z4 w.heap.size x y z u (w.alloc (.cells #[x, y, z, u] t)) :=
 ⟨cell_new _ _ _ _ rfl 0, cell_new _ _ _ _ rfl 1, cell_new _ _ _ _ rfl 2, cell_new _ _ _ _ rfl 3,
 by rw [frozen?_alloc_cells]; simp [World.frozen?], by rw [frozen?_alloc_cells]; simp [World.frozen?], by rw [frozen?_alloc_cells]; simp [World.frozen?], by rw [frozen?_alloc_cells]; simp [World.frozen?], by simp⟩
theorem z4_made {u v : World} {x y z q : Value} {t : TypeId} (hb : Below (u.alloc (.cells #[x, y, z, q] t)).heap.size (u.alloc (.cells #[x, y, z, q] t)) v) : Z4 u.heap.size x y z q v := (z4_new u x y z q t).below hb
theorem z4_made0 {u v : World} {x y z q : Value} {t : TypeId} (hb : Below (u.drew.alloc (.cells #[x, y, z, q] t)).heap.size (u.drew.alloc (.cells #[x, y, z, q] t)) v) : Z4 u.heap.size x y z q v := z4_made (u := u.drew) hb
theorem put4 {B b : Nat} {a w : World} (h : Below B a w) (hb : B ≤ b) (x y z u : Value) : Below B a ((((w.setCell ⟨b, 0, none⟩ x).setCell ⟨b, 1, none⟩ y).setCell ⟨b, 2, none⟩ z).setCell ⟨b, 3, none⟩ u) :=
 Below.setCell (Below.setCell (Below.setCell (Below.setCell h hb _) hb _) hb _) hb _
theorem z4_s0 {b : Nat} {x y z u : Value} {v : World} (h : Z4 b x y z u v) (p : Value) : Z4 b p y z u (v.setCell ⟨b, 0, none⟩ p) :=
 ⟨by rw [World.cell?_setCell_same' _ _ _ (by rw [h.c0]; rfl)], by rw [cell?_setCell_ne _ _ _ _ _ (by omega)]; exact h.c1, by rw [cell?_setCell_ne _ _ _ _ _ (by omega)]; exact h.c2, by rw [cell?_setCell_ne _ _ _ _ _ (by omega)]; exact h.c3,
 by simpa using h.f0, by simpa using h.f1, by simpa using h.f2, by simpa using h.f3, by simpa [World.setCell] using h.lt⟩
theorem z4_s1 {b : Nat} {x y z u : Value} {v : World} (h : Z4 b x y z u v) (p : Value) : Z4 b x p z u (v.setCell ⟨b, 1, none⟩ p) :=
 ⟨by rw [cell?_setCell_ne _ _ _ _ _ (by omega)]; exact h.c0, by rw [World.cell?_setCell_same' _ _ _ (by rw [h.c1]; rfl)], by rw [cell?_setCell_ne _ _ _ _ _ (by omega)]; exact h.c2, by rw [cell?_setCell_ne _ _ _ _ _ (by omega)]; exact h.c3,
 by simpa using h.f0, by simpa using h.f1, by simpa using h.f2, by simpa using h.f3, by simpa [World.setCell] using h.lt⟩
theorem z4_s2 {b : Nat} {x y z u : Value} {v : World} (h : Z4 b x y z u v) (p : Value) : Z4 b x y p u (v.setCell ⟨b, 2, none⟩ p) :=
 ⟨by rw [cell?_setCell_ne _ _ _ _ _ (by omega)]; exact h.c0, by rw [cell?_setCell_ne _ _ _ _ _ (by omega)]; exact h.c1, by rw [World.cell?_setCell_same' _ _ _ (by rw [h.c2]; rfl)], by rw [cell?_setCell_ne _ _ _ _ _ (by omega)]; exact h.c3,
 by simpa using h.f0, by simpa using h.f1, by simpa using h.f2, by simpa using h.f3, by simpa [World.setCell] using h.lt⟩
theorem z4_s3 {b : Nat} {x y z u : Value} {v : World} (h : Z4 b x y z u v) (p : Value) : Z4 b x y z p (v.setCell ⟨b, 3, none⟩ p) :=
 ⟨by rw [cell?_setCell_ne _ _ _ _ _ (by omega)]; exact h.c0, by rw [cell?_setCell_ne _ _ _ _ _ (by omega)]; exact h.c1, by rw [cell?_setCell_ne _ _ _ _ _ (by omega)]; exact h.c2, by rw [World.cell?_setCell_same' _ _ _ (by rw [h.c3]; rfl)],
 by simpa using h.f0, by simpa using h.f1, by simpa using h.f2, by simpa using h.f3, by simpa [World.setCell] using h.lt⟩
theorem z4_set {b : Nat} {x y z u : Value} {w : World} (h : Z4 b x y z u w) (p q : Value) : Z4 b x y p q ((w.setCell ⟨b, 2, none⟩ p).setCell ⟨b, 3, none⟩ q) := z4_s3 (z4_s2 h p) q
theorem z4_put {b : Nat} {x y z u p q r s : Value} {w : World} (h : Z4 b x y z u w) : Z4 b p q r s ((((w.setCell ⟨b, 0, none⟩ p).setCell ⟨b, 1, none⟩ q).setCell ⟨b, 2, none⟩ r).setCell ⟨b, 3, none⟩ s) := z4_s3 (z4_s2 (z4_s1 (z4_s0 h p) q) r) s
theorem put23 {B b : Nat} {a w : World} {x y z u : Value} (h : Below B a w) (hb : B ≤ b) (hz : Z4 b x y z u w) (p q : Value) : ∃ W, (w.setCell ⟨b, 2, none⟩ p).setCell ⟨b, 3, none⟩ q = W ∧ Below B a W ∧ Z4 b x y p q W :=
 ⟨_, rfl, Below.setCell (Below.setCell h hb _) hb _, z4_set hz p q⟩
theorem own_mono {B B' : Nat} {w : World} {v : Value} {ls : List Ln} (h : Own B w v ls) (hB : B' ≤ B) : Own B' w v ls := by
 refine ⟨h.1, ?_⟩
 rcases h.2 with k | ⟨g, cap, cur, k1, k2, k3⟩
 ·exact .inl k
 ·exact .inr ⟨g, cap, cur, k1, Nat.le_trans hB k2, k3⟩
theorem one_zero {k q : Key} (h : sgnR q = 0) : oneG k q = [] := by simp [oneG, h]
theorem one_more {k q : Key} (h : ¬ sgnR q = 0) : oneG k q = [(k, q)] := by simp [oneG, h]
def lenV : Value → Nat | .slice _ n _ => n | _ => 0
theorem group_len {d rows : List Ln} {i N : Nat} (hp : d.Perm rows) (hN : ∀ k, (rows.filter fun x => x.1 == k).length ≤ N) : ((d.drop i).take (manyL (d.drop i))).length ≤ N := by
 cases hB : d.drop i with
 | nil => exact Nat.zero_le _
 | cons x r =>
  have hs : ((x :: r).take (manyL (x :: r))).Sublist (d.filter fun y => y.1 == x.1) := by
   have h1 : (((x :: r).take (manyL (x :: r))).filter fun y => y.1 == x.1) = (x :: r).take (manyL (x :: r)) := List.filter_eq_self.2 fun y hy => beq_iff_eq.2 (many_same y hy)
   rw [← h1]
   refine List.Sublist.filter _ ?_
   rw [← hB]
   exact (List.take_sublist _ _).trans (List.drop_sublist _ _)
  exact Nat.le_trans hs.length_le (by rw [(hp.filter _).length_eq]; exact hN x.1)
set_option maxRecDepth 100000 in
set_option maxHeartbeats 4000000 in
theorem pgatherF_any (p : Option Addr) (c : Nat) (rows : List Ln) (NN : Nat) (w : World) (hl : rows.length ≤ 1000000) (hok : ∀ x ∈ rows, lineOk x = true) (hf : ∀ L : List Ln, (∀ x ∈ L, x ∈ rows) → L.length ≤ NN → Fit (sumL L)) (hN : ∀ k, (rows.filter fun x => x.1 == k).length ≤ NN) (h : Lns w p rows) :
  Calls Tryz.prog 87 #[.slice p rows.length c] w (GiveL w (addAll [] rows)) := by
 have HS := Lib.hid h; have HRk := Lib.hid hok; have HN := Lib.hid hN
 clear h hN
 go_enter Tryz.func87, Tryz.ntmps87
 go_wp2_with fail
 refine (pclone_any p c rows _ hl HS.out).mono ?_
 rintro e w1 ⟨v, rfl, hown, hb1⟩
 have HO := Lib.hid hown; have HB := Lib.hid hb1
 clear hown hb1
 go_wp2_with fail
 refine (psort_any v rows _ HO.out hl).mono ?_
 rintro e w2 ⟨rfl, p2, c2, d, rfl, hc2, hp, hso, hL, hb2⟩
 have hld : d.length ≤ 1000000 := by rw [hp.length_eq]; exact hl
 have HP := Lib.hid hp; have HSo := Lib.hid hso; have HL2 := Lib.hid hL; have HB2 := Lib.hid (HB.out.trans hb2)
 have HOk : Hid (∀ x ∈ d, lineOk x = true) := Lib.hid fun x hx => HRk.out x (HP.out.mem_iff.1 hx)
 have HF : Hid (∀ L : List Ln, (∀ x ∈ L, x ∈ d) → L.length ≤ NN → Fit (sumL L)) := Lib.hid fun L hs hl => hf L (fun x hx => HP.out.mem_iff.1 (hs x hx)) hl
 clear hp hso hL hb2 HO HB hok hf HS hl
 go_wp2_with fail
 go_loopw [3, 4] (fun rows out wr => ∃ (i : Nat) (acc : List Ln) (pp : Option Addr) (cc : Nat), i ≤ d.length ∧ rows = .slice pp (d.drop i).length cc ∧ (d.drop i).length ≤ cc ∧ Hid (Lns w2 pp (d.drop i)) ∧ Own w2.heap.size wr out acc ∧ Below w2.heap.size w2 wr ∧ Hid (Acc d i acc)) (fun rows _ _ => lenV rows)
 case atStart => exact ⟨0, [], p2, c2, Nat.zero_le _, rfl, hc2, HL2, World.ownsRow_nil _ _ _ _, Below.refl _ _, Lib.hid (Acc.start d)⟩
 case round =>
  clear HL2
  obtain ⟨i, acc, pp, cc, hi, rfl, hcc, HL, hown, hw, HA⟩ := hrel
  by_cases hlt : i < d.length
  ·obtain ⟨⟨⟨a, s⟩, ⟨n, dd⟩⟩, hx⟩ : ∃ x, d[i]? = some x := ⟨_, List.getElem?_eq_getElem hlt⟩
   have hB0 : d.drop i = ((a, s), (n, dd)) :: d.drop (i + 1) := by
    obtain ⟨h1, h2⟩ := List.getElem?_eq_some_iff.1 hx
    rw [List.drop_eq_getElem_cons h1, h2]
   obtain ⟨b, o, rfl, k0, k1, k2, k3⟩ := (HL.out.below hw).rule (k := 0) (by rw [hB0]; rfl)
   simp only [Nat.zero_mul, Nat.add_zero] at k0 k1 k2 k3
   have hA2 := HA.out.step HSo.out HOk.out hx
   have hmp : 0 < manyL (d.drop i) := by rw [hB0]; exact many_pos
   have hml := many_le (d.drop i)
   have hdl : (d.drop i).length = d.length - i := List.length_drop
   have hd2 : (d.drop (i + manyL (d.drop i))).length = (d.drop i).length - manyL (d.drop i) := by rw [← List.drop_drop, List.length_drop]
   have hnx : i + manyL (d.drop i) ≤ d.length := by omega
   have ca : ∀ V, Below wr.heap.size wr V → Calls Tryz.prog 106 #[.slice (some ⟨b, o, none⟩) (d.drop i).length cc] V (GiveI V (manyL (d.drop i))) := fun V hV => by
    have k := HL.out.below (Below.more hw hV)
    rw [hB0] at k ⊢
    exact palike_any b o cc _ _ V (by rw [← hB0]; omega) k
   have hr : ∀ y ∈ d, isR y.2 = true := fun y hy => ok_rat (HOk.out y hy)
   have htl : ((d.drop i).take (manyL (d.drop i))).length = manyL (d.drop i) := by rw [List.length_take]; omega
   have hsub : ∀ y ∈ (d.drop i).take (manyL (d.drop i)), y ∈ d := fun y hy => List.mem_of_mem_drop (List.mem_of_mem_take hy)
   have hgl : ((d.drop i).take (manyL (d.drop i))).length ≤ NN := group_len HP.out HN.out
   have cs : ∀ V, Below wr.heap.size wr V → Calls Tryz.prog 107 #[.slice (some ⟨b, o, none⟩) (manyL (d.drop i)) cc] V (GiveR V (sumL ((d.drop i).take (manyL (d.drop i))))) := fun V hV => by
    have k := psum_any _ (some ⟨b, o, none⟩) cc ((d.drop i).take (manyL (d.drop i))) V (by omega) (Nat.le_refl _) (by omega) (by omega) (fun y hy => hr y (hsub y hy)) (fun L hs hl => HF.out L (fun y hy => hsub y (hs y hy)) (by omega)) ((HL.out.below (Below.more hw hV)).takes _)
    rw [htl] at k
    exact k
   have hfit := HF.out _ hsub hgl
   have hrd : Lns w2 (some ⟨b, o + manyL (d.drop i) * 4, none⟩) (d.drop (i + manyL (d.drop i))) := by
    rw [← List.drop_drop]; exact HL.out.drops _
   have hrn : cc = manyL (d.drop i) → ∀ (p : Option Addr), Lns w2 p (d.drop (i + manyL (d.drop i))) := fun e p => by
    have : d.drop (i + manyL (d.drop i)) = [] := List.length_eq_zero_iff.1 (by rw [hd2]; omega)
    rw [this]; exact Lns.nil _ _
   have hrc : Lns w2 (if cc = manyL (d.drop i) then some ⟨b, o, none⟩ else some ⟨b, o + manyL (d.drop i) * 4, none⟩) (d.drop (i + manyL (d.drop i))) := by
    split
    ·rename_i e; exact hrn e _
    ·exact hrd
   have hacc := HA.out.len
   generalize sumL ((d.drop i).take (manyL (d.drop i))) = q at *
   obtain ⟨q1, q2⟩ := q
   have cg : ∀ V, Calls Tryz.prog 39 #[.agg #[.string ⟨q1.toArray⟩, .string ⟨q2.toArray⟩]] V (GiveI V (sgnR (q1, q2))) := fun V => qsign_any ⟨q1.toArray⟩ ⟨q2.toArray⟩ V (by rw [size_of]; exact Nat.le_trans hfit.1 (by decide)) (by rw [size_of]; exact Nat.le_trans hfit.2 (by decide))
   have hn0 : 0 < (d.drop i).length := by omega
   have hnl : (d.drop i).length ≤ 1000000 := by omega
   clear htl hsub hgl hfit hr hB0 HL hdl hx
   generalize manyL (d.drop i) = m at *
   have HE2 : Hid ((d.drop (i + m)).length = (d.drop i).length - m) := Lib.hid hd2
   clear hd2
   generalize (d.drop i).length = N at *
   have CA := Lib.hid ca; have CS := Lib.hid cs; have HRc := Lib.hid hrc; have HA2 := Lib.hid hA2
   have hO := Lib.hid hown; have hW := Lib.hid hw
   clear ca cs hrd hrn hrc hA2 hown hw HA
   have hN0 : (0 : Int) < (N : Int) := by omega
   have hmN : (m : Int) ≤ (N : Int) := by omega
   have hmC : (m : Int) ≤ (cc : Int) := by omega
   have b0 := Below.refl wr.heap.size wr
   have hB := Lib.hid (Nat.le_refl wr.heap.size)
   go_upto_region 5 with fail
   go_cut [5, 6] from 11 to 34 (fun t5 t6 wx => t6 = .int .i64 (m : Int) ∧ (∃ pl, t5 = .pointer (some ⟨pl, 0, none⟩) ∧ wr.heap.size ≤ pl ∧ Z4 pl (.string ⟨a.toArray⟩) (.string ⟨s.toArray⟩) (.string ⟨n.toArray⟩) (.string ⟨dd.toArray⟩) wx) ∧ Below wr.heap.size wr wx)
   case first =>
    first | (go_region_held3 (fun w' => Below wr.heap.size wr w')
      (first | (exact b0.drew) | (with_reducible assumption) | (exact Below.alloc (by with_reducible assumption) (Nat.le_trans hB.out (Below.size (by with_reducible assumption))) _) | (exact put4 (by with_reducible assumption) (Nat.le_refl _) _ _ _ _) | (exact put4 (by with_reducible assumption) hB.out _ _ _ _) | (exact put4 (by with_reducible assumption) (Nat.le_trans hB.out (Below.size (by with_reducible assumption))) _ _ _ _))
      (first | (go_at_call 106; (with_reducible refine (held (W := wr) hB.out (CA.out _ (by assumption)) (by assumption)).mono ?_); rintro e w'' ⟨rfl, hb, hw⟩; (first | (have hz := z4_made0 hb) | (have hz := z4_made hb) | skip); (try have hz := Z4.below (by assumption) hb); (try (have z0 := hz.c0; have z1 := hz.c1; have z2 := hz.c2; have z3 := hz.c3; have z4 := hz.f0; have z5 := hz.f1; have z6 := hz.f2; have z7 := hz.f3))))) | fail
    all_goals (go_wp2_with fail)
    all_goals (go_meet)
    all_goals (exact ⟨rfl, ⟨_, rfl, (by first | exact Nat.le_refl _ | exact Below.size (by with_reducible assumption)), (by first | exact z4_new _ _ _ _ _ _ | exact z4_put (by assumption) | assumption)⟩, (by (first | (exact b0.drew) | (with_reducible assumption) | (exact Below.alloc (by with_reducible assumption) (Nat.le_trans hB.out (Below.size (by with_reducible assumption))) _) | (exact put4 (by with_reducible assumption) (Nat.le_refl _) _ _ _ _) | (exact put4 (by with_reducible assumption) hB.out _ _ _ _) | (exact put4 (by with_reducible assumption) (Nat.le_trans hB.out (Below.size (by with_reducible assumption))) _ _ _ _)))⟩)
   case rest =>
    obtain ⟨rfl, ⟨pl, rfl, hpl, hz⟩, hcx⟩ := hcut
    clear CA k0 k1 k2 k3 b0 hB
    have b1 := Below.refl wc.heap.size wc
    have hX := Lib.hid hcx
    clear hcx
    go_wp2_with fail
    refine (CS.out _ hX.out).mono ?_
    rintro e ws ⟨rfl, b2⟩
    have hz2 := hz.below b2
    have z2 := hz2.c2; have z3 := hz2.c3; have z6 := hz2.f2; have z7 := hz2.f3
    have hY := Lib.hid (Below.more hX.out b2)
    have hZ := Lib.hid hz2
    clear hz hz2 b1 b2 CS
    go_upto_region 7 with fail
    obtain ⟨W, hWW, bW, hz3⟩ := put23 hY.out hpl hZ.out (.string ⟨q1.toArray⟩) (.string ⟨q2.toArray⟩)
    rw [hWW]
    have hBW := Lib.hid bW
    have hZ3 := Lib.hid hz3
    have ra := fun v (h : Below W.heap.size W v) => (hZ3.out.below h).c0
    have rb := fun v (h : Below W.heap.size W v) => (hZ3.out.below h).c1
    have rc := fun v (h : Below W.heap.size W v) => (hZ3.out.below h).c2
    have rd' := fun v (h : Below W.heap.size W v) => (hZ3.out.below h).c3
    have b3 := Below.refl W.heap.size W
    clear hWW hZ hY hX z2 z3 z6 z7 bW hz3
    by_cases hq0 : sgnR (q1, q2) = 0
    ·have HA3 : Hid (Acc d (i + m) acc) := Lib.hid (by have k := HA2.out; rw [one_zero hq0, List.append_nil] at k; exact k)
     rw [hq0] at cg
     have CG := Lib.hid cg
     clear cg hq0 HA2
     go_wp2_with fail
     refine (CG.out _).mono ?_
     rintro e w4 ⟨rfl, b4⟩
     have b5 := Below.more hBW.out b4
     have hO4 := Lib.hid (own_below hO.out b5)
     have hB4 := Lib.hid (Below.more hW.out b5)
     have hB5 := Lib.hid b5
     clear b4 b5 hO CG ra rb rc rd' b3 hZ3 hBW
     go_wp2_with fail
     all_goals
      go_roundw
      case rel => exact ⟨i + m, _, _, _, hnx, (by rw [HE2.out]), (by rw [HE2.out]; omega), HRc, hO4.out, hB4.out, HA3⟩
      case measure => (simp [lenV]; omega)
    ·have HA3 : Hid (Acc d (i + m) (acc ++ [((a, s), (q1, q2))])) := Lib.hid (by have k := HA2.out; rw [one_more hq0] at k; exact k)
     generalize sgnR (q1, q2) = zz at *
     have CG := Lib.hid cg
     clear cg HA2
     go_wp2_with fail
     refine (CG.out _).mono ?_
     rintro e w4 ⟨rfl, b4⟩
     have b5 := Below.more hBW.out b4
     have hO4 := Lib.hid (own_below hO.out b5)
     have hB4 := Lib.hid (Below.more hW.out b5)
     have hB5 := Lib.hid b5
     clear b5 hO CG b3
     go_wp2_with (at_builtin; refine halt ?_)
     show wpList _ _ _ _ _ _
     refine wpList_append_lns rfl _ _ 23 rfl w2.heap.size Tryz.underlying23 _ acc rfl (World.ownsRow.alloc hO4.out _) (some ⟨w4.heap.size, 0, none⟩) [((a, s), (q1, q2))] 1 rfl (lnsOne w4 a s q1 q2 46) (by omega) (show 1 ≤ 3000000 by decide) (Below.size (Below.alloc hB4.out (Below.size hB4.out) _)) ?_
     intro v5 w5 o5 h5
     have hO5 := Lib.hid o5
     have hB6 := Lib.hid ((Below.alloc hB4.out (Below.size hB4.out) _).trans h5)
     clear o5 h5 hO4 hB4 hB5 b4 ra rb rc rd' hZ3 hBW
     go_wp2_with fail
     all_goals
      go_roundw
      case rel => exact ⟨i + m, _, _, _, hnx, (by rw [HE2.out]), (by rw [HE2.out]; omega), HRc, hO5.out, hB6.out, HA3⟩
      case measure => (simp [lenV]; omega)
  ·obtain rfl : i = d.length := by omega
   have hz : (d.drop d.length).length = 0 := by rw [List.length_drop]; omega
   have HG := Lib.hid (gath_end HP.out HRk.out HA.out)
   have hO := Lib.hid hown; have hW := Lib.hid hw
   clear hown hw HL HA
   rw [hz] at *
   go_wp2_with fail
   go_ret
   rw [← HG.out]
   exact giveL (own_mono hO.out (Below.size HB2.out)) (Below.more HB2.out hW.out)
theorem pgather_any (p : Option Addr) (c : Nat) (rows : List Ln) (NN : Nat) (w : World) (hl : rows.length ≤ 1000000) (hok : ∀ x ∈ rows, lineOk x = true) (hf : ∀ L : List Ln, (∀ x ∈ L, x ∈ rows) → L.length ≤ NN → Fit (sumL L)) (hN : ∀ k, (rows.filter fun x => x.1 == k).length ≤ NN) (h : Lns w p rows) :
  Calls Tryz.prog 87 #[.slice p rows.length c] w (GiveRo w (addAll [] rows)) :=
 (pgatherF_any p c rows NN w hl hok hf hN h).mono fun _ _ h => giveRo h
end Go.Proofs.YtagfndkfjbbpjaaGreatDoor
/- The program's post: who falls short. -/
namespace Go.Proofs.YtagfndkfjbbpjaaGreatDoor
open Go.RowKit
set_option linter.unusedSimpArgs false
set_option linter.unusedVariables false
def shC (A : List Ln) (c : Ln) : Bool := !(isFree c.1.1 || decide (0 < sgnR c.2)) && (thereB A c.1 && decide (sgnR (rawB A c.1) < 0))
theorem short_more {A C : List Ln} {k : Nat} {x : Ln} (h : ∀ j y, j < k → C[j]? = some y → shC A y = false) (hx : C[k]? = some x) (hs : shC A x = false) : ∀ j y, j < k + 1 → C[j]? = some y → shC A y = false := fun j y hj hy => by
 rcases Nat.lt_or_eq_of_le (Nat.le_of_lt_succ hj) with g | g
 ·exact h j y g hy
 ·subst g; rw [hx] at hy; obtain rfl := Option.some.inj hy; exact hs
theorem short_hit {A C : List Ln} {k : Nat} {x : Ln} (hx : C[k]? = some x) (hs : shC A x = true) : shortP A C = true := List.any_eq_true.2 ⟨x, List.mem_of_getElem? hx, hs⟩
theorem short_end {A C : List Ln} (h : ∀ j y, j < C.length → C[j]? = some y → shC A y = false) : shortP A C = false := by
 cases e : shortP A C with
 | false => rfl
 | true =>
  obtain ⟨x, hx, hs⟩ := List.any_eq_true.1 e
  obtain ⟨i, hi, rfl⟩ := List.getElem_of_mem hx
  have k := h i _ hi (List.getElem?_eq_getElem hi)
  have hs : shC A C[i] = true := hs
  rw [k] at hs; cases hs
theorem shC_free {A : List Ln} {c : Ln} (h : isFree c.1.1 = true) : shC A c = false := by unfold shC; rw [h]; rfl
theorem shC_more {A : List Ln} {c : Ln} (h : 0 < sgnR c.2) : shC A c = false := by unfold shC; rw [decide_eq_true h, Bool.or_true]; rfl
theorem shC_out {A : List Ln} {c : Ln} (h : thereB A c.1 = false) : shC A c = false := by unfold shC; rw [h, Bool.false_and, Bool.and_false]
theorem shC_in {A : List Ln} {c : Ln} {v : Bool} (h1 : isFree c.1.1 = false) (h2 : ¬ 0 < sgnR c.2) (h3 : thereB A c.1 = true) (h4 : decide (sgnR (rawB A c.1) < 0) = v) : shC A c = v := by unfold shC; rw [h1, decide_eq_false h2, h3, h4]; simp
set_option maxRecDepth 100000 in
set_option maxHeartbeats 4000000 in
theorem pshort_any (pa : Option Addr) (ca : Nat) (A : List Ln) (pc : Option Addr) (cc : Nat) (C : List Ln) (w : World) (hca : A.length ≤ ca) (hla : A.length ≤ 1000000) (hlc : C.length ≤ 1000000) (hg : A.Pairwise fun x y => aheadK x.1 y.1 = true) (hza : ∀ x ∈ A, SzF x) (hzc : ∀ x ∈ C, SzF x) (ha : Lns w pa A) (hc : Lns w pc C) :
  Calls Tryz.prog 89 #[.slice pa A.length ca, .slice pc C.length cc] w (GiveB w (shortP A C)) := by
 have HA := Lib.hid ha; have HC := Lib.hid hc; have HG := Lib.hid hg; have HZA := Lib.hid hza; have HZC := Lib.hid hzc
 clear ha hc hg hza hzc
 go_enter Tryz.func89, Tryz.ntmps89
 go_wp2
 go_loopw [11] (fun i wr => ∃ k : Nat, k ≤ C.length ∧ i = .int .i64 k ∧ Hid (∀ j y, j < k → C[j]? = some y → shC A y = false) ∧ Below w.heap.size w wr) (fun i _ => C.length - (intOf i).toNat)
 case atStart => exact ⟨0, Nat.zero_le _, rfl, fun j y h => absurd h (Nat.not_lt_zero j), Below.refl _ _⟩
 case round =>
  obtain ⟨k, hk, rfl, HJ, hw⟩ := hrel
  by_cases hlt : k < C.length
  ·obtain ⟨⟨⟨a, s⟩, ⟨n, d⟩⟩, hx⟩ : ∃ x, C[k]? = some x := ⟨_, List.getElem?_eq_getElem hlt⟩
   obtain ⟨b, o, rfl, k0, k1, k2, k3⟩ := (HC.out.below hw).rule hx
   have hzx := (HZC.out _ (List.mem_of_getElem? hx)).2
   have cf : ∀ V, Calls Tryz.prog 109 #[.string ⟨a.toArray⟩] V (GiveB V (isFree a)) := fun V => pfree_any ⟨a.toArray⟩ V
   have cg : ∀ V, Calls Tryz.prog 39 #[.agg #[.string ⟨n.toArray⟩, .string ⟨d.toArray⟩]] V (GiveI V (sgnR (n, d))) := fun V => qsign_any ⟨n.toArray⟩ ⟨d.toArray⟩ V (by rw [size_of]; exact Nat.le_trans hzx.1 (by decide)) (by rw [size_of]; exact Nat.le_trans hzx.2 (by decide))
   have cs := fun V (hv : Below wr.heap.size wr V) => psearch_any pa ca A a s n d V hca hla HG.out (HA.out.below (Below.more hw hv))
   clear hzx
   cases hf : isFree a with
   | true =>
    have HJ2 := Lib.hid (short_more HJ.out hx (shC_free hf))
    rw [hf] at cf
    have CF := Lib.hid cf
    clear cf cg cs hx hf
    have bw := Below.refl wr.heap.size wr
    go_upto_region 4 with fail
    obtain ⟨U, hU, bU, s1, r0, r1, r2, r3⟩ := lay4 (Below.refl wr.heap.size wr) (.string ⟨a.toArray⟩) (.string ⟨s.toArray⟩) (.string ⟨n.toArray⟩) (.string ⟨d.toArray⟩) 46
    rw [hU]; clear hU s1
    have HW := Lib.hid (Below.more hw bU)
    have b0 := Below.refl U.heap.size U
    clear hw k0 k1 k2 k3 bw
    clear bU
    go_wp2_with fail
    refine (CF.out _).mono ?_
    rintro e w1 ⟨rfl, b⟩
    have b1 := Below.more b0 b
    clear b
    go_wp2_with fail
    go_roundw
    case rel => exact ⟨k + 1, hlt, by go_num, HJ2.out, Below.more HW.out b1⟩
    case measure => simp [intOf]; omega
   | false =>
    by_cases hz : 0 < sgnR (n, d)
    ·have HJ2 := Lib.hid (short_more HJ.out hx (shC_more hz))
     rw [hf] at cf
     have hz' : 0 < sgnR (n, d) := hz
     generalize sgnR (n, d) = z at *
     have CF := Lib.hid cf; have CG := Lib.hid cg
     clear cf cg cs hx hf hz
     have bw := Below.refl wr.heap.size wr
     go_upto_region 4 with fail
     obtain ⟨U, hU, bU, s1, r0, r1, r2, r3⟩ := lay4 (Below.refl wr.heap.size wr) (.string ⟨a.toArray⟩) (.string ⟨s.toArray⟩) (.string ⟨n.toArray⟩) (.string ⟨d.toArray⟩) 46
     rw [hU]; clear hU s1
     have HW := Lib.hid (Below.more hw bU)
     have b0 := Below.refl U.heap.size U
     clear hw k0 k1 k2 k3 bw
     clear bU
     go_wp2_with fail
     refine (CF.out _).mono ?_
     rintro e w1 ⟨rfl, b⟩
     have b1 := Below.more b0 b
     clear b
     go_wp2_with fail
     refine (CG.out _).mono ?_
     rintro e w2 ⟨rfl, b⟩
     have b2 := Below.more b1 b
     clear b
     go_wp2_with fail
     go_roundw
     case rel => exact ⟨k + 1, hlt, by go_num, HJ2.out, Below.more HW.out b2⟩
     case measure => simp [intOf]; omega
    ·cases ht : thereB A (a, s) with
     | false =>
      have HJ2 := Lib.hid (short_more HJ.out hx (shC_out ht))
      rw [ht] at cs
      rw [hf] at cf
      generalize sgnR (n, d) = z at *
      generalize rank A (a, s) = rk at *
      have CF := Lib.hid cf; have CG := Lib.hid cg; have CS := Lib.hid cs
      clear cf cg cs hx hf ht
      have bw := Below.refl wr.heap.size wr
      go_upto_region 4 with fail
      obtain ⟨U, hU, bU, s1, r0, r1, r2, r3⟩ := lay4 (Below.refl wr.heap.size wr) (.string ⟨a.toArray⟩) (.string ⟨s.toArray⟩) (.string ⟨n.toArray⟩) (.string ⟨d.toArray⟩) 46
      rw [hU]; clear hU s1
      have HW := Lib.hid (Below.more hw bU)
      have b0 := Below.refl U.heap.size U
      clear hw k0 k1 k2 k3 bw
      go_wp2_with fail
      refine (CF.out _).mono ?_
      rintro e w1 ⟨rfl, b⟩
      have b1 := Below.more b0 b
      clear b
      go_wp2_with fail
      refine (CG.out _).mono ?_
      rintro e w2 ⟨rfl, b⟩
      have b2 := Below.more b1 b
      clear b
      go_wp2_with fail
      refine (CS.out _ (Below.more bU b2)).mono ?_
      rintro e w3 ⟨rfl, b⟩
      have b3 := Below.more b2 b
      clear b
      go_wp2_with fail
      go_roundw
      case rel => exact ⟨k + 1, hlt, by go_num, HJ2.out, Below.more HW.out b3⟩
      case measure => simp [intOf]; omega
     | true =>
      obtain ⟨q, hq, hraw⟩ : ∃ q, A[rank A (a, s)]? = some ((a, s), q) ∧ rawB A (a, s) = q := by
       rcases place HG.out (a, s) with ⟨_, p, h1, h2, _⟩ | ⟨h1, _⟩
       ·exact ⟨p, h1, by unfold rawB; rw [h2]⟩
       ·rw [ht] at h1; cases h1
      obtain ⟨q1, q2⟩ := q
      have hqz := (HZA.out _ (List.mem_of_getElem? hq)).2
      have cq : ∀ V, Calls Tryz.prog 39 #[.agg #[.string ⟨q1.toArray⟩, .string ⟨q2.toArray⟩]] V (GiveI V (sgnR (q1, q2))) := fun V => qsign_any ⟨q1.toArray⟩ ⟨q2.toArray⟩ V (by rw [size_of]; exact Nat.le_trans hqz.1 (by decide)) (by rw [size_of]; exact Nat.le_trans hqz.2 (by decide))
      obtain ⟨ba, oa, rfl, p0, p1, p2, p3⟩ := (HA.out.below hw).rule hq
      have hrk : (rank A (a, s) : Int) < (A.length : Int) := by have := (List.getElem?_eq_some_iff.1 hq).1; omega
      have hIn := fun v => shC_in (A := A) (c := ((a, s), (n, d))) (v := v) hf hz ht
      rw [hraw] at hIn
      by_cases hy : sgnR (q1, q2) < 0
      ·rw [ht] at cs
       rw [hf] at cf
       have HO := Lib.hid (short_hit hx (hIn true (decide_eq_true hy)))
       generalize sgnR (n, d) = z at *
       generalize sgnR (q1, q2) = y at *
       generalize rank A (a, s) = rk at *
       have CF := Lib.hid cf; have CG := Lib.hid cg; have CS := Lib.hid cs; have CQ := Lib.hid cq
       clear cf cg cs cq hx hf ht hIn hq hraw hqz
       have bw := Below.refl wr.heap.size wr
       go_upto_region 4 with fail
       obtain ⟨U, hU, bU, s1, r0, r1, r2, r3⟩ := lay4 (Below.refl wr.heap.size wr) (.string ⟨a.toArray⟩) (.string ⟨s.toArray⟩) (.string ⟨n.toArray⟩) (.string ⟨d.toArray⟩) 46
       rw [hU]; clear hU s1
       have HW := Lib.hid (Below.more hw bU)
       have b0 := Below.refl U.heap.size U
       clear hw k0 k1 k2 k3 bw
       have y2 := fun v (h : Below U.heap.size U v) => p2 v (Below.more bU h)
       have y3 := fun v (h : Below U.heap.size U v) => p3 v (Below.more bU h)
       clear p0 p1 p2 p3
       go_wp2_with fail
       refine (CF.out _).mono ?_
       rintro e w1 ⟨rfl, b⟩
       have b1 := Below.more b0 b
       clear b
       go_wp2_with fail
       refine (CG.out _).mono ?_
       rintro e w2 ⟨rfl, b⟩
       have b2 := Below.more b1 b
       clear b
       go_wp2_with fail
       refine (CS.out _ (Below.more bU b2)).mono ?_
       rintro e w3 ⟨rfl, b⟩
       have b3 := Below.more b2 b
       clear b
       clear bU
       go_wp2_with fail
       refine (CQ.out _).mono ?_
       rintro e w4 ⟨rfl, b⟩
       have b4 := Below.more b3 b
       clear b
       go_wp2_with fail
       go_ret
       exact ⟨ret_bool (by rw [HO.out]), Below.more HW.out b4⟩
      ·rw [ht] at cs
       rw [hf] at cf
       have HJ2 := Lib.hid (short_more HJ.out hx (hIn false (decide_eq_false hy)))
       generalize sgnR (n, d) = z at *
       generalize sgnR (q1, q2) = y at *
       generalize rank A (a, s) = rk at *
       have CF := Lib.hid cf; have CG := Lib.hid cg; have CS := Lib.hid cs; have CQ := Lib.hid cq
       clear cf cg cs cq hx hf ht hIn hq hraw hqz
       have bw := Below.refl wr.heap.size wr
       go_upto_region 4 with fail
       obtain ⟨U, hU, bU, s1, r0, r1, r2, r3⟩ := lay4 (Below.refl wr.heap.size wr) (.string ⟨a.toArray⟩) (.string ⟨s.toArray⟩) (.string ⟨n.toArray⟩) (.string ⟨d.toArray⟩) 46
       rw [hU]; clear hU s1
       have HW := Lib.hid (Below.more hw bU)
       have b0 := Below.refl U.heap.size U
       clear hw k0 k1 k2 k3 bw
       have y2 := fun v (h : Below U.heap.size U v) => p2 v (Below.more bU h)
       have y3 := fun v (h : Below U.heap.size U v) => p3 v (Below.more bU h)
       clear p0 p1 p2 p3
       go_wp2_with fail
       refine (CF.out _).mono ?_
       rintro e w1 ⟨rfl, b⟩
       have b1 := Below.more b0 b
       clear b
       go_wp2_with fail
       refine (CG.out _).mono ?_
       rintro e w2 ⟨rfl, b⟩
       have b2 := Below.more b1 b
       clear b
       go_wp2_with fail
       refine (CS.out _ (Below.more bU b2)).mono ?_
       rintro e w3 ⟨rfl, b⟩
       have b3 := Below.more b2 b
       clear b
       clear bU
       go_wp2_with fail
       refine (CQ.out _).mono ?_
       rintro e w4 ⟨rfl, b⟩
       have b4 := Below.more b3 b
       clear b
       go_wp2_with fail
       go_roundw
       case rel => exact ⟨k + 1, hlt, by go_num, HJ2.out, Below.more HW.out b4⟩
       case measure => simp [intOf]; omega
  ·obtain rfl : k = C.length := by omega
   have HO := Lib.hid (short_end HJ.out)
   have HW := Lib.hid hw
   clear hw HJ
   go_wp2_with fail
   go_ret
   exact ⟨ret_bool (by rw [HO.out]), HW.out⟩
end Go.Proofs.YtagfndkfjbbpjaaGreatDoor

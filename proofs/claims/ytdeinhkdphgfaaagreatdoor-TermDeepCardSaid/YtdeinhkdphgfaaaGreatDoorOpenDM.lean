/- Terms as a law's arguments: opened. -/
import Derived.Test.YtdeinhkdphgfaaaGreatDoorOpenAM
import Derived.Test.YtdeinhkdphgfaaaGreatDoorTermApi
import Derived.ScopeJumps
import Derived.Lib.Repeat
import Derived.Lib.TrimByte
import Derived.Test.YtdeinhkdphgfaaaGreatDoorAllRat2M
import Derived.Test.YtdeinhkdphgfaaaGreatDoorTermNum4M
import Derived.Test.YtdeinhkdphgfaaaGreatDoorDecNum2M
import Derived.Handed
import Derived.Lay
import Derived.Stop.LaidErr
import Derived.Shelf.Vars
namespace Go.Proofs.YtdeinhkdphgfaaaGreatDoor
open Go.ChangeShapes Go.WideShapes Go.RowKit Go.Joins Go.Deep
set_option maxRecDepth 100000
open Tm (Nd)
section
variable {H : Type} {enc : TypeId × Value → H} {w : World} {base : Nat} {sp : Nat → Bool} {held : Bool}
theorem cellsNode : Tryz.prog.cellsOf 41 = 6 := by kernel_rfl
theorem bytesNode : Tryz.prog.bytesOf 41 = 72 := by kernel_rfl
theorem one_intR {n : Nat} {c : Value} {y : DataW H × List MemPlace} (h : DataW.trod enc Tryz.prog w base sp held n 3 [c] = some y) : ∃ k : Int, c = .int .i64 k ∧ -9223372036854775808 ≤ k ∧ k ≤ 9223372036854775807 := by
 obtain ⟨k, e, _, hw⟩ := DataW.trod_int Tryz.underlying3 h
 have g : -9223372036854775808 ≤ k ∧ k ≤ 9223372036854775807 := by simpa [Lit.wf, IntKind.min, IntKind.max, IntKind.signed, IntKind.bits] using hw
 exact ⟨k, (List.cons.inj e).1, g⟩
theorem trod_node {n : Nat} {c0 c1 c2 c3 c4 c5 : Value} {x : DataW H × List MemPlace} (h : DataW.trod enc Tryz.prog w base sp held n 41 [c0, c1, c2, c3, c4, c5] = some x) :
  ∃ z : Nd, RgN z ∧ c0 = .int .i64 z.op ∧ c1 = .string ⟨z.num.1.toArray⟩ ∧ c2 = .string ⟨z.num.2.toArray⟩ ∧ c3 = .string ⟨z.ast.toArray⟩ ∧ c4 = .int .i64 z.a ∧ c5 = .int .i64 z.b := by
 obtain ⟨xs, m, _, rfl, hl, hlen, hf⟩ := DataW.trod_struct Tryz.underlying41 h
 match xs, hlen with
 | [y0, y1, y2, y3, y4], _ =>
  have h0 : DataW.trod enc Tryz.prog w base sp held m 3 (([c0, c1, c2, c3, c4, c5].drop 0).take (Tryz.prog.cellsOf 3)) = some y0 := hf 0 _ rfl
  have h1 : DataW.trod enc Tryz.prog w base sp held m 39 (([c0, c1, c2, c3, c4, c5].drop 1).take (Tryz.prog.cellsOf 39)) = some y1 := hf 1 _ rfl
  have h2 : DataW.trod enc Tryz.prog w base sp held m 9 (([c0, c1, c2, c3, c4, c5].drop 3).take (Tryz.prog.cellsOf 9)) = some y2 := hf 2 _ rfl
  have h3 : DataW.trod enc Tryz.prog w base sp held m 3 (([c0, c1, c2, c3, c4, c5].drop 4).take (Tryz.prog.cellsOf 3)) = some y3 := hf 3 _ rfl
  have h4 : DataW.trod enc Tryz.prog w base sp held m 3 (([c0, c1, c2, c3, c4, c5].drop 5).take (Tryz.prog.cellsOf 3)) = some y4 := hf 4 _ rfl
  rw [cellsInt] at h0 h3 h4
  rw [cellsStr] at h2
  rw [cellsRat] at h1
  obtain ⟨a0, rfl, r0⟩ := one_intR h0
  obtain ⟨a1, rfl, rfl⟩ := one_rat h1
  obtain ⟨a2, rfl⟩ := one_str h2
  obtain ⟨a3, rfl, r3⟩ := one_intR h3
  obtain ⟨a4, rfl, r4⟩ := one_intR h4
  exact ⟨Nd.mk a0 a1 a2 a3 a4, ⟨r0, r3, r4⟩, rfl, rfl, rfl, rfl, rfl, rfl⟩
theorem open_term {v : Value} {d : DataW H} {p : List MemPlace} (hv : ∃ (q : Option Addr) (l c : Nat), v = .slice q l c) (h : DataW.Trod enc Tryz.prog w 0 (fun _ => true) held 23 v d p) :
  ∃ (q : Option Addr) (c : Nat) (t : List Nd), v = .slice q t.length c ∧ t.length ≤ c ∧ Nds w q t ∧ Hid (∀ x ∈ t, RgN x) ∧ (d = .nil ∧ t = [] ∨ ∃ es rest, d = .slice es rest ∧ es.length = t.length) := by
 obtain ⟨q0, l0, c0, rfl⟩ := hv
 obtain ⟨fuel, hf⟩ := h
 have hf : DataW.trod enc Tryz.prog w 0 (fun _ => true) held fuel 23 [.slice q0 l0 c0] = some (d, p) := hf
 rcases open_slice Tryz.underlying23 hf with ⟨hcs, hx⟩ | ⟨a, len, cap, m, n, D, Pl, hcs, _, hl, hm, hmm, hx, hel⟩
 ·simp only [List.cons.injEq, Value.slice.injEq, and_true] at hcs
  obtain ⟨rfl, rfl, rfl⟩ := hcs
  exact ⟨none, 0, [], rfl, Nat.le_refl _, RowsG.nil _ _, Lib.hid (fun x h => by cases h), .inl ⟨(Prod.mk.inj hx).1, rfl⟩⟩
 ·simp only [List.cons.injEq, Value.slice.injEq, and_true] at hcs
  obtain ⟨rfl, rfl, rfl⟩ := hcs
  simp only [if_true] at hmm
  subst hmm
  rw [show Tryz.prog.cellsOf _ = 6 from cellsNode] at hel
  have hline : ∀ i, i < l0 → ∃ z : Nd, RgN z ∧ w.cell? (a.add (i * 6)) = some (.int .i64 z.op) ∧ w.cell? ((a.add (i * 6)).add 1) = some (.string ⟨z.num.1.toArray⟩) ∧ w.cell? ((a.add (i * 6)).add 2) = some (.string ⟨z.num.2.toArray⟩) ∧ w.cell? ((a.add (i * 6)).add 3) = some (.string ⟨z.ast.toArray⟩) ∧ w.cell? ((a.add (i * 6)).add 4) = some (.int .i64 z.a) ∧ w.cell? ((a.add (i * 6)).add 5) = some (.int .i64 z.b) := fun i hi => by
   obtain ⟨cs, h1, h2⟩ := hel i (by omega)
   obtain ⟨_, hlen, hc⟩ := World.cells?_some h1
   match cs, hlen with
   | [x0, x1, x2, x3, x4, x5], _ =>
    obtain ⟨z, hz, rfl, rfl, rfl, rfl, rfl, rfl⟩ := trod_node h2
    exact ⟨z, hz, hc 0 (by decide), hc 1 (by decide), hc 2 (by decide), hc 3 (by decide), hc 4 (by decide), hc 5 (by decide)⟩
  obtain ⟨L, hL⟩ := @choose_lt Nd ⟨Nd.mk 0 ([], []) [] 0 0⟩ _ _ hline
  have hlen : ((List.range l0).map L).length = l0 := by rw [List.length_map, List.length_range]
  refine ⟨some a, _, (List.range l0).map L, by rw [hlen], by rw [hlen]; exact hl, fun j x hx2 => ?_, Lib.hid fun x hx2 => ?_, .inr ⟨_, _, (Prod.mk.inj hx).1, by rw [List.length_map, List.length_map]⟩⟩
  ·have hj : j < l0 := by
    have := (List.getElem?_eq_some_iff.1 hx2).1
    rw [hlen] at this; exact this
   have hx3 : x = L j := by
    rw [List.getElem?_map, List.getElem?_range hj] at hx2
    exact (Option.some.inj hx2).symm
   subst hx3
   obtain ⟨_, g0, g1, g2, g3, g4, g5⟩ := hL j hj
   obtain ⟨_, k0, _⟩ := hL 0 (by omega)
   have hs : a.spot = none := by
    have := World.cell?_spot k0
    simpa [Addr.add] using this
   obtain ⟨b, o, s⟩ := a
   obtain rfl : s = none := hs
   rw [Addr.add_lit] at g0
   rw [Addr.add_lit, Addr.add_lit] at g1 g2 g3 g4 g5
   refine ⟨b, o, rfl, World.block_lt_of_cell? w ⟨b, o + j * 6, none⟩ g0, fun i v hv => ?_⟩
   match i, hv with
   | 0, hv => cases hv; exact g0
   | 1, hv => cases hv; exact g1
   | 2, hv => cases hv; exact g2
   | 3, hv => cases hv; exact g3
   | 4, hv => cases hv; exact g4
   | 5, hv => cases hv; exact g5
  ·obtain ⟨i, hi, rfl⟩ := List.mem_map.1 hx2
   exact (hL i (List.mem_range.1 hi)).1
end
end Go.Proofs.YtdeinhkdphgfaaaGreatDoor
/- The program's decimals: what its calls want of the world; digits, padding. -/
namespace Go.Proofs.YtdeinhkdphgfaaaGreatDoor
open Go.RowKit
structure GoodD (w : World) : Prop where
 max : ∃ m, w.cell? ⟨3, 0, none⟩ = some (.int .i64 m)
 p0 : w.cell? ⟨2, 0, none⟩ = some (.string ⟨#[53, 51, 54, 56, 55, 48, 57, 49, 50]⟩)
 p1 : w.cell? ⟨2, 1, none⟩ = some (.int .i64 29)
 p2 : w.cell? ⟨2, 2, none⟩ = some (.string ⟨#[50]⟩)
 p3 : w.cell? ⟨2, 3, none⟩ = some (.int .i64 1)
 p4 : w.cell? ⟨2, 4, none⟩ = some (.string ⟨#[50, 52, 52, 49, 52, 48, 54, 50, 53]⟩)
 p5 : w.cell? ⟨2, 5, none⟩ = some (.int .i64 12)
 p6 : w.cell? ⟨2, 6, none⟩ = some (.string ⟨#[53]⟩)
 p7 : w.cell? ⟨2, 7, none⟩ = some (.int .i64 1)
 lm : 3 < w.heap.size
 lp : 2 < w.heap.size
theorem GoodD.below {w w' : World} (h : GoodD w) (hb : Below w.heap.size w w') : GoodD w' :=
 ⟨h.max.imp fun _ e => (hb.cell (p := ⟨3, 0, none⟩) h.lm).trans e,
  (hb.cell (p := ⟨2, 0, none⟩) h.lp).trans h.p0, (hb.cell (p := ⟨2, 1, none⟩) h.lp).trans h.p1,
  (hb.cell (p := ⟨2, 2, none⟩) h.lp).trans h.p2, (hb.cell (p := ⟨2, 3, none⟩) h.lp).trans h.p3,
  (hb.cell (p := ⟨2, 4, none⟩) h.lp).trans h.p4, (hb.cell (p := ⟨2, 5, none⟩) h.lp).trans h.p5,
  (hb.cell (p := ⟨2, 6, none⟩) h.lp).trans h.p6, (hb.cell (p := ⟨2, 7, none⟩) h.lp).trans h.p7,
  Nat.lt_of_lt_of_le h.lm hb.size, Nat.lt_of_lt_of_le h.lp hb.size⟩
theorem repeat_any (k : Nat) (w : World) (hk : k ≤ 4000000) :
  Calls Tryz.prog 92 #[.string ⟨#[48]⟩, .int .i64 (k : Int)] w (GiveS w (List.replicate k 48)) := by
 have c := Tryz.strings_Repeat ⟨#[48]⟩ k w (by omega) (by show 1 * k ≤ _; omega)
 have e : Lib.repeatL (⟨#[48]⟩ : ByteArray).data.toList k = List.replicate k 48 := by
  have h := Lib.repeatL_replicate 48 1 k
  rw [Nat.mul_one] at h
  exact h
 rw [e] at c
 exact c
theorem pad_text2 (k : Nat) (l : List UInt8) (S : ByteArray) (hS : S.data.toList = l) : ((⟨(List.replicate (k + 1 - l.length) 48).toArray⟩ : ByteArray) ++ S).data.toList = padD (k + 1) l := by
 rw [ba_append, hS]; rfl
theorem pt_text2 {S : ByteArray} {k M : Nat} {l : List UInt8} (hs : S.data.toList = l) (hm : S.size = M + k) :
  S.extract 0 M ++ (⟨#[46]⟩ : ByteArray) ++ S.extract M S.size = ⟨(ptD k l).toArray⟩ := by
 have h := pt_text (S := S) (sg := ⟨#[]⟩) (b := false) hs hm rfl
 have e : (⟨#[]⟩ : ByteArray) ++ S.extract 0 M = S.extract 0 M := bytes_eq (by rw [ba_append]; rfl)
 rw [e] at h
 exact h
set_option maxRecDepth 100000 in
set_option maxHeartbeats 1000000 in
theorem pointed_any (s : ByteArray) (k : Nat) (w : World) (hs : s.size ≤ 1000000) (hk : k ≤ 1000000) :
  Calls Tryz.prog 93 #[.string s, .int .i64 (k : Int)] w (GiveS w (bodyD k s.data.toList)) := by
 by_cases h0 : k = 0
 ·subst h0
  have hr : bodyD 0 s.data.toList = s.data.toList := rfl
  rw [hr]
  go_enter Tryz.func93, Tryz.ntmps93
  go_wp2_with fail
  go_ret
  exact ⟨ret_str (same_text s), Below.refl _ _⟩
 ·have hr : bodyD k s.data.toList = ptD k (padD (k + 1) s.data.toList) := by unfold bodyD; rw [if_neg h0]
  rw [hr]
  have hk' : ¬ (k : Int) = 0 := by omega
  have hmx : max (0 : Int) ((k : Int) + 1 - (s.size : Int)) = ((k + 1 - s.size : Nat) : Int) := by omega
  have c0 : ∀ w, Calls Tryz.prog 92 #[.string ⟨#[48]⟩, .int .i64 ((k + 1 - s.size : Nat) : Int)] w fun e w' => e = .returned (.string ⟨(List.replicate (k + 1 - s.size) 48).toArray⟩) ∧ Below w.heap.size w w' := fun w => repeat_any _ w (by omega)
  have hp : ((⟨(List.replicate (k + 1 - s.size) 48).toArray⟩ : ByteArray) ++ s).data.toList = padD (k + 1) s.data.toList := pad_text2 k s.data.toList s rfl
  have hz : (⟨(List.replicate (k + 1 - s.size) 48).toArray⟩ : ByteArray).size = k + 1 - s.size := by rw [size_of, List.length_replicate]
  generalize (⟨(List.replicate (k + 1 - s.size) 48).toArray⟩ : ByteArray) = Z at *
  obtain ⟨M, hm⟩ : ∃ M, k + 1 - s.size + s.size = M + k := ⟨k + 1 - s.size + s.size - k, by omega⟩
  have hzs : (Z ++ s).size = M + k := by rw [ByteArray.size_append, hz, hm]
  have hr2 := pt_text2 (k := k) hp hzs
  have hMb : M ≤ 2000000 := by omega
  have hmi : (Z.size : Int) + (s.size : Int) - (k : Int) = (M : Int) := by omega
  have hx2 : ¬ 9223372036854775807 < Z.size + s.size := by omega
  have hx3 : Z.size + s.size = M + k := by omega
  have C0 := Lib.hid c0; have HR := Lib.hid hr2
  clear c0 hr2 hp hr h0 hz hm
  go_enter Tryz.func93, Tryz.ntmps93
  go_wp2_with fail
  refine (C0.out _).mono ?_
  rintro e w1 ⟨rfl, b⟩
  clear hmx
  go_wp2_with fail
  clear hx3 hmi hx2
  generalize Z ++ s = T at *
  go_quiet (fail)
  go_wp2_with fail
  go_ret
  exact ⟨ret_str (by have := HR.out; rw [hzs] at this; exact this), Below.drewN (by with_reducible assumption) _⟩
end Go.Proofs.YtdeinhkdphgfaaaGreatDoor
/- The world at a law's start: the row's list and the world's shape give what the program's decimals want. -/
namespace Go.Proofs.YtdeinhkdphgfaaaGreatDoor
open Go.ChangeShapes Go.WideShapes Go.RowKit Go.Joins
set_option maxRecDepth 100000
section
variable {H : Type} {enc : TypeId × Value → H}
end
theorem gPow : Tryz.prog.globalNamed "debenture/decimal.powers" = some 2 := by kernel_rfl
theorem gPowType : (Tryz.prog.globals[2]?).map (·.type) = some 114 := by kernel_rfl
theorem cellsPow : Tryz.prog.cellsOf 114 = 8 := by kernel_rfl
theorem cellsPair : Tryz.prog.cellsOf 113 = 2 := by kernel_rfl
theorem cellsIntD : Tryz.prog.cellsOf 3 = 1 := by kernel_rfl
theorem pair_cells {W : World} {fuel : Nat} {a b : Value} {l : List UInt8} {z : Int} {x : DataW Unit × List MemPlace} (h : DataW.trod (fun _ => ()) Tryz.prog W 0 (fun _ => true) false fuel 113 [a, b] = some x) (hx : x.1 = .agg [.lit (.string l), .lit (.int .i64 z)]) :
  a = .string ⟨l.toArray⟩ ∧ b = .int .i64 z := by
 obtain ⟨y0, y1, n, rfl, _, h0, h1⟩ := trod_struct2 Tryz.underlying113 h
 rw [show Tryz.prog.cellsOf _ = 1 from cellsStr] at h0
 rw [show Tryz.prog.cellsOf _ = 1 from cellsIntD] at h1
 obtain ⟨s, e0, rfl, _⟩ := DataW.trod_string Tryz.underlying9 h0
 obtain ⟨m, e1, rfl, _⟩ := DataW.trod_int Tryz.underlying3 h1
 have f0 : [a] = [Value.string s] := e0
 have f1 : [b] = [Value.int .i64 m] := e1
 simp only [DataW.agg.injEq, List.cons.injEq, DataW.lit.injEq, Lit.string.injEq, Lit.int.injEq, and_true, true_and] at hx
 obtain ⟨hl, hz⟩ := hx
 refine ⟨?_, ?_⟩
 ·rw [List.cons.inj f0 |>.1, ← hl]
 ·rw [List.cons.inj f1 |>.1, hz]
theorem goodD_of {x0 : String × DataW Unit} {r : List (String × DataW Unit)} {W : World} (hL : laidMet Tryz.prog (x0 :: ("debenture/decimal.powers", Rows.laid_debenture_decimal_powers) :: r) W) (hS : W.ShapedOpen Tryz.prog) : GoodD W := by
 have hM : ∃ m, W.cell? ⟨3, 0, none⟩ = some (.int .i64 m) := cell_of_shapedOpen_int (zero := #[.int .i64 0]) (t := 3) hS (of_decide_eq_true (by kernel_rfl)) (by kernel_rfl) rfl (by kernel_rfl) (by kernel_rfl) Tryz.underlying3
 obtain ⟨_, ⟨g, t, cs, fuel, p, _, hg, ht, hv, hd, _, _⟩, _⟩ := hL.tail
 obtain rfl := Option.some.inj (gPow.symm.trans hg)
 obtain rfl := Option.some.inj (gPowType.symm.trans ht)
 obtain ⟨xs, m, _, hx, hl, hxl, hi⟩ := DataW.trod_array Tryz.underlying114 hd
 rw [cellsPow] at hl
 have h0 := hi 0 (by decide)
 have h1 := hi 1 (by decide)
 have h2 := hi 2 (by decide)
 have h3 := hi 3 (by decide)
 rw [cellsPair] at h0 h1 h2 h3
 have hc : ∀ j, W.cell? ⟨2, j, none⟩ = cs.toList[j]? := fun j => by
  rw [World.var?_cell gPow hv j, Array.getElem?_toList]
 have hlt := var_lt gPow hv
 generalize cs.toList = L at *
 match L, hl with
 | [a0, b0, a1, b1, a2, b2, a3, b3], _ =>
  match xs, hxl with
  | [y0, y1, y2, y3], _ =>
   have ha := (Prod.mk.inj hx).1
   have ha : Rows.laid_debenture_decimal_powers = DataW.agg [y0.1, y1.1, y2.1, y3.1] := ha
   unfold Rows.laid_debenture_decimal_powers at ha
   simp only [DataW.agg.injEq, List.cons.injEq, and_true] at ha
   obtain ⟨k0, k1, k2, k3⟩ := ha
   obtain ⟨u0, v0⟩ := pair_cells h0 k0.symm
   obtain ⟨u1, v1⟩ := pair_cells h1 k1.symm
   obtain ⟨u2, v2⟩ := pair_cells h2 k2.symm
   obtain ⟨u3, v3⟩ := pair_cells h3 k3.symm
   refine ⟨hM, ?_, ?_, ?_, ?_, ?_, ?_, ?_, ?_, ?_, hlt⟩
   ·rw [hc, u0]; rfl
   ·rw [hc, v0]; rfl
   ·rw [hc, u1]; rfl
   ·rw [hc, v1]; rfl
   ·rw [hc, u2]; rfl
   ·rw [hc, v2]; rfl
   ·rw [hc, u3]; rfl
   ·rw [hc, v3]; rfl
   ·obtain ⟨m, hm⟩ := hM
    exact World.block_lt_of_cell? W ⟨3, 0, none⟩ hm
end Go.Proofs.YtdeinhkdphgfaaaGreatDoor

/- Instructions, and rows of them, as a law's arguments: opened. -/
import Derived.Test.YtagfndkfjbbpjaaGreatDoorOpenB
import Derived.Test.YtagfndkfjbbpjaaGreatDoorAllRefI
namespace Go.Proofs.YtagfndkfjbbpjaaGreatDoor
open Go.ChangeShapes Go.WideShapes Go.RowKit Go.Joins Go.Deep
set_option maxRecDepth 100000
section
variable {H : Type} {enc : TypeId × Value → H} {w : World} {base : Nat} {sp : Nat → Bool} {held : Bool}
theorem cellsIns : Tryz.prog.cellsOf 37 = 10 := by kernel_rfl
theorem bytesIns : Tryz.prog.bytesOf 37 = 136 := by kernel_rfl
theorem cellsInt : Tryz.prog.cellsOf 3 = 1 := by kernel_rfl
theorem one_int {n : Nat} {c : Value} {y : DataW H × List MemPlace} (h : DataW.trod enc Tryz.prog w base sp held n 3 [c] = some y) : ∃ k : Int, c = .int .i64 k := by
 obtain ⟨k, e, _, _⟩ := DataW.trod_int Tryz.underlying3 h
 exact ⟨k, (List.cons.inj e).1⟩
theorem one_str {n : Nat} {c : Value} {y : DataW H × List MemPlace} (h : DataW.trod enc Tryz.prog w base sp held n 9 [c] = some y) : ∃ k : List UInt8, c = .string ⟨k.toArray⟩ := by
 obtain ⟨s, e, _, _⟩ := DataW.trod_string Tryz.underlying9 h
 exact ⟨s.data.toList, by rw [(List.cons.inj e).1, str_list]⟩
theorem one_rat {n : Nat} {c c' : Value} {y : DataW H × List MemPlace} (h : DataW.trod enc Tryz.prog w base sp held n 35 [c, c'] = some y) : ∃ k : Key, c = .string ⟨k.1.toArray⟩ ∧ c' = .string ⟨k.2.toArray⟩ := by
 obtain ⟨u0, u1, k, _, _, g0, g1⟩ := trod_struct2 Tryz.underlying35 h
 rw [show Tryz.prog.cellsOf _ = 1 from cellsStr] at g0 g1
 obtain ⟨a, rfl⟩ := one_str g0
 obtain ⟨b, rfl⟩ := one_str g1
 exact ⟨(a, b), rfl, rfl⟩
theorem trod_ins {n : Nat} {c0 c1 c2 c3 c4 c5 c6 c7 c8 c9 : Value} {x : DataW H × List MemPlace} (h : DataW.trod enc Tryz.prog w base sp held n 37 [c0, c1, c2, c3, c4, c5, c6, c7, c8, c9] = some x) :
  ∃ z : In, c0 = .int .i64 z.id ∧ c1 = .int .i64 z.dealt ∧ c2 = .int .i64 z.due ∧ c3 = .string ⟨z.frm.toArray⟩ ∧ c4 = .string ⟨z.dst.toArray⟩ ∧ c5 = .string ⟨z.ast.toArray⟩ ∧ c6 = .string ⟨z.q.1.toArray⟩ ∧ c7 = .string ⟨z.q.2.toArray⟩ ∧ c8 = .string ⟨z.pay.1.toArray⟩ ∧ c9 = .string ⟨z.pay.2.toArray⟩ := by
 obtain ⟨xs, m, _, rfl, hl, hlen, hf⟩ := DataW.trod_struct Tryz.underlying37 h
 match xs, hlen with
 | [y0, y1, y2, y3, y4, y5, y6, y7], _ =>
  have h0 : DataW.trod enc Tryz.prog w base sp held m 3 (([c0, c1, c2, c3, c4, c5, c6, c7, c8, c9].drop 0).take (Tryz.prog.cellsOf 3)) = some y0 := hf 0 _ rfl
  have h1 : DataW.trod enc Tryz.prog w base sp held m 3 (([c0, c1, c2, c3, c4, c5, c6, c7, c8, c9].drop 1).take (Tryz.prog.cellsOf 3)) = some y1 := hf 1 _ rfl
  have h2 : DataW.trod enc Tryz.prog w base sp held m 3 (([c0, c1, c2, c3, c4, c5, c6, c7, c8, c9].drop 2).take (Tryz.prog.cellsOf 3)) = some y2 := hf 2 _ rfl
  have h3 : DataW.trod enc Tryz.prog w base sp held m 9 (([c0, c1, c2, c3, c4, c5, c6, c7, c8, c9].drop 3).take (Tryz.prog.cellsOf 9)) = some y3 := hf 3 _ rfl
  have h4 : DataW.trod enc Tryz.prog w base sp held m 9 (([c0, c1, c2, c3, c4, c5, c6, c7, c8, c9].drop 4).take (Tryz.prog.cellsOf 9)) = some y4 := hf 4 _ rfl
  have h5 : DataW.trod enc Tryz.prog w base sp held m 9 (([c0, c1, c2, c3, c4, c5, c6, c7, c8, c9].drop 5).take (Tryz.prog.cellsOf 9)) = some y5 := hf 5 _ rfl
  have h6 : DataW.trod enc Tryz.prog w base sp held m 35 (([c0, c1, c2, c3, c4, c5, c6, c7, c8, c9].drop 6).take (Tryz.prog.cellsOf 35)) = some y6 := hf 6 _ rfl
  have h7 : DataW.trod enc Tryz.prog w base sp held m 35 (([c0, c1, c2, c3, c4, c5, c6, c7, c8, c9].drop 8).take (Tryz.prog.cellsOf 35)) = some y7 := hf 7 _ rfl
  rw [cellsInt] at h0 h1 h2
  rw [cellsStr] at h3 h4 h5
  rw [cellsRat] at h6 h7
  obtain ⟨a0, rfl⟩ := one_int h0
  obtain ⟨a1, rfl⟩ := one_int h1
  obtain ⟨a2, rfl⟩ := one_int h2
  obtain ⟨a3, rfl⟩ := one_str h3
  obtain ⟨a4, rfl⟩ := one_str h4
  obtain ⟨a5, rfl⟩ := one_str h5
  obtain ⟨a6, rfl, rfl⟩ := one_rat h6
  obtain ⟨a7, rfl, rfl⟩ := one_rat h7
  exact ⟨In.mk a0 a1 a2 a3 a4 a5 a6 a7, rfl, rfl, rfl, rfl, rfl, rfl, rfl, rfl, rfl, rfl⟩
theorem array10 {cs : Array Value} (h : cs.size = 10) : ∃ a b c d e f g i j k, cs = #[a, b, c, d, e, f, g, i, j, k] := by
 obtain ⟨l⟩ := cs
 match l, h with
 | [a, b, c, d, e, f, g, i, j, k], _ => exact ⟨a, b, c, d, e, f, g, i, j, k, rfl⟩
theorem open_ins {r : Reach} {b0 : Nat} {v : Value} {d : DataW H} {p : List MemPlace} (hv : Value.okWide Tryz.prog w r b0 37 v) (h : DataW.Trod enc Tryz.prog w base sp held 37 v d p) :
  ∃ x : In, v = .agg #[.int .i64 x.id, .int .i64 x.dealt, .int .i64 x.due, .string ⟨x.frm.toArray⟩, .string ⟨x.dst.toArray⟩, .string ⟨x.ast.toArray⟩, .string ⟨x.q.1.toArray⟩, .string ⟨x.q.2.toArray⟩, .string ⟨x.pay.1.toArray⟩, .string ⟨x.pay.2.toArray⟩] := by
 obtain ⟨cs, rfl, hsz⟩ := okWide_struct Tryz.underlying37 hv
 obtain ⟨c0, c1, c2, c3, c4, c5, c6, c7, c8, c9, rfl⟩ := array10 (hsz.trans cellsIns)
 obtain ⟨fuel, hf⟩ := h
 obtain ⟨z, rfl, rfl, rfl, rfl, rfl, rfl, rfl, rfl, rfl, rfl⟩ := trod_ins hf
 exact ⟨z, rfl⟩
theorem open_inss {v : Value} {d : DataW H} {p : List MemPlace} (hv : ∃ (q : Option Addr) (l c : Nat), v = .slice q l c) (h : DataW.Trod enc Tryz.prog w 0 (fun _ => true) held 24 v d p) :
  ∃ (q : Option Addr) (c : Nat) (ls : List In), v = .slice q ls.length c ∧ ls.length ≤ c ∧ Ins w q ls ∧ (d = .nil ∧ ls = [] ∨ ∃ es rest, d = .slice es rest ∧ es.length = ls.length) := by
 obtain ⟨q0, l0, c0, rfl⟩ := hv
 obtain ⟨fuel, hf⟩ := h
 have hf : DataW.trod enc Tryz.prog w 0 (fun _ => true) held fuel 24 [.slice q0 l0 c0] = some (d, p) := hf
 rcases open_slice Tryz.underlying24 hf with ⟨hcs, hx⟩ | ⟨a, len, cap, m, n, D, Pl, hcs, _, hl, hm, hmm, hx, hel⟩
 ·simp only [List.cons.injEq, Value.slice.injEq, and_true] at hcs
  obtain ⟨rfl, rfl, rfl⟩ := hcs
  exact ⟨none, 0, [], rfl, Nat.le_refl _, Ins.nil _ _, .inl ⟨(Prod.mk.inj hx).1, rfl⟩⟩
 ·simp only [List.cons.injEq, Value.slice.injEq, and_true] at hcs
  obtain ⟨rfl, rfl, rfl⟩ := hcs
  simp only [if_true] at hmm
  subst hmm
  rw [show Tryz.prog.cellsOf _ = 10 from cellsIns] at hel
  have hline : ∀ i, i < l0 → ∃ z : In, w.cell? (a.add (i * 10)) = some (.int .i64 z.id) ∧ w.cell? ((a.add (i * 10)).add 1) = some (.int .i64 z.dealt) ∧ w.cell? ((a.add (i * 10)).add 2) = some (.int .i64 z.due) ∧ w.cell? ((a.add (i * 10)).add 3) = some (.string ⟨z.frm.toArray⟩) ∧ w.cell? ((a.add (i * 10)).add 4) = some (.string ⟨z.dst.toArray⟩) ∧ w.cell? ((a.add (i * 10)).add 5) = some (.string ⟨z.ast.toArray⟩) ∧ w.cell? ((a.add (i * 10)).add 6) = some (.string ⟨z.q.1.toArray⟩) ∧ w.cell? ((a.add (i * 10)).add 7) = some (.string ⟨z.q.2.toArray⟩) ∧ w.cell? ((a.add (i * 10)).add 8) = some (.string ⟨z.pay.1.toArray⟩) ∧ w.cell? ((a.add (i * 10)).add 9) = some (.string ⟨z.pay.2.toArray⟩) := fun i hi => by
   obtain ⟨cs, h1, h2⟩ := hel i (by omega)
   obtain ⟨_, hlen, hc⟩ := World.cells?_some h1
   match cs, hlen with
   | [x0, x1, x2, x3, x4, x5, x6, x7, x8, x9], _ =>
    obtain ⟨z, rfl, rfl, rfl, rfl, rfl, rfl, rfl, rfl, rfl, rfl⟩ := trod_ins h2
    exact ⟨z, hc 0 (by decide), hc 1 (by decide), hc 2 (by decide), hc 3 (by decide), hc 4 (by decide), hc 5 (by decide), hc 6 (by decide), hc 7 (by decide), hc 8 (by decide), hc 9 (by decide)⟩
  obtain ⟨L, hL⟩ := @choose_lt In ⟨In.mk 0 0 0 [] [] [] ([], []) ([], [])⟩ _ _ hline
  have hlen : ((List.range l0).map L).length = l0 := by rw [List.length_map, List.length_range]
  refine ⟨some a, _, (List.range l0).map L, by rw [hlen], by rw [hlen]; exact hl, fun j x hx2 => ?_, .inr ⟨_, _, (Prod.mk.inj hx).1, by rw [List.length_map, List.length_map]⟩⟩
  have hj : j < l0 := by
   have := (List.getElem?_eq_some_iff.1 hx2).1
   rw [hlen] at this; exact this
  have hx3 : x = L j := by
   rw [List.getElem?_map, List.getElem?_range hj] at hx2
   exact (Option.some.inj hx2).symm
  subst hx3
  obtain ⟨g0, g1, g2, g3, g4, g5, g6, g7, g8, g9⟩ := hL j hj
  obtain ⟨k0, _⟩ := hL 0 (by omega)
  have hs : a.spot = none := by
   have := World.cell?_spot k0
   simpa [Addr.add] using this
  obtain ⟨b, o, s⟩ := a
  obtain rfl : s = none := hs
  rw [Addr.add_lit] at g0
  rw [Addr.add_lit, Addr.add_lit] at g1 g2 g3 g4 g5 g6 g7 g8 g9
  refine ⟨b, o, rfl, ?_, g0, g1, g2, g3, g4, g5, g6, g7, g8, g9⟩
  exact World.block_lt_of_cell? w ⟨b, o + j * 10, none⟩ g0
end
end Go.Proofs.YtagfndkfjbbpjaaGreatDoor

/- Books and lines as a law's arguments: opened to their texts. -/
import Derived.Deep.Slices
import Derived.Deep.Strs
import Derived.SizedLaws
import Derived.Carry
import Derived.Test.YtagfndkfjbbpjaaGreatDoorOpenQ
import Derived.Test.YtagfndkfjbbpjaaGreatDoorAllRefB2
namespace Go.Proofs.YtagfndkfjbbpjaaGreatDoor
open Go.ChangeShapes Go.WideShapes Go.RowKit Go.Joins Go.Deep
set_option maxRecDepth 100000
section
variable {H : Type} {enc : TypeId × Value → H} {w : World} {base : Nat} {sp : Nat → Bool} {held : Bool}
theorem laidOutT : laidOutB Tryz.prog = true := by kernel_rfl
theorem cellsLine : Tryz.prog.cellsOf 46 = 4 := by kernel_rfl
theorem bytesLine : Tryz.prog.bytesOf 46 = 64 := by kernel_rfl
theorem str_list (s : ByteArray) : Value.string s = .string ⟨s.data.toList.toArray⟩ := by rw [Array.toArray_toList]
theorem trod_line {n : Nat} {c0 c1 c2 c3 : Value} {x : DataW H × List MemPlace} (h : DataW.trod enc Tryz.prog w base sp held n 46 [c0, c1, c2, c3] = some x) :
  ∃ z : Ln, c0 = .string ⟨z.1.1.toArray⟩ ∧ c1 = .string ⟨z.1.2.toArray⟩ ∧ c2 = .string ⟨z.2.1.toArray⟩ ∧ c3 = .string ⟨z.2.2.toArray⟩ := by
 obtain ⟨y0, y1, y2, m, _, _, h0, h1, h2⟩ := trod_struct3 Tryz.underlying46 h
 rw [show Tryz.prog.cellsOf _ = 1 from cellsStr] at h0 h1
 rw [show Tryz.prog.cellsOf _ = 2 from cellsRat] at h2
 obtain ⟨s0, e0, _, _⟩ := DataW.trod_string Tryz.underlying9 h0
 obtain ⟨s1, e1, _, _⟩ := DataW.trod_string Tryz.underlying9 h1
 obtain ⟨u0, u1, k, _, _, g0, g1⟩ := trod_struct2 Tryz.underlying35 h2
 rw [show Tryz.prog.cellsOf _ = 1 from cellsStr] at g0 g1
 obtain ⟨s2, e2, _, _⟩ := DataW.trod_string Tryz.underlying9 g0
 obtain ⟨s3, e3, _, _⟩ := DataW.trod_string Tryz.underlying9 g1
 have f0 : [c0] = [Value.string s0] := e0
 have f1 : [c1] = [Value.string s1] := e1
 have f2 : [c2] = [Value.string s2] := e2
 have f3 : [c3] = [Value.string s3] := e3
 exact ⟨((s0.data.toList, s1.data.toList), (s2.data.toList, s3.data.toList)), by rw [(List.cons.inj f0).1, str_list], by rw [(List.cons.inj f1).1, str_list], by rw [(List.cons.inj f2).1, str_list], by rw [(List.cons.inj f3).1, str_list]⟩
theorem open_book {v : Value} {d : DataW H} {p : List MemPlace} (hv : ∃ (q : Option Addr) (l c : Nat), v = .slice q l c) (h : DataW.Trod enc Tryz.prog w 0 (fun _ => true) held 23 v d p) :
  ∃ (q : Option Addr) (c : Nat) (ls : List Ln), v = .slice q ls.length c ∧ ls.length ≤ c ∧ Lns w q ls ∧ (d = .nil ∧ ls = [] ∨ ∃ es rest, d = .slice es rest ∧ es.length = ls.length) := by
 obtain ⟨q0, l0, c0, rfl⟩ := hv
 obtain ⟨fuel, hf⟩ := h
 have hf : DataW.trod enc Tryz.prog w 0 (fun _ => true) held fuel 23 [.slice q0 l0 c0] = some (d, p) := hf
 rcases open_slice Tryz.underlying23 hf with ⟨hcs, hx⟩ | ⟨a, len, cap, m, n, D, Pl, hcs, _, hl, hm, hmm, hx, hel⟩
 ·simp only [List.cons.injEq, Value.slice.injEq, and_true] at hcs
  obtain ⟨rfl, rfl, rfl⟩ := hcs
  exact ⟨none, 0, [], rfl, Nat.le_refl _, Lns.nil _ _, .inl ⟨(Prod.mk.inj hx).1, rfl⟩⟩
 ·simp only [List.cons.injEq, Value.slice.injEq, and_true] at hcs
  obtain ⟨rfl, rfl, rfl⟩ := hcs
  simp only [if_true] at hmm
  subst hmm
  rw [show Tryz.prog.cellsOf _ = 4 from cellsLine] at hel
  have hline : ∀ i, i < l0 → ∃ z : Ln, w.cell? (a.add (i * 4)) = some (.string ⟨z.1.1.toArray⟩) ∧ w.cell? ((a.add (i * 4)).add 1) = some (.string ⟨z.1.2.toArray⟩) ∧ w.cell? ((a.add (i * 4)).add 2) = some (.string ⟨z.2.1.toArray⟩) ∧ w.cell? ((a.add (i * 4)).add 3) = some (.string ⟨z.2.2.toArray⟩) := fun i hi => by
   obtain ⟨cs, h1, h2⟩ := hel i (by omega)
   obtain ⟨_, hlen, hc⟩ := World.cells?_some h1
   match cs, hlen with
   | [x0, x1, x2, x3], _ =>
    obtain ⟨z, rfl, rfl, rfl, rfl⟩ := trod_line h2
    exact ⟨z, hc 0 (by decide), hc 1 (by decide), hc 2 (by decide), hc 3 (by decide)⟩
  obtain ⟨L, hL⟩ := choose_lt (α := Ln) hline
  have hlen : ((List.range l0).map L).length = l0 := by rw [List.length_map, List.length_range]
  refine ⟨some a, _, (List.range l0).map L, by rw [hlen], by rw [hlen]; exact hl, fun j x hx2 => ?_, .inr ⟨_, _, (Prod.mk.inj hx).1, by rw [List.length_map, List.length_map]⟩⟩
  have hj : j < l0 := by
   have := (List.getElem?_eq_some_iff.1 hx2).1
   rw [hlen] at this; exact this
  have hx3 : x = L j := by
   rw [List.getElem?_map, List.getElem?_range hj] at hx2
   exact (Option.some.inj hx2).symm
  subst hx3
  obtain ⟨g0, g1, g2, g3⟩ := hL j hj
  obtain ⟨k0, _⟩ := hL 0 (by omega)
  have hs : a.spot = none := by
   have := World.cell?_spot k0
   simpa [Addr.add] using this
  obtain ⟨b, o, s⟩ := a
  obtain rfl : s = none := hs
  rw [Addr.add_lit] at g0
  rw [Addr.add_lit, Addr.add_lit] at g1 g2 g3
  refine ⟨b, o, rfl, ?_, g0, g1, g2, g3⟩
  exact World.block_lt_of_cell? w ⟨b, o + j * 4, none⟩ g0
end
end Go.Proofs.YtagfndkfjbbpjaaGreatDoor

/- Rows of lines, and of texts, as a law's arguments: opened. -/
import Derived.Test.YtamibckbebifkaaGreatDoorOpenB
namespace Go.Proofs.YtamibckbebifkaaGreatDoor
open Go.ChangeShapes Go.WideShapes Go.RowKit Go.Joins Go.Deep
set_option maxRecDepth 100000
section
variable {H : Type} {enc : TypeId × Value → H} {w : World} {base : Nat} {sp : Nat → Bool} {held : Bool}
/-- A row of lines that can be read, of whatever type: they lie one behind the other. -/
theorem open_rows {ty : TypeId} (hu : Tryz.prog.underlying ty = some (.slice 33)) {v : Value} {d : DataW H} {p : List MemPlace} (hv : ∃ (q : Option Addr) (l c : Nat), v = .slice q l c) (h : DataW.Trod enc Tryz.prog w 0 (fun _ => true) held ty v d p) :
    ∃ (q : Option Addr) (c : Nat) (ls : List Ln), v = .slice q ls.length c ∧ ls.length ≤ c ∧ Lns w q ls ∧ (d = .nil ∧ ls = [] ∨ ∃ es rest, d = .slice es rest ∧ es.length = ls.length) := by
  obtain ⟨q0, l0, c0, rfl⟩ := hv
  obtain ⟨fuel, hf⟩ := h
  have hf : DataW.trod enc Tryz.prog w 0 (fun _ => true) held fuel ty [.slice q0 l0 c0] = some (d, p) := hf
  rcases open_slice hu hf with ⟨hcs, hx⟩ | ⟨a, len, cap, m, n, D, Pl, hcs, _, hl, hm, hmm, hx, hel⟩
  · simp only [List.cons.injEq, Value.slice.injEq, and_true] at hcs
    obtain ⟨rfl, rfl, rfl⟩ := hcs
    exact ⟨none, 0, [], rfl, Nat.le_refl _, Lns.nil _ _, .inl ⟨(Prod.mk.inj hx).1, rfl⟩⟩
  · simp only [List.cons.injEq, Value.slice.injEq, and_true] at hcs
    obtain ⟨rfl, rfl, rfl⟩ := hcs
    simp only [if_true] at hmm
    subst hmm
    rw [show Tryz.prog.cellsOf _ = 4 from cellsLine] at hel
    have hline : ∀ i, i < l0 → ∃ z : Ln, w.cell? (a.add (i * 4)) = some (.string ⟨z.1.1.toArray⟩) ∧ w.cell? ((a.add (i * 4)).add 1) = some (.string ⟨z.1.2.toArray⟩) ∧ w.cell? ((a.add (i * 4)).add 2) = some (.string ⟨z.2.1.toArray⟩) ∧ w.cell? ((a.add (i * 4)).add 3) = some (.string ⟨z.2.2.toArray⟩) := fun i hi => by
      obtain ⟨cs, h1, h2⟩ := hel i (by omega)
      obtain ⟨_, hlen, hc⟩ := World.cells?_some h1
      match cs, hlen with
      | [x0, x1, x2, x3], _ =>
        obtain ⟨z, rfl, rfl, rfl, rfl⟩ := trod_line h2
        exact ⟨z, hc 0 (by decide), hc 1 (by decide), hc 2 (by decide), hc 3 (by decide)⟩
    obtain ⟨L, hL⟩ := choose_lt (α := Ln) hline
    have hlen : ((List.range l0).map L).length = l0 := by rw [List.length_map, List.length_range]
    refine ⟨some a, _, (List.range l0).map L, by rw [hlen], by rw [hlen]; exact hl, fun j x hx2 => ?_, .inr ⟨_, _, (Prod.mk.inj hx).1, by rw [List.length_map, List.length_map]⟩⟩
    have hj : j < l0 := by
      have := (List.getElem?_eq_some_iff.1 hx2).1
      rw [hlen] at this; exact this
    have hx3 : x = L j := by
      rw [List.getElem?_map, List.getElem?_range hj] at hx2
      exact (Option.some.inj hx2).symm
    subst hx3
    obtain ⟨g0, g1, g2, g3⟩ := hL j hj
    obtain ⟨k0, _⟩ := hL 0 (by omega)
    have hs : a.spot = none := by
      have := World.cell?_spot k0
      simpa [Addr.add] using this
    obtain ⟨b, o, s⟩ := a
    obtain rfl : s = none := hs
    rw [Addr.add_lit] at g0
    rw [Addr.add_lit, Addr.add_lit] at g1 g2 g3
    refine ⟨b, o, rfl, ?_, g0, g1, g2, g3⟩
    exact World.block_lt_of_cell? w ⟨b, o + j * 4, none⟩ g0
end
end Go.Proofs.YtamibckbebifkaaGreatDoor

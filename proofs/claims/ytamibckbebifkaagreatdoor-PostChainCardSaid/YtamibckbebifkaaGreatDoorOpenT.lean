/- A row of texts as a law's argument: opened. -/
import Derived.Test.YtamibckbebifkaaGreatDoorOpenB
import Derived.Test.YtamibckbebifkaaGreatDoorWChain7
namespace Go.Proofs.YtamibckbebifkaaGreatDoor
open Go.ChangeShapes Go.WideShapes Go.RowKit Go.Joins Go.Deep
set_option maxRecDepth 100000
section
variable {H : Type} {enc : TypeId × Value → H} {w : World} {base : Nat} {sp : Nat → Bool} {held : Bool}
/-- A row of texts that can be read: they lie one behind the other. -/
theorem open_texts {v : Value} {d : DataW H} {p : List MemPlace} (hv : ∃ (q : Option Addr) (l c : Nat), v = .slice q l c) (h : DataW.Trod enc Tryz.prog w 0 (fun _ => true) held 43 v d p) :
    ∃ (q : Option Addr) (c : Nat) (ns : List (List UInt8)), v = .slice q ns.length c ∧ ns.length ≤ c ∧ Txs w q ns ∧ ∀ u ∈ ns, u.length ≤ 9223372036854775807 := by
  obtain ⟨q0, l0, c0, rfl⟩ := hv
  obtain ⟨fuel, hf⟩ := h
  have hf : DataW.trod enc Tryz.prog w 0 (fun _ => true) held fuel 43 [.slice q0 l0 c0] = some (d, p) := hf
  rcases open_slice1 Tryz.underlying43 cellsStr hf with ⟨hcs, hx⟩ | ⟨a, len, cap, m, n, V, D, Pl, hcs, _, hl, hm, hmm, hx, hel⟩
  · simp only [List.cons.injEq, Value.slice.injEq, and_true] at hcs
    obtain ⟨rfl, rfl, rfl⟩ := hcs
    exact ⟨none, 0, [], rfl, Nat.le_refl _, (fun j u hu => by cases hu), fun u hu => by cases hu⟩
  · simp only [List.cons.injEq, Value.slice.injEq, and_true] at hcs
    obtain ⟨rfl, rfl, rfl⟩ := hcs
    simp only [if_true] at hmm
    subst hmm
    have hone : ∀ i, i < l0 → ∃ u : List UInt8, w.cell? (a.add i) = some (.string ⟨u.toArray⟩) ∧ u.length ≤ 9223372036854775807 := fun i hi => by
      obtain ⟨h1, h2⟩ := hel i (by omega)
      obtain ⟨s, e, _, hs⟩ := DataW.trod_string Tryz.underlying9 h2
      have f : V i = .string s := (List.cons.inj e).1
      refine ⟨s.data.toList, by rw [h1, f, str_list], ?_⟩
      rw [Array.length_toList]
      exact hs
    obtain ⟨L, hL⟩ := choose_lt (α := List UInt8) hone
    have hlen : ((List.range l0).map L).length = l0 := by rw [List.length_map, List.length_range]
    have hat : ∀ j u, ((List.range l0).map L)[j]? = some u → j < l0 ∧ u = L j := fun j u hx2 => by
      have hj : j < l0 := by
        have := (List.getElem?_eq_some_iff.1 hx2).1
        rw [hlen] at this; exact this
      rw [List.getElem?_map, List.getElem?_range hj] at hx2
      exact ⟨hj, (Option.some.inj hx2).symm⟩
    refine ⟨some a, _, (List.range l0).map L, by rw [hlen], by rw [hlen]; exact hl, fun j x hx2 => ?_, fun u hu => ?_⟩
    · obtain ⟨hj, rfl⟩ := hat j x hx2
      obtain ⟨g0, _⟩ := hL j hj
      have hs : a.spot = none := by
        have := World.cell?_spot (hL 0 (by omega)).1
        simpa [Addr.add] using this
      obtain ⟨b, o, s⟩ := a
      obtain rfl : s = none := hs
      rw [Addr.add_lit] at g0
      refine ⟨b, o, rfl, ?_, g0⟩
      exact World.block_lt_of_cell? w ⟨b, o + j, none⟩ g0
    · obtain ⟨j, hx2⟩ := List.getElem?_of_mem hu
      obtain ⟨hj, rfl⟩ := hat j u hx2
      exact (hL j hj).2
end
end Go.Proofs.YtamibckbebifkaaGreatDoor

/- Rows of tokens as a law's arguments: opened to their texts. -/
import Derived.Test.YtcckifhloabpkaaDoorRows
import Derived.Test.YtcckifhloabpkaaDoorOpenA
import Derived.Test.YtcckifhloabpkaaDoorAllRefL4
namespace Go.Proofs.YtcckifhloabpkaaDoor
open Go.ChangeShapes Go.WideShapes Go.RowKit Go.Joins Go.Deep
set_option maxRecDepth 100000
section
variable {H : Type} {enc : TypeId × Value → H} {w : World} {base : Nat} {sp : Nat → Bool} {held : Bool}
theorem cellsTok : Tryd.prog.cellsOf 31 = 4 := by kernel_rfl
theorem cellsInt1 : Tryd.prog.cellsOf 3 = 1 := by kernel_rfl
theorem bytesTok : Tryd.prog.bytesOf 31 = 40 := by kernel_rfl
theorem trod_tok {n : Nat} {c0 c1 c2 c3 : Value} {x : DataW H × List MemPlace} (h : DataW.trod enc Tryd.prog w base sp held n 31 [c0, c1, c2, c3] = some x) :
    ∃ u : List UInt8, c1 = .string ⟨u.toArray⟩ ∧ u.length ∈ x.1.weights Tryd.prog 31 ∧ u.length ≤ Rows.uptoBulk x.1 ∧ (∃ z : Int, c0 = .int .i64 z) ∧ (∃ z : Int, c2 = .int .i64 z) ∧ ∃ z : Int, c3 = .int .i64 z := by
  obtain ⟨xs, m, _, rfl, hl, hlen, hf⟩ := DataW.trod_struct Tryd.underlying31 h
  match xs, hlen with
  | [y0, y1, y2, y3], _ =>
    have h1 : DataW.trod enc Tryd.prog w base sp held m 9 (([c0, c1, c2, c3].drop 1).take (Tryd.prog.cellsOf 9)) = some y1 := hf 1 _ rfl
    rw [cellsStr] at h1
    obtain ⟨s, e, hy, _⟩ := DataW.trod_string Tryd.underlying9 h1
    have g0 : DataW.trod enc Tryd.prog w base sp held m 3 (([c0, c1, c2, c3].drop 0).take (Tryd.prog.cellsOf 3)) = some y0 := hf 0 _ rfl
    have g2 : DataW.trod enc Tryd.prog w base sp held m 3 (([c0, c1, c2, c3].drop 2).take (Tryd.prog.cellsOf 3)) = some y2 := hf 2 _ rfl
    have g3 : DataW.trod enc Tryd.prog w base sp held m 3 (([c0, c1, c2, c3].drop 3).take (Tryd.prog.cellsOf 3)) = some y3 := hf 3 _ rfl
    rw [cellsInt1] at g0 g2 g3
    obtain ⟨z0, e0, _, _⟩ := DataW.trod_int Tryd.underlying3 g0
    obtain ⟨z2, e2, _, _⟩ := DataW.trod_int Tryd.underlying3 g2
    obtain ⟨z3, e3, _, _⟩ := DataW.trod_int Tryd.underlying3 g3
    refine ⟨s.data.toList, by rw [(List.cons.inj e).1, str_list], ?_, ?_, ⟨z0, (List.cons.inj e0).1⟩, ⟨z2, (List.cons.inj e2).1⟩, ⟨z3, (List.cons.inj e3).1⟩⟩
    · simp only [DataW.weights, Tryd.underlying31]
      refine DataW.weights_mem_each (j := 1) (t := 9) (d := .lit (.string s.data.toList)) rfl (by rw [List.map_cons, List.map_cons, hy]; rfl) _ (by simp [DataW.weights])
    · rw [List.map_cons, List.map_cons, hy]
      simp only [Rows.uptoBulk, Rows.uptoBulkAll]
      omega
theorem bulk_part {d : DataW H} {l : List (DataW H)} (h : d ∈ l) : Rows.uptoBulk d ≤ Rows.uptoBulkAll l := by
  induction l with
  | nil => cases h
  | cons x r ih =>
    simp only [Rows.uptoBulkAll]
    rcases List.mem_cons.1 h with rfl | e
    · omega
    · have := ih e; omega
/-- A row of tokens that can be read: their texts. -/
theorem open_toks {v : Value} {d : DataW H} {p : List MemPlace} (hv : ∃ (q : Option Addr) (l c : Nat), v = .slice q l c) (h : DataW.Trod enc Tryd.prog w 0 (fun _ => true) held 22 v d p) :
    ∃ (q : Option Addr) (c : Nat) (ns : List (List UInt8)), v = .slice q ns.length c ∧ ns.length ≤ c ∧ TkTx w q ns ∧ (∀ u ∈ ns, u.length ∈ d.weights Tryd.prog 22) ∧ (∀ u ∈ ns, u.length ≤ Rows.uptoBulk d) ∧ (d = .nil ∧ ns = [] ∨ ∃ es rest, d = .slice es rest ∧ es.length = ns.length) := by
  obtain ⟨q0, l0, c0, rfl⟩ := hv
  obtain ⟨fuel, hf⟩ := h
  have hf : DataW.trod enc Tryd.prog w 0 (fun _ => true) held fuel 22 [.slice q0 l0 c0] = some (d, p) := hf
  rcases open_slice Tryd.underlying22 hf with ⟨hcs, hx⟩ | ⟨a, len, cap, m, n, D, Pl, hcs, _, hl, hm, hmm, hx, hel⟩
  · simp only [List.cons.injEq, Value.slice.injEq, and_true] at hcs
    obtain ⟨rfl, rfl, rfl⟩ := hcs
    exact ⟨none, 0, [], rfl, Nat.le_refl _, (fun j u hu => by cases hu), (fun u hu => by cases hu), (fun u hu => by cases hu), .inl ⟨(Prod.mk.inj hx).1, rfl⟩⟩
  · simp only [List.cons.injEq, Value.slice.injEq, and_true] at hcs
    obtain ⟨rfl, rfl, rfl⟩ := hcs
    simp only [if_true] at hmm
    subst hmm
    rw [show Tryd.prog.cellsOf _ = 4 from cellsTok] at hel
    have hone : ∀ i, i < l0 → ∃ u : List UInt8, w.cell? ((a.add (i * 4)).add 1) = some (.string ⟨u.toArray⟩) ∧ (∃ z : Int, w.cell? (a.add (i * 4)) = some (.int .i64 z)) ∧ ((∃ z : Int, w.cell? ((a.add (i * 4)).add 2) = some (.int .i64 z)) ∧ ∃ z : Int, w.cell? ((a.add (i * 4)).add 3) = some (.int .i64 z)) ∧ u.length ∈ (D i).weights Tryd.prog 31 ∧ u.length ≤ Rows.uptoBulk (D i) := fun i hi => by
      obtain ⟨cs, h1, h2⟩ := hel i (by omega)
      obtain ⟨_, hlen, hc⟩ := World.cells?_some h1
      match cs, hlen with
      | [x0, x1, x2, x3], _ =>
        obtain ⟨u, rfl, hu, hu2, ⟨z0, rfl⟩, ⟨z2, rfl⟩, ⟨z3, rfl⟩⟩ := trod_tok h2
        exact ⟨u, hc 1 (by decide), ⟨_, hc 0 (by decide)⟩, ⟨⟨_, hc 2 (by decide)⟩, ⟨_, hc 3 (by decide)⟩⟩, hu, hu2⟩
    obtain ⟨L, hL⟩ := choose_lt (α := List UInt8) hone
    have hlen : ((List.range l0).map L).length = l0 := by rw [List.length_map, List.length_range]
    have hat : ∀ j u, ((List.range l0).map L)[j]? = some u → j < l0 ∧ u = L j := fun j u hx2 => by
      have hj : j < l0 := by
        have := (List.getElem?_eq_some_iff.1 hx2).1
        rw [hlen] at this; exact this
      rw [List.getElem?_map, List.getElem?_range hj] at hx2
      exact ⟨hj, (Option.some.inj hx2).symm⟩
    obtain ⟨hd, _⟩ := Prod.mk.inj hx
    refine ⟨some a, _, (List.range l0).map L, by rw [hlen], by rw [hlen]; exact hl, fun j x hx2 => ?_, fun u hu => ?_, fun u hu => ?_, .inr ⟨_, _, hd, by rw [List.length_map, List.length_map]⟩⟩
    · obtain ⟨hj, rfl⟩ := hat j x hx2
      obtain ⟨g0, ⟨z0, k0⟩, ⟨⟨z2, k2⟩, ⟨z3, k3⟩⟩, _⟩ := hL j hj
      have hs : a.spot = none := by
        obtain ⟨_, ⟨z1, k1⟩, _⟩ := hL 0 (by omega)
        have := World.cell?_spot k1
        simpa [Addr.add] using this
      obtain ⟨b, o, s⟩ := a
      obtain rfl : s = none := hs
      rw [Addr.add_lit, Addr.add_lit] at g0 k2 k3
      rw [Addr.add_lit] at k0
      refine ⟨b, o, rfl, ?_, g0, z0, z2, z3, k0, k2, k3⟩
      exact World.block_lt_of_cell? w ⟨b, o + j * 4 + 1, none⟩ g0
    · obtain ⟨j, hx2⟩ := List.getElem?_of_mem hu
      obtain ⟨hj, rfl⟩ := hat j u hx2
      rw [hd]
      simp only [DataW.weights, Tryd.underlying22]
      refine List.mem_cons_of_mem _ (List.mem_append_left _ (weight_all (d := D j) ?_ (hL j hj).2.2.2.1))
      exact List.mem_map.2 ⟨j, List.mem_range.2 hj, rfl⟩
    · obtain ⟨j, hx2⟩ := List.getElem?_of_mem hu
      obtain ⟨hj, rfl⟩ := hat j u hx2
      rw [hd]
      simp only [Rows.uptoBulk]
      have h1 := (hL j hj).2.2.2.2
      have h2 : D j ∈ (List.range l0).map D := List.mem_map.2 ⟨j, List.mem_range.2 hj, rfl⟩
      have h3 := bulk_part h2
      omega
end
end Go.Proofs.YtcckifhloabpkaaDoor

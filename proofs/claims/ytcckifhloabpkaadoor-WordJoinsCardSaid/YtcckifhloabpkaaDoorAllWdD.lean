/- The program's print of tokens; that its answers are the document's. -/
import Derived.Deep.CutRange
import Derived.Test.YtcckifhloabpkaaDoorAllWdC
import Derived.Test.YtcckifhloabpkaaDoorShelf
namespace Go.Proofs.YtcckifhloabpkaaDoor
open Go.RowKit
open Wd (printT)
set_option linter.unusedSimpArgs false
set_option linter.unusedVariables false
theorem join_print : ∀ ns : List (List UInt8), Lib.join ns [32] = printT ns
  | [] => rfl
  | [x] => Lib.join_one x [32]
  | x :: y :: r => by
    have k := join_print (y :: r)
    rw [Lib.join_cons] at k ⊢
    show x ++ Lib.joinTail [32] (y :: r) = x ++ 32 :: printT (y :: r)
    rw [← k]
    rfl
/-- A row of n texts that may be written. -/
def StF (w : World) (b n : Nat) : Prop := ∀ j, j < n → (∃ x, w.cell? ⟨b, j, none⟩ = some (.string x)) ∧ w.frozen? ⟨b, j, none⟩ = false
/-- The first k stand there. -/
def StX (w : World) (b : Nat) (ns : List (List UInt8)) (k : Nat) : Prop := ∀ j u, j < k → ns[j]? = some u → w.cell? ⟨b, j, none⟩ = some (.string ⟨u.toArray⟩)
theorem StF.below {w w' : World} {b n : Nat} (h : StF w b n) (hl : b < w.heap.size) (hb : Below w.heap.size w w') : StF w' b n := fun j hj => by
  have e := hb.block b hl
  obtain ⟨⟨x, hx⟩, hf⟩ := h j hj
  exact ⟨⟨x, (World.cell?_of_block e).trans hx⟩, (World.frozen?_of_block e).trans hf⟩
theorem StX.below {w w' : World} {b k : Nat} {ns : List (List UInt8)} (h : StX w b ns k) (hl : b < w.heap.size) (hb : Below w.heap.size w w') : StX w' b ns k := fun j u hj hu => (World.cell?_of_block (hb.block b hl)).trans (h j u hj hu)
theorem StF.set {w : World} {b n : Nat} (h : StF w b n) {i : Nat} (x : ByteArray) (hi : i < n) : StF (w.setCell ⟨b, i, none⟩ (.string x)) b n := fun j hj => by
  refine ⟨?_, (World.frozen?_setCell _ _ _ _).trans (h j hj).2⟩
  by_cases e : i = j
  · subst e
    obtain ⟨y, hy⟩ := (h i hi).1
    exact ⟨x, World.cell?_setCell_same' _ _ _ (by rw [hy]; rfl)⟩
  · rw [cell?_setCell_ne _ _ _ _ _ e]
    exact (h j hj).1
theorem StX.set {w : World} {b n i : Nat} {ns : List (List UInt8)} {u : List UInt8} (h : StX w b ns i) (hb : StF w b n) (hi : i < n) (hu : ns[i]? = some u) : StX (w.setCell ⟨b, i, none⟩ (.string ⟨u.toArray⟩)) b ns (i + 1) := fun j x hj hx => by
  by_cases e : i = j
  · subst e
    rw [hu] at hx
    obtain rfl := Option.some.inj hx
    obtain ⟨y, hy⟩ := (hb i hi).1
    exact World.cell?_setCell_same' _ _ _ (by rw [hy]; rfl)
  · rw [cell?_setCell_ne _ _ _ _ _ e]
    exact h j x (by omega) hx
structure MadeS (w w' : World) (n : Nat) : Prop where
  size : w'.heap.size = w.heap.size + 1
  row : StF w' w.heap.size n
  below : Below w.heap.size w w'
theorem madeS (w : World) (n t : Nat) : MadeS w (w.alloc (.cells (madeCells #[.string ⟨#[]⟩] n) t)) n := by
  have hb := World.alloc_heap_new w (.cells (madeCells #[.string ⟨#[]⟩] n) t)
  have hl : (madeCells #[Value.string ⟨#[]⟩] n).toList = List.replicate n (.string ⟨#[]⟩) := toList_madeCells_one _ _
  refine ⟨by simp, fun j hj => ⟨⟨⟨#[]⟩, ?_⟩, ?_⟩, (Below.refl _ _).alloc (Nat.le_refl _) _⟩
  · rw [cell_of_row _ _ _ _ _ _ hb, ← Array.getElem?_toList, hl]
    simp [hj]
  · unfold World.frozen?
    rw [hb]
    simp
theorem info_str : (Tryd.prog.info? 9).map (fun i => (i.zero, i.size, i.bytes)) = some (some (.string ⟨#[]⟩), 1, 16) := by kernel_rfl
theorem wpList_make_texts (w : World) {ops : Array Oper} {rest : List Oper} {o : Oper} {a : Act} {Q : Exit → Act → World → Prop}
    (hg : o.guard = none) (l c : Operand) (hop : o.op = Op.makeSlice 46 l c) (kl kc : IntKind) (L C : Int) (n : Nat) (hl : a.eval l = .int kl L) (hc : a.eval c = .int kc C) (hL : L = (n : Int)) (hC : C = (n : Int))
    (h : n ≤ 10000000) (hK : ∀ w', MadeS w w' n → wpList Tryd.prog ops Q rest (a.put o.dst (.slice (some ⟨w.heap.size, 0, none⟩) n n)) w') :
    wpList Tryd.prog ops Q (o :: rest) a w := by
  obtain ⟨i, hi, hz0, hz1, hz2⟩ := info_parts info_str
  subst hL
  subst hC
  exact wpList_make_row w hg l c 46 hop 9 i (.string ⟨#[]⟩) Tryd.underlying46 hi hz0 hz1 rfl kl kc n hl hc (by rw [hz2]; omega) (by omega) (hK _ (madeS w n 9))
theorem layT (w : World) (v0 v1 v2 v3 : Value) (t : TypeId) : ∃ U, w.alloc (.cells #[v0, v1, v2, v3] t) = U ∧ Below w.heap.size w U ∧ ∀ V, Below U.heap.size U V → V.cell? ⟨w.heap.size, 1, none⟩ = some v1 := by
  refine ⟨_, rfl, (Below.refl _ _).alloc (Nat.le_refl _) _, fun V hb => ?_⟩
  have h : w.heap.size < (w.alloc (.cells #[v0, v1, v2, v3] t)).heap.size := by simp
  exact (hb.cell (p := ⟨w.heap.size, 1, none⟩) h).trans ((cell_new w _ _ _ rfl 1).trans rfl)
set_option maxRecDepth 100000 in
set_option maxHeartbeats 4000000 in
theorem wprint_any (p : Option Addr) (c : Nat) (ns : List (List UInt8)) (w : World) (hc : ns.length ≤ c) (hn : ns.length ≤ 10000) (hp : (printT ns).length ≤ 140737488355328) (h : TkTx w p ns) : Calls Tryd.prog 12 #[.slice p ns.length c] w (GiveSt w (printT ns)) := by
  have HS := Lib.hid h
  have cj := fun (V : World) (hx : StX V w.heap.size ns ns.length) (hb : w.heap.size < V.heap.size) => Tryd.strings_Join w.heap.size 0 ns.length (ns.map fun u => (⟨u.toArray⟩ : ByteArray)) ⟨#[32]⟩ V
    (fun j x hj => by
      rw [List.getElem?_map] at hj
      cases e : ns[j]? with
      | none => rw [e] at hj; cases hj
      | some u =>
        rw [e] at hj
        obtain rfl := Option.some.inj hj
        rw [Nat.zero_add]
        exact hx j u ((List.getElem?_eq_some_iff.1 e).1) e) hb (by rw [List.length_map]; omega) (by rw [List.length_map]; exact Nat.le_refl _)
  have hm : ((ns.map fun u => (⟨u.toArray⟩ : ByteArray)).map (·.data.toList)) = ns := by
    rw [List.map_map]
    exact (List.map_congr_left fun u _ => rfl).trans (List.map_id ns)
  rw [hm, List.length_map] at cj
  have cj : ∀ (V : World), StX V w.heap.size ns ns.length → w.heap.size < V.heap.size → Calls Tryd.prog 21 #[.slice (some ⟨w.heap.size, 0, none⟩) ns.length ns.length, .string ⟨#[32]⟩] V (GiveSt V (printT ns)) := fun V h1 h2 => by
    have k := cj V h1 h2 (by rw [show (⟨#[32]⟩ : ByteArray).data.toList = [32] from rfl, join_print]; exact hp)
    rw [show (⟨#[32]⟩ : ByteArray).data.toList = [32] from rfl, join_print] at k
    exact k
  have CJ := Lib.hid cj
  clear cj hm h hp
  go_enter Tryd.func12, Tryd.ntmps12
  go_wp2_with (at_make; refine wpList_make_texts _ rfl _ _ rfl _ _ _ _ ns.length rfl rfl (by omega) (by omega) (by omega) ?_; intro w1 hmade)
  have hms := hmade.size
  have hmr := hmade.row
  have hmb := hmade.below
  clear hmade
  go_loopw [11] (fun i W => ∃ k : Nat, k ≤ ns.length ∧ i = .int .i64 k ∧ StF W w.heap.size ns.length ∧ StX W w.heap.size ns k ∧ w.heap.size < W.heap.size ∧ Below w.heap.size w W) (fun i _ => ns.length - (intOf i).toNat)
  case atStart => exact ⟨0, Nat.zero_le _, rfl, hmr, fun j _ h => absurd h (by omega), by omega, hmb⟩
  case round =>
    obtain ⟨k, hk, rfl, hrow, htx, hgl, hbw⟩ := hrel
    by_cases hlt : k < ns.length
    · obtain ⟨u, hu⟩ : ∃ u, ns[k]? = some u := ⟨_, List.getElem?_eq_getElem hlt⟩
      obtain ⟨b, o, rfl, hl, k1, x, y, z, k0, k2, k3⟩ := (HS.out.below hbw) k u hu
      have HR := Lib.hid hrow; have HT := Lib.hid htx; have HBW := Lib.hid hbw; have HU := Lib.hid hu
      clear hrow htx hbw hu hmr
      go_upto_region 5 with fail
      obtain ⟨U, hU, bU, hr⟩ := layT wr (.int .i64 x) (.string ⟨u.toArray⟩) (.int .i64 y) (.int .i64 z) 31
      rw [hU]
      have q1 := hr U (Below.refl _ _)
      have hrow := HR.out.below hgl bU
      have htx := HT.out.below hgl bU
      have hgU : w.heap.size < U.heap.size := Nat.lt_of_lt_of_le hgl bU.size
      have hbw := Below.more HBW.out bU
      obtain ⟨⟨y0, hy⟩, hfr⟩ := hrow k hlt
      have HR2 := Lib.hid (hrow.set ⟨u.toArray⟩ hlt)
      have HT2 := Lib.hid (htx.set hrow hlt HU.out)
      have HW2 := Lib.hid (hbw.trans ((Wr.one U w.heap.size k (.string ⟨u.toArray⟩)).below (Nat.le_refl _) hbw.size))
      have HS2 := Lib.hid (show w.heap.size < (U.setCell ⟨w.heap.size, k, none⟩ (.string ⟨u.toArray⟩)).heap.size by rw [size_setCell]; exact hgU)
      clear hU hr hrow htx hbw HR HT bU HBW k0 k1 k2 k3 HU
      go_wp2_with fail
      go_roundw
      case rel => exact ⟨k + 1, hlt, by go_num, HR2.out, HT2.out, HS2.out, HW2.out⟩
      case measure => simp [intOf]; omega
    · obtain rfl : k = ns.length := by omega
      have c1 := CJ.out _ htx hgl
      have C1 := Lib.hid c1
      have HBW := Lib.hid hbw
      clear c1 CJ hrow htx hmr
      go_wp2_with fail
      refine C1.out.mono ?_
      rintro e w2 ⟨rfl, b2⟩
      go_wp2_with fail
      go_ret
      exact ⟨rfl, Below.more HBW.out b2⟩
end Go.Proofs.YtcckifhloabpkaaDoor

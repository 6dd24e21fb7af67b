/- nat.digits: the text of a number's limbs. -/
import Derived.Deep.QuietTactic
import Derived.BigQuiet
import Derived.Test.YtcekdidefomkfaaDoorSum
import Derived.Test.YtcekdidefomkfaaDoorNumT
import Derived.Test.YtcekdidefomkfaaDoorShelf
namespace Go.Proofs.YtcekdidefomkfaaDoor
open Go.RowKit

/-- A row of n bytes that may be written. -/
def ByF (w : World) (b n : Nat) : Prop := ∀ j, j < n → (∃ x, w.cell? ⟨b, j, none⟩ = some (.int .u8 x)) ∧ w.frozen? ⟨b, j, none⟩ = false
/-- From behind, q digits stand there. -/
def Tx (w : World) (b n : Nat) (f : Nat → Nat) (q : Nat) : Prop := ∀ j, j < n → n - 1 - j < q → w.cell? ⟨b, j, none⟩ = some (.int .u8 ((48 + f (n - 1 - j) : Nat) : Int))
structure MadeB (w w' : World) (n : Nat) : Prop where
  size : w'.heap.size = w.heap.size + 1
  row : ByF w' w.heap.size n
  below : Below w.heap.size w w'
theorem madeB (w : World) (n t : Nat) : MadeB w (w.alloc (.cells (madeCells #[.int .u8 0] n) t)) n := by
  have hb := World.alloc_heap_new w (.cells (madeCells #[.int .u8 0] n) t)
  have hl : (madeCells #[Value.int .u8 0] n).toList = List.replicate n (.int .u8 0) := toList_madeCells_one _ _
  refine ⟨by simp, fun j hj => ⟨⟨0, ?_⟩, ?_⟩, (Below.refl _ _).alloc (Nat.le_refl _) _⟩
  · rw [cell_of_row _ _ _ _ _ _ hb, ← Array.getElem?_toList, hl]
    simp [hj]
  · unfold World.frozen?
    rw [hb]
    simp
theorem info_u8 : (Tryd.prog.info? 5).map (fun i => (i.zero, i.size, i.bytes)) = some (some (.int .u8 0), 1, 1) := by kernel_rfl
theorem wpList_make_bytes (w : World) {ops : Array Oper} {rest : List Oper} {o : Oper} {a : Act} {Q : Exit → Act → World → Prop}
    (hg : o.guard = none) (l c : Operand) (hop : o.op = Op.makeSlice 47 l c) (kl kc : IntKind) (L C : Int) (n : Nat) (hl : a.eval l = .int kl L) (hc : a.eval c = .int kc C) (hL : L = (n : Int)) (hC : C = (n : Int))
    (h : n ≤ 281474976710656) (hK : ∀ w', MadeB w w' n → wpList Tryd.prog ops Q rest (a.put o.dst (.slice (some ⟨w.heap.size, 0, none⟩) n n)) w') :
    wpList Tryd.prog ops Q (o :: rest) a w := by
  obtain ⟨i, hi, hz0, hz1, hz2⟩ := info_parts info_u8
  subst hL
  subst hC
  exact wpList_make_row w hg l c 47 hop 5 i (.int .u8 0) Tryd.underlying47 hi hz0 hz1 rfl kl kc n hl hc (by rw [hz2]; omega) (by omega) (hK _ (madeB w n 5))

theorem ByF.set {w : World} {b n : Nat} (h : ByF w b n) {i : Nat} (x : Int) (hi : i < n) : ByF (w.setCell ⟨b, i, none⟩ (.int .u8 x)) b n := fun j hj => by
  refine ⟨?_, (World.frozen?_setCell _ _ _ _).trans (h j hj).2⟩
  by_cases e : i = j
  · subst e
    obtain ⟨y, hy⟩ := (h i hi).1
    exact ⟨x, World.cell?_setCell_same' _ _ _ (by rw [hy]; rfl)⟩
  · rw [cell?_setCell_ne _ _ _ _ _ e]
    exact (h j hj).1
theorem Tx.set {w : World} {b n : Nat} {f : Nat → Nat} {q i : Nat} (h : Tx w b n f q) (hb : ByF w b n) (hi : i < n) (hq : n - 1 - i = q) : Tx (w.setCell ⟨b, i, none⟩ (.int .u8 ((48 + f q : Nat) : Int))) b n f (q + 1) := fun j hj hjq => by
  by_cases e : i = j
  · subst e
    obtain ⟨y, hy⟩ := (hb i hi).1
    rw [World.cell?_setCell_same' _ _ _ (by rw [hy]; rfl), hq]
  · rw [cell?_setCell_ne _ _ _ _ _ e]
    exact h j hj (by omega)
theorem addr_add (b j : Nat) : (⟨b, 0, none⟩ : Addr).add j = ⟨b, j, none⟩ := by
  unfold Addr.add
  by_cases h : j = 0
  · subst h; rfl
  · rw [if_neg h, Nat.zero_add]
theorem ret_str {a b : ByteArray} (h : a = b) : Ending.returned (.string a) = .returned (.string b) := by rw [h]
theorem Tx.cells {w : World} {b n : Nat} {f : Nat → Nat} (hf : ∀ q, f q < 10) (h : Tx w b n f n) (j : Nat) (hj : j < (txt f n).length) :
    w.cell? ((⟨b, 0, none⟩ : Addr).add j) = some (.int .u8 (((txt f n)[j]).toNat : Int)) := by
  have hj' : j < n := by rwa [txt_length] at hj
  have h1 := h j hj' (by omega)
  have h2 := gb_txt f hj'
  unfold gb at h2
  rw [List.getElem?_eq_getElem hj] at h2
  have h3 : (txt f n)[j] = UInt8.ofNat (48 + f (n - 1 - j)) := h2
  rw [h3, toNat_dg (hf _)]
  rw [addr_add, h1]
theorem dig_zero : (dig 0).toArray = #[48] := by rw [dig_small (by omega)]; rfl

set_option maxRecDepth 100000 in
set_option maxHeartbeats 400000 in
theorem digits_any (w : World) (v : Value) (n : Nat) (h : LimN w v n) (hb : Big n) :
    Calls Tryd.prog 57 #[v] w fun e w' => e = .returned (.string ⟨(dig n).toArray⟩) ∧ Below w.heap.size w w' := by
  obtain ⟨xs, la, na, rfl⟩ := h
  have b1 := na.big hb
  clear hb
  have hsx := la.1
  by_cases hx : xs = []
  · subst hx
    obtain ⟨a, c, rfl⟩ := la.form
    simp only [List.length_nil]
    go_enter Tryd.func57, Tryd.ntmps57
    go_wp2
    go_ret
    exact ⟨ret_str (by rw [valL_nil, dig_zero]), Below.refl _ _⟩
  · have hpos := na.ge hx
    have hB := Bp_pos (xs.length - 1)
    have hv0 : 0 < valL xs := by omega
    have hL0 : 0 < xs.length := List.length_pos_iff.2 hx
    have hfin := dropZeros_dig (txt_all (dgt_lt xs) (9 * xs.length)) (by rw [valS_limbs hsx]; exact hv0)
    rw [valS_limbs hsx] at hfin
    have HFIN := Lib.hid hfin
    clear hfin hpos hB hv0 hx na
    rcases la with ⟨_, ⟨rfl, rfl⟩ | ⟨b, off, cap, rfl, hcap, hcm, hbk, hax⟩⟩
    · exact absurd hL0 (by decide)
    obtain ⟨L, hL⟩ : ∃ L, xs.length = L := ⟨_, rfl⟩
    rw [hL] at b1 hcap HFIN hL0
    have HL := Lib.hid hL
    obtain ⟨N, hN⟩ : ∃ N, N = 9 * L := ⟨_, rfl⟩
    rw [← hN] at HFIN
    have hNi : (L : Int) * 9 = (N : Int) := by omega
    have hne : ¬ (L : Int) = 0 := by omega
    have hN0 : N ≤ 281474976710656 := by omega
    clear hN
    generalize hf : dgt xs = f at HFIN
    have HF := Lib.hid hf; clear hf
    go_enter Tryd.func57, Tryd.ntmps57
    go_wp2_with (at_make; refine wpList_make_bytes _ rfl _ _ rfl _ _ _ _ N rfl rfl (by omega) (by omega) (by omega) ?_; intro w1 hmade)
    clear hL
    have hms := hmade.size
    have hmr := hmade.row
    have hmb := hmade.below
    clear hmade
    go_loopw [17] (fun i W => ∃ k : Nat, k ≤ L ∧ i = .int .i64 k ∧ ByF W w.heap.size N ∧ Tx W w.heap.size N f (9 * k) ∧ Below w.heap.size w W) (fun i _ => L - (intOf i).toNat)
    case atStart => exact ⟨0, Nat.zero_le _, rfl, hmr, fun j _ h => absurd h (by omega), hmb⟩
    case round =>
      obtain ⟨k, hk, rfl, hrow, htx, hbw⟩ := hrel
      by_cases hlt : k < L
      · have c1 := hax.below hbw hbk k (by rw [HL.out]; exact hlt)
        obtain ⟨X, hX0, hXs, hXf, hXb⟩ : ∃ X : Nat → Nat, X 0 = gl xs k ∧ (∀ p, X (p + 1) = X p / 10) ∧ (∀ p, p < 9 → f (9 * k + p) = X p % 10) ∧ (∀ p, X p < 1000000000) :=
          ⟨fun p => gl xs k / 10 ^ p, Nat.div_one _, fun p => by show gl xs k / 10 ^ (p + 1) = gl xs k / 10 ^ p / 10; rw [Nat.pow_succ, Nat.div_div_eq_div_mul], fun p hp => by rw [← HF.out]; exact dgt_at xs hp,
            fun p => Nat.lt_of_le_of_lt (Nat.div_le_self _ _) (hsx.gl k)⟩
        rw [← hX0] at c1
        have HX0 := Lib.hid hX0; have HXS := Lib.hid hXs; have HXF := Lib.hid hXf; have HXB := Lib.hid hXb
        clear hX0 hXs hXf hXb
        go_wp2
        go_loopw [5, 27] (fun lm pl W => ∃ p : Nat, p ≤ 9 ∧ pl = .int .i64 p ∧ lm = .int .u64 (X p) ∧ ByF W w.heap.size N ∧ Tx W w.heap.size N f (9 * k + p) ∧ Below w.heap.size w W) (fun _ pl _ => 9 - (intOf pl).toNat)
        case atStart => exact ⟨0, Nat.zero_le _, rfl, rfl, hrow, htx, hbw⟩
        case round =>
          obtain ⟨p, hp, rfl, rfl, hrow, htx, hbw⟩ := hrel
          by_cases hp9 : p < 9
          · obtain ⟨i, hi⟩ : ∃ i, i = N - 1 - (9 * k + p) := ⟨_, rfl⟩
            have hi1 : i < N := by omega
            have hi2 : N - 1 - i = 9 * k + p := by omega
            have hi3 : (N : Int) - (k : Int) * 9 - 1 - (p : Int) = (i : Int) := by omega
            obtain ⟨⟨y, hy⟩, hfr⟩ := hrow i hi1
            have hxb := HXB.out p
            have hr2 := hrow.set ((48 + f (9 * k + p) : Nat) : Int) hi1
            have ht2 := htx.set hrow hi1 hi2
            rw [HXF.out p hp9] at hr2 ht2
            have hc : ((48 + X p % 10 : Nat) : Int) = 48 + (X p : Int) % 10 := by omega
            rw [hc] at hr2 ht2
            have HR2 := Lib.hid hr2; have HT2 := Lib.hid ht2; have HI1 := Lib.hid hi1
            clear hr2 ht2 hi2 hi hc
            go_wp2
            go_roundw
            case rel => exact ⟨p + 1, by omega, by go_num, congrArg (Value.int .u64) (by rw [HXS.out p]; omega), HR2.out, HT2.out, hbw.trans ((Wr.one wr w.heap.size i _).below (Nat.le_refl _) hbw.size)⟩
            case measure => simp [intOf]; omega
          · obtain rfl : p = 9 := by omega
            go_wp2
            go_roundw
            case rel => exact ⟨k + 1, by omega, by go_num, hrow, htx, hbw⟩
            case measure => simp [intOf]; omega
      · obtain rfl : k = L := by omega
        rw [show 9 * k = N from by omega] at htx
        have hcv := run_convert_bytes_back (P := Tryd.prog) wr 47 9 5 ⟨w.heap.size, 0, none⟩ N (txt f N) Tryd.underlying47 Tryd.underlying5 Tryd.underlying9 (htx.cells (fun q => by rw [← HF.out]; exact dgt_lt xs q))
        rw [txt_length] at hcv
        go_wp2_with (refine (Tryd.strings_TrimLeft_one _ 48 (by decide) _).mono ?_; rintro e w' ⟨rfl, rfl⟩)
        go_ret
        exact ⟨ret_str (by show (⟨(Lib.trimLeftB (txt f N) 48).toArray⟩ : ByteArray) = _; unfold Lib.trimLeftB; rw [HFIN.out]), hbw⟩
end Go.Proofs.YtcekdidefomkfaaDoor

/- Rows of fixes in memory. -/
import Derived.Test.YtmllklfjngapiaaDoorRowsM
import Derived.Test.YtmllklfjngapiaaDoorAllRefB3
import Derived.Test.YtmllklfjngapiaaDoorFxNum
namespace Go.Proofs.YtmllklfjngapiaaDoor
open Go.RowKit
set_option linter.unusedSimpArgs false
set_option linter.unusedVariables false
/-- A fix's cells. -/
def encX (x : Fx.Fix) : List Value := [.string ⟨x.1.1.toArray⟩, .int .i64 x.1.2, .string ⟨x.2.1.toArray⟩, .string ⟨x.2.2.toArray⟩]
theorem encX_one (x : Fx.Fix) : ∀ v ∈ encX x, v.oneCell' = true := fun v hv => by
  unfold encX at hv
  simp only [List.mem_cons, List.not_mem_nil, or_false] at hv
  rcases hv with rfl | rfl | rfl | rfl <;> rfl
theorem fxInfo : (Tryd.prog.info? 26).map (fun i => (i.zero, i.size, i.bytes)) = some (some (.agg #[.string ⟨#[]⟩, .int .i64 0, .string ⟨#[]⟩, .string ⟨#[]⟩]), 4, 56) := by kernel_rfl
/-- A table in memory; one that this call has laid. -/
abbrev Fxs (w : World) (p : Option Addr) (l : List Fx.Fix) : Prop := RowsG encX 4 w p l
abbrev OwnX (B : Nat) (w : World) (v : Value) (l : List Fx.Fix) : Prop := OwnG encX 4 26 B w v l
theorem fx_rule {w : World} {p : Option Addr} {l : List Fx.Fix} (h : Fxs w p l) {k : Nat} {a n e : List UInt8} {d : Int} (hx : l[k]? = some ((a, d), (n, e))) : ∃ b o, p = some ⟨b, o, none⟩ ∧ (∀ v, Below w.heap.size w v → v.cell? ⟨b, o + k * 4, none⟩ = some (.string ⟨a.toArray⟩)) ∧
    (∀ v, Below w.heap.size w v → v.cell? ⟨b, o + k * 4 + 1, none⟩ = some (.int .i64 d)) ∧ (∀ v, Below w.heap.size w v → v.cell? ⟨b, o + k * 4 + 2, none⟩ = some (.string ⟨n.toArray⟩)) ∧ (∀ v, Below w.heap.size w v → v.cell? ⟨b, o + k * 4 + 3, none⟩ = some (.string ⟨e.toArray⟩)) := by
  obtain ⟨b, o, hp, hl, c⟩ := h k _ hx
  exact ⟨b, o, hp, fun v hb => (hb.cell (p := ⟨b, _, none⟩) hl).trans (c 0 _ rfl), fun v hb => (hb.cell (p := ⟨b, _, none⟩) hl).trans (c 1 _ rfl), fun v hb => (hb.cell (p := ⟨b, _, none⟩) hl).trans (c 2 _ rfl), fun v hb => (hb.cell (p := ⟨b, _, none⟩) hl).trans (c 3 _ rfl)⟩
theorem fxs_none {w : World} {l : List Fx.Fix} (h : Fxs w none l) : l = [] := by
  cases l with
  | nil => rfl
  | cons x r => obtain ⟨b, o, hp, _⟩ := h 0 x rfl; cases hp
/-- Texts that are not too long. -/
def SzX (x : Fx.Fix) : Prop := x.1.1.length ≤ 4611686018427387904 ∧ x.2.1.length ≤ 20000 ∧ x.2.2.length ≤ 20000
/-- A price, and whether there is one; a table, and whether that may be. -/
def optR (r : Option Key) : Key := r.getD ([], [])
def GiveG (w : World) (r : Option Key) (e : Ending) (w' : World) : Prop := GiveRB w (optR r, r.isSome) e w'
def GiveT (w : World) (r : Option (List Fx.Fix)) (e : Ending) (w' : World) : Prop := (∃ p c, e = .returned (.tuple #[.slice p (r.getD []).length c, .bool r.isSome]) ∧ (r.getD []).length ≤ c ∧ Fxs w' p (r.getD [])) ∧ Below w.heap.size w w'
theorem giveT_no {w w' : World} (hb : Below w.heap.size w w') : GiveT w none (.returned (.tuple #[.slice none 0 0, .bool false])) w' := ⟨⟨none, 0, rfl, Nat.le_refl _, RowsG.nil _ _⟩, hb⟩
theorem moreK {l : List Fx.Fix} {P : Nat → Fx.Fix → Prop} {k : Nat} {z : Fx.Fix} (h : ∀ (j : Nat) (x : Fx.Fix), j < k → l[j]? = some x → P j x) (hz : l[k]? = some z) (hp : P k z) : ∀ (j : Nat) (x : Fx.Fix), j < k + 1 → l[j]? = some x → P j x := fun j x hj hx => by
  by_cases e : j = k
  · subst e
    rw [hz] at hx
    exact Option.some.inj hx ▸ hp
  · exact h j x (by omega) hx
theorem sameF_stop {l m : List Fx.Fix} {k : Nat} {x y : Fx.Fix} (hx : l[k]? = some x) (hy : m[k]? = some y) (h : x ≠ y) : (l == m) = false := beq_false_of_ne fun e => by
  subst e; rw [hx] at hy; exact h (Option.some.inj hy)
theorem sameF_end {l m : List Fx.Fix} (hl : l.length = m.length) (h : ∀ (j : Nat) (x : Fx.Fix), j < l.length → l[j]? = some x → m[j]? = some x) : (l == m) = true := by
  rw [beq_iff_eq]
  refine List.ext_getElem hl fun i h1 h2 => ?_
  have := h i l[i] h1 (List.getElem?_eq_getElem h1)
  rw [List.getElem?_eq_getElem h2] at this
  exact (Option.some.inj this).symm
/-- Has a table few fixes, of few digits? -/
def smX (x : Fx.Fix) : Bool := decide (x.2.1.length ≤ 40) && (decide (x.2.2.length ≤ 40) && decide (x.1.1.length ≤ 100))
def smallX (l : List Fx.Fix) : Bool := l.all smX && decide (l.length ≤ 60)
theorem smX_iff {x : Fx.Fix} : smX x = true ↔ x.2.1.length ≤ 40 ∧ x.2.2.length ≤ 40 ∧ x.1.1.length ≤ 100 := by
  unfold smX; simp only [Bool.and_eq_true, decide_eq_true_eq]
theorem smallX_iff {l : List Fx.Fix} : smallX l = true ↔ (∀ x ∈ l, smX x = true) ∧ l.length ≤ 60 := by
  unfold smallX; rw [Bool.and_eq_true, List.all_eq_true, decide_eq_true_eq]
theorem smX_sz {x : Fx.Fix} (h : smX x = true) : SzX x := by
  obtain ⟨a, b, c⟩ := smX_iff.1 h
  exact ⟨by omega, by omega, by omega⟩
theorem small_szX {l : List Fx.Fix} (h : smallX l = true) : ∀ x ∈ l, SzX x := fun x hx => smX_sz ((smallX_iff.1 h).1 x hx)
theorem smallX_stop {l : List Fx.Fix} {k : Nat} {x : Fx.Fix} (hx : l[k]? = some x) (h : smX x = false) : smallX l = false := by
  cases e : smallX l with
  | false => rfl
  | true => rw [(smallX_iff.1 e).1 x (List.mem_of_getElem? hx)] at h; cases h
theorem smallX_end {l : List Fx.Fix} (h : ∀ (j : Nat) (x : Fx.Fix), j < l.length → l[j]? = some x → smX x = true) : smallX l = decide (l.length ≤ 60) := by
  unfold smallX
  rw [List.all_eq_true.2 fun x hx => by
    obtain ⟨j, hj, e⟩ := List.getElem_of_mem hx
    exact h j x hj (by rw [List.getElem?_eq_getElem hj, e]), Bool.true_and]
/-- Sizes go along with a fix more. -/
theorem sz_ins {l : List Fx.Fix} {f : Fx.Fix} (h : ∀ x ∈ l, SzX x) (hf : SzX f) : ∀ x ∈ Fx.insF l f, SzX x := fun x hx => by
  rcases Fx.ins_mem.1 hx with rfl | hx
  · exact hf
  · exact h x hx
theorem sz_snoc {l : List Fx.Fix} {f : Fx.Fix} (h : ∀ x ∈ l, SzX x) (hf : SzX f) : ∀ x ∈ l ++ [f], SzX x := fun x hx => by
  rcases List.mem_append.1 hx with hx | hx
  · exact h x hx
  · exact List.mem_singleton.1 hx ▸ hf
/-- Placing a fix, step by step: what is laid behind so many. -/
def laidB (l : List Fx.Fix) (f : Fx.Fix) : Bool := l.any fun x => !Fx.lessF x.1 f.1
def outF (l : List Fx.Fix) (f : Fx.Fix) : List Fx.Fix := if laidB l f then Fx.insF l f else l
theorem laid_iff {l : List Fx.Fix} {f : Fx.Fix} : laidB l f = true ↔ ∃ x ∈ l, Fx.lessF x.1 f.1 = false := by
  unfold laidB; rw [List.any_eq_true]; simp only [Bool.not_eq_true']
theorem laid_no {l : List Fx.Fix} {f : Fx.Fix} (h : laidB l f = false) : ∀ x ∈ l, Fx.lessF x.1 f.1 = true := fun x hx => by
  cases e : Fx.lessF x.1 f.1 with
  | true => rfl
  | false => rw [laid_iff.2 ⟨x, hx, e⟩] at h; cases h
theorem laid_snoc (l : List Fx.Fix) (x f : Fx.Fix) : laidB (l ++ [x]) f = (laidB l f || !Fx.lessF x.1 f.1) := by
  unfold laidB; rw [List.any_append]; simp
theorem out_laid {l : List Fx.Fix} {x f : Fx.Fix} (h : laidB l f = true) : outF (l ++ [x]) f = outF l f ++ [x] := by
  unfold outF; rw [laid_snoc, h, if_pos rfl, Bool.true_or, if_pos rfl]
  exact Fx.ins_any [x] (laid_iff.1 h)
theorem out_skip {l : List Fx.Fix} {x f : Fx.Fix} (h : laidB l f = false) (ha : Fx.lessF x.1 f.1 = true) : outF (l ++ [x]) f = outF l f ++ [x] := by
  unfold outF; rw [laid_snoc, h, ha]; rfl
theorem out_here {l : List Fx.Fix} {x f : Fx.Fix} (h : laidB l f = false) (ha : Fx.lessF x.1 f.1 = false) : outF (l ++ [x]) f = (outF l f ++ [f]) ++ [x] := by
  unfold outF; rw [laid_snoc, h, ha]
  show (if true = true then _ else _) = (if false = true then _ else l) ++ [f] ++ [x]
  rw [if_pos rfl, if_neg (by decide), Fx.ins_all [x] (laid_no h)]
  show l ++ (if Fx.lessF x.1 f.1 then _ else f :: [x]) = _
  rw [ha, if_neg (by decide), List.append_assoc]; rfl
theorem out_end {l : List Fx.Fix} {f : Fx.Fix} : Fx.insF l f = if laidB l f then outF l f else outF l f ++ [f] := by
  unfold outF
  cases h : laidB l f with
  | true => rfl
  | false =>
    have := Fx.ins_all [] (laid_no h)
    rw [List.append_nil] at this
    show _ = l ++ [f]
    rw [this]; rfl
theorem out_len (l : List Fx.Fix) (f : Fx.Fix) : (outF l f).length ≤ l.length + 1 := by
  unfold outF; split
  · rw [Fx.ins_len]; exact Nat.le_refl _
  · omega
theorem out_sz {l : List Fx.Fix} {f : Fx.Fix} (h : ∀ x ∈ l, SzX x) (hf : SzX f) : ∀ x ∈ outF l f, SzX x := by
  unfold outF; split
  · exact sz_ins h hf
  · exact h
end Go.Proofs.YtmllklfjngapiaaDoor

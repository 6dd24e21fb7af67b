/- What the laws of layer 6 want of the program's book; constants. -/
import Derived.Test.YtemnimbedmkagaaGreatDoorAllRefB7
namespace Go.Proofs.YtemnimbedmkagaaGreatDoor
open Go.RowKit
set_option linter.unusedSimpArgs false
set_option linter.unusedVariables false

/-- A row of lines is answered. -/
def GiveLs (w : World) (ls : List Ln) (e : Ending) (w' : World) : Prop := (∃ p c, e = .returned (.slice p ls.length c) ∧ ls.length ≤ c ∧ Lns w' p ls) ∧ Below w.heap.size w w'
theorem GiveL.row {w w' : World} {ls : List Ln} {e : Ending} (h : GiveL w ls e w') : GiveLs w ls e w' := by
  obtain ⟨⟨p, c, he, hc, hl, _⟩, hb⟩ := h
  exact ⟨⟨p, c, he, hc, hl⟩, hb⟩
/-- The program's book answers as the document's words; G: what it wants of the world. -/
structure BookC (G : World → Prop) : Prop where
  below : ∀ {w w' : World}, G w → Below w.heap.size w w' → G w'
  name : ∀ (s : ByteArray) (w : World), s.size ≤ 4611686018427387904 → G w → Calls Tryz.prog 14 #[.string s] w (GiveB w (isName s.data.toList))
  may : ∀ (p : Option Addr) (c : Nat) (ls : List Ln) (w : World), ls.length ≤ c → ls.length ≤ 100 → (∀ x ∈ ls, SzK 1000 x) → Lns w p ls → G w →
    Calls Tryz.prog 12 #[.slice p ls.length c] w (GiveB w (mayB ls))
  get : ∀ (p : Option Addr) (c : Nat) (ls : List Ln) (u v : List UInt8) (w : World), ls.length ≤ c → ls.length ≤ 100 → (∀ x ∈ ls, SzK 1000 x) → u.length ≤ 4611686018427387904 → v.length ≤ 4611686018427387904 → Lns w p ls → G w →
    Calls Tryz.prog 16 #[.slice p ls.length c, .string ⟨u.toArray⟩, .string ⟨v.toArray⟩] w (GiveR w (getB ls (u, v)))
  add : ∀ (p : Option Addr) (c : Nat) (ls : List Ln) (a s n d : List UInt8) (w : World), ls.length ≤ c → ls.length ≤ 100 → (∀ x ∈ ls, SzK 1000 x) → SzK 1000 ((a, s), (n, d)) → Lns w p ls → G w →
    Calls Tryz.prog 9 #[.slice p ls.length c, .agg #[.string ⟨a.toArray⟩, .string ⟨s.toArray⟩, .string ⟨n.toArray⟩, .string ⟨d.toArray⟩]] w (GiveLB w (addB ls ((a, s), (n, d))))
  total : ∀ (p : Option Addr) (c : Nat) (ls : List Ln) (u : List UInt8) (K : Nat) (w : World), ls.length ≤ c → ls.length ≤ 100 → (∀ x ∈ ls, SzK K x) → (ls.length + 1) * (K + 1) ≤ 9000 → u.length ≤ 4611686018427387904 → Lns w p ls → G w →
    Calls Tryz.prog 18 #[.slice p ls.length c, .string ⟨u.toArray⟩] w (GiveR w (totB ls u))
  holders : ∀ (p : Option Addr) (c : Nat) (ls : List Ln) (u : List UInt8) (w : World), ls.length ≤ c → ls.length ≤ 100 → (∀ x ∈ ls, SzK 1000 x) → u.length ≤ 4611686018427387904 → Lns w p ls → G w →
    Calls Tryz.prog 20 #[.slice p ls.length c, .string ⟨u.toArray⟩] w (GiveLs w (holdB ls u))

/-! Constants. -/
theorem addB_c {ls : List Ln} {x : Ln} {g q : Key} {r : List Ln} (h1 : (mayB ls && lineOk x) = true) (h2 : getB ls x.1 = g) (h3 : addR g x.2 = q) (h4 : insB ls (sgnR q == 0) x.1 q = r) : addB ls x = (r, true) := by
  unfold addB putB
  rw [h1, h2, h3, h4]; rfl
/-- Small lines: names and numbers of at most 100 bytes. -/
def smallL (x : Ln) : Bool := decide (x.1.1.length ≤ 100) && decide (x.1.2.length ≤ 100) && (decide (x.2.1.length ≤ 100) && decide (x.2.2.length ≤ 100))
theorem small_szk {x : Ln} {k : Nat} (h : smallL x = true) (hk : 100 ≤ k) : SzK k x := by
  unfold smallL at h
  simp only [Bool.and_eq_true, decide_eq_true_eq] at h
  exact ⟨⟨Nat.le_trans h.1.1 (by decide), Nat.le_trans h.1.2 (by decide)⟩, Nat.le_trans h.2.1 hk, Nat.le_trans h.2.2 hk⟩
theorem all_szk {ls : List Ln} {k : Nat} (h : ls.all smallL = true) (hk : 100 ≤ k) : ∀ x ∈ ls, SzK k x := fun x hx => small_szk (List.all_eq_true.1 h x hx) hk
/-- A line of its cells alone. -/
theorem lns_one (w : World) (a s n d : List UInt8) (t : TypeId) : Lns (w.alloc (.cells #[.string ⟨a.toArray⟩, .string ⟨s.toArray⟩, .string ⟨n.toArray⟩, .string ⟨d.toArray⟩] t)) (some ⟨w.heap.size, 0, none⟩) [((a, s), (n, d))] := fun j x hx => by
  cases j with
  | zero =>
    obtain rfl : ((a, s), (n, d)) = x := Option.some.inj hx
    exact ⟨w.heap.size, 0, rfl, by simp, cell_new _ _ _ _ rfl 0, cell_new _ _ _ _ rfl 1, cell_new _ _ _ _ rfl 2, cell_new _ _ _ _ rfl 3⟩
  | succ j => cases hx
end Go.Proofs.YtemnimbedmkagaaGreatDoor

/- The document's answers for fractions: sums, products, quotients, order, what is split; whether fractions are short, and good. -/
import Derived.Test.YtmllklfjngapiaaDoorAllRefQ
namespace Go.Proofs.YtmllklfjngapiaaDoor
open Go.RowKit

theorem addR_no {p q : List UInt8 × List UInt8} (h : (isR p && isR q) = false) : addR p q = ([], []) := by unfold addR; rw [h]; rfl
theorem divR_no {p q : List UInt8 × List UInt8} (h : (isR p && isR q) = false) : divR p q = (([], []), false) := by unfold divR; rw [h]; rfl
theorem addR_neg (p q : List UInt8 × List UInt8) : addR p (negR q) = subR p q := by
  unfold addR negR subR
  cases isR q with
  | false =>
    rw [if_neg Bool.false_ne_true, show isR (([], []) : List UInt8 × List UInt8) = false from rfl, Bool.and_false]
    rfl
  | true =>
    rw [if_pos rfl, isR_rd, valR_rd, ← Rat.sub_eq_add_neg]
theorem sgnR_sub (p q : List UInt8 × List UInt8) : sgnR (subR p q) = cmpR p q := by
  unfold sgnR subR cmpR
  cases isR p && isR q with
  | false => rfl
  | true => rw [if_pos rfl, if_pos rfl, if_pos (isR_rd _), valR_rd]
theorem mulS_eq {p q : List UInt8 × List UInt8} (hp : isR p = true) (hq : isR q = true) : mulS p.2 q.2 = mulW p.2 q.2 := by
  rw [(isR_den hp).1, (isR_den hq).1, mulS_dd, mulW_dd]
theorem mulW_comm (a b : List UInt8) : mulW a b = mulW b a := by unfold mulW; rw [Bool.and_comm, Int.mul_comm]
theorem divInt_le {n d : Int} (hd : d ≠ 0) : (Rat.divInt n d).num.natAbs ≤ n.natAbs ∧ (Rat.divInt n d).den ≤ d.natAbs := by
  have key : ∀ (n : Int) (d : Nat), d ≠ 0 → (Rat.divInt n (d : Int)).num.natAbs ≤ n.natAbs ∧ (Rat.divInt n (d : Int)).den ≤ d := fun n d h => by
    have k := divInt_pos (n := n) (d := (d : Int)) (by omega)
    rw [k.1]
    refine ⟨natAbs_ediv _ _, ?_⟩
    have k2 := k.2
    rw [Int.natAbs_natCast, ← Int.natCast_ediv] at k2
    rw [Int.ofNat.inj k2]
    exact Nat.div_le_self _ _
  rcases Int.lt_or_le 0 d with h | h
  · obtain ⟨e, rfl⟩ : ∃ e : Nat, d = (e : Int) := ⟨d.toNat, by omega⟩
    have := key n e (by omega)
    rwa [Int.natAbs_natCast]
  · obtain ⟨e, he⟩ : ∃ e : Nat, -d = (e : Int) := ⟨(-d).toNat, by omega⟩
    have := key (-n) e (by omega)
    rw [← he, divInt_swap, Int.natAbs_neg] at this
    rw [show d.natAbs = e from by omega]
    exact this
theorem len_text {l : List UInt8} (h : isW l = true) {z : Int} (hz : z.natAbs ≤ (valW l).natAbs) (hk : l.length ≤ 90000) : (wd z).length ≤ l.length + 1 := by
  have h1 := (Ltw.own h (by omega)).abs
  exact Nat.le_trans (wd_length z) (Nat.succ_le_succ (dig_length (isW_pos h) (Nat.lt_of_le_of_lt hz h1)))
theorem makeR_len (n d : List UInt8) (hn : n.length ≤ 90000) (hd : d.length ≤ 90000) : (makeR n d).1.1.length ≤ n.length + 1 ∧ (makeR n d).1.2.length ≤ d.length + 1 := by
  cases h : (isW n && isW d) && !(valW d == 0) with
  | false => rw [makeR_no h]; exact ⟨Nat.zero_le _, Nat.zero_le _⟩
  | true =>
    rw [Bool.and_eq_true, Bool.and_eq_true] at h
    have h0 : valW d ≠ 0 := by simpa using h.2
    rw [makeR_yes h.1.1 h.1.2 h0]
    have k := divInt_le (n := valW n) h0
    refine ⟨len_text h.1.1 k.1 hn, ?_⟩
    have := len_text h.1.2 (z := ((Rat.divInt (valW n) (valW d)).den : Int)) (by rw [Int.natAbs_natCast]; exact k.2) hd
    rw [wd_nat] at this
    exact this
theorem subR_len (p q : List UInt8 × List UInt8) (h1 : p.1.length ≤ 20000) (h2 : p.2.length ≤ 20000) (h3 : q.1.length ≤ 20000) (h4 : q.2.length ≤ 20000) : (subR p q).1.length ≤ 90000 ∧ (subR p q).2.length ≤ 90000 := by
  rw [← al_sub]
  have l := alR_len p q h1 h2 h3 h4
  have k1 := subW_len' (alR p q).1 (alR p q).2 (by omega)
  have k2 := mulW_len p.2 q.2 (by omega)
  have k := makeR_len (subW (alR p q).1 (alR p q).2) (mulW p.2 q.2) (by omega) (by omega)
  omega
end Go.Proofs.YtmllklfjngapiaaDoor

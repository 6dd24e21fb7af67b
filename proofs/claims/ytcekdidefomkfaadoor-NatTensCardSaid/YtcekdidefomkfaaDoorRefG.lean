/- The document's own answer for naturals: Gcd, Short. -/
import Derived.Test.YtcekdidefomkfaaDoorRefF
namespace Go.Proofs.YtcekdidefomkfaaDoor
open Go.RowKit

/-- The number of a text in a slot. -/
def numOf : Value → Nat
  | .string s => valS s.data.toList
  | _ => 0
theorem numOf_dig (n : Nat) : numOf (.string ⟨(dig n).toArray⟩) = n := valS_dig n
theorem dig_ne48 {n : Nat} (h : n ≠ 0) : ¬ dig n = [48] := fun e => h (by have := valS_dig n; rw [e] at this; exact this.symm)
theorem dig_neB {n : Nat} (h : n ≠ 0) : (dig n == [48]) = false := beq_false_of_ne (dig_ne48 h)

set_option maxRecDepth 100000 in
set_option maxHeartbeats 1000000 in
theorem rgcd_any (s t : ByteArray) (w : World) (hs : s.size ≤ 1000000) (ht : t.size ≤ 1000000) :
    Calls Tryd.prog 35 #[.string s, .string t] w (GiveS w (gcdS s.data.toList t.data.toList)) := by
  have c1 := fun w => rmay_any s w (by omega)
  have c2 := fun w => rmay_any t w (by omega)
  cases h1 : isNat s.data.toList with
  | false =>
    have hr : gcdS s.data.toList t.data.toList = [] := by unfold gcdS; rw [h1]; rfl
    rw [hr]
    simp only [h1] at c1
    clear hr h1 c2
    go_enter Tryd.func35, Tryd.ntmps35
    go_wp2_with fail
    refine (c1 _).mono ?_
    rintro e w' ⟨rfl, rfl⟩
    go_wp2_with fail
    go_ret
    exact ⟨rfl, Below.refl _ _⟩
  | true => cases h2 : isNat t.data.toList with
    | false =>
      have hr : gcdS s.data.toList t.data.toList = [] := by unfold gcdS; rw [h1, h2]; rfl
      rw [hr]
      simp only [h1] at c1
      simp only [h2] at c2
      clear hr h1 h2
      go_enter Tryd.func35, Tryd.ntmps35
      go_wp2_with fail
      refine (c1 _).mono ?_
      rintro e w' ⟨rfl, rfl⟩
      go_wp2_with fail
      refine (c2 _).mono ?_
      rintro e w' ⟨rfl, rfl⟩
      go_wp2_with fail
      go_ret
      exact ⟨rfl, Below.refl _ _⟩
    | true =>
      have hr : gcdS s.data.toList t.data.toList = dig (Nat.gcd (valS s.data.toList) (valS t.data.toList)) := by unfold gcdS; rw [h1, h2]; rfl
      rw [hr]
      have hl1 := dig_len h1
      have hl2 := dig_len h2
      have hsd := str_dig h1
      have htd := str_dig h2
      simp only [h1] at c1
      simp only [h2] at c2
      generalize valS s.data.toList = M at *
      generalize valS t.data.toList = N at *
      have H1 : Hid ((dig M).length ≤ 1000000) := Lib.hid (by rw [hl1]; exact hs)
      have H2 : Hid ((dig N).length ≤ 1000000) := Lib.hid (by rw [hl2]; exact ht)
      clear hl1 hl2 h1 h2 hr hs ht
      subst hsd
      subst htd
      go_enter Tryd.func35, Tryd.ntmps35
      go_wp2_with fail
      refine (c1 _).mono ?_
      rintro e w' ⟨rfl, rfl⟩
      go_wp2_with fail
      refine (c2 _).mono ?_
      rintro e w' ⟨rfl, rfl⟩
      clear c1 c2
      go_wp2_with fail
      go_loopw [0, 1] (fun a b W => ∃ m n : Nat, a = .string ⟨(dig m).toArray⟩ ∧ b = .string ⟨(dig n).toArray⟩ ∧ Hid ((dig m).length ≤ 1000000 ∧ (dig n).length ≤ 1000000 ∧ Nat.gcd m n = Nat.gcd M N) ∧ Below w.heap.size w W) (fun _ b _ => numOf b)
      case atStart => exact ⟨M, N, rfl, rfl, ⟨H1.out, H2.out, rfl⟩, Below.refl _ _⟩
      case round =>
        obtain ⟨m, n, rfl, rfl, HG, hbw⟩ := hrel
        by_cases hn : n = 0
        · subst hn
          have hm : m = Nat.gcd M N := by rw [← HG.out.2.2, Nat.gcd_zero_right]
          have e2 : dig 0 = [48] := by rw [dig_small (by decide)]; rfl
          have HM := Lib.hid hm; clear hm
          go_wp2
          go_ret
          exact ⟨by rw [HM.out]; rfl, hbw⟩
        · have e1 := dig_neB hn
          have e2 := dig_ne48 hn
          have hd := fun w => rdiv_any ⟨(dig m).toArray⟩ ⟨(dig n).toArray⟩ w (by rw [size_dig]; exact HG.out.1) (by rw [size_dig]; exact HG.out.2.1)
          have he : divS (⟨(dig m).toArray⟩ : ByteArray).data.toList (⟨(dig n).toArray⟩ : ByteArray).data.toList = (dig (m / n), dig (m % n), true) := by
            show divS (dig m) (dig n) = _
            unfold divS
            rw [isNat_dig, isNat_dig, valS_dig, valS_dig, decide_eq_true (Nat.pos_of_ne_zero hn)]; rfl
          rw [he] at hd
          have hlt := Nat.mod_lt m (Nat.pos_of_ne_zero hn)
          have hl := dig_len_le (Nat.le_of_lt hlt)
          have HD := Lib.hid hd; have HLT := Lib.hid hlt; have HL := Lib.hid hl
          clear hd he hlt hl hn
          go_wp2_with fail
          refine (HD.out _).mono ?_
          rintro e w' ⟨rfl, hb⟩
          go_wp2_with fail
          go_roundw
          case rel => exact ⟨n, m % n, rfl, rfl, ⟨HG.out.2.1, Nat.le_trans HL.out HG.out.2.1, by rw [← HG.out.2.2, Nat.gcd_comm n, ← Nat.gcd_rec, Nat.gcd_comm]⟩, hbw.trans (hb.mono hbw.size)⟩
          case measure => show numOf (.string ⟨(dig (m % n)).toArray⟩) < numOf (.string ⟨(dig n).toArray⟩); rw [numOf_dig, numOf_dig]; exact HLT.out

/-- A row of n texts. -/
def Strs (w : World) (b n : Nat) (f : Nat → ByteArray) : Prop := ∀ j, j < n → w.cell? ⟨b, j, none⟩ = some (.string (f j))
def shortF (f : Nat → ByteArray) : Nat → Bool
  | 0 => true
  | n + 1 => shortF f n && decide ((f n).size ≤ 200)
theorem shortF_true {f : Nat → ByteArray} {n : Nat} (h : ∀ j, j < n → (f j).size ≤ 200) : shortF f n = true := by
  induction n with
  | zero => rfl
  | succ n ih => rw [shortF, ih (fun j hj => h j (by omega)), decide_eq_true (h n (by omega))]; rfl
theorem shortF_false {f : Nat → ByteArray} {n j : Nat} (hj : j < n) (h : 200 < (f j).size) : shortF f n = false := by
  induction n with
  | zero => omega
  | succ n ih =>
    rw [shortF]
    by_cases e : j = n
    · subst e; rw [decide_eq_false (by omega), Bool.and_false]
    · rw [ih (by omega)]; rfl
set_option maxHeartbeats 400000 in
theorem short_any (w : World) (b n c : Nat) (f : Nat → ByteArray) (hn : n ≤ 4611686018427387904) (hc : n ≤ c) (h : Strs w b n f) :
    Calls Tryd.prog 16 #[.slice (some ⟨b, 0, none⟩) n c] w fun e w' => e = .returned (.bool (shortF f n)) ∧ w = w' := by
  have HS := Lib.hid h; clear h
  go_enter Tryd.func16, Tryd.ntmps16
  go_wp2
  go_loop [3] (fun i => ∃ k : Nat, k ≤ n ∧ i = .int .i64 k ∧ Hid (∀ j, j < k → (f j).size ≤ 200)) (fun i => n - (intOf i).toNat)
  case atStart => exact ⟨0, Nat.zero_le _, rfl, fun j h => absurd h (Nat.not_lt_zero j)⟩
  case round =>
    obtain ⟨k, hk, rfl, HJ⟩ := hrel
    by_cases hlt : k < n
    · have hcell := HS.out k hlt
      by_cases hb : (f k).size ≤ 200
      · have hb' : ¬ (200 : Int) < ((f k).size : Int) := by omega
        have HB := Lib.hid hb; clear hb
        go_wp2
        go_round
        case rel => exact ⟨k + 1, hlt, by go_num, fun j h => by
          by_cases e : j = k
          · subst e; exact HB.out
          · exact HJ.out j (by omega)⟩
        case measure => simp [intOf]; omega
      · have hb' : (200 : Int) < ((f k).size : Int) := by omega
        have hr := shortF_false hlt (Nat.lt_of_not_le hb)
        have HR := Lib.hid hr; clear hb hr
        go_wp2
        go_ret
        exact ⟨ret_bool (by rw [HR.out]), rfl⟩
    · obtain rfl : k = n := by omega
      have hr := shortF_true HJ.out
      have HR := Lib.hid hr; clear hr
      go_wp2
      go_ret
      exact ⟨ret_bool (by rw [HR.out]), rfl⟩
end Go.Proofs.YtcekdidefomkfaaDoor

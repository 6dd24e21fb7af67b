/- What the laws of layer 10 want of the program's term; rows that are laid. -/
import Derived.Test.YtdeinhkdphgfaaaGreatDoorTermNum5
import Derived.Test.YtdeinhkdphgfaaaGreatDoorAllRefQ4M
import Derived.Test.YtdeinhkdphgfaaaGreatDoorRowsGM
import Derived.Test.YtdeinhkdphgfaaaGreatDoorAllRefT5M
import Derived.Test.YtdeinhkdphgfaaaGreatDoorAllRefT6
import Derived.Test.YtdeinhkdphgfaaaGreatDoorAllRefT7M
import Derived.Test.YtdeinhkdphgfaaaGreatDoorAllRefTd
namespace Go.Proofs.YtdeinhkdphgfaaaGreatDoor
open Go.RowKit
set_option linter.unusedSimpArgs false
set_option linter.unusedVariables false
open Tm (Nd Tr arN arI formB joinT printT checkT depthT argsT plainN pxN nmN thN avN loN someT bothT)
variable {G : World → Prop}
def SzN (x : Nd) : Prop := (x.num.1.length ≤ 100 ∧ x.num.2.length ≤ 100 ∧ x.ast.length ≤ 100) ∧ (-9223372036854775808 ≤ x.op ∧ x.op ≤ 9223372036854775807) ∧ (-9223372036854775808 ≤ x.a ∧ x.a ≤ 9223372036854775807) ∧ (-9223372036854775808 ≤ x.b ∧ x.b ≤ 9223372036854775807)
def szB (x : Nd) : Bool := (decide (x.num.1.length ≤ 100) && (decide (x.num.2.length ≤ 100) && decide (x.ast.length ≤ 100))) && ((decide (-9223372036854775808 ≤ x.op) && decide (x.op ≤ 9223372036854775807)) && ((decide (-9223372036854775808 ≤ x.a) && decide (x.a ≤ 9223372036854775807)) && (decide (-9223372036854775808 ≤ x.b) && decide (x.b ≤ 9223372036854775807))))
theorem szN_c {t : List Nd} (h : t.all szB = true) : ∀ x ∈ t, SzN x := fun x hx => by
 have k := List.all_eq_true.1 h x hx
 unfold szB at k
 simp only [Bool.and_eq_true, decide_eq_true_eq] at k
 exact ⟨⟨k.1.1, k.1.2.1, k.1.2.2⟩, k.2.1, k.2.2.1, k.2.2.2⟩
theorem szN_ref {t : List Nd} (h : ∀ x ∈ t, SzN x) : Hid (∀ x ∈ t, x.num.1.length ≤ 100000 ∧ x.num.2.length ≤ 100000 ∧ x.ast.length ≤ 4611686018427387904) := Lib.hid fun x hx => by
 obtain ⟨⟨a, b, c⟩, _⟩ := h x hx
 exact ⟨by omega, by omega, by omega⟩
theorem szN_plain (op : Int) (h0 : -9223372036854775808 ≤ op) (h1 : op ≤ 9223372036854775807) : SzN (plainN op) := ⟨⟨Nat.zero_le _, Nat.zero_le _, Nat.zero_le _⟩, ⟨h0, h1⟩, ⟨(by decide : (-9223372036854775808 : Int) ≤ 0), (by decide : (0 : Int) ≤ 9223372036854775807)⟩, ⟨(by decide : (-9223372036854775808 : Int) ≤ 0), (by decide : (0 : Int) ≤ 9223372036854775807)⟩⟩
def GiveTm (w : World) (t : List Nd) (e : Ending) (w' : World) : Prop := (∃ p c, e = .returned (.slice p t.length c) ∧ t.length ≤ c ∧ Nds w' p t) ∧ Below w.heap.size w w'
structure TermC (G : World → Prop) : Prop where
 below : ∀ {w w' : World}, G w → Below w.heap.size w w' → G w'
 arity : ∀ (op : Int) (w : World), -9223372036854775808 ≤ op → op ≤ 9223372036854775807 → G w → Calls Tryz.prog 19 #[.int .i64 op] w (GiveI w (arI op))
 depth : ∀ (p : Option Addr) (c : Nat) (t : List Nd) (w : World), t.length ≤ c → t.length ≤ 2000 → (∀ x ∈ t, SzN x) → Nds w p t → G w → Calls Tryz.prog 14 #[.slice p t.length c] w (GiveI w ((depthT t : Nat) : Int))
 print : ∀ (p : Option Addr) (c : Nat) (t : List Nd) (w : World), t.length ≤ c → t.length ≤ 2000 → (∀ x ∈ t, SzN x) → Nds w p t → G w → Calls Tryz.prog 12 #[.slice p t.length c] w (GiveU w (printT t))
 check : ∀ (p : Option Addr) (c : Nat) (t : List Nd) (w : World), t.length ≤ c → t.length ≤ 2000 → (∀ x ∈ t, SzN x) → Nds w p t → G w → Calls Tryz.prog 10 #[.slice p t.length c] w (GiveI w (checkT t))
 args : ∀ (p : Option Addr) (c : Nat) (t : List Nd) (w : World), t.length ≤ c → t.length ≤ 2000 → (∀ x ∈ t, SzN x) → Nds w p t → G w → Calls Tryz.prog 17 #[.slice p t.length c] w (GiveTs w (argsT t))
 join : ∀ (op : Int) (p : Option Addr) (c : Nat) (l : List (List Nd)) (w : World), -9223372036854775808 ≤ op → op ≤ 9223372036854775807 → l.length ≤ c → l.length ≤ 100 → l.flatten.length ≤ 1999 → Trms w p l → G w → Calls Tryz.prog 22 #[.int .i64 op, .slice p l.length c] w (GiveTm w (joinT op l))
theorem small_len {t : List Nd} (h : smallT t = true) : t.length ≤ 200 := by
 unfold smallT at h
 simp only [Bool.and_eq_true, decide_eq_true_eq] at h
 exact h.2
def RgN (x : Nd) : Prop := (-9223372036854775808 ≤ x.op ∧ x.op ≤ 9223372036854775807) ∧ (-9223372036854775808 ≤ x.a ∧ x.a ≤ 9223372036854775807) ∧ (-9223372036854775808 ≤ x.b ∧ x.b ≤ 9223372036854775807)
theorem small_sz {t : List Nd} (h : smallT t = true) (hr : ∀ x ∈ t, RgN x) : ∀ x ∈ t, SzN x := fun x hx => by
 unfold smallT at h
 simp only [Bool.and_eq_true, decide_eq_true_eq, List.all_eq_true] at h
 have k := h.1 x hx
 unfold smallN at k
 simp only [Bool.and_eq_true, decide_eq_true_eq] at k
 exact ⟨⟨k.1.1, k.1.2, k.2⟩, hr x hx⟩
theorem rtjoin_n (op : Int) (p : Option Addr) (c : Nat) (l : List (List Nd)) (w : World) (hl : l.length ≤ 4611686018427387904) (hf : l.flatten.length ≤ 1000000) (hT : Trms w p l) : Calls Tryz.prog 23 #[.int .i64 op, .slice p l.length c] w (GiveTm w (joinT op l)) :=
 (rtjoin_any op p c l w hl hf hT).mono fun e w' h => by
  obtain ⟨⟨q, d, he, hd, hn, _⟩, hb⟩ := h
  exact ⟨⟨q, d, he, hd, hn⟩, hb⟩
theorem rowsLit {α : Type} {enc : α → List Value} {k : Nat} (hk : ∀ x, (enc x).length = k) (w : World) (l : List α) (c : Array Value) (t : TypeId) (hc : c.toList = l.flatMap enc) : RowsG enc k (w.alloc (.cells c t)) (some ⟨w.heap.size, 0, none⟩) l := fun j x hx =>
 ⟨_, _, rfl, by simp, fun i v hv => by
  rw [Nat.zero_add]
  exact (cell_new w _ _ _ rfl (j * k + i)).trans (by rw [← Array.getElem?_toList, hc]; exact flat_get hk hx hv)⟩
theorem ndsLit (w : World) (l : List Nd) (c : Array Value) (hc : c.toList = l.flatMap encD) : Nds (w.alloc (.cells c 41)) (some ⟨w.heap.size, 0, none⟩) l := rowsLit (enc := encD) (k := 6) (fun _ => rfl) w l c 41 hc
theorem trmsLit (w : World) (vs : List Sl) (l : List (List Nd)) (c : Array Value) (hc : c.toList = vs.flatMap encS) (h : SlT w vs l) : Trms (w.alloc (.cells c 23)) (some ⟨w.heap.size, 0, none⟩) l :=
 trms_of (rowsLit (enc := encS) (k := 1) (fun _ => rfl) w vs c 23 hc) (h.below (Below.alloc (Below.refl _ _) (Nat.le_refl _) _))
theorem slT_nil (w : World) : SlT w [] [] := ⟨rfl, fun j s t hs => by cases hs⟩
theorem trms1 (w : World) (p : Option Addr) (n c : Nat) (t : List Nd) (hn : n = t.length) (hc : t.length ≤ c) (h : Nds w p t) : Trms (w.alloc (.cells #[.slice p n c] 23)) (some ⟨w.heap.size, 0, none⟩) [t] := by
 subst hn
 exact trmsLit w [(p, t.length, c)] [t] _ rfl ((slT_nil w).cons hc h)
theorem trms2 (w : World) (p q : Option Addr) (n m c d : Nat) (t u : List Nd) (hn : n = t.length) (hm : m = u.length) (hc : t.length ≤ c) (hd : u.length ≤ d) (h : Nds w p t) (k : Nds w q u) : Trms (w.alloc (.cells #[.slice p n c, .slice q m d] 23)) (some ⟨w.heap.size, 0, none⟩) [t, u] := by
 subst hn hm
 exact trmsLit w [(p, t.length, c), (q, u.length, d)] [t, u] _ rfl (((slT_nil w).cons hd k).cons hc h)
theorem trms3 (w : World) (p q r : Option Addr) (n m i c d e : Nat) (t u v : List Nd) (hn : n = t.length) (hm : m = u.length) (hi : i = v.length) (hc : t.length ≤ c) (hd : u.length ≤ d) (he : v.length ≤ e) (h : Nds w p t) (k : Nds w q u) (l : Nds w r v) : Trms (w.alloc (.cells #[.slice p n c, .slice q m d, .slice r i e] 23)) (some ⟨w.heap.size, 0, none⟩) [t, u, v] := by
 subst hn hm hi
 exact trmsLit w [(p, t.length, c), (q, u.length, d), (r, v.length, e)] [t, u, v] _ rfl ((((slT_nil w).cons he l).cons hd k).cons hc h)
theorem ret_sl {p : Option Addr} {n m c : Nat} (h : n = m) : Ending.returned (.slice p n c) = .returned (.slice p m c) := by rw [h]
theorem kt_o1 (w : World) : Calls Tryz.prog 29 #[.int .i64 3, .int .i64 2] w (GiveR w ([51], [50])) := by
 have h := rqone_any 3 2 w (by decide) (by decide) (by decide) (by decide)
 rw [show (makeR (wd 3) (wd 2)).1 = ([51], [50]) by decide +kernel] at h
 exact h
theorem kt_o2 (w : World) : Calls Tryz.prog 29 #[.int .i64 (-1), .int .i64 3] w (GiveR w ([45, 49], [51])) := by
 have h := rqone_any (-1) 3 w (by decide) (by decide) (by decide) (by decide)
 rw [show (makeR (wd (-1)) (wd 3)).1 = ([45, 49], [51]) by decide +kernel] at h
 exact h
theorem kt_f (n : Int) (s : List UInt8) (hs : wd n = s) (h0 : -9223372036854775808 ≤ n) (h1 : n ≤ 9223372036854775807) (w : World) : Calls Tryz.prog 26 #[.int .i64 n] w (GiveR w (s, [49])) := by
 have h := rqof_any n w h0 h1
 rw [hs] at h
 exact h
set_option maxRecDepth 100000 in
set_option maxHeartbeats 4000000 in
theorem some_any (w : World) : Calls Tryz.prog 28 #[] w (fun e w' => (∃ p c, e = .returned (.slice p 3 c) ∧ 3 ≤ c ∧ (∃ b, p = some ⟨b, 0, none⟩) ∧ Nds w' p someT) ∧ Below w.heap.size w w') := by
 have b0 := Below.refl w.heap.size w
 go_enter Tryz.func28, Tryz.ntmps28
 go_wp2_with fail
 refine (kt_o1 _).mono ?_
 rintro e w1 ⟨rfl, b⟩
 go_wp2_with fail
 go_ret
 exact ⟨⟨_, _, rfl, Nat.le_refl _, ⟨_, rfl⟩, ndsLit w1 someT #[.int .i64 1, .string ⟨#[]⟩, .string ⟨#[]⟩, .string ⟨#[120]⟩, .int .i64 5, .int .i64 0, .int .i64 0, .string ⟨#[51]⟩, .string ⟨#[50]⟩, .string ⟨#[]⟩, .int .i64 0, .int .i64 0, .int .i64 7, .string ⟨#[]⟩, .string ⟨#[]⟩, .string ⟨#[]⟩, .int .i64 0, .int .i64 0] rfl⟩, Below.more b (Below.alloc (Below.refl _ _) (Nat.le_refl _) _)⟩
theorem heldT {P : Program} {f : FuncId} {args : Array Value} {w W : World} {B : Nat} {n : Nat} {R : Option Addr → World → Prop} (hB : B ≤ W.heap.size) (c : Calls P f args w fun e w' => (∃ p c, e = .returned (.slice p n c) ∧ n ≤ c ∧ R p w') ∧ Below w.heap.size w w') (h : Below B W w) :
  Calls P f args w fun e w' => (∃ p c, e = .returned (.slice p n c) ∧ n ≤ c ∧ R p w') ∧ Below w.heap.size w w' ∧ Below B W w' := c.mono fun _ _ ⟨he, hb⟩ => ⟨he, hb, h.trans (hb.mono (Nat.le_trans hB h.size))⟩
theorem nds_nil (w : World) (p : Option Addr) : Nds w p [] := RowsG.nil _ _
theorem kt_j (H : TermC G) (V : World) (q : Option Addr) (h : Trms V q [someT, [thN]]) (g : G V) : Calls Tryz.prog 22 #[.int .i64 10, .slice q 2 2] V (fun e w' => (∃ p c, e = .returned (.slice p 5 c) ∧ 5 ≤ c ∧ Nds w' p bothT) ∧ Below V.heap.size V w') :=
 H.join 10 q 2 [someT, [thN]] V (by decide) (by decide) (Nat.le_refl _) (by decide) (by decide) h g
theorem kt_a (H : TermC G) (V : World) (q : Option Addr) (c : Nat) (hc : 5 ≤ c) (h : Nds V q bothT) (g : G V) : Calls Tryz.prog 17 #[.slice q 5 c] V (fun e w' => (∃ p c, e = .returned (.slice p 2 c) ∧ 2 ≤ c ∧ Trms w' p [someT, [thN]]) ∧ Below V.heap.size V w') :=
 H.args q c bothT V hc (by decide) (szN_c (by decide)) h g
theorem kt_p1 (H : TermC G) (V : World) (q : Option Addr) (c : Nat) (hc : 3 ≤ c) (h : Nds V q someT) (g : G V) : Calls Tryz.prog 12 #[.slice q 3 c] V (GiveU V [40, 112, 120, 40, 120, 44, 32, 53, 41, 32, 45, 32, 49, 46, 53, 41]) := by
 have k := H.print q c someT V hc (by decide) (szN_c (by decide)) h g
 rw [Tm.some_print] at k
 exact k
theorem kt_p2 (H : TermC G) (V : World) (q : Option Addr) (c : Nat) (hc : 5 ≤ c) (h : Nds V q bothT) (g : G V) : Calls Tryz.prog 12 #[.slice q 5 c] V (GiveU V [109, 97, 120, 40, 40, 112, 120, 40, 120, 44, 32, 53, 41, 32, 45, 32, 49, 46, 53, 41, 44, 32, 110, 117, 109, 40, 45, 49, 44, 32, 51, 41, 41]) := by
 have k := H.print q c bothT V hc (by decide) (szN_c (by decide)) h g
 rw [Tm.both_print] at k
 exact k
theorem kt_p3 (H : TermC G) (V : World) (q : Option Addr) (h : Nds V q [avN]) (g : G V) : Calls Tryz.prog 12 #[.slice q 1 1] V (GiveU V [97, 118, 103, 40, 120, 44, 32, 49, 44, 32, 51, 41]) := by
 have k := H.print q 1 [avN] V (Nat.le_refl _) (by decide) (szN_c (by decide)) h g
 rw [Tm.av_print] at k
 exact k
theorem kt_c1 (H : TermC G) (V : World) (q : Option Addr) (c : Nat) (hc : 5 ≤ c) (h : Nds V q bothT) (g : G V) : Calls Tryz.prog 10 #[.slice q 5 c] V (GiveI V 0) := by
 have k := H.check q c bothT V hc (by decide) (szN_c (by decide)) h g
 rw [Tm.both_check] at k
 exact k
theorem kt_c2 (H : TermC G) (V : World) (g : G V) : Calls Tryz.prog 10 #[.slice none 0 0] V (GiveI V 100) := by
 have k := H.check none 0 [] V (Nat.le_refl _) (by decide) (szN_c (by decide)) (nds_nil V none) g
 rw [Tm.none_check] at k
 exact k
theorem kt_c3 (H : TermC G) (V : World) (q : Option Addr) (c : Nat) (hc : 3 ≤ c) (h : Nds V q someT) (g : G V) : Calls Tryz.prog 10 #[.slice q 2 c] V (GiveI V 100) := by
 have h2 : Nds V q [pxN, nmN] := fun j x hx => h j x (by
  match j, hx with
  | 0, hx => exact hx
  | 1, hx => exact hx)
 have k := H.check q c [pxN, nmN] V (show 2 ≤ c by omega) (by decide) (szN_c (by decide)) h2 g
 rw [Tm.part_check] at k
 exact k
theorem kt_c4 (H : TermC G) (V : World) (q : Option Addr) (h : Nds V q [loN]) (g : G V) : Calls Tryz.prog 10 #[.slice q 1 1] V (GiveI V 100) := by
 have k := H.check q 1 [loN] V (Nat.le_refl _) (by decide) (szN_c (by decide)) h g
 rw [Tm.lo_check] at k
 exact k
theorem kt_d (H : TermC G) (V : World) (q : Option Addr) (c : Nat) (hc : 5 ≤ c) (h : Nds V q bothT) (g : G V) : Calls Tryz.prog 14 #[.slice q 5 c] V (GiveI V 3) := by
 have k := H.depth q c bothT V hc (by decide) (szN_c (by decide)) h g
 rw [Tm.both_depth] at k
 exact k
theorem kt_s (V : World) (p q : Option Addr) (c d : Nat) (h : Nds V p someT) (k : Nds V q someT) : Calls Tryz.prog 21 #[.slice p 3 c, .slice q 3 d] V (GiveB V true) := by
 have k := rtsame_any p q c d someT someT V (by decide) (by decide) h k
 rw [decide_eq_true rfl] at k
 exact k
theorem kt_r (H : TermC G) (V : World) (n m : Int) (hn : -9223372036854775808 ≤ n) (hn' : n ≤ 9223372036854775807) (hm : arI n = m) (g : G V) : Calls Tryz.prog 19 #[.int .i64 n] V (GiveI V m) := hm ▸ H.arity n V hn hn' g
end Go.Proofs.YtdeinhkdphgfaaaGreatDoor

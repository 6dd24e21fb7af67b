/- The document's answers for decimals: reading. -/
import Derived.Test.YtdibnolbichbmaaGreatDoorAllRefD6
namespace Go.Proofs.YtdibnolbichbmaaGreatDoor
open Go.RowKit

/-- The answer's block first, then another. -/
theorem boxz2 (w : World) (x y a b : Value) (z t : TypeId) : ∃ W, (w.alloc (.cells #[x, y] z)).alloc (.cells #[a, b] t) = W ∧ Below w.heap.size w W ∧ w.heap.size + 1 + 1 = W.heap.size ∧
    (∀ v, Below W.heap.size W v → v.cell? ⟨w.heap.size, 0, none⟩ = some x) ∧ (∀ v, Below W.heap.size W v → v.cell? ⟨w.heap.size, 1, none⟩ = some y) ∧
    (∀ v, Below W.heap.size W v → v.frozen? ⟨w.heap.size, 0, none⟩ = false) ∧ (∀ v, Below W.heap.size W v → v.frozen? ⟨w.heap.size, 1, none⟩ = false) ∧
    (∀ v, Below W.heap.size W v → v.cell? ⟨w.heap.size + 1, 0, none⟩ = some a) ∧ (∀ v, Below W.heap.size W v → v.cell? ⟨w.heap.size + 1, 1, none⟩ = some b) := by
  obtain ⟨V, hV, B, s, c0, c1, f0, f1⟩ := box0z w x y z
  rw [hV]
  have hz : ∀ v, Below (V.alloc (.cells #[a, b] t)).heap.size (V.alloc (.cells #[a, b] t)) v → Zc (w.heap.size + 1) a b v := fun v h => by rw [s]; exact zc_made h
  exact ⟨_, rfl, Below.more B (Below.step _ (Below.refl _ _)), by rw [s]; simp, fun v h => c0 v (Below.step _ h), fun v h => c1 v (Below.step _ h), fun v h => f0 v (Below.step _ h), fun v h => f1 v (Below.step _ h), fun v h => (hz v h).c0, fun v h => (hz v h).c1⟩

set_option maxRecDepth 100000 in
set_option maxHeartbeats 2000000 in
theorem rdparse_plain (s : ByteArray) {x y : List UInt8} (w : World) (hs : s.size ≤ 1000) (h0 : 0 < s.size) (hc : ¬ (s[0].toNat : Int) = 45) (hf1 : fndS s.data.toList 47 = -1) (hf2 : fndS s.data.toList 46 = -1) (hd : digs s.data.toList = true) (hm : makeR (dig (valS s.data.toList)) [49] = ((x, y), true)) :
    Calls Tryz.prog 11 #[.string s] w (GiveRE w ((x, y), 0)) := by
  have c1 : ∀ w, Calls Tryz.prog 28 #[.string s, .int .u8 47] w fun e w' => e = .returned (.int .i64 (-1)) ∧ w = w' := fun w => hf1 ▸ rdfind_any s 47 w (by omega)
  have c2 : ∀ w, Calls Tryz.prog 28 #[.string s, .int .u8 46] w fun e w' => e = .returned (.int .i64 (-1)) ∧ w = w' := fun w => hf2 ▸ rdfind_any s 46 w (by omega)
  have c3 : ∀ w, Calls Tryz.prog 29 #[.string s] w fun e w' => e = .returned (.bool true) ∧ w = w' := fun w => hd ▸ rddigits_any s w (by omega)
  have c4 : ∀ w, Calls Tryz.prog 29 #[.string ⟨#[49]⟩] w fun e w' => e = .returned (.bool true) ∧ w = w' := fun w => rddigits_any ⟨#[49]⟩ w (by decide)
  have c5 := fun w => rdplain_any s w (by omega) h0 (digs_parts hd).1
  have c6 : ∀ w, Calls Tryz.prog 30 #[.string ⟨#[49]⟩] w fun e w' => e = .returned (.string ⟨#[49]⟩) ∧ w = w' := fun w => by
    have c := rdplain_any ⟨#[49]⟩ w (by decide) (by decide) (by decide)
    have e : dig (valS (⟨#[49]⟩ : ByteArray).data.toList) = [49] := by show dig 1 = _; exact dig_one
    rw [e] at c; exact c
  have hl : (dig (valS s.data.toList)).length ≤ 1000 := by
    refine Nat.le_trans (dig_length h0 ?_) hs
    have h := valS_lt (digs_parts hd).1
    rw [size_toList] at h
    exact h
  have c7 := fun w => rqmake_any ⟨(dig (valS s.data.toList)).toArray⟩ ⟨#[49]⟩ w (by rw [size_of]; omega) (by decide)
  have e7 : makeR (⟨(dig (valS s.data.toList)).toArray⟩ : ByteArray).data.toList (⟨#[49]⟩ : ByteArray).data.toList = ((x, y), true) := hm
  rw [e7] at c7
  have c7 : ∀ w, Calls _ _ _ w (GiveRB w ((x, y), true)) := c7
  clear hm e7 hl hd hf1 hf2
  have C1 := Lib.hid c1; have C2 := Lib.hid c2; have C3 := Lib.hid c3; have C4 := Lib.hid c4; have C5 := Lib.hid c5; have C6 := Lib.hid c6; have C7 := Lib.hid c7
  clear c1 c2 c3 c4 c5 c6 c7
  have hx1 : ¬ (1000 : Int) < (s.size : Int) := by omega
  have hx2 : (0 : Int) < (s.size : Int) := by omega
  go_enter Tryz.func11, Tryz.ntmps11
  go_wp2_with fail
  obtain ⟨W, hW, BW, sW, k0, k1, r0, r1, k2, k3⟩ := boxz2 w (.string ⟨#[]⟩) (.string ⟨#[]⟩) (.string ⟨#[]⟩) (.string ⟨#[]⟩) 23 23
  rw [hW]; clear hW
  have b0 := Below.refl W.heap.size W
  refine (C1.out _).mono ?_
  rintro e w1 ⟨rfl, rfl⟩
  go_wp2_with fail
  refine (C2.out _).mono ?_
  rintro e w1 ⟨rfl, rfl⟩
  go_wp2_with fail
  refine (C3.out _).mono ?_
  rintro e w1 ⟨rfl, rfl⟩
  go_wp2_with fail
  refine (C4.out _).mono ?_
  rintro e w1 ⟨rfl, rfl⟩
  go_wp2_with fail
  refine (C5.out _).mono ?_
  rintro e w1 ⟨rfl, rfl⟩
  go_wp2_with fail
  refine (C6.out _).mono ?_
  rintro e w1 ⟨rfl, rfl⟩
  go_wp2_with fail
  refine (C7.out _).mono ?_
  rintro e w9 ⟨rfl, b⟩
  have b1 := Below.more b0 b
  clear b
  have ba := fun x => Below.alloc b1 (Below.size b1) x
  go_wp2_with fail
  refine bodyPost_ret (v := .tuple #[.agg #[.string ⟨x.toArray⟩, .string ⟨y.toArray⟩], .int .i64 0]) (by simp [results, Tryz.results11, go_sem, *]) rfl ⟨rfl, ?_⟩
  exact put2 (BW.trans ((ba _).mono (by omega))) (Nat.le_refl _) _ _
end Go.Proofs.YtdibnolbichbmaaGreatDoor

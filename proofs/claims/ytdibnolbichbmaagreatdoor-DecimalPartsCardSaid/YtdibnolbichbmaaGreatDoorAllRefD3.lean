/- The document's answers for decimals: the print, without a point. -/
import Derived.Test.YtdibnolbichbmaaGreatDoorAllRefD2
namespace Go.Proofs.YtdibnolbichbmaaGreatDoor
open Go.RowKit

def prS (p : List UInt8 × List UInt8) : List UInt8 := if isR p then prD (valR p) else []
theorem prS_no {p : List UInt8 × List UInt8} (h : isR p = false) : prS p = [] := by unfold prS; rw [h]; rfl
theorem prS_yes {p : List UInt8 × List UInt8} (h : isR p = true) : prS p = prD (valR p) := by unfold prS; rw [h]; rfl
theorem pl_den {p : List UInt8 × List UInt8} (h : isR p = true) : plS p = plR (plc (valR p).den) := by rw [plS_yes h, valR_den h]

set_option maxRecDepth 100000 in
set_option maxHeartbeats 2000000 in
theorem rdprint_no (n d : ByteArray) (w : World) (hn : n.size ≤ 4000) (hd : d.size ≤ 4000) (h : isR (n.data.toList, d.data.toList) = false) :
    Calls Tryz.prog 15 #[.agg #[.string n, .string d]] w (GiveS w (prS (n.data.toList, d.data.toList))) := by
  have cm := fun w => rqmay_any n d w (by omega) (by omega)
  rw [h] at cm
  rw [prS_no h]
  clear h hn hd
  have CM := Lib.hid cm
  clear cm
  go_enter Tryz.func15, Tryz.ntmps15
  go_wp2_with fail
  obtain ⟨W, hW, BW, sW, k0, k1⟩ := box1 w (.string n) (.string d) 23
  have hB := Lib.hid (Nat.le_refl W.heap.size)
  rw [hW]; clear hW
  have b0 := Below.refl W.heap.size W
  refine (CM.out _).mono ?_
  rintro e w1 ⟨rfl, b⟩
  have b1 := Below.more b0 b
  clear b
  go_wp2_with fail
  go_ret
  exact ⟨rfl, Below.more BW b1⟩

set_option maxRecDepth 100000 in
set_option maxHeartbeats 2000000 in
theorem rdprint_none (n d : ByteArray) (w : World) (hn : n.size ≤ 4000) (hd : d.size ≤ 4000) (h : isR (n.data.toList, d.data.toList) = true) (hp : plc (valR (n.data.toList, d.data.toList)).den = none) :
    Calls Tryz.prog 15 #[.agg #[.string n, .string d]] w (GiveS w (prS (n.data.toList, d.data.toList))) := by
  have cm := fun w => rqmay_any n d w (by omega) (by omega)
  have cp := fun w => rdplaces_any n d w (by omega) (by omega)
  rw [h] at cm
  rw [pl_den h, hp] at cp
  have hr : n ++ (⟨#[47]⟩ : ByteArray) ++ d = ⟨(prS (n.data.toList, d.data.toList)).toArray⟩ := bytes_eq (by
    rw [ba_append, ba_append, prS_yes h, prD_none hp, ← (isR_den h).1, ← (isR_den h).2, List.append_assoc]
    rfl)
  generalize prS (n.data.toList, d.data.toList) = R at *
  clear h hp
  have CM := Lib.hid cm
  have CP := Lib.hid cp
  have HR := Lib.hid hr
  clear cm cp hr
  go_enter Tryz.func15, Tryz.ntmps15
  go_wp2_with fail
  obtain ⟨W, hW, BW, sW, k0, k1⟩ := box1 w (.string n) (.string d) 23
  have hB := Lib.hid (Nat.le_refl W.heap.size)
  rw [hW]; clear hW
  have b0 := Below.refl W.heap.size W
  refine (CM.out _).mono ?_
  rintro e w1 ⟨rfl, b⟩
  have b1 := Below.more b0 b
  clear b
  go_wp2_with fail
  refine (CP.out _).mono ?_
  rintro e w2 ⟨rfl, b⟩
  have b2 := Below.more b1 b
  clear b
  go_wp2_with fail
  go_ret
  exact ⟨ret_str HR.out, Below.more BW b2⟩

set_option maxRecDepth 100000 in
set_option maxHeartbeats 2000000 in
theorem rdprint_zero (n d : ByteArray) (w : World) (hn : n.size ≤ 4000) (hd : d.size ≤ 4000) (h : isR (n.data.toList, d.data.toList) = true) (hp : plc (valR (n.data.toList, d.data.toList)).den = some 0) :
    Calls Tryz.prog 15 #[.agg #[.string n, .string d]] w (GiveS w (prS (n.data.toList, d.data.toList))) := by
  have cm := fun w => rqmay_any n d w (by omega) (by omega)
  have cp := fun w => rdplaces_any n d w (by omega) (by omega)
  rw [h] at cm
  rw [pl_den h, hp] at cp
  have hr : n = ⟨(prS (n.data.toList, d.data.toList)).toArray⟩ := bytes_eq (by
    rw [prS_yes h, prD_zero hp, ← (isR_den h).2])
  generalize prS (n.data.toList, d.data.toList) = R at *
  clear h hp
  have CM := Lib.hid cm
  have CP := Lib.hid cp
  have HR := Lib.hid hr
  clear cm cp hr
  go_enter Tryz.func15, Tryz.ntmps15
  go_wp2_with fail
  obtain ⟨W, hW, BW, sW, k0, k1⟩ := box1 w (.string n) (.string d) 23
  have hB := Lib.hid (Nat.le_refl W.heap.size)
  rw [hW]; clear hW
  have b0 := Below.refl W.heap.size W
  refine (CM.out _).mono ?_
  rintro e w1 ⟨rfl, b⟩
  have b1 := Below.more b0 b
  clear b
  go_wp2_with fail
  refine (CP.out _).mono ?_
  rintro e w2 ⟨rfl, b⟩
  have b2 := Below.more b1 b
  clear b
  go_wp2_with fail
  go_ret
  exact ⟨ret_str HR.out, Below.more BW b2⟩
end Go.Proofs.YtdibnolbichbmaaGreatDoor

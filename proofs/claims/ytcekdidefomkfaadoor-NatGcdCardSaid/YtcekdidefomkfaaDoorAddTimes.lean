/- nat.addTimes, nat.takeTimes: they write the limbs of one slice. -/
import Derived.Test.YtcekdidefomkfaaDoorRows
import Derived.Test.YtcekdidefomkfaaDoorMem
import Derived.Test.YtcekdidefomkfaaDoorNumA
namespace Go.Proofs.YtcekdidefomkfaaDoor
open Go.RowKit

/-- What addTimes leaves. -/
def AddPost (w : World) (bo oo n t : Nat) (xs ys : List Nat) (e : Ending) (w' : World) : Prop :=
  ∃ (zs : List Nat) (cy : Nat), e = .returned (.int .u64 (cy : Int)) ∧ zs.length = n ∧ Small zs ∧ cy ≤ t ∧ valL zs + cy * Bp n = valL xs + t * valL ys ∧ Arr w' bo oo zs ∧ Wr w w' bo oo (oo + n)

set_option maxHeartbeats 400000 in
theorem addTimes_some (w : World) (bo oo n co bb ob cb : Nat) (xs ys : List Nat) (t : Nat) (hx : Small xs) (hy : Small ys) (hxl : xs.length = n) (hyl : ys.length = n) (ht : t ≤ 10000000000) (hn : n ≤ 4611686018427387904)
    (hne : bb ≠ bo) (hax : Arr w bo oo xs) (hay : Arr w bb ob ys) (hfr : Free w bo oo n) :
    Calls Tryd.prog 85 #[.slice (some ⟨bo, oo, none⟩) n co, .slice (some ⟨bb, ob, none⟩) n cb, .int .u64 (t : Int)] w (AddPost w bo oo n t xs ys) := by
  have HX := Lib.hid hxl; clear hxl
  have HY := Lib.hid hyl; clear hyl
  go_enter Tryd.func85, Tryd.ntmps85
  go_wp2
  go_loopw [7, 13] (fun c i wr => ∃ (k cy : Nat) (zs : List Nat), k ≤ n ∧ i = .int .i64 k ∧ c = .int .u64 cy ∧ AddRel xs ys t zs k cy ∧ Arr wr bo oo zs ∧ Wr w wr bo oo (oo + n)) (fun _ i _ => n - (intOf i).toNat)
  case atStart => exact ⟨0, 0, xs, Nat.zero_le _, rfl, rfl, AddRel.start ys t hx, hax, Wr.refl _ _ _ _⟩
  case round =>
    obtain ⟨k, cy, zs, hk, rfl, rfl, hr, haz, hw⟩ := hrel
    by_cases hlt : k < n
    · have hzl : zs.length = n := by rw [hr.1]; exact HX.out
      have c1 := haz k (by omega)
      have c2 := hw.arr hne hay k (by have := HY.out; omega)
      have f1 := hw.free hfr k hlt
      obtain ⟨b1, b2, b3⟩ := hr.lt hy
      have hst := hr.step hy (by have := HX.out; omega)
      have b4 : 999999999 * t ≤ 9999999990000000000 := by omega
      have HR := Lib.hid hst; clear hst
      have HZ := Lib.hid hzl; clear hzl
      go_wp2
      go_roundw
      case rel =>
        have ha2 := haz.set (k := k) (by rw [HZ.out]; exact hlt) ((gl zs k + gl ys k * t + cy) % 1000000000)
        rw [cast_mod, Int.natCast_add, Int.natCast_add, Int.natCast_mul] at ha2
        refine ⟨k + 1, _, _, by omega, by go_num, ?_, HR.out, ha2, hw.set _ (by omega) (by omega)⟩
        exact congrArg (Value.int .u64) (by rw [cast_div, Int.natCast_add, Int.natCast_add, Int.natCast_mul])
      case measure => simp [intOf]; omega
    · obtain rfl : k = n := by omega
      have hd := hr.done HX.out HY.out
      have HD := Lib.hid hd; clear hd
      go_wp2
      go_ret
      exact ⟨zs, cy, rfl, HD.out.1, HD.out.2.1, HD.out.2.2.1, HD.out.2.2.2, haz, hw⟩

theorem addTimes_one (w : World) (bo oo n co bb ob cb : Nat) (xs ys : List Nat) (hx : Small xs) (hy : Small ys) (hxl : xs.length = n) (hyl : ys.length = n) (hn : n ≤ 4611686018427387904)
    (hne : bb ≠ bo) (hax : Arr w bo oo xs) (hay : Arr w bb ob ys) (hfr : Free w bo oo n) :
    Calls Tryd.prog 85 #[.slice (some ⟨bo, oo, none⟩) n co, .slice (some ⟨bb, ob, none⟩) n cb, .int .u64 1] w (AddPost w bo oo n 1 xs ys) :=
  addTimes_some w bo oo n co bb ob cb xs ys 1 hx hy hxl hyl (by omega) hn hne hax hay hfr

set_option maxHeartbeats 400000 in
theorem addTimes_none (w : World) (bo oo co : Nat) (t : Nat) :
    Calls Tryd.prog 85 #[.slice (some ⟨bo, oo, none⟩) 0 co, .slice none 0 0, .int .u64 (t : Int)] w fun e w' => e = .returned (.int .u64 0) ∧ w = w' := by
  go_enter Tryd.func85, Tryd.ntmps85
  go_wp2
  go_loop [7, 13] (fun c i => i = .int .i64 0 ∧ c = .int .u64 0) (fun _ _ => 0)
  case atStart => exact ⟨rfl, rfl⟩
  case round =>
    obtain ⟨rfl, rfl⟩ := hrel
    go_wp2
    go_ret
    exact ⟨rfl, rfl⟩

/-- times v, whatever v reads as, written onto a row that v does not read. -/
theorem addTimes_any (w : World) (bo oo n co : Nat) (v : Value) (xs ys : List Nat) (t : Int) (ht0 : 0 ≤ t) (ht : t ≤ 10000000000) (hx : Small xs) (hxl : xs.length = n) (hyl : ys.length = n)
    (hl : Lim w v ys) (hne : ∀ b off m c, v = .slice (some ⟨b, off, none⟩) m c → b ≠ bo) (hax : Arr w bo oo xs) (hfr : Free w bo oo n) :
    Calls Tryd.prog 85 #[.slice (some ⟨bo, oo, none⟩) n co, v, .int .u64 t] w (AddPost w bo oo n t.toNat xs ys) := by
  obtain ⟨t, rfl⟩ := Int.eq_ofNat_of_zero_le ht0
  rw [Int.toNat_natCast]
  obtain ⟨hs, ⟨rfl, rfl⟩ | ⟨b, off, cap, rfl, hcap, hm, hb, ha⟩⟩ := hl
  · obtain rfl : n = 0 := by simpa using hyl.symm
    obtain rfl : xs = [] := by simpa using hxl
    refine (addTimes_none w bo oo co t).mono ?_
    rintro e w' ⟨rfl, rfl⟩
    exact ⟨[], 0, rfl, rfl, Small.nil, Nat.zero_le _, by simp [valL_nil], hax, Wr.refl _ _ _ _⟩
  · subst hyl
    exact addTimes_some w bo oo ys.length co b off cap xs ys t hx hs hxl rfl (by omega) (by omega) (hne _ _ _ _ rfl) hax ha hfr

/-- What takeTimes leaves. -/
def TakePost (w : World) (bo oo n t : Nat) (xs ys : List Nat) (e : Ending) (w' : World) : Prop :=
  ∃ (zs : List Nat) (bw : Nat), e = .returned (.int .u64 (bw : Int)) ∧ zs.length = n ∧ Small zs ∧ bw ≤ t + 1 ∧ valL zs + t * valL ys = valL xs + bw * Bp n ∧ Arr w' bo oo zs ∧ Wr w w' bo oo (oo + n)

set_option maxHeartbeats 400000 in
theorem takeTimes_any (w : World) (bo oo n co bb ob cb : Nat) (xs ys : List Nat) (t : Nat) (hx : Small xs) (hy : Small ys) (hxl : xs.length = n) (hyl : ys.length = n) (ht : t ≤ 10000000000) (hn : n ≤ 4611686018427387904)
    (hne : bb ≠ bo) (hax : Arr w bo oo xs) (hay : Arr w bb ob ys) (hfr : Free w bo oo n) :
    Calls Tryd.prog 94 #[.slice (some ⟨bo, oo, none⟩) n co, .slice (some ⟨bb, ob, none⟩) n cb, .int .u64 (t : Int)] w (TakePost w bo oo n t xs ys) := by
  have HX := Lib.hid hxl; clear hxl
  have HY := Lib.hid hyl; clear hyl
  go_enter Tryd.func94, Tryd.ntmps94
  go_wp2
  go_loopw [7, 13] (fun c i wr => ∃ (k bw : Nat) (zs : List Nat), k ≤ n ∧ i = .int .i64 k ∧ c = .int .u64 bw ∧ TakeRel xs ys t zs k bw ∧ Arr wr bo oo zs ∧ Wr w wr bo oo (oo + n)) (fun _ i _ => n - (intOf i).toNat)
  case atStart => exact ⟨0, 0, xs, Nat.zero_le _, rfl, rfl, TakeRel.start ys t hx, hax, Wr.refl _ _ _ _⟩
  case round =>
    obtain ⟨k, bw, zs, hk, rfl, rfl, hr, haz, hw⟩ := hrel
    by_cases hlt : k < n
    · have hzl : zs.length = n := by rw [hr.1]; exact HX.out
      have c1 := haz k (by omega)
      have c2 := hw.arr hne hay k (by have := HY.out; omega)
      have f1 := hw.free hfr k hlt
      obtain ⟨b1, b2, b3⟩ := hr.lt hy
      have b4 : 999999999 * t ≤ 9999999990000000000 := by omega
      have hst := fun z c => hr.step (z := z) (c := c) hy (by have := HX.out; omega)
      have HR := Lib.hid hst; clear hst
      have HZ := Lib.hid hzl; clear hzl
      obtain ⟨A, hA⟩ : ∃ A, gl ys k * t + bw = A := ⟨_, rfl⟩
      have e1 : (A : Int) = ↑(gl ys k) * ↑t + ↑bw := by rw [← hA, Int.natCast_add, Int.natCast_mul]
      by_cases hb : gl zs k < (gl ys k * t + bw) % 1000000000
      · have h1 := haz.set (k := k) (by rw [HZ.out]; exact hlt) (gl zs k + 1000000000)
        have h2 := h1.set (k := k) (by rw [List.length_set, HZ.out]; exact hlt) (gl zs k + 1000000000 - A % 1000000000)
        rw [List.set_set] at h2
        rw [hA] at hb
        have e2 : ((gl zs k + 1000000000 : Nat) : Int) = (gl zs k : Int) + 1000000000 := by omega
        have e3 : ((gl zs k + 1000000000 - A % 1000000000 : Nat) : Int) = (gl zs k : Int) + 1000000000 - (↑(gl ys k) * ↑t + ↑bw) % 1000000000 := by rw [← e1]; omega
        rw [e2, e3] at h2
        have hb' : (gl zs k : Int) < (↑(gl ys k) * ↑t + ↑bw) % 1000000000 := by rw [← e1]; omega
        have e4 : (((A / 1000000000 + 1 : Nat) : Int)) = (↑(gl ys k) * ↑t + ↑bw) / 1000000000 + 1 := by rw [← e1]; omega
        have hst := HR.out (gl zs k + 1000000000 - A % 1000000000) (A / 1000000000 + 1) (by omega) (by rw [hA]; omega)
        have H2 := Lib.hid h2; have H4 := Lib.hid e4; have HS := Lib.hid hst
        clear h1 h2 e1 e2 e3 e4 hst hb hA
        go_wp2
        go_roundw
        case rel => exact ⟨k + 1, _, _, by omega, by go_num, by rw [← H4.out], HS.out, H2.out, (hw.set _ (by omega) (by omega)).set _ (by omega) (by omega)⟩
        case measure => simp [intOf]; omega
      · rw [hA] at hb
        have h2 := haz.set (k := k) (by rw [HZ.out]; exact hlt) (gl zs k - A % 1000000000)
        have e3 : ((gl zs k - A % 1000000000 : Nat) : Int) = (gl zs k : Int) - (↑(gl ys k) * ↑t + ↑bw) % 1000000000 := by rw [← e1]; omega
        rw [e3] at h2
        have hb' : (↑(gl ys k) * ↑t + ↑bw) % 1000000000 ≤ (gl zs k : Int) := by rw [← e1]; omega
        have e4 : (((A / 1000000000 : Nat) : Int)) = (↑(gl ys k) * ↑t + ↑bw) / 1000000000 := by rw [← e1]; omega
        have hst := HR.out (gl zs k - A % 1000000000) (A / 1000000000) (by omega) (by rw [hA]; omega)
        have H2 := Lib.hid h2; have H4 := Lib.hid e4; have HS := Lib.hid hst
        clear h2 e1 e3 e4 hst hb hA
        go_wp2
        go_roundw
        case rel => exact ⟨k + 1, _, _, by omega, by go_num, by rw [← H4.out], HS.out, H2.out, hw.set _ (by omega) (by omega)⟩
        case measure => simp [intOf]; omega
    · obtain rfl : k = n := by omega
      have hd := hr.done HX.out HY.out
      have HD := Lib.hid hd; clear hd
      go_wp2
      go_ret
      exact ⟨zs, bw, rfl, HD.out.1, HD.out.2.1, HD.out.2.2.1, HD.out.2.2.2, haz, hw⟩
end Go.Proofs.YtcekdidefomkfaaDoor

/- nat.trim: what is 0 at the end is taken away. -/
import Derived.Test.YtcekdidefomkfaaDoorBehind
namespace Go.Proofs.YtcekdidefomkfaaDoor
open Go.RowKit Go.Shelf
attribute [local go_sem] Oper.semAt_some

/-- All limbs from k on are 0. -/
def ZeroFrom (xs : List Nat) (k : Nat) : Prop := ∀ j, k ≤ j → gl xs j = 0
theorem ZeroFrom.val {xs : List Nat} {k : Nat} (h : ZeroFrom xs k) (hk : k ≤ xs.length) : valL (xs.take k) = valL xs := by
  unfold valL
  rw [List.length_take, Nat.min_eq_left hk, sumTo_congr (g := gl xs) (fun j hj => gl_take hj)]
  exact (sumTo_more hk (fun j hj => h j hj)).symm

/-- Of the places that have come all hold 0. -/
theorem zero_of_dn {xs : List Nat} {V : Nat → Nat → Prop} {pre : List (Pl xs.length V)} {k : Nat} (hk : k ≤ xs.length) (hp : idx pre = dn xs.length k) (hV : ∀ j x, V j x → x = gl xs j) (hz : ∀ p ∈ pre, p.1.2 = 0) : ZeroFrom xs (xs.length - k) := fun j hj => by
  by_cases hl : j < xs.length
  · have hm : j ∈ idx pre := by
      rw [hp]
      unfold dn
      rw [List.mem_map]
      exact ⟨xs.length - 1 - j, by rw [List.mem_range]; omega, by omega⟩
    unfold idx at hm
    obtain ⟨p, h1, h2⟩ := List.mem_map.1 hm
    rw [← h2, ← hV _ _ p.2.2]
    exact hz p h1
  · exact gl_beyond (by omega)

def TrimI (w : World) (b off cap : Nat) (xs : List Nat) (pre : List (Pl xs.length (fun j x => x = gl xs j))) (W : World) : Prop :=
  ((∀ p ∈ pre, p.1.2 = 0) ∧ Boxed W w.heap.size 44 (.slice (some ⟨b, off, none⟩) xs.length cap) ∧ Boxed W (w.heap.size + 1) 44 (.slice none 0 0)) ∧ Below w.heap.size w W
def TrimX (w : World) (b off cap : Nat) (xs : List Nat) (c : Code) (pre : List (Pl xs.length (fun j x => x = gl xs j))) (W : World) : Prop :=
  (∃ ini last, c = .ret ∧ pre = ini ++ [last] ∧ (∀ p ∈ ini, p.1.2 = 0) ∧ last.1.2 ≠ 0 ∧ Boxed W (w.heap.size + 1) 44 (.slice (some ⟨b, off, none⟩) (last.1.1 + 1) cap)) ∧ Below w.heap.size w W

set_option maxRecDepth 100000 in
set_option maxHeartbeats 2000000 in
theorem trim_some_in (F : Fence) (n : Nat) (h1f : F.fn 76) (h2f : F.fn 78) (h3f : F.fn 93) (hro : F.round = none) (hn : 3 ≤ n) (b off cap : Nat) (xs : List Nat) (w : World)
    (hs : Small xs) (hcap : xs.length ≤ cap) (hm : cap ≤ 4611686018427387904) (hb : b < w.heap.size) (ha : Arr w b off xs) :
    CallsIn F n Tryd.prog 76 #[.slice (some ⟨b, off, none⟩) xs.length cap] w fun e w' => GiveN w (valL xs) e w' := by
  have h1 : 1 ≤ n := by omega
  refine callsIn_of_wp_marks Tryd.func76 rfl h1f ?_ hro
  simp only [Tryd.ntmps76, List.size_toArray, List.length_cons, List.length_nil, Nat.reduceAdd, Nat.reduceSub, Array.replicate_succ, Array.replicate_zero, List.push_toArray, List.append_toArray, List.nil_append, List.cons_append]
  gi_wp2_with (gi_at_call 78; refine (behind_in F (n - 1) h2f hro _ _ _ _).mono ?_; rintro e w' ⟨rfl, rfl⟩)
  have bA := Boxed.new w 44 (.slice (some ⟨b, off, none⟩) xs.length cap)
  have bR := Boxed.new (w.alloc (.cells #[.slice (some ⟨b, off, none⟩) xs.length cap] 44)) 44 (.slice none 0 0)
  rw [World.size_alloc] at bR
  have bN := Boxed.new ((w.alloc (.cells #[.slice (some ⟨b, off, none⟩) xs.length cap] 44)).alloc (.cells #[.slice none 0 0] 44)) 44 (.slice (some ⟨b, off, none⟩) xs.length cap)
  rw [World.size_alloc, World.size_alloc] at bN
  have hB0 : Below w.heap.size w (((w.alloc (.cells #[.slice (some ⟨b, off, none⟩) xs.length cap] 44)).alloc (.cells #[.slice none 0 0] 44)).alloc (.cells #[.slice (some ⟨b, off, none⟩) xs.length cap] 44)) :=
    (((Below.refl _ w).alloc (Nat.le_refl _) _).alloc (by simp) _).alloc (by simp; omega) _
  have hsz : (((w.alloc (.cells #[.slice (some ⟨b, off, none⟩) xs.length cap] 44)).alloc (.cells #[.slice none 0 0] 44)).alloc (.cells #[.slice (some ⟨b, off, none⟩) xs.length cap] 44)).heap.size = w.heap.size + 3 := by simp
  have hRd : Ready (w.heap.size + 1 + 1) b off xs.length cap (fun j x => x = gl xs j) (((w.alloc (.cells #[.slice (some ⟨b, off, none⟩) xs.length cap] 44)).alloc (.cells #[.slice none 0 0] 44)).alloc (.cells #[.slice (some ⟨b, off, none⟩) xs.length cap] 44)) :=
    ⟨bN.cell, fun j hj => ⟨_, rfl, ha.below hB0 hb j hj⟩⟩
  refine wpIn_rangeFunc_ownG hro h1 (gf := 93) (lb := #[.pointer (some ⟨w.heap.size + 1 + 1, 0, none⟩)]) rfl h3f (enters_of Tryd.func93 (by kernel_rfl) rfl)
    (behind_stops F (n - 1) h3f hro (by omega) (w.heap.size + 1 + 1) b off xs.length cap (fun j x => x = gl xs j) (by omega) _ (by rw [hsz]; omega) (by rw [hsz]; omega) hRd) readyK_t (fun W l o o' _ hl ho _ => readyK_b W l o o' hl ho) (Below.refl _ _) (fun _ => rfl)
    (TrimI w b off cap xs) (TrimX w b off cap xs)
    (OwnFrom.and (OwnFrom.and (ownFrom_pure _ _) (OwnFrom.and (Own.from (boxed_own _ _ _) _) (Own.from (boxed_own _ _ _) _))) (ownFrom_below (Nat.le_refl _) (by rw [hsz]; omega)))
    (fun c => OwnFrom.and (fun s X Y row hs hg hrow => by
      obtain ⟨ini, last, e1, e2, e3, e4, e5⟩ := hs
      exact ⟨ini, last, e1, e2, e3, e4, Own.from (boxed_own (w.heap.size + 1) 44 (fun _ : Unit => Value.slice (some ⟨b, off, none⟩) (last.1.1 + 1) cap)) _ () X Y row e5 hg hrow⟩) (ownFrom_below (Nat.le_refl _) (by rw [hsz]; omega)))
    ⟨⟨(fun _ h => nomatch h), (bA.alloc _).alloc _, bR.alloc _⟩, hB0⟩
    (fun x => { tmps := #[.slice (some ⟨b, off, none⟩) xs.length cap, .pointer (some ⟨w.heap.size, 0, none⟩), .pointer (some ⟨w.heap.size + 1, 0, none⟩), .int .i64 (x.1.1 : Int), .int .u64 (x.1.2 : Int), .slice (some ⟨b, off, none⟩) xs.length cap,
      .func (.func 93) #[] #[.pointer (some ⟨w.heap.size + 1 + 1, 0, none⟩)], .int .i64 (x.1.1 : Int), .int .u64 (x.1.2 : Int), undef, undef, undef, undef, undef, undef], defers := [] }) ?assign ?body ?done ?stop
  case assign =>
    intro l x W K hK
    simp only [encP]
    gi_wp2
    exact hK
  case body =>
    rintro l pre x W ⟨⟨hp, hA, hR⟩, hB⟩ _
    have hx1 := x.2.1
    have c1 := hA.cell
    have c2 := hR.cell
    have f2 := hR.frozen
    by_cases hz : x.1.2 = 0
    · have hz' : ((x.1.2 : Int) != 0) = false := by rw [hz]; rfl
      have HP := Lib.hid hp; clear hp
      have HZ := Lib.hid hz; clear hz
      gi_wp2
      exact ⟨KeepsFrom.refl _ _, fun h => h, ⟨⟨fun p hp' => (List.mem_append.1 hp').elim (HP.out p) (fun e => by rw [List.mem_singleton.1 e]; exact HZ.out), hA, hR⟩, hB⟩⟩
    · have hz' : ((x.1.2 : Int) != 0) = true := by rw [bne_iff_ne]; omega
      have HP := Lib.hid hp; clear hp
      have HZ := Lib.hid hz; clear hz
      gi_wp2
      exact ⟨(KeepsOthers.setCell _ _ _).from _, ⟨⟨pre, x, rfl, rfl, HP.out, HZ.out, hR.set _⟩, hB.setCell (p := ⟨w.heap.size + 1, 0, none⟩) (by simp) _⟩⟩
  case done =>
    rintro D ys W hD hS ⟨⟨hp, hA, hR⟩, hB⟩ hK
    have c2 := hR.cell
    have f2 := hR.frozen
    have hz0 := zero_of_dn (Nat.le_refl _) hS (fun _ _ h => h) hp
    have hval : valL xs = 0 := (ZeroFrom.val hz0 (by omega)).symm.trans (by rw [Nat.sub_self]; rfl)
    have HV := Lib.hid hval; clear hval hz0
    have HP := Lib.hid hp; clear hp
    have HS := Lib.hid hS; clear hS
    gi_wp2
    have hK' := (KeepsOthers.setCell W ⟨w.heap.size + 1, 0, none⟩ (.slice none 0 0)).same D _ hK rfl
    refine ⟨by simp, .inl ⟨_, _, rfl, run_takeDeferred hK', ?_⟩⟩
    have hc5 := cell_kept (World.cell?_setCell_same' W ⟨w.heap.size + 1, 0, none⟩ (.slice none 0 0) (by rw [c2]; rfl)) (grownBy_putObj' _ D (.deferred none)) (fun r e => by cases e; exact ⟨_, hK', rfl⟩)
    refine ⟨.slice none 0 0, ?_, .slice none 0 0, rfl, ⟨[], ⟨Small.nil, .inl ⟨rfl, rfl⟩⟩, Norm.nil, HV.out.symm⟩, (hB.setCell (p := ⟨w.heap.size + 1, 0, none⟩) (by simp) _).trans (belowK_b (w := w) (Nat.le_refl _) _ D _ _ (by rw [hsz] at hD; omega) hK' rfl rfl)⟩
    simp [results, Tryd.f76, go_sem, hc5]
  case stop =>
    rintro D c pre W hD ⟨k, hk, hp⟩ ⟨⟨ini, last, rfl, rfl, e3, e4, hR⟩, hB⟩ hK
    have c2 := hR.cell
    obtain ⟨k', rfl⟩ : ∃ k', k = k' + 1 := by
      cases k with
      | zero => have := congrArg List.length hp; simp [idx, dn] at this
      | succ k' => exact ⟨k', rfl⟩
    rw [idx_snoc, dn_succ] at hp
    obtain ⟨hp1, hp2⟩ := List.append_inj' hp rfl
    have hm1 : last.1.1 = xs.length - 1 - k' := by simpa using hp2
    have hl1 := last.2.1
    have hv1 : last.1.2 = gl xs last.1.1 := last.2.2
    have hz0 := zero_of_dn (by omega) hp1 (fun _ _ h => h) e3
    have hlen : xs.length - k' = last.1.1 + 1 := by omega
    rw [hlen] at hz0
    have hval := hz0.val (by omega)
    have hno : Norm (xs.take (last.1.1 + 1)) := fun _ => by
      rw [List.length_take, Nat.min_eq_left (by omega), gl_eq, gl_take (by omega), Nat.add_sub_cancel, ← hv1]
      exact e4
    have hD' : w.heap.size ≤ D := by rw [hsz] at hD; omega
    have hlim : ∀ w', Below w.heap.size w w' → Lim w' (.slice (some ⟨b, off, none⟩) (last.1.1 + 1) cap) (xs.take (last.1.1 + 1)) := fun w' hw' => by
      refine ⟨hs.take _, .inr ⟨b, off, cap, by rw [List.length_take, Nat.min_eq_left (by omega)], by rw [List.length_take]; omega, hm, Nat.lt_of_lt_of_le hb hw'.size, fun j hj => ?_⟩⟩
      rw [List.length_take] at hj
      rw [gl_take (by omega)]
      exact ha.below hw' hb j (by omega)
    clear hp hp1 hp2 hm1 hv1 hz0 e4 e3 hsz hlen
    have HV := Lib.hid hval; clear hval
    have HN := Lib.hid hno; clear hno
    have HL := Lib.hid hlim; clear hlim
    gi_wp2
    refine ⟨by simp, .inl ⟨_, _, rfl, run_takeDeferred hK, ?_⟩⟩
    have hc5 := cell_kept c2 (grownBy_putObj' _ D (.deferred none)) (fun r e => by cases e; exact ⟨_, hK, rfl⟩)
    have hbl := hB.trans (belowK_b (w := w) (Nat.le_refl _) W D _ (.deferred none) hD' hK rfl rfl)
    refine ⟨.slice (some ⟨b, off, none⟩) (last.1.1 + 1) cap, ?_, _, rfl, ⟨_, HL.out _ hbl, HN.out, HV.out⟩, hbl⟩
    simp [results, Tryd.f76, go_sem, hc5]

/-- .. inside a fence. -/
theorem trim_in (F : Fence) (k : Nat) (h1f : F.fn 76) (h2f : F.fn 78) (h3f : F.fn 93) (hro : F.round = none) (hn : 3 ≤ k) (b off n cap : Nat) (xs : List Nat) (w : World) (hl : xs.length = n)
    (hs : Small xs) (hcap : n ≤ cap) (hm : cap ≤ 4611686018427387904) (hb : b < w.heap.size) (ha : Arr w b off xs) :
    CallsIn F k Tryd.prog 76 #[.slice (some ⟨b, off, none⟩) n cap] w fun e w' => GiveN w (valL xs) e w' := by
  subst hl
  exact trim_some_in F k h1f h2f h3f hro hn b off cap xs w hs hcap hm hb ha

/-- nat.trim of a row of limbs that is not nil. -/
theorem trim_any (b off n cap : Nat) (xs : List Nat) (w : World) (hn : xs.length = n)
    (hs : Small xs) (hcap : n ≤ cap) (hm : cap ≤ 4611686018427387904) (hb : b < w.heap.size) (ha : Arr w b off xs) :
    Calls Tryd.prog 76 #[.slice (some ⟨b, off, none⟩) n cap] w fun e w' => GiveN w (valL xs) e w' := by
  subst hn
  exact callsIn_wide.1 (trim_some_in Fence.wide 3 trivial trivial trivial rfl (by omega) b off cap xs w hs hcap hm hb ha)
end Go.Proofs.YtcekdidefomkfaaDoor

/- What the laws of layer 8 want of the program's instruct; an instruction of its parts; constants. -/
import Derived.Test.YtagfndkfjbbpjaaGreatDoorAllRefI
import Derived.Test.YtagfndkfjbbpjaaGreatDoorAllRefI6
namespace Go.Proofs.YtagfndkfjbbpjaaGreatDoor
open Go.RowKit
set_option linter.unusedSimpArgs false
set_option linter.unusedVariables false
structure InsC (G : World → Prop) : Prop where
 below : ∀ {w w' : World}, G w → Below w.heap.size w w' → G w'
 may : ∀ (q : Option Addr) (d : Nat) (l : List In) (w : World), l.length ≤ d → l.length ≤ 100 → (∀ x ∈ l, SzI x) → Ins w q l → G w → Calls Tryz.prog 16 #[.slice q l.length d] w (GiveB w (mayI l))
 lines : ∀ (x : In) (w : World), SzI x → G w → Calls Tryz.prog 14 #[.agg #[.int .i64 x.id, .int .i64 x.dealt, .int .i64 x.due, .string ⟨x.frm.toArray⟩, .string ⟨x.dst.toArray⟩, .string ⟨x.ast.toArray⟩, .string ⟨x.q.1.toArray⟩, .string ⟨x.q.2.toArray⟩, .string ⟨x.pay.1.toArray⟩, .string ⟨x.pay.2.toArray⟩]] w (GiveLI w (linesI x))
 run : ∀ (p : Option Addr) (c : Nat) (ls : List Ln) (q : Option Addr) (d : Nat) (l : List In) (day : Int) (D M : Nat) (w : World), ls.length ≤ c → l.length ≤ d → ls.length ≤ 1000 → l.length ≤ 40 → (∀ x ∈ ls, SzF x) → (∀ x ∈ l, SzI x) → Sized D (M * 2000) → (Good ls → ∀ key, Bd D M (hasQ ls key)) → (∀ x ∈ l, oneB x = true → Bd D M (valR x.q) ∧ Bd D M (valR x.pay)) → Lns w p ls → Ins w q l → G w →
  Calls Tryz.prog 11 #[.slice p ls.length c, .slice q l.length d, .int .i64 day] w (GiveRun w (runI ls l day))
 find : ∀ (q : Option Addr) (d : Nat) (l : List In) (n : Int) (w : World), l.length ≤ d → l.length ≤ 1000 → Ins w q l → G w → Calls Tryz.prog 20 #[.slice q l.length d, .int .i64 n] w (GiveI w (findI l n 0))
theorem lay10z (w : World) (xa xb xc xd xe xf xg xh xi xj : Value) (t : TypeId) : ∃ U, w.alloc (.cells #[xa, xb, xc, xd, xe, xf, xg, xh, xi, xj] t) = U ∧ Below w.heap.size w U ∧ w.heap.size + 1 = U.heap.size ∧
  (∀ v, Below U.heap.size U v → v.cell? ⟨w.heap.size, 0, none⟩ = some xa ∧ v.frozen? ⟨w.heap.size, 0, none⟩ = false) ∧
  (∀ v, Below U.heap.size U v → v.cell? ⟨w.heap.size, 1, none⟩ = some xb ∧ v.frozen? ⟨w.heap.size, 1, none⟩ = false) ∧
  (∀ v, Below U.heap.size U v → v.cell? ⟨w.heap.size, 2, none⟩ = some xc ∧ v.frozen? ⟨w.heap.size, 2, none⟩ = false) ∧
  (∀ v, Below U.heap.size U v → v.cell? ⟨w.heap.size, 3, none⟩ = some xd ∧ v.frozen? ⟨w.heap.size, 3, none⟩ = false) ∧
  (∀ v, Below U.heap.size U v → v.cell? ⟨w.heap.size, 4, none⟩ = some xe ∧ v.frozen? ⟨w.heap.size, 4, none⟩ = false) ∧
  (∀ v, Below U.heap.size U v → v.cell? ⟨w.heap.size, 5, none⟩ = some xf ∧ v.frozen? ⟨w.heap.size, 5, none⟩ = false) ∧
  (∀ v, Below U.heap.size U v → v.cell? ⟨w.heap.size, 6, none⟩ = some xg ∧ v.frozen? ⟨w.heap.size, 6, none⟩ = false) ∧
  (∀ v, Below U.heap.size U v → v.cell? ⟨w.heap.size, 7, none⟩ = some xh ∧ v.frozen? ⟨w.heap.size, 7, none⟩ = false) ∧
  (∀ v, Below U.heap.size U v → v.cell? ⟨w.heap.size, 8, none⟩ = some xi ∧ v.frozen? ⟨w.heap.size, 8, none⟩ = false) ∧
  (∀ v, Below U.heap.size U v → v.cell? ⟨w.heap.size, 9, none⟩ = some xj ∧ v.frozen? ⟨w.heap.size, 9, none⟩ = false) := by
 have k : ∀ j x, (#[xa, xb, xc, xd, xe, xf, xg, xh, xi, xj] : Array Value)[j]? = some x → ∀ v, Below (w.alloc (.cells #[xa, xb, xc, xd, xe, xf, xg, xh, xi, xj] t)).heap.size (w.alloc (.cells #[xa, xb, xc, xd, xe, xf, xg, xh, xi, xj] t)) v → v.cell? ⟨w.heap.size, j, none⟩ = some x ∧ v.frozen? ⟨w.heap.size, j, none⟩ = false := fun j x e v hv =>
  ⟨(hv.cell (p := ⟨w.heap.size, j, none⟩) (by simp)).trans ((cell_new w _ _ _ rfl j).trans e), (hv.frozen (p := ⟨w.heap.size, j, none⟩) (by simp)).trans (by rw [frozen?_alloc_cells]; simp [World.frozen?])⟩
 exact ⟨_, rfl, Below.step _ (Below.refl _ _), by simp, k 0 xa rfl, k 1 xb rfl, k 2 xc rfl, k 3 xd rfl, k 4 xe rfl, k 5 xf rfl, k 6 xg rfl, k 7 xh rfl, k 8 xi rfl, k 9 xj rfl⟩
set_option maxRecDepth 100000 in
set_option maxHeartbeats 4000000 in
theorem owes_any (i n pay : Int) (w : World) (h0 : -9223372036854775807 ≤ n) (h1 : n ≤ 9223372036854775807) (h2 : -9223372036854775807 ≤ pay) (h3 : pay ≤ 9223372036854775807) :
  Calls Tryz.prog 32 #[.int .i64 i, .int .i64 n, .int .i64 pay] w fun e w' => e = .returned (.agg #[.int .i64 i, .int .i64 0, .int .i64 0, .string ⟨#[98, 111, 98]⟩, .string ⟨#[97, 110, 110]⟩, .string ⟨#[120]⟩, .string ⟨(wd n).toArray⟩, .string ⟨#[49]⟩, .string ⟨(wd pay).toArray⟩, .string ⟨#[49]⟩]) ∧ Below w.heap.size w w' := by
 have c1 := fun w => rqof_any n w (by omega) h1
 have c2 := fun w => rqof_any pay w (by omega) h3
 generalize wd n = a at *
 generalize wd pay = b at *
 have C1 := Lib.hid c1; have C2 := Lib.hid c2
 clear c1 c2 h0 h1 h2 h3
 go_enter Tryz.func32, Tryz.ntmps32
 go_wp2_with fail
 obtain ⟨U, hU, bU, s1, r0, r1, r2, r3, r4, r5, r6, r7, r8, r9⟩ := lay10z w (.int .i64 0) (.int .i64 0) (.int .i64 0) (.string ⟨#[]⟩) (.string ⟨#[]⟩) (.string ⟨#[]⟩) (.string ⟨#[]⟩) (.string ⟨#[]⟩) (.string ⟨#[]⟩) (.string ⟨#[]⟩) 37
 rw [hU]; clear hU s1
 have b0 := Below.refl U.heap.size U
 refine (C1.out _).mono ?_
 rintro e w1 ⟨rfl, b⟩
 have b1 := Below.more b0 b
 clear b
 go_wp2_with fail
 refine (C2.out _).mono ?_
 rintro e w2 ⟨rfl, b⟩
 have b2 := Below.more b1 b
 clear b
 have z0 := (r0 w2 b2).2; have y0 := (r0 w2 b2).1
 have z1 := (r1 w2 b2).2; have y1 := (r1 w2 b2).1
 have z2 := (r2 w2 b2).2; have y2 := (r2 w2 b2).1
 have z3 := (r3 w2 b2).2; have y3 := (r3 w2 b2).1
 have z4 := (r4 w2 b2).2; have y4 := (r4 w2 b2).1
 have z5 := (r5 w2 b2).2; have y5 := (r5 w2 b2).1
 have z6 := (r6 w2 b2).2; have y6 := (r6 w2 b2).1
 have z7 := (r7 w2 b2).2; have y7 := (r7 w2 b2).1
 have z8 := (r8 w2 b2).2; have y8 := (r8 w2 b2).1
 have z9 := (r9 w2 b2).2; have y9 := (r9 w2 b2).1
 clear r0 r1 r2 r3 r4 r5 r6 r7 r8 r9
 go_wp2_with fail
 refine bodyPost_ret (v := .agg #[.int .i64 i, .int .i64 0, .int .i64 0, .string ⟨#[98, 111, 98]⟩, .string ⟨#[97, 110, 110]⟩, .string ⟨#[120]⟩, .string ⟨a.toArray⟩, .string ⟨#[49]⟩, .string ⟨b.toArray⟩, .string ⟨#[49]⟩]) (by simp [results, Tryz.results32, go_sem, *]) rfl ⟨rfl, ?_⟩
 exact Below.setCell (Below.setCell (Below.setCell (Below.setCell (Below.setCell (Below.setCell (Below.setCell (Below.setCell (Below.setCell (Below.setCell (Below.more bU b2) (Nat.le_refl _) _) (Nat.le_refl _) _) (Nat.le_refl _) _) (Nat.le_refl _) _) (Nat.le_refl _) _) (Nat.le_refl _) _) (Nat.le_refl _) _) (Nat.le_refl _) _) (Nat.le_refl _) _) (Nat.le_refl _) _
theorem pay_no {x : In} (h : ¬ 0 < sgnR x.pay) : payL x = [] := if_neg h
theorem pay_yes {x : In} {r : Key} (h : 0 < sgnR x.pay) (e : negR x.pay = r) : payL x = [((x.dst, cashT), r), ((x.frm, cashT), x.pay)] := by unfold payL; rw [if_pos h, e]
theorem lines_c {x : In} {r : Key} {pl : List Ln} (h : oneB x = true) (hn : negR x.q = r) (hp : payL x = pl) : linesI x = [((x.frm, x.ast), r), ((x.dst, x.ast), x.q)] ++ pl := by unfold linesI; rw [if_pos h, hn, hp]
theorem li_1 : linesI (In.mk 1 0 0 [98, 111, 98] [97, 110, 110] [120] ([51], [49]) ([48], [49])) = ([(([98, 111, 98], [120]), ([45, 51], [49])), (([97, 110, 110], [120]), ([51], [49]))] : List Ln) := lines_c (by decide +kernel) (negR_c (by decide +kernel)) (pay_no (by decide +kernel))
theorem li_2 : linesI (In.mk 2 0 0 [98, 111, 98] [97, 110, 110] [120] ([49], [49]) ([48], [49])) = ([(([98, 111, 98], [120]), ([45, 49], [49])), (([97, 110, 110], [120]), ([49], [49]))] : List Ln) := lines_c (by decide +kernel) (negR_c (by decide +kernel)) (pay_no (by decide +kernel))
theorem li_4 : linesI (In.mk 4 0 0 [98, 111, 98] [97, 110, 110] [120] ([49], [49]) ([53], [49])) = ([(([98, 111, 98], [120]), ([45, 49], [49])), (([97, 110, 110], [120]), ([49], [49])), (([97, 110, 110], [99, 97, 115, 104]), ([45, 53], [49])), (([98, 111, 98], [99, 97, 115, 104]), ([53], [49]))] : List Ln) := lines_c (by decide +kernel) (negR_c (by decide +kernel)) (pay_yes (by decide +kernel) (negR_c (by decide +kernel)))
theorem li_5 : linesI (In.mk 1 0 0 [98, 111, 98] [97, 110, 110] [120] ([51], [49]) ([53], [49])) = ([(([98, 111, 98], [120]), ([45, 51], [49])), (([97, 110, 110], [120]), ([51], [49])), (([97, 110, 110], [99, 97, 115, 104]), ([45, 53], [49])), (([98, 111, 98], [99, 97, 115, 104]), ([53], [49]))] : List Ln) := lines_c (by decide +kernel) (negR_c (by decide +kernel)) (pay_yes (by decide +kernel) (negR_c (by decide +kernel)))
theorem bl_i1 : balB ([(([98, 111, 98], [120]), ([45, 51], [49])), (([97, 110, 110], [120]), ([51], [49]))] : List Ln) = true := bal_two (by decide +kernel) (by decide +kernel)
theorem bl_i2 : balB ([(([98, 111, 98], [120]), ([45, 49], [49])), (([97, 110, 110], [120]), ([49], [49]))] : List Ln) = true := bal_two (by decide +kernel) (by decide +kernel)
theorem bl_i4 : balB ([(([98, 111, 98], [120]), ([45, 49], [49])), (([97, 110, 110], [120]), ([49], [49])), (([97, 110, 110], [99, 97, 115, 104]), ([45, 53], [49])), (([98, 111, 98], [99, 97, 115, 104]), ([53], [49]))] : List Ln) = true := by
 have e : ([(([98, 111, 98], [120]), ([45, 49], [49])), (([97, 110, 110], [120]), ([49], [49])), (([97, 110, 110], [99, 97, 115, 104]), ([45, 53], [49])), (([98, 111, 98], [99, 97, 115, 104]), ([53], [49]))] : List Ln) = ([(([98, 111, 98], [120]), ([45, 49], [49])), (([97, 110, 110], [120]), ([49], [49]))] : List Ln) ++ ([(([97, 110, 110], [99, 97, 115, 104]), ([45, 53], [49])), (([98, 111, 98], [99, 97, 115, 104]), ([53], [49]))] : List Ln) := rfl
 rw [e]; exact bal_append (bal_two (by decide +kernel) (by decide +kernel)) (bal_two (by decide +kernel) (by decide +kernel))
theorem all_four {ls b1 b2 b3 b4 : List Ln} {x y z u : Ln} (h1 : addB ls x = (b1, true)) (h2 : addB b1 y = (b2, true)) (h3 : addB b2 z = (b3, true)) (h4 : addB b3 u = (b4, true)) : addAll ls [x, y, z, u] = b4 := by
 rw [addAll_cons, h1, addAll_cons, h2, addAll_cons, h3, addAll_cons, h4]; rfl
theorem ai_1 : applyB ([(([98, 111, 98], [120]), ([50], [49]))] : List Ln) ([(([98, 111, 98], [120]), ([45, 51], [49])), (([97, 110, 110], [120]), ([51], [49]))] : List Ln) true = ([], 71) := apply_short (by decide +kernel) bl_i1 (all_two (add_c (g := ([50], [49])) (q := ([45, 49], [49])) (by decide +kernel) (by decide +kernel) (addR_c (by decide +kernel)) (by decide +kernel) : addB ([(([98, 111, 98], [120]), ([50], [49]))] : List Ln) (([98, 111, 98], [120]), ([45, 51], [49])) = (([(([98, 111, 98], [120]), ([45, 49], [49]))] : List Ln), true)) (add_c (g := ([48], [49])) (q := ([51], [49])) (by decide +kernel) (by decide +kernel) (addR_c (by decide +kernel)) (by decide +kernel) : addB ([(([98, 111, 98], [120]), ([45, 49], [49]))] : List Ln) (([97, 110, 110], [120]), ([51], [49])) = (([(([97, 110, 110], [120]), ([51], [49])), (([98, 111, 98], [120]), ([45, 49], [49]))] : List Ln), true))) (by decide +kernel)
theorem ai_2 : applyB ([(([98, 111, 98], [120]), ([50], [49]))] : List Ln) ([(([98, 111, 98], [120]), ([45, 49], [49])), (([97, 110, 110], [120]), ([49], [49]))] : List Ln) true = (([(([97, 110, 110], [120]), ([49], [49])), (([98, 111, 98], [120]), ([49], [49]))] : List Ln), 0) := apply_c (by decide +kernel) bl_i2 (all_two (add_c (g := ([50], [49])) (q := ([49], [49])) (by decide +kernel) (by decide +kernel) (addR_c (by decide +kernel)) (by decide +kernel) : addB ([(([98, 111, 98], [120]), ([50], [49]))] : List Ln) (([98, 111, 98], [120]), ([45, 49], [49])) = (([(([98, 111, 98], [120]), ([49], [49]))] : List Ln), true)) (add_c (g := ([48], [49])) (q := ([49], [49])) (by decide +kernel) (by decide +kernel) (addR_c (by decide +kernel)) (by decide +kernel) : addB ([(([98, 111, 98], [120]), ([49], [49]))] : List Ln) (([97, 110, 110], [120]), ([49], [49])) = (([(([97, 110, 110], [120]), ([49], [49])), (([98, 111, 98], [120]), ([49], [49]))] : List Ln), true))) (by decide +kernel)
theorem ai_4 : applyB ([(([97, 110, 110], [120]), ([49], [49])), (([98, 111, 98], [120]), ([49], [49]))] : List Ln) ([(([98, 111, 98], [120]), ([45, 49], [49])), (([97, 110, 110], [120]), ([49], [49])), (([97, 110, 110], [99, 97, 115, 104]), ([45, 53], [49])), (([98, 111, 98], [99, 97, 115, 104]), ([53], [49]))] : List Ln) true = ([], 71) := apply_short (by decide +kernel) bl_i4 (all_four (add_c (g := ([49], [49])) (q := ([48], [49])) (by decide +kernel) (by decide +kernel) (addR_c (by decide +kernel)) (by decide +kernel) : addB ([(([97, 110, 110], [120]), ([49], [49])), (([98, 111, 98], [120]), ([49], [49]))] : List Ln) (([98, 111, 98], [120]), ([45, 49], [49])) = (([(([97, 110, 110], [120]), ([49], [49]))] : List Ln), true)) (add_c (g := ([49], [49])) (q := ([50], [49])) (by decide +kernel) (by decide +kernel) (addR_c (by decide +kernel)) (by decide +kernel) : addB ([(([97, 110, 110], [120]), ([49], [49]))] : List Ln) (([97, 110, 110], [120]), ([49], [49])) = (([(([97, 110, 110], [120]), ([50], [49]))] : List Ln), true)) (add_c (g := ([48], [49])) (q := ([45, 53], [49])) (by decide +kernel) (by decide +kernel) (addR_c (by decide +kernel)) (by decide +kernel) : addB ([(([97, 110, 110], [120]), ([50], [49]))] : List Ln) (([97, 110, 110], [99, 97, 115, 104]), ([45, 53], [49])) = (([(([97, 110, 110], [99, 97, 115, 104]), ([45, 53], [49])), (([97, 110, 110], [120]), ([50], [49]))] : List Ln), true)) (add_c (g := ([48], [49])) (q := ([53], [49])) (by decide +kernel) (by decide +kernel) (addR_c (by decide +kernel)) (by decide +kernel) : addB ([(([97, 110, 110], [99, 97, 115, 104]), ([45, 53], [49])), (([97, 110, 110], [120]), ([50], [49]))] : List Ln) (([98, 111, 98], [99, 97, 115, 104]), ([53], [49])) = (([(([97, 110, 110], [99, 97, 115, 104]), ([45, 53], [49])), (([97, 110, 110], [120]), ([50], [49])), (([98, 111, 98], [99, 97, 115, 104]), ([53], [49]))] : List Ln), true))) (by decide +kernel)
theorem st_no {day : Int} {s : Rs} {x : In} (h : x.due ≤ day → (applyB s.book (linesI x) true).2 ≠ 0) : stepI day s x = ⟨s.book, s.rest ++ [x], s.done⟩ := by
 unfold stepI
 rw [if_neg (by rw [Bool.and_eq_true, decide_eq_true_eq, beq_iff_eq]; exact fun c => h c.1 c.2)]
theorem st_yes {day : Int} {s : Rs} {x : In} {b : List Ln} (h : x.due ≤ day) (e : applyB s.book (linesI x) true = (b, 0)) : stepI day s x = ⟨b, s.rest, s.done ++ [x.id]⟩ := by
 unfold stepI
 rw [e, if_pos (by rw [decide_eq_true h]; rfl)]
theorem ri_1 : runI ([(([98, 111, 98], [120]), ([50], [49]))] : List Ln) [(In.mk 1 0 0 [98, 111, 98] [97, 110, 110] [120] ([51], [49]) ([48], [49])), (In.mk 2 0 0 [98, 111, 98] [97, 110, 110] [120] ([49], [49]) ([48], [49])), (In.mk 4 0 0 [98, 111, 98] [97, 110, 110] [120] ([49], [49]) ([53], [49]))] 0 = ⟨([(([97, 110, 110], [120]), ([49], [49])), (([98, 111, 98], [120]), ([49], [49]))] : List Ln), [(In.mk 1 0 0 [98, 111, 98] [97, 110, 110] [120] ([51], [49]) ([48], [49])), (In.mk 4 0 0 [98, 111, 98] [97, 110, 110] [120] ([49], [49]) ([53], [49]))], [2], 0⟩ := by
 have h1 : stepI 0 ⟨([(([98, 111, 98], [120]), ([50], [49]))] : List Ln), [], []⟩ (In.mk 1 0 0 [98, 111, 98] [97, 110, 110] [120] ([51], [49]) ([48], [49])) = ⟨([(([98, 111, 98], [120]), ([50], [49]))] : List Ln), [(In.mk 1 0 0 [98, 111, 98] [97, 110, 110] [120] ([51], [49]) ([48], [49]))], []⟩ := st_no fun _ => by rw [li_1, ai_1]; decide
 have h2 : stepI 0 ⟨([(([98, 111, 98], [120]), ([50], [49]))] : List Ln), [(In.mk 1 0 0 [98, 111, 98] [97, 110, 110] [120] ([51], [49]) ([48], [49]))], []⟩ (In.mk 2 0 0 [98, 111, 98] [97, 110, 110] [120] ([49], [49]) ([48], [49])) = ⟨([(([97, 110, 110], [120]), ([49], [49])), (([98, 111, 98], [120]), ([49], [49]))] : List Ln), [(In.mk 1 0 0 [98, 111, 98] [97, 110, 110] [120] ([51], [49]) ([48], [49]))], [2]⟩ := st_yes (by decide) (by rw [li_2, ai_2])
 have h3 : stepI 0 ⟨([(([97, 110, 110], [120]), ([49], [49])), (([98, 111, 98], [120]), ([49], [49]))] : List Ln), [(In.mk 1 0 0 [98, 111, 98] [97, 110, 110] [120] ([51], [49]) ([48], [49]))], [2]⟩ (In.mk 4 0 0 [98, 111, 98] [97, 110, 110] [120] ([49], [49]) ([53], [49])) = ⟨([(([97, 110, 110], [120]), ([49], [49])), (([98, 111, 98], [120]), ([49], [49]))] : List Ln), [(In.mk 1 0 0 [98, 111, 98] [97, 110, 110] [120] ([51], [49]) ([48], [49])), (In.mk 4 0 0 [98, 111, 98] [97, 110, 110] [120] ([49], [49]) ([53], [49]))], [2]⟩ := st_no fun _ => by rw [li_4, ai_4]; decide
 have hr : runTo ([(([98, 111, 98], [120]), ([50], [49]))] : List Ln) [(In.mk 1 0 0 [98, 111, 98] [97, 110, 110] [120] ([51], [49]) ([48], [49])), (In.mk 2 0 0 [98, 111, 98] [97, 110, 110] [120] ([49], [49]) ([48], [49])), (In.mk 4 0 0 [98, 111, 98] [97, 110, 110] [120] ([49], [49]) ([53], [49]))] 0 3 = ⟨([(([97, 110, 110], [120]), ([49], [49])), (([98, 111, 98], [120]), ([49], [49]))] : List Ln), [(In.mk 1 0 0 [98, 111, 98] [97, 110, 110] [120] ([51], [49]) ([48], [49])), (In.mk 4 0 0 [98, 111, 98] [97, 110, 110] [120] ([49], [49]) ([53], [49]))], [2]⟩ := by
  show stepI 0 (stepI 0 (stepI 0 ⟨([(([98, 111, 98], [120]), ([50], [49]))] : List Ln), [], []⟩ (In.mk 1 0 0 [98, 111, 98] [97, 110, 110] [120] ([51], [49]) ([48], [49]))) (In.mk 2 0 0 [98, 111, 98] [97, 110, 110] [120] ([49], [49]) ([48], [49]))) (In.mk 4 0 0 [98, 111, 98] [97, 110, 110] [120] ([49], [49]) ([53], [49])) = _
  rw [h1, h2, h3]
 unfold runI
 rw [if_pos (by decide +kernel)]
 show Ran.mk (runTo ([(([98, 111, 98], [120]), ([50], [49]))] : List Ln) [(In.mk 1 0 0 [98, 111, 98] [97, 110, 110] [120] ([51], [49]) ([48], [49])), (In.mk 2 0 0 [98, 111, 98] [97, 110, 110] [120] ([49], [49]) ([48], [49])), (In.mk 4 0 0 [98, 111, 98] [97, 110, 110] [120] ([49], [49]) ([53], [49]))] 0 3).book (runTo ([(([98, 111, 98], [120]), ([50], [49]))] : List Ln) [(In.mk 1 0 0 [98, 111, 98] [97, 110, 110] [120] ([51], [49]) ([48], [49])), (In.mk 2 0 0 [98, 111, 98] [97, 110, 110] [120] ([49], [49]) ([48], [49])), (In.mk 4 0 0 [98, 111, 98] [97, 110, 110] [120] ([49], [49]) ([53], [49]))] 0 3).rest (runTo ([(([98, 111, 98], [120]), ([50], [49]))] : List Ln) [(In.mk 1 0 0 [98, 111, 98] [97, 110, 110] [120] ([51], [49]) ([48], [49])), (In.mk 2 0 0 [98, 111, 98] [97, 110, 110] [120] ([49], [49]) ([48], [49])), (In.mk 4 0 0 [98, 111, 98] [97, 110, 110] [120] ([49], [49]) ([53], [49]))] 0 3).done 0 = _
 rw [hr]
theorem ri_2 : runI ([(([98, 111, 98], [120]), ([50], [49]))] : List Ln) [(In.mk 7 0 3 [98, 111, 98] [97, 110, 110] [120] ([49], [49]) ([48], [49]))] 2 = ⟨([(([98, 111, 98], [120]), ([50], [49]))] : List Ln), [(In.mk 7 0 3 [98, 111, 98] [97, 110, 110] [120] ([49], [49]) ([48], [49]))], [], 0⟩ := by
 have h1 : stepI 2 ⟨([(([98, 111, 98], [120]), ([50], [49]))] : List Ln), [], []⟩ (In.mk 7 0 3 [98, 111, 98] [97, 110, 110] [120] ([49], [49]) ([48], [49])) = ⟨([(([98, 111, 98], [120]), ([50], [49]))] : List Ln), [(In.mk 7 0 3 [98, 111, 98] [97, 110, 110] [120] ([49], [49]) ([48], [49]))], []⟩ := st_no fun h => absurd h (by decide)
 have hr : runTo ([(([98, 111, 98], [120]), ([50], [49]))] : List Ln) [(In.mk 7 0 3 [98, 111, 98] [97, 110, 110] [120] ([49], [49]) ([48], [49]))] 2 1 = ⟨([(([98, 111, 98], [120]), ([50], [49]))] : List Ln), [(In.mk 7 0 3 [98, 111, 98] [97, 110, 110] [120] ([49], [49]) ([48], [49]))], []⟩ := h1
 unfold runI
 rw [if_pos (by decide +kernel)]
 show Ran.mk (runTo ([(([98, 111, 98], [120]), ([50], [49]))] : List Ln) [(In.mk 7 0 3 [98, 111, 98] [97, 110, 110] [120] ([49], [49]) ([48], [49]))] 2 1).book (runTo ([(([98, 111, 98], [120]), ([50], [49]))] : List Ln) [(In.mk 7 0 3 [98, 111, 98] [97, 110, 110] [120] ([49], [49]) ([48], [49]))] 2 1).rest (runTo ([(([98, 111, 98], [120]), ([50], [49]))] : List Ln) [(In.mk 7 0 3 [98, 111, 98] [97, 110, 110] [120] ([49], [49]) ([48], [49]))] 2 1).done 0 = _
 rw [hr]
theorem szI_c {l : List In} (h : l.all shI = true) : ∀ x ∈ l, SzI x := fun x hx => by
 have k := List.all_eq_true.1 h x hx
 unfold shI at k
 simp only [Bool.and_eq_true, decide_eq_true_eq] at k
 exact ⟨⟨Nat.le_trans k.2.1 (by decide), Nat.le_trans k.2.2.1 (by decide), Nat.le_trans k.2.2.2 (by decide)⟩, ⟨Nat.le_trans k.1.1.1 (by decide), Nat.le_trans k.1.1.2 (by decide)⟩, Nat.le_trans k.1.2.1 (by decide), Nat.le_trans k.1.2.2 (by decide)⟩
def okI (x : In) : Bool := okW ((x.frm, x.ast), x.q) && okW ((x.dst, x.ast), x.pay)
theorem okI_c {l : List In} (h : l.all okI = true) : ∀ x ∈ l, oneB x = true → Bd 1 10 (valR x.q) ∧ Bd 1 10 (valR x.pay) := fun x hx _ => by
 have k := List.all_eq_true.1 h x hx
 unfold okI at k
 rw [Bool.and_eq_true] at k
 exact ⟨bd_c k.1, bd_c k.2⟩
theorem has_c {ls : List Ln} (h : ls.all okW = true) : ∀ key, Bd 1 10 (hasQ ls key) := has_bd fun x hx => bd_c (List.all_eq_true.1 h x hx)
theorem z_c : Sized 1 (10 * 2000) := ⟨by decide, pow_lt2 0 15000 (by decide) (by decide), pow_lt2 5 3000 (by decide) (by decide)⟩
end Go.Proofs.YtagfndkfjbbpjaaGreatDoor
/- The fixed calls at the head of each statement of layer 8. -/
namespace Go.Proofs.YtagfndkfjbbpjaaGreatDoor
open Go.RowKit
set_option linter.unusedSimpArgs false
set_option linter.unusedVariables false
variable {G : World → Prop}
theorem kp_o1 (w : World) : Calls Tryz.prog 32 #[.int .i64 1, .int .i64 3, .int .i64 0] w fun e w' => e = .returned (.agg #[.int .i64 1, .int .i64 0, .int .i64 0, .string ⟨#[98, 111, 98]⟩, .string ⟨#[97, 110, 110]⟩, .string ⟨#[120]⟩, .string ⟨#[51]⟩, .string ⟨#[49]⟩, .string ⟨#[48]⟩, .string ⟨#[49]⟩]) ∧ Below w.heap.size w w' := by
 have h := owes_any 1 3 0 w (by decide) (by decide) (by decide) (by decide)
 rw [show wd 3 = [51] from wd_const (by decide) (by decide), show wd 0 = [48] from wd_const (by decide) (by decide)] at h
 exact h
theorem kp_o2 (w : World) : Calls Tryz.prog 32 #[.int .i64 2, .int .i64 1, .int .i64 0] w fun e w' => e = .returned (.agg #[.int .i64 2, .int .i64 0, .int .i64 0, .string ⟨#[98, 111, 98]⟩, .string ⟨#[97, 110, 110]⟩, .string ⟨#[120]⟩, .string ⟨#[49]⟩, .string ⟨#[49]⟩, .string ⟨#[48]⟩, .string ⟨#[49]⟩]) ∧ Below w.heap.size w w' := by
 have h := owes_any 2 1 0 w (by decide) (by decide) (by decide) (by decide)
 rw [show wd 1 = [49] from wd_const (by decide) (by decide), show wd 0 = [48] from wd_const (by decide) (by decide)] at h
 exact h
theorem kp_o4 (w : World) : Calls Tryz.prog 32 #[.int .i64 4, .int .i64 1, .int .i64 5] w fun e w' => e = .returned (.agg #[.int .i64 4, .int .i64 0, .int .i64 0, .string ⟨#[98, 111, 98]⟩, .string ⟨#[97, 110, 110]⟩, .string ⟨#[120]⟩, .string ⟨#[49]⟩, .string ⟨#[49]⟩, .string ⟨#[53]⟩, .string ⟨#[49]⟩]) ∧ Below w.heap.size w w' := by
 have h := owes_any 4 1 5 w (by decide) (by decide) (by decide) (by decide)
 rw [show wd 1 = [49] from wd_const (by decide) (by decide), show wd 5 = [53] from wd_const (by decide) (by decide)] at h
 exact h
theorem kp_o5 (w : World) : Calls Tryz.prog 32 #[.int .i64 1, .int .i64 3, .int .i64 5] w fun e w' => e = .returned (.agg #[.int .i64 1, .int .i64 0, .int .i64 0, .string ⟨#[98, 111, 98]⟩, .string ⟨#[97, 110, 110]⟩, .string ⟨#[120]⟩, .string ⟨#[51]⟩, .string ⟨#[49]⟩, .string ⟨#[53]⟩, .string ⟨#[49]⟩]) ∧ Below w.heap.size w w' := by
 have h := owes_any 1 3 5 w (by decide) (by decide) (by decide) (by decide)
 rw [show wd 3 = [51] from wd_const (by decide) (by decide), show wd 5 = [53] from wd_const (by decide) (by decide)] at h
 exact h
theorem kp_o7 (w : World) : Calls Tryz.prog 32 #[.int .i64 7, .int .i64 1, .int .i64 0] w fun e w' => e = .returned (.agg #[.int .i64 7, .int .i64 0, .int .i64 0, .string ⟨#[98, 111, 98]⟩, .string ⟨#[97, 110, 110]⟩, .string ⟨#[120]⟩, .string ⟨#[49]⟩, .string ⟨#[49]⟩, .string ⟨#[48]⟩, .string ⟨#[49]⟩]) ∧ Below w.heap.size w w' := by
 have h := owes_any 7 1 0 w (by decide) (by decide) (by decide) (by decide)
 rw [show wd 1 = [49] from wd_const (by decide) (by decide), show wd 0 = [48] from wd_const (by decide) (by decide)] at h
 exact h
theorem kp_o0 (w : World) : Calls Tryz.prog 32 #[.int .i64 0, .int .i64 1, .int .i64 0] w fun e w' => e = .returned (.agg #[.int .i64 0, .int .i64 0, .int .i64 0, .string ⟨#[98, 111, 98]⟩, .string ⟨#[97, 110, 110]⟩, .string ⟨#[120]⟩, .string ⟨#[49]⟩, .string ⟨#[49]⟩, .string ⟨#[48]⟩, .string ⟨#[49]⟩]) ∧ Below w.heap.size w w' := by
 have h := owes_any 0 1 0 w (by decide) (by decide) (by decide) (by decide)
 rw [show wd 1 = [49] from wd_const (by decide) (by decide), show wd 0 = [48] from wd_const (by decide) (by decide)] at h
 exact h
theorem kp_q2 (w : World) : Calls Tryz.prog 28 #[.int .i64 2] w (GiveR w ([50], [49])) := by
 have h := rqof_any 2 w (by decide) (by decide)
 rw [show wd 2 = [50] from wd_const (by decide) (by decide)] at h
 exact h
theorem kp_r1 (H : InsC G) (p : Option Addr) (c : Nat) (hc : 1 ≤ c) (q : Option Addr) (d : Nat) (hd : 3 ≤ d) (w : World) (h : Lns w p ([(([98, 111, 98], [120]), ([50], [49]))] : List Ln)) (k : Ins w q [(In.mk 1 0 0 [98, 111, 98] [97, 110, 110] [120] ([51], [49]) ([48], [49])), (In.mk 2 0 0 [98, 111, 98] [97, 110, 110] [120] ([49], [49]) ([48], [49])), (In.mk 4 0 0 [98, 111, 98] [97, 110, 110] [120] ([49], [49]) ([53], [49]))]) (hg : G w) : Calls Tryz.prog 11 #[.slice p 1 c, .slice q 3 d, .int .i64 0] w
  fun e w' => (∃ p c p' c' p'' c'', e = .returned (.tuple #[.slice p 2 c, .slice p' 2 c', .slice p'' 1 c'', .int .i64 0]) ∧ (2 ≤ c ∧ 2 ≤ c' ∧ 1 ≤ c'') ∧ Lns w' p ([(([97, 110, 110], [120]), ([49], [49])), (([98, 111, 98], [120]), ([49], [49]))] : List Ln) ∧ Ins w' p' [(In.mk 1 0 0 [98, 111, 98] [97, 110, 110] [120] ([51], [49]) ([48], [49])), (In.mk 4 0 0 [98, 111, 98] [97, 110, 110] [120] ([49], [49]) ([53], [49]))] ∧ Nums w' p'' [2]) ∧ Below w.heap.size w w' := by
 have h := H.run p c ([(([98, 111, 98], [120]), ([50], [49]))] : List Ln) q d [(In.mk 1 0 0 [98, 111, 98] [97, 110, 110] [120] ([51], [49]) ([48], [49])), (In.mk 2 0 0 [98, 111, 98] [97, 110, 110] [120] ([49], [49]) ([48], [49])), (In.mk 4 0 0 [98, 111, 98] [97, 110, 110] [120] ([49], [49]) ([53], [49]))] 0 1 10 w hc hd (by decide) (by decide) (fit_c (by decide +kernel)) (szI_c (by decide +kernel)) z_c (fun _ => has_c (by decide +kernel)) (okI_c (by decide +kernel)) h k hg
 rw [ri_1] at h
 exact h
theorem kp_r2 (H : InsC G) (p : Option Addr) (c : Nat) (hc : 1 ≤ c) (q : Option Addr) (d : Nat) (hd : 1 ≤ d) (w : World) (h : Lns w p ([(([98, 111, 98], [120]), ([50], [49]))] : List Ln)) (k : Ins w q [(In.mk 7 0 3 [98, 111, 98] [97, 110, 110] [120] ([49], [49]) ([48], [49]))]) (hg : G w) : Calls Tryz.prog 11 #[.slice p 1 c, .slice q 1 d, .int .i64 2] w
  fun e w' => (∃ p c p' c' p'' c'', e = .returned (.tuple #[.slice p 1 c, .slice p' 1 c', .slice p'' 0 c'', .int .i64 0]) ∧ (1 ≤ c ∧ 1 ≤ c' ∧ 0 ≤ c'') ∧ Lns w' p ([(([98, 111, 98], [120]), ([50], [49]))] : List Ln) ∧ Ins w' p' [(In.mk 7 0 3 [98, 111, 98] [97, 110, 110] [120] ([49], [49]) ([48], [49]))] ∧ Nums w' p'' []) ∧ Below w.heap.size w w' := by
 have h := H.run p c ([(([98, 111, 98], [120]), ([50], [49]))] : List Ln) q d [(In.mk 7 0 3 [98, 111, 98] [97, 110, 110] [120] ([49], [49]) ([48], [49]))] 2 1 10 w hc hd (by decide) (by decide) (fit_c (by decide +kernel)) (szI_c (by decide +kernel)) z_c (fun _ => has_c (by decide +kernel)) (okI_c (by decide +kernel)) h k hg
 rw [ri_2] at h
 exact h
theorem kp_m1 (H : InsC G) (q : Option Addr) (d : Nat) (hd : 2 ≤ d) (w : World) (k : Ins w q [(In.mk 1 0 0 [98, 111, 98] [97, 110, 110] [120] ([51], [49]) ([48], [49])), (In.mk 4 0 0 [98, 111, 98] [97, 110, 110] [120] ([49], [49]) ([53], [49]))]) (hg : G w) : Calls Tryz.prog 16 #[.slice q 2 d] w (GiveB w true) := by
 have h := H.may q d [(In.mk 1 0 0 [98, 111, 98] [97, 110, 110] [120] ([51], [49]) ([48], [49])), (In.mk 4 0 0 [98, 111, 98] [97, 110, 110] [120] ([49], [49]) ([53], [49]))] w hd (by decide) (szI_c (by decide +kernel)) k hg
 rw [show mayI [(In.mk 1 0 0 [98, 111, 98] [97, 110, 110] [120] ([51], [49]) ([48], [49])), (In.mk 4 0 0 [98, 111, 98] [97, 110, 110] [120] ([49], [49]) ([53], [49]))] = true from (by decide +kernel)] at h
 exact h
theorem kp_m2 (H : InsC G) (q : Option Addr) (d : Nat) (hd : 1 ≤ d) (w : World) (k : Ins w q [(In.mk 0 0 0 [98, 111, 98] [97, 110, 110] [120] ([49], [49]) ([48], [49]))]) (hg : G w) : Calls Tryz.prog 16 #[.slice q 1 d] w (GiveB w false) := by
 have h := H.may q d [(In.mk 0 0 0 [98, 111, 98] [97, 110, 110] [120] ([49], [49]) ([48], [49]))] w hd (by decide) (szI_c (by decide +kernel)) k hg
 rw [show mayI [(In.mk 0 0 0 [98, 111, 98] [97, 110, 110] [120] ([49], [49]) ([48], [49]))] = false from (by decide +kernel)] at h
 exact h
theorem kp_f4 (H : InsC G) (q : Option Addr) (d : Nat) (hd : 2 ≤ d) (w : World) (k : Ins w q [(In.mk 1 0 0 [98, 111, 98] [97, 110, 110] [120] ([51], [49]) ([48], [49])), (In.mk 4 0 0 [98, 111, 98] [97, 110, 110] [120] ([49], [49]) ([53], [49]))]) (hg : G w) : Calls Tryz.prog 20 #[.slice q 2 d, .int .i64 4] w (GiveI w 1) := by
 have h := H.find q d [(In.mk 1 0 0 [98, 111, 98] [97, 110, 110] [120] ([51], [49]) ([48], [49])), (In.mk 4 0 0 [98, 111, 98] [97, 110, 110] [120] ([49], [49]) ([53], [49]))] 4 w hd (by decide) k hg
 rw [show findI [(In.mk 1 0 0 [98, 111, 98] [97, 110, 110] [120] ([51], [49]) ([48], [49])), (In.mk 4 0 0 [98, 111, 98] [97, 110, 110] [120] ([49], [49]) ([53], [49]))] 4 0 = 1 from by decide] at h
 exact h
theorem kp_f2 (H : InsC G) (q : Option Addr) (d : Nat) (hd : 2 ≤ d) (w : World) (k : Ins w q [(In.mk 1 0 0 [98, 111, 98] [97, 110, 110] [120] ([51], [49]) ([48], [49])), (In.mk 4 0 0 [98, 111, 98] [97, 110, 110] [120] ([49], [49]) ([53], [49]))]) (hg : G w) : Calls Tryz.prog 20 #[.slice q 2 d, .int .i64 2] w (GiveI w (-1)) := by
 have h := H.find q d [(In.mk 1 0 0 [98, 111, 98] [97, 110, 110] [120] ([51], [49]) ([48], [49])), (In.mk 4 0 0 [98, 111, 98] [97, 110, 110] [120] ([49], [49]) ([53], [49]))] 2 w hd (by decide) k hg
 rw [show findI [(In.mk 1 0 0 [98, 111, 98] [97, 110, 110] [120] ([51], [49]) ([48], [49])), (In.mk 4 0 0 [98, 111, 98] [97, 110, 110] [120] ([49], [49]) ([53], [49]))] 2 0 = (-1) from by decide] at h
 exact h
theorem kp_l (H : InsC G) (w : World) (hg : G w) : Calls Tryz.prog 14 #[.agg #[.int .i64 1, .int .i64 0, .int .i64 0, .string ⟨#[98, 111, 98]⟩, .string ⟨#[97, 110, 110]⟩, .string ⟨#[120]⟩, .string ⟨#[51]⟩, .string ⟨#[49]⟩, .string ⟨#[53]⟩, .string ⟨#[49]⟩]] w fun e w' => (∃ p c, e = .returned (.slice p 4 c) ∧ 4 ≤ c ∧ Lns w' p ([(([98, 111, 98], [120]), ([45, 51], [49])), (([97, 110, 110], [120]), ([51], [49])), (([97, 110, 110], [99, 97, 115, 104]), ([45, 53], [49])), (([98, 111, 98], [99, 97, 115, 104]), ([53], [49]))] : List Ln)) ∧ Below w.heap.size w w' := by
 have h := H.lines (In.mk 1 0 0 [98, 111, 98] [97, 110, 110] [120] ([51], [49]) ([53], [49])) w (szI_c (l := [(In.mk 1 0 0 [98, 111, 98] [97, 110, 110] [120] ([51], [49]) ([53], [49]))]) (by decide +kernel) _ (List.mem_cons_self ..)) hg
 rw [li_5] at h
 exact h
theorem kp_i (p : Option Addr) (c : Nat) (q : Option Addr) (d : Nat) (w : World) (h : Nums w p [2]) (k : Nums w q [2]) : Calls Tryz.prog 19 #[.slice p 1 c, .slice q 1 d] w (GiveB w true) := by
 have h := riints_any p q c d [2] [2] w (by decide) (by decide) h k
 exact h
theorem ins_one (w : World) (x : In) (t : TypeId) (c : Array Value) (hc : c = (encI x).toArray) : Ins (w.alloc (.cells c t)) (some ⟨w.heap.size, 0, none⟩) [x] := ins_of (rowsOne w x t c hc)
theorem ins_one1 (w : World) (X : Obj) (x : In) (t : TypeId) (c : Array Value) (hc : c = (encI x).toArray) : Ins ((w.alloc X).alloc (.cells c t)) (some ⟨w.heap.size + 1, 0, none⟩) [x] := by
 have k := ins_one (w.alloc X) x t c hc
 rw [show (w.alloc X).heap.size = w.heap.size + 1 by simp] at k
 exact k
theorem nums_one (w : World) (n : Int) (t : TypeId) : Nums (w.alloc (.cells #[.int .i64 n] t)) (some ⟨w.heap.size, 0, none⟩) [n] := nums_of (rowsOne w n t _ rfl)
theorem ins_lit (w : World) (l : List In) (c : Array Value) (n : Nat) (hc : c.toList = l.flatMap encI) (hn : l.length = n) (hm : n ≤ maxLen) : Ins (w.alloc (.cells c 37)) (some ⟨w.heap.size, 0, none⟩) l := by
 have hsz : c.size = n * 10 := by rw [← Array.length_toList, hc, flat_len (enc := encI) (k := 10) (fun _ => rfl), hn]
 have k : OwnI w.heap.size (w.alloc (.cells c 37)) (.slice (some ⟨w.heap.size, 0, none⟩) n n) l := ⟨flat_len (enc := encI) (k := 10) (fun _ => rfl) l, .inr ⟨w.heap.size, n, c, (by rw [hn]), Nat.le_refl _, heap_alloc_new w _, by rw [hn]; exact Nat.le_refl _, hm, hsz, by rw [hn, ← hc]; exact List.take_of_length_le (by rw [Array.length_toList, hsz]; exact Nat.le_refl _)⟩⟩
 obtain ⟨p, cc, e, _, r, _⟩ := ownG_rows (enc := encI) (k := 10) (fun _ => rfl) k
 cases e
 exact ins_of r
set_option maxRecDepth 100000 in
set_option maxHeartbeats 4000000 in
theorem fixed8_any (H : InsC G) (w : World) (hg : G w) :
  Calls Tryz.prog 10 #[] w (GiveB w true) := by
 have HB := Lib.hid H; have HT := Lib.hid hg; clear H hg
 go_enter Tryz.func10, Tryz.ntmps10
 go_wp2_with fail
 have BW := Below.refl w.heap.size w
 have b0 : Below w.heap.size w w := Below.refl _ _
 refine (kp_q2 _).mono ?_
 rintro e w1 ⟨rfl, b⟩
 have b1 := Below.more b0 b
 clear b
 go_wp2_with fail
 obtain ⟨U2, hU⟩ : ∃ U, w1.alloc (.cells #[.string ⟨#[98, 111, 98]⟩, .string ⟨#[120]⟩, .string ⟨#[50]⟩, .string ⟨#[49]⟩] 46) = U := ⟨_, rfl⟩
 have hrow := lnsOne w1 [98, 111, 98] [120] [50] [49] 46
 have bU := Below.alloc b1 (Below.size b1) (.cells #[.string ⟨#[98, 111, 98]⟩, .string ⟨#[120]⟩, .string ⟨#[50]⟩, .string ⟨#[49]⟩] 46)
 rw [hU] at hrow bU ⊢
 clear hU
 replace BW := Below.more BW bU
 replace HT := Lib.hid (HB.out.below HT.out bU)
 have Lb := Lib.hid hrow
 clear hrow bU
 have b2 := Below.refl U2.heap.size U2
 go_wp2_with fail
 refine (kp_o1 _).mono ?_
 rintro e w3 ⟨rfl, b⟩
 have b3 := Below.more b2 b
 clear b
 go_wp2_with fail
 refine (kp_o2 _).mono ?_
 rintro e w4 ⟨rfl, b⟩
 have b4 := Below.more b3 b
 clear b
 go_wp2_with fail
 refine (kp_o4 _).mono ?_
 rintro e w5 ⟨rfl, b⟩
 have b5 := Below.more b4 b
 clear b
 go_wp2_with fail
 obtain ⟨U6, hU⟩ : ∃ U, w5.alloc (.cells #[.int .i64 1, .int .i64 0, .int .i64 0, .string ⟨#[98, 111, 98]⟩, .string ⟨#[97, 110, 110]⟩, .string ⟨#[120]⟩, .string ⟨#[51]⟩, .string ⟨#[49]⟩, .string ⟨#[48]⟩, .string ⟨#[49]⟩, .int .i64 2, .int .i64 0, .int .i64 0, .string ⟨#[98, 111, 98]⟩, .string ⟨#[97, 110, 110]⟩, .string ⟨#[120]⟩, .string ⟨#[49]⟩, .string ⟨#[49]⟩, .string ⟨#[48]⟩, .string ⟨#[49]⟩, .int .i64 4, .int .i64 0, .int .i64 0, .string ⟨#[98, 111, 98]⟩, .string ⟨#[97, 110, 110]⟩, .string ⟨#[120]⟩, .string ⟨#[49]⟩, .string ⟨#[49]⟩, .string ⟨#[53]⟩, .string ⟨#[49]⟩] 37) = U := ⟨_, rfl⟩
 have hrow := ins_lit w5 [(In.mk 1 0 0 [98, 111, 98] [97, 110, 110] [120] ([51], [49]) ([48], [49])), (In.mk 2 0 0 [98, 111, 98] [97, 110, 110] [120] ([49], [49]) ([48], [49])), (In.mk 4 0 0 [98, 111, 98] [97, 110, 110] [120] ([49], [49]) ([53], [49]))] #[.int .i64 1, .int .i64 0, .int .i64 0, .string ⟨#[98, 111, 98]⟩, .string ⟨#[97, 110, 110]⟩, .string ⟨#[120]⟩, .string ⟨#[51]⟩, .string ⟨#[49]⟩, .string ⟨#[48]⟩, .string ⟨#[49]⟩, .int .i64 2, .int .i64 0, .int .i64 0, .string ⟨#[98, 111, 98]⟩, .string ⟨#[97, 110, 110]⟩, .string ⟨#[120]⟩, .string ⟨#[49]⟩, .string ⟨#[49]⟩, .string ⟨#[48]⟩, .string ⟨#[49]⟩, .int .i64 4, .int .i64 0, .int .i64 0, .string ⟨#[98, 111, 98]⟩, .string ⟨#[97, 110, 110]⟩, .string ⟨#[120]⟩, .string ⟨#[49]⟩, .string ⟨#[49]⟩, .string ⟨#[53]⟩, .string ⟨#[49]⟩] 3 rfl rfl (by decide)
 have bU := Below.alloc b5 (Below.size b5) (.cells #[.int .i64 1, .int .i64 0, .int .i64 0, .string ⟨#[98, 111, 98]⟩, .string ⟨#[97, 110, 110]⟩, .string ⟨#[120]⟩, .string ⟨#[51]⟩, .string ⟨#[49]⟩, .string ⟨#[48]⟩, .string ⟨#[49]⟩, .int .i64 2, .int .i64 0, .int .i64 0, .string ⟨#[98, 111, 98]⟩, .string ⟨#[97, 110, 110]⟩, .string ⟨#[120]⟩, .string ⟨#[49]⟩, .string ⟨#[49]⟩, .string ⟨#[48]⟩, .string ⟨#[49]⟩, .int .i64 4, .int .i64 0, .int .i64 0, .string ⟨#[98, 111, 98]⟩, .string ⟨#[97, 110, 110]⟩, .string ⟨#[120]⟩, .string ⟨#[49]⟩, .string ⟨#[49]⟩, .string ⟨#[53]⟩, .string ⟨#[49]⟩] 37)
 rw [hU] at hrow bU ⊢
 clear hU
 replace Lb := Lib.hid (Lb.out.below bU)
 replace BW := Below.more BW bU
 replace HT := Lib.hid (HB.out.below HT.out bU)
 have Ls := Lib.hid hrow
 clear hrow bU
 have b6 := Below.refl U6.heap.size U6
 go_wp2_with fail
 refine (kp_r1 HB.out _ _ (Nat.le_refl _) _ _ (Nat.le_refl _) _ (Lb.out.below b6) (Ls.out.below b6) (HB.out.below HT.out b6)).mono ?_
 rintro e U7 ⟨⟨pb1, cb1, pi1, ci1, pn1, cn1, rfl, ⟨hb1, hi1, hn1⟩, l1, l2, l3⟩, b⟩
 have bU := Below.more b6 b
 clear b
 replace Lb := Lib.hid (Lb.out.below bU)
 replace Ls := Lib.hid (Ls.out.below bU)
 replace BW := Below.more BW bU
 replace HT := Lib.hid (HB.out.below HT.out bU)
 have LB1 := Lib.hid l1; have LI1 := Lib.hid l2; have LN1 := Lib.hid l3
 clear l1 l2 l3 bU
 have b7 := Below.refl U7.heap.size U7
 go_wp2_with fail
 refine (kp_o7 _).mono ?_
 rintro e w8 ⟨rfl, b⟩
 have b8 := Below.more b7 b
 clear b
 go_wp2_with fail
 obtain ⟨U9, hU⟩ : ∃ U, (w8.alloc (.cells #[.int .i64 7, .int .i64 0, .int .i64 3, .string ⟨#[98, 111, 98]⟩, .string ⟨#[97, 110, 110]⟩, .string ⟨#[120]⟩, .string ⟨#[49]⟩, .string ⟨#[49]⟩, .string ⟨#[48]⟩, .string ⟨#[49]⟩] 37)).alloc (.cells #[.int .i64 7, .int .i64 0, .int .i64 3, .string ⟨#[98, 111, 98]⟩, .string ⟨#[97, 110, 110]⟩, .string ⟨#[120]⟩, .string ⟨#[49]⟩, .string ⟨#[49]⟩, .string ⟨#[48]⟩, .string ⟨#[49]⟩] 37) = U := ⟨_, rfl⟩
 have hrow := ins_one1 w8 (.cells #[.int .i64 7, .int .i64 0, .int .i64 3, .string ⟨#[98, 111, 98]⟩, .string ⟨#[97, 110, 110]⟩, .string ⟨#[120]⟩, .string ⟨#[49]⟩, .string ⟨#[49]⟩, .string ⟨#[48]⟩, .string ⟨#[49]⟩] 37) (In.mk 7 0 3 [98, 111, 98] [97, 110, 110] [120] ([49], [49]) ([48], [49])) 37 #[.int .i64 7, .int .i64 0, .int .i64 3, .string ⟨#[98, 111, 98]⟩, .string ⟨#[97, 110, 110]⟩, .string ⟨#[120]⟩, .string ⟨#[49]⟩, .string ⟨#[49]⟩, .string ⟨#[48]⟩, .string ⟨#[49]⟩] rfl
 have bU := Below.alloc (Below.alloc b8 (Below.size b8) (.cells #[.int .i64 7, .int .i64 0, .int .i64 3, .string ⟨#[98, 111, 98]⟩, .string ⟨#[97, 110, 110]⟩, .string ⟨#[120]⟩, .string ⟨#[49]⟩, .string ⟨#[49]⟩, .string ⟨#[48]⟩, .string ⟨#[49]⟩] 37)) (Below.size (Below.alloc b8 (Below.size b8) (.cells #[.int .i64 7, .int .i64 0, .int .i64 3, .string ⟨#[98, 111, 98]⟩, .string ⟨#[97, 110, 110]⟩, .string ⟨#[120]⟩, .string ⟨#[49]⟩, .string ⟨#[49]⟩, .string ⟨#[48]⟩, .string ⟨#[49]⟩] 37))) (.cells #[.int .i64 7, .int .i64 0, .int .i64 3, .string ⟨#[98, 111, 98]⟩, .string ⟨#[97, 110, 110]⟩, .string ⟨#[120]⟩, .string ⟨#[49]⟩, .string ⟨#[49]⟩, .string ⟨#[48]⟩, .string ⟨#[49]⟩] 37)
 rw [hU] at hrow bU ⊢
 clear hU
 replace Lb := Lib.hid (Lb.out.below bU)
 replace Ls := Lib.hid (Ls.out.below bU)
 replace LB1 := Lib.hid (LB1.out.below bU)
 replace LI1 := Lib.hid (LI1.out.below bU)
 replace LN1 := Lib.hid (LN1.out.below bU)
 replace BW := Below.more BW bU
 replace HT := Lib.hid (HB.out.below HT.out bU)
 have Ll := Lib.hid hrow
 clear hrow bU
 have b9 := Below.refl U9.heap.size U9
 go_wp2_with fail
 refine (kp_r2 HB.out _ _ (Nat.le_refl _) _ _ (Nat.le_refl _) _ (Lb.out.below b9) (Ll.out.below b9) (HB.out.below HT.out b9)).mono ?_
 rintro e U10 ⟨⟨pb2, cb2, pi2, ci2, pn2, cn2, rfl, ⟨hb2, hi2, hn2⟩, l1, l2, l3⟩, b⟩
 have bU := Below.more b9 b
 clear b
 replace Lb := Lib.hid (Lb.out.below bU)
 replace Ls := Lib.hid (Ls.out.below bU)
 replace LB1 := Lib.hid (LB1.out.below bU)
 replace LI1 := Lib.hid (LI1.out.below bU)
 replace LN1 := Lib.hid (LN1.out.below bU)
 replace Ll := Lib.hid (Ll.out.below bU)
 replace BW := Below.more BW bU
 replace HT := Lib.hid (HB.out.below HT.out bU)
 have LB2 := Lib.hid l1; have LI2 := Lib.hid l2; have LN2 := Lib.hid l3
 clear l1 l2 l3 bU
 have b10 := Below.refl U10.heap.size U10
 go_wp2_with fail
 obtain ⟨U11, hU⟩ : ∃ U, U10.alloc (.cells #[.int .i64 2] 3) = U := ⟨_, rfl⟩
 have hrow := nums_one U10 2 3
 have bU := Below.alloc b10 (Below.size b10) (.cells #[.int .i64 2] 3)
 rw [hU] at hrow bU ⊢
 clear hU
 replace Lb := Lib.hid (Lb.out.below bU)
 replace Ls := Lib.hid (Ls.out.below bU)
 replace LB1 := Lib.hid (LB1.out.below bU)
 replace LI1 := Lib.hid (LI1.out.below bU)
 replace LN1 := Lib.hid (LN1.out.below bU)
 replace Ll := Lib.hid (Ll.out.below bU)
 replace LB2 := Lib.hid (LB2.out.below bU)
 replace LI2 := Lib.hid (LI2.out.below bU)
 replace LN2 := Lib.hid (LN2.out.below bU)
 replace BW := Below.more BW bU
 replace HT := Lib.hid (HB.out.below HT.out bU)
 have Ln := Lib.hid hrow
 clear hrow bU
 have b11 := Below.refl U11.heap.size U11
 refine (kp_i _ _ _ _ _ (LN1.out.below b11) (Ln.out.below b11)).mono ?_
 rintro e w12 ⟨rfl, b⟩
 have b12 := Below.more b11 b
 clear b
 go_wp2_with fail
 refine (kp_o5 _).mono ?_
 rintro e w13 ⟨rfl, b⟩
 have b13 := Below.more b12 b
 clear b
 go_wp2_with fail
 refine (kp_l HB.out _ (HB.out.below HT.out b13)).mono ?_
 rintro e U14 ⟨⟨pr4, c4, rfl, hc4, hl4⟩, b⟩
 have bU := Below.more b13 b
 clear b
 replace Lb := Lib.hid (Lb.out.below bU)
 replace Ls := Lib.hid (Ls.out.below bU)
 replace LB1 := Lib.hid (LB1.out.below bU)
 replace LI1 := Lib.hid (LI1.out.below bU)
 replace LN1 := Lib.hid (LN1.out.below bU)
 replace Ll := Lib.hid (Ll.out.below bU)
 replace LB2 := Lib.hid (LB2.out.below bU)
 replace LI2 := Lib.hid (LI2.out.below bU)
 replace LN2 := Lib.hid (LN2.out.below bU)
 replace Ln := Lib.hid (Ln.out.below bU)
 replace BW := Below.more BW bU
 replace HT := Lib.hid (HB.out.below HT.out bU)
 have L4 := Lib.hid hl4
 clear hl4 bU
 have b14 := Below.refl U14.heap.size U14
 go_wp2_with fail
 refine (kp_m1 HB.out _ _ hi1 _ (LI1.out.below b14) (HB.out.below HT.out b14)).mono ?_
 rintro e w15 ⟨rfl, b⟩
 have b15 := Below.more b14 b
 clear b
 go_wp2_with fail
 refine (kp_o0 _).mono ?_
 rintro e w16 ⟨rfl, b⟩
 have b16 := Below.more b15 b
 clear b
 go_wp2_with fail
 obtain ⟨U17, hU⟩ : ∃ U, w16.alloc (.cells #[.int .i64 0, .int .i64 0, .int .i64 0, .string ⟨#[98, 111, 98]⟩, .string ⟨#[97, 110, 110]⟩, .string ⟨#[120]⟩, .string ⟨#[49]⟩, .string ⟨#[49]⟩, .string ⟨#[48]⟩, .string ⟨#[49]⟩] 37) = U := ⟨_, rfl⟩
 have hrow := ins_one w16 (In.mk 0 0 0 [98, 111, 98] [97, 110, 110] [120] ([49], [49]) ([48], [49])) 37 #[.int .i64 0, .int .i64 0, .int .i64 0, .string ⟨#[98, 111, 98]⟩, .string ⟨#[97, 110, 110]⟩, .string ⟨#[120]⟩, .string ⟨#[49]⟩, .string ⟨#[49]⟩, .string ⟨#[48]⟩, .string ⟨#[49]⟩] rfl
 have bU := Below.alloc b16 (Below.size b16) (.cells #[.int .i64 0, .int .i64 0, .int .i64 0, .string ⟨#[98, 111, 98]⟩, .string ⟨#[97, 110, 110]⟩, .string ⟨#[120]⟩, .string ⟨#[49]⟩, .string ⟨#[49]⟩, .string ⟨#[48]⟩, .string ⟨#[49]⟩] 37)
 rw [hU] at hrow bU ⊢
 clear hU
 replace Lb := Lib.hid (Lb.out.below bU)
 replace Ls := Lib.hid (Ls.out.below bU)
 replace LB1 := Lib.hid (LB1.out.below bU)
 replace LI1 := Lib.hid (LI1.out.below bU)
 replace LN1 := Lib.hid (LN1.out.below bU)
 replace Ll := Lib.hid (Ll.out.below bU)
 replace LB2 := Lib.hid (LB2.out.below bU)
 replace LI2 := Lib.hid (LI2.out.below bU)
 replace LN2 := Lib.hid (LN2.out.below bU)
 replace Ln := Lib.hid (Ln.out.below bU)
 replace L4 := Lib.hid (L4.out.below bU)
 replace BW := Below.more BW bU
 replace HT := Lib.hid (HB.out.below HT.out bU)
 have Lz := Lib.hid hrow
 clear hrow bU
 have b17 := Below.refl U17.heap.size U17
 refine (kp_m2 HB.out _ _ (Nat.le_refl _) _ (Lz.out.below b17) (HB.out.below HT.out b17)).mono ?_
 rintro e w18 ⟨rfl, b⟩
 have b18 := Below.more b17 b
 clear b
 go_wp2_with fail
 refine (kp_f4 HB.out _ _ hi1 _ (LI1.out.below b18) (HB.out.below HT.out b18)).mono ?_
 rintro e w19 ⟨rfl, b⟩
 have b19 := Below.more b18 b
 clear b
 go_wp2_with fail
 refine (kp_f2 HB.out _ _ hi1 _ (LI1.out.below b19) (HB.out.below HT.out b19)).mono ?_
 rintro e w20 ⟨rfl, b⟩
 have b20 := Below.more b19 b
 clear b
 go_wp2_with fail
 go_ret
 exact ⟨rfl, Below.more BW b20⟩
end Go.Proofs.YtagfndkfjbbpjaaGreatDoor

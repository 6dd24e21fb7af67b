/- Rows of tokens; a text's tokens, as the document has them. -/
import Derived.Test.YtcckifhloabpkaaDoorRowsG
import Derived.Test.YtcckifhloabpkaaDoorAllRefL2
namespace Go.Proofs.YtcckifhloabpkaaDoor
open Go.RowKit
set_option linter.unusedSimpArgs false
set_option linter.unusedVariables false
open Wd (Tk lexAt lexD)
def encT (t : Tk) : List Value := [.int .i64 (t.kind : Int), .string ⟨t.text.toArray⟩, .int .i64 (t.line : Int), .int .i64 (t.col : Int)]
theorem encT_one (t : Tk) : ∀ v ∈ encT t, v.oneCell' = true := fun v hv => by
  unfold encT at hv
  simp only [List.mem_cons, List.not_mem_nil, or_false] at hv
  rcases hv with rfl | rfl | rfl | rfl <;> rfl
theorem tokInfo : (Tryd.prog.info? 31).map (fun i => (i.zero, i.size, i.bytes)) = some (some (.agg #[.int .i64 0, .string ⟨#[]⟩, .int .i64 0, .int .i64 0]), 4, 40) := by kernel_rfl
abbrev Toks (w : World) (p : Option Addr) (l : List Tk) : Prop := RowsG encT 4 w p l
abbrev OwnT (B : Nat) (w : World) (v : Value) (l : List Tk) : Prop := OwnG encT 4 31 B w v l
theorem toks_rule {w : World} {p : Option Addr} {l : List Tk} (h : Toks w p l) {k : Nat} {x : Tk} (hx : l[k]? = some x) : ∃ b o, p = some ⟨b, o, none⟩ ∧ (∀ v, Below w.heap.size w v → v.cell? ⟨b, o + k * 4, none⟩ = some (.int .i64 (x.kind : Int))) ∧
    (∀ v, Below w.heap.size w v → v.cell? ⟨b, o + k * 4 + 1, none⟩ = some (.string ⟨x.text.toArray⟩)) ∧ (∀ v, Below w.heap.size w v → v.cell? ⟨b, o + k * 4 + 2, none⟩ = some (.int .i64 (x.line : Int))) ∧ (∀ v, Below w.heap.size w v → v.cell? ⟨b, o + k * 4 + 3, none⟩ = some (.int .i64 (x.col : Int))) := by
  obtain ⟨b, o, hp, hl, c⟩ := h k x hx
  exact ⟨b, o, hp, fun v hb => (hb.cell (p := ⟨b, _, none⟩) hl).trans (c 0 _ rfl), fun v hb => (hb.cell (p := ⟨b, _, none⟩) hl).trans (c 1 _ rfl), fun v hb => (hb.cell (p := ⟨b, _, none⟩) hl).trans (c 2 _ rfl), fun v hb => (hb.cell (p := ⟨b, _, none⟩) hl).trans (c 3 _ rfl)⟩
def GiveLex (w : World) (r : List Tk × Int × Nat × Nat) (e : Ending) (w' : World) : Prop := (∃ p c, e = .returned (.tuple #[.slice p r.1.length c, .int .i64 r.2.1, .int .i64 (r.2.2.1 : Int), .int .i64 (r.2.2.2 : Int)]) ∧ r.1.length ≤ c ∧ Toks w' p r.1) ∧ Below w.heap.size w w'
theorem giveLex_no {w w' : World} {r : List Tk × Int × Nat × Nat} {a b : Nat} (h : r = ([], 90, a, b)) (hb : Below w.heap.size w w') : GiveLex w r (.returned (.tuple #[.slice none 0 0, .int .i64 90, .int .i64 (a : Int), .int .i64 (b : Int)])) w' := by
  subst h
  exact ⟨⟨none, 0, rfl, Nat.le_refl _, RowsG.nil _ _⟩, hb⟩
theorem giveLex_yes {w w' : World} {r : List Tk × Int × Nat × Nat} {B : Nat} {v : Value} {ts : List Tk} (h : r = (ts, 0, 0, 0)) (ho : OwnT B w' v ts) (hb : Below w.heap.size w w') : GiveLex w r (.returned (.tuple #[v, .int .i64 0, .int .i64 0, .int .i64 0])) w' := by
  subst h
  obtain ⟨p, c, rfl, hc, hr, _⟩ := ownG_rows (enc := encT) (k := 4) (fun _ => rfl) ho
  exact ⟨⟨p, c, rfl, hc, hr⟩, hb⟩
/-- On the way: tokens that are read, and what is still to be read. -/
def LexI (l : List UInt8) (ts : List Tk) (L b i : Nat) : Prop := lexAt l 1 1 = (ts ++ (lexAt (l.drop i) L (i - b + 1)).1, (lexAt (l.drop i) L (i - b + 1)).2)
theorem lexI_line {s : ByteArray} {ts : List Tk} {L b i : Nat} (h : LexI s.data.toList ts L b i) (hi : i < s.size) (hc : (s[i].toNat : Int) = 10) : LexI s.data.toList ts (L + 1) (i + 1) (i + 1) := by
  have e : s[i] = 10 := UInt8.toNat_inj.1 (by show s[i].toNat = 10; omega)
  unfold LexI at *
  rw [h, drop_at s i hi, e, Wd.lex_line, Nat.sub_self]
theorem lexI_blank {s : ByteArray} {ts : List Tk} {L b i : Nat} (h : LexI s.data.toList ts L b i) (hi : i < s.size) (hb : b ≤ i) (hc : (s[i].toNat : Int) = 32) : LexI s.data.toList ts L b (i + 1) := by
  have e : s[i] = 32 := UInt8.toNat_inj.1 (by show s[i].toNat = 32; omega)
  unfold LexI at *
  rw [h, drop_at s i hi, e, Wd.lex_blank, show i + 1 - b + 1 = i - b + 1 + 1 by omega]
theorem lexI_tok {s : ByteArray} {ts : List Tk} {L b i kd m : Nat} (h : LexI s.data.toList ts L b i) (hi : i < s.size) (hb : b ≤ i) (h1 : ¬ (s[i].toNat : Int) = 10) (h2 : ¬ (s[i].toNat : Int) = 32) (hk : Wd.kl (s.data.toList.drop i) = some (kd, m)) :
    LexI s.data.toList (ts ++ [Tk.mk kd ((s.data.toList.drop i).take m) L (i - b + 1)]) L b (i + m) := by
  have hk' := hk
  rw [drop_at s i hi] at hk'
  have k := Wd.lex_tok L (i - b + 1) (fun e => h2 (by rw [e]; rfl)) (fun e => h1 (by rw [e]; rfl)) hk'
  rw [← drop_at s i hi, List.drop_drop] at k
  unfold LexI at *
  rw [h, k, show i + m - b + 1 = i - b + 1 + m by omega, List.append_assoc]
  rfl
theorem lexI_bad {s : ByteArray} {ts : List Tk} {L b i : Nat} (h : LexI s.data.toList ts L b i) (hi : i < s.size) (h1 : ¬ (s[i].toNat : Int) = 10) (h2 : ¬ (s[i].toNat : Int) = 32) (hk : Wd.kl (s.data.toList.drop i) = none) (hs : s.size ≤ 20000) : lexD s.data.toList = ([], 90, L, i - b + 1) := by
  have hk' := hk
  rw [drop_at s i hi] at hk'
  have k := Wd.lex_bad L (i - b + 1) (fun e => h2 (by rw [e]; rfl)) (fun e => h1 (by rw [e]; rfl)) hk'
  rw [← drop_at s i hi] at k
  unfold LexI at h
  unfold lexD
  rw [if_neg (by rw [size_toList]; omega), h, k]
theorem lexI_end {s : ByteArray} {ts : List Tk} {L b : Nat} (h : LexI s.data.toList ts L b s.size) (hs : s.size ≤ 20000) : lexD s.data.toList = (ts, 0, 0, 0) := by
  unfold LexI at h
  rw [List.drop_of_length_le (by rw [size_toList]; exact Nat.le_refl _), Wd.lex_nil] at h
  unfold lexD
  rw [if_neg (by rw [size_toList]; omega), h]
  show (ts ++ [], _) = _
  rw [List.append_nil]
theorem cut_text (s : ByteArray) (i m : Nat) : s.extract i (i + m) = ⟨((s.data.toList.drop i).take m).toArray⟩ := by
  refine bytes_eq ?_
  rw [Lib.extract_data]
  show _ = (s.data.toList.drop i).take m
  first
    | rfl
    | (rw [Nat.add_sub_cancel_left])
    | (rw [List.drop_take, Nat.add_sub_cancel_left])
set_option maxRecDepth 100000 in
set_option maxHeartbeats 4000000 in
theorem rllex_any (s : ByteArray) (w : World) (hs62 : s.size ≤ 4611686018427387904) : Calls Tryd.prog 10 #[.string s] w (GiveLex w (lexD s.data.toList)) := by
  by_cases hbig : 20000 < s.size
  · have hb : (20000 : Int) < (s.size : Int) := by omega
    have HR : Hid (lexD s.data.toList = ([], 90, 1, 1)) := Lib.hid (by unfold lexD; rw [if_pos (by rw [size_toList]; exact hbig)])
    go_enter Tryd.func10, Tryd.ntmps10
    go_wp2_with fail
    refine bodyPost_ret (v := .tuple #[.slice none 0 0, .int .i64 90, .int .i64 1, .int .i64 1]) (by simp [results, Tryd.results10, go_sem, *]) rfl ?_
    exact giveLex_no HR.out (Below.refl _ _)
  · have hb : ¬ (20000 : Int) < (s.size : Int) := by omega
    have hs : s.size ≤ 20000 := by omega
    clear hbig
    go_enter Tryd.func10, Tryd.ntmps10
    go_wp2_with fail
    go_loopw [6, 7, 8, 9] (fun out ln bg iv wr => ∃ (ts : List Tk) (L b i : Nat), i ≤ s.size ∧ b ≤ i ∧ L ≤ i + 1 ∧ ts.length ≤ i ∧ OwnT w.heap.size wr out ts ∧ ln = .int .i64 L ∧ bg = .int .i64 b ∧ iv = .int .i64 i ∧ Hid (LexI s.data.toList ts L b i) ∧ Below w.heap.size w wr) (fun _ _ _ iv _ => s.size - (intOf iv).toNat)
    case atStart => exact ⟨[], 1, 0, 0, Nat.zero_le _, Nat.le_refl _, Nat.le_refl _, Nat.le_refl _, ownG_empty w (Nat.le_refl _), rfl, rfl, rfl, Lib.hid (by unfold LexI; rfl), Below.step _ (Below.refl _ _)⟩
    case round =>
      obtain ⟨ts, L, b, i, hi, hbi, hL, hts, hown, rfl, rfl, rfl, HI, hw⟩ := hrel
      have HO := Lib.hid hown; have HW := Lib.hid hw
      clear hown hw
      by_cases hlt : i < s.size
      · by_cases h10 : (s[i].toNat : Int) = 10
        · have HI2 := Lib.hid (lexI_line HI.out hlt h10)
          have h32 : ¬ (s[i].toNat : Int) = 32 := by omega
          go_wp2_with fail
          go_roundw
          case rel => exact ⟨ts, L + 1, i + 1, i + 1, hlt, Nat.le_refl _, by omega, by omega, HO.out, by go_num, by go_num, by go_num, HI2, HW.out⟩
          case measure => simp [intOf]; omega
        · by_cases h32 : (s[i].toNat : Int) = 32
          · have HI2 := Lib.hid (lexI_blank HI.out hlt hbi h32)
            go_wp2_with fail
            go_roundw
            case rel => exact ⟨ts, L, b, i + 1, hlt, by omega, by omega, by omega, HO.out, rfl, rfl, by go_num, HI2, HW.out⟩
            case measure => simp [intOf]; omega
          · have ct := fun w => rltoken_any s i w hlt hs62
            have e10 : ((s[i].toNat : Int) == 10) = false := beq_false_of_ne h10
            have e32 : ((s[i].toNat : Int) == 32) = false := beq_false_of_ne h32
            cases hk : Wd.kl (s.data.toList.drop i) with
            | none =>
              rw [tkE_no hk] at ct
              have CT := Lib.hid ct
              have HR := Lib.hid (lexI_bad HI.out hlt h10 h32 hk hs)
              have hcol : ((i - b + 1 : Nat) : Int) = (i : Int) - (b : Int) + 1 := by omega
              have hw1 : wrap64 ((i : Int) - (b : Int)) = (i : Int) - (b : Int) := IntWalk.wrap64_in _ ⟨by omega, by omega⟩
              have hw2 : wrap64 ((i : Int) - (b : Int) + 1) = (i : Int) - (b : Int) + 1 := IntWalk.wrap64_in _ ⟨by omega, by omega⟩
              clear ct hk HI
              go_wp2_with fail
              refine (CT.out _).mono ?_
              rintro e w' ⟨rfl, rfl⟩
              go_wp2_with fail
              refine bodyPost_ret (v := .tuple #[.slice none 0 0, .int .i64 90, .int .i64 L, .int .i64 ((i : Int) - (b : Int) + 1)]) (by simp [results, Tryd.results10, go_sem, *]) rfl ?_
              rw [← hcol]
              exact giveLex_no HR.out HW.out
            | some km =>
              obtain ⟨kd, m⟩ := km
              rw [tkE_yes hk] at ct
              have CT := Lib.hid ct
              have HI2 := Lib.hid (lexI_tok HI.out hlt hbi h10 h32 hk)
              obtain ⟨hm1, hm2⟩ := Wd.kl_len hk
              rw [List.length_drop, size_toList] at hm2
              have hext := cut_text s i m
              generalize (s.data.toList.drop i).take m = tx at *
              have HX := Lib.hid hext
              have hcol : ((i - b + 1 : Nat) : Int) = (i : Int) - (b : Int) + 1 := by omega
              have hk0 : ¬ ((i + m : Nat) : Int) < 0 := by omega
              have him : i ≤ i + m := by omega
              have hims : i + m ≤ s.size := by omega
              have hw1 : wrap64 ((i : Int) - (b : Int)) = (i : Int) - (b : Int) := IntWalk.wrap64_in _ ⟨by omega, by omega⟩
              have hw2 : wrap64 ((i : Int) - (b : Int) + 1) = (i : Int) - (b : Int) + 1 := IntWalk.wrap64_in _ ⟨by omega, by omega⟩
              clear ct hk HI
              go_wp2_with fail
              refine (CT.out _).mono ?_
              rintro e w' ⟨rfl, rfl⟩
              go_wp2_with (at_builtin; refine haltG ?_)
              show wpList _ _ _ _ _ _
              have hrow := rowsOne (enc := encT) (k := 4) w' (Tk.mk kd tx L (i - b + 1)) 31 #[.int .i64 (kd : Int), .string ⟨tx.toArray⟩, .int .i64 (L : Int), .int .i64 ((i : Int) - (b : Int) + 1)] (by rw [← hcol]; rfl)
              refine wpList_append_G rfl _ _ 22 31 rfl Tryd.underlying22 tokInfo rfl (by decide) (by decide) (fun _ => rfl) encT_one w.heap.size _ ts rfl (World.ownsRow.alloc HO.out _) ⟨w'.heap.size, 0, none⟩ (Tk.mk kd tx L (i - b + 1)) 1 rfl hrow (by omega) (Below.size (Below.alloc HW.out (Below.size HW.out) _)) ?_
              intro v' w3 ho hg hloc
              have HO3 := Lib.hid ho
              have HW3 := Lib.hid (Below.grown (Below.alloc HW.out (Below.size HW.out) _) hg (Below.size (Below.alloc HW.out (Below.size HW.out) _)) fun j hj => (World.ownsRow.lt HO.out j hj).1)
              clear ho hg hloc hrow HO
              go_wp2_with fail
              go_roundw
              case rel => exact ⟨ts ++ [(Tk.mk kd tx L (i - b + 1))], L, b, i + m, hims, by omega, by omega, by rw [List.length_append, List.length_singleton]; omega, HO3.out, rfl, rfl, by go_num, HI2, HW3.out⟩
              case measure => simp [intOf]; omega
      · obtain rfl : i = s.size := by omega
        have HR := Lib.hid (lexI_end HI.out hs)
        go_wp2_with fail
        refine bodyPost_ret (v := .tuple #[u6, .int .i64 0, .int .i64 0, .int .i64 0]) (by simp [results, Tryd.results10, go_sem, *]) rfl ?_
        exact giveLex_yes HR.out HO.out HW.out
end Go.Proofs.YtcckifhloabpkaaDoor

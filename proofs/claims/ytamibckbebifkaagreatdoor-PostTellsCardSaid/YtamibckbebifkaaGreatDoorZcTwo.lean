/- Two local blocks that are followed by name through a drawn region. -/
import Derived.Test.YtamibckbebifkaaGreatDoorAllRefB6
namespace Go.Proofs.YtamibckbebifkaaGreatDoor
open Go.RowKit
set_option linter.unusedSimpArgs false
set_option linter.unusedVariables false
theorem zc_up {b : Nat} {x y : Value} {v : World} (h : Zc b x y v) (c : Obj) : Zc b x y (v.alloc c) :=
  h.below (Below.alloc (Below.refl _ _) (Nat.le_refl _) _)
theorem zc_is {b : Nat} {w : World} (h : b = w.heap.size) (x y : Value) (t : TypeId) : Zc b x y (w.alloc (.cells #[x, y] t)) := h ▸ zc_new w x y t
theorem zc_far {b c : Nat} {x y s t : Value} {v : World} (hn : b ≠ c) (h : Zc b x y v) : Zc b x y ((v.setCell ⟨c, 0, none⟩ s).setCell ⟨c, 1, none⟩ t) := by
  have k : ∀ (u : World) (i j : Nat) (z : Value), (u.setCell ⟨c, i, none⟩ z).cell? ⟨b, j, none⟩ = u.cell? ⟨b, j, none⟩ := fun u i j z => World.cell?_setCell_far _ _ _ _ (fun e => hn e.symm)
  refine ⟨?_, ?_, ?_, ?_, ?_⟩
  · rw [k, k]; exact h.c0
  · rw [k, k]; exact h.c1
  · simpa using h.f0
  · simpa using h.f1
  · simpa using h.lt
theorem zc_low {u v : World} {x y s t : Value} {ty ty' : TypeId} (hb : Below ((u.alloc (.cells #[x, y] ty)).alloc (.cells #[s, t] ty')).heap.size ((u.alloc (.cells #[x, y] ty)).alloc (.cells #[s, t] ty')) v) : Zc u.heap.size x y v :=
  (zc_up (zc_new u x y ty) _).below hb
theorem low_top {u v : World} {x y s t : Value} {ty ty' : TypeId} (hb : Below ((u.alloc (.cells #[x, y] ty)).alloc (.cells #[s, t] ty')).heap.size ((u.alloc (.cells #[x, y] ty)).alloc (.cells #[s, t] ty')) v) : u.heap.size < u.heap.size + 1 := Nat.lt_succ_self _
theorem zc_top {u v : World} {x y s t : Value} {ty ty' : TypeId} (hb : Below ((u.alloc (.cells #[x, y] ty)).alloc (.cells #[s, t] ty')).heap.size ((u.alloc (.cells #[x, y] ty)).alloc (.cells #[s, t] ty')) v) : Zc (u.heap.size + 1) s t v :=
  (zc_is (by simp) s t ty').below hb
theorem zc_madeD {u v : World} {x y : Value} {t : TypeId} (hb : Below (u.alloc (.cells #[x, y] t)).drew.heap.size (u.alloc (.cells #[x, y] t)).drew v) : Zc u.heap.size x y v := (zc_new u x y t).drew.below hb
theorem zc_lowD {u v : World} {x y s t : Value} {ty ty' : TypeId} (hb : Below ((u.alloc (.cells #[x, y] ty)).alloc (.cells #[s, t] ty')).drew.heap.size ((u.alloc (.cells #[x, y] ty)).alloc (.cells #[s, t] ty')).drew v) : Zc u.heap.size x y v :=
  (zc_up (zc_new u x y ty) _).drew.below hb
theorem low_topD {u v : World} {x y s t : Value} {ty ty' : TypeId} (hb : Below ((u.alloc (.cells #[x, y] ty)).alloc (.cells #[s, t] ty')).drew.heap.size ((u.alloc (.cells #[x, y] ty)).alloc (.cells #[s, t] ty')).drew v) : u.heap.size < u.heap.size + 1 := Nat.lt_succ_self _
theorem zc_topD {u v : World} {x y s t : Value} {ty ty' : TypeId} (hb : Below ((u.alloc (.cells #[x, y] ty)).alloc (.cells #[s, t] ty')).drew.heap.size ((u.alloc (.cells #[x, y] ty)).alloc (.cells #[s, t] ty')).drew v) : Zc (u.heap.size + 1) s t v :=
  (zc_is (by simp) s t ty').drew.below hb
theorem zc_setZ {b : Nat} {x y : Value} {v : World} (h : Zc b (.string ⟨#[]⟩) (.string ⟨#[]⟩) v) : Zc b x y ((v.setCell ⟨b, 0, none⟩ x).setCell ⟨b, 1, none⟩ y) := zc_put h
theorem up_alloc {u w : World} (h : Below u.heap.size u w) (o : Obj) : Below u.heap.size u (w.alloc o) := Below.alloc h (Below.size h) o
end Go.Proofs.YtamibckbebifkaaGreatDoor

/- The document's answers for decimals: reading, a text that is too long. -/
import Derived.Test.YtdibnolbichbmaaGreatDoorAllRefD5
namespace Go.Proofs.YtdibnolbichbmaaGreatDoor
open Go.RowKit

set_option maxRecDepth 100000 in
set_option maxHeartbeats 2000000 in
theorem rdparse_long (s : ByteArray) (w : World) (hs : s.size ≤ 1000000) (h : 1000 < s.size) :
    Calls Tryz.prog 11 #[.string s] w (GiveRE w (([], []), 40)) := by
  go_enter Tryz.func11, Tryz.ntmps11
  go_wp2_with fail
  obtain ⟨W, hW, BW, sW, k0, k1, k2, k3⟩ := box2 w (.string ⟨#[]⟩) (.string ⟨#[]⟩) (.string ⟨#[]⟩) (.string ⟨#[]⟩) 23 23
  rw [hW]; clear hW
  have b0 := Below.refl W.heap.size W
  refine bodyPost_ret (v := .tuple #[.agg #[.string ⟨#[]⟩, .string ⟨#[]⟩], .int .i64 40]) (by simp [results, Tryz.results11, go_sem, *]) rfl ⟨rfl, BW⟩
end Go.Proofs.YtdibnolbichbmaaGreatDoor

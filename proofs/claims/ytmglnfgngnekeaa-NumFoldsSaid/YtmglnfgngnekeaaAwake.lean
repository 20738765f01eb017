/- What it says: trothlaw01.awake answers true. -/
import Derived.Test.YtmglnfgngnekeaaNumShort
import Derived.Test.YtmglnfgngnekeaaSame
namespace Go.Proofs.Ytmglnfgngnekeaa
open Go.RowKit

set_option maxHeartbeats 1000000 in
theorem awake_any (w : World) : Calls Try.prog 15 #[] w (Ret (.bool true) w) := by
  go_enter Try.func15, Try.ntmps15
  go_wp2_with (go_at_call 18; refine (numShort_any 300 (by omega) _).mono ?_; rintro e w1 ⟨A, k, c, rfl, hb, hbel⟩)
  refine (same_yes _ _ _ _ _ _ (shortL 300) [130, 44] _ (hb.alloc _) (Byt.lit w1 5 [130, 44] 2 rfl (by unfold maxLen; omega) (by simp)) short300).mono ?_
  rintro e w2 ⟨rfl, m, rfl⟩
  have H := Lib.hid (below_drewN (hbel.alloc hbel.size (.cells #[.int .u8 130, .int .u8 44] 5)) m)
  clear hb hbel
  go_wp2
  go_ret
  exact ⟨rfl, H.out⟩
end Go.Proofs.Ytmglnfgngnekeaa

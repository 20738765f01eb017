/- What it says: trothlaw02.awake answers true. -/
import Derived.Test.YteogchmhmgngnaaDoorCrcSum
import Derived.Test.YteogchmhmgngnaaDoorOwn
import Derived.Lib.SlBytesConst
namespace Go.Proofs.YteogchmhmgngnaaDoor
open Go.RowKit

theorem Tab.ret {w w' : World} (h : Tab w) (hb : Below w.heap.size w w') : Tab w' := h.below hb (World.block_lt_of_cell? w _ (h 0 (by omega)))

set_option maxHeartbeats 1000000 in
theorem awake_any (w : World) (hT : Tab w) : Calls Tryd.prog 8 #[] w (Ret (.bool true) w) := by
  have HB := Lib.hid (Byt.lit_mark w 5 (9, 10) [49, 50, 51, 52, 53, 54, 55, 56, 57] 9 rfl (by unfold maxLen; omega) (by simp))
  have b1 : Below w.heap.size w (w.alloc (.cells ([49, 50, 51, 52, 53, 54, 55, 56, 57].map (Value.int .u8)).toArray 5 (9, 10))) := (Below.refl _ _).alloc (Nat.le_refl _) _
  have HC := Lib.hid (crcSum_any _ _ _ _ _ HB.out (hT.ret b1))
  rw [crcL_awake] at HC
  have HL := Lib.hid b1
  have kc := fun (w : World) (C : Array Value) (n c : Nat) => Lib.run_convert_bytes_const (P := Tryd.prog) w 22 5 C n c Tryd.underlying22 Tryd.underlying5
  clear HB b1 hT
  go_enter Tryd.func8, Tryd.ntmps8
  go_wp2_with fail
  refine HC.out.mono ?_
  rintro e w1 ⟨rfl, rfl⟩
  go_wp2_with fail
  go_ret
  exact ⟨rfl, HL.out⟩
end Go.Proofs.YteogchmhmgngnaaDoor

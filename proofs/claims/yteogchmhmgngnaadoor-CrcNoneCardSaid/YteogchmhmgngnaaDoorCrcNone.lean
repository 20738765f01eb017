/- What it says: the Go text of trothlaw02.CrcNone answers true, and writes nothing that was there. -/
import Derived.Test.YteogchmhmgngnaaDoorCrcAwake
import Derived.Test.YteogchmhmgngnaaDoorCrcJoin
namespace Go.Proofs.YteogchmhmgngnaaDoor
open Go.RowKit

set_option maxHeartbeats 2000000 in
theorem crcNone_walk (a b : Nat) (x : Int) (w : World) (ha : a < 4294967296) (hb : b < 4294967296) (hx : -9223372036854775808 ≤ x ∧ x ≤ 9223372036854775807) (hT : Tab w) :
    Calls Tryd.prog 5 #[.int .u32 a, .int .u32 b, .int .i64 x] w (Ret (.bool true) w) := by
  have HT := Lib.hid hT
  clear hT
  by_cases hpos : 0 < x
  · go_enter Tryd.func5, Tryd.ntmps5
    go_wp2_with fail
    refine (awake_any _ HT.out).mono ?_
    rintro e w2 ⟨rfl, b2⟩
    have H := Lib.hid b2
    clear b2
    go_wp2
    go_ret
    exact ⟨rfl, H.out⟩
  · have hle : x ≤ 0 := by omega
    have hxor := xor32 a b ha hb
    obtain ⟨z, ez⟩ : ∃ z, a ^^^ b = z := ⟨_, rfl⟩
    have HJ := Lib.hid (join_none a b x ha hb hle w HT.out)
    rw [ez] at hxor HJ
    clear ez
    go_enter Tryd.func5, Tryd.ntmps5
    go_wp2_with fail
    refine HJ.out.mono ?_
    rintro e w1 ⟨rfl, b1⟩
    have L1 := Lib.hid b1
    clear b1
    go_wp2_with fail
    refine (awake_any _ (HT.out.ret L1.out)).mono ?_
    rintro e w4 ⟨rfl, b4⟩
    have L4 := Lib.hid (Below.then L1.out b4)
    clear b4
    go_wp2
    go_ret
    exact ⟨rfl, L4.out⟩
end Go.Proofs.YteogchmhmgngnaaDoor

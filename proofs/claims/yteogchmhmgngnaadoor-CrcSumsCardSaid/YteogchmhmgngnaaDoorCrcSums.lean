/- What it says: the Go text of trothlaw02.CrcSums answers true, and writes nothing that was there. -/
import Derived.Test.YteogchmhmgngnaaDoorCrcAwake
namespace Go.Proofs.YteogchmhmgngnaaDoor
open Go.RowKit

set_option maxHeartbeats 2000000 in
theorem crcSums_walk (A : Option Addr) (k c : Nat) (l : List Int) (w : World) (h : Byt w A k c l) (_hk : k ≤ 140737488351232) (hT : Tab w) :
    Calls Tryd.prog 3 #[.slice A k c] w (Ret (.bool true) w) := by
  have HB := Lib.hid h
  have HT := Lib.hid hT
  clear h hT
  by_cases hbig : (2000 : Int) < (k : Int)
  · go_enter Tryd.func3, Tryd.ntmps3
    go_wp2_with fail
    refine (awake_any _ HT.out).mono ?_
    rintro e w2 ⟨rfl, b2⟩
    have H := Lib.hid b2
    clear b2
    go_wp2
    go_ret
    exact ⟨rfl, H.out⟩
  · go_enter Tryd.func3, Tryd.ntmps3
    go_wp2_with fail
    refine (own_any _ _ _ l _ HB.out (by omega)).mono ?_
    rintro e w1 ⟨A1, k1, c1, rfl, hb1, b1⟩
    have HB1 := Lib.hid hb1
    have L1 := Lib.hid b1
    clear hb1 b1
    go_wp2_with fail
    refine (crcSum_any _ _ _ l _ HB1.out (HT.out.ret L1.out)).mono ?_
    rintro e w2 ⟨rfl, rfl⟩
    go_wp2_with fail
    refine (refSum_any _ _ _ l _ (HB.out.below L1.out)).mono ?_
    rintro e w3 ⟨rfl, rfl⟩
    go_wp2_with fail
    refine (awake_any _ (HT.out.ret L1.out)).mono ?_
    rintro e w4 ⟨rfl, b4⟩
    have L4 := Lib.hid (Below.then L1.out b4)
    clear b4
    go_wp2
    go_ret
    exact ⟨rfl, L4.out⟩
end Go.Proofs.YteogchmhmgngnaaDoor

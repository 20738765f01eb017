/- What it says: the Go text of trothlaw01.NumShorts answers true, and writes nothing that was there. -/
import Derived.Test.YtmglnfgngnekeaaAwake
import Derived.Test.YtmglnfgngnekeaaTake
import Derived.Test.YtmglnfgngnekeaaRefShort
namespace Go.Proofs.Ytmglnfgngnekeaa
open Go.RowKit

set_option maxHeartbeats 1000000 in
theorem numShorts_walk (n : Nat) (A : Option Addr) (k c : Nat) (l : List Int) (w : World) (hn : n < 18446744073709551616) (h : Byt w A k c l) (_hk : k ≤ 140737488351232) :
    Calls Try.prog 4 #[.int .u64 n, .slice A k c] w (Ret (.bool true) w) := by
  by_cases h1000 : (1000 : Int) < (k : Int)
  · clear h
    go_enter Try.func4, Try.ntmps4
    go_wp2_with fail
    refine (awake_any _).mono ?_
    rintro e w2 ⟨rfl, hbel2⟩
    have H := Lib.hid hbel2
    clear hbel2
    go_wp2
    go_ret
    exact ⟨rfl, H.out⟩
  · obtain ⟨x, i, e0, ht⟩ : ∃ x i e0, takeF l 0 0 = (x, i, e0) := ⟨_, _, _, rfl⟩
    have HT := Lib.hid ht
    have HB := Lib.hid h
    clear ht h
    go_enter Try.func4, Try.ntmps4
    go_wp2_with fail
    refine (own_any _ _ _ l _ HB.out (by omega)).mono ?_
    rintro e w1 ⟨A1, k1, c1, rfl, hb1, hbel1⟩
    have HB1 := Lib.hid hb1
    have L1 := Lib.hid hbel1
    clear hb1 hbel1
    go_wp2_with fail
    refine (Quiet.ret (numTake_is _ _ _ l x i e0 _ HB1.out HT.out)).mono ?_
    rintro e w2 ⟨rfl, b2⟩
    have L2 := Lib.hid (Below.then L1.out b2)
    clear b2 HB1 L1
    go_wp2_with fail
    refine (Quiet.ret (refTake_is _ _ _ l x i e0 _ (HB.out.below L2.out) HT.out)).mono ?_
    rintro e w3 ⟨rfl, b3⟩
    have L3 := Lib.hid (Below.then L2.out b3)
    clear b3 L2
    go_wp2_with fail
    refine (numShort_any n hn _).mono ?_
    rintro e w4 ⟨A4, k4, c4, rfl, hb4, b4⟩
    have HB4 := Lib.hid hb4
    have L4 := Lib.hid (Below.then L3.out b4)
    clear hb4 b4 L3
    go_wp2_with fail
    refine (refShort_any n hn _).mono ?_
    rintro e w5 ⟨A5, k5, c5, rfl, hb5, b5⟩
    have HB4' := Lib.hid (HB4.out.below b5)
    have HB5 := Lib.hid hb5
    have L5 := Lib.hid (Below.then L4.out b5)
    clear hb5 b5 L4 HB4
    go_wp2_with fail
    refine (Quiet.ret (same_yes _ _ _ _ _ _ _ _ _ HB4'.out HB5.out rfl)).mono ?_
    rintro e w6 ⟨rfl, b6⟩
    have L6 := Lib.hid (Below.then L5.out b6)
    clear b6 L5
    go_wp2_with fail
    refine (awake_any _).mono ?_
    rintro e w7 ⟨rfl, b7⟩
    have L7 := Lib.hid (Below.then L6.out b7)
    clear b7 L6
    go_wp2
    go_ret
    exact ⟨rfl, L7.out⟩
end Go.Proofs.Ytmglnfgngnekeaa

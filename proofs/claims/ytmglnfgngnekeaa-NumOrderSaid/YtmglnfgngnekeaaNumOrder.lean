/- What it says: the Go text of trothlaw01.NumOrder answers true, and writes nothing that was there. -/
import Derived.Test.YtmglnfgngnekeaaAwake
import Derived.Test.YtmglnfgngnekeaaWide
import Derived.Test.YtmglnfgngnekeaaLess
namespace Go.Proofs.Ytmglnfgngnekeaa
open Go.RowKit

theorem wide8 (n : Nat) (hn : n < 18446744073709551616) (w : World) : Calls Try.prog 9 #[.int .u64 n, .int .i64 8] w (RetByt2 (wideL 8 n) .i64 0 w) := by
  have := numWide_yes n 8 hn (by omega) (by omega) (by have : (256 : Nat) ^ 8 = 18446744073709551616 := rfl; omega) w
  exact this

theorem lt64 {a : Nat} (h : a < 18446744073709551616) : a < 256 ^ 8 := by have : (256 : Nat) ^ 8 = 18446744073709551616 := rfl; omega

set_option maxHeartbeats 2000000 in
theorem numOrder_gt (a b : Nat) (w : World) (ha : a < 18446744073709551616) (hb : b < 18446744073709551616) (hab : b < a) :
    Calls Try.prog 7 #[.int .u64 a, .int .u64 b] w (Ret (.bool true) w) := by
  have hless : Hid (lessL (wideL 8 a) (wideL 8 b) = false) := by
    have := lessL_wide 8 a b (lt64 ha) (lt64 hb)
    rw [this]; exact decide_eq_false (by omega)
  have habi : (b : Int) < (a : Int) := by omega
  have hd : decide (a < b) = false := decide_eq_false (by omega)
  go_enter Try.func7, Try.ntmps7
  go_wp2_with fail
  refine (wide8 a ha _).mono ?_
  rintro e w1 ⟨A1, k1, c1, rfl, hb1, b1⟩
  obtain rfl : k1 = 8 := by rw [← hb1.len, wideL_len]
  have HB1 := Lib.hid hb1
  have L1 := Lib.hid b1
  clear hb1 b1
  go_wp2_with fail
  refine (wide8 b hb _).mono ?_
  rintro e w2 ⟨A2, k2, c2, rfl, hb2, b2⟩
  obtain rfl : k2 = 8 := by rw [← hb2.len, wideL_len]
  have HB1' := Lib.hid (HB1.out.below b2)
  have HB2 := Lib.hid hb2
  have L2 := Lib.hid (Below.then L1.out b2)
  clear hb2 b2 HB1 L1
  go_wp2_with fail
  refine (Quiet.ret (less_is _ _ _ _ _ _ _ false _ HB1'.out HB2.out (by omega) hless.out)).mono ?_
  rintro e w3 ⟨rfl, b3⟩
  have L3 := Lib.hid (Below.then L2.out b3)
  clear b3 L2 HB1' HB2
  go_wp2_with fail
  refine (awake_any _).mono ?_
  rintro e w7 ⟨rfl, b7⟩
  have L7 := Lib.hid (Below.then L3.out b7)
  clear b7 L3
  go_wp2
  go_ret
  exact ⟨rfl, L7.out⟩

set_option maxHeartbeats 2000000 in
theorem numOrder_le (a b : Nat) (w : World) (ha : a < 18446744073709551616) (hb : b < 18446744073709551616) (hab : a ≤ b) :
    Calls Try.prog 7 #[.int .u64 a, .int .u64 b] w (Ret (.bool true) w) := by
  have hless : Hid (lessL (wideL 8 a) (wideL 8 b) = decide (a < b)) := lessL_wide 8 a b (lt64 ha) (lt64 hb)
  have hmono := Lib.hid (shortL_mono hab)
  have habi : ¬ (b : Int) < (a : Int) := by omega
  clear hab
  go_enter Try.func7, Try.ntmps7
  go_wp2_with fail
  refine (wide8 a ha _).mono ?_
  rintro e w1 ⟨A1, k1, c1, rfl, hb1, b1⟩
  obtain rfl : k1 = 8 := by rw [← hb1.len, wideL_len]
  have HB1 := Lib.hid hb1
  have L1 := Lib.hid b1
  clear hb1 b1
  go_wp2_with fail
  refine (wide8 b hb _).mono ?_
  rintro e w2 ⟨A2, k2, c2, rfl, hb2, b2⟩
  obtain rfl : k2 = 8 := by rw [← hb2.len, wideL_len]
  have HB1' := Lib.hid (HB1.out.below b2)
  have HB2 := Lib.hid hb2
  have L2 := Lib.hid (Below.then L1.out b2)
  clear hb2 b2 HB1 L1
  go_wp2_with fail
  refine (Quiet.ret (less_is _ _ _ _ _ _ _ _ _ HB1'.out HB2.out (by omega) hless.out)).mono ?_
  rintro e w3 ⟨rfl, b3⟩
  have L3 := Lib.hid (Below.then L2.out b3)
  clear b3 L2 HB1' HB2
  go_wp2_with fail
  refine (numShort_any a ha _).mono ?_
  rintro e w4 ⟨A4, k4, c4, rfl, hb4, b4⟩
  have E4 := Lib.hid hb4.len
  have L4 := Lib.hid (Below.then L3.out b4)
  clear hb4 b4 L3
  go_wp2_with fail
  refine (numShort_any b hb _).mono ?_
  rintro e w5 ⟨A5, k5, c5, rfl, hb5, b5⟩
  have hle : (k4 : Int) ≤ (k5 : Int) := by have := hmono.out; rw [E4.out, hb5.len] at this; omega
  have L5 := Lib.hid (Below.then L4.out b5)
  clear hb5 b5 L4
  go_wp2_with fail
  refine (awake_any _).mono ?_
  rintro e w7 ⟨rfl, b7⟩
  have L7 := Lib.hid (Below.then L5.out b7)
  clear b7 L5
  go_wp2
  go_ret
  exact ⟨rfl, L7.out⟩

theorem numOrder_walk (a b : Nat) (w : World) (ha : a < 18446744073709551616) (hb : b < 18446744073709551616) :
    Calls Try.prog 7 #[.int .u64 a, .int .u64 b] w (Ret (.bool true) w) := by
  by_cases hab : b < a
  · exact numOrder_gt a b w ha hb hab
  · exact numOrder_le a b w ha hb (by omega)
end Go.Proofs.Ytmglnfgngnekeaa

/- What it says: the Go text of trothlaw03.SealNil answers true, and writes nothing that was there. -/
import Derived.Test.YtlnhillpghjknaaDoorSealAwake
import Derived.Test.YtlnhillpghjknaaDoorReader2
namespace Go.Proofs.YtlnhillpghjknaaDoor
open Go.RowKit

set_option maxHeartbeats 2000000 in
theorem sealNil_walk (n : Int) (s : ByteArray) (w : World) (hn : -9223372036854775808 ≤ n ∧ n ≤ 9223372036854775807) (hs : s.size ≤ 140737488351232) (hT : Tab w) :
    Calls Tryd.prog 10 #[.int .i64 n, .string s] w (Ret (.bool true) w) := by
  have HT := Lib.hid hT
  clear hT
  go_enter Tryd.func10, Tryd.ntmps10
  go_wp2_with fail
  refine (wNum_nil n w hn).mono ?_
  rintro e w1 ⟨rfl, b1⟩
  have L1 := Lib.hid b1
  clear b1
  go_wp2_with fail
  refine (wByte_nil 1 _).mono ?_
  rintro e w2 ⟨rfl, b2⟩
  have L2 := Lib.hid (Below.then L1.out b2)
  clear b2 L1
  go_wp2_with fail
  refine (wFlag_nil true _).mono ?_
  rintro e w3 ⟨rfl, b3⟩
  have L3 := Lib.hid (Below.then L2.out b3)
  clear b3 L2
  go_wp2_with fail
  refine (wText_nil s _ (by omega)).mono ?_
  rintro e w4 ⟨rfl, b4⟩
  have L4 := Lib.hid (Below.then L3.out b4)
  clear b4 L3
  go_wp2_with fail
  refine (wBytes_nil _).mono ?_
  rintro e w5 ⟨A5, n5, c5, rfl, hb5, b5⟩
  have hn5 : n5 = 0 := by have := hb5.len; simpa using this.symm
  subst hn5
  have L5 := Lib.hid (Below.then L4.out b5)
  clear b5 L4 hb5
  go_wp2_with fail
  refine (rNum_nil n _).mono ?_
  rintro e w6 ⟨rfl, b6⟩
  have L6 := Lib.hid (Below.then L5.out b6)
  clear b6 L5
  go_wp2_with fail
  refine (rByte_nil _).mono ?_
  rintro e w7 ⟨rfl, b7⟩
  have L7 := Lib.hid (Below.then L6.out b7)
  clear b7 L6
  go_wp2_with fail
  refine (rFlag_nil _).mono ?_
  rintro e w8 ⟨rfl, b8⟩
  have L8 := Lib.hid (Below.then L7.out b8)
  clear b8 L7
  go_wp2_with fail
  refine (rText_nil n _).mono ?_
  rintro e w9 ⟨rfl, b9⟩
  have L9 := Lib.hid (Below.then L8.out b9)
  clear b9 L8
  go_wp2_with fail
  refine (rLeft_nil _).mono ?_
  rintro e w10 ⟨rfl, b10⟩
  have L10 := Lib.hid (Below.then L9.out b10)
  clear b10 L9
  go_wp2_with fail
  refine (rErr_nil _).mono ?_
  rintro e w11 ⟨rfl, b11⟩
  have L11 := Lib.hid (Below.then L10.out b11)
  clear b11 L10
  go_wp2_with fail
  refine (rEnd_nil _).mono ?_
  rintro e w12 ⟨rfl, b12⟩
  have L12 := Lib.hid (Below.then L11.out b12)
  clear b12 L11
  go_wp2_with fail
  refine (awake_any _ (HT.out.ret L12.out)).mono ?_
  rintro e w13 ⟨rfl, b13⟩
  have L13 := Lib.hid (Below.then L12.out b13)
  clear b13 L12
  go_wp2_with fail
  go_ret
  exact ⟨rfl, L13.out⟩
end Go.Proofs.YtlnhillpghjknaaDoor

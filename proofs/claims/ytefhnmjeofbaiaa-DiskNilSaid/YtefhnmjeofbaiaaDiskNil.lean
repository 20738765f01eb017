/- What it says: the walk of the law DiskNil: whatever comes in, it answers true and turns nothing that was there. -/
import Derived.Test.YtefhnmjeofbaiaaDAwake
import Derived.Test.YtefhnmjeofbaiaaCalls
namespace Go.Proofs.Ytefhnmjeofbaiaa
open Go.RowKit

set_option maxRecDepth 100000 in
set_option maxHeartbeats 2000000 in
theorem diskNil_walk (x : Int) (A1 : Option Addr) (n1 c1 : Nat) (l1 : List Int) (A2 : Option Addr) (n2 c2 : Nat) (cr : Crs) (w : World) (_hx : -9223372036854775808 ≤ x ∧ x ≤ 9223372036854775807) (_h1 : Byt w A1 n1 c1 l1) (_z1 : n1 ≤ 140737488351232) (_h2 : Nts w A2 n2 c2 cr.keep) (_z2 : -9223372036854775808 ≤ cr.cut ∧ cr.cut ≤ 9223372036854775807) :
    Calls Try.prog 8 #[.int .i64 x, .slice A1 n1 c1, .agg #[.slice A2 n2 c2, .bool cr.torn, .int .i64 cr.cut]] w (Ret (.bool true) w) := by
  clear _hx _h1 _z1 _h2 _z2
  obtain ⟨cut, hcut⟩ : ∃ cut, cr.cut = cut := ⟨_, rfl⟩
  obtain ⟨tn, htn⟩ : ∃ tn, cr.torn = tn := ⟨_, rfl⟩
  rw [hcut, htn]
  clear hcut htn cr
  go_enter Try.func8, Try.ntmps8
  go_wp2_with fail
  refine (fuse_nil _ _).mono ?_
  rintro e w1 ⟨rfl, rfl⟩
  go_wp2_with fail
  refine (read_nil _ _).mono ?_
  rintro e w1 ⟨rfl, rfl⟩
  go_wp2_with fail
  refine (write_nil _ _ _).mono ?_
  rintro e w1 ⟨rfl, rfl⟩
  go_wp2_with fail
  refine (sync_nil _).mono ?_
  rintro e w1 ⟨rfl, rfl⟩
  go_wp2_with fail
  refine (pending_nil _).mono ?_
  rintro e w1 ⟨rfl, rfl⟩
  go_wp2_with fail
  refine (sectors_nil _).mono ?_
  rintro e w1 ⟨rfl, rfl⟩
  go_wp2_with fail
  refine (syncs_nil _).mono ?_
  rintro e w1 ⟨rfl, rfl⟩
  go_wp2_with fail
  refine (down_nil _).mono ?_
  rintro e w1 ⟨rfl, rfl⟩
  go_wp2_with fail
  refine (crash_nil _ _).mono ?_
  rintro e w1 ⟨rfl, b1⟩
  have B1 := Lib.hid b1
  clear b1
  go_wp2_with fail
  refine (awake_any _).mono ?_
  rintro e w2 ⟨rfl, b2⟩
  have B2 : Hid (Below w.heap.size w w2) := by
    have hb : Below w.heap.size w w1 := ((Below.refl _ w).alloc (Nat.le_refl _) _).trans (B1.out.mono (by simp))
    exact Lib.hid (hb.trans (b2.mono hb.size))
  clear b2 B1
  go_wp2_with fail
  go_ret
  exact ⟨rfl, B2.out⟩
end Go.Proofs.Ytefhnmjeofbaiaa

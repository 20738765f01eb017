/- What it says: the Go text of trothlaw01.NumWides answers true, and writes nothing that was there. -/
import Derived.Test.YtmglnfgngnekeaaAwake
import Derived.Test.YtmglnfgngnekeaaTakeWide
import Derived.Test.YtmglnfgngnekeaaRefWide
namespace Go.Proofs.Ytmglnfgngnekeaa
open Go.RowKit

/-- A slice of bytes and an error's number that are just these, in whatever memory. -/
def Is2 (l : List Int) (x : Int) (w : World) (e : Ending) (w' : World) : Prop := RetByt2 l .i64 x w e w'

theorem is2_nil {l : List Int} {x : Int} {w : World} (h : l = []) : Is2 l x w (.returned (.tuple #[.slice none 0 0, .int .i64 x])) w := by
  subst h
  exact ⟨none, 0, 0, rfl, Byt.nil w, Below.refl _ _⟩

/-- What both versions answer: the bytes and the error's number. -/
theorem numWide_is (n : Nat) (x : Int) (hn : n < 18446744073709551616) : ∃ (l : List Int) (e : Int), ∀ w,
    Calls Try.prog 9 #[.int .u64 n, .int .i64 x] w (Is2 l e w) ∧ Calls Try.prog 10 #[.int .u64 n, .int .i64 x] w (Is2 l e w) := by
  by_cases hx : x < 1 ∨ 8 < x
  · refine ⟨[], 1, fun w => ⟨?_, ?_⟩⟩
    · exact (numWide_no n x hn hx w).mono fun e w' ⟨he, hw⟩ => by subst he; subst hw; exact is2_nil rfl
    · exact (refWide_no n x hn hx w).mono fun e w' ⟨he, hw⟩ => by subst he; subst hw; exact is2_nil rfl
  · obtain ⟨k, rfl⟩ := Int.eq_ofNat_of_zero_le (a := x) (by omega)
    by_cases hk : n < 256 ^ k
    · refine ⟨wideL k n, 0, fun w => ⟨numWide_yes n k hn (by omega) (by omega) hk w, ?_⟩⟩
      refine (refWide_any n k hn (by omega) (by omega) w).mono fun e w' he => ?_
      rcases he with ⟨_, he⟩ | ⟨h, _⟩
      · exact he
      · exact absurd hk h
    · refine ⟨[], 1, fun w => ⟨?_, ?_⟩⟩
      · exact (numWide_big n k hn (by omega) (by omega) hk w).mono fun e w' ⟨he, hw⟩ => by subst he; subst hw; exact is2_nil rfl
      · refine (refWide_any n k hn (by omega) (by omega) w).mono fun e w' he => ?_
        rcases he with ⟨h, _⟩ | ⟨_, he, hb⟩
        · exact absurd h hk
        · subst he; exact ⟨none, 0, 0, rfl, Byt.nil w', hb⟩

theorem takeWide_is (x : Int) (k : Nat) (l : List Int) : ∃ (y e : Int), ∀ A c A' c' w w', Byt w A k c l → Byt w' A' k c' l →
    Calls Try.prog 11 #[.slice A k c, .int .i64 x] w (Quiet (.tuple #[.int .u64 y, .int .i64 e]) w) ∧ Calls Try.prog 13 #[.slice A' k c', .int .i64 x] w' (Quiet (.tuple #[.int .u64 y, .int .i64 e]) w') := by
  by_cases hx : x < 1 ∨ 8 < x
  · exact ⟨0, 1, fun A c A' c' w w' _ _ => ⟨numTakeWide_no A k c x w hx, refTakeWide_no A' k c' x w' hx⟩⟩
  · obtain ⟨j, rfl⟩ := Int.eq_ofNat_of_zero_le (a := x) (by omega)
    exact ⟨_, _, fun A c A' c' w w' h h' => ⟨numTakeWide_any A k c j l w h (by omega) (by omega), refTakeWide_any A' k c' j l w' h' (by omega) (by omega)⟩⟩

set_option maxHeartbeats 1000000 in
theorem numWides_walk (n : Nat) (x : Int) (A : Option Addr) (k c : Nat) (l : List Int) (w : World) (hn : n < 18446744073709551616) (_hx : -9223372036854775808 ≤ x ∧ x ≤ 9223372036854775807) (h : Byt w A k c l) (hk : k ≤ 140737488351232) :
    Calls Try.prog 3 #[.int .u64 n, .int .i64 x, .slice A k c] w (Ret (.bool true) w) := by
  obtain ⟨lw, ew, CW⟩ := numWide_is n x hn
  obtain ⟨y, et, CT⟩ := takeWide_is x k l
  have HW := Lib.hid CW
  have HT := Lib.hid CT
  have HB := Lib.hid h
  clear CW CT h _hx
  go_enter Try.func3, Try.ntmps3
  go_wp2_with fail
  refine (HW.out _).1.mono ?_
  rintro e w1 ⟨A1, k1, c1, rfl, hb1, hbel1⟩
  have HB1 := Lib.hid hb1
  have L1 := Lib.hid hbel1
  clear hb1 hbel1
  go_wp2_with fail
  refine (HW.out _).2.mono ?_
  rintro e w2 ⟨A2, k2, c2, rfl, hb2, hbel2⟩
  have HB1' := Lib.hid (HB1.out.below hbel2)
  have HB2 := Lib.hid hb2
  have L2 := Lib.hid (Below.then L1.out hbel2)
  clear hb2 hbel2 HB1 L1
  go_wp2_with fail
  refine (own_any _ _ _ l _ (HB.out.below L2.out) (by omega)).mono ?_
  rintro e w3 ⟨A3, k3, c3, rfl, hb3, hbel3⟩
  obtain rfl : k3 = k := by rw [← hb3.len, ← HB.out.len]
  have HB1 := Lib.hid (HB1'.out.below hbel3)
  have HB2' := Lib.hid (HB2.out.below hbel3)
  have L3 := Lib.hid (Below.then L2.out hbel3)
  have HB3 := Lib.hid hb3
  clear hb3 hbel3 HB1' HB2 L2
  go_wp2_with fail
  refine (Quiet.ret (HT.out _ _ _ _ _ _ HB3.out (HB.out.below L3.out)).1).mono ?_
  rintro e w4 ⟨rfl, b4⟩
  have HB1' := Lib.hid (HB1.out.below b4)
  have HB2 := Lib.hid (HB2'.out.below b4)
  have HB3' := Lib.hid (HB3.out.below b4)
  have L4 := Lib.hid (Below.then L3.out b4)
  clear b4 L3 HB1 HB2' HB3
  go_wp2_with fail
  refine (Quiet.ret (HT.out _ _ _ _ _ _ HB3'.out (HB.out.below L4.out)).2).mono ?_
  rintro e w5 ⟨rfl, b5⟩
  have HB1 := Lib.hid (HB1'.out.below b5)
  have HB2' := Lib.hid (HB2.out.below b5)
  have L5 := Lib.hid (Below.then L4.out b5)
  clear b5 L4 HB1' HB2 HB3'
  go_wp2_with fail
  refine (Quiet.ret (same_yes _ _ _ _ _ _ _ _ _ HB1.out HB2'.out rfl)).mono ?_
  rintro e w6 ⟨rfl, b6⟩
  have L6 := Lib.hid (Below.then L5.out b6)
  clear b6 L5
  go_wp2_with fail
  refine (awake_any _).mono ?_
  rintro e w7 ⟨rfl, b7⟩
  have L7 := Lib.hid (Below.then L6.out b7)
  clear b7 L6
  go_wp2
  go_ret
  exact ⟨rfl, L7.out⟩
end Go.Proofs.Ytmglnfgngnekeaa

/- What it says: the Go text of trothlaw01.NumFolds answers true, and writes nothing that was there. -/
import Derived.Test.YtmglnfgngnekeaaAwake
import Derived.Test.YtmglnfgngnekeaaFold
import Derived.Test.YtmglnfgngnekeaaRefFold
namespace Go.Proofs.Ytmglnfgngnekeaa
open Go.RowKit

/-- What both versions answer: one number, below the one that is asked. -/
theorem fold_is (x : Int) (k : Nat) (l : List Int) (hx : x ≤ 9223372036854775807) : ∃ y : Int, ((1 ≤ x ∧ 0 ≤ y ∧ y < x) ∨ (x < 1 ∧ y = 0)) ∧ ∀ A c A' c' w w', Byt w A k c l → Byt w' A' k c' l →
    Calls Try.prog 21 #[.slice A k c, .int .i64 x] w (Ret (.int .i64 y) w) ∧ Calls Try.prog 22 #[.slice A' k c', .int .i64 x] w' (Ret (.int .i64 y) w') := by
  by_cases h : x < 1
  · exact ⟨0, .inr ⟨h, rfl⟩, fun A c A' c' w w' _ _ => ⟨numFold_no A k c x w h, refFold_no A' k c' x w' h⟩⟩
  · obtain ⟨N, rfl⟩ := Int.eq_ofNat_of_zero_le (a := x) (by omega)
    have hlt := foldL_lt l N (by omega)
    exact ⟨(foldL l N : Int), .inl ⟨by omega, by omega, by omega⟩, fun A c A' c' w w' h1 h2 => ⟨numFold_any A k c N l w h1 (by omega) (by omega), refFold_any A' k c' N l w' h2 (by omega) (by omega)⟩⟩

set_option maxHeartbeats 2000000 in
theorem numFolds_walk (A : Option Addr) (k c : Nat) (l : List Int) (x : Int) (w : World) (h : Byt w A k c l) (_hk : k ≤ 140737488351232) (hx : -9223372036854775808 ≤ x ∧ x ≤ 9223372036854775807) :
    Calls Try.prog 8 #[.slice A k c, .int .i64 x] w (Ret (.bool true) w) := by
  by_cases h300 : (300 : Int) < (k : Int)
  · clear h
    go_enter Try.func8, Try.ntmps8
    go_wp2_with fail
    refine (awake_any _).mono ?_
    rintro e w2 ⟨rfl, b2⟩
    have H := Lib.hid b2
    clear b2
    go_wp2
    go_ret
    exact ⟨rfl, H.out⟩
  · obtain ⟨y, hy, C⟩ := fold_is x k l hx.2
    have HC := Lib.hid C
    have HB := Lib.hid h
    clear C h hx
    have y0 : 0 ≤ y := by omega
    rcases hy with ⟨hx1, _, hyx⟩ | ⟨hx1, rfl⟩
    · go_enter Try.func8, Try.ntmps8
      go_wp2_with fail
      refine (own_any _ _ _ l _ HB.out (by omega)).mono ?_
      rintro e w1 ⟨A1, k1, c1, rfl, hb1, b1⟩
      obtain rfl : k1 = k := by rw [← hb1.len, ← HB.out.len]
      have HB1 := Lib.hid hb1
      have L1 := Lib.hid b1
      clear hb1 b1
      go_wp2_with fail
      refine (HC.out _ _ _ _ _ _ HB1.out (HB.out.below L1.out)).1.mono ?_
      rintro e w2 ⟨rfl, b2⟩
      have HB1' := Lib.hid (HB1.out.below b2)
      have L2 := Lib.hid (Below.then L1.out b2)
      clear b2 L1 HB1
      go_wp2_with fail
      refine (HC.out _ _ _ _ _ _ HB1'.out (HB.out.below L2.out)).2.mono ?_
      rintro e w3 ⟨rfl, b3⟩
      have L3 := Lib.hid (Below.then L2.out b3)
      clear b3 L2 HB1'
      go_wp2_with fail
      refine (awake_any _).mono ?_
      rintro e w4 ⟨rfl, b4⟩
      have L4 := Lib.hid (Below.then L3.out b4)
      clear b4 L3
      go_wp2
      go_ret
      exact ⟨rfl, L4.out⟩
    · have hnx : ¬ (0 : Int) < x := by omega
      go_enter Try.func8, Try.ntmps8
      go_wp2_with fail
      refine (own_any _ _ _ l _ HB.out (by omega)).mono ?_
      rintro e w1 ⟨A1, k1, c1, rfl, hb1, b1⟩
      obtain rfl : k1 = k := by rw [← hb1.len, ← HB.out.len]
      have HB1 := Lib.hid hb1
      have L1 := Lib.hid b1
      clear hb1 b1
      go_wp2_with fail
      refine (HC.out _ _ _ _ _ _ HB1.out (HB.out.below L1.out)).1.mono ?_
      rintro e w2 ⟨rfl, b2⟩
      have HB1' := Lib.hid (HB1.out.below b2)
      have L2 := Lib.hid (Below.then L1.out b2)
      clear b2 L1 HB1
      go_wp2_with fail
      refine (HC.out _ _ _ _ _ _ HB1'.out (HB.out.below L2.out)).2.mono ?_
      rintro e w3 ⟨rfl, b3⟩
      have L3 := Lib.hid (Below.then L2.out b3)
      clear b3 L2 HB1'
      go_wp2_with fail
      refine (awake_any _).mono ?_
      rintro e w4 ⟨rfl, b4⟩
      have L4 := Lib.hid (Below.then L3.out b4)
      clear b4 L3
      go_wp2
      go_ret
      exact ⟨rfl, L4.out⟩
end Go.Proofs.Ytmglnfgngnekeaa

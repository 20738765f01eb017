/- What it says: the Go text of trothlaw01.NumCuts answers true, and writes nothing that was there. -/
import Derived.Test.YtmglnfgngnekeaaAwake
import Derived.Test.YtmglnfgngnekeaaTake
namespace Go.Proofs.Ytmglnfgngnekeaa
open Go.RowKit

theorem Byt.pos {w : World} {A : Option Addr} {n c : Nat} {x : Nat} (h : Byt w A n c (shortL x)) : 0 < n := by rw [← h.len]; exact shortL_pos x

set_option maxHeartbeats 1000000 in
theorem numCuts_walk (n : Nat) (cut : Int) (w : World) (hn : n < 18446744073709551616) (hc : -9223372036854775808 ≤ cut ∧ cut ≤ 9223372036854775807) :
    Calls Try.prog 6 #[.int .u64 n, .int .i64 cut] w (Ret (.bool true) w) := by
  obtain ⟨hc0, hc1⟩ := hc
  by_cases hneg : cut < 0
  · go_enter Try.func6, Try.ntmps6
    go_wp2_with (go_at_call 18; refine (numShort_any n hn _).mono ?_; rintro e w1 ⟨A, k, c, rfl, hb, hbel⟩)
    refine (awake_any _).mono ?_
    rintro e w2 ⟨rfl, hbel2⟩
    have H := Lib.hid (Below.then hbel hbel2)
    clear hbel hbel2 hb
    go_wp2
    go_ret
    exact ⟨rfl, H.out⟩
  · have hpos : 0 ≤ cut := by omega
    go_enter Try.func6, Try.ntmps6
    go_wp2_with fail
    refine (numShort_any n hn _).mono ?_
    rintro e w1 ⟨A, k, c, rfl, hb, hbel⟩
    have hk := hb.pos
    have hcap := hb.cap
    have hmax := hb.max
    unfold maxLen at hmax
    have hk0 : ((k : Int) == 0) = false := by simp; omega
    have hq0 : 0 ≤ cut % (k : Int) := Int.emod_nonneg _ (by omega)
    have hq3 : cut % (k : Int) < (k : Int) := Int.emod_lt_of_pos _ (by omega)
    have hq1 : cut % (k : Int) ≤ (c : Int) := by omega
    go_wp2_with fail
    have hq2 : (cut % (k : Int)).toNat < k := by omega
    refine (numTake_is _ _ _ _ 0 0 10 _ (hb.take _ (Nat.le_of_lt hq2)) (takeF_short_cut n hn _ (by rw [hb.len]; exact hq2))).mono ?_
    rintro e w2 ⟨rfl, m, rfl⟩
    clear hb
    have H := Lib.hid hbel
    clear hbel
    go_wp2_with fail
    refine (awake_any _).mono ?_
    rintro e w2 ⟨rfl, hbel2⟩
    have H2 := Lib.hid (Below.then (below_drewN H.out m) hbel2)
    clear hbel2 H
    go_wp2
    go_ret
    exact ⟨rfl, H2.out⟩
end Go.Proofs.Ytmglnfgngnekeaa

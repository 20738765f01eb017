/- What it says: the Go text of trothlaw01.NumBack answers true, and writes nothing that was there. -/
import Derived.Test.YtmglnfgngnekeaaAwake
import Derived.Test.YtmglnfgngnekeaaTake
import Derived.Test.YtmglnfgngnekeaaTakeWide
import Derived.Deep.RegionWith
import Derived.Deep.RegionHeld3
import Derived.Lib.QuietBelow
import Derived.BigQuiet
import Derived.Deep.DeepCutAuto
namespace Go.Proofs.Ytmglnfgngnekeaa
open Go.RowKit

theorem lt64' {a : Nat} (h : a < 18446744073709551616) : a < 256 ^ 8 := by have : (256 : Nat) ^ 8 = 18446744073709551616 := rfl; omega
theorem wide8' (n : Nat) (hn : n < 18446744073709551616) (w : World) : Calls Try.prog 9 #[.int .u64 n, .int .i64 8] w (RetByt2 (wideL 8 n) .i64 0 w) := by
  have := numWide_yes n 8 hn (by omega) (by omega) (lt64' hn) w
  exact this

theorem takeWide8 (A : Option Addr) (k c n : Nat) (l : List Int) (w : World) (hn : n < 18446744073709551616) (h : Byt w A k c (wideL 8 n ++ l)) :
    Calls Try.prog 11 #[.slice A k c, .int .i64 8] w (Quiet (.tuple #[.int .u64 n, .int .i64 0]) w) := by
  have hk : 8 ≤ k := by rw [← h.len, List.length_append, wideL_len]; omega
  have := numTakeWide_any A k c 8 _ w h (by omega) (by omega)
  rw [if_pos hk, if_pos hk, List.take_append_of_le_length (by rw [wideL_len]; omega), List.take_of_length_le (by rw [wideL_len]; omega), ofWide_wideL 8 n (lt64' hn)] at this
  exact this

theorem app_below {w1 w2 w3 : World} {v : Value} {k : Nat} {e : TypeId} {xs : List Value} (b2 : Below w1.heap.size w1 w2) (ho : w2.ownsRow w1.heap.size e 1 v k xs) (hg : w2.grownBy w3 v.ownBlock) : Below w1.heap.size w1 w3 :=
  b2.grown hg b2.size (fun i hi => (ho.lt i hi).1)

theorem app_byt {B : Nat} {w : World} {e : TypeId} {A : Option Addr} {m c : Nat} {xs ys : List Int} (h : w.ownsRow B e 1 (.slice A m c) m (xs.map (Value.int .u8) ++ ys.map (Value.int .u8))) (hx : ∀ x ∈ xs, 0 ≤ x ∧ x < 256) (hy : ∀ x ∈ ys, 0 ≤ x ∧ x < 256) : Byt w A m c (xs ++ ys) := by
  rw [← List.map_append] at h
  exact Byt.of_own h (fun x hx' => by
    rcases List.mem_append.1 hx' with h | h
    · exact hx x h
    · exact hy x h)

set_option maxHeartbeats 4000000 in
theorem numBack_main (n : Nat) (Ab : Option Addr) (nb cb : Nat) (lb : List Int) (A : Option Addr) (k c : Nat) (l : List Int) (w : World) (hn : n < 18446744073709551616)
    (hb : Byt w Ab nb cb lb) (h : Byt w A k c l) (h1 : nb ≤ 1000) (h2 : k ≤ 1000) :
    Calls Try.prog 5 #[.int .u64 n, .slice Ab nb cb, .slice A k c] w (Ret (.bool true) w) := by
  obtain ⟨i0, hi, hz0, hz1, hz2⟩ := info_parts info_u8
  have HBb := Lib.hid hb
  have HB := Lib.hid h
  have HS := Lib.hid (shortL_len n hn)
  have g1 : ¬ (1000 : Int) < (nb : Int) := by omega
  have g2 : ¬ (1000 : Int) < (k : Int) := by omega
  clear hb h
  go_enter Try.func5, Try.ntmps5
  go_wp2_with fail
  refine (numShort_any n hn _).mono ?_
  rintro e w1 ⟨A1, k1, c1, rfl, hb1, b1⟩
  have HB1 := Lib.hid hb1
  have hk1 : k1 ≤ 10 := by rw [← hb1.len]; exact HS.out
  have L1 := Lib.hid b1
  clear hb1 b1
  go_wp2_with fail
  refine (own_own _ _ _ _ _ HB1.out (by omega)).mono ?_
  rintro e w2 ⟨A2, k2, c2, rfl, ho2, hr2, b2⟩
  have hk2 : k2 ≤ 10 := by have := ho2.1; simp at this; rw [← this]; exact HS.out
  have HO2 := Lib.hid ho2
  have HR2 := Lib.hid hr2
  have BB2 := Lib.hid b2
  have L2 := Lib.hid (Below.then L1.out b2)
  have hs2 := b2.size
  clear ho2 hr2 b2
  go_wp2_with (at_builtin; refine wpList_append_byt rfl _ _ 23 rfl w1.heap.size 5 i0 Try.underlying23 hi hz0 hz1 hz2 _ k2 (shortL n) rfl HO2.out Ab nb cb lb rfl (HBb.out.below L2.out) (by omega) hs2 ?_)
  intro A3 c3 w3 ho3 hg3
  have HB3 := Lib.hid (app_byt ho3 HR2.out HBb.out.rng)
  have BB3 := Lib.hid (app_below BB2.out HO2.out hg3)
  have HB1' := Lib.hid (HB1.out.below BB3.out)
  have L3 := Lib.hid (Below.then L1.out BB3.out)
  have T3 : Hid (takeF (shortL n ++ lb) 0 0 = (n, k1, 0)) := by
    have := takeF_short n hn lb
    rw [HB1'.out.len] at this
    exact this
  clear ho3 hg3 HO2 HR2 BB2 L2 hs2 BB3 HB1 L1
  go_wp2_with fail
  refine (Quiet.ret (numTake_is _ _ _ _ n k1 0 _ HB3.out T3.out)).mono ?_
  rintro e w4 ⟨rfl, b4⟩
  have HB1 := Lib.hid (HB1'.out.below b4)
  have L4 := Lib.hid (Below.then L3.out b4)
  clear b4 L3 HB1' HB3 T3
  go_wp2_with fail
  refine (wide8' n hn _).mono ?_
  rintro e w5 ⟨A5, k5, c5, rfl, hb5, b5⟩
  obtain rfl : k5 = 8 := by rw [← hb5.len, wideL_len]
  have HB1' := Lib.hid (HB1.out.below b5)
  have HB5 := Lib.hid hb5
  have L5 := Lib.hid (Below.then L4.out b5)
  clear hb5 b5 HB1 L4
  go_wp2_with fail
  refine (own_own _ _ _ _ _ HB5.out (by omega)).mono ?_
  rintro e w6 ⟨A6, k6, c6, rfl, ho6, hr6, b6⟩
  have hk6 : k6 = 8 := by have := ho6.1; simp at this; rw [← this, wideL_len]
  subst hk6
  have HO6 := Lib.hid ho6
  have HR6 := Lib.hid hr6
  have BB6 := Lib.hid b6
  have L6 := Lib.hid (Below.then L5.out b6)
  have hs6 := b6.size
  clear ho6 hr6 b6 HB5
  go_wp2_with (at_builtin; refine wpList_append_byt rfl _ _ 23 rfl w5.heap.size 5 i0 Try.underlying23 hi hz0 hz1 hz2 _ 8 (wideL 8 n) rfl HO6.out Ab nb cb lb rfl (HBb.out.below L6.out) (by omega) hs6 ?_)
  intro A7 c7 w7 ho7 hg7
  have HB7 := Lib.hid (app_byt ho7 HR6.out HBb.out.rng)
  have BB7 := Lib.hid (app_below BB6.out HO6.out hg7)
  have HB1 := Lib.hid (HB1'.out.below BB7.out)
  have L7 := Lib.hid (Below.then L5.out BB7.out)
  clear ho7 hg7 HO6 HR6 BB6 L6 hs6 BB7 HB1' L5
  go_wp2_with fail
  refine (Quiet.ret (takeWide8 _ _ _ n _ _ hn HB7.out)).mono ?_
  rintro e w8 ⟨rfl, b8⟩
  have L8 := Lib.hid (Below.then L7.out b8)
  clear b8 L7 HB7 HB1
  go_wp2_with fail
  refine (own_any _ _ _ l _ (HB.out.below L8.out) (by omega)).mono ?_
  rintro e w9 ⟨A9, k9, c9, rfl, hb9, b9⟩
  have HB9 := Lib.hid hb9
  have L9 := Lib.hid (Below.then L8.out b9)
  clear hb9 b9 L8
  go_wp2_with fail
  obtain ⟨z, kk, e0, ht⟩ : ∃ x i e0, takeF l 0 0 = (x, i, e0) := ⟨_, _, _, rfl⟩
  have HT := Lib.hid ht
  clear ht
  refine (Quiet.ret (numTake_is _ _ _ l z kk e0 _ HB9.out HT.out)).mono ?_
  rintro e w10 ⟨rfl, b10⟩
  have L10 := Lib.hid (Below.then L9.out b10)
  clear b10 L9 HB9
  by_cases he : e0 = 0
  · subst he
    obtain ⟨z1, z2, z3⟩ := takeF_read l HB.out.rng z kk HT.out
    have Z3 := Lib.hid z3
    have hkk : kk ≤ k := by rw [← HB.out.len]; exact z2
    have hcap := HB.out.cap
    clear z2 z3 HT
    have HBk := Lib.hid (HB.out.take kk hkk)
    have hkc : (kk : Int) ≤ (c : Int) := by omega
    have hk0 : (0 : Int) ≤ (kk : Int) := by omega
    have hkk2 : (kk : Int) ≤ (k : Int) := by omega
    go_wp2_with fail
    go_region_held3 (fun w' => True) (trivial) (first | (go_at_call 18; refine (numShort_any z z1 _).mono ?_; rintro e w11 ⟨A11, k11, c11, rfl, hb11, b11⟩) | (go_at_call 15; refine (awake_any _).mono ?_; rintro e w13 ⟨rfl, b13⟩) | (go_at_call 14; refine (Quiet.ret (same_yes _ _ _ _ _ _ _ _ _ hb11 (HBk.out.below (Below.then (Below.drew L10.out) b11)) Z3.out)).mono ?_; rintro e w12 ⟨rfl, b12⟩))
    have L13 := Lib.hid (Below.then (Below.then (Below.then (Below.drew L10.out) b11) b12) b13)
    clear b11 b12 b13 hb11 L10
    go_wp2
    go_ret
    exact ⟨rfl, L13.out⟩
  · have hne : ((e0 : Int) != 0) = true := by simp; omega
    clear he HT
    go_wp2_with fail
    refine wp_region_quiet_below (by kernel_rfl) (by kernel_rfl) ?_
    repeat (any_goals (first | go_big_quiet_step ((go_at_call 15; exact Calls.regrown_of (awake_any _))) | quiet_step ((go_at_call 15; exact Calls.regrown_of (awake_any _)))))
    refine wpQuiet_nil ?_
    intro _ hw'
    obtain ⟨⟨dq, osq⟩, hw''⟩ := hw'
    subst hw''
    have L11 := Lib.hid (Below.then L10.out (below_regrown w10 dq osq))
    clear L10
    go_wp2
    go_ret
    exact ⟨rfl, L11.out⟩

set_option maxHeartbeats 1000000 in
theorem numBack_walk (n : Nat) (Ab : Option Addr) (nb cb : Nat) (lb : List Int) (A : Option Addr) (k c : Nat) (l : List Int) (w : World) (hn : n < 18446744073709551616)
    (hb : Byt w Ab nb cb lb) (_zb : nb ≤ 140737488351232) (h : Byt w A k c l) (_zk : k ≤ 140737488351232) :
    Calls Try.prog 5 #[.int .u64 n, .slice Ab nb cb, .slice A k c] w (Ret (.bool true) w) := by
  by_cases h1 : (1000 : Int) < (nb : Int)
  · clear hb h
    go_enter Try.func5, Try.ntmps5
    go_wp2_with fail
    refine (awake_any _).mono ?_
    rintro e w2 ⟨rfl, b2⟩
    have H := Lib.hid b2
    clear b2
    go_wp2
    go_ret
    exact ⟨rfl, H.out⟩
  · by_cases h2 : (1000 : Int) < (k : Int)
    · clear hb h
      go_enter Try.func5, Try.ntmps5
      go_wp2_with fail
      refine (awake_any _).mono ?_
      rintro e w2 ⟨rfl, b2⟩
      have H := Lib.hid b2
      clear b2
      go_wp2
      go_ret
      exact ⟨rfl, H.out⟩
    · exact numBack_main n Ab nb cb lb A k c l w hn hb h (by omega) (by omega)
end Go.Proofs.Ytmglnfgngnekeaa

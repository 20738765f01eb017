/- What it says: the Go text of trothlaw03.SealCuts answers true, and writes nothing that was there. -/
import Derived.Test.YtlnhillpghjknaaDoorSealAwake
namespace Go.Proofs.YtlnhillpghjknaaDoor
open Go.RowKit

theorem numF_cut (x : Nat) (hx : x < 18446744073709551616) (k : Nat) (hk : k < (shortL x).length) (most : Int) : numF ((shortL x).take k) most = (0, 0, 10) := by
  unfold numF
  rw [takeF_short_cut x hx k hk, if_pos (by simp)]

theorem textF_cut (l : List Int) (hl : l.length < 18446744073709551616) (most : Int) (hm : (l.length : Int) ≤ most) (k : Nat) (hk : k < (textL l).length) : textF ((textL l).take k) most = ([], 0, 10) := by
  unfold textF
  by_cases h : k < (shortL l.length).length
  · have e : (textL l).take k = (shortL l.length).take k := by
      unfold textL; rw [List.take_append_of_le_length (by omega)]
    rw [e, numF_cut _ hl k h, if_pos (by simp)]
  · have e : (textL l).take k = shortL l.length ++ l.take (k - (shortL l.length).length) := by
      unfold textL; rw [List.take_append, List.take_of_length_le (by omega)]
    have en := numF_short l.length hl (l.take (k - (shortL l.length).length)) most
    rw [if_neg (by omega)] at en
    rw [e, en, if_neg (by simp), if_pos (by simp [textL] at hk; simp; omega)]

theorem open_cut (l : List Int) (hl : l.length ≤ 4096) (k : Nat) (hk : k < (sealL l).length) : openF ((sealL l).take k) = ([], 0, 10) := by
  unfold openF
  by_cases h : k < (textL l).length
  · have e : (sealL l).take k = (textL l).take k := by
      unfold sealL; rw [List.take_append_of_le_length (by omega)]
    rw [e, textF_cut l (by omega) 4096 (by omega) k h, if_pos (by simp)]
  · have e : (sealL l).take k = textL l ++ (sumL (textL l)).take (k - (textL l).length) := by
      unfold sealL; rw [List.take_append, List.take_of_length_le (by omega)]
    rw [e, textF_text l _ (by omega) 4096 (by omega), if_neg (by simp)]
    rw [sealL_len] at hk
    rw [if_pos (by simp [sumL_len]; omega)]

set_option maxHeartbeats 1000000 in
theorem sealCuts_walk (A : Option Addr) (n c : Nat) (l : List Int) (cut : Int) (w : World) (h : Byt w A n c l) (_hk : n ≤ 140737488351232) (hc : -9223372036854775808 ≤ cut ∧ cut ≤ 9223372036854775807) (hT : Tab w) :
    Calls Tryd.prog 7 #[.slice A n c, .int .i64 cut] w (Ret (.bool true) w) := by
  obtain ⟨hc0, hc1⟩ := hc
  have HT := Lib.hid hT
  clear hT
  by_cases hlong : (1000 : Int) < (n : Int)
  · clear h
    go_enter Tryd.func7, Tryd.ntmps7
    go_wp2_with fail
    refine (awake_any _ HT.out).mono ?_
    rintro e w2 ⟨rfl, b2⟩
    have H := Lib.hid b2
    clear b2
    go_wp2
    go_ret
    exact ⟨rfl, H.out⟩
  · by_cases hneg : cut < 0
    · clear h
      go_enter Tryd.func7, Tryd.ntmps7
      go_wp2_with fail
      refine (awake_any _ HT.out).mono ?_
      rintro e w2 ⟨rfl, b2⟩
      have H := Lib.hid b2
      clear b2
      go_wp2
      go_ret
      exact ⟨rfl, H.out⟩
    · have hpos : 0 ≤ cut := by omega
      have hlen := h.len
      have HB := Lib.hid h
      clear h hneg
      go_enter Tryd.func7, Tryd.ntmps7
      go_wp2_with fail
      refine (own_any A n c l w HB.out (by omega)).mono ?_
      rintro e w1 ⟨A1, n1, c1, rfl, hb1, b1⟩
      have C1 := Lib.hid (seal_any A1 n1 c1 l w1 hb1 (HT.out.ret b1))
      have L1 := Lib.hid b1
      clear hb1 b1
      go_wp2_with fail
      refine C1.out.mono ?_
      intro e w2 h2
      unfold SealPost at h2
      rw [if_neg (by omega)] at h2
      obtain ⟨A2, n2, c2, rfl, ho2, hr2, b2⟩ := h2
      have hb2 := Byt.of_own ho2 hr2
      have hk := hb2.len
      have hk4 := sealL_len l
      have hle := textL_len l (by omega)
      have hcap := hb2.cap
      have hmax := hb2.max
      unfold maxLen at hmax
      have hn2 : 0 < n2 := by omega
      have hk0 : ((n2 : Int) == 0) = false := by simp; omega
      have hq0 : 0 ≤ cut % (n2 : Int) := Int.emod_nonneg _ (by omega)
      have hq3 : cut % (n2 : Int) < (n2 : Int) := Int.emod_lt_of_pos _ (by omega)
      obtain ⟨k, hkq⟩ := Int.eq_ofNat_of_zero_le hq0
      have hkn : k < n2 := by omega
      obtain ⟨B, d, hs, hb3⟩ := cut_h hb2 k (by omega) (cut % (n2 : Int)) hkq
      have B2 := Lib.hid (Below.then L1.out b2)
      have C3 := Lib.hid (open_any B k d _ w2 hb3 (by omega) (HT.out.ret B2.out) [] 0 10 (open_cut l (by omega) k (by omega)))
      clear hb2 ho2 hr2 b2 hb3 hk hk4 hle hkn hq3 hkq C1 L1 HB
      go_wp2_with fail
      refine C3.out.mono ?_
      rintro e w3 ⟨A3, n3, c3, rfl, hb3, b3⟩
      have hn3 : n3 = 0 := by have := hb3.len; simpa using this.symm
      subst hn3
      have B3 := Lib.hid (Below.then B2.out b3)
      clear b3 hb3 C3
      go_wp2_with fail
      refine (awake_any _ (HT.out.ret B3.out)).mono ?_
      rintro e w4 ⟨rfl, b4⟩
      have H := Lib.hid (Below.then B3.out b4)
      clear b4
      go_wp2
      go_ret
      exact ⟨rfl, H.out⟩
end Go.Proofs.YtlnhillpghjknaaDoor

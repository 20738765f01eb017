/- What it says: the walk of the law StampBack: whatever comes in, it answers true and turns nothing that was there. -/
import Derived.Test.YtlchikllgmkokabStAwake
import Derived.Test.YtlchikllgmkokabSame
namespace Go.Proofs.Ytlchikllgmkokab
open Go.RowKit

theorem padL_at {p : List Int} (i : Nat) (h : p.length ≤ i) : (padL p).getD i 0 = 0 := by
  unfold padL
  rw [List.getD_eq_getElem?_getD, List.getElem?_append_right h, List.getElem?_replicate]
  split <;> rfl
theorem padL_take {p : List Int} : (padL p).take p.length = p := by
  unfold padL
  rw [List.take_append_of_le_length (Nat.le_refl _), List.take_length]

set_option maxRecDepth 100000 in
set_option maxHeartbeats 4000000 in
theorem stampBack_walk (m : Int) (A : Option Addr) (n c : Nat) (p : List Int) (w : World) (hm : 0 ≤ m ∧ m < 256) (h : Byt w A n c p) (hz : n ≤ 140737488351232) :
    Calls Try.prog 5 #[.int .u8 m, .slice A n c] w (Ret (.bool true) w) := by
  have hcap := h.cap
  have hmax := h.max
  unfold maxLen at hmax
  by_cases k1 : m < 1
  · clear h
    go_enter Try.func5, Try.ntmps5
    go_wp2_with fail
    refine (awake_any _).mono ?_
    rintro e w1 ⟨rfl, b1⟩
    have B1 := Lib.hid b1
    clear b1
    go_wp2_with fail
    go_ret
    exact ⟨rfl, B1.out⟩
  by_cases k3 : 3 < m
  · clear h
    go_enter Try.func5, Try.ntmps5
    go_wp2_with fail
    refine (awake_any _).mono ?_
    rintro e w1 ⟨rfl, b1⟩
    have B1 := Lib.hid b1
    clear b1
    go_wp2_with fail
    go_ret
    exact ⟨rfl, B1.out⟩
  by_cases k2 : 254 < n
  · clear h
    go_enter Try.func5, Try.ntmps5
    go_wp2_with fail
    refine (awake_any _).mono ?_
    rintro e w1 ⟨rfl, b1⟩
    have B1 := Lib.hid b1
    clear b1
    go_wp2_with fail
    go_ret
    exact ⟨rfl, B1.out⟩
  have C1 := Lib.hid (own_any A n c p w h (by omega))
  have HP := Lib.hid h
  have HL := Lib.hid h.len
  have hc1 : ¬ (m < 1 ∨ 3 < m) := by omega
  have HSEC : Hid (Sec (wrapL m p)) := Lib.hid (wrapL_sec hm h.rng (by have := h.len; omega))
  have HRT : Hid (rightL (wrapL m p)) := Lib.hid (right_wrap (by omega) (by have := h.len; omega))
  have HC1 := Lib.hid hc1
  clear h hc1
  go_enter Try.func5, Try.ntmps5
  go_wp2_with fail
  refine C1.out.mono ?_
  rintro e w1 ⟨A1, n1, c1, rfl, hb1, hbel1⟩
  have C2 := Lib.hid (wrap_any m hm A1 n1 c1 p w1 hb1)
  rw [wrapE_ok HC1.out (by rw [HL.out]; omega), wrapB_ok HC1.out (by rw [HL.out]; omega)] at C2
  have B1 := Lib.hid hbel1
  clear hb1 hbel1 C1
  go_wp2_with fail
  refine C2.out.mono ?_
  rintro e w2 ⟨A3, n3, c3, rfl, hb3, hbel3⟩
  have B2 := Lib.hid (B1.out.trans (hbel3.mono B1.out.size))
  have C3 := Lib.hid (open_any A3 n3 c3 _ w2 hb3)
  rw [openE_right HSEC.out.1 HRT.out, openB_right HSEC.out.1 HRT.out, bodyL_wrap (by rw [HL.out]; omega)] at C3
  have hc3 := hb3.cap
  have hm3 := hb3.max
  unfold maxLen at hm3
  clear hb3 hbel3 C2 B1
  go_wp2_with fail
  refine C3.out.mono ?_
  rintro e w3 ⟨A4, n4, c4, rfl, hb4, hbel4⟩
  obtain rfl : n4 = 254 := by rw [← hb4.len]; exact padL_len (by rw [HL.out]; omega)
  have B3 := Lib.hid (B2.out.trans (hbel4.mono B2.out.size))
  have hc4 := hb4.cap
  have hm4 := hb4.max
  unfold maxLen at hm4
  obtain ⟨g, off, rfl, hat⟩ := hb4.at_ (by omega)
  have HAT := Lib.hid hat
  have H4 := Lib.hid hb4
  clear hb4 hbel4 C3 B2 hat
  go_wp2_with fail
  go_loopw [9] (fun q wr => ∃ i : Nat, n ≤ i ∧ i ≤ 254 ∧ q = .int .i64 i ∧ wr = w3) (fun q _ => 254 - (intOf q).toNat)
  case atStart => exact ⟨n, Nat.le_refl _, by omega, rfl, rfl⟩
  case round =>
    obtain ⟨i, hi1, hi2, rfl, rfl⟩ := hrel
    by_cases hlt : i < 254
    · have hx : wr.cell? ⟨g, off + i, none⟩ = some (.int .u8 0) := by rw [HAT.out i hlt, padL_at i (by rw [HL.out]; exact hi1)]
      go_wp2_with fail
      go_roundw
      case rel => exact ⟨i + 1, by omega, by omega, by go_num, trivial⟩
      case measure => simp [intOf]; omega
    · obtain rfl : i = 254 := by omega
      have S1 := Lib.hid (same_yes (some ⟨g, off, none⟩) n c4 A n c _ _ wr (H4.out.take n (by omega)) (HP.out.below B3.out) (by rw [← HL.out]; exact padL_take))
      go_wp2_with fail
      refine S1.out.mono ?_
      rintro e w6 ⟨rfl, kd, rfl⟩
      clear S1
      go_wp2_with fail
      refine (awake_any _).mono ?_
      rintro e w7 ⟨rfl, b7⟩
      have B7 := Lib.hid ((below_drewN B3.out kd).trans (b7.mono (below_drewN B3.out kd).size))
      clear b7
      go_wp2_with fail
      go_ret
      exact ⟨rfl, B7.out⟩
end Go.Proofs.Ytlchikllgmkokab

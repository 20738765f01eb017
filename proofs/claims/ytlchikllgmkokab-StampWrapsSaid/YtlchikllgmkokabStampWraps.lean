/- What it says: the walk of the law StampWraps: whatever comes in, it answers true and turns nothing that was there. -/
import Derived.Test.YtlchikllgmkokabStAwake
import Derived.Test.YtlchikllgmkokabSame
namespace Go.Proofs.Ytlchikllgmkokab
open Go.RowKit

set_option maxRecDepth 100000 in
set_option maxHeartbeats 4000000 in
theorem stampWraps_walk (m : Int) (A : Option Addr) (n c : Nat) (p : List Int) (A2 : Option Addr) (n2 c2 : Nat) (old : List Int) (w : World) (hm : 0 ≤ m ∧ m < 256) (h : Byt w A n c p) (hz : n ≤ 140737488351232) (h2 : Byt w A2 n2 c2 old) (hz2 : n2 ≤ 140737488351232) :
    Calls Try.prog 3 #[.int .u8 m, .slice A n c, .slice A2 n2 c2] w (Ret (.bool true) w) := by
  have hcap := h.cap
  have hmax := h.max
  have hcap2 := h2.cap
  have hmax2 := h2.max
  unfold maxLen at hmax hmax2
  by_cases k1 : 1000 < n
  · clear h h2
    go_enter Try.func3, Try.ntmps3
    go_wp2_with fail
    refine (awake_any _).mono ?_
    rintro e w1 ⟨rfl, b1⟩
    have B1 := Lib.hid b1
    clear b1
    go_wp2_with fail
    go_ret
    exact ⟨rfl, B1.out⟩
  · by_cases k2 : 1000 < n2
    · clear h h2
      go_enter Try.func3, Try.ntmps3
      go_wp2_with fail
      refine (awake_any _).mono ?_
      rintro e w1 ⟨rfl, b1⟩
      have B1 := Lib.hid b1
      clear b1
      go_wp2_with fail
      go_ret
      exact ⟨rfl, B1.out⟩
    · have C1 := Lib.hid (own_any A n c p w h (by omega))
      have HP := Lib.hid h
      have HO := Lib.hid h2
      clear h h2
      obtain ⟨we, hwe⟩ : ∃ we, wrapE m p = we := ⟨_, rfl⟩
      obtain ⟨ne, hne⟩ : ∃ ne, nextE old = ne := ⟨_, rfl⟩
      obtain ⟨nv, hnv⟩ : ∃ nv, nextV old = nv := ⟨_, rfl⟩
      have HWE := Lib.hid hwe
      have HNE := Lib.hid hne
      have HNV := Lib.hid hnv
      clear hwe hne hnv
      go_enter Try.func3, Try.ntmps3
      go_wp2_with fail
      refine C1.out.mono ?_
      rintro e w1 ⟨A1, n1, c1, rfl, hb1, hbel1⟩
      have C2 := Lib.hid (wrap_any m hm A1 n1 c1 p w1 hb1)
      rw [HWE.out] at C2
      have B1 := Lib.hid hbel1
      clear hb1 hbel1 C1
      go_wp2_with fail
      refine C2.out.mono ?_
      rintro e w2 ⟨A3, n3, c3, rfl, hb3, hbel3⟩
      have B2 := Lib.hid (B1.out.trans (hbel3.mono B1.out.size))
      have C3 := Lib.hid (rwrap_any m hm A n c p w2 (HP.out.below B2.out))
      rw [HWE.out] at C3
      have Y3 := Lib.hid hb3
      clear hb3 hbel3 C2 B1
      go_wp2_with fail
      refine C3.out.mono ?_
      rintro e w3 ⟨A4, n4, c4, rfl, hb4, hbel4⟩
      have B3 := Lib.hid (B2.out.trans (hbel4.mono B2.out.size))
      have Y34 := Lib.hid (Y3.out.below hbel4)
      have Y4 := Lib.hid hb4
      have C4 := Lib.hid (own_any A2 n2 c2 old w3 (HO.out.below B3.out) (by omega))
      clear hb4 hbel4 C3 B2
      go_wp2_with fail
      refine C4.out.mono ?_
      rintro e w4 ⟨A5, n5, c5, rfl, hb5, hbel5⟩
      have B4 := Lib.hid (B3.out.trans (hbel5.mono B3.out.size))
      have C5 := Lib.hid (next_any A5 n5 c5 old w4 hb5)
      rw [HNE.out, HNV.out] at C5
      have S1 := Lib.hid (same_yes A3 n3 c3 A4 n4 c4 _ _ w4 (Y34.out.below hbel5) (Y4.out.below hbel5) rfl)
      clear hb5 hbel5 C4 B3
      go_wp2_with fail
      refine C5.out.mono ?_
      rintro e w5 ⟨rfl, rfl⟩
      have C6 := Lib.hid (rnext_any A2 n2 c2 old w4 (HO.out.below B4.out))
      rw [HNE.out, HNV.out] at C6
      clear C5
      go_wp2_with fail
      refine C6.out.mono ?_
      rintro e w5 ⟨rfl, rfl⟩
      clear C6
      go_wp2_with fail
      refine S1.out.mono ?_
      rintro e w6 ⟨rfl, kd, rfl⟩
      clear S1
      go_wp2_with fail
      refine (awake_any _).mono ?_
      rintro e w7 ⟨rfl, b7⟩
      have B7 := Lib.hid ((below_drewN B4.out kd).trans (b7.mono (below_drewN B4.out kd).size))
      clear b7
      go_wp2_with fail
      go_ret
      exact ⟨rfl, B7.out⟩
end Go.Proofs.Ytlchikllgmkokab

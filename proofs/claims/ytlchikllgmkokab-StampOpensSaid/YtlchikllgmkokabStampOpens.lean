/- What it says: the walk of the law StampOpens: whatever comes in, it answers true and turns nothing that was there. -/
import Derived.Test.YtlchikllgmkokabStAwake
import Derived.Test.YtlchikllgmkokabSame
namespace Go.Proofs.Ytlchikllgmkokab
open Go.RowKit

theorem openE_cases (l : List Int) : (openE l = 0 ∧ l.length = 256 ∧ rightL l) ∨ openE l = 12 ∨ openE l = 50 := by
  unfold openE
  split
  · simp
  · split
    · exact .inl ⟨rfl, by omega, by assumption⟩
    · simp

set_option maxRecDepth 100000 in
set_option maxHeartbeats 4000000 in
theorem stampOpens_walk (A : Option Addr) (n c : Nat) (l : List Int) (w : World) (h : Byt w A n c l) (hz : n ≤ 140737488351232) :
    Calls Try.prog 4 #[.slice A n c] w (Ret (.bool true) w) := by
  have hcap := h.cap
  have hmax := h.max
  unfold maxLen at hmax
  by_cases k1 : 1000 < n
  · clear h
    go_enter Try.func4, Try.ntmps4
    go_wp2_with fail
    refine (awake_any _).mono ?_
    rintro e w1 ⟨rfl, b1⟩
    have B1 := Lib.hid b1
    clear b1
    go_wp2_with fail
    go_ret
    exact ⟨rfl, B1.out⟩
  have C1 := Lib.hid (own_any A n c l w h (by omega))
  have HP := Lib.hid h
  have HL := Lib.hid h.len
  have HCS := Lib.hid (openE_cases l)
  clear h
  obtain ⟨oe, hoe⟩ : ∃ oe, openE l = oe := ⟨_, rfl⟩
  have HOE := Lib.hid hoe
  rw [hoe] at HCS
  clear hoe
  go_enter Try.func4, Try.ntmps4
  go_wp2_with fail
  refine C1.out.mono ?_
  rintro e w1 ⟨A1, n1, c1, rfl, hb1, hbel1⟩
  have C2 := Lib.hid (open_any A1 n1 c1 l w1 hb1)
  rw [HOE.out] at C2
  have B1 := Lib.hid hbel1
  clear hb1 hbel1 C1
  go_wp2_with fail
  refine C2.out.mono ?_
  rintro e w2 ⟨A3, n3, c3, rfl, hb3, hbel3⟩
  have B2 := Lib.hid (B1.out.trans (hbel3.mono B1.out.size))
  have C3 := Lib.hid (ropen_any A n c l w2 (HP.out.below B2.out))
  rw [HOE.out] at C3
  have Y3 := Lib.hid hb3
  clear hb3 hbel3 C2 B1
  go_wp2_with fail
  refine C3.out.mono ?_
  rintro e w3 ⟨A4, n4, c4, rfl, hb4, hbel4⟩
  have B3 := Lib.hid (B2.out.trans (hbel4.mono B2.out.size))
  have Y34 := Lib.hid (Y3.out.below hbel4)
  have S1 := Lib.hid (same_yes A3 n3 c3 A4 n4 c4 _ _ w3 Y34.out hb4 rfl)
  clear hb4 hbel4 C3 B2
  by_cases h0 : oe = 0
  · have HR : Hid (l.length = 256 ∧ rightL l) := Lib.hid (by
      rcases HCS.out with q | q | q
      · exact q.2
      · omega
      · omega)
    obtain rfl : n = 256 := by rw [← HL.out]; exact HR.out.1
    have HBB : Hid (openB l = bodyL l) := Lib.hid (openB_right HR.out.1 HR.out.2)
    subst h0
    obtain ⟨g, off, rfl, x0, x1⟩ := HP.out.ends
    have hrg := HP.out.lt_ 0 (by omega)
    have hrr := HR.out.2
    unfold rightL at hrr
    obtain ⟨a, ha⟩ : ∃ a, l.getD 0 0 = a := ⟨_, rfl⟩
    have HA := Lib.hid ha
    rw [ha] at x0 hrg hrr
    have ha1 : 1 ≤ a := hrr.2.1
    have ha3 : a ≤ 3 := hrr.2.2
    have HEQ : Hid (wrapL a (bodyL l) = l) := Lib.hid (by
      have := wrap_body HR.out.1 (by rw [ha]; exact hrr.1)
      rwa [ha] at this)
    clear ha hrr x1
    go_wp2_with fail
    refine S1.out.mono ?_
    rintro e w4 ⟨rfl, kd, rfl⟩
    have B4 : Hid (Below w.heap.size w (w3.drewN kd)) := Lib.hid (below_drewN B3.out kd)
    have y0 : (w3.drewN kd).cell? ⟨g, off, none⟩ = some (.int .u8 a) := (B4.out.cell (World.block_lt_of_cell? w _ x0)).trans x0
    have C5 := Lib.hid (wrap_any a hrg A3 n3 c3 (openB l) (w3.drewN kd) (Y34.out.drewN kd))
    rw [HBB.out, wrapE_ok (by omega) (by rw [bodyL_len HR.out.1]; omega), wrapB_ok (by omega) (by rw [bodyL_len HR.out.1]; omega), HEQ.out] at C5
    clear x0 S1
    go_wp2_with fail
    refine C5.out.mono ?_
    rintro e w5 ⟨A5, n5, c5, rfl, hb5, hbel5⟩
    have B5 := Lib.hid (B4.out.trans (hbel5.mono B4.out.size))
    have S2 := Lib.hid (same_yes A5 n5 c5 (some ⟨g, off, none⟩) 256 c _ _ w5 hb5 (HP.out.below B5.out) rfl)
    clear hb5 hbel5 C5 y0
    go_wp2_with fail
    refine S2.out.mono ?_
    rintro e w6 ⟨rfl, k6, rfl⟩
    have B6 : Hid (Below w.heap.size w (w5.drewN k6)) := Lib.hid (below_drewN B5.out k6)
    clear S2
    go_wp2_with fail
    refine (awake_any _).mono ?_
    rintro e w7 ⟨rfl, b7⟩
    have B7 := Lib.hid (B6.out.trans (b7.mono B6.out.size))
    clear b7
    go_wp2_with fail
    go_ret
    exact ⟨rfl, B7.out⟩
  · have hd : (oe == 0) = false := by simpa using h0
    clear h0
    go_wp2_with fail
    refine S1.out.mono ?_
    rintro e w4 ⟨rfl, kd, rfl⟩
    have B4 : Hid (Below w.heap.size w (w3.drewN kd)) := Lib.hid (below_drewN B3.out kd)
    clear S1
    go_wp2_with fail
    refine (awake_any _).mono ?_
    rintro e w7 ⟨rfl, b7⟩
    have B7 := Lib.hid (B4.out.trans (b7.mono B4.out.size))
    clear b7
    go_wp2_with fail
    go_ret
    exact ⟨rfl, B7.out⟩
end Go.Proofs.Ytlchikllgmkokab

/- What it says: the statements' awake() answers true: the document's example. -/
import Derived.Test.YtlchikllgmkokabStRef
namespace Go.Proofs.Ytlchikllgmkokab
open Go.RowKit

theorem Byt.first {w : World} {A : Option Addr} {n c : Nat} {l : List Int} (h : Byt w A n c l) (hn : 0 < n) : ∃ g off, A = some ⟨g, off, none⟩ ∧ w.cell? ⟨g, off, none⟩ = some (.int .u8 (l.getD 0 0)) := by
  obtain ⟨g, off, e, hc⟩ := h.at_ hn
  exact ⟨g, off, e, hc 0 hn⟩

set_option maxRecDepth 100000 in
set_option maxHeartbeats 2000000 in
theorem awake_any (w : World) : Calls Try.prog 9 #[] w (Ret (.bool true) w) := by
  have C1 := Lib.hid (wrap_any 2 (by omega) _ 1 1 [97] (w.alloc (.cells #[.int .u8 97] 5)) (byt_one w 97 (by omega)))
  rw [wrapE_ok (m := 2) (p := [97]) (by omega) (by simp), wrapB_ok (m := 2) (p := [97]) (by omega) (by simp)] at C1
  go_enter Try.func9, Try.ntmps9
  go_wp2_with fail
  refine C1.out.mono ?_
  rintro e w1 ⟨A1, n1, c1, rfl, hb1, hbel1⟩
  obtain rfl : n1 = 256 := by rw [← hb1.len]; exact (wrapL_sec (m := 2) (p := [97]) (by omega) (by simp) (by simp)).1
  have C2 := Lib.hid (open_any A1 256 c1 _ w1 hb1)
  rw [openE_right (wrapL_sec (m := 2) (p := [97]) (by omega) (by simp) (by simp)).1 (right_wrap (by omega) (by simp)), openB_right (wrapL_sec (m := 2) (p := [97]) (by omega) (by simp) (by simp)).1 (right_wrap (by omega) (by simp)), bodyL_wrap (by simp)] at C2
  have HB1 : Hid (Below w.heap.size w w1) := Lib.hid (((Below.refl w.heap.size w).alloc (Nat.le_refl _) _).trans (hbel1.mono (by simp)))
  have H1 := Lib.hid hb1
  clear hb1 hbel1 C1
  go_wp2_with fail
  refine C2.out.mono ?_
  rintro e w2 ⟨A2, n2, c2, rfl, hb2, hbel2⟩
  obtain rfl : n2 = 254 := by rw [← hb2.len]; rfl
  obtain ⟨g1, o1, rfl, x0, x1⟩ := (H1.out.below hbel2).ends
  obtain ⟨g2, o2, rfl, y0⟩ := hb2.first (by omega)
  rw [wrapL_first] at x0
  rw [wrapL_last (by simp)] at x1
  have y0' : w2.cell? ⟨g2, o2, none⟩ = some (.int .u8 97) := y0
  have hc1 := H1.out.cap
  have hm1 := H1.out.max
  have hc2 := hb2.cap
  have hm2 := hb2.max
  unfold maxLen at hm1 hm2
  have HB2 := Lib.hid (HB1.out.trans (hbel2.mono HB1.out.size))
  clear hb2 hbel2 C2 y0 H1
  go_wp2_with fail
  go_ret
  exact ⟨rfl, HB2.out⟩
end Go.Proofs.Ytlchikllgmkokab

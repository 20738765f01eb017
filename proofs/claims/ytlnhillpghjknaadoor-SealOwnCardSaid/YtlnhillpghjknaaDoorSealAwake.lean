/- What it says: of a sealed body the body is opened, whatever stands behind it; the statements' awake() answers true. -/
import Derived.Test.YtlnhillpghjknaaDoorOpenSeal
import Derived.Test.YtlnhillpghjknaaDoorSeal
import Derived.Test.YtlnhillpghjknaaDoorSame
namespace Go.Proofs.YtlnhillpghjknaaDoor
open Go.RowKit

theorem numF_short (x : Nat) (hx : x < 18446744073709551616) (r : List Int) (most : Int) : numF (shortL x ++ r) most = if most < 0 ∨ most < (x : Int) then (0, 0, 12) else (x, (shortL x).length, 0) := by
  unfold numF
  rw [takeF_short x hx r, if_neg (by simp)]

theorem textF_text (l r : List Int) (hl : l.length < 18446744073709551616) (most : Int) (hm : (l.length : Int) ≤ most) : textF (textL l ++ r) most = (l, (textL l).length, 0) := by
  have e := numF_short l.length hl (l ++ r) most
  rw [if_neg (by omega)] at e
  unfold textF textL
  rw [List.append_assoc, e, if_neg (by simp), if_neg (by simp)]
  simp

theorem open_seal (l r : List Int) (hl : l.length ≤ 4096) : openF (sealL l ++ r) = (l, (sealL l).length, 0) := by
  have e : sealL l ++ r = textL l ++ (sumL (textL l) ++ r) := by simp [sealL]
  unfold openF
  rw [e, textF_text l _ (by omega) 4096 (by omega), if_neg (by simp)]
  simp only [List.drop_left, List.take_left]
  have h4 : (sumL (textL l)).length = 4 := sumL_len _
  rw [if_neg (by simp; omega), if_pos (by rw [List.take_append_of_le_length (by omega), List.take_of_length_le (by omega)])]
  simp [sealL, h4]

theorem open_seal0 (l : List Int) (hl : l.length ≤ 4096) : openF (sealL l) = (l, (sealL l).length, 0) := by
  have := open_seal l [] hl
  rwa [List.append_nil] at this

theorem sealL_len (l : List Int) : (sealL l).length = (textL l).length + 4 := by simp [sealL, sumL_len]

theorem sealL_a : (sealL [97]).length = 6 := by
  rw [sealL_len]
  have : shortL 1 = [1] := by unfold shortL; rw [hiD]; simp
  simp [textL, this]

set_option maxHeartbeats 1000000 in
theorem awake_any (w : World) (hT : Tab w) : Calls Tryd.prog 12 #[] w (Ret (.bool true) w) := by
  have hb := one_byt w 97 (by omega)
  have b0 : Below w.heap.size w (w.alloc (.cells #[.int .u8 97] 5)) := (Below.refl _ _).alloc (Nat.le_refl _) _
  have C1 := seal_any _ 1 1 [97] _ hb (hT.ret b0)
  have C1 := Lib.hid C1
  have B0 := Lib.hid b0
  have HT := Lib.hid hT
  clear hb b0 hT
  go_enter Tryd.func12, Tryd.ntmps12
  go_wp2_with fail
  refine C1.out.mono ?_
  intro e w1 h1
  unfold SealPost at h1
  rw [if_neg (by simp)] at h1
  obtain ⟨A1, n1, c1, rfl, ho1, hr1, b1⟩ := h1
  have hb1 := Byt.of_own ho1 hr1
  have hn1 : n1 = 6 := by have := hb1.len; rw [sealL_a] at this; omega
  subst hn1
  have B1 := Lib.hid (Below.then B0.out b1)
  have C2 := open_any A1 6 c1 (sealL [97]) w1 hb1 (by omega) (HT.out.ret B1.out) [97] 6 0 (by rw [open_seal0 [97] (by simp), sealL_a])
  have C2 := Lib.hid C2
  clear ho1 hr1 b1 hb1 C1
  go_wp2_with fail
  refine C2.out.mono ?_
  rintro e w2 ⟨A2, n2, c2, rfl, hb2, b2⟩
  have hc : Byt (w2.alloc (.cells #[.int .u8 97] 5)) A2 n2 c2 [97] := hb2.alloc _
  have CS := Lib.hid (same_yes A2 n2 c2 _ 1 1 [97] [97] _ hc (one_byt w2 97 (by omega)) rfl)
  have B2 := Lib.hid (Below.then (Below.then B1.out b2) ((Below.refl _ _).alloc (Nat.le_refl _) (.cells #[.int .u8 97] 5)))
  clear hb2 b2 hc C2 B1
  go_wp2_with fail
  refine (Quiet.ret CS.out).mono ?_
  rintro e w3 ⟨rfl, b3⟩
  have B3 := Lib.hid (Below.then B2.out b3)
  clear b3 CS
  go_wp2_with fail
  go_ret
  exact ⟨rfl, B3.out⟩
end Go.Proofs.YtlnhillpghjknaaDoor

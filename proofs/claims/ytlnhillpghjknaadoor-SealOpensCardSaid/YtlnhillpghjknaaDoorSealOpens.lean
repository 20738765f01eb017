/- What it says: the Go text of trothlaw03.SealOpens answers true, and writes nothing that was there. -/
import Derived.Test.YtlnhillpghjknaaDoorRefText
import Derived.Test.YtlnhillpghjknaaDoorSealAwake
namespace Go.Proofs.YtlnhillpghjknaaDoor
open Go.RowKit

theorem openF_ok {l : List Int} (hr : ∀ x ∈ l, 0 ≤ x ∧ x < 256) {b : List Int} {u : Nat} (h : openF l = (b, u, 0)) : u ≤ l.length ∧ l.take u = sealL b ∧ b.length ≤ 4096 := by
  unfold openF at h
  split at h
  · rename_i h0
    exact absurd (triple h).2.2 h0
  · rename_i h0
    split at h
    · have := (triple h).2.2; omega
    · rename_i h1
      split at h
      · rename_i h2
        obtain ⟨e1, e2, _⟩ := triple h
        obtain ⟨hu, ht, hb⟩ := textF_ok hr (l := l) (most := 4096) (by omega)
        rw [e1] at ht hb
        refine ⟨by omega, ?_, by omega⟩
        rw [← e2, List.take_add, h2, ht]
        rfl
      · have := (triple h).2.2; omega

theorem sealPost_is (l : List Int) : ∃ xs xe, (∀ w, SealPost l w = RetOwn2 xs xe w) ∧ ((xe = 0 ∧ xs = sealL l ∧ l.length ≤ 4096) ∨ xe = 12) := by
  by_cases h : 4096 < l.length
  · exact ⟨[], 12, fun w => by unfold SealPost; rw [if_pos h], .inr rfl⟩
  · exact ⟨sealL l, 0, fun w => by unfold SealPost; rw [if_neg h], .inl ⟨rfl, rfl, by omega⟩⟩

set_option maxHeartbeats 4000000 in
theorem sealOpens_main (A : Option Addr) (n c : Nat) (l : List Int) (A' : Option Addr) (n' c' : Nat) (l' : List Int) (w : World) (h : Byt w A n c l) (h' : Byt w A' n' c' l') (hn : n ≤ 5000) (hn' : n' ≤ 5000) (hT : Tab w) :
    Calls Tryd.prog 6 #[.slice A n c, .slice A' n' c'] w (Ret (.bool true) w) := by
  obtain ⟨i0, hi, hz0, hz1, hz2⟩ := info_parts info_u8
  have hlen := h.len
  have hlen' := h'.len
  have HB := Lib.hid h
  have HB' := Lib.hid h'
  have HT := Lib.hid hT
  obtain ⟨xs, xe, hS, hxe⟩ := sealPost_is l
  obtain ⟨ob, ou, oe, hO⟩ : ∃ b u e, openF l' = (b, u, e) := ⟨_, _, _, rfl⟩
  have HS := Lib.hid hS
  have HXE := Lib.hid hxe
  have HO := Lib.hid hO
  have hw0 : 0 < w.heap.size := by have := World.block_lt_of_cell? w _ (hT 0 (by omega)); omega
  have HW := Lib.hid hw0
  have z1 : ¬ (5000 : Int) < (n : Int) := by omega
  have z2 : ¬ (5000 : Int) < (n' : Int) := by omega
  clear h h' hT hS hxe hO hw0
  go_enter Tryd.func6, Tryd.ntmps6
  go_wp2_with fail
  refine (own_any A n c l w HB.out (by omega)).mono ?_
  rintro e w1 ⟨A1, n1, c1, rfl, hb1, b1⟩
  have C1 := Lib.hid (seal_any A1 n1 c1 l w1 hb1 (HT.out.ret b1))
  have L1 := Lib.hid b1
  clear hb1 b1
  go_wp2_with fail
  refine C1.out.mono ?_
  intro e w2 h2
  rw [HS.out] at h2
  obtain ⟨A2, n2, c2, rfl, ho2, hr2, b2⟩ := h2
  have HX2 := Lib.hid (Byt.of_own ho2 hr2)
  have L2 := Lib.hid (Below.then L1.out b2)
  clear ho2 hr2 b2 C1 L1
  go_wp2_with fail
  refine (refSeal_any A n c l w2 (HB.out.below L2.out)).mono ?_
  intro e w3 h3
  rw [HS.out] at h3
  obtain ⟨A3, n3, c3, rfl, ho3, hr3, b3⟩ := h3
  have HX3 := Lib.hid (HX2.out.below b3)
  have HY3 := Lib.hid (Byt.of_own ho3 hr3)
  have L3 := Lib.hid (Below.then L2.out b3)
  clear ho3 hr3 b3 HX2 L2
  go_wp2_with fail
  refine (own_any A' n' c' l' w3 (HB'.out.below L3.out) (by omega)).mono ?_
  rintro e w4 ⟨A4, n4, c4, rfl, hb4, b4⟩
  have hn4 : n4 ≤ 5000 := by have := hb4.len; omega
  have L4 := Lib.hid (Below.then L3.out b4)
  have HX4 := Lib.hid (HX3.out.below b4)
  have HY4 := Lib.hid (HY3.out.below b4)
  have C4 := Lib.hid (open_any A4 n4 c4 l' w4 hb4 (by omega) (HT.out.ret L4.out) ob ou oe HO.out)
  clear hb4 b4 L3 HX3 HY3
  go_wp2_with fail
  refine C4.out.mono ?_
  rintro e w5 ⟨A5, n5, c5, rfl, hb5, b5⟩
  have HC5 := Lib.hid hb5
  have L5 := Lib.hid (Below.then L4.out b5)
  have HX5 := Lib.hid (HX4.out.below b5)
  have HY5 := Lib.hid (HY4.out.below b5)
  clear hb5 b5 L4 HX4 HY4 C4
  go_wp2_with fail
  refine (refOpen_any A' n' c' l' w5 (HB'.out.below L5.out) (Nat.lt_of_lt_of_le HW.out L5.out.size) (by omega) ob ou oe HO.out).mono ?_
  rintro e w6 ⟨A6, n6, c6, rfl, hb6, b6⟩
  have HD6 := Lib.hid hb6
  have HC6 := Lib.hid (HC5.out.below b6)
  have L6 := Lib.hid (Below.then L5.out b6)
  have HX6 := Lib.hid (HX5.out.below b6)
  have HY6 := Lib.hid (HY5.out.below b6)
  clear hb6 b6 L5 HX5 HY5 HC5
  go_wp2_with fail
  refine (Quiet.ret (same_yes _ _ _ _ _ _ _ _ _ HX6.out HY6.out rfl)).mono ?_
  rintro e w7 ⟨rfl, b7⟩
  have HD7 := Lib.hid (HD6.out.below b7)
  have HC7 := Lib.hid (HC6.out.below b7)
  have L7 := Lib.hid (Below.then L6.out b7)
  have HX7 := Lib.hid (HX6.out.below b7)
  clear b7 L6 HX6 HY6 HC6 HD6
  go_wp2_with fail
  refine (Quiet.ret (same_yes _ _ _ _ _ _ _ _ _ HC7.out HD7.out rfl)).mono ?_
  rintro e w8 ⟨rfl, b8⟩
  have HC8 := Lib.hid (HC7.out.below b8)
  have L8 := Lib.hid (Below.then L7.out b8)
  have HX8 := Lib.hid (HX7.out.below b8)
  clear b8 L7 HX7 HC7 HD7
  rcases HXE.out with ⟨rfl, hxs, hl4⟩ | rfl
  · have hx2 : n2 = (sealL l).length := by have := HX8.out.len; rw [hxs] at this; exact this.symm
    have hle := textL_len l (by omega)
    have hsl := sealL_len l
    have hn2 : n2 ≤ 5000 := by omega
    have HX2 := Lib.hid hx2
    rw [hxs] at HX8
    clear hx2 hle hsl
    go_wp2_with fail
    refine (own_own A2 n2 c2 (sealL l) w8 HX8.out (by omega)).mono ?_
    rintro e w9 ⟨A9, n9, c9, rfl, ho9, hr9, b9⟩
    obtain rfl : n9 = n2 := by have := ho9.1; simp at this; rw [← this, HX2.out]
    have L9 := Lib.hid (Below.then L8.out b9)
    have HR9 := Lib.hid hr9
    have HBB := HB'.out.below L9.out
    have hbs := b9.size
    have O9 := Lib.hid ho9
    have B9 := Lib.hid b9
    clear ho9 hr9 b9
    go_wp2_with (at_builtin; refine wpList_append_byt rfl _ _ 25 rfl w8.heap.size 5 i0 Tryd.underlying25 hi hz0 hz1 hz2 _ n9 (sealL l) rfl (by exact O9.out) A' n' c' l' rfl (by exact HBB) (by omega) hbs ?_)
    intro A10 c10 w10 h10 g10
    have hb10 := app_byt h10 HR9.out HB'.out.rng
    have b10 := app_below B9.out O9.out g10
    have L10 := Lib.hid (Below.then L8.out b10)
    have HC10 := Lib.hid (HC8.out.below b10)
    have C10 := Lib.hid (open_any A10 (n9 + n') c10 (sealL l ++ l') w10 hb10 (by omega) (HT.out.ret L10.out) l n9 0 (by rw [open_seal l l' (by omega), HX2.out]))
    clear hb10 h10 g10 b10 HBB hbs HC8 L9 L8 O9 B9
    go_wp2_with fail
    refine C10.out.mono ?_
    rintro e w11 ⟨A11, n11, c11, rfl, hb11, b11⟩
    have L11 := Lib.hid (Below.then L10.out b11)
    have HC11 := Lib.hid (HC10.out.below b11)
    have HZ := Lib.hid hb11
    clear hb11 b11 L10 HC10 C10
    go_wp2_with fail
    refine (Quiet.ret (same_yes _ _ _ _ _ _ _ _ _ HZ.out (HB.out.below L11.out) rfl)).mono ?_
    rintro e w12 ⟨rfl, b12⟩
    have L12 := Lib.hid (Below.then L11.out b12)
    have HC12 := Lib.hid (HC11.out.below b12)
    clear b12 L11 HC11 HZ
    by_cases hoe : oe = 0
    · subst hoe
      obtain ⟨hou, hot, hob⟩ := openF_ok HB'.out.rng HO.out
      have hon : ou ≤ n' := by omega
      obtain ⟨B, d, hs, hbs⟩ := cut_h HB'.out ou hon (ou : Int) rfl
      rw [hot] at hbs
      have HBS := Lib.hid hbs
      have C13 := seal_any _ _ _ _ w12 HC12.out (HT.out.ret L12.out)
      unfold SealPost at C13
      rw [if_neg (by omega)] at C13
      have C13 := Lib.hid C13
      clear hbs hot hob hou
      go_wp2_with fail
      refine C13.out.mono ?_
      rintro e w13 ⟨A13, n13, c13, rfl, ho13, hr13, b13⟩
      have HZ := Lib.hid (Byt.of_own ho13 hr13)
      have L13 := Lib.hid (Below.then L12.out b13)
      clear ho13 hr13 b13 C13
      go_wp2_with fail
      refine (Quiet.ret (same_yes _ _ _ _ _ _ _ _ _ HZ.out (HBS.out.below L13.out) rfl)).mono ?_
      rintro e w14 ⟨rfl, b14⟩
      have L14 := Lib.hid (Below.then L13.out b14)
      clear b14 L13 HZ
      go_wp2_with fail
      refine (awake_any _ (HT.out.ret L14.out)).mono ?_
      rintro e w15 ⟨rfl, b15⟩
      have L15 := Lib.hid (Below.then L14.out b15)
      clear b15
      go_wp2
      go_ret
      exact ⟨rfl, L15.out⟩
    · have hne : ((oe : Int) == 0) = false := by simp; omega
      clear hoe
      go_wp2_with fail
      refine (awake_any _ (HT.out.ret L12.out)).mono ?_
      rintro e w15 ⟨rfl, b15⟩
      have L15 := Lib.hid (Below.then L12.out b15)
      clear b15
      go_wp2
      go_ret
      exact ⟨rfl, L15.out⟩
  · by_cases hoe : oe = 0
    · subst hoe
      obtain ⟨hou, hot, hob⟩ := openF_ok HB'.out.rng HO.out
      have hon : ou ≤ n' := by omega
      obtain ⟨B, d, hs, hbs⟩ := cut_h HB'.out ou hon (ou : Int) rfl
      rw [hot] at hbs
      have HBS := Lib.hid hbs
      have C13 := seal_any _ _ _ _ w8 HC8.out (HT.out.ret L8.out)
      unfold SealPost at C13
      rw [if_neg (by omega)] at C13
      have C13 := Lib.hid C13
      clear hbs hot hob hou
      go_wp2_with fail
      refine C13.out.mono ?_
      rintro e w13 ⟨A13, n13, c13, rfl, ho13, hr13, b13⟩
      have HZ := Lib.hid (Byt.of_own ho13 hr13)
      have L13 := Lib.hid (Below.then L8.out b13)
      clear ho13 hr13 b13 C13
      go_wp2_with fail
      refine (Quiet.ret (same_yes _ _ _ _ _ _ _ _ _ HZ.out (HBS.out.below L13.out) rfl)).mono ?_
      rintro e w14 ⟨rfl, b14⟩
      have L14 := Lib.hid (Below.then L13.out b14)
      clear b14 L13 HZ
      go_wp2_with fail
      refine (awake_any _ (HT.out.ret L14.out)).mono ?_
      rintro e w15 ⟨rfl, b15⟩
      have L15 := Lib.hid (Below.then L14.out b15)
      clear b15
      go_wp2
      go_ret
      exact ⟨rfl, L15.out⟩
    · have hne : ((oe : Int) == 0) = false := by simp; omega
      clear hoe
      go_wp2_with fail
      refine (awake_any _ (HT.out.ret L8.out)).mono ?_
      rintro e w15 ⟨rfl, b15⟩
      have L15 := Lib.hid (Below.then L8.out b15)
      clear b15
      go_wp2
      go_ret
      exact ⟨rfl, L15.out⟩

set_option maxHeartbeats 2000000 in
theorem sealOpens_walk (A : Option Addr) (n c : Nat) (l : List Int) (A' : Option Addr) (n' c' : Nat) (l' : List Int) (w : World) (h : Byt w A n c l) (_hk : n ≤ 140737488351232) (h' : Byt w A' n' c' l') (_hk' : n' ≤ 140737488351232) (hT : Tab w) :
    Calls Tryd.prog 6 #[.slice A n c, .slice A' n' c'] w (Ret (.bool true) w) := by
  by_cases hmain : n ≤ 5000 ∧ n' ≤ 5000
  · exact sealOpens_main A n c l A' n' c' l' w h h' hmain.1 hmain.2 hT
  · have HT := Lib.hid hT
    have hs : ((5000 : Int) < (n : Int)) ∨ (¬ (5000 : Int) < (n : Int) ∧ (5000 : Int) < (n' : Int)) := by omega
    clear h h' hT hmain
    rcases hs with q1 | ⟨q1, q2⟩
    all_goals
      go_enter Tryd.func6, Tryd.ntmps6
      go_wp2_with fail
      refine (awake_any _ HT.out).mono ?_
      rintro e w2 ⟨rfl, b2⟩
      have H := Lib.hid b2
      clear b2
      go_wp2
      go_ret
      exact ⟨rfl, H.out⟩
end Go.Proofs.YtlnhillpghjknaaDoor

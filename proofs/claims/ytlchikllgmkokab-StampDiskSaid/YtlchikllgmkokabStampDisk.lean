/- What it says: the walk of the law StampDisk: whatever comes in, it answers true and turns nothing that was there. -/
import Derived.Test.YtlchikllgmkokabStAwake
import Derived.Test.YtlchikllgmkokabStPut
import Derived.Test.YtlchikllgmkokabStampBack
import Derived.Test.YtlchikllgmkokabDNow
import Derived.Test.YtlchikllgmkokabSame
namespace Go.Proofs.Ytlchikllgmkokab
open Go.RowKit

theorem sd_bad {n : Int} (h : n < 0 ∨ 1 < n) : (St.new 2).rErr n = 1 := by
  unfold St.rErr
  rw [if_pos]
  show n < 0 ∨ (2 : Int) ≤ n
  omega
theorem sd_ok {n : Nat} (h : n < 2) : (St.new 2).rErr n = 0 := by
  unfold St.rErr
  rw [if_neg (by show ¬ ((n : Int) < 0 ∨ (2 : Int) ≤ n); omega), if_neg (by simp [St.new])]
theorem sd_zeros {n : Nat} (h : n < 2) : (St.new 2).rBytes n = zeros := by
  unfold St.rBytes
  rw [if_pos (sd_ok h)]
  rfl
theorem zeros_torn : ¬ rightL zeros := by
  intro ⟨_, q, _⟩
  have : zeros.getD 0 0 = 0 := rfl
  omega
theorem zeros_next : nextOf zeros = 1 := rfl
theorem sd_torn {n : Nat} (h : n < 2) : getE (St.new 2) n = 50 := by
  unfold getE
  rw [if_neg (by rw [sd_ok h]; simp), sd_zeros h]
  exact openE_torn zeros_sec.1 zeros_torn
theorem sd_long {s : St} {n : Int} {p : List Int} (h : 254 < p.length) : putE s n p = 12 ∧ putS s n p = s := ⟨by unfold putE; rw [if_pos h], by unfold putS; rw [if_pos h]⟩
theorem sd_put1 {n : Int} {p : List Int} (h : n < 0 ∨ 1 < n) (hp : ¬ 254 < p.length) : putE (St.new 2) n p = 1 ∧ putS (St.new 2) n p = St.new 2 :=
  ⟨by unfold putE; rw [if_neg hp, if_pos (by rw [sd_bad h]; simp), sd_bad h], by unfold putS; rw [if_neg hp, if_pos (by rw [sd_bad h]; simp)]⟩
theorem sd_get1 {n : Int} (h : n < 0 ∨ 1 < n) : getE (St.new 2) n = 1 ∧ getB (St.new 2) n = [] :=
  ⟨by unfold getE; rw [if_pos (by rw [sd_bad h]; simp), sd_bad h], by unfold getB; rw [if_pos (by rw [sd_bad h]; simp)]⟩

/-- Behind the first Put. -/
def sd1 (n : Nat) (p : List Int) : St := (St.new 2).wrote n (wrapL 1 p)
theorem sd_put2 {n : Nat} {p : List Int} (h : n < 2) (hp : ¬ 254 < p.length) (hr : ∀ x ∈ p, 0 ≤ x ∧ x < 256) : putE (St.new 2) n p = 0 ∧ putS (St.new 2) n p = sd1 n p := by
  have hs := wrapL_sec (m := 1) (p := p) (by omega) hr (by omega)
  have e : ¬ ((n : Int) < 0 ∨ ((St.new 2).num : Int) ≤ n) := by show ¬ ((n : Int) < 0 ∨ (2 : Int) ≤ n); omega
  refine ⟨?_, ?_⟩
  · unfold putE
    rw [if_neg hp, if_neg (by rw [sd_ok h]; simp), sd_zeros h, zeros_next]
    unfold St.wErr
    rw [if_neg e, if_neg (by rw [hs.1]; simp), if_pos (by rfl)]
  · unfold putS
    rw [if_neg hp, if_neg (by rw [sd_ok h]; simp), sd_zeros h, zeros_next]
    unfold St.write
    rw [if_neg e, if_neg (by rw [hs.1]; simp), if_pos (by rfl)]
    rfl
theorem sd1_ok {n : Nat} {p : List Int} (h : n < 2) : (sd1 n p).rErr n = 0 := by
  unfold St.rErr
  rw [if_neg (by show ¬ ((n : Int) < 0 ∨ (2 : Int) ≤ n); omega), if_neg (by simp [sd1, St.wrote, St.step, St.new])]
theorem sd1_get {n : Nat} {p : List Int} (h : n < 2) (hp : ¬ 254 < p.length) (hr : ∀ x ∈ p, 0 ≤ x ∧ x < 256) : getE (sd1 n p) n = 0 ∧ getB (sd1 n p) n = padL p := by
  have hs := wrapL_sec (m := 1) (p := p) (by omega) hr (by omega)
  have hrt : rightL (wrapL 1 p) := right_wrap (by omega) (by omega)
  have e : (sd1 n p).rBytes n = wrapL 1 p := by
    unfold St.rBytes
    rw [if_pos (sd1_ok h), Int.toNat_natCast]
    unfold sd1
    rw [wrote_now, upd_at]
  refine ⟨?_, ?_⟩
  · unfold getE
    rw [if_neg (by rw [sd1_ok h]; simp), e]
    exact openE_right hs.1 hrt
  · unfold getB
    rw [if_neg (by rw [sd1_ok h]; simp), e, openB_right hs.1 hrt]
    exact bodyL_wrap (by omega)
/-- With a fuse of none. -/
def sd2 (n : Nat) (p : List Int) : St := (sd1 n p).fuse 0
theorem sd2_put {n : Nat} {p : List Int} (h : n < 2) (hp : ¬ 254 < p.length) (hr : ∀ x ∈ p, 0 ≤ x ∧ x < 256) : putE (sd2 n p) n [] = 40 ∧ putS (sd2 n p) n [] = (sd2 n p).step := by
  have e0 : (sd2 n p).rErr n = 0 := sd1_ok (p := p) h
  have hl : (wrapL (nextOf ((sd2 n p).rBytes n)) []).length = 256 := by
    unfold wrapL
    rw [List.length_cons, List.length_append, padL_len (by simp)]
    rfl
  have e : ¬ ((n : Int) < 0 ∨ ((sd2 n p).num : Int) ≤ n) := by show ¬ ((n : Int) < 0 ∨ (2 : Int) ≤ n); omega
  have hc : (sd2 n p).can = false := by
    have h0 : (sd2 n p).left = 0 := by show max (0 : Int) (-1) = 0; omega
    unfold St.can
    rw [h0]
    simp
  refine ⟨?_, ?_⟩
  · unfold putE
    rw [if_neg (by simp), if_neg (by rw [e0]; simp)]
    unfold St.wErr
    rw [if_neg e, if_neg (by rw [hl]; simp), if_neg (by rw [hc]; simp)]
  · unfold putS
    rw [if_neg (by simp), if_neg (by rw [e0]; simp)]
    unfold St.write
    rw [if_neg e, if_neg (by rw [hl]; simp), if_neg (by rw [hc]; simp)]
theorem sd3_put {n : Nat} {p : List Int} (h : n < 2) : putE (sd2 n p).step n [] = 40 := by
  have hg : (sd2 n p).step.gone = true := by
    have h0 : (sd2 n p).left = 0 := by show max (0 : Int) (-1) = 0; omega
    have h1 : (sd2 n p).gone = false := rfl
    unfold St.step
    rw [if_neg (by rw [h1]; simp), if_pos h0]
  have e0 : (sd2 n p).step.rErr n = 40 := by
    unfold St.rErr
    rw [if_neg (by rw [St.step_num]; show ¬ ((n : Int) < 0 ∨ (2 : Int) ≤ n); omega), if_pos hg]
  unfold putE
  rw [if_neg (by simp), if_pos (by rw [e0]; simp), e0]

set_option maxRecDepth 100000 in
set_option maxHeartbeats 4000000 in
theorem stampDisk_walk (n : Int) (A : Option Addr) (m c : Nat) (p : List Int) (w : World) (hn : -9223372036854775808 ≤ n ∧ n ≤ 9223372036854775807) (h : Byt w A m c p) (hz : m ≤ 140737488351232) :
    Calls Try.prog 8 #[.int .i64 n, .slice A m c] w (Ret (.bool true) w) := by
  have hcap := h.cap
  have hmax := h.max
  unfold maxLen at hmax
  by_cases k1 : 1000 < m
  · clear h
    go_enter Try.func8, Try.ntmps8
    go_wp2_with fail
    refine (awake_any _).mono ?_
    rintro e w1 ⟨rfl, b1⟩
    have B1 := Lib.hid b1
    clear b1
    go_wp2_with fail
    go_ret
    exact ⟨rfl, B1.out⟩
  have CN := Lib.hid (hasD_new (Has.emp w.heap.size w) (Nat.le_refl w.heap.size) 2 (by omega))
  have HP := Lib.hid h
  have HL := Lib.hid h.len
  clear h
  go_enter Try.func8, Try.ntmps8
  go_wp2_with fail
  refine CN.out.mono ?_
  rintro e w1 ⟨b, rfl, h1, b1⟩
  have C1 := Lib.hid (own_any A m c p w1 (HP.out.below b1) (by omega))
  have H1 := Lib.hid h1
  have B1 := Lib.hid b1
  clear h1 b1 CN
  go_wp2_with fail
  refine C1.out.mono ?_
  rintro e w2 ⟨A2, n2, c2, rfl, hb2, hbel2⟩
  have B2 := Lib.hid (B1.out.trans (hbel2.mono B1.out.size))
  have C2 := Lib.hid (put_any (H1.out.below hbel2) B2.out.size A2 n2 c2 p hb2 n hn (by show (0 : Nat) < _; omega))
  clear hb2 hbel2 C1 H1 B1
  by_cases hbad : n < 0 ∨ 1 < n
  · have G1 : Hid (getE (St.new 2) n = 1 ∧ getB (St.new 2) n = []) := Lib.hid (sd_get1 hbad)
    have E1 : Hid (((putE (St.new 2) n p = 1 ∧ ¬ 254 < m) ∨ (putE (St.new 2) n p = 12 ∧ 254 < m)) ∧ putS (St.new 2) n p = St.new 2) := Lib.hid (by
      by_cases hl : 254 < p.length
      · exact ⟨.inr ⟨(sd_long hl).1, by have := HL.out; omega⟩, (sd_long hl).2⟩
      · exact ⟨.inl ⟨(sd_put1 hbad hl).1, by have := HL.out; omega⟩, (sd_put1 hbad hl).2⟩)
    rw [E1.out.2] at C2
    obtain ⟨pe, hpe⟩ : ∃ pe, putE (St.new 2) n p = pe := ⟨_, rfl⟩
    rw [hpe] at C2 E1
    clear hpe
    rcases E1.out.1 with ⟨rfl, hm⟩ | ⟨rfl, hm⟩
    · rcases hbad with hb | hb
      · go_wp2_with fail
        refine C2.out.mono ?_
        rintro e w3 ⟨rfl, h3, hbel3⟩
        have C3 := Lib.hid (get_any h3 n hn)
        rw [G1.out.1, G1.out.2] at C3
        have B3 := Lib.hid (B2.out.trans hbel3)
        clear h3 hbel3 C2
        go_wp2_with fail
        refine C3.out.mono ?_
        rintro e w4 ⟨A4, n4, c4, rfl, hb4, hbel4⟩
        obtain rfl : n4 = 0 := by rw [← hb4.len]; rfl
        have B4 := Lib.hid (B3.out.trans (hbel4.mono B3.out.size))
        clear hb4 hbel4 C3
        go_wp2_with fail
        refine (put_nil _ _).mono ?_
        rintro e w5 ⟨rfl, rfl⟩
        go_wp2_with fail
        refine (awake_any _).mono ?_
        rintro e w6 ⟨rfl, b6⟩
        have B6 := Lib.hid (B4.out.trans (b6.mono B4.out.size))
        clear b6
        go_wp2_with fail
        go_ret
        exact ⟨rfl, B6.out⟩
      · have hge : ¬ n < 0 := by omega
        go_wp2_with fail
        refine C2.out.mono ?_
        rintro e w3 ⟨rfl, h3, hbel3⟩
        have C3 := Lib.hid (get_any h3 n hn)
        rw [G1.out.1, G1.out.2] at C3
        have B3 := Lib.hid (B2.out.trans hbel3)
        clear h3 hbel3 C2
        go_wp2_with fail
        refine C3.out.mono ?_
        rintro e w4 ⟨A4, n4, c4, rfl, hb4, hbel4⟩
        obtain rfl : n4 = 0 := by rw [← hb4.len]; rfl
        have B4 := Lib.hid (B3.out.trans (hbel4.mono B3.out.size))
        clear hb4 hbel4 C3
        go_wp2_with fail
        refine (put_nil _ _).mono ?_
        rintro e w5 ⟨rfl, rfl⟩
        go_wp2_with fail
        refine (awake_any _).mono ?_
        rintro e w6 ⟨rfl, b6⟩
        have B6 := Lib.hid (B4.out.trans (b6.mono B4.out.size))
        clear b6
        go_wp2_with fail
        go_ret
        exact ⟨rfl, B6.out⟩
    · rcases hbad with hb | hb
      · go_wp2_with fail
        refine C2.out.mono ?_
        rintro e w3 ⟨rfl, h3, hbel3⟩
        have C3 := Lib.hid (get_any h3 n hn)
        rw [G1.out.1, G1.out.2] at C3
        have B3 := Lib.hid (B2.out.trans hbel3)
        clear h3 hbel3 C2
        go_wp2_with fail
        refine C3.out.mono ?_
        rintro e w4 ⟨A4, n4, c4, rfl, hb4, hbel4⟩
        obtain rfl : n4 = 0 := by rw [← hb4.len]; rfl
        have B4 := Lib.hid (B3.out.trans (hbel4.mono B3.out.size))
        clear hb4 hbel4 C3
        go_wp2_with fail
        refine (put_nil _ _).mono ?_
        rintro e w5 ⟨rfl, rfl⟩
        go_wp2_with fail
        refine (awake_any _).mono ?_
        rintro e w6 ⟨rfl, b6⟩
        have B6 := Lib.hid (B4.out.trans (b6.mono B4.out.size))
        clear b6
        go_wp2_with fail
        go_ret
        exact ⟨rfl, B6.out⟩
      · have hge : ¬ n < 0 := by omega
        go_wp2_with fail
        refine C2.out.mono ?_
        rintro e w3 ⟨rfl, h3, hbel3⟩
        have C3 := Lib.hid (get_any h3 n hn)
        rw [G1.out.1, G1.out.2] at C3
        have B3 := Lib.hid (B2.out.trans hbel3)
        clear h3 hbel3 C2
        go_wp2_with fail
        refine C3.out.mono ?_
        rintro e w4 ⟨A4, n4, c4, rfl, hb4, hbel4⟩
        obtain rfl : n4 = 0 := by rw [← hb4.len]; rfl
        have B4 := Lib.hid (B3.out.trans (hbel4.mono B3.out.size))
        clear hb4 hbel4 C3
        go_wp2_with fail
        refine (put_nil _ _).mono ?_
        rintro e w5 ⟨rfl, rfl⟩
        go_wp2_with fail
        refine (awake_any _).mono ?_
        rintro e w6 ⟨rfl, b6⟩
        have B6 := Lib.hid (B4.out.trans (b6.mono B4.out.size))
        clear b6
        go_wp2_with fail
        go_ret
        exact ⟨rfl, B6.out⟩
  · obtain ⟨j, rfl⟩ := Int.eq_ofNat_of_zero_le (show 0 ≤ n by omega)
    have hj : j < 2 := by omega
    have hg0 : ¬ ((j : Int) < 0) := by omega
    have hg1 : ¬ (1 < (j : Int)) := by omega
    have HN := Lib.hid hn
    clear hbad hn
    by_cases hm : 254 < m
    · have hpl : 254 < p.length := by rw [HL.out]; exact hm
      rw [(sd_long hpl).1, (sd_long hpl).2] at C2
      have G1 : Hid (getE (St.new 2) j = 50) := Lib.hid (sd_torn hj)
      clear hpl
      go_wp2_with fail
      refine C2.out.mono ?_
      rintro e w3 ⟨rfl, h3, hbel3⟩
      have C3 := Lib.hid (get_any h3 j HN.out)
      rw [G1.out] at C3
      have B3 := Lib.hid (B2.out.trans hbel3)
      clear h3 hbel3 C2
      go_wp2_with fail
      refine C3.out.mono ?_
      rintro e w4 ⟨A4, n4, c4, rfl, hb4, hbel4⟩
      have B4 := Lib.hid (B3.out.trans (hbel4.mono B3.out.size))
      clear hb4 hbel4 C3
      go_wp2_with fail
      refine (awake_any _).mono ?_
      rintro e w6 ⟨rfl, b6⟩
      have B6 := Lib.hid (B4.out.trans (b6.mono B4.out.size))
      clear b6
      go_wp2_with fail
      go_ret
      exact ⟨rfl, B6.out⟩
    · have hpl : ¬ 254 < p.length := by rw [HL.out]; exact hm
      have E1 := sd_put2 hj hpl HP.out.rng
      rw [E1.1, E1.2] at C2
      have G1 := Lib.hid (sd1_get hj hpl HP.out.rng)
      have G2 := Lib.hid (sd2_put hj hpl HP.out.rng)
      clear E1 hpl
      go_wp2_with fail
      refine C2.out.mono ?_
      rintro e w3 ⟨rfl, h3, hbel3⟩
      have C3 := Lib.hid (get_own h3 j HN.out)
      rw [G1.out.1, G1.out.2] at C3
      have B3 := Lib.hid (B2.out.trans hbel3)
      have H3 := Lib.hid h3
      clear h3 hbel3 C2
      go_wp2_with fail
      refine C3.out.mono ?_
      rintro e w4 ⟨A4, n4, c4, rfl, hb4, hr4, hbel4⟩
      obtain rfl : n4 = 254 := by
        have q := hb4.1
        rw [List.length_map, padL_len (by rw [HL.out]; omega)] at q
        omega
      have B4 := Lib.hid (B3.out.trans (hbel4.mono B3.out.size))
      have H4 := row_beside H3.out B3.out.size hbel4 hb4
      have Y4 := row_byt H4 hr4
      have hc4 := Y4.cap
      have hm4 := Y4.max
      unfold maxLen at hm4
      have C4 := Lib.hid (hasD_fuse H4.sw B4.out.size 0 (by omega))
      have HR4 := Lib.hid hr4
      clear hb4 hr4 H4 Y4 hbel4 C3
      go_wp2_with fail
      refine C4.out.mono ?_
      rintro e w5 ⟨rfl, h5, hbel5⟩
      have B5 := Lib.hid (B4.out.trans hbel5)
      have H5 := Lib.hid h5
      have Y5 : Hid (Byt w5 A4 254 c4 (padL p)) := Lib.hid (row_byt h5.comm.assoc.sw HR4.out)
      clear h5 hbel5 C4 H3
      have S1 := Lib.hid (same_yes A4 m c4 A m c _ _ w5 (Y5.out.take m (by omega)) (HP.out.below B5.out) (by rw [← HL.out]; exact padL_take))
      go_wp2_with fail
      refine S1.out.mono ?_
      rintro e w6 ⟨rfl, kd, rfl⟩
      have B6 : Hid (Below w.heap.size w (w5.drewN kd)) := Lib.hid (below_drewN B5.out kd)
      have C5 := Lib.hid (put_any (s := sd2 j p) (H5.out.below (below_drewN (Below.refl _ _) kd)) B6.out.size none 0 0 [] (Byt.nil _) j HN.out (by show (1 : Nat) < 999999; omega))
      rw [G2.out.1, G2.out.2] at C5
      clear S1 H5
      go_wp2_with fail
      refine C5.out.mono ?_
      rintro e w7 ⟨rfl, h7, hbel7⟩
      have B7 := Lib.hid (B6.out.trans hbel7)
      have C6 := Lib.hid (put_any h7 B7.out.size none 0 0 [] (Byt.nil _) j HN.out (by rw [St.step_pend]; show (1 : Nat) < 999999; omega))
      rw [sd3_put hj] at C6
      clear h7 hbel7 C5
      go_wp2_with fail
      refine C6.out.mono ?_
      rintro e w8 ⟨rfl, h8, hbel8⟩
      have B8 := Lib.hid (B7.out.trans hbel8)
      clear h8 hbel8 C6
      go_wp2_with fail
      refine (awake_any _).mono ?_
      rintro e w9 ⟨rfl, b9⟩
      have B9 := Lib.hid (B8.out.trans (b9.mono B8.out.size))
      clear b9
      go_wp2_with fail
      go_ret
      exact ⟨rfl, B9.out⟩
end Go.Proofs.Ytlchikllgmkokab

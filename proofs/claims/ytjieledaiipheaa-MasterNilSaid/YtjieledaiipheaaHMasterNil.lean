/- What it says: 'Rows.MasterNilSaid': for every input trothlaw06.MasterNil answers true, and what came in reads behind the call as before. No condition. -/
import Derived.Test.YtjieledaiipheaaPk3

/- the walk of the law MasterNil: whatever comes in, it answers true and turns nothing that was there. -/
namespace Go.Proofs.Ytjieledaiipheaa
open Go.RowKit

theorem nil_loads : (loadR0 (St.new 1).rBytes (St.new 1).rErr = ms0 ∧ loadE0 (St.new 1).rBytes (St.new 1).rErr = 1) ∧ (loadR0 (St.new 2).rBytes (St.new 2).rErr = ms0 ∧ loadE0 (St.new 2).rBytes (St.new 2).rErr = 60) ∧ (loadR0 (((St.new 2).fuse 0).sync).rBytes (((St.new 2).fuse 0).sync).rErr = ms0 ∧ loadE0 (((St.new 2).fuse 0).sync).rBytes (((St.new 2).fuse 0).sync).rErr = 40) := by
  have a0 : (St.new 1).rErr 0 = 0 := rfl
  have a1 : (St.new 1).rErr 1 = 1 := rfl
  have c0 : (((St.new 2).fuse 0).sync).rErr 0 = 40 := rfl
  refine ⟨⟨?_, ?_⟩, ⟨?_, ?_⟩, ?_, ?_⟩
  · unfold loadR0; rw [if_neg (by rw [a0]; simp), if_pos (by rw [a1]; simp)]
  · unfold loadE0; rw [if_neg (by rw [a0]; simp), if_pos (by rw [a1]; simp), a1]
  · rw [Mst.start.load.1, new_load]
  · rw [Mst.start.load.2, new_load]; rfl
  · unfold loadR0; rw [if_pos (by rw [c0]; simp)]
  · unfold loadE0; rw [if_pos (by rw [c0]; simp), c0]
theorem ms0_v : msV ms0 = .agg #[.int .i64 0, .int .i64 0, .int .i64 0, .int .i64 0, .int .i64 0] := rfl

set_option maxRecDepth 100000 in
set_option maxHeartbeats 8000000 in
theorem masterNil_walk (m : Ms) (w : World) (hm : m.fits) :
    Calls Try.prog 6 #[msV m] w (Ret (.bool true) w) := by
  obtain ⟨W0, hW0⟩ : ∃ W0, W0 = w.alloc (.cells #[.int .i64 m.gen, .int .i64 m.inc, .int .i64 m.first, .int .i64 m.lsn, .int .i64 m.chk] 23) := ⟨_, rfl⟩
  have K0 : Hid (Bk W0 w.heap.size 23 (msC m)) := Lib.hid (by rw [hW0]; exact Bk.new w _ _)
  have B0 : Hid (Below w.heap.size w W0) := Lib.hid (by rw [hW0]; exact (Below.refl _ _).alloc (Nat.le_refl _) _)
  have HW0 := Lib.hid hW0
  have HM := Lib.hid hm
  have NL := Lib.hid nil_loads
  have C0 := load_nil W0
  rw [ms0_v] at C0
  have C0 := Lib.hid C0
  have HV : Hid (∀ x, x = msV m → x = .agg #[.int .i64 m.gen, .int .i64 m.inc, .int .i64 m.first, .int .i64 m.lsn, .int .i64 m.chk]) := Lib.hid (fun _ h => h)
  have CMAY : Hid (∀ w, Calls Try.prog 10 #[.agg #[.int .i64 m.gen, .int .i64 m.inc, .int .i64 m.first, .int .i64 m.lsn, .int .i64 m.chk]] w (Ret (.bool (decide m.ok)) w)) := Lib.hid (fun w => rmay_any m w)
  have CSN : Hid (∀ w, Calls Try.prog 8 #[.pointer none, .agg #[.int .i64 m.gen, .int .i64 m.inc, .int .i64 m.first, .int .i64 m.lsn, .int .i64 m.chk]] w (Ret (.int .i64 (if m.ok then 2 else 1)) w)) := Lib.hid (fun w => save_nil m HM.out)
  rw [show msV m = .agg #[.int .i64 m.gen, .int .i64 m.inc, .int .i64 m.first, .int .i64 m.lsn, .int .i64 m.chk] from rfl]
  clear hm hW0 HV
  obtain ⟨ok, hok⟩ : ∃ ok, decide m.ok = ok := ⟨_, rfl⟩
  have HK : Hid ((if m.ok then (2 : Int) else 1) = if ok then 2 else 1) := Lib.hid (by
    rw [← hok]; by_cases h : m.ok
    · rw [if_pos h, if_pos (by simpa using h)]
    · rw [if_neg h, if_neg (by simpa using h)])
  rw [hok] at CMAY
  rw [HK.out] at CSN
  clear hok HK
  cases ok with
  | true =>
    go_enter Try.func6, Try.ntmps6
    go_wp2_with fail
    rw [← HW0.out]
    refine C0.out.mono ?_
    rintro e w1 ⟨rfl, b1⟩
    have K1 : Hid (Bk w1 w.heap.size 23 (msC m)) := Lib.hid (K0.out.later b1)
    have B1 : Hid (Below w.heap.size w w1) := Lib.hid (B0.out.trans (b1.mono B0.out.size))
    clear b1 C0 HW0 K0 B0
    obtain ⟨W1, hW1⟩ : ∃ W1, W1 = w1.alloc (.cells #[.int .i64 0, .int .i64 0, .int .i64 0, .int .i64 0, .int .i64 0] 23) := ⟨_, rfl⟩
    have K1' : Hid (Bk W1 w.heap.size 23 (msC m)) := Lib.hid (by rw [hW1]; exact K1.out.later ((Below.refl _ _).alloc (Nat.le_refl _) _))
    have B1' : Hid (Below w.heap.size w W1) := Lib.hid (by rw [hW1]; exact B1.out.alloc B1.out.size _)
    have CA := Lib.hid (hasD_new (Has.emp W1.heap.size W1) (Nat.le_refl W1.heap.size) 1 (by omega))
    have HW1 := Lib.hid hW1
    clear hW1
    go_wp2_with fail
    rw [← HW1.out]
    refine CA.out.mono ?_
    rintro e w2 ⟨da, rfl, h2, b2⟩
    have K2 : Hid (Bk w2 w.heap.size 23 (msC m)) := Lib.hid (K1'.out.later b2)
    have B2 : Hid (Below w.heap.size w w2) := Lib.hid (B1'.out.trans (b2.mono B1'.out.size))
    have CB := load_any h2
    rw [NL.out.1.1, NL.out.1.2, ms0_v] at CB
    have CB := Lib.hid CB
    clear h2 b2 CA HW1 K1 B1 K1' B1'
    go_wp2_with fail
    refine CB.out.mono ?_
    rintro e w3 ⟨rfl, b3⟩
    have K3 : Hid (Bk w3 w.heap.size 23 (msC m)) := Lib.hid (K2.out.later b3)
    have B3 : Hid (Below w.heap.size w w3) := Lib.hid (B2.out.trans (b3.mono B2.out.size))
    clear b3 CB K2 B2
    obtain ⟨W3, hW3⟩ : ∃ W3, W3 = w3.alloc (.cells #[.int .i64 0, .int .i64 0, .int .i64 0, .int .i64 0, .int .i64 0] 23) := ⟨_, rfl⟩
    have K3' : Hid (Bk W3 w.heap.size 23 (msC m)) := Lib.hid (by rw [hW3]; exact K3.out.later ((Below.refl _ _).alloc (Nat.le_refl _) _))
    have B3' : Hid (Below w.heap.size w W3) := Lib.hid (by rw [hW3]; exact B3.out.alloc B3.out.size _)
    have CC := Lib.hid (new_two W3)
    have HW3 := Lib.hid hW3
    clear hW3
    go_wp2_with fail
    rw [← HW3.out]
    refine CC.out.mono ?_
    rintro e w4 ⟨db, rfl, h4, b4⟩
    have K4 : Hid (Bk w4 w.heap.size 23 (msC m)) := Lib.hid (K3'.out.later b4)
    have B4 : Hid (Below w.heap.size w w4) := Lib.hid (B3'.out.trans (b4.mono B3'.out.size))
    have S4 : Hid (W3.heap.size ≤ w4.heap.size ∧ w.heap.size < W3.heap.size) := Lib.hid ⟨b4.size, K3'.out.lt⟩
    have H4 := Lib.hid h4
    have CD := load_any h4
    rw [NL.out.2.1.1, NL.out.2.1.2, ms0_v] at CD
    have CD := Lib.hid CD
    clear h4 b4 CC HW3 K3 B3 K3' B3'
    go_wp2_with fail
    refine CD.out.mono ?_
    rintro e w5 ⟨rfl, b5⟩
    have K5 : Hid (Bk w5 w.heap.size 23 (msC m)) := Lib.hid (K4.out.later b5)
    have B5 : Hid (Below w.heap.size w w5) := Lib.hid (B4.out.trans (b5.mono B4.out.size))
    have H5 := Lib.hid (H4.out.below b5)
    have S5 : Hid (W3.heap.size ≤ w5.heap.size) := Lib.hid (Nat.le_trans S4.out.1 b5.size)
    clear b5 CD K4 B4 H4
    obtain ⟨W5, hW5⟩ : ∃ W5, W5 = w5.alloc (.cells #[.int .i64 0, .int .i64 0, .int .i64 0, .int .i64 0, .int .i64 0] 23) := ⟨_, rfl⟩
    have bb5 : Below w5.heap.size w5 W5 := by rw [hW5]; exact (Below.refl _ _).alloc (Nat.le_refl _) _
    have K5' : Hid (Bk W5 w.heap.size 23 (msC m)) := Lib.hid (K5.out.later bb5)
    have B5' : Hid (Below w.heap.size w W5) := Lib.hid (B5.out.trans (bb5.mono B5.out.size))
    have CE := Lib.hid (hasD_fuse (H5.out.below bb5) (Nat.le_trans S5.out bb5.size) 0 (by omega))
    have HW5 := Lib.hid hW5
    have S5' : Hid (W3.heap.size ≤ W5.heap.size) := Lib.hid (Nat.le_trans S5.out bb5.size)
    clear hW5 bb5
    go_wp2_with fail
    rw [← HW5.out]
    refine CE.out.mono ?_
    rintro e w6 ⟨rfl, h6, b6⟩
    have K6 : Hid (Bk w6 w.heap.size 23 (msC m)) := Lib.hid (K5'.out.bel b6 S4.out.2)
    have B6 : Hid (Below w.heap.size w w6) := Lib.hid (B5'.out.trans (b6.mono (Nat.le_of_lt S4.out.2)))
    have S6 : Hid (W3.heap.size ≤ w6.heap.size) := Lib.hid (Nat.le_trans S5'.out b6.size)
    have CF := Lib.hid (hasD_sync h6 S6.out (by show (0 : Nat) < 999999; omega))
    clear h6 b6 CE HW5 K5 B5 K5' B5' H5 S5 S5'
    go_wp2_with fail
    refine CF.out.mono ?_
    rintro e w7 ⟨rfl, h7, b7⟩
    have K7 : Hid (Bk w7 w.heap.size 23 (msC m)) := Lib.hid (K6.out.bel b7 S4.out.2)
    have B7 : Hid (Below w.heap.size w w7) := Lib.hid (B6.out.trans (b7.mono (Nat.le_of_lt S4.out.2)))
    have CG := load_any h7
    rw [NL.out.2.2.1, NL.out.2.2.2, ms0_v] at CG
    have CG := Lib.hid CG
    clear h7 b7 CF K6 B6 S6 S4
    go_wp2_with fail
    refine CG.out.mono ?_
    rintro e w8 ⟨rfl, b8⟩
    have K8 : Hid (Bk w8 w.heap.size 23 (msC m)) := Lib.hid (K7.out.later b8)
    have B8 : Hid (Below w.heap.size w w8) := Lib.hid (B7.out.trans (b8.mono B7.out.size))
    clear b8 CG K7 B7
    obtain ⟨W8, hW8⟩ : ∃ W8, W8 = w8.alloc (.cells #[.int .i64 0, .int .i64 0, .int .i64 0, .int .i64 0, .int .i64 0] 23) := ⟨_, rfl⟩
    have bb8 : Below w8.heap.size w8 W8 := by rw [hW8]; exact (Below.refl _ _).alloc (Nat.le_refl _) _
    have K8' : Hid (Bk W8 w.heap.size 23 (msC m)) := Lib.hid (K8.out.later bb8)
    have B8' : Hid (Below w.heap.size w W8) := Lib.hid (B8.out.trans (bb8.mono B8.out.size))
    have HW8 := Lib.hid hW8
    have KL : Hid (Bk (w8.alloc (.cells #[.int .i64 0, .int .i64 0, .int .i64 0, .int .i64 0, .int .i64 0] 23)) w.heap.size 23 (msC m)) := Lib.hid (by rw [← hW8]; exact K8'.out)
    clear hW8 bb8 NL
    go_wp2_with (refine wpList_load_row rfl 23 _ rfl w.heap.size rfl 23 #[.int .i64 m.gen, .int .i64 m.inc, .int .i64 m.first, .int .i64 m.lsn, .int .i64 m.chk] (0, 0) _ KL.out Try.underlying23 rfl ms_info ?_)
    rw [← HW8.out]
    refine (CSN.out W8).mono ?_
    rintro e w9 ⟨rfl, b9⟩
    have K9 : Hid (Bk w9 w.heap.size 23 (msC m)) := Lib.hid (K8'.out.later b9)
    have B9 : Hid (Below w.heap.size w w9) := Lib.hid (B8'.out.trans (b9.mono B8'.out.size))
    clear b9 CSN HW8 K8 B8 K8' B8' KL
    go_wp2_with fail
    refine (awakeM_any _).mono ?_
    rintro e w10 ⟨rfl, b10⟩
    have B10 : Hid (Below w.heap.size w w10) := Lib.hid (B9.out.trans (b10.mono B9.out.size))
    clear b10
    go_wp2_with fail
    go_ret
    exact ⟨rfl, B10.out⟩
  | false =>
    go_enter Try.func6, Try.ntmps6
    go_wp2_with fail
    rw [← HW0.out]
    refine C0.out.mono ?_
    rintro e w1 ⟨rfl, b1⟩
    have K1 : Hid (Bk w1 w.heap.size 23 (msC m)) := Lib.hid (K0.out.later b1)
    have B1 : Hid (Below w.heap.size w w1) := Lib.hid (B0.out.trans (b1.mono B0.out.size))
    clear b1 C0 HW0 K0 B0
    obtain ⟨W1, hW1⟩ : ∃ W1, W1 = w1.alloc (.cells #[.int .i64 0, .int .i64 0, .int .i64 0, .int .i64 0, .int .i64 0] 23) := ⟨_, rfl⟩
    have K1' : Hid (Bk W1 w.heap.size 23 (msC m)) := Lib.hid (by rw [hW1]; exact K1.out.later ((Below.refl _ _).alloc (Nat.le_refl _) _))
    have B1' : Hid (Below w.heap.size w W1) := Lib.hid (by rw [hW1]; exact B1.out.alloc B1.out.size _)
    have CA := Lib.hid (hasD_new (Has.emp W1.heap.size W1) (Nat.le_refl W1.heap.size) 1 (by omega))
    have HW1 := Lib.hid hW1
    clear hW1
    go_wp2_with fail
    rw [← HW1.out]
    refine CA.out.mono ?_
    rintro e w2 ⟨da, rfl, h2, b2⟩
    have K2 : Hid (Bk w2 w.heap.size 23 (msC m)) := Lib.hid (K1'.out.later b2)
    have B2 : Hid (Below w.heap.size w w2) := Lib.hid (B1'.out.trans (b2.mono B1'.out.size))
    have CB := load_any h2
    rw [NL.out.1.1, NL.out.1.2, ms0_v] at CB
    have CB := Lib.hid CB
    clear h2 b2 CA HW1 K1 B1 K1' B1'
    go_wp2_with fail
    refine CB.out.mono ?_
    rintro e w3 ⟨rfl, b3⟩
    have K3 : Hid (Bk w3 w.heap.size 23 (msC m)) := Lib.hid (K2.out.later b3)
    have B3 : Hid (Below w.heap.size w w3) := Lib.hid (B2.out.trans (b3.mono B2.out.size))
    clear b3 CB K2 B2
    obtain ⟨W3, hW3⟩ : ∃ W3, W3 = w3.alloc (.cells #[.int .i64 0, .int .i64 0, .int .i64 0, .int .i64 0, .int .i64 0] 23) := ⟨_, rfl⟩
    have K3' : Hid (Bk W3 w.heap.size 23 (msC m)) := Lib.hid (by rw [hW3]; exact K3.out.later ((Below.refl _ _).alloc (Nat.le_refl _) _))
    have B3' : Hid (Below w.heap.size w W3) := Lib.hid (by rw [hW3]; exact B3.out.alloc B3.out.size _)
    have CC := Lib.hid (new_two W3)
    have HW3 := Lib.hid hW3
    clear hW3
    go_wp2_with fail
    rw [← HW3.out]
    refine CC.out.mono ?_
    rintro e w4 ⟨db, rfl, h4, b4⟩
    have K4 : Hid (Bk w4 w.heap.size 23 (msC m)) := Lib.hid (K3'.out.later b4)
    have B4 : Hid (Below w.heap.size w w4) := Lib.hid (B3'.out.trans (b4.mono B3'.out.size))
    have S4 : Hid (W3.heap.size ≤ w4.heap.size ∧ w.heap.size < W3.heap.size) := Lib.hid ⟨b4.size, K3'.out.lt⟩
    have H4 := Lib.hid h4
    have CD := load_any h4
    rw [NL.out.2.1.1, NL.out.2.1.2, ms0_v] at CD
    have CD := Lib.hid CD
    clear h4 b4 CC HW3 K3 B3 K3' B3'
    go_wp2_with fail
    refine CD.out.mono ?_
    rintro e w5 ⟨rfl, b5⟩
    have K5 : Hid (Bk w5 w.heap.size 23 (msC m)) := Lib.hid (K4.out.later b5)
    have B5 : Hid (Below w.heap.size w w5) := Lib.hid (B4.out.trans (b5.mono B4.out.size))
    have H5 := Lib.hid (H4.out.below b5)
    have S5 : Hid (W3.heap.size ≤ w5.heap.size) := Lib.hid (Nat.le_trans S4.out.1 b5.size)
    clear b5 CD K4 B4 H4
    obtain ⟨W5, hW5⟩ : ∃ W5, W5 = w5.alloc (.cells #[.int .i64 0, .int .i64 0, .int .i64 0, .int .i64 0, .int .i64 0] 23) := ⟨_, rfl⟩
    have bb5 : Below w5.heap.size w5 W5 := by rw [hW5]; exact (Below.refl _ _).alloc (Nat.le_refl _) _
    have K5' : Hid (Bk W5 w.heap.size 23 (msC m)) := Lib.hid (K5.out.later bb5)
    have B5' : Hid (Below w.heap.size w W5) := Lib.hid (B5.out.trans (bb5.mono B5.out.size))
    have CE := Lib.hid (hasD_fuse (H5.out.below bb5) (Nat.le_trans S5.out bb5.size) 0 (by omega))
    have HW5 := Lib.hid hW5
    have S5' : Hid (W3.heap.size ≤ W5.heap.size) := Lib.hid (Nat.le_trans S5.out bb5.size)
    clear hW5 bb5
    go_wp2_with fail
    rw [← HW5.out]
    refine CE.out.mono ?_
    rintro e w6 ⟨rfl, h6, b6⟩
    have K6 : Hid (Bk w6 w.heap.size 23 (msC m)) := Lib.hid (K5'.out.bel b6 S4.out.2)
    have B6 : Hid (Below w.heap.size w w6) := Lib.hid (B5'.out.trans (b6.mono (Nat.le_of_lt S4.out.2)))
    have S6 : Hid (W3.heap.size ≤ w6.heap.size) := Lib.hid (Nat.le_trans S5'.out b6.size)
    have CF := Lib.hid (hasD_sync h6 S6.out (by show (0 : Nat) < 999999; omega))
    clear h6 b6 CE HW5 K5 B5 K5' B5' H5 S5 S5'
    go_wp2_with fail
    refine CF.out.mono ?_
    rintro e w7 ⟨rfl, h7, b7⟩
    have K7 : Hid (Bk w7 w.heap.size 23 (msC m)) := Lib.hid (K6.out.bel b7 S4.out.2)
    have B7 : Hid (Below w.heap.size w w7) := Lib.hid (B6.out.trans (b7.mono (Nat.le_of_lt S4.out.2)))
    have CG := load_any h7
    rw [NL.out.2.2.1, NL.out.2.2.2, ms0_v] at CG
    have CG := Lib.hid CG
    clear h7 b7 CF K6 B6 S6 S4
    go_wp2_with fail
    refine CG.out.mono ?_
    rintro e w8 ⟨rfl, b8⟩
    have K8 : Hid (Bk w8 w.heap.size 23 (msC m)) := Lib.hid (K7.out.later b8)
    have B8 : Hid (Below w.heap.size w w8) := Lib.hid (B7.out.trans (b8.mono B7.out.size))
    clear b8 CG K7 B7
    obtain ⟨W8, hW8⟩ : ∃ W8, W8 = w8.alloc (.cells #[.int .i64 0, .int .i64 0, .int .i64 0, .int .i64 0, .int .i64 0] 23) := ⟨_, rfl⟩
    have bb8 : Below w8.heap.size w8 W8 := by rw [hW8]; exact (Below.refl _ _).alloc (Nat.le_refl _) _
    have K8' : Hid (Bk W8 w.heap.size 23 (msC m)) := Lib.hid (K8.out.later bb8)
    have B8' : Hid (Below w.heap.size w W8) := Lib.hid (B8.out.trans (bb8.mono B8.out.size))
    have HW8 := Lib.hid hW8
    have KL : Hid (Bk (w8.alloc (.cells #[.int .i64 0, .int .i64 0, .int .i64 0, .int .i64 0, .int .i64 0] 23)) w.heap.size 23 (msC m)) := Lib.hid (by rw [← hW8]; exact K8'.out)
    clear hW8 bb8 NL
    go_wp2_with (refine wpList_load_row rfl 23 _ rfl w.heap.size rfl 23 #[.int .i64 m.gen, .int .i64 m.inc, .int .i64 m.first, .int .i64 m.lsn, .int .i64 m.chk] (0, 0) _ KL.out Try.underlying23 rfl ms_info ?_)
    rw [← HW8.out]
    refine (CSN.out W8).mono ?_
    rintro e w9 ⟨rfl, b9⟩
    have K9 : Hid (Bk w9 w.heap.size 23 (msC m)) := Lib.hid (K8'.out.later b9)
    have B9 : Hid (Below w.heap.size w w9) := Lib.hid (B8'.out.trans (b9.mono B8'.out.size))
    clear b9 CSN HW8 K8 B8 K8' B8' KL
    have c0 : w9.cell? ⟨w.heap.size, 0, none⟩ = some (.int .i64 m.gen) := K9.out.cell 0
    have c1 : w9.cell? ⟨w.heap.size, 1, none⟩ = some (.int .i64 m.inc) := K9.out.cell 1
    have c2 : w9.cell? ⟨w.heap.size, 2, none⟩ = some (.int .i64 m.first) := K9.out.cell 2
    have c3 : w9.cell? ⟨w.heap.size, 3, none⟩ = some (.int .i64 m.lsn) := K9.out.cell 3
    have c4 : w9.cell? ⟨w.heap.size, 4, none⟩ = some (.int .i64 m.chk) := K9.out.cell 4
    go_wp2_with fail
    refine (CMAY.out w9).mono ?_
    rintro e wa ⟨rfl, ba⟩
    have BA : Hid (Below w.heap.size w wa) := Lib.hid (B9.out.trans (ba.mono B9.out.size))
    clear ba c0 c1 c2 c3 c4
    go_wp2_with fail
    refine (awakeM_any _).mono ?_
    rintro e w10 ⟨rfl, b10⟩
    have B10 : Hid (Below w.heap.size w w10) := Lib.hid (BA.out.trans (b10.mono BA.out.size))
    clear b10
    go_wp2_with fail
    go_ret
    exact ⟨rfl, B10.out⟩
end Go.Proofs.Ytjieledaiipheaa

/- 'Rows.MasterNilSaid': for every input trothlaw06.MasterNil answers true, and what came in reads behind the call as before. No condition. -/
namespace Go.Proofs.Ytjieledaiipheaa
open Go.ChangeShapes Go.WideShapes Go.ChangeAt Go.RowKit

set_option maxRecDepth 100000 in
theorem masterNil_lifted (os : Os) (started : os.Started) (H : Type) (enc : TypeId × Value → H) :
    ReturnsInHanded {} Try.checked os 6 .any (Rows.masterNilSpec.pre6 enc Try.prog Try.f6 Rows.masterNilRow.domain false) (Rows.masterNilSpec.post enc Try.prog Try.f6 false true false false) := by
  refine returnsInHanded_of_change_sized (C := Try.checked) own_knob started (by kernel_rfl) Try.func6
    (ChangeSpec.witness6 (enc := enc) (C := Try.checked) false ⟨#[], #[.agg #[.int .i64 0, .int .i64 0, .int .i64 0, .int .i64 0, .int .i64 0]], []⟩ 8 (by kernel_rfl) (by kernel_rfl) (by kernel_rfl) (by kernel_rfl)) ?_
  intro W base args ds gs before hval0 hW _ hsz0 _
  have hval : ∀ (j : Nat) t v, Try.f6.params[j]? = some t → args[j]? = some v → Value.okWide Try.prog W .any base t v := hval0
  have hW' := hW
  obtain ⟨p, q, hA0, hV, rfl, hfz, hnd⟩ := hW
  have hA : DataW.TrodAll enc Try.prog W 0 (fun _ => true) true Try.f6.params.toList args.toList ds p := hA0
  rw [Try.params6] at hA hval
  obtain ⟨v0, vs0, d0, ds0, p0, q0, hargs, rfl, rfl, h0, r0⟩ := trodAll_cons hA
  obtain ⟨rfl, rfl, rfl⟩ := trodAll_nil r0
  obtain rfl : args = #[v0] := by cases args; simp_all
  obtain ⟨rfl, rfl⟩ := trodVars_none hV
  have k0 := h0
  have lt0 : ∀ x ∈ p0, x.block < W.heap.size := by obtain ⟨m, hm⟩ := k0; exact DataW.trod_lt m _ _ _ hm
  obtain ⟨m0, rfl, b0⟩ := open_ms (hval 0 23 v0 rfl rfl) h0
  clear hA0 hval0 hsz0
  refine (masterNil_walk m0 W b0).mono fun e W' ⟨he, bel⟩ => ?_
  subst he
  exact ⟨_, rfl, _, _, _, [], _, [], hW', trodAll_mk1 (shut_bool Try.underlying4 _), (trodAll_cons_mk (Below.trod laidOut (by kernel_rfl) (of_decide_eq_true (by kernel_rfl)) k0 bel lt0) trodAll_mk0), rfl, bel.frame _, fun h => by cases h⟩

/-- The statement. -/
theorem masterNil_holds : Rows.MasterNilSaid :=
  OpenClaim.holds_of_wide 6 Try.f6 rfl rfl rfl rfl rfl rfl rfl ⟨rfl, rfl, rfl, rfl, rfl⟩ rfl rfl rfl rfl rfl (by kernel_rfl) Try.func6 (by kernel_rfl)
    (of_decide_eq_true (by kernel_rfl)) (by unfold Func.isWrapper; first | (rw [if_pos (by decide +kernel)]; kernel_rfl) | (rw [if_neg (by decide +kernel)]; exact ⟨rfl, rfl⟩))
    (fun os started H enc _ => masterNil_lifted os started H enc)
#print axioms masterNil_holds
end Go.Proofs.Ytjieledaiipheaa

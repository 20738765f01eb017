/- What it says: the Go text of trothlaw02.CrcPatches answers true, and writes nothing that was there. -/
import Derived.Test.YteogchmhmgngnaaDoorCrcAwake
import Derived.Test.YteogchmhmgngnaaDoorCrcJoin
namespace Go.Proofs.YteogchmhmgngnaaDoor
open Go.RowKit

set_option maxHeartbeats 4000000 in
theorem crcPatches_walk (A : Option Addr) (k c : Nat) (l : List Int) (want : Nat) (w : World) (h : Byt w A k c l) (_hk : k ≤ 140737488351232) (hw : want < 4294967296) (hT : Tab w) :
    Calls Tryd.prog 6 #[.slice A k c, .int .u32 want] w (Ret (.bool true) w) := by
  have HB := Lib.hid h
  have HT := Lib.hid hT
  by_cases hbig : (2000 : Int) < (k : Int)
  · clear h hT
    go_enter Tryd.func6, Tryd.ntmps6
    go_wp2_with fail
    refine (awake_any _ HT.out).mono ?_
    rintro e w2 ⟨rfl, b2⟩
    have H := Lib.hid b2
    clear b2
    go_wp2
    go_ret
    exact ⟨rfl, H.out⟩
  · have HP := Lib.hid (fun A n c w h hT => patch_any A n c l want hw w h hT)
    have hc := crc_patched l h.rng want hw
    rw [show (crcL l ^^^ ones) ^^^ unsteps 32 (want ^^^ ones) = patchN l want from rfl] at hc
    have HS := Lib.hid (fun A n c w h hT => crcSum_any A n c (l ++ le4 (patchN l want)) w h hT)
    rw [hc] at HS
    have h4 : (le4 (patchN l want)).length = 4 := rfl
    obtain ⟨m, em⟩ : ∃ m, le4 (patchN l want) = m := ⟨_, rfl⟩
    rw [em] at HP HS h4
    have H4 := Lib.hid h4
    obtain ⟨i0, hi, hz0, hz1, hz2⟩ := info_parts info_u8
    have HI := Lib.hid hi
    have HZ := Lib.hid hz0
    clear h hT em hc h4 hi hz0
    go_enter Tryd.func6, Tryd.ntmps6
    go_wp2_with fail
    refine (own_any _ _ _ l _ HB.out (by omega)).mono ?_
    rintro e w1 ⟨A1, k1, c1, rfl, hb1, b1⟩
    have HB1 := Lib.hid hb1
    have L1 := Lib.hid b1
    clear hb1 b1
    go_wp2_with fail
    refine (HP.out _ _ _ _ HB1.out (HT.out.ret L1.out)).mono ?_
    rintro e w2 ⟨A2, k2, c2, rfl, hb2, b2⟩
    obtain rfl : k2 = 4 := by rw [← hb2.len, H4.out]
    have HB2 := Lib.hid hb2
    have L2 := Lib.hid (Below.then L1.out b2)
    clear hb2 b2
    go_wp2_with fail
    refine (own_own _ _ _ l _ (HB.out.below L2.out) (by omega)).mono ?_
    rintro e w4 ⟨A4, k4, c4, rfl, ho4, hr4, b4⟩
    have hk4 : k4 = k := by have := ho4.1; simp at this; rw [← this, HB.out.len]
    subst hk4
    have HO4 := Lib.hid ho4
    have HR4 := Lib.hid hr4
    have BB4 := Lib.hid b4
    have HB2' := Lib.hid (HB2.out.below b4)
    have hs4 := b4.size
    clear ho4 hr4 b4 HB2
    go_wp2_with (at_builtin; refine wpList_append_byt_g (by rfl) _ _ 22 rfl w2.heap.size 5 i0 Tryd.underlying22 HI.out HZ.out hz1 hz2 _ k4 l rfl HO4.out A2 4 c2 m rfl HB2'.out (by omega) hs4 ?_)
    intro A5 c5 w5 ho5 hg5
    have HB5 := Lib.hid (app_byt ho5 HR4.out HB2'.out.rng)
    have L5 := Lib.hid (Below.then L2.out (app_below BB4.out HO4.out hg5))
    clear ho5 hg5 HO4 HR4 BB4 hs4
    go_wp2_with fail
    refine (HS.out _ _ _ _ HB5.out (HT.out.ret L5.out)).mono ?_
    rintro e w6 ⟨rfl, rfl⟩
    go_wp2_with fail
    refine (awake_any _ (HT.out.ret L5.out)).mono ?_
    rintro e w9 ⟨rfl, b9⟩
    have L9 := Lib.hid (Below.then L5.out b9)
    clear b9
    go_wp2
    go_ret
    exact ⟨rfl, L9.out⟩
end Go.Proofs.YteogchmhmgngnaaDoor

/- What it says: the Go text of trothlaw02.CrcJoins answers true, and writes nothing that was there. -/
import Derived.Test.YteogchmhmgngnaaDoorCrcAwake
import Derived.Test.YteogchmhmgngnaaDoorCrcJoin
namespace Go.Proofs.YteogchmhmgngnaaDoor
open Go.RowKit

/-- What a walk asks of Join, at two texts. -/
theorem join_texts (l m : List Int) (hl : ∀ x ∈ l, 0 ≤ x ∧ x < 256) (hm : ∀ x ∈ m, 0 ≤ x ∧ x < 256) (k : Nat) (hk : m.length = k) (hk2 : k ≤ 2000) (w : World) (hT : Tab w) :
    Calls Tryd.prog 12 #[.int .u32 (crcL l : Nat), .int .u32 (crcL m : Nat), .int .i64 k] w (Ret (.int .u32 (crcL (l ++ m) : Nat)) w) := by
  rw [crc_join l m hm, hk]
  exact join_any _ _ k (crcL_lt l hl) (crcL_lt m hm) (by omega) w hT

theorem join_empty (l : List Int) (hl : ∀ x ∈ l, 0 ≤ x ∧ x < 256) (w : World) (hT : Tab w) :
    Calls Tryd.prog 12 #[.int .u32 (crcL l : Nat), .int .u32 0, .int .i64 0] w (Ret (.int .u32 (crcL l : Nat)) w) := by
  have := join_none (crcL l) 0 0 (crcL_lt l hl) (by omega) (by omega) w hT
  rw [Nat.xor_zero] at this
  exact this

theorem crcJoins_out (A : Option Addr) (k c : Nat) (B : Option Addr) (j d : Nat) (w : World) (hT : Tab w) (hb : (2000 : Int) < (k : Int) ∨ ((k : Int) ≤ 2000 ∧ (2000 : Int) < (j : Int))) :
    Calls Tryd.prog 4 #[.slice A k c, .slice B j d] w (Ret (.bool true) w) := by
  have HT := Lib.hid hT
  clear hT
  rcases hb with hbig | ⟨h1, hbig⟩
  · go_enter Tryd.func4, Tryd.ntmps4
    go_wp2_with fail
    refine (awake_any _ HT.out).mono ?_
    rintro e w2 ⟨rfl, b2⟩
    have H := Lib.hid b2
    clear b2
    go_wp2
    go_ret
    exact ⟨rfl, H.out⟩
  · go_enter Tryd.func4, Tryd.ntmps4
    go_wp2_with fail
    refine (awake_any _ HT.out).mono ?_
    rintro e w2 ⟨rfl, b2⟩
    have H := Lib.hid b2
    clear b2
    go_wp2
    go_ret
    exact ⟨rfl, H.out⟩

set_option maxHeartbeats 4000000 in
theorem crcJoins_walk (A : Option Addr) (k c : Nat) (l : List Int) (B : Option Addr) (j d : Nat) (m : List Int) (w : World) (h : Byt w A k c l) (_hk : k ≤ 140737488351232) (h' : Byt w B j d m) (_hj : j ≤ 140737488351232) (hT : Tab w) :
    Calls Tryd.prog 4 #[.slice A k c, .slice B j d] w (Ret (.bool true) w) := by
  by_cases hbig : (2000 : Int) < (k : Int) ∨ ((k : Int) ≤ 2000 ∧ (2000 : Int) < (j : Int))
  · exact crcJoins_out A k c B j d w hT hbig
  · have hk2 : (k : Int) ≤ 2000 := by omega
    have hj2 : (j : Int) ≤ 2000 := by omega
    have HB := Lib.hid h
    have HB' := Lib.hid h'
    have HT := Lib.hid hT
    have HJ := Lib.hid (fun w hT => join_texts l m h.rng h'.rng j h'.len (by omega) w hT)
    have HE := Lib.hid (fun w hT => join_empty l h.rng w hT)
    have HS := Lib.hid (fun A n c w h hT => crcSum_any A n c l w h hT)
    have HS' := Lib.hid (fun A n c w h hT => crcSum_any A n c m w h hT)
    have HR := Lib.hid (fun A n c w h => refSum_any A n c (l ++ m) w h)
    obtain ⟨s, es⟩ : ∃ s, crcL l = s := ⟨_, rfl⟩
    obtain ⟨t, et⟩ : ∃ t, crcL m = t := ⟨_, rfl⟩
    obtain ⟨z, ez⟩ : ∃ z, crcL (l ++ m) = z := ⟨_, rfl⟩
    rw [es, et, ez] at HJ
    rw [es] at HE HS
    rw [et] at HS'
    rw [ez] at HR
    obtain ⟨i0, hi, hz0, hz1, hz2⟩ := info_parts info_u8
    have HI := Lib.hid hi
    have HZ := Lib.hid hz0
    clear h h' hT hbig es et ez hi hz0
    go_enter Tryd.func4, Tryd.ntmps4
    go_wp2_with fail
    refine (own_any _ _ _ l _ HB.out (by omega)).mono ?_
    rintro e w1 ⟨A1, k1, c1, rfl, hb1, b1⟩
    have HB1 := Lib.hid hb1
    have L1 := Lib.hid b1
    clear hb1 b1
    go_wp2_with fail
    refine (HS.out _ _ _ _ HB1.out (HT.out.ret L1.out)).mono ?_
    rintro e w2 ⟨rfl, rfl⟩
    go_wp2_with fail
    refine (own_any _ _ _ m _ (HB'.out.below L1.out) (by omega)).mono ?_
    rintro e w2 ⟨A2, k2, c2, rfl, hb2, b2⟩
    have HB2 := Lib.hid hb2
    have L2 := Lib.hid (Below.then L1.out b2)
    clear hb2 b2
    go_wp2_with fail
    refine (HS'.out _ _ _ _ HB2.out (HT.out.ret L2.out)).mono ?_
    rintro e w3 ⟨rfl, rfl⟩
    go_wp2_with fail
    refine (HJ.out _ (HT.out.ret L2.out)).mono ?_
    rintro e w3 ⟨rfl, b3⟩
    have L3 := Lib.hid (Below.then L2.out b3)
    clear b3
    go_wp2_with fail
    refine (own_own _ _ _ l _ (HB.out.below L3.out) (by omega)).mono ?_
    rintro e w4 ⟨A4, k4, c4, rfl, ho4, hr4, b4⟩
    have hk4 : k4 = k := by have := ho4.1; simp at this; rw [← this, HB.out.len]
    subst hk4
    have HO4 := Lib.hid ho4
    have HR4 := Lib.hid hr4
    have BB4 := Lib.hid b4
    have L4 := Lib.hid (Below.then L3.out b4)
    have hs4 := b4.size
    clear ho4 hr4 b4
    go_wp2_with (at_builtin; refine wpList_append_byt rfl _ _ 22 rfl w3.heap.size 5 i0 Tryd.underlying22 HI.out HZ.out hz1 hz2 _ k4 l rfl HO4.out B j d m rfl (HB'.out.below L4.out) (by omega) hs4 ?_)
    intro A5 c5 w5 ho5 hg5
    have HB5 := Lib.hid (app_byt ho5 HR4.out HB'.out.rng)
    have L5 := Lib.hid (Below.then L3.out (app_below BB4.out HO4.out hg5))
    clear ho5 hg5 HO4 HR4 BB4 hs4 L4
    go_wp2_with fail
    refine (HR.out _ _ _ _ HB5.out).mono ?_
    rintro e w6 ⟨rfl, rfl⟩
    clear HB5
    go_wp2_with fail
    refine (own_any _ _ _ l _ (HB.out.below L5.out) (by omega)).mono ?_
    rintro e w6 ⟨A6, k6, c6, rfl, hb6, b6⟩
    have HB6 := Lib.hid hb6
    have L6 := Lib.hid (Below.then L5.out b6)
    clear hb6 b6
    go_wp2_with fail
    refine (HS.out _ _ _ _ HB6.out (HT.out.ret L6.out)).mono ?_
    rintro e w7 ⟨rfl, rfl⟩
    go_wp2_with fail
    refine (HE.out _ (HT.out.ret L6.out)).mono ?_
    rintro e w7 ⟨rfl, b7⟩
    have L7 := Lib.hid (Below.then L6.out b7)
    clear b7
    go_wp2_with fail
    refine (own_any _ _ _ l _ (HB.out.below L7.out) (by omega)).mono ?_
    rintro e w8 ⟨A8, k8, c8, rfl, hb8, b8⟩
    have HB8 := Lib.hid hb8
    have L8 := Lib.hid (Below.then L7.out b8)
    clear hb8 b8
    go_wp2_with fail
    refine (HS.out _ _ _ _ HB8.out (HT.out.ret L8.out)).mono ?_
    rintro e w9 ⟨rfl, rfl⟩
    go_wp2_with fail
    refine (awake_any _ (HT.out.ret L8.out)).mono ?_
    rintro e w9 ⟨rfl, b9⟩
    have L9 := Lib.hid (Below.then L8.out b9)
    clear b9
    go_wp2
    go_ret
    exact ⟨rfl, L9.out⟩
end Go.Proofs.YteogchmhmgngnaaDoor

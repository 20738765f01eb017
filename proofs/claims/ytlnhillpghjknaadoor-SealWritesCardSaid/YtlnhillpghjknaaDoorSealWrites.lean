/- What it says: the Go text of trothlaw03.SealWrites answers true, and writes nothing that was there. -/
import Derived.Test.YtlnhillpghjknaaDoorWritten
import Derived.Test.YtlnhillpghjknaaDoorSealAwake
namespace Go.Proofs.YtlnhillpghjknaaDoor
open Go.RowKit

theorem gather_step {B : Nat} {w wr w1 w2 : World} {A A' : Option Addr} {k c k' c' : Nat} {xs ys : List Int} (ho : wr.ownsRow B 5 1 (.slice A k c) k (xs.map (Value.int .u8))) (hb : Below B w wr) (hB : B ≤ wr.heap.size) (b1 : Below wr.heap.size wr w1)
    (h2 : w2.ownsRow B 5 1 (.slice A' k' c') k' (xs.map (Value.int .u8) ++ ys.map (Value.int .u8))) (g2 : w1.grownBy w2 (Value.ownBlock (.slice A k c))) :
    w2.ownsRow B 5 1 (.slice A' k' c') k' ((xs ++ ys).map (Value.int .u8)) ∧ Below B w w2 := by
  rw [← List.map_append] at h2
  exact ⟨h2, (hb.trans (b1.mono hB)).grown g2 (Nat.le_trans hB b1.size) (fun j hj => (ho.lt j hj).1)⟩

set_option maxHeartbeats 4000000 in
theorem sealWrites_main (A : Option Addr) (n c : Nat) (ps : List Prt) (w : World) (h : Prts w A n c ps) (hl : longP ps = false) (hT : Tab w) :
    Calls Tryd.prog 3 #[.slice A n c] w (Ret (.bool true) w) := by
  obtain ⟨i0, hi, hz0, hz1, hz2⟩ := info_parts info_u8
  have hlen := h.len
  have hcap := h.cap
  have hmax := h.max
  unfold maxLen at hmax
  obtain ⟨h60, h300⟩ := longP_no hl
  have HP := Lib.hid h
  have HT := Lib.hid hT
  have HLO := Lib.hid hl
  have hrng := h.rng
  have CL := long_any A n c ps w h
  rw [hl] at CL
  have CL := Lib.hid CL
  have HLEN := Lib.hid (partsL_len ps (fun i hi => ⟨(hrng i (by omega)).2.1.2, h300 i hi⟩))
  have HNEXT := Lib.hid (partsL_next ps)
  have hn60 : (n : Int) ≤ 60 := by omega
  have H300 := Lib.hid h300
  have HRNG := Lib.hid hrng
  clear h hl h300 hrng hT
  go_enter Tryd.func3, Tryd.ntmps3
  go_wp2_with fail
  refine CL.out.mono ?_
  rintro e w0 ⟨rfl, rfl⟩
  go_wp2_with fail
  go_loopw [3, 4] (fun v q wr => ∃ (i : Nat) (A1 : Option Addr) (k1 c1 : Nat), i ≤ n ∧ v = .slice A1 k1 c1 ∧ q = .int .i64 i ∧ wr.ownsRow w.heap.size 5 1 (.slice A1 k1 c1) k1 ((partsL (ps.take i)).map (Value.int .u8)) ∧ Below w.heap.size w wr) (fun _ q _ => n - (intOf q).toNat)
  case atStart => exact ⟨0, none, 0, 0, Nat.zero_le _, rfl, rfl, World.ownsRow_nil _ _ _ _, Below.refl _ _⟩
  case round =>
    obtain ⟨i, A1, k1, c1, hin, rfl, rfl, hW, hB⟩ := hrel
    have hk1 : (partsL (ps.take i)).length = k1 := by simpa using hW.1
    have HW := Lib.hid hW
    have HB := Lib.hid hB
    have hbs := hB.size
    have HK1 := Lib.hid hk1
    by_cases hlt : i < n
    · obtain ⟨g, off, rfl, hc⟩ := (HP.out.below HB.out).at_ (by omega)
      obtain ⟨x0, x1, x2⟩ := hc i hlt
      have hle := HLEN.out i (by omega)
      have hk18 : k1 ≤ 18600 := by omega
      have hr := HRNG.out i hlt
      have h3 := H300.out i (by omega)
      have hnx := HNEXT.out i (by omega)
      obtain ⟨⟨k, z, s⟩, ex⟩ : ∃ x, ps.getD i prt0 = x := ⟨_, rfl⟩
      rw [ex] at x0 x1 x2 hr h3 hnx
      simp only at x0 x1 x2 hr h3
      obtain ⟨_, hz, _⟩ := hr
      have HZ := Lib.hid hz
      have HX := Lib.hid hnx
      clear hc ex hnx hW hB hk1
      by_cases hk0 : k = 0
      · subst hk0
        rw [show partL (0, z, s) = numL z from rfl] at HX
        have C := Lib.hid (refNum_own z wr HZ.out)
        go_wp2_with fail
        refine C.out.mono ?_
        rintro e w1 ⟨A2, n2, c2, rfl, ho2, hr2, b2⟩
        have hb2 := Byt.of_own ho2 hr2
        have hn2 : n2 ≤ 310 := by have := hb2.len; have := numL_len z HZ.out.2; omega
        have hbs2 := Nat.le_trans hbs b2.size
        have O2 := own_later HW.out b2
        have L2 := Lib.hid b2
        clear ho2 hr2 b2 C
        go_wp2_with (at_builtin; refine wpList_append_byt rfl _ _ 25 rfl w.heap.size 5 i0 Tryd.underlying25 hi hz0 hz1 hz2 _ k1 (partsL (ps.take i)) rfl (by exact O2) A2 n2 c2 (numL z) rfl hb2 (by omega) hbs2 ?_)
        intro A3 c3 w3 h3' g3
        have R := gather_step HW.out HB.out hbs L2.out h3' g3
        rw [← HX.out] at R
        have R := Lib.hid R
        clear h3' g3 hb2 O2
        go_wp2_with fail
        refine ⟨⟨i + 1, A3, k1 + n2, c3, by omega, rfl, rfl, R.out.1, R.out.2⟩, ?_⟩
        simp [intOf]; omega
      · by_cases hk1' : k = 1
        · subst hk1'
          rw [show partL (1, z, s) = [z % 256] from rfl] at HX
          have hb2 := one_byt wr (z % 256) (by omega)
          have O2 := HW.out.alloc (.cells #[.int .u8 (z % 256)] 5)
          have L2 : Hid (Below wr.heap.size wr (wr.alloc (.cells #[.int .u8 (z % 256)] 5))) := Lib.hid ((Below.refl _ _).alloc (Nat.le_refl _) _)
          have hbs2 := Nat.le_trans hbs L2.out.size
          go_wp2_with (at_builtin; refine wpList_append_byt rfl _ _ 25 rfl w.heap.size 5 i0 Tryd.underlying25 hi hz0 hz1 hz2 _ k1 (partsL (ps.take i)) rfl (by exact O2) _ 1 1 [z % 256] rfl (by exact hb2) (by omega) (by exact hbs2) ?_)
          intro A3 c3 w3 h3' g3
          have R := gather_step (ys := [z % 256]) HW.out HB.out hbs L2.out h3' g3
          rw [← HX.out] at R
          have R := Lib.hid R
          clear h3' g3 hb2 O2
          go_wp2_with fail
          refine ⟨⟨i + 1, A3, k1 + 1, c3, by omega, rfl, rfl, R.out.1, R.out.2⟩, ?_⟩
          simp [intOf]; omega
        · by_cases hk2 : k = 2
          · subst hk2
            by_cases hpos : 0 < z
            · rw [show partL (2, z, s) = [1] from by simp [partL, flagL, hpos]] at HX
              have hb2 := one_byt wr (1) (by omega)
              have O2 := HW.out.alloc (.cells #[.int .u8 (1)] 5)
              have L2 : Hid (Below wr.heap.size wr (wr.alloc (.cells #[.int .u8 (1)] 5))) := Lib.hid ((Below.refl _ _).alloc (Nat.le_refl _) _)
              have hbs2 := Nat.le_trans hbs L2.out.size
              go_wp2_with (at_builtin; refine wpList_append_byt rfl _ _ 25 rfl w.heap.size 5 i0 Tryd.underlying25 hi hz0 hz1 hz2 _ k1 (partsL (ps.take i)) rfl (by exact O2) _ 1 1 [1] rfl (by exact hb2) (by omega) (by exact hbs2) ?_)
              intro A3 c3 w3 h3' g3
              have R := gather_step (ys := [1]) HW.out HB.out hbs L2.out h3' g3
              rw [← HX.out] at R
              have R := Lib.hid R
              clear h3' g3 hb2 O2
              go_wp2_with fail
              refine ⟨⟨i + 1, A3, k1 + 1, c3, by omega, rfl, rfl, R.out.1, R.out.2⟩, ?_⟩
              simp [intOf]; omega
            · rw [show partL (2, z, s) = [0] from by simp [partL, flagL, hpos]] at HX
              have hb2 := one_byt wr (0) (by omega)
              have O2 := HW.out.alloc (.cells #[.int .u8 (0)] 5)
              have L2 : Hid (Below wr.heap.size wr (wr.alloc (.cells #[.int .u8 (0)] 5))) := Lib.hid ((Below.refl _ _).alloc (Nat.le_refl _) _)
              have hbs2 := Nat.le_trans hbs L2.out.size
              go_wp2_with (at_builtin; refine wpList_append_byt rfl _ _ 25 rfl w.heap.size 5 i0 Tryd.underlying25 hi hz0 hz1 hz2 _ k1 (partsL (ps.take i)) rfl (by exact O2) _ 1 1 [0] rfl (by exact hb2) (by omega) (by exact hbs2) ?_)
              intro A3 c3 w3 h3' g3
              have R := gather_step (ys := [0]) HW.out HB.out hbs L2.out h3' g3
              rw [← HX.out] at R
              have R := Lib.hid R
              clear h3' g3 hb2 O2
              go_wp2_with fail
              refine ⟨⟨i + 1, A3, k1 + 1, c3, by omega, rfl, rfl, R.out.1, R.out.2⟩, ?_⟩
              simp [intOf]; omega
          · have q0 : (k == 0) = false := by simp; exact hk0
            have q1 : (k == 1) = false := by simp; exact hk1'
            have q2 : (k == 2) = false := by simp; exact hk2
            have hpl : partL (k, z, s) = textL (nums s) := by unfold partL; rw [if_neg hk0, if_neg hk1', if_neg hk2]
            have htl := textL_len (nums s) (by rw [nums_len]; omega)
            rw [nums_len] at htl
            have HTL := Lib.hid htl
            clear hk0 hk1' hk2 htl
            rw [show partL (k, z, s) = textL (nums s) from hpl] at HX
            have C := Lib.hid (refText_own s wr (by omega))
            go_wp2_with fail
            refine C.out.mono ?_
            rintro e w1 ⟨A2, n2, c2, rfl, ho2, hr2, b2⟩
            have hb2 := Byt.of_own ho2 hr2
            have hn2 : n2 ≤ 310 := by have := hb2.len; have := HTL.out; omega
            have hbs2 := Nat.le_trans hbs b2.size
            have O2 := own_later HW.out b2
            have L2 := Lib.hid b2
            clear ho2 hr2 b2 C
            go_wp2_with (at_builtin; refine wpList_append_byt rfl _ _ 25 rfl w.heap.size 5 i0 Tryd.underlying25 hi hz0 hz1 hz2 _ k1 (partsL (ps.take i)) rfl (by exact O2) A2 n2 c2 (textL (nums s)) rfl hb2 (by omega) hbs2 ?_)
            intro A3 c3 w3 h3' g3
            have R := gather_step HW.out HB.out hbs L2.out h3' g3
            rw [← HX.out] at R
            have R := Lib.hid R
            clear h3' g3 hb2 O2
            go_wp2_with fail
            refine ⟨⟨i + 1, A3, k1 + n2, c3, by omega, rfl, rfl, R.out.1, R.out.2⟩, ?_⟩
            simp [intOf]; omega
    · have hin' : i = n := by omega
      have hall : ps.take i = ps := List.take_of_length_le (by omega)
      rw [hall] at hW
      have C := Lib.hid (written_any A n c ps wr (HP.out.below HB.out) HLO.out)
      have HWB := Lib.hid (Byt.of_own hW (partsL_rng ps))
      clear hin' hall hW hB HW hk1
      go_wp2_with fail
      refine C.out.mono ?_
      rintro e w1 ⟨A2, n2, c2, rfl, hb2, b2⟩
      have H1 := Lib.hid hb2
      have L1 := Lib.hid (Below.then HB.out b2)
      have HW1 := Lib.hid (HWB.out.below b2)
      clear hb2 b2 C
      go_wp2_with fail
      refine (Quiet.ret (same_yes _ _ _ _ _ _ _ _ _ H1.out HW1.out rfl)).mono ?_
      rintro e w3 ⟨rfl, b3⟩
      have L3 := Lib.hid (Below.then L1.out b3)
      clear b3
      go_wp2_with fail
      refine (awake_any _ (HT.out.ret L3.out)).mono ?_
      rintro e w4 ⟨rfl, b4⟩
      have L4 := Lib.hid (Below.then L3.out b4)
      clear b4
      go_wp2
      go_ret
      exact ⟨rfl, L4.out⟩

set_option maxHeartbeats 1000000 in
theorem sealWrites_walk (A : Option Addr) (n c : Nat) (ps : List Prt) (w : World) (h : Prts w A n c ps) (hT : Tab w) :
    Calls Tryd.prog 3 #[.slice A n c] w (Ret (.bool true) w) := by
  cases hl : longP ps with
  | false => exact sealWrites_main A n c ps w h hl hT
  | true =>
    have CL := long_any A n c ps w h
    rw [hl] at CL
    have CL := Lib.hid CL
    have HT := Lib.hid hT
    clear h hl hT
    go_enter Tryd.func3, Tryd.ntmps3
    go_wp2_with fail
    refine CL.out.mono ?_
    rintro e w0 ⟨rfl, rfl⟩
    go_wp2_with fail
    refine (awake_any _ HT.out).mono ?_
    rintro e w4 ⟨rfl, b4⟩
    have L4 := Lib.hid b4
    clear b4
    go_wp2
    go_ret
    exact ⟨rfl, L4.out⟩
end Go.Proofs.YtlnhillpghjknaaDoor


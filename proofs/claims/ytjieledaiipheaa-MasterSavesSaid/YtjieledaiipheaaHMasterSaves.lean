/- What it says: 'Rows.MasterSavesSaid': for every input trothlaw06.MasterSaves answers true, and what came in reads behind the call as before. No condition. -/
import Derived.Test.YtjieledaiipheaaPk3

/- the walk of the law MasterSaves: whatever comes in, it answers true and turns nothing that was there. -/
namespace Go.Proofs.Ytjieledaiipheaa
open Go.RowKit

/-- What stands in the sector of the one record that was saved. -/
theorem one_saved {m : Ms} (hm : m.ok) : (saveS (St.new 2) m).rErr (m.gen % 2) = 0 ∧ (saveS (St.new 2) m).rBytes (m.gen % 2) = wrapL 1 (bodyM m) ∧ loadR0 (saveS (St.new 2) m).rBytes (saveS (St.new 2) m).rErr = m ∧ loadE0 (saveS (St.new 2) m).rBytes (saveS (St.new 2) m).rErr = 0 ∧ (saveS (St.new 2) m).syncs = 1 ∧ saveE (St.new 2) m = 0 := by
  obtain ⟨a1, a2, a3, a4⟩ := Mst.start.save hm
  have h := a3.rd (secN m) (secN_lt m)
  rw [secN_int] at h
  have hl := (Lst.first (f := (St.new 2).syn) hm (fun _ => rfl) (msL_rec (s := St.new 2) hm)).load
  rw [← a2] at hl
  refine ⟨h.1, ?_, by rw [a3.load.1]; exact hl.1, by rw [a3.load.2]; exact hl.2, a4, a1⟩
  rw [h.2, a2, upd_here]
  rfl

set_option maxRecDepth 100000 in
set_option maxHeartbeats 16000000 in
theorem masterSaves_walk (m : Ms) (w : World) (hm : m.fits) :
    Calls Try.prog 3 #[msV m] w (Ret (.bool true) w) := by
  obtain ⟨W0, hW0⟩ : ∃ W0, W0 = w.alloc (.cells #[.int .i64 m.gen, .int .i64 m.inc, .int .i64 m.first, .int .i64 m.lsn, .int .i64 m.chk] 23) := ⟨_, rfl⟩
  have K0 : Hid (Bk W0 w.heap.size 23 (msC m)) := Lib.hid (by rw [hW0]; exact Bk.new w _ _)
  have B0 : Hid (Below w.heap.size w W0) := Lib.hid (by rw [hW0]; exact (Below.refl _ _).alloc (Nat.le_refl _) _)
  have HW0 := Lib.hid hW0
  have HM := Lib.hid hm
  have CN := Lib.hid (new_two W0)
  have CMAY : Hid (∀ w, Calls Try.prog 10 #[.agg #[.int .i64 m.gen, .int .i64 m.inc, .int .i64 m.first, .int .i64 m.lsn, .int .i64 m.chk]] w (Ret (.bool (decide m.ok)) w)) := Lib.hid (fun w => rmay_any m w)
  rw [show msV m = .agg #[.int .i64 m.gen, .int .i64 m.inc, .int .i64 m.first, .int .i64 m.lsn, .int .i64 m.chk] from rfl]
  clear hm hW0
  by_cases hok : m.ok
  · have O := Lib.hid (one_saved hok)
    have HOK := Lib.hid hok
    rw [decide_eq_true hok] at CMAY
    clear hok
    go_enter Try.func3, Try.ntmps3
    go_wp2_with fail
    rw [← HW0.out]
    refine CN.out.mono ?_
    rintro e w1 ⟨b, rfl, h1, b1⟩
    have K1 : Hid (Bk w1 w.heap.size 23 (msC m)) := Lib.hid (K0.out.later b1)
    have B1 : Hid (Below w.heap.size w w1) := Lib.hid (B0.out.trans (b1.mono B0.out.size))
    have S1 : Hid (W0.heap.size ≤ w1.heap.size ∧ w.heap.size < W0.heap.size) := Lib.hid ⟨b1.size, K0.out.lt⟩
    have CS := save_any h1 b1.size m HM.out (Nat.zero_lt_succ _) (by rw [putS_syncs0 Mst.start]; exact Nat.zero_lt_succ _)
    rw [show msV m = .agg #[.int .i64 m.gen, .int .i64 m.inc, .int .i64 m.first, .int .i64 m.lsn, .int .i64 m.chk] from rfl, O.out.2.2.2.2.2] at CS
    have CS := Lib.hid CS
    clear h1 b1 CN K0 B0 HW0
    go_wp2_with (refine wpList_load_row rfl 23 _ rfl w.heap.size rfl 23 #[.int .i64 m.gen, .int .i64 m.inc, .int .i64 m.first, .int .i64 m.lsn, .int .i64 m.chk] (0, 0) _ K1.out Try.underlying23 rfl ms_info ?_)
    refine CS.out.mono ?_
    rintro e w2 ⟨rfl, h2, b2⟩
    have K2 : Hid (Bk w2 w.heap.size 23 (msC m)) := Lib.hid (K1.out.bel b2 S1.out.2)
    have B2 : Hid (Below w.heap.size w w2) := Lib.hid (B1.out.trans (b2.mono (Nat.le_of_lt S1.out.2)))
    have H2 := Lib.hid h2
    have CL := load_any h2
    rw [O.out.2.2.1, O.out.2.2.2.1, show msV m = .agg #[.int .i64 m.gen, .int .i64 m.inc, .int .i64 m.first, .int .i64 m.lsn, .int .i64 m.chk] from rfl] at CL
    have CL := Lib.hid CL
    clear h2 b2 CS K1 B1
    go_wp2_with fail
    refine CL.out.mono ?_
    rintro e w3 ⟨rfl, b3⟩
    obtain ⟨W3, hW3⟩ : ∃ W3, W3 = w3.alloc (.cells #[.int .i64 m.gen, .int .i64 m.inc, .int .i64 m.first, .int .i64 m.lsn, .int .i64 m.chk] 23) := ⟨_, rfl⟩
    have bb3 : Below w2.heap.size w2 W3 := by rw [hW3]; exact b3.alloc b3.size _
    have K3 : Hid (Bk W3 w.heap.size 23 (msC m)) := Lib.hid (K2.out.later bb3)
    have B3 : Hid (Below w.heap.size w W3) := Lib.hid (B2.out.trans (bb3.mono B2.out.size))
    have H3 := Lib.hid (H2.out.below bb3)
    obtain ⟨q, hq⟩ : ∃ q, w3.heap.size = q := ⟨_, rfl⟩
    have N3 : Hid (Bk W3 q 23 #[.int .i64 m.gen, .int .i64 m.inc, .int .i64 m.first, .int .i64 m.lsn, .int .i64 m.chk]) := Lib.hid (by rw [hW3, ← hq]; exact Bk.new _ _ _)
    have KL : Hid (Bk (w3.alloc (.cells #[.int .i64 m.gen, .int .i64 m.inc, .int .i64 m.first, .int .i64 m.lsn, .int .i64 m.chk] 23)) w.heap.size 23 (msC m)) := Lib.hid (by rw [← hW3]; exact K3.out)
    have HW3 := Lib.hid hW3
    have HQ := Lib.hid hq
    clear b3 hW3 bb3 CL hq H2 K2 B2
    go_wp2_with (refine wpList_load_row rfl 23 _ rfl w.heap.size rfl 23 #[.int .i64 m.gen, .int .i64 m.inc, .int .i64 m.first, .int .i64 m.lsn, .int .i64 m.chk] (0, 0) _ KL.out Try.underlying23 rfl ms_info ?_)
    rw [← HW3.out, HQ.out]
    refine (CMAY.out W3).mono ?_
    rintro e w4 ⟨rfl, b4⟩
    have K4 : Hid (Bk w4 w.heap.size 23 (msC m)) := Lib.hid (K3.out.later b4)
    have N4 : Hid (Bk w4 q 23 #[.int .i64 m.gen, .int .i64 m.inc, .int .i64 m.first, .int .i64 m.lsn, .int .i64 m.chk]) := Lib.hid (N3.out.later b4)
    have B4 : Hid (Below w.heap.size w w4) := Lib.hid (B3.out.trans (b4.mono B3.out.size))
    have H4 := Lib.hid (H3.out.below b4)
    clear b4 HW3 HQ KL K3 N3 B3 H3 CMAY
    obtain ⟨gn, hgn⟩ := Int.eq_ofNat_of_zero_le (show 0 ≤ m.gen from by have := HOK.out.gen; omega)
    have HGN := Lib.hid hgn
    have CR := hasD_read H4.out (m.gen % 2)
    rw [O.out.1, O.out.2.1, hgn] at CR
    have CR := Lib.hid CR
    have cg : w4.cell? ⟨w.heap.size, 0, none⟩ = some (.int .i64 (gn : Int)) := by rw [← hgn]; exact K4.out.cell 0
    clear hgn
    go_wp2_with fail
    refine CR.out.mono ?_
    rintro e w5 ⟨A, n, c, rfl, hy, _, b5⟩
    have K5 : Hid (Bk w5 w.heap.size 23 (msC m)) := Lib.hid (K4.out.later b5)
    have N5 : Hid (Bk w5 q 23 #[.int .i64 m.gen, .int .i64 m.inc, .int .i64 m.first, .int .i64 m.lsn, .int .i64 m.chk]) := Lib.hid (N4.out.later b5)
    have B5 : Hid (Below w.heap.size w w5) := Lib.hid (B4.out.trans (b5.mono B4.out.size))
    have H5 := Lib.hid (H4.out.below b5)
    have Y5 := Lib.hid hy
    have CB := rbody_any m HM.out w5
    rw [show msV m = .agg #[.int .i64 m.gen, .int .i64 m.inc, .int .i64 m.first, .int .i64 m.lsn, .int .i64 m.chk] from rfl] at CB
    have CB := Lib.hid CB
    clear hy b5 CR cg K4 N4 B4 H4
    go_wp2_with (refine wpList_load_row rfl 23 _ rfl w.heap.size rfl 23 #[.int .i64 m.gen, .int .i64 m.inc, .int .i64 m.first, .int .i64 m.lsn, .int .i64 m.chk] (0, 0) _ K5.out Try.underlying23 rfl ms_info ?_)
    refine CB.out.mono ?_
    rintro e w6 ⟨A2, n2, c2, rfl, ho, hr, b6⟩
    have hlen : (bodyM m).length ≤ 254 := by have := bodyM_len HM.out; omega
    have CW := rwrap_any 1 (by omega) A2 n2 c2 (bodyM m) w6 (Byt.of_own ho hr)
    rw [wrapE_ok (by omega) (by omega), wrapB_ok (by omega) (by omega)] at CW
    have CW := Lib.hid CW
    have K6 : Hid (Bk w6 w.heap.size 23 (msC m)) := Lib.hid (K5.out.later b6)
    have N6 : Hid (Bk w6 q 23 #[.int .i64 m.gen, .int .i64 m.inc, .int .i64 m.first, .int .i64 m.lsn, .int .i64 m.chk]) := Lib.hid (N5.out.later b6)
    have B6 : Hid (Below w.heap.size w w6) := Lib.hid (B5.out.trans (b6.mono B5.out.size))
    have H6 := Lib.hid (H5.out.below b6)
    have Y6 := Lib.hid (Y5.out.below b6)
    clear hlen ho hr b6 CB K5 N5 B5 H5 Y5
    go_wp2_with fail
    refine CW.out.mono ?_
    rintro e w7 ⟨A3, n3, c3, rfl, hy3, b7⟩
    have K7 : Hid (Bk w7 w.heap.size 23 (msC m)) := Lib.hid (K6.out.later b7)
    have N7 : Hid (Bk w7 q 23 #[.int .i64 m.gen, .int .i64 m.inc, .int .i64 m.first, .int .i64 m.lsn, .int .i64 m.chk]) := Lib.hid (N6.out.later b7)
    have B7 : Hid (Below w.heap.size w w7) := Lib.hid (B6.out.trans (b7.mono B6.out.size))
    have H7 := Lib.hid (H6.out.below b7)
    have CSM := Lib.hid (same_yes A n c A3 n3 c3 _ _ w7 (Y6.out.below b7) hy3 rfl)
    clear hy3 b7 CW K6 N6 B6 H6 Y6
    have c0 : w7.cell? ⟨w.heap.size, 0, none⟩ = some (.int .i64 m.gen) := K7.out.cell 0
    have c1 : w7.cell? ⟨w.heap.size, 1, none⟩ = some (.int .i64 m.inc) := K7.out.cell 1
    have c2_ : w7.cell? ⟨w.heap.size, 2, none⟩ = some (.int .i64 m.first) := K7.out.cell 2
    have c3_ : w7.cell? ⟨w.heap.size, 3, none⟩ = some (.int .i64 m.lsn) := K7.out.cell 3
    have c4 : w7.cell? ⟨w.heap.size, 4, none⟩ = some (.int .i64 m.chk) := K7.out.cell 4
    have d0 : w7.cell? ⟨q, 0, none⟩ = some (.int .i64 m.gen) := N7.out.cell 0
    have d1 : w7.cell? ⟨q, 1, none⟩ = some (.int .i64 m.inc) := N7.out.cell 1
    have d2 : w7.cell? ⟨q, 2, none⟩ = some (.int .i64 m.first) := N7.out.cell 2
    have d3 : w7.cell? ⟨q, 3, none⟩ = some (.int .i64 m.lsn) := N7.out.cell 3
    have d4 : w7.cell? ⟨q, 4, none⟩ = some (.int .i64 m.chk) := N7.out.cell 4
    go_wp2_with fail
    refine CSM.out.mono ?_
    rintro e w8 ⟨rfl, k8, rfl⟩
    have B8 : Hid (Below w.heap.size w (w7.drewN k8)) := Lib.hid (below_drewN B7.out k8)
    have CY := hasD_syncs (H7.out.below (below_drewN (Below.refl _ _) k8))
    rw [O.out.2.2.2.2.1] at CY
    have CY := Lib.hid CY
    clear c0 c1 c2_ c3_ c4 d0 d1 d2 d3 d4 CSM
    go_wp2_with fail
    refine CY.out.mono ?_
    rintro e w9 ⟨rfl, rfl⟩
    go_wp2_with fail
    refine (awakeM_any _).mono ?_
    rintro e w10 ⟨rfl, b10⟩
    have B10 : Hid (Below w.heap.size w w10) := Lib.hid (B8.out.trans (b10.mono B8.out.size))
    clear b10
    go_wp2_with fail
    go_ret
    exact ⟨rfl, B10.out⟩
  · have HNO := Lib.hid hok
    rw [decide_eq_false hok] at CMAY
    clear hok
    go_enter Try.func3, Try.ntmps3
    go_wp2_with fail
    rw [← HW0.out]
    refine CN.out.mono ?_
    rintro e w1 ⟨b, rfl, h1, b1⟩
    have K1 : Hid (Bk w1 w.heap.size 23 (msC m)) := Lib.hid (K0.out.later b1)
    have B1 : Hid (Below w.heap.size w w1) := Lib.hid (B0.out.trans (b1.mono B0.out.size))
    have S1 : Hid (W0.heap.size ≤ w1.heap.size ∧ w.heap.size < W0.heap.size) := Lib.hid ⟨b1.size, K0.out.lt⟩
    have CS := save_any h1 b1.size m HM.out (Nat.zero_lt_succ _) (by rw [putS_syncs0 Mst.start]; exact Nat.zero_lt_succ _)
    rw [show msV m = .agg #[.int .i64 m.gen, .int .i64 m.inc, .int .i64 m.first, .int .i64 m.lsn, .int .i64 m.chk] from rfl, (Mst.no HNO.out).1, (Mst.no HNO.out).2] at CS
    have CS := Lib.hid CS
    clear h1 b1 CN K0 B0 HW0
    go_wp2_with (refine wpList_load_row rfl 23 _ rfl w.heap.size rfl 23 #[.int .i64 m.gen, .int .i64 m.inc, .int .i64 m.first, .int .i64 m.lsn, .int .i64 m.chk] (0, 0) _ K1.out Try.underlying23 rfl ms_info ?_)
    refine CS.out.mono ?_
    rintro e w2 ⟨rfl, h2, b2⟩
    have K2 : Hid (Bk w2 w.heap.size 23 (msC m)) := Lib.hid (K1.out.bel b2 S1.out.2)
    have B2 : Hid (Below w.heap.size w w2) := Lib.hid (B1.out.trans (b2.mono (Nat.le_of_lt S1.out.2)))
    have H2 := Lib.hid h2
    have CL := load_any h2
    rw [Mst.start.load.1, Mst.start.load.2, new_load, show msV ms0 = .agg #[.int .i64 0, .int .i64 0, .int .i64 0, .int .i64 0, .int .i64 0] from rfl, show lostE ms0 = 60 from rfl] at CL
    have CL := Lib.hid CL
    clear h2 b2 CS K1 B1
    go_wp2_with fail
    refine CL.out.mono ?_
    rintro e w3 ⟨rfl, b3⟩
    obtain ⟨W3, hW3⟩ : ∃ W3, W3 = w3.alloc (.cells #[.int .i64 0, .int .i64 0, .int .i64 0, .int .i64 0, .int .i64 0] 23) := ⟨_, rfl⟩
    have bb3 : Below w2.heap.size w2 W3 := by rw [hW3]; exact b3.alloc b3.size _
    have K3 : Hid (Bk W3 w.heap.size 23 (msC m)) := Lib.hid (K2.out.later bb3)
    have B3 : Hid (Below w.heap.size w W3) := Lib.hid (B2.out.trans (bb3.mono B2.out.size))
    have H3 := Lib.hid (H2.out.below bb3)
    obtain ⟨q, hq⟩ : ∃ q, w3.heap.size = q := ⟨_, rfl⟩
    have N3 : Hid (Bk W3 q 23 #[.int .i64 0, .int .i64 0, .int .i64 0, .int .i64 0, .int .i64 0]) := Lib.hid (by rw [hW3, ← hq]; exact Bk.new _ _ _)
    have KL : Hid (Bk (w3.alloc (.cells #[.int .i64 0, .int .i64 0, .int .i64 0, .int .i64 0, .int .i64 0] 23)) w.heap.size 23 (msC m)) := Lib.hid (by rw [← hW3]; exact K3.out)
    have HW3 := Lib.hid hW3
    have HQ := Lib.hid hq
    clear b3 hW3 bb3 CL hq H2 K2 B2
    go_wp2_with (refine wpList_load_row rfl 23 _ rfl w.heap.size rfl 23 #[.int .i64 m.gen, .int .i64 m.inc, .int .i64 m.first, .int .i64 m.lsn, .int .i64 m.chk] (0, 0) _ KL.out Try.underlying23 rfl ms_info ?_)
    rw [← HW3.out, HQ.out]
    refine (CMAY.out W3).mono ?_
    rintro e w4 ⟨rfl, b4⟩
    have K4 : Hid (Bk w4 w.heap.size 23 (msC m)) := Lib.hid (K3.out.later b4)
    have N4 : Hid (Bk w4 q 23 #[.int .i64 0, .int .i64 0, .int .i64 0, .int .i64 0, .int .i64 0]) := Lib.hid (N3.out.later b4)
    have B4 : Hid (Below w.heap.size w w4) := Lib.hid (B3.out.trans (b4.mono B3.out.size))
    have H4 := Lib.hid (H3.out.below b4)
    clear b4 HW3 HQ KL K3 N3 B3 H3 CMAY
    have d0 : w4.cell? ⟨q, 0, none⟩ = some (.int .i64 0) := N4.out.cell 0
    have d1 : w4.cell? ⟨q, 1, none⟩ = some (.int .i64 0) := N4.out.cell 1
    have d2 : w4.cell? ⟨q, 2, none⟩ = some (.int .i64 0) := N4.out.cell 2
    have d3 : w4.cell? ⟨q, 3, none⟩ = some (.int .i64 0) := N4.out.cell 3
    have d4 : w4.cell? ⟨q, 4, none⟩ = some (.int .i64 0) := N4.out.cell 4
    have CY := hasD_syncs H4.out
    rw [show (St.new 2).syncs = 0 from rfl] at CY
    have CY := Lib.hid CY
    go_wp2_with fail
    refine CY.out.mono ?_
    rintro e w5 ⟨rfl, rfl⟩
    clear d0 d1 d2 d3 d4 CY
    go_wp2_with fail
    refine (awakeM_any _).mono ?_
    rintro e w6 ⟨rfl, b6⟩
    have B6 : Hid (Below w.heap.size w w6) := Lib.hid (B4.out.trans (b6.mono B4.out.size))
    clear b6
    go_wp2_with fail
    go_ret
    exact ⟨rfl, B6.out⟩
end Go.Proofs.Ytjieledaiipheaa

/- 'Rows.MasterSavesSaid': for every input trothlaw06.MasterSaves answers true, and what came in reads behind the call as before. No condition. -/
namespace Go.Proofs.Ytjieledaiipheaa
open Go.ChangeShapes Go.WideShapes Go.ChangeAt Go.RowKit

set_option maxRecDepth 100000 in
theorem masterSaves_lifted (os : Os) (started : os.Started) (H : Type) (enc : TypeId × Value → H) :
    ReturnsInHanded {} Try.checked os 3 .any (Rows.masterSavesSpec.pre6 enc Try.prog Try.f3 Rows.masterSavesRow.domain false) (Rows.masterSavesSpec.post enc Try.prog Try.f3 false true false false) := by
  refine returnsInHanded_of_change_sized (C := Try.checked) own_knob started (by kernel_rfl) Try.func3
    (ChangeSpec.witness6 (enc := enc) (C := Try.checked) false ⟨#[], #[.agg #[.int .i64 0, .int .i64 0, .int .i64 0, .int .i64 0, .int .i64 0]], []⟩ 8 (by kernel_rfl) (by kernel_rfl) (by kernel_rfl) (by kernel_rfl)) ?_
  intro W base args ds gs before hval0 hW _ hsz0 _
  have hval : ∀ (j : Nat) t v, Try.f3.params[j]? = some t → args[j]? = some v → Value.okWide Try.prog W .any base t v := hval0
  have hW' := hW
  obtain ⟨p, q, hA0, hV, rfl, hfz, hnd⟩ := hW
  have hA : DataW.TrodAll enc Try.prog W 0 (fun _ => true) true Try.f3.params.toList args.toList ds p := hA0
  rw [Try.params3] at hA hval
  obtain ⟨v0, vs0, d0, ds0, p0, q0, hargs, rfl, rfl, h0, r0⟩ := trodAll_cons hA
  obtain ⟨rfl, rfl, rfl⟩ := trodAll_nil r0
  obtain rfl : args = #[v0] := by cases args; simp_all
  obtain ⟨rfl, rfl⟩ := trodVars_none hV
  have k0 := h0
  have lt0 : ∀ x ∈ p0, x.block < W.heap.size := by obtain ⟨m, hm⟩ := k0; exact DataW.trod_lt m _ _ _ hm
  obtain ⟨m0, rfl, b0⟩ := open_ms (hval 0 23 v0 rfl rfl) h0
  clear hA0 hval0 hsz0
  refine (masterSaves_walk m0 W b0).mono fun e W' ⟨he, bel⟩ => ?_
  subst he
  exact ⟨_, rfl, _, _, _, [], _, [], hW', trodAll_mk1 (shut_bool Try.underlying4 _), (trodAll_cons_mk (Below.trod laidOut (by kernel_rfl) (of_decide_eq_true (by kernel_rfl)) k0 bel lt0) trodAll_mk0), rfl, bel.frame _, fun h => by cases h⟩

/-- The statement. -/
theorem masterSaves_holds : Rows.MasterSavesSaid :=
  OpenClaim.holds_of_wide 3 Try.f3 rfl rfl rfl rfl rfl rfl rfl ⟨rfl, rfl, rfl, rfl, rfl⟩ rfl rfl rfl rfl rfl (by kernel_rfl) Try.func3 (by kernel_rfl)
    (of_decide_eq_true (by kernel_rfl)) (by unfold Func.isWrapper; first | (rw [if_pos (by decide +kernel)]; kernel_rfl) | (rw [if_neg (by decide +kernel)]; exact ⟨rfl, rfl⟩))
    (fun os started H enc _ => masterSaves_lifted os started H enc)
#print axioms masterSaves_holds
end Go.Proofs.Ytjieledaiipheaa

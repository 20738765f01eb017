/- What it says: 'Rows.WalOwnCardSaid': for every input trothlaw09.WalOwn answers true, and what came in reads behind the call as before. No condition but that the listed variables read as the program's text lays them, which the card ties. -/
import Derived.Test.YtfmfmdiegabobabGreatDoorPw31
import Derived.Test.YtfmfmdiegabobabGreatDoorPw32
import Derived.Test.YtfmfmdiegabobabGreatDoorPw33
import Derived.LoopTactic
import Derived.Deep.CutBlock
import Derived.Test.YtfmfmdiegabobabGreatDoorCards
import Derived.Test.YtfmfmdiegabobabGreatDoorTie
import Derived.SevenTiedAt
import Derived.LaidMore
import Derived.Stop.Joined

set_option linter.unusedSimpArgs false
set_option linter.unusedVariables false
set_option linter.deprecated false
set_option linter.unusedSectionVars false
set_option linter.all false
set_option maxRecDepth 100000
set_option maxHeartbeats 16000000
namespace Go.Proofs.YtfmfmdiegabobabGreatDoor

/- the walk of the law WalOwn: whatever comes in, it answers true and turns nothing that was there. -/
section
open Go.RowKit
theorem walOwn_walk (x : Xr) (w : World) (hx : XrIn w.heap.size w x) (hT : Tab w) : Calls Tryz.prog 3 #[x.val] w (Ret (.bool true) w) := by
 have hg : 0 < w.heap.size := World.block_lt_of_cell? w _ (hT 0 (by omega))
 have HT := Lib.hid hT
 have HX := Lib.hid hx
 obtain ⟨q0, hq0⟩ : ∃ q0, w.heap.size = q0 := ⟨_, rfl⟩
 obtain ⟨C, hC⟩ : ∃ C, C = x.cells := ⟨_, rfl⟩
 obtain ⟨W1, hW1⟩ : ∃ W1, W1 = w.alloc (.cells C 30) := ⟨_, rfl⟩
 have hb1 : Below w.heap.size w W1 := by rw [hW1]; exact (Below.refl _ _).alloc (Nat.le_refl _) _
 have V1 : Hid (Bk W1 q0 30 C) := Lib.hid (by rw [hW1, ← hq0]; exact Bk.new w _ _)
 have HS : Hid (C.size = 16) := Lib.hid (by rw [hC]; rfl)
 have CG := Lib.hid (great_any x w.heap.size W1 (hx.calm (Calm.of_below hb1)))
 have BW1 := Lib.hid hb1
 have HW := Lib.hid hW1
 have HC : Hid (x.val = .agg C) := Lib.hid (by rw [Xr.val_eq, hC])
 have HQ0 : Hid (q0 < W1.heap.size) := Lib.hid V1.out.lt
 rw [HC.out] at CG ⊢
 clear hx hW1 hb1 hT hC
 go_enter Tryz.func3, Tryz.ntmps3
 go_upto_region 1 with fail
 (try rw [hq0])
 rw [← HW.out]
 clear HW
 go_wp2_with (refine wpList_load_row rfl 30 _ rfl q0 rfl 30 _ (0, 0) _ V1.out Tryz.underlying30 rfl (by rw [HS.out]; exact inf_rec) ?_; simp only [Act.put])
 refine CG.out.mono ?_
 rintro e w2 ⟨bg, rfl, hgr, b2⟩
 have Bw2 : Hid (Below w.heap.size w w2) := Lib.hid (BW1.out.trans (b2.mono BW1.out.size))
 have V2 := Lib.hid (V1.out.later b2)
 have HG := Lib.hid hgr
 have HQ2 : Hid (q0 < w2.heap.size) := Lib.hid V2.out.lt
 clear b2 CG hgr V1
 cases bg with
 | true =>
  have CA := Lib.hid (awake9_any (Has.emp w.heap.size w2) Bw2.out.size hg (HT.out.below Bw2.out hg))
  go_wp2_with fail
  refine CA.out.mono ?_
  rintro e w3 ⟨rfl, _, b3⟩
  have R9 : Hid (Below w.heap.size w w3) := Lib.hid (Bw2.out.trans b3)
  clear b3 CA
  go_wp2_with fail
  go_ret
  exact ⟨rfl, R9.out⟩
 | false =>
  have HNG := Lib.hid (HG.out rfl)
  have hg2 : Hid (0 < w2.heap.size) := Lib.hid (Nat.lt_of_lt_of_le hg Bw2.out.size)
  have CM := Lib.hid (made_any (Has.emp w2.heap.size w2) (Nat.le_refl _) hg2.out (HT.out.below Bw2.out hg) 40 (by omega))
  clear HG
  go_wp2_with fail
  refine CM.out.mono ?_
  rintro e w3 ⟨d, b, s, rfl, hm, h3, b3⟩
  have B3 := Lib.hid b3
  have H3 := Lib.hid h3
  have HM := Lib.hid hm
  have Bw3 : Hid (Below w.heap.size w w3) := Lib.hid (Bw2.out.trans (b3.mono Bw2.out.size))
  have V3 := Lib.hid (V2.out.later b3)
  have X3 : Hid (XrIn w3.heap.size w3 x) := Lib.hid ((HX.out.calm (Calm.of_below Bw3.out)).up Bw3.out.size)
  have CC := copy_new x w3 X3.out HNG.out
  rw [HC.out] at CC
  have CC := Lib.hid CC
  clear b3 h3 hm CM
  go_wp2_with (refine wpList_load_row rfl 30 _ rfl q0 rfl 30 _ (0, 0) _ V3.out Tryz.underlying30 rfl (by rw [HS.out]; exact inf_rec) ?_; simp only [Act.put])
  refine CC.out.mono ?_
  rintro e w4 ⟨y, rfl, hy, hyn, hyr, b4, hyw⟩
  obtain ⟨D, hD⟩ : ∃ D, D = y.cells := ⟨_, rfl⟩
  have HD : Hid (y.val = .agg D) := Lib.hid (by rw [Xr.val_eq, hD])
  have HD1 : Hid (D.all (·.oneCell') = true ∧ D.size = 16) := Lib.hid (by rw [hD]; exact ⟨Xr.cells_one y, rfl⟩)
  obtain ⟨q5, hq5⟩ : ∃ q5, w4.heap.size = q5 := ⟨_, rfl⟩
  obtain ⟨W5, hW5⟩ : ∃ W5, W5 = w4.alloc (.cells D 30) := ⟨_, rfl⟩
  have b5 : Below w4.heap.size w4 W5 := by rw [hW5]; exact (Below.refl _ _).alloc (Nat.le_refl _) _
  have H5 : Hid (Has w2.heap.size ((recV y q5).star ((lgR b d (lgMade 40)).star ((dsk d s).star emp))) W5) := Lib.hid (by rw [hW5, hD, ← hq5]; exact recV_new H3.out B3.out.size hy hyn b4 hyw)
  have B5 : Hid (Below w2.heap.size w2 W5) := Lib.hid ((B3.out.trans (b4.mono B3.out.size)).trans (b5.mono (Nat.le_trans B3.out.size b4.size)))
  have HB5 : Hid (w2.heap.size ≤ W5.heap.size) := Lib.hid B5.out.size
  have HYR : Hid (y.read = x.read) := Lib.hid hyr
  have V5 : Hid (Bk W5 q5 30 D) := Lib.hid (by rw [hD]; exact (recV_at H5.out).2)
  have CA := own_append H5.out.swap HB5.out (HT.out.below (Bw2.out.trans (B5.out.mono Bw2.out.size)) hg) y (recV_at H5.out).1
  rw [HD.out] at CA ⊢
  have HW5 := Lib.hid hW5
  clear hy hyn hyr b4 hyw hD hW5 b5 CC H3 B3 V3 X3
  by_cases he : encE y.read = 0
  ·obtain ⟨e1, e2⟩ := lgA_app he
   rw [e1, e2, he] at CA
   have CA := Lib.hid CA
   have HE := Lib.hid he
   clear e1 e2 he
   go_upto_region 5 with (refine wpList_store_new rfl (W := w4) rfl (c := xr0.cells) (c' := D) rfl (by first | rfl | (rw [hq5]; rfl)) rfl (by rw [HD1.out.2]; exact inf_rec) (by rw [HD1.out.2]; rfl) HD1.out.1 ?_; simp only [Act.put])
   (try rw [hq5])
   rw [← HW5.out]
   clear HW5
   go_wp2_with (refine wpList_load_row rfl 30 _ rfl q5 rfl 30 _ (0, 0) _ V5.out Tryz.underlying30 rfl (by rw [HD1.out.2]; exact inf_rec) ?_; simp only [Act.put])
   refine CA.out.mono ?_
   rintro e w6 ⟨rfl, h6, b6⟩
   have H6 : Hid (Has w2.heap.size ((recV y q5).star ((lgR b d (lgA y.read)).star ((dsk d s).star emp))) w6) := Lib.hid h6.swap
   have B6 : Hid (Below w2.heap.size w2 w6) := Lib.hid (B5.out.trans b6)
   have V6 : Hid (Bk w6 q5 30 D) := Lib.hid (by have := (recV_at H6.out).2; have e := HD.out; rw [Xr.val_eq] at e; injection e with e; rw [e] at this; exact this)
   have CS := recV_scr H6.out B6.out.size
   rw [HD.out] at CS
   have CS := Lib.hid CS
   clear h6 b6 CA V5 H5
   go_wp2_with (refine wpList_load_row rfl 30 _ rfl q5 rfl 30 _ (0, 0) _ V6.out Tryz.underlying30 rfl (by rw [HD1.out.2]; exact inf_rec) ?_; simp only [Act.put])
   refine CS.out.mono ?_
   rintro e w7 ⟨rfl, h7, b7⟩
   have H7 := Lib.hid h7
   have B7 : Hid (Below w2.heap.size w2 w7) := Lib.hid (B6.out.trans b7)
   have HIB : Hid (isB (rcL y.read)) := Lib.hid (own_isB h7)
   have CG := Lib.hid (own_getA h7 HE.out)
   clear h7 b7 CS V6 H6
   go_wp2_with fail
   refine CG.out.mono ?_
   rintro e w8 ⟨y2, rfl, hy2, hn2, _, b8, hw2⟩
   obtain ⟨D2, hD2⟩ : ∃ D2, D2 = y2.cells := ⟨_, rfl⟩
   have HD2 : Hid (D2.all (·.oneCell') = true ∧ D2.size = 16) := Lib.hid (by rw [hD2]; exact ⟨Xr.cells_one y2, rfl⟩)
   obtain ⟨q9, hq9⟩ : ∃ q9, w8.heap.size = q9 := ⟨_, rfl⟩
   obtain ⟨W9, hW9⟩ : ∃ W9, W9 = w8.alloc (.cells D2 30) := ⟨_, rfl⟩
   have b9 : Below w8.heap.size w8 W9 := by rw [hW9]; exact (Below.refl _ _).alloc (Nat.le_refl _) _
   have V9 : Hid (Bk W9 q9 30 D2) := Lib.hid (by rw [hW9, ← hq9]; exact Bk.new w8 _ _)
   have B79 : Hid (Below w7.heap.size w7 W9) := Lib.hid (b8.trans (b9.mono b8.size))
   have HO2 : Hid (∀ k, y2.owns k → w7.heap.size ≤ k) := Lib.hid (fun k q => (hn2 k q).1)
   have CS := scrawl_any y2 W9 ((hy2.calm (Calm.of_below b9)).up b9.size) (hw2.same (fun k q => b9.block k (hn2 k q).2))
   rw [Xr.val_eq, ← hD2] at CS ⊢
   have CS := Lib.hid CS
   have HW9 := Lib.hid hW9
   clear hy2 hn2 b8 hw2 hD2 hW9 b9 CG
   go_upto_region 10 with (refine wpList_store_new rfl (W := w8) rfl (c := xr0.cells) (c' := D2) rfl (by first | rfl | (rw [hq9]; rfl)) rfl (by rw [HD2.out.2]; exact inf_rec) (by rw [HD2.out.2]; rfl) HD2.out.1 ?_; simp only [Act.put])
   (try rw [hq9])
   rw [← HW9.out]
   clear HW9
   go_wp2_with (refine wpList_load_row rfl 30 _ rfl q9 rfl 30 _ (0, 0) _ V9.out Tryz.underlying30 rfl (by rw [HD2.out.2]; exact inf_rec) ?_; simp only [Act.put])
   refine CS.out.mono ?_
   rintro e w10 ⟨rfl, f10⟩
   have b10 : Below w7.heap.size w7 w10 := B79.out.trans (f10.below B79.out.size HO2.out)
   have H10 := Lib.hid (H7.out.below b10)
   have B10 : Hid (Below w2.heap.size w2 w10) := Lib.hid (B7.out.trans (b10.mono B7.out.size))
   have CF := Lib.hid (own_force H10.out B10.out.size (HT.out.below (Bw2.out.trans (B10.out.mono Bw2.out.size)) hg) HE.out HM.out)
   clear f10 b10 CS V9 H7
   go_wp2_with fail
   refine CF.out.mono ?_
   rintro e w11 ⟨rfl, h11, b11⟩
   have B11 : Hid (Below w2.heap.size w2 w11) := Lib.hid (B10.out.trans b11)
   have CG := Lib.hid (own_getB h11 HE.out HIB.out)
   clear h11 b11 CF H10
   go_wp2_with fail
   refine CG.out.mono ?_
   rintro e w12 ⟨z, rfl, hz, _, hzr, b12, _⟩
   obtain ⟨D3, hD3⟩ : ∃ D3, D3 = z.cells := ⟨_, rfl⟩
   have HD3 : Hid (D3.all (·.oneCell') = true ∧ D3.size = 16) := Lib.hid (by rw [hD3]; exact ⟨Xr.cells_one z, rfl⟩)
   obtain ⟨q13, hq13⟩ : ∃ q13, w12.heap.size = q13 := ⟨_, rfl⟩
   obtain ⟨W13, hW13⟩ : ∃ W13, W13 = w12.alloc (.cells D3 30) := ⟨_, rfl⟩
   have b13 : Below w12.heap.size w12 W13 := by rw [hW13]; exact (Below.refl _ _).alloc (Nat.le_refl _) _
   have V13 : Hid (Bk W13 q13 30 D3) := Lib.hid (by rw [hW13, ← hq13]; exact Bk.new w12 _ _)
   have B13 : Hid (Below w2.heap.size w2 W13) := Lib.hid ((B11.out.trans (b12.mono B11.out.size)).trans (b13.mono (Nat.le_trans B11.out.size b12.size)))
   have Bw13 : Hid (Below w.heap.size w W13) := Lib.hid (Bw2.out.trans (B13.out.mono Bw2.out.size))
   have V0 : Hid (Bk W13 q0 30 C) := Lib.hid (V2.out.bel B13.out HQ2.out)
   have CS := same7_yes z x _ _ W13 ((hz.calm (Calm.of_below b13)).up b13.size) ((HX.out.calm (Calm.of_below Bw13.out)).up Bw13.out.size) (hzr.trans HYR.out)
   rw [HC.out, Xr.val_eq, ← hD3] at CS
   rw [Xr.val_eq, ← hD3]
   have CS := Lib.hid CS
   have HW13 := Lib.hid hW13
   clear hz hzr b12 hD3 hW13 b13 CG
   go_upto_region 13 with (refine wpList_store_new rfl (W := w12) rfl (c := xr0.cells) (c' := D3) rfl (by first | rfl | (rw [hq13]; rfl)) rfl (by rw [HD3.out.2]; exact inf_rec) (by rw [HD3.out.2]; rfl) HD3.out.1 ?_; simp only [Act.put])
   (try rw [hq13])
   rw [← HW13.out]
   clear HW13
   go_wp2_with (first | (refine wpList_load_row_g rfl 30 _ rfl q13 rfl 30 _ (0, 0) _ V13.out Tryz.underlying30 rfl (by rw [HD3.out.2]; exact inf_rec) ?_) | (refine wpList_load_row_g rfl 30 _ rfl q0 rfl 30 _ (0, 0) _ V0.out Tryz.underlying30 rfl (by rw [HS.out]; exact inf_rec) ?_))
   refine CS.out.mono ?_
   rintro e w14 ⟨rfl, b14⟩
   have Bw14 : Hid (Below w.heap.size w w14) := Lib.hid (Bw13.out.trans (b14.mono Bw13.out.size))
   have CA := Lib.hid (awake9_any (Has.emp w.heap.size w14) Bw14.out.size hg (HT.out.below Bw14.out hg))
   clear b14 CS V13 V0
   go_wp2_with fail
   refine CA.out.mono ?_
   rintro e w15 ⟨rfl, _, b15⟩
   have R9 : Hid (Below w.heap.size w w15) := Lib.hid (Bw14.out.trans b15)
   clear b15 CA
   go_wp2_with fail
   go_ret
   exact ⟨rfl, R9.out⟩
  ·obtain ⟨e1, e2⟩ := lgA_no he
   rw [e1, e2] at CA
   have CA := Lib.hid CA
   have hne : ((encE y.read : Int) != 0) = true := by simp; omega
   clear e1 e2 he
   go_upto_region 5 with (refine wpList_store_new rfl (W := w4) rfl (c := xr0.cells) (c' := D) rfl (by first | rfl | (rw [hq5]; rfl)) rfl (by rw [HD1.out.2]; exact inf_rec) (by rw [HD1.out.2]; rfl) HD1.out.1 ?_; simp only [Act.put])
   (try rw [hq5])
   rw [← HW5.out]
   clear HW5
   go_wp2_with (refine wpList_load_row rfl 30 _ rfl q5 rfl 30 _ (0, 0) _ V5.out Tryz.underlying30 rfl (by rw [HD1.out.2]; exact inf_rec) ?_; simp only [Act.put])
   refine CA.out.mono ?_
   rintro e w6 ⟨rfl, h6, b6⟩
   have Bw6 : Hid (Below w.heap.size w w6) := Lib.hid (Bw2.out.trans ((B5.out.trans b6).mono Bw2.out.size))
   have CA := Lib.hid (awake9_any (Has.emp w.heap.size w6) Bw6.out.size hg (HT.out.below Bw6.out hg))
   clear h6 b6 V5 H5
   go_wp2_with fail
   refine CA.out.mono ?_
   rintro e w7 ⟨rfl, _, b7⟩
   have R9 : Hid (Below w.heap.size w w7) := Lib.hid (Bw6.out.trans b7)
   clear b7 CA
   go_wp2_with fail
   go_ret
   exact ⟨rfl, R9.out⟩
end

/- 'Rows.WalOwnCardSaid': for every input trothlaw09.WalOwn answers true, and what came in reads behind the call as before. No condition but that the listed variables read as the program's text lays them, which the card ties. -/
section
open Go.ChangeShapes Go.WideShapes Go.ChangeAt Go.RowKit
theorem walOwn_door (os : Os) (args : Array Value) : laidMetH Tryz.prog Rows.walOwnRow.laid ((World.doorLaid Tryz.prog 14 os).forCall (fun _ _ => 0) ⟨#[], args, []⟩).memory :=
 laidMetH_of_parts3 (fuel := 8) (laidMet_of_run' 8 (by kernel_rfl) (by kernel_rfl)) (by kernel_rfl) (by kernel_rfl)
theorem walOwn_lifted (os : Os) (started : os.Started) (H : Type) (enc : TypeId × Value → H) :
  ReturnsInHanded {} Tryz.checked os 3 .any (fun w args => (Rows.walOwnSpec.pre enc Tryz.prog Tryz.f3 Rows.walOwnRow.domain false w args ∧ laidMetH Tryz.prog Rows.walOwnRow.laid w) ∧ sizedMet enc Tryz.prog Tryz.f3 (OpenSpec.ofChange Rows.walOwnSpec) false w args)
   (Rows.walOwnSpec.post enc Tryz.prog Tryz.f3 false true false false) := by
 refine returnsInHanded_of_change_and (C := Tryz.checked) (X := fun w _ => laidMetH Tryz.prog Rows.walOwnRow.laid w) (fun _ _ _ hh h => h.of_heap hh) own_knob started (by kernel_rfl) Tryz.func3
  (ChangeSpec.witness_shaped (enc := enc) (C := Tryz.checked) (os := os) (X := fun w _ => laidMetH Tryz.prog Rows.walOwnRow.laid w) false (World.doorLaid Tryz.prog 14 os) #[.agg #[.int .i64 0, .int .i64 0, .int .i64 0, .int .i64 0, .string ByteArray.empty, .bool false, .string ByteArray.empty, .bool false, .string ByteArray.empty, .int .i64 0, .slice none 0 0, .slice none 0 0, .slice none 0 0, .slice none 0 0, .slice none 0 0, .slice none 0 0]] 8 rfl (World.shaped_of_RefB (by kernel_rfl) (by kernel_rfl)) (by kernel_rfl) (by kernel_rfl) (by kernel_rfl) (walOwn_door os _)) ?_
 intro W base args ds gs before hval0 hW _ hsz0 hL _
 have hval : ∀ (j : Nat) t v, Tryz.f3.params[j]? = some t → args[j]? = some v → Value.okWide Tryz.prog W .any base t v := hval0
 have hW' := hW
 obtain ⟨p, q, hA0, hV, rfl, hfz, hnd⟩ := hW
 have hA : DataW.TrodAll enc Tryz.prog W 0 (fun _ => true) true Tryz.f3.params.toList args.toList ds p := hA0
 rw [Tryz.params3] at hA hval
 obtain ⟨v0, vs0, d0, ds0, p0, q0, hargs, rfl, rfl, h0, r0⟩ := trodAll_cons hA
 obtain ⟨rfl, rfl, rfl⟩ := trodAll_nil r0
 obtain rfl : args = #[v0] := by cases args; simp_all
 obtain ⟨rfl, rfl⟩ := trodVars_none hV
 have k0 := h0
 have lt0 : ∀ x ∈ p0, x.block < W.heap.size := by obtain ⟨m, hm⟩ := k0; exact DataW.trod_lt m _ _ _ hm
 obtain ⟨m0, rfl, b0⟩ := open_rec (hval 0 30 v0 rfl rfl) h0
 clear hA0 hval0 hsz0
 refine (walOwn_walk m0 W b0 (tab_of_laid hL)).mono fun e W' ⟨he, bel⟩ => ?_
 subst he
 exact ⟨_, rfl, _, _, _, [], _, [], hW', trodAll_mk1 (shut_bool Tryz.underlying4 _), (trodAll_cons_mk (Below.trod laidOut (by kernel_rfl) (of_decide_eq_true (by kernel_rfl)) k0 bel lt0) trodAll_mk0), rfl, bel.frame _, fun h => by cases h⟩
/-- The row. -/
theorem walOwn_holds : Rows.WalOwnSaid :=
 OpenClaim.holds_of_wide 3 Tryz.f3 rfl rfl rfl rfl rfl rfl rfl ⟨rfl, rfl, rfl, rfl, rfl⟩ rfl rfl rfl rfl rfl (by kernel_rfl) Tryz.func3 (by kernel_rfl)
  (of_decide_eq_true (by kernel_rfl)) (by unfold Func.isWrapper; first | (rw [if_pos (by decide +kernel)]; kernel_rfl) | (rw [if_neg (by decide +kernel)]; exact ⟨rfl, rfl⟩))
  (fun os started H enc _ => walOwn_lifted os started H enc)
/-- The statement: the tied card. -/
theorem walOwn_card : Rows.WalOwnCardSaid :=
 Claim7.holds_tied_plain_at .later [] Rows.walOwnCard.laidKinds true Rows.walOwnCard.stood.harness Rows.walOwnCard.stood.looks
  walOwn_holds (fun _ h => by cases h) (by kernel_rfl) (fun _ h => by cases h) walOwn_row_tie rfl ⟨rfl, rfl⟩ (by kernel_rfl) rfl
  (fun f fn hf hfn => by
   obtain rfl : f = 3 := Option.some.inj ((show Tryz.prog.funcNamed "troth/trothlaw09.WalOwn" = some 3 by kernel_rfl).symm.trans hf) |>.symm
   obtain rfl : fn = Tryz.f3 := (Option.some.inj (Tryz.func3.symm.trans hfn)).symm
   exact ⟨by kernel_rfl, fun j t ht => by
    rw [Tryz.params3] at ht
    have hm : t ∈ [30] := by simpa using Array.mem_of_getElem? ht
    have hall : ([30].all fun u => !Tryz.prog.wantsStandIn u) = true := by kernel_rfl
    exact (show Tryz.prog.wantsStandIn t = false by simpa using List.all_eq_true.1 hall t hm)⟩)
  (by kernel_rfl)
#print axioms walOwn_card
end
end Go.Proofs.YtfmfmdiegabobabGreatDoor

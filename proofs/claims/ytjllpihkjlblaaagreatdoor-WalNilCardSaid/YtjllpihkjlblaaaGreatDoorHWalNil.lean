/- What it says: 'Rows.WalNilCardSaid': for every input trothlaw09.WalNil answers true, and what came in reads behind the call as before. No condition but that the listed variables read as the program's text lays them, which the card ties. -/
import Derived.Test.YtjllpihkjlblaaaGreatDoorPk32
import Derived.Test.YtjllpihkjlblaaaGreatDoorCards
import Derived.Test.YtjllpihkjlblaaaGreatDoorTie
import Derived.SevenTiedAt
import Derived.LaidMore
import Derived.Stop.Joined

set_option linter.all false
set_option maxRecDepth 100000
set_option maxHeartbeats 16000000
namespace Go.Proofs.YtjllpihkjlblaaaGreatDoor

/- the walk of the law WalNil: whatever comes in, it answers true and turns nothing that was there. -/
section
open Go.RowKit
theorem wgForce_down {B : Nat} {R : Res} {w : World} {b d : Nat} {L : Lg} (h : Has B ((lgR b d L).star R) w) (hd : L.down = true) : Calls Tryz.prog 31 #[.pointer (some ⟨b, 0, none⟩)] w (Ret (.int .i64 40) w) := by
 obtain ⟨F, A, n, c, xs, Q, p, q, vs, G, ha⟩ := lgR_at h
 have CS := Lib.hid (wgState_any ha.bk)
 rw [Lg.st_down hd] at CS
 clear h ha hd
 go_enter Tryz.func31, Tryz.ntmps31
 go_wp2_with fail
 refine CS.out.mono ?_
 intro e w2 hq2
 obtain ⟨rfl, b2⟩ := quiet_ret hq2
 have R9 : Hid (Ret (.int .i64 40) w (.returned (.int .i64 40)) w2) := Lib.hid ⟨rfl, b2⟩
 clear hq2 b2
 go_wp2_with fail
 go_ret
 exact R9.out
theorem wgLast_down {B : Nat} {R : Res} {w : World} {b d : Nat} (h : Has B ((lgR b d lgD).star R) w) : Calls Tryz.prog 27 #[.pointer (some ⟨b, 0, none⟩)] w (Ret (.int .i64 0) w) := by
 obtain ⟨F, A, n, c, xs, Q, p, q, vs, G, ha⟩ := lgR_at h
 have hn : lgD.recs.length = n := by rw [← ha.read, List.length_map]; exact ha.len
 exact wgGetLast_any ha.bk lgD_fit hn
theorem ring9 : ringB (St.new 9) 8 = false := rfl
theorem cnt8 : cntB 8 = true := rfl
theorem walNil_walk (x : Xr) (n : Int) (w : World) (hx : XrIn w.heap.size w x) (hn : -9223372036854775808 ≤ n ∧ n ≤ 9223372036854775807) (hT : Tab w) : Calls Tryz.prog 8 #[x.val, .int .i64 n] w (Ret (.bool true) w) := by
 have hg : 0 < w.heap.size := World.block_lt_of_cell? w _ (hT 0 (by omega))
 have HT := Lib.hid hT
 obtain ⟨q0, hq0⟩ : ∃ q0, w.heap.size = q0 := ⟨_, rfl⟩
 obtain ⟨C, hC⟩ : ∃ C, C = x.cells := ⟨_, rfl⟩
 obtain ⟨W1, hW1⟩ : ∃ W1, W1 = w.alloc (.cells C 39) := ⟨_, rfl⟩
 have hb1 : Below w.heap.size w W1 := by rw [hW1]; exact (Below.refl _ _).alloc (Nat.le_refl _) _
 have V1 : Hid (Bk W1 q0 39 C ∧ C.size = 16) := Lib.hid ⟨by rw [hW1, ← hq0]; exact Bk.new w _ _, by rw [hC]; rfl⟩
 have CG := Lib.hid (great_any x w.heap.size W1 (hx.calm (Calm.of_below hb1)))
 have BW1 := Lib.hid hb1
 have HW := Lib.hid hW1
 rw [Xr.val_eq, ← hC] at CG ⊢
 clear hx hW1 hb1 hC hT
 go_enter Tryz.func8, Tryz.ntmps8
 go_upto_region 1 with fail
 (try rw [hq0])
 rw [← HW.out]
 clear HW
 go_wp2_with (refine wpList_load_row rfl 39 _ rfl q0 rfl 39 _ (0, 0) _ V1.out.1 Tryz.underlying39 rfl (by rw [V1.out.2]; exact inf_rec) ?_; simp only [Act.put])
 refine CG.out.mono ?_
 rintro e w2 ⟨bg, rfl, _, b2⟩
 have Bw2 : Hid (Below w.heap.size w w2) := Lib.hid (BW1.out.trans (b2.mono BW1.out.size))
 have V2 := Lib.hid (V1.out.1.later b2)
 clear b2 CG
 cases bg with
 | true =>
  have CA := Lib.hid (awake9_any (Has.emp w.heap.size w2) Bw2.out.size hg (HT.out.below Bw2.out hg))
  go_wp2_with fail
  refine CA.out.mono ?_
  rintro e w3 ⟨rfl, _, b3⟩
  have R9 : Hid (Below w.heap.size w w3) := Lib.hid (Bw2.out.trans b3)
  clear b3 CA
  go_wp2_with fail
  go_ret
  exact ⟨rfl, R9.out⟩
 | false =>
  have CAN := Lib.hid (wgAppend_nil C V1.out.2 n w2)
  go_wp2_with (refine wpList_load_row rfl 39 _ rfl q0 rfl 39 _ (0, 0) _ V2.out Tryz.underlying39 rfl (by rw [V1.out.2]; exact inf_rec) ?_; simp only [Act.put])
  refine CAN.out.mono ?_
  rintro e w3 ⟨rfl, b3⟩
  have Bw3 : Hid (Below w.heap.size w w3) := Lib.hid (Bw2.out.trans (b3.mono Bw2.out.size))
  have CGN := Lib.hid (wgGet_nil n w3)
  clear b3 CAN V2
  go_wp2_with fail
  refine CGN.out.mono ?_
  rintro e w4 ⟨xg, rfl, _, _, _, b4⟩
  have Bw4 : Hid (Below w.heap.size w w4) := Lib.hid (Bw3.out.trans (b4.mono Bw3.out.size))
  obtain ⟨Cg, hCg⟩ : ∃ Cg, Cg = xg.cells := ⟨_, rfl⟩
  have HCg : Hid (Cg.all (·.oneCell') = true ∧ Cg.size = 16) := Lib.hid (by rw [hCg]; exact ⟨Xr.cells_one xg, rfl⟩)
  obtain ⟨W5, hW5⟩ : ∃ W5, W5 = w4.alloc (.cells Cg 39) := ⟨_, rfl⟩
  have Bw5 : Hid (Below w.heap.size w W5) := Lib.hid (by rw [hW5]; exact Bw4.out.alloc Bw4.out.size _)
  have HW5 := Lib.hid hW5
  rw [Xr.val_eq, ← hCg]
  clear b4 hCg CGN hW5
  go_upto_region 6 with (refine wpList_store_new rfl (W := w4) rfl (c := xr0.cells) (c' := Cg) rfl (by rfl) rfl (by rw [HCg.out.2]; exact inf_rec) (by rw [HCg.out.2]; rfl) HCg.out.1 ?_; simp only [Act.put])
  rw [← HW5.out]
  clear HW5
  have N1 := Lib.hid (fun w => wgForce_nil w)
  have N2 := Lib.hid (fun w => wgMark_nil n n w)
  have N3 := Lib.hid (fun w => wgGetFirst_nil w)
  have N4 := Lib.hid (fun w => wgGetLast_nil w)
  have N5 := Lib.hid (fun w => wgGetForced_nil w)
  have N6 := Lib.hid (fun w => wgGetCheck_nil w)
  have N7 := Lib.hid (fun w => wgGetUsed_nil w)
  have N8 := Lib.hid (fun w => wgGetForces_nil w)
  go_wp2_with fail
  refine (N1.out _).mono ?_
  rintro e w6 ⟨rfl, bw6⟩
  have Bw6 : Hid (Below w.heap.size w w6) := Lib.hid (Bw5.out.trans (bw6.mono Bw5.out.size))
  clear bw6
  go_wp2_with fail
  refine (N2.out _).mono ?_
  rintro e w7 ⟨rfl, bw7⟩
  have Bw7 : Hid (Below w.heap.size w w7) := Lib.hid (Bw6.out.trans (bw7.mono Bw6.out.size))
  clear bw7
  go_wp2_with fail
  refine (N3.out _).mono ?_
  rintro e w8 ⟨rfl, bw8⟩
  have Bw8 : Hid (Below w.heap.size w w8) := Lib.hid (Bw7.out.trans (bw8.mono Bw7.out.size))
  clear bw8
  go_wp2_with fail
  refine (N4.out _).mono ?_
  rintro e w9 ⟨rfl, bw9⟩
  have Bw9 : Hid (Below w.heap.size w w9) := Lib.hid (Bw8.out.trans (bw9.mono Bw8.out.size))
  clear bw9
  go_wp2_with fail
  refine (N5.out _).mono ?_
  rintro e w10 ⟨rfl, bw10⟩
  have Bw10 : Hid (Below w.heap.size w w10) := Lib.hid (Bw9.out.trans (bw10.mono Bw9.out.size))
  clear bw10
  go_wp2_with fail
  refine (N6.out _).mono ?_
  rintro e w11 ⟨rfl, bw11⟩
  have Bw11 : Hid (Below w.heap.size w w11) := Lib.hid (Bw10.out.trans (bw11.mono Bw10.out.size))
  clear bw11
  go_wp2_with fail
  refine (N7.out _).mono ?_
  rintro e w12 ⟨rfl, bw12⟩
  have Bw12 : Hid (Below w.heap.size w w12) := Lib.hid (Bw11.out.trans (bw12.mono Bw11.out.size))
  clear bw12
  go_wp2_with fail
  refine (N8.out _).mono ?_
  rintro e w13 ⟨rfl, bw13⟩
  have Bw13 : Hid (Below w.heap.size w w13) := Lib.hid (Bw12.out.trans (bw13.mono Bw12.out.size))
  clear bw13
  go_wp2_with fail
  have CN := Lib.hid (hasD_new (Has.emp w.heap.size w13) Bw13.out.size 9 (by omega))
  clear N1 N2 N3 N4 N5 N6 N7 N8
  refine CN.out.mono ?_
  rintro e w14 ⟨d9, rfl, h14, b14⟩
  have Bw14 : Hid (Below w.heap.size w w14) := Lib.hid (Bw13.out.trans (b14.mono Bw13.out.size))
  have H14 := Lib.hid h14
  clear h14 b14 CN
  go_wp2_with fail
  have CO1 := Lib.hid (wgOpen_nil 8 w14)
  refine CO1.out.mono ?_
  rintro e w15 ⟨rfl, b15⟩
  have Bw15 : Hid (Below w.heap.size w w15) := Lib.hid (Bw14.out.trans (b15.mono Bw14.out.size))
  have H15 := Lib.hid (H14.out.below b15)
  clear b15 CO1 H14
  have CO2 := Lib.hid (wgOpen_small H15.out 8 (.inr ring9))
  go_wp2_with fail
  refine CO2.out.mono ?_
  rintro e w16 ⟨rfl, b16⟩
  have Bw16 : Hid (Below w.heap.size w w16) := Lib.hid (Bw15.out.trans (b16.mono Bw15.out.size))
  have H16 := Lib.hid (H15.out.below b16)
  clear b16 CO2 H15
  have CF1 := wgFormat_any H16.out Bw16.out.size 8 (by show 0 < 999999; omega) (by show 0 < 999999; omega)
  have e1 : fmtE (St.new 9) 8 = 1 := rfl
  rw [e1] at CF1
  have CF1 := Lib.hid CF1
  clear e1 H16
  go_wp2_with fail
  refine CF1.out.mono ?_
  rintro e w17 ⟨rfl, _, b17⟩
  have Bw17 : Hid (Below w.heap.size w w17) := Lib.hid (Bw16.out.trans b17)
  clear b17 CF1
  have CF2 : Hid (Calls Tryz.prog 40 #[.pointer none, .int .i64 8] w17 (Ret (.int .i64 2) w17)) := Lib.hid (wgFormat_nil 8 w17)
  go_wp2_with fail
  refine CF2.out.mono ?_
  rintro e w18 ⟨rfl, b18⟩
  have Bw18 : Hid (Below w.heap.size w w18) := Lib.hid (Bw17.out.trans (b18.mono Bw17.out.size))
  clear b18 CF2
  have CF3 : Hid (Calls Tryz.prog 40 #[.pointer none, .int .i64 7] w18 (Ret (.int .i64 1) w18)) := Lib.hid (wgFormat_nil 7 w18)
  go_wp2_with fail
  refine CF3.out.mono ?_
  rintro e w19 ⟨rfl, b19⟩
  have Bw19 : Hid (Below w.heap.size w w19) := Lib.hid (Bw18.out.trans (b19.mono Bw18.out.size))
  clear b19 CF3
  have CM := Lib.hid (made_any (Has.emp w.heap.size w19) Bw19.out.size hg (HT.out.below Bw19.out hg) 8 (by omega))
  go_wp2_with fail
  refine CM.out.mono ?_
  rintro e w20 ⟨d, b, s, rfl, hm, h20, b20⟩
  rw [lgMade_eq 8 f1] at h20
  have Bw20 : Hid (Below w.heap.size w w20) := Lib.hid (Bw19.out.trans b20)
  have H20 := Lib.hid h20
  have DK := Lib.hid hm.dk
  have CO := Lib.hid (one_any 1 w20)
  clear h20 b20 hm CM
  go_wp2_with fail
  refine CO.out.mono ?_
  rintro e w21 ⟨rfl, b21⟩
  have Bw21 : Hid (Below w.heap.size w w21) := Lib.hid (Bw20.out.trans (b21.mono Bw20.out.size))
  have CA := lgN_append (H20.out.below b21) Bw21.out.size (HT.out.below Bw21.out hg) f1_ok (by omega) (by omega) 0 (by omega) (by show (0 : Int) + 1 ≤ 8 - max 0 0; omega)
  have ex : (xOne ((f1 0 : Nat) : Int)).val = (xOne 1).val := rfl
  rw [ex] at CA
  have CA := Lib.hid CA
  clear b21 CO ex H20
  go_wp2_with fail
  refine CA.out.mono ?_
  rintro e w22 ⟨rfl, h22, b22⟩
  have Bw22 : Hid (Below w.heap.size w w22) := Lib.hid (Bw21.out.trans b22)
  have CFu := Lib.hid (hasD_fuse h22.swap Bw22.out.size 0 (by omega))
  clear h22 b22 CA
  go_wp2_with fail
  refine CFu.out.mono ?_
  rintro e w23 ⟨rfl, h23, b23⟩
  have Bw23 : Hid (Below w.heap.size w w23) := Lib.hid (Bw22.out.trans b23)
  have H23 := Lib.hid h23.swap
  have CGe : Hid (Calls Tryz.prog 36 #[.pointer (some ⟨b, 0, none⟩), .int .i64 1] w23 (RetGet (xOne (f1 0)).read 0 w23)) := Lib.hid (lgW_Get h23.swap f1_ok (by omega) (by omega) 0 (by omega))
  clear h23 b23 CFu
  go_wp2_with fail
  refine CGe.out.mono ?_
  rintro e w24 ⟨xh, rfl, _, _, _, b24⟩
  have Bw24 : Hid (Below w.heap.size w w24) := Lib.hid (Bw23.out.trans (b24.mono Bw23.out.size))
  obtain ⟨Ch, hCh⟩ : ∃ Ch, Ch = xh.cells := ⟨_, rfl⟩
  have HCh : Hid (Ch.all (·.oneCell') = true ∧ Ch.size = 16) := Lib.hid (by rw [hCh]; exact ⟨Xr.cells_one xh, rfl⟩)
  obtain ⟨W25, hW25⟩ : ∃ W25, W25 = w24.alloc (.cells Ch 39) := ⟨_, rfl⟩
  have b25 : Below w24.heap.size w24 W25 := by rw [hW25]; exact (Below.refl _ _).alloc (Nat.le_refl _) _
  have Bw25 : Hid (Below w.heap.size w W25) := Lib.hid (Bw24.out.trans (b25.mono Bw24.out.size))
  have H25 := Lib.hid ((H23.out.below b24).below b25)
  have HW25 := Lib.hid hW25
  obtain ⟨k1, k2⟩ := fuse0_force (z := 8) (f := f1) (k := 0) f1_ok (by omega) (by omega) DK.out.up DK.out.num
  have CFo := wgForce_any H25.out Bw25.out.size (lgW_fit (z := 8) (f := f1) (k := 0) (by omega) (by omega)) (HT.out.below Bw25.out hg) (by show 1 ≤ (8 : Int) ∧ (8 : Int) ≤ 100000; omega) (by have := (lgW_lay (z := 8) (f := f1) (k := 0) f1_ok (by omega)).2.2.2; omega) (by show s.pend.length ≤ 900000; rw [DK.out.pend]; show 0 ≤ 900000; omega) (by show s.syncs < 999999; have := DK.out.syncs; omega)
  have e2 : (lgW 8 f1 0).fcL (s.fuse 0) = lgD := k2
  rw [k1, e2] at CFo
  have CFo := Lib.hid CFo
  rw [Xr.val_eq, ← hCh]
  clear b24 hCh CGe hW25 b25 k1 k2 e2 H23
  go_upto_region 19 with (refine wpList_store_new rfl (W := w24) rfl (c := xr0.cells) (c' := Ch) rfl (by rfl) rfl (by rw [HCh.out.2]; exact inf_rec) (by rw [HCh.out.2]; rfl) HCh.out.1 ?_; simp only [Act.put])
  rw [← HW25.out]
  clear HW25
  go_wp2_with fail
  refine CFo.out.mono ?_
  rintro e w26 ⟨rfl, h26, b26⟩
  have Bw26 : Hid (Below w.heap.size w w26) := Lib.hid (Bw25.out.trans b26)
  have H26 := Lib.hid h26
  have CFd := Lib.hid (wgForce_down h26 lgD_down)
  clear h26 b26 CFo
  go_wp2_with fail
  refine CFd.out.mono ?_
  rintro e w27 ⟨rfl, b27⟩
  have Bw27 : Hid (Below w.heap.size w w27) := Lib.hid (Bw26.out.trans (b27.mono Bw26.out.size))
  have CLd := Lib.hid (wgLast_down (H26.out.below b27))
  clear b27 CFd
  go_wp2_with fail
  refine CLd.out.mono ?_
  rintro e w28 ⟨rfl, b28⟩
  have Bw28 : Hid (Below w.heap.size w w28) := Lib.hid (Bw27.out.trans (b28.mono Bw27.out.size))
  have CA := Lib.hid (awake9_any (Has.emp w.heap.size w28) Bw28.out.size hg (HT.out.below Bw28.out hg))
  clear b28 CLd
  go_wp2_with fail
  refine CA.out.mono ?_
  rintro e w29 ⟨rfl, _, b29⟩
  have R9 : Hid (Below w.heap.size w w29) := Lib.hid (Bw28.out.trans b29)
  clear b29 CA
  go_wp2_with fail
  go_ret
  exact ⟨rfl, R9.out⟩
end

/- 'Rows.WalNilCardSaid': for every input trothlaw09.WalNil answers true, and what came in reads behind the call as before. No condition but that the listed variables read as the program's text lays them, which the card ties. -/
section
open Go.ChangeShapes Go.WideShapes Go.ChangeAt Go.RowKit
theorem walNil_door (os : Os) (args : Array Value) : laidMetH Tryz.prog Rows.walNilRow.laid ((World.doorLaid Tryz.prog 14 os).forCall (fun _ _ => 0) ⟨#[], args, []⟩).memory :=
 laidMetH_of_parts3 (fuel := 8) (laidMet_of_run' 8 (by kernel_rfl) (by kernel_rfl)) (by kernel_rfl) (by kernel_rfl)
theorem walNil_lifted (os : Os) (started : os.Started) (H : Type) (enc : TypeId × Value → H) :
  ReturnsInHanded {} Tryz.checked os 8 .any (fun w args => (Rows.walNilSpec.pre enc Tryz.prog Tryz.f8 Rows.walNilRow.domain false w args ∧ laidMetH Tryz.prog Rows.walNilRow.laid w) ∧ sizedMet enc Tryz.prog Tryz.f8 (OpenSpec.ofChange Rows.walNilSpec) false w args)
   (Rows.walNilSpec.post enc Tryz.prog Tryz.f8 false true false false) := by
 refine returnsInHanded_of_change_and (C := Tryz.checked) (X := fun w _ => laidMetH Tryz.prog Rows.walNilRow.laid w) (fun _ _ _ hh h => h.of_heap hh) own_knob started (by kernel_rfl) Tryz.func8
  (ChangeSpec.witness_shaped (enc := enc) (C := Tryz.checked) (os := os) (X := fun w _ => laidMetH Tryz.prog Rows.walNilRow.laid w) false (World.doorLaid Tryz.prog 14 os) #[.agg #[.int .i64 0, .int .i64 0, .int .i64 0, .int .i64 0, .string ByteArray.empty, .bool false, .string ByteArray.empty, .bool false, .string ByteArray.empty, .int .i64 0, .slice none 0 0, .slice none 0 0, .slice none 0 0, .slice none 0 0, .slice none 0 0, .slice none 0 0], .int .i64 0] 8 rfl (World.shaped_of_RefB (by kernel_rfl) (by kernel_rfl)) (by kernel_rfl) (by kernel_rfl) (by kernel_rfl) (walNil_door os _)) ?_
 intro W base args ds gs before hval0 hW _ hsz0 hL _
 have hval : ∀ (j : Nat) t v, Tryz.f8.params[j]? = some t → args[j]? = some v → Value.okWide Tryz.prog W .any base t v := hval0
 have hW' := hW
 obtain ⟨p, q, hA0, hV, rfl, hfz, hnd⟩ := hW
 have hA : DataW.TrodAll enc Tryz.prog W 0 (fun _ => true) true Tryz.f8.params.toList args.toList ds p := hA0
 rw [Tryz.params8] at hA hval
 obtain ⟨v0, vs0, d0, ds0, p0, q0, hargs, rfl, rfl, h0, r0⟩ := trodAll_cons hA
 obtain ⟨v1, vs1, d1, ds1, p1, q1, rfl, rfl, rfl, h1, r1⟩ := trodAll_cons r0
 obtain ⟨rfl, rfl, rfl⟩ := trodAll_nil r1
 obtain rfl : args = #[v0, v1] := by cases args; simp_all
 obtain ⟨rfl, rfl⟩ := trodVars_none hV
 have k0 := h0
 have lt0 : ∀ x ∈ p0, x.block < W.heap.size := by obtain ⟨m, hm⟩ := k0; exact DataW.trod_lt m _ _ _ hm
 obtain ⟨m0, rfl, b0⟩ := open_rec (hval 0 39 v0 rfl rfl) h0
 obtain ⟨a1, rfl, rfl, rfl, w1⟩ := open_int Tryz.underlying3 (hval 1 3 v1 rfl rfl) h1
 have g1 := i64_bd w1
 clear hA0 hval0 hsz0
 refine (walNil_walk m0 a1 W b0 g1 (tab_of_laid hL)).mono fun e W' ⟨he, bel⟩ => ?_
 subst he
 exact ⟨_, rfl, _, _, _, [], _, [], hW', trodAll_mk1 (shut_bool Tryz.underlying4 _), (trodAll_cons_mk (Below.trod laidOut (by kernel_rfl) (of_decide_eq_true (by kernel_rfl)) k0 bel lt0) (trodAll_cons_mk (shut_int Tryz.underlying3 w1) trodAll_mk0)), rfl, bel.frame _, fun h => by cases h⟩
theorem walNil_holds : Rows.WalNilSaid :=
 OpenClaim.holds_of_wide 8 Tryz.f8 rfl rfl rfl rfl rfl rfl rfl ⟨rfl, rfl, rfl, rfl, rfl⟩ rfl rfl rfl rfl rfl (by kernel_rfl) Tryz.func8 (by kernel_rfl)
  (of_decide_eq_true (by kernel_rfl)) (by unfold Func.isWrapper; first | (rw [if_pos (by decide +kernel)]; kernel_rfl) | (rw [if_neg (by decide +kernel)]; exact ⟨rfl, rfl⟩))
  (fun os started H enc _ => walNil_lifted os started H enc)
theorem walNil_card : Rows.WalNilCardSaid :=
 Claim7.holds_tied_plain_at .later [] Rows.walNilCard.laidKinds true Rows.walNilCard.stood.harness Rows.walNilCard.stood.looks
  walNil_holds (fun _ h => by cases h) (by kernel_rfl) (fun _ h => by cases h) walNil_row_tie rfl ⟨rfl, rfl⟩ (by kernel_rfl) rfl
  (fun f fn hf hfn => by
   obtain rfl : f = 8 := Option.some.inj ((show Tryz.prog.funcNamed "troth/trothlaw09.WalNil" = some 8 by kernel_rfl).symm.trans hf) |>.symm
   obtain rfl : fn = Tryz.f8 := (Option.some.inj (Tryz.func8.symm.trans hfn)).symm
   exact ⟨by kernel_rfl, fun j t ht => by
    rw [Tryz.params8] at ht
    have hm : t ∈ [39, 3] := by simpa using Array.mem_of_getElem? ht
    have hall : ([39, 3].all fun u => !Tryz.prog.wantsStandIn u) = true := by kernel_rfl
    exact (show Tryz.prog.wantsStandIn t = false by simpa using List.all_eq_true.1 hall t hm)⟩)
  (by kernel_rfl)
#print axioms walNil_card
end
end Go.Proofs.YtjllpihkjlblaaaGreatDoor

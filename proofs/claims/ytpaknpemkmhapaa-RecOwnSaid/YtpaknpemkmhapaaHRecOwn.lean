/- What it says: 'Rows.RecOwnSaid': for every input trothlaw07.RecOwn answers true, and what came in reads behind the call as before. No condition. -/
import Derived.Test.YtpaknpemkmhapaaPk21
import Derived.Test.YtpaknpemkmhapaaPk22
import Derived.Test.YtpaknpemkmhapaaPk23
import Derived.Test.YtpaknpemkmhapaaPk24
import Derived.Test.YtpaknpemkmhapaaPkF

set_option linter.unusedSimpArgs false
set_option linter.unusedVariables false
set_option linter.deprecated false
set_option linter.unusedSectionVars false
set_option linter.all false

/- the walk of the statement RecOwn: what is written into what Encode answered, or into what was decoded, changes nothing. -/
namespace Go.Proofs.Ytpaknpemkmhapaa
open Go.RowKit
/-- Of a record's bytes the record is decoded. -/
theorem decF_own {r : Rc} (h : r.ok) (hl : (rcL r).length ≤ 4096) : decF (rcL r) = (r, 0) := by
  have e := dec_back h
  have := decF_ok (l := rcL r) (by omega) (by rw [e]) (by rw [e]; exact h)
  rw [e] at this
  exact this
set_option maxRecDepth 100000 in
set_option maxHeartbeats 16000000 in
theorem recOwn_walk (x : Xr) (w : World) (hx : XrIn w.heap.size w x) :
    Calls Try.prog 7 #[x.val] w (Ret (.bool true) w) := by
  obtain ⟨C, hC⟩ : ∃ C, C = x.cells := ⟨_, rfl⟩
  obtain ⟨r, hrr⟩ : ∃ r, w.heap.size = r := ⟨_, rfl⟩
  obtain ⟨W1, hW1⟩ : ∃ W1, W1 = w.alloc (.cells C 30) := ⟨_, rfl⟩
  have hb1 : Below w.heap.size w W1 := by rw [hW1]; exact (Below.refl _ _).alloc (Nat.le_refl _) _
  have V1 : Hid (Bk W1 r 30 C) := Lib.hid (by rw [hW1, ← hrr]; exact Bk.new w _ _)
  have B1 := Lib.hid hb1
  have X1 : Hid (XrIn w.heap.size W1 x) := Lib.hid (hx.calm (Calm.of_below hb1))
  have CG := Lib.hid (great_any x w.heap.size W1 X1.out)
  have HCS : Hid (C.size = 16) := Lib.hid (by rw [hC]; rfl)
  have HC := Lib.hid hC
  have HW := Lib.hid hW1
  have HRR := Lib.hid hrr
  rw [Xr.val_eq, ← hC] at CG ⊢
  clear hx hC hW1 hb1
  go_enter Try.func7, Try.ntmps7
  go_upto_region 1 with fail
  (try rw [hrr])
  rw [← HW.out]
  clear HW hrr
  go_wp2_with (refine wpList_load_row rfl 30 _ rfl r rfl 30 _ (0, 0) _ V1.out Try.underlying30 rfl (by rw [HCS.out]; exact inf_rec) ?_)
  refine CG.out.mono ?_
  rintro e w2 ⟨b, rfl, hg, hb2⟩
  have B2 := Lib.hid (Below.then B1.out hb2)
  have V2 := Lib.hid (V1.out.bel hb2 V1.out.lt)
  have X2 : Hid (XrIn w2.heap.size w2 x) := Lib.hid ((X1.out.calm (Calm.of_below hb2)).up B2.out.size)
  have HG := Lib.hid hg
  clear hg hb2 CG
  have quit : ∀ (v : World), Below w.heap.size w v → Calls Try.prog 9 #[] v (fun e w' => e = .returned (.bool true) ∧ Below w.heap.size w w') := fun v hv => (awake_any v).mono fun e w' h => ⟨h.1, Below.then hv h.2⟩
  have QU := Lib.hid quit
  clear quit
  cases b with
  | true =>
    have CA := Lib.hid (QU.out w2 B2.out)
    go_wp2_with fail
    refine CA.out.mono ?_
    rintro e w3 ⟨rfl, hb3⟩
    have R := Lib.hid hb3
    clear hb3
    go_wp2_with fail
    go_ret
    exact ⟨rfl, R.out⟩
  | false =>
    have HNG := Lib.hid (HG.out rfl)
    clear HG
    have CC := copy_any x w2 X2.out HNG.out
    rw [Xr.val_eq, ← HC.out] at CC
    have CC := Lib.hid CC
    go_wp2_with (refine wpList_load_row rfl 30 _ rfl r rfl 30 _ (0, 0) _ V2.out Try.underlying30 rfl (by first | exact inf_rec | (rw [HCS.out]; exact inf_rec)) ?_)
    refine CC.out.mono ?_
    rintro e w3 ⟨y, rfl, hy, hyr, hb3⟩
    have B3 := Lib.hid (Below.then B2.out hb3)
    obtain ⟨W4, hW4⟩ : ∃ W4, W4 = w3.alloc (.cells y.cells 30) := ⟨_, rfl⟩
    have b4 : Below w3.heap.size w3 W4 := by rw [hW4]; exact (Below.refl _ _).alloc (Nat.le_refl _) _
    have V4 : Hid (Bk W4 w3.heap.size 30 y.cells) := Lib.hid (by rw [hW4]; exact Bk.new w3 _ _)
    have Y4 : Hid (XrIn W4.heap.size W4 y) := Lib.hid ((hy.calm (Calm.of_below b4)).up (Nat.le_trans hb3.size b4.size))
    have B4 := Lib.hid (Below.then B3.out b4)
    have V3x := V2.out.bel hb3 V2.out.lt
    have V4x := Lib.hid (V3x.bel b4 V3x.lt)
    have X3 := (X2.out.calm (Calm.of_below hb3)).up hb3.size
    have X4 := Lib.hid ((X3.calm (Calm.of_below b4)).up b4.size)
    have CE := recEncode_any isSame_all y W4 Y4.out
    rw [hyr, Xr.val_eq y] at CE
    have CE := Lib.hid CE
    have HYR := Lib.hid hyr
    have HW4 := Lib.hid hW4
    clear hy hb3 CC b4 V3x X3 hW4 hyr
    go_upto_region 4 with (refine wpList_store_new rfl (W := w3) rfl (c := #[.int .i64 0, .int .i64 0, .int .i64 0, .int .i64 0, .string ⟨#[]⟩, .bool false, .string ⟨#[]⟩, .bool false, .string ⟨#[]⟩, .int .i64 0, .slice none 0 0, .slice none 0 0, .slice none 0 0, .slice none 0 0, .slice none 0 0, .slice none 0 0]) (c' := y.cells) rfl rfl rfl inf_rec rfl (Xr.cells_one y) ?_; simp only [Act.put])
    rw [← HW4.out]
    clear HW4
    go_wp2_with (refine wpList_load_row rfl 30 _ rfl w3.heap.size rfl 30 _ (0, 0) _ V4.out Try.underlying30 rfl (by first | exact inf_rec | (rw [HCS.out]; exact inf_rec)) ?_)
    refine CE.out.mono ?_
    rintro e w5 ⟨A, n, c, rfl, ho, hr, hb5⟩
    have F0 := Lib.hid (Flp.start ho hr)
    have B5 := Lib.hid hb5
    obtain ⟨k, hk⟩ : ∃ k, encE x.read = k := ⟨_, rfl⟩
    have HK := Lib.hid hk
    rw [hk]
    clear ho hr hb5 CE hk
    go_wp2_with fail
    go_loopw [6] (fun q wx => ∃ i : Nat, i ≤ n ∧ q = .int .i64 i ∧ Flp W4.heap.size w5 A n c wx) (fun q _ => n - (intOf q).toNat)
    case atStart => exact ⟨0, Nat.zero_le _, rfl, F0.out⟩
    case round =>
      obtain ⟨i, hin, rfl, hF⟩ := hrel
      have HF := Lib.hid hF
      clear hF
      by_cases hlt : i < n
      · obtain ⟨g, x, rfl, hx, hic, hcm, hcell, hfz, hset⟩ := HF.out.at_ i hlt
        have hxor := xor8 x 255 hx (by omega)
        have hy : x ^^^ 255 < 256 := Nat.xor_lt_two_pow (n := 8) hx (by omega)
        rw [show ((255 : Nat) : Int) = 255 from rfl] at hxor
        obtain ⟨y, ey⟩ : ∃ y, x ^^^ 255 = y := ⟨_, rfl⟩
        rw [ey] at hxor hy
        have HS := Lib.hid (hset y hy)
        unfold maxLen at hcm
        clear ey hset
        go_wp2_with fail
        go_roundw
        case rel => exact ⟨i + 1, by omega, by go_num, HS.out⟩
        case measure => simp [intOf]; omega
      · clear F0
        have b6 := HF.out.bel B5.out B5.out.size (Nat.le_refl _)
        have B6 := Lib.hid (Below.then B4.out b6)
        have HLE6 := Lib.hid B6.out.size
        have V6 := Lib.hid (V4.out.bel b6 V4.out.lt)
        have V6x := Lib.hid (V4x.out.bel b6 V4x.out.lt)
        have HRL := Lib.hid V6x.out.lt
        have X6 := Lib.hid ((X4.out.calm (Calm.of_below b6)).up b6.size)
        have Y6 := Lib.hid ((Y4.out.calm (Calm.of_below b6)).up b6.size)
        have CE := recEncode_any isSame_all y wr Y6.out
        rw [HYR.out, Xr.val_eq y, HK.out] at CE
        have CE := Lib.hid CE
        clear HF b6 B5 V4 V4x X4 Y4
        go_wp2_with (refine wpList_load_row rfl 30 _ rfl w3.heap.size rfl 30 _ (0, 0) _ V6.out Try.underlying30 rfl (by first | exact inf_rec | (rw [HCS.out]; exact inf_rec)) ?_)
        refine CE.out.mono ?_
        rintro e w7 ⟨A2, n2, c2, rfl, ho, hr, hb7⟩
        have B7 := Lib.hid (Below.then B6.out hb7)
        have V7 := Lib.hid (V6.out.bel hb7 V6.out.lt)
        have V7x := Lib.hid (V6x.out.bel hb7 V6x.out.lt)
        have CS := same7_yes y x wr.heap.size wr.heap.size w7 (Y6.out.calm (Calm.of_below hb7)) (X6.out.calm (Calm.of_below hb7)) HYR.out
        rw [Xr.val_eq y, Xr.val_eq x, ← HC.out] at CS
        have CS := Lib.hid CS
        have O7 := Lib.hid ho
        have HR7 := Lib.hid hr
        have HB7 := Lib.hid hb7
        have hkk : ((k : Int) != (k : Int)) = false := by simp
        clear ho hr hb7 CE
        go_wp2_with (first | (refine wpList_load_row_g rfl 30 _ rfl w3.heap.size rfl 30 _ (0, 0) _ V7.out Try.underlying30 rfl (by first | exact inf_rec | (rw [HCS.out]; exact inf_rec)) ?_) | (refine wpList_load_row_g rfl 30 _ rfl r rfl 30 _ (0, 0) _ V7x.out Try.underlying30 rfl (by first | exact inf_rec | (rw [HCS.out]; exact inf_rec)) ?_))
        refine CS.out.mono ?_
        rintro e w8 ⟨rfl, hb8⟩
        have B8 := Lib.hid (Below.then B7.out hb8)
        have HB68 := Lib.hid (HB7.out.trans (hb8.mono HB7.out.size))
        have O8 := Lib.hid (own_later O7.out hb8)
        have HLE := Lib.hid HB68.out.size
        clear hb8 CS
        by_cases hk0 : k = 0
        · subst hk0
          obtain ⟨hok, hlen⟩ := encE_zero HK.out
          have e1 : encB x.read = rcL x.read := by unfold encB; rw [HK.out, if_pos rfl]
          have hbt := Byt.of_own O8.out HR7.out
          have HD := Lib.hid (decF_own hok hlen)
          have CD := Lib.hid (recDecode_any A2 n2 c2 _ w8 hbt)
          rw [e1] at CD
          clear hok hlen hbt
          go_wp2_with fail
          refine CD.out.mono ?_
          rintro e w9 ⟨x3, rfl, hx3, hx3r, hb9⟩
          rw [HD.out] at hx3r ⊢
          obtain ⟨W10, hW10⟩ : ∃ W10, W10 = w9.alloc (.cells x3.cells 30) := ⟨_, rfl⟩
          have b10 : Below w9.heap.size w9 W10 := by rw [hW10]; exact (Below.refl _ _).alloc (Nat.le_refl _) _
          have T10 : Hid (Bk W10 w9.heap.size 30 x3.cells) := Lib.hid (by rw [hW10]; exact Bk.new w9 _ _)
          have hb10 := Below.then hb9 b10
          have HB610 := Lib.hid (HB68.out.trans (hb10.mono HLE.out))
          have X10 := Lib.hid (hx3.calm (Calm.of_below b10))
          have O10 := Lib.hid (own_later O8.out hb10)
          have F0 := Lib.hid (Flp.start O10.out HR7.out)
          have HX3 : Hid (x3.read = x.read) := Lib.hid hx3r
          have HW10 := Lib.hid hW10
          clear hx3 hx3r hb9 CD b10 hb10 hW10
          go_upto_region 15 with (refine wpList_store_new rfl (W := w9) rfl (c := #[.int .i64 0, .int .i64 0, .int .i64 0, .int .i64 0, .string ⟨#[]⟩, .bool false, .string ⟨#[]⟩, .bool false, .string ⟨#[]⟩, .int .i64 0, .slice none 0 0, .slice none 0 0, .slice none 0 0, .slice none 0 0, .slice none 0 0, .slice none 0 0]) (c' := x3.cells) rfl rfl rfl inf_rec rfl (Xr.cells_one x3) ?_; simp only [Act.put])
          rw [← HW10.out]
          clear HW10
          go_wp2_with fail
          go_loopw [11] (fun q wx2 => ∃ i : Nat, i ≤ n2 ∧ q = .int .i64 i ∧ Flp wr.heap.size W10 A2 n2 c2 wx2) (fun q _ => n2 - (intOf q).toNat)
          case atStart => exact ⟨0, Nat.zero_le _, rfl, F0.out⟩
          case round =>
            obtain ⟨i, hin, rfl, hF⟩ := hrel
            have HF := Lib.hid hF
            clear hF
            by_cases hlt : i < n2
            · obtain ⟨g, x, rfl, hx, hic, hcm, hcell, hfz, hset⟩ := HF.out.at_ i hlt
              have hxor := xor8 x 255 hx (by omega)
              have hy : x ^^^ 255 < 256 := Nat.xor_lt_two_pow (n := 8) hx (by omega)
              rw [show ((255 : Nat) : Int) = 255 from rfl] at hxor
              obtain ⟨y, ey⟩ : ∃ y, x ^^^ 255 = y := ⟨_, rfl⟩
              rw [ey] at hxor hy
              have HS := Lib.hid (hset y hy)
              unfold maxLen at hcm
              clear ey hset
              go_wp2_with fail
              go_roundw
              case rel => exact ⟨i + 1, by omega, by go_num, HS.out⟩
              case measure => simp [intOf]; omega
            · clear F0
              have bF := Lib.hid (HF.out.bel HB610.out HB610.out.size (Nat.le_refl _))
              have BV := Lib.hid (Below.then B6.out bF.out)
              have XS := Lib.hid (X10.out.thru HF.out.thru)
              have VS := Lib.hid (HF.out.bk O10.out T10.out (by decide))
              have VV := Lib.hid (V6x.out.bel bF.out HRL.out)
              have XX := Lib.hid (X6.out.calm (Calm.of_below bF.out))
              have CS := same7_yes x3 x _ _ _ XS.out XX.out HX3.out
              rw [Xr.val_eq x3, Xr.val_eq x, ← HC.out] at CS
              have CS := Lib.hid CS
              clear HF
              go_wp2_with (first | (refine wpList_load_row_g rfl 30 _ rfl w9.heap.size rfl 30 _ (0, 0) _ VS.out Try.underlying30 rfl (by first | exact inf_rec | (rw [HCS.out]; exact inf_rec)) ?_) | (refine wpList_load_row_g rfl 30 _ rfl r rfl 30 _ (0, 0) _ VV.out Try.underlying30 rfl (by first | exact inf_rec | (rw [HCS.out]; exact inf_rec)) ?_))
              refine CS.out.mono ?_
              rintro e w11 ⟨rfl, hb11⟩
              have CA := Lib.hid (QU.out w11 (Below.then BV.out hb11))
              clear hb11 CS
              go_wp2_with fail
              refine CA.out.mono ?_
              rintro e w12 ⟨rfl, hb12⟩
              have R := Lib.hid hb12
              clear hb12
              go_wp2_with fail
              go_ret
              exact ⟨rfl, R.out⟩
        · have hne : ((k : Int) != 0) = true := by simp; omega
          have CA := Lib.hid (QU.out w8 B8.out)
          clear hk0
          go_wp2_with fail
          refine CA.out.mono ?_
          rintro e w9 ⟨rfl, hb9⟩
          have R := Lib.hid hb9
          clear hb9
          go_wp2_with fail
          go_ret
          exact ⟨rfl, R.out⟩
end Go.Proofs.Ytpaknpemkmhapaa

/- 'Rows.RecOwnSaid': for every input trothlaw07.RecOwn answers true, and what came in reads behind the call as before. No condition. -/
namespace Go.Proofs.Ytpaknpemkmhapaa
open Go.ChangeShapes Go.WideShapes Go.ChangeAt Go.RowKit

set_option maxRecDepth 100000 in
theorem recOwn_lifted (os : Os) (started : os.Started) (H : Type) (enc : TypeId × Value → H) :
    ReturnsInHanded {} Try.checked os 7 .any (Rows.recOwnSpec.pre6 enc Try.prog Try.f7 Rows.recOwnRow.domain false) (Rows.recOwnSpec.post enc Try.prog Try.f7 false true false false) := by
  refine returnsInHanded_of_change_sized (C := Try.checked) own_knob started (by kernel_rfl) Try.func7
    (ChangeSpec.witness6 (enc := enc) (C := Try.checked) false ⟨#[], #[.agg #[.int .i64 0, .int .i64 0, .int .i64 0, .int .i64 0, .string ByteArray.empty, .bool false, .string ByteArray.empty, .bool false, .string ByteArray.empty, .int .i64 0, .slice none 0 0, .slice none 0 0, .slice none 0 0, .slice none 0 0, .slice none 0 0, .slice none 0 0]], []⟩ 8 (by kernel_rfl) (by kernel_rfl) (by kernel_rfl) (by kernel_rfl)) ?_
  intro W base args ds gs before hval0 hW _ hsz0 _
  have hval : ∀ (j : Nat) t v, Try.f7.params[j]? = some t → args[j]? = some v → Value.okWide Try.prog W .any base t v := hval0
  have hW' := hW
  obtain ⟨p, q, hA0, hV, rfl, hfz, hnd⟩ := hW
  have hA : DataW.TrodAll enc Try.prog W 0 (fun _ => true) true Try.f7.params.toList args.toList ds p := hA0
  rw [Try.params7] at hA hval
  obtain ⟨v0, vs0, d0, ds0, p0, q0, hargs, rfl, rfl, h0, r0⟩ := trodAll_cons hA
  obtain ⟨rfl, rfl, rfl⟩ := trodAll_nil r0
  obtain rfl : args = #[v0] := by cases args; simp_all
  obtain ⟨rfl, rfl⟩ := trodVars_none hV
  have k0 := h0
  have lt0 : ∀ x ∈ p0, x.block < W.heap.size := by obtain ⟨m, hm⟩ := k0; exact DataW.trod_lt m _ _ _ hm
  obtain ⟨m0, rfl, b0⟩ := open_rec (hval 0 30 v0 rfl rfl) h0
  clear hA0 hval0 hsz0
  refine (recOwn_walk m0 W b0).mono fun e W' ⟨he, bel⟩ => ?_
  subst he
  exact ⟨_, rfl, _, _, _, [], _, [], hW', trodAll_mk1 (shut_bool Try.underlying4 _), (trodAll_cons_mk (Below.trod laidOut (by kernel_rfl) (of_decide_eq_true (by kernel_rfl)) k0 bel lt0) trodAll_mk0), rfl, bel.frame _, fun h => by cases h⟩

/-- The statement. -/
theorem recOwn_holds : Rows.RecOwnSaid :=
  OpenClaim.holds_of_wide 7 Try.f7 rfl rfl rfl rfl rfl rfl rfl ⟨rfl, rfl, rfl, rfl, rfl⟩ rfl rfl rfl rfl rfl (by kernel_rfl) Try.func7 (by kernel_rfl)
    (of_decide_eq_true (by kernel_rfl)) (by unfold Func.isWrapper; first | (rw [if_pos (by decide +kernel)]; kernel_rfl) | (rw [if_neg (by decide +kernel)]; exact ⟨rfl, rfl⟩))
    (fun os started H enc _ => recOwn_lifted os started H enc)
#print axioms recOwn_holds
end Go.Proofs.Ytpaknpemkmhapaa

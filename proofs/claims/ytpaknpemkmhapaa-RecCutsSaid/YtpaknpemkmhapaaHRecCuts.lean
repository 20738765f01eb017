/- What it says: 'Rows.RecCutsSaid': for every input trothlaw07.RecCuts answers true, and what came in reads behind the call as before. No condition. -/
import Derived.Test.YtpaknpemkmhapaaPk21
import Derived.Test.YtpaknpemkmhapaaPk22
import Derived.Test.YtpaknpemkmhapaaPk23
import Derived.Test.YtpaknpemkmhapaaPk24

set_option linter.unusedSimpArgs false
set_option linter.unusedVariables false
set_option linter.deprecated false
set_option linter.unusedSectionVars false
set_option linter.all false

/- the walk of the statement RecCuts: no beginning of a record's bytes is one. -/
namespace Go.Proofs.Ytpaknpemkmhapaa
open Go.RowKit
/-- Of a beginning of a record's bytes none is decoded. -/
theorem decF_cut {r : Rc} (h : r.ok) (hl : (rcL r).length ≤ 4096) (k : Nat) (hk : k < (rcL r).length) : decF ((rcL r).take k) = (rc0 0, 10) := by
  have e := dec_cut h k hk
  have := decF_err (l := (rcL r).take k) (by rw [List.length_take]; omega) (by rw [e]; simp)
  rw [e] at this
  exact this
theorem rcL_pos (r : Rc) : 0 < (rcL r).length := by
  unfold rcL
  rw [List.length_append]
  have : 0 < (numL r.kind).length := shortL_pos _
  omega

set_option maxRecDepth 100000 in
set_option maxHeartbeats 16000000 in
theorem recCuts_walk (x : Xr) (cut : Int) (w : World) (hx : XrIn w.heap.size w x) (hc : -9223372036854775808 ≤ cut ∧ cut ≤ 9223372036854775807) :
    Calls Try.prog 6 #[x.val, .int .i64 cut] w (Ret (.bool true) w) := by
  obtain ⟨hc0, hc1⟩ := hc
  obtain ⟨C, hC⟩ : ∃ C, C = x.cells := ⟨_, rfl⟩
  obtain ⟨r, hrr⟩ : ∃ r, w.heap.size = r := ⟨_, rfl⟩
  obtain ⟨W1, hW1⟩ : ∃ W1, W1 = w.alloc (.cells C 30) := ⟨_, rfl⟩
  have hb1 : Below w.heap.size w W1 := by rw [hW1]; exact (Below.refl _ _).alloc (Nat.le_refl _) _
  have V1 : Hid (Bk W1 r 30 C) := Lib.hid (by rw [hW1, ← hrr]; exact Bk.new w _ _)
  have B1 := Lib.hid hb1
  have X1 : Hid (XrIn w.heap.size W1 x) := Lib.hid (hx.calm (Calm.of_below hb1))
  have CG := Lib.hid (great_any x w.heap.size W1 X1.out)
  have HCS : Hid (C.size = 16) := Lib.hid (by rw [hC]; rfl)
  have HC := Lib.hid hC
  have HW := Lib.hid hW1
  have HRR := Lib.hid hrr
  rw [Xr.val_eq, ← hC] at CG ⊢
  clear hx hC hW1 hb1
  go_enter Try.func6, Try.ntmps6
  go_upto_region 1 with fail
  (try rw [hrr])
  rw [← HW.out]
  clear HW hrr
  go_wp2_with (refine wpList_load_row rfl 30 _ rfl r rfl 30 _ (0, 0) _ V1.out Try.underlying30 rfl (by rw [HCS.out]; exact inf_rec) ?_)
  refine CG.out.mono ?_
  rintro e w2 ⟨b, rfl, hg, hb2⟩
  have B2 := Lib.hid (Below.then B1.out hb2)
  have V2 := Lib.hid (V1.out.bel hb2 V1.out.lt)
  have X2 : Hid (XrIn w2.heap.size w2 x) := Lib.hid ((X1.out.calm (Calm.of_below hb2)).up B2.out.size)
  have HG := Lib.hid hg
  clear hg hb2 CG
  have quit : ∀ (v : World), Below w.heap.size w v → Calls Try.prog 9 #[] v (fun e w' => e = .returned (.bool true) ∧ Below w.heap.size w w') := fun v hv => (awake_any v).mono fun e w' h => ⟨h.1, Below.then hv h.2⟩
  have QU := Lib.hid quit
  clear quit
  cases b with
  | true =>
    have CA := Lib.hid (QU.out w2 B2.out)
    go_wp2_with fail
    refine CA.out.mono ?_
    rintro e w3 ⟨rfl, hb3⟩
    have R := Lib.hid hb3
    clear hb3
    go_wp2_with fail
    go_ret
    exact ⟨rfl, R.out⟩
  | false =>
    have HNG := Lib.hid (HG.out rfl)
    clear HG
    by_cases hneg : cut < 0
    · have CA := Lib.hid (QU.out w2 B2.out)
      go_wp2_with fail
      refine CA.out.mono ?_
      rintro e w3 ⟨rfl, hb3⟩
      have R := Lib.hid hb3
      clear hb3
      go_wp2_with fail
      go_ret
      exact ⟨rfl, R.out⟩
    · have hpos : 0 ≤ cut := by omega
      have CC := copy_any x w2 X2.out HNG.out
      rw [Xr.val_eq, ← HC.out] at CC
      have CC := Lib.hid CC
      clear hneg
      go_wp2_with (refine wpList_load_row rfl 30 _ rfl r rfl 30 _ (0, 0) _ V2.out Try.underlying30 rfl (by rw [HCS.out]; exact inf_rec) ?_)
      refine CC.out.mono ?_
      rintro e w3 ⟨y, rfl, hy, hyr, hb3⟩
      have B3 := Lib.hid (Below.then B2.out hb3)
      have CE := recEncode_any isSame_all y w3 (hy.up hb3.size)
      rw [hyr] at CE
      have CE := Lib.hid CE
      clear hy hyr hb3 CC
      go_wp2_with fail
      refine CE.out.mono ?_
      rintro e w4 ⟨A, n, c, rfl, ho, hr, hb4⟩
      have B4 := Lib.hid (Below.then B3.out hb4)
      have hbt := Byt.of_own ho hr
      have HBT := Lib.hid hbt
      obtain ⟨k, hk⟩ : ∃ k, encE x.read = k := ⟨_, rfl⟩
      have HK := Lib.hid hk
      rw [hk]
      clear ho hr hb4 CE hbt hk
      by_cases hk0 : k = 0
      · subst hk0
        obtain ⟨hok, hlen⟩ := encE_zero HK.out
        have e1 : encB x.read = rcL x.read := by unfold encB; rw [HK.out, if_pos rfl]
        have hbt := HBT.out
        rw [e1] at hbt
        have hn2 : 0 < n := by rw [← hbt.len]; exact rcL_pos _
        have hk0 : ((n : Int) == 0) = false := by simp; omega
        have hq0 : 0 ≤ cut % (n : Int) := Int.emod_nonneg _ (by omega)
        have hq3 : cut % (n : Int) < (n : Int) := Int.emod_lt_of_pos _ (by omega)
        obtain ⟨q, hkq⟩ := Int.eq_ofNat_of_zero_le hq0
        have hcap := hbt.cap
        have hmax := hbt.max
        unfold maxLen at hmax
        obtain ⟨D, d, hs, hb5⟩ := cut_h hbt q (by omega) (cut % (n : Int)) hkq
        have CD := Lib.hid (recDecode_any D q d _ w4 hb5)
        have HD : Hid (decF ((rcL x.read).take q) = (rc0 0, 10)) := Lib.hid (decF_cut hok hlen q (by rw [hbt.len]; omega))
        clear hbt hb5 hok hlen e1 hq3 hkq HBT
        go_wp2_with fail
        refine CD.out.mono ?_
        rintro e w5 ⟨x3, rfl, hx3, hx3r, hb5⟩
        rw [HD.out] at hx3r ⊢
        have B5 := Lib.hid (Below.then B4.out hb5)
        obtain ⟨W6, hW6⟩ : ∃ W6, W6 = w5.alloc (.cells x3.cells 30) := ⟨_, rfl⟩
        have b6 : Below w5.heap.size w5 W6 := by rw [hW6]; exact (Below.refl _ _).alloc (Nat.le_refl _) _
        have V6 : Hid (Bk W6 w5.heap.size 30 x3.cells) := Lib.hid (by rw [hW6]; exact Bk.new w5 _ _)
        have CS := same7_yes x3 xr0 w4.heap.size W6.heap.size W6 (hx3.calm (Calm.of_below b6)) (xr0_in _ _) hx3r
        rw [Xr.val_eq x3] at CS
        unfold xr0 Xr.val at CS
        simp only at CS
        have CS := Lib.hid CS
        have B6 := Lib.hid (Below.then B5.out b6)
        have HW6 := Lib.hid hW6
        clear hx3 hx3r hb5 CD b6 hW6
        go_upto_region 7 with (refine wpList_store_new rfl (W := w5) rfl (c := #[.int .i64 0, .int .i64 0, .int .i64 0, .int .i64 0, .string ⟨#[]⟩, .bool false, .string ⟨#[]⟩, .bool false, .string ⟨#[]⟩, .int .i64 0, .slice none 0 0, .slice none 0 0, .slice none 0 0, .slice none 0 0, .slice none 0 0, .slice none 0 0]) (c' := x3.cells) rfl rfl rfl inf_rec rfl (Xr.cells_one x3) ?_; simp only [Act.put])
        rw [← HW6.out]
        clear HW6
        go_wp2_with (refine wpList_load_row_g rfl 30 _ rfl w5.heap.size rfl 30 _ (0, 0) _ V6.out Try.underlying30 rfl inf_rec ?_)
        refine CS.out.mono ?_
        rintro e w7 ⟨rfl, hb7⟩
        have CA := Lib.hid (QU.out w7 (Below.then B6.out hb7))
        clear hb7 CS
        go_wp2_with fail
        refine CA.out.mono ?_
        rintro e w8 ⟨rfl, hb8⟩
        have R := Lib.hid hb8
        clear hb8
        go_wp2_with fail
        go_ret
        exact ⟨rfl, R.out⟩
      · have hne : ((k : Int) != 0) = true := by simp; omega
        have CA := Lib.hid (QU.out w4 B4.out)
        clear hk0
        go_wp2_with fail
        refine CA.out.mono ?_
        rintro e w8 ⟨rfl, hb8⟩
        have R := Lib.hid hb8
        clear hb8
        go_wp2_with fail
        go_ret
        exact ⟨rfl, R.out⟩
end Go.Proofs.Ytpaknpemkmhapaa

/- 'Rows.RecCutsSaid': for every input trothlaw07.RecCuts answers true, and what came in reads behind the call as before. No condition. -/
namespace Go.Proofs.Ytpaknpemkmhapaa
open Go.ChangeShapes Go.WideShapes Go.ChangeAt Go.RowKit

set_option maxRecDepth 100000 in
theorem recCuts_lifted (os : Os) (started : os.Started) (H : Type) (enc : TypeId × Value → H) :
    ReturnsInHanded {} Try.checked os 6 .any (Rows.recCutsSpec.pre6 enc Try.prog Try.f6 Rows.recCutsRow.domain false) (Rows.recCutsSpec.post enc Try.prog Try.f6 false true false false) := by
  refine returnsInHanded_of_change_sized (C := Try.checked) own_knob started (by kernel_rfl) Try.func6
    (ChangeSpec.witness6 (enc := enc) (C := Try.checked) false ⟨#[], #[.agg #[.int .i64 0, .int .i64 0, .int .i64 0, .int .i64 0, .string ByteArray.empty, .bool false, .string ByteArray.empty, .bool false, .string ByteArray.empty, .int .i64 0, .slice none 0 0, .slice none 0 0, .slice none 0 0, .slice none 0 0, .slice none 0 0, .slice none 0 0], .int .i64 0], []⟩ 8 (by kernel_rfl) (by kernel_rfl) (by kernel_rfl) (by kernel_rfl)) ?_
  intro W base args ds gs before hval0 hW _ hsz0 _
  have hval : ∀ (j : Nat) t v, Try.f6.params[j]? = some t → args[j]? = some v → Value.okWide Try.prog W .any base t v := hval0
  have hW' := hW
  obtain ⟨p, q, hA0, hV, rfl, hfz, hnd⟩ := hW
  have hA : DataW.TrodAll enc Try.prog W 0 (fun _ => true) true Try.f6.params.toList args.toList ds p := hA0
  rw [Try.params6] at hA hval
  obtain ⟨v0, vs0, d0, ds0, p0, q0, hargs, rfl, rfl, h0, r0⟩ := trodAll_cons hA
  obtain ⟨v1, vs1, d1, ds1, p1, q1, rfl, rfl, rfl, h1, r1⟩ := trodAll_cons r0
  obtain ⟨rfl, rfl, rfl⟩ := trodAll_nil r1
  obtain rfl : args = #[v0, v1] := by cases args; simp_all
  obtain ⟨rfl, rfl⟩ := trodVars_none hV
  have k0 := h0
  have lt0 : ∀ x ∈ p0, x.block < W.heap.size := by obtain ⟨m, hm⟩ := k0; exact DataW.trod_lt m _ _ _ hm
  obtain ⟨m0, rfl, b0⟩ := open_rec (hval 0 30 v0 rfl rfl) h0
  obtain ⟨a1, rfl, rfl, rfl, w1⟩ := open_int Try.underlying3 (hval 1 3 v1 rfl rfl) h1
  have g1 := i64_bd w1
  clear hA0 hval0 hsz0
  refine (recCuts_walk m0 a1 W b0 g1).mono fun e W' ⟨he, bel⟩ => ?_
  subst he
  exact ⟨_, rfl, _, _, _, [], _, [], hW', trodAll_mk1 (shut_bool Try.underlying4 _), (trodAll_cons_mk (Below.trod laidOut (by kernel_rfl) (of_decide_eq_true (by kernel_rfl)) k0 bel lt0) (trodAll_cons_mk (shut_int Try.underlying3 w1) trodAll_mk0)), rfl, bel.frame _, fun h => by cases h⟩

/-- The statement. -/
theorem recCuts_holds : Rows.RecCutsSaid :=
  OpenClaim.holds_of_wide 6 Try.f6 rfl rfl rfl rfl rfl rfl rfl ⟨rfl, rfl, rfl, rfl, rfl⟩ rfl rfl rfl rfl rfl (by kernel_rfl) Try.func6 (by kernel_rfl)
    (of_decide_eq_true (by kernel_rfl)) (by unfold Func.isWrapper; first | (rw [if_pos (by decide +kernel)]; kernel_rfl) | (rw [if_neg (by decide +kernel)]; exact ⟨rfl, rfl⟩))
    (fun os started H enc _ => recCuts_lifted os started H enc)
#print axioms recCuts_holds
end Go.Proofs.Ytpaknpemkmhapaa

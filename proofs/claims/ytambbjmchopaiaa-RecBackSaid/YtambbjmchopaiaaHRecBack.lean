/- What it says: 'Rows.RecBackSaid': for every input trothlaw07.RecBack answers true, and what came in reads behind the call as before. No condition. -/
import Derived.Test.YtambbjmchopaiaaPr21
import Derived.Test.YtambbjmchopaiaaPr22
import Derived.Test.YtambbjmchopaiaaPr23
import Derived.Test.YtambbjmchopaiaaPr31

set_option linter.unusedSimpArgs false
set_option linter.unusedVariables false
set_option linter.deprecated false
set_option linter.unusedSectionVars false
set_option linter.all false

/- the walk of the statement RecBack: what is encoded is decoded again. -/
namespace Go.Proofs.Ytambbjmchopaiaa
open Go.RowKit
theorem decF_back {r : Rc} (h : r.ok) (hl : (rcL r).length ≤ 4096) : decF (rcL r) = (r, 0) := by
  unfold decF
  rw [if_neg (by omega), dec_back h]
  simp [h]

set_option maxRecDepth 100000 in
set_option maxHeartbeats 16000000 in
theorem recBack_walk (x : Xr) (w : World) (hx : XrIn w.heap.size w x) :
    Calls Try.prog 5 #[x.val] w (Ret (.bool true) w) := by
  have HX0 := Lib.hid hx
  obtain ⟨C, hC⟩ : ∃ C, C = x.cells := ⟨_, rfl⟩
  obtain ⟨r, hrr⟩ : ∃ r, w.heap.size = r := ⟨_, rfl⟩
  obtain ⟨W1, hW1⟩ : ∃ W1, W1 = w.alloc (.cells C 30) := ⟨_, rfl⟩
  have hb1 : Below w.heap.size w W1 := by rw [hW1]; exact (Below.refl _ _).alloc (Nat.le_refl _) _
  have V1 : Hid (Bk W1 r 30 C) := Lib.hid (by rw [hW1, ← hrr]; exact Bk.new w _ _)
  have B1 := Lib.hid hb1
  have X1 : Hid (XrIn w.heap.size W1 x) := Lib.hid (hx.calm (Calm.of_below hb1))
  have CG := Lib.hid (great_any x w.heap.size W1 X1.out)
  have HCS : Hid (C.size = 16) := Lib.hid (by rw [hC]; rfl)
  have HC := Lib.hid hC
  have HW := Lib.hid hW1
  have HRR := Lib.hid hrr
  rw [Xr.val_eq, ← hC] at CG ⊢
  clear hx hC hW1 hb1
  go_enter Try.func5, Try.ntmps5
  go_upto_region 1 with fail
  (try rw [hrr])
  rw [← HW.out]
  clear HW hrr
  go_wp2_with (refine wpList_load_row rfl 30 _ rfl r rfl 30 _ (0, 0) _ V1.out Try.underlying30 rfl (by rw [HCS.out]; exact inf_rec) ?_)
  refine CG.out.mono ?_
  rintro e w2 ⟨b, rfl, hg, hb2⟩
  have B2 := Lib.hid (Below.then B1.out hb2)
  have V2 := Lib.hid (V1.out.bel hb2 V1.out.lt)
  have X2 : Hid (XrIn w2.heap.size w2 x) := Lib.hid ((X1.out.calm (Calm.of_below hb2)).up B2.out.size)
  have HG := Lib.hid hg
  clear hg hb2 CG
  have quit : ∀ (v : World), Below w.heap.size w v → Calls Try.prog 7 #[] v (fun e w' => e = .returned (.bool true) ∧ Below w.heap.size w w') := fun v hv => (awake_any v).mono fun e w' h => ⟨h.1, Below.then hv h.2⟩
  have QU := Lib.hid quit
  clear quit
  cases b with
  | true =>
    have CA := Lib.hid (QU.out w2 B2.out)
    go_wp2_with fail
    refine CA.out.mono ?_
    rintro e w3 ⟨rfl, hb3⟩
    have R := Lib.hid hb3
    clear hb3
    go_wp2_with fail
    go_ret
    exact ⟨rfl, R.out⟩
  | false =>
    have HNG := Lib.hid (HG.out rfl)
    clear HG
    have CC := copy_any x w2 X2.out HNG.out
    rw [Xr.val_eq, ← HC.out] at CC
    have CC := Lib.hid CC
    go_wp2_with (refine wpList_load_row rfl 30 _ rfl r rfl 30 _ (0, 0) _ V2.out Try.underlying30 rfl (by rw [HCS.out]; exact inf_rec) ?_)
    refine CC.out.mono ?_
    rintro e w3 ⟨y, rfl, hy, hyr, hb3⟩
    have B3 := Lib.hid (Below.then B2.out hb3)
    have V3 := Lib.hid (V2.out.bel hb3 V2.out.lt)
    have CE := recEncode_any isSame_all y w3 (hy.up hb3.size)
    rw [hyr] at CE
    have CE := Lib.hid CE
    clear hy hyr hb3 CC
    go_wp2_with fail
    refine CE.out.mono ?_
    rintro e w4 ⟨A, n, c, rfl, ho, hr, hb4⟩
    have B4 := Lib.hid (Below.then B3.out hb4)
    have V4 := Lib.hid (V3.out.bel hb4 V3.out.lt)
    have hbt := Byt.of_own ho hr
    have HBT := Lib.hid hbt
    clear ho hr hb4 CE hbt
    by_cases hok : x.read.ok
    · by_cases hlen : 4096 < (rcL x.read).length
      · have e0 := encE_long hok hlen
        have e1 : encB x.read = [] := by unfold encB; rw [e0]; rfl
        have hbt := HBT.out
        rw [e1] at hbt
        obtain rfl : n = 0 := by have := hbt.len; simpa using this.symm
        rw [e0]
        have CA := Lib.hid (QU.out w4 B4.out)
        clear hok hlen e0 e1 hbt HBT
        go_wp2_with fail
        refine CA.out.mono ?_
        rintro e w8 ⟨rfl, hb8⟩
        have R := Lib.hid hb8
        clear hb8
        go_wp2_with fail
        go_ret
        exact ⟨rfl, R.out⟩
      · have e0 := encE_ok hok hlen
        have e1 : encB x.read = rcL x.read := by unfold encB; rw [if_pos e0]
        have hbt := HBT.out
        rw [e1] at hbt
        rw [e0]
        have CD := Lib.hid (recDecode_any A n c _ w4 hbt)
        have HD : Hid (decF (rcL x.read) = (x.read, 0)) := Lib.hid (decF_back hok (by omega))
        clear hbt hok hlen e0 e1 HBT
        go_wp2_with fail
        refine CD.out.mono ?_
        rintro e w5 ⟨x3, rfl, hx3, hx3r, hb5⟩
        rw [HD.out] at hx3r ⊢
        have B5 := Lib.hid (Below.then B4.out hb5)
        have V5 := Lib.hid (V4.out.bel hb5 V4.out.lt)
        obtain ⟨W6, hW6⟩ : ∃ W6, W6 = w5.alloc (.cells x3.cells 30) := ⟨_, rfl⟩
        have b6 : Below w5.heap.size w5 W6 := by rw [hW6]; exact (Below.refl _ _).alloc (Nat.le_refl _) _
        have V6 : Hid (Bk W6 w5.heap.size 30 x3.cells) := Lib.hid (by rw [hW6]; exact Bk.new w5 _ _)
        have VR := Lib.hid (V5.out.bel b6 V5.out.lt)
        have CS := same7_yes x x3 w.heap.size w4.heap.size W6 (HX0.out.calm (Calm.of_below (Below.then B5.out b6))) (hx3.calm (Calm.of_below b6)) hx3r.symm
        rw [Xr.val_eq x, Xr.val_eq x3, ← HC.out] at CS
        have CS := Lib.hid CS
        have B6 := Lib.hid (Below.then B5.out b6)
        have HW6 := Lib.hid hW6
        clear hx3 hx3r hb5 CD b6 hW6
        go_upto_region 7 with (refine wpList_store_new rfl (W := w5) rfl (c := #[.int .i64 0, .int .i64 0, .int .i64 0, .int .i64 0, .string ⟨#[]⟩, .bool false, .string ⟨#[]⟩, .bool false, .string ⟨#[]⟩, .int .i64 0, .slice none 0 0, .slice none 0 0, .slice none 0 0, .slice none 0 0, .slice none 0 0, .slice none 0 0]) (c' := x3.cells) rfl rfl rfl inf_rec rfl (Xr.cells_one x3) ?_; simp only [Act.put])
        rw [← HW6.out]
        clear HW6
        go_wp2_with (first
          | (refine wpList_load_row_g rfl 30 _ rfl r rfl 30 _ (0, 0) _ VR.out Try.underlying30 rfl (by rw [HCS.out]; exact inf_rec) ?_)
          | (refine wpList_load_row_g rfl 30 _ rfl w5.heap.size rfl 30 _ (0, 0) _ V6.out Try.underlying30 rfl inf_rec ?_))
        refine CS.out.mono ?_
        rintro e w7 ⟨rfl, hb7⟩
        have CA := Lib.hid (QU.out w7 (Below.then B6.out hb7))
        clear hb7 CS
        go_wp2_with fail
        refine CA.out.mono ?_
        rintro e w8 ⟨rfl, hb8⟩
        have R := Lib.hid hb8
        clear hb8
        go_wp2_with fail
        go_ret
        exact ⟨rfl, R.out⟩
    · have e0 := encE_no hok
      have e1 : encB x.read = [] := by unfold encB; rw [e0]; rfl
      have hbt := HBT.out
      rw [e1] at hbt
      obtain rfl : n = 0 := by have := hbt.len; simpa using this.symm
      rw [e0]
      have CM := may7_any x w.heap.size w4 (HX0.out.calm (Calm.of_below B4.out))
      rw [Xr.val_eq x, ← HC.out] at CM
      have CM := Lib.hid CM
      have HOK := Lib.hid hok
      clear hok e0 e1 hbt HBT
      go_wp2_with (refine wpList_load_row_g rfl 30 _ rfl r rfl 30 _ (0, 0) _ V4.out Try.underlying30 rfl (by rw [HCS.out]; exact inf_rec) ?_)
      refine CM.out.mono ?_
      rintro e w5 ⟨b, rfl, hb, hb5⟩
      cases b with
      | true => exact absurd (hb.1 rfl) HOK.out
      | false =>
        have CA := Lib.hid (QU.out w5 (Below.then B4.out hb5))
        clear hb hb5 CM
        go_wp2_with fail
        refine CA.out.mono ?_
        rintro e w8 ⟨rfl, hb8⟩
        have R := Lib.hid hb8
        clear hb8
        go_wp2_with fail
        go_ret
        exact ⟨rfl, R.out⟩
end Go.Proofs.Ytambbjmchopaiaa

/- 'Rows.RecBackSaid': for every input trothlaw07.RecBack answers true, and what came in reads behind the call as before. No condition. -/
namespace Go.Proofs.Ytambbjmchopaiaa
open Go.ChangeShapes Go.WideShapes Go.ChangeAt Go.RowKit

set_option maxRecDepth 100000 in
theorem recBack_lifted (os : Os) (started : os.Started) (H : Type) (enc : TypeId × Value → H) :
    ReturnsInHanded {} Try.checked os 5 .any (Rows.recBackSpec.pre6 enc Try.prog Try.f5 Rows.recBackRow.domain false) (Rows.recBackSpec.post enc Try.prog Try.f5 false true false false) := by
  refine returnsInHanded_of_change_sized (C := Try.checked) own_knob started (by kernel_rfl) Try.func5
    (ChangeSpec.witness6 (enc := enc) (C := Try.checked) false ⟨#[], #[.agg #[.int .i64 0, .int .i64 0, .int .i64 0, .int .i64 0, .string ByteArray.empty, .bool false, .string ByteArray.empty, .bool false, .string ByteArray.empty, .int .i64 0, .slice none 0 0, .slice none 0 0, .slice none 0 0, .slice none 0 0, .slice none 0 0, .slice none 0 0]], []⟩ 8 (by kernel_rfl) (by kernel_rfl) (by kernel_rfl) (by kernel_rfl)) ?_
  intro W base args ds gs before hval0 hW _ hsz0 _
  have hval : ∀ (j : Nat) t v, Try.f5.params[j]? = some t → args[j]? = some v → Value.okWide Try.prog W .any base t v := hval0
  have hW' := hW
  obtain ⟨p, q, hA0, hV, rfl, hfz, hnd⟩ := hW
  have hA : DataW.TrodAll enc Try.prog W 0 (fun _ => true) true Try.f5.params.toList args.toList ds p := hA0
  rw [Try.params5] at hA hval
  obtain ⟨v0, vs0, d0, ds0, p0, q0, hargs, rfl, rfl, h0, r0⟩ := trodAll_cons hA
  obtain ⟨rfl, rfl, rfl⟩ := trodAll_nil r0
  obtain rfl : args = #[v0] := by cases args; simp_all
  obtain ⟨rfl, rfl⟩ := trodVars_none hV
  have k0 := h0
  have lt0 : ∀ x ∈ p0, x.block < W.heap.size := by obtain ⟨m, hm⟩ := k0; exact DataW.trod_lt m _ _ _ hm
  obtain ⟨m0, rfl, b0⟩ := open_rec (hval 0 30 v0 rfl rfl) h0
  clear hA0 hval0 hsz0
  refine (recBack_walk m0 W b0).mono fun e W' ⟨he, bel⟩ => ?_
  subst he
  exact ⟨_, rfl, _, _, _, [], _, [], hW', trodAll_mk1 (shut_bool Try.underlying4 _), (trodAll_cons_mk (Below.trod laidOut (by kernel_rfl) (of_decide_eq_true (by kernel_rfl)) k0 bel lt0) trodAll_mk0), rfl, bel.frame _, fun h => by cases h⟩

/-- The statement. -/
theorem recBack_holds : Rows.RecBackSaid :=
  OpenClaim.holds_of_wide 5 Try.f5 rfl rfl rfl rfl rfl rfl rfl ⟨rfl, rfl, rfl, rfl, rfl⟩ rfl rfl rfl rfl rfl (by kernel_rfl) Try.func5 (by kernel_rfl)
    (of_decide_eq_true (by kernel_rfl)) (by unfold Func.isWrapper; first | (rw [if_pos (by decide +kernel)]; kernel_rfl) | (rw [if_neg (by decide +kernel)]; exact ⟨rfl, rfl⟩))
    (fun os started H enc _ => recBack_lifted os started H enc)
#print axioms recBack_holds
end Go.Proofs.Ytambbjmchopaiaa

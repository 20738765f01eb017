/- What it says: 'Rows.RecReadsSaid': for every input trothlaw07.RecReads answers true, and what came in reads behind the call as before. No condition. -/
import Derived.Test.YtfldcddbmikfiaaPw21
import Derived.Test.YtfldcddbmikfiaaPw26
import Derived.Test.YtfldcddbmikfiaaPv9

set_option linter.unusedSimpArgs false
set_option linter.unusedVariables false
set_option linter.deprecated false
set_option linter.unusedSectionVars false
set_option linter.all false

/- the walk of the statement RecReads: whatever bytes come in, the record and the error are the document's, and what is read is written so again. -/
namespace Go.Proofs.Ytfldcddbmikfiaa
open Go.RowKit

/-- What is decoded may be, and its bytes are those. -/
theorem decF_zero {l : List Int} {r : Rc} (hr : ∀ y ∈ l, 0 ≤ y ∧ y < 256) (h : decF l = (r, 0)) : encE r = 0 ∧ encB r = l := by
  unfold decF at h
  by_cases h1 : 4096 < l.length
  · rw [if_pos h1] at h; injection h with _ h; cases h
  rw [if_neg h1] at h
  by_cases h2 : (decRc l).2 ≠ 0
  · rw [if_pos h2] at h; injection h with _ h; exact absurd h h2
  rw [if_neg h2] at h
  by_cases h3 : (decRc l).1.ok
  · rw [if_pos h3] at h
    injection h with h _
    have e := dec_exact hr (by omega)
    rw [h] at e h3
    have z : encE r = 0 := encE_ok h3 (by rw [← e]; exact h1)
    refine ⟨z, ?_⟩
    unfold encB
    rw [if_pos z, ← e]
  · rw [if_neg h3] at h; injection h with _ h; cases h

set_option maxRecDepth 100000 in
set_option maxHeartbeats 16000000 in
theorem recReads_walk (A : Option Addr) (n c : Nat) (l : List Int) (w : World) (h : Byt w A n c l) (_ : n ≤ 140737488351232) :
    Calls Try.prog 4 #[.slice A n c] w (Ret (.bool true) w) := by
  by_cases hl : 5000 < n
  · have hl' : (5000 : Int) < (n : Int) := by omega
    have CA := Lib.hid (awake_any w)
    clear h hl
    go_enter Try.func4, Try.ntmps4
    go_wp2_with fail
    refine CA.out.mono ?_
    rintro e w1 ⟨rfl, b1⟩
    have B1 := Lib.hid b1
    clear b1
    go_wp2_with fail
    go_ret
    exact ⟨rfl, B1.out⟩
  have hl' : ¬ (5000 : Int) < (n : Int) := by omega
  obtain ⟨i0, hi, hz0, hz1, hz2⟩ := info_parts info_u8
  have hown0 := World.ownsRow_made (base := w.heap.size) (e := 5) (size := 1) w #[] 0 (Nat.le_refl _) (Nat.zero_le _) rfl
  obtain ⟨⟨dr, er⟩, hd⟩ : ∃ d, decF l = d := ⟨_, rfl⟩
  have HD := Lib.hid hd
  have HR := Lib.hid h.rng
  have HB := Lib.hid h
  clear h hd
  go_enter Try.func4, Try.ntmps4
  go_wp2_with (at_builtin; refine wpList_append_byt rfl _ _ 33 rfl w.heap.size 5 i0 Try.underlying33 hi hz0 hz1 hz2 _ 0 [] rfl (by exact hown0) A n c l rfl (HB.out.alloc _) (by omega) (by simp) ?_)
  intro A1 c1 w1 q1 q2
  have hb1 : Below w.heap.size w w1 := ((Below.refl _ _).alloc (Nat.le_refl _) _).grown q2 (by simp) (by intro k hk; simp [Value.ownBlock] at hk; omega)
  have Y1 : Hid (Byt w1 A1 n c1 l) := Lib.hid (Byt.of_own (by simpa using q1) HR.out)
  have B1 := Lib.hid hb1
  (try rw [Nat.zero_add])
  have CD := Lib.hid (recDecode_any A1 n c1 l w1 Y1.out)
  clear q1 q2 hown0 hb1
  go_wp2_with fail
  refine CD.out.mono ?_
  rintro e w2 ⟨x, rfl, hx, hxr, hb2⟩
  rw [HD.out] at hxr ⊢
  simp only at hxr ⊢
  obtain ⟨W2, hW2⟩ : ∃ W, W = w2.alloc (.cells x.cells 30) := ⟨_, rfl⟩
  have b2 : Below w2.heap.size w2 W2 := by rw [hW2]; exact (Below.refl _ _).alloc (Nat.le_refl _) _
  obtain ⟨p, hp⟩ : ∃ p, w2.heap.size = p := ⟨_, rfl⟩
  have B2 := Lib.hid (Below.then (Below.then B1.out hb2) b2)
  have V2 : Hid (Bk W2 p 30 x.cells) := Lib.hid (by rw [hW2, ← hp]; exact Bk.new w2 _ _)
  have X2 : Hid (XrIn W2.heap.size W2 x) := Lib.hid ((hx.calm (Calm.of_below b2)).up (Nat.le_trans hb2.size b2.size))
  have CR := refDec7_any A n c l W2 (HB.out.below B2.out)
  have CR := Lib.hid CR
  have HW2 := Lib.hid hW2
  have HXR := Lib.hid hxr
  have HPP := Lib.hid hp
  clear hx hxr hb2 CD b2 hW2 hp
  go_upto_region 4 with (refine wpList_store_new rfl (W := w2) rfl (c := #[.int .i64 0, .int .i64 0, .int .i64 0, .int .i64 0, .string ⟨#[]⟩, .bool false, .string ⟨#[]⟩, .bool false, .string ⟨#[]⟩, .int .i64 0, .slice none 0 0, .slice none 0 0, .slice none 0 0, .slice none 0 0, .slice none 0 0, .slice none 0 0]) (c' := x.cells) rfl rfl rfl inf_rec rfl (Xr.cells_one x) ?_; simp only [Act.put])
  rw [← HW2.out]
  (try rw [HPP.out])
  clear HW2 HPP
  go_wp2_with fail
  refine CR.out.mono ?_
  rintro e w3 ⟨y, rfl, hy, hyr, hb3⟩
  rw [HD.out] at hyr ⊢
  simp only at hyr ⊢
  obtain ⟨W3, hW3⟩ : ∃ W, W = w3.alloc (.cells y.cells 30) := ⟨_, rfl⟩
  have b3 : Below w3.heap.size w3 W3 := by rw [hW3]; exact (Below.refl _ _).alloc (Nat.le_refl _) _
  obtain ⟨q, hq⟩ : ∃ q, w3.heap.size = q := ⟨_, rfl⟩
  have b23 := Below.then hb3 b3
  have B3 := Lib.hid (Below.then B2.out b23)
  have V3 : Hid (Bk W3 p 30 x.cells) := Lib.hid ((b23.block _ V2.out.lt).trans V2.out)
  have U3 : Hid (Bk W3 q 30 y.cells) := Lib.hid (by rw [hW3, ← hq]; exact Bk.new w3 _ _)
  have X3 : Hid (XrIn W3.heap.size W3 x) := Lib.hid ((X2.out.calm (Calm.of_below b23)).up b23.size)
  have Z3 : Hid (XrIn W3.heap.size W3 y) := Lib.hid ((hy.calm (Calm.of_below b3)).up (Nat.le_trans hb3.size b3.size))
  have CS := same7_yes x y W3.heap.size W3.heap.size W3 X3.out Z3.out (by rw [HXR.out, hyr])
  rw [Xr.val_eq x, Xr.val_eq y] at CS
  have CS := Lib.hid CS
  have HW3 := Lib.hid hW3
  have HQQ := Lib.hid hq
  clear hy hyr hb3 CR b3 b23 hW3 V2 X2 hq
  go_upto_region 5 with (refine wpList_store_new rfl (W := w3) rfl (c := #[.int .i64 0, .int .i64 0, .int .i64 0, .int .i64 0, .string ⟨#[]⟩, .bool false, .string ⟨#[]⟩, .bool false, .string ⟨#[]⟩, .int .i64 0, .slice none 0 0, .slice none 0 0, .slice none 0 0, .slice none 0 0, .slice none 0 0, .slice none 0 0]) (c' := y.cells) rfl rfl rfl inf_rec rfl (Xr.cells_one y) ?_; simp only [Act.put])
  rw [← HW3.out]
  (try rw [HQQ.out])
  clear HW3 HQQ
  have hne : ((er : Int) != (er : Int)) = false := by simp
  go_wp2_with (first
    | (refine wpList_load_row_g rfl 30 _ rfl p rfl 30 _ (0, 0) _ V3.out Try.underlying30 rfl inf_rec ?_)
    | (refine wpList_load_row_g rfl 30 _ rfl q rfl 30 _ (0, 0) _ U3.out Try.underlying30 rfl inf_rec ?_))
  refine CS.out.mono ?_
  rintro e w5 ⟨rfl, hb5⟩
  have B5 := Lib.hid (Below.then B3.out hb5)
  have V5 : Hid (Bk w5 p 30 x.cells) := Lib.hid ((hb5.block _ V3.out.lt).trans V3.out)
  have X5 : Hid (XrIn w5.heap.size w5 x) := Lib.hid ((X3.out.calm (Calm.of_below hb5)).up hb5.size)
  have quit : ∀ (v : World), Below w.heap.size w v → Calls Try.prog 6 #[] v (fun e w' => e = .returned (.bool true) ∧ Below w.heap.size w w') := fun v hv => (awake_any v).mono fun e w' h => ⟨h.1, Below.then hv h.2⟩
  have QU := Lib.hid quit
  clear hb5 CS V3 U3 X3 Z3 quit
  by_cases he : er = 0
  · subst he
    have HE := Lib.hid (decF_zero HR.out HD.out)
    have CE := recEncode_any isSame_all x w5 X5.out
    rw [HXR.out, HE.out.1, HE.out.2, Xr.val_eq] at CE
    have CE := Lib.hid CE
    go_wp2_with (refine wpList_load_row rfl 30 _ rfl p rfl 30 _ (0, 0) _ V5.out Try.underlying30 rfl inf_rec ?_)
    refine CE.out.mono ?_
    rintro e w6 ⟨A6, n6, c6, rfl, ho, hr, hb6⟩
    have B6 := Lib.hid (Below.then B5.out hb6)
    have C6 : Hid (Calls Try.prog 12 #[.slice A6 n6 c6, .slice A n c] w6 (Ret (.bool true) w6)) := Lib.hid (Quiet.ret (same_yes A6 n6 c6 A n c l l w6 (Byt.of_own ho hr) (HB.out.below B6.out) rfl))
    clear ho hr hb6 CE
    go_wp2_with fail
    refine C6.out.mono ?_
    rintro e w7 ⟨rfl, hb7⟩
    have CA := Lib.hid (QU.out w7 (Below.then B6.out hb7))
    clear hb7 C6
    go_wp2_with fail
    refine CA.out.mono ?_
    rintro e w8 ⟨rfl, hb8⟩
    have R := Lib.hid hb8
    clear hb8
    go_wp2_with fail
    go_ret
    exact ⟨rfl, R.out⟩
  · have hz : ((er : Int) == 0) = false := by simp; omega
    have CA := Lib.hid (QU.out w5 B5.out)
    clear he
    go_wp2_with fail
    refine CA.out.mono ?_
    rintro e w8 ⟨rfl, hb8⟩
    have R := Lib.hid hb8
    clear hb8
    go_wp2_with fail
    go_ret
    exact ⟨rfl, R.out⟩
end Go.Proofs.Ytfldcddbmikfiaa

/- 'Rows.RecReadsSaid': for every input trothlaw07.RecReads answers true, and what came in reads behind the call as before. No condition. -/
namespace Go.Proofs.Ytfldcddbmikfiaa
open Go.ChangeShapes Go.WideShapes Go.ChangeAt Go.RowKit

set_option maxRecDepth 100000 in
theorem recReads_lifted (os : Os) (started : os.Started) (H : Type) (enc : TypeId × Value → H) :
    ReturnsInHanded {} Try.checked os 4 .any (Rows.recReadsSpec.pre6 enc Try.prog Try.f4 Rows.recReadsRow.domain false) (Rows.recReadsSpec.post enc Try.prog Try.f4 false true false false) := by
  refine returnsInHanded_of_change_sized (C := Try.checked) own_knob started (by kernel_rfl) Try.func4
    (ChangeSpec.witness6 (enc := enc) (C := Try.checked) false ⟨#[], #[.slice none 0 0], []⟩ 8 (by kernel_rfl) (by kernel_rfl) (by kernel_rfl) (by kernel_rfl)) ?_
  intro W base args ds gs before hval0 hW _ hsz0 _
  have hsz : (DataW.weightsEach Try.prog (Try.f4.params.toList ++ Rows.recReadsSpec.plain.varTypes Try.prog) (ds ++ gs)).all (· ≤ reachBytes) = true := hsz0
  have hval : ∀ (j : Nat) t v, Try.f4.params[j]? = some t → args[j]? = some v → Value.okWide Try.prog W .any base t v := hval0
  have hW' := hW
  obtain ⟨p, q, hA0, hV, rfl, hfz, hnd⟩ := hW
  have hA : DataW.TrodAll enc Try.prog W 0 (fun _ => true) true Try.f4.params.toList args.toList ds p := hA0
  rw [Try.params4] at hA hval hsz
  obtain ⟨v0, vs0, d0, ds0, p0, q0, hargs, rfl, rfl, h0, r0⟩ := trodAll_cons hA
  obtain ⟨rfl, rfl, rfl⟩ := trodAll_nil r0
  obtain rfl : args = #[v0] := by cases args; simp_all
  obtain ⟨rfl, rfl⟩ := trodVars_none hV
  obtain ⟨a0, n0, c0, rfl⟩ := okWide_slice Try.underlying33 (hval 0 33 v0 rfl rfl)
  have k0 := h0
  have lt0 : ∀ x ∈ p0, x.block < W.heap.size := by obtain ⟨m, hm⟩ := k0; exact DataW.trod_lt m _ _ _ hm
  obtain ⟨l0, b0, e0⟩ := open_bytes h0
  have z0 : n0 ≤ 140737488351232 := bytes_reach hsz (j := 0) rfl rfl e0
  clear hA0 hval0 hsz0 hsz
  refine (recReads_walk a0 n0 c0 l0 W b0 z0).mono fun e W' ⟨he, bel⟩ => ?_
  subst he
  exact ⟨_, rfl, _, _, _, [], _, [], hW', trodAll_mk1 (shut_bool Try.underlying4 _), (trodAll_cons_mk (Below.trod laidOut (by kernel_rfl) (of_decide_eq_true (by kernel_rfl)) k0 bel lt0) trodAll_mk0), rfl, bel.frame _, fun h => by cases h⟩

/-- The statement. -/
theorem recReads_holds : Rows.RecReadsSaid :=
  OpenClaim.holds_of_wide 4 Try.f4 rfl rfl rfl rfl rfl rfl rfl ⟨rfl, rfl, rfl, rfl, rfl⟩ rfl rfl rfl rfl rfl (by kernel_rfl) Try.func4 (by kernel_rfl)
    (of_decide_eq_true (by kernel_rfl)) (by unfold Func.isWrapper; first | (rw [if_pos (by decide +kernel)]; kernel_rfl) | (rw [if_neg (by decide +kernel)]; exact ⟨rfl, rfl⟩))
    (fun os started H enc _ => recReads_lifted os started H enc)
#print axioms recReads_holds
end Go.Proofs.Ytfldcddbmikfiaa

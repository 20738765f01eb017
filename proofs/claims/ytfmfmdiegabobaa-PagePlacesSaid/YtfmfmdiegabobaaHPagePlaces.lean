/- What it says: 'Rows.PagePlacesSaid': for every input trothlaw10.PagePlaces answers true, and what came in reads behind the call as before. No condition. -/
import Derived.Test.YtfmfmdiegabobaaPa3
import Derived.Test.YtfmfmdiegabobaaPa4
import Derived.Test.YtfmfmdiegabobaaPa5

set_option linter.unusedSimpArgs false
set_option linter.unusedVariables false
set_option linter.deprecated false
set_option linter.unusedSectionVars false
set_option linter.all false
namespace Go.Proofs.Ytfmfmdiegabobaa

/- the Go text of trothlaw10.PagePlaces answers true, and writes nothing that was there. -/
section
open Go.RowKit
/-- A key's page. -/
def foldP (k : ByteArray) (x : Int) : Int := if x < 1 then 0 else ((foldL (nums k) x.toNat : Nat) : Int)
theorem foldP_rng (k : ByteArray) (x : Int) : 0 ≤ foldP k x ∧ ((x < 1 ∧ foldP k x = 0) ∨ (1 ≤ x ∧ foldP k x < x)) := by
  unfold foldP
  by_cases h : x < 1
  · rw [if_pos h]; exact ⟨Int.le_refl _, .inl ⟨h, rfl⟩⟩
  · rw [if_neg h]
    have := foldL_lt (nums k) x.toNat (by omega)
    exact ⟨by omega, .inr ⟨by omega, by omega⟩⟩
set_option maxHeartbeats 1000000 in
theorem place_any (k : ByteArray) (x : Int) (w : World) (hk : k.size ≤ 100) (hx : x ≤ 9223372036854775807) : Calls Try.prog 23 #[.string k, .int .i64 x] w (Ret (.int .i64 (foldP k x)) w) := by
  have hb := bytesWorld_below w 5 k
  have hby := Byt.ofString w 5 k (by unfold maxLen; omega)
  have C : Calls Try.prog 48 #[.slice (some ⟨w.heap.size, 0, none⟩) k.size (grownCap w k.size 0 5), .int .i64 x] (Lib.bytesWorld w 5 k) (Ret (.int .i64 (foldP k x)) (Lib.bytesWorld w 5 k)) := by
    by_cases h : x < 1
    · rw [show foldP k x = 0 from if_pos h]; exact numFold_no _ _ _ x _ h
    · obtain ⟨N, rfl⟩ := Int.eq_ofNat_of_zero_le (a := x) (by omega)
      rw [show foldP k (N : Int) = ((foldL (nums k) N : Nat) : Int) from if_neg h]
      exact numFold_any _ _ _ N (nums k) _ hby (by omega) (by omega)
  have C := Lib.hid C
  have HB := Lib.hid hb
  have kc := conv_str
  clear hb hby
  go_enter Try.func23, Try.ntmps23
  go_wp2_with fail
  refine C.out.mono ?_
  rintro e w1 ⟨rfl, b1⟩
  have B1 := Lib.hid (Below.then HB.out b1)
  clear b1
  go_wp2_with fail
  go_ret
  exact ⟨rfl, B1.out⟩
set_option maxHeartbeats 1000000 in
theorem refPlace_any (k : ByteArray) (x : Int) (w : World) (hk : k.size ≤ 100) (hx : x ≤ 9223372036854775807) : Calls Try.prog 24 #[.string k, .int .i64 x] w (Ret (.int .i64 (foldP k x)) w) := by
  have hb := bytesWorld_below w 5 k
  have hby := Byt.ofString w 5 k (by unfold maxLen; omega)
  have C : Calls Try.prog 49 #[.slice (some ⟨w.heap.size, 0, none⟩) k.size (grownCap w k.size 0 5), .int .i64 x] (Lib.bytesWorld w 5 k) (Ret (.int .i64 (foldP k x)) (Lib.bytesWorld w 5 k)) := by
    by_cases h : x < 1
    · rw [show foldP k x = 0 from if_pos h]; exact refFold_no _ _ _ x _ h
    · obtain ⟨N, rfl⟩ := Int.eq_ofNat_of_zero_le (a := x) (by omega)
      rw [show foldP k (N : Int) = ((foldL (nums k) N : Nat) : Int) from if_neg h]
      exact refFold_any _ _ _ N (nums k) _ hby (by omega) (by omega)
  have C := Lib.hid C
  have HB := Lib.hid hb
  have kc := conv_str
  clear hb hby
  go_enter Try.func24, Try.ntmps24
  go_wp2_with fail
  refine C.out.mono ?_
  rintro e w1 ⟨rfl, b1⟩
  have B1 := Lib.hid (Below.then HB.out b1)
  clear b1
  go_wp2_with fail
  go_ret
  exact ⟨rfl, B1.out⟩
set_option maxRecDepth 100000 in
set_option maxHeartbeats 4000000 in
theorem pagePlaces_walk (k : ByteArray) (x : Int) (w : World) (_hk : k.size ≤ 140737488351232) (hx : -9223372036854775808 ≤ x ∧ x ≤ 9223372036854775807) :
    Calls Try.prog 5 #[.string k, .int .i64 x] w (Ret (.bool true) w) := by
  by_cases h1 : (100 : Int) < (k.size : Int)
  · go_enter Try.func5, Try.ntmps5
    go_wp2_with fail
    refine (awake10 _).mono ?_
    rintro e w2 ⟨rfl, b2⟩
    have H := Lib.hid b2
    clear b2
    go_wp2_with fail
    go_ret
    exact ⟨rfl, H.out⟩
  · obtain ⟨y0, hy⟩ := foldP_rng k x
    have C := fun W => place_any k x W (by omega) hx.2
    have CR := fun W => refPlace_any k x W (by omega) hx.2
    obtain ⟨y, hyy⟩ : ∃ y, foldP k x = y := ⟨_, rfl⟩
    rw [hyy] at hy y0
    simp only [hyy] at C CR
    have C := Lib.hid C
    have CR := Lib.hid CR
    clear hyy
    rcases hy with ⟨hx1, rfl⟩ | ⟨hx1, hyx⟩
    · go_enter Try.func5, Try.ntmps5
      go_wp2_with fail
      refine (C.out _).mono ?_
      rintro e w1 ⟨rfl, b1⟩
      have B1 := Lib.hid b1
      clear b1
      go_wp2_with fail
      refine (CR.out _).mono ?_
      rintro e w2 ⟨rfl, b2⟩
      have B2 := Lib.hid (Below.then B1.out b2)
      clear b2
      go_wp2_with fail
      refine (awake10 _).mono ?_
      rintro e w3 ⟨rfl, b3⟩
      have B3 := Lib.hid (Below.then B2.out b3)
      clear b3
      go_wp2_with fail
      go_ret
      exact ⟨rfl, B3.out⟩
    · have hx2 : ¬ x < 1 := by omega
      go_enter Try.func5, Try.ntmps5
      go_wp2_with fail
      refine (C.out _).mono ?_
      rintro e w1 ⟨rfl, b1⟩
      have B1 := Lib.hid b1
      clear b1
      go_wp2_with fail
      refine (CR.out _).mono ?_
      rintro e w2 ⟨rfl, b2⟩
      have B2 := Lib.hid (Below.then B1.out b2)
      clear b2
      go_wp2_with fail
      refine (awake10 _).mono ?_
      rintro e w3 ⟨rfl, b3⟩
      have B3 := Lib.hid (Below.then B2.out b3)
      clear b3
      go_wp2_with fail
      go_ret
      exact ⟨rfl, B3.out⟩
end

/- 'Rows.PagePlacesSaid': for every input trothlaw10.PagePlaces answers true, and what came in reads behind the call as before. No condition. -/
section
open Go.ChangeShapes Go.WideShapes Go.ChangeAt Go.RowKit
open Go.ChangeMaps (open_string shut_string)
set_option maxRecDepth 100000 in
theorem pagePlaces_lifted (os : Os) (started : os.Started) (H : Type) (enc : TypeId × Value → H) :
    ReturnsInHanded {} Try.checked os 5 .any (Rows.pagePlacesSpec.pre6 enc Try.prog Try.f5 Rows.pagePlacesRow.domain false) (Rows.pagePlacesSpec.post enc Try.prog Try.f5 false true false false) := by
  refine returnsInHanded_of_change_sized (C := Try.checked) own_knob started (by kernel_rfl) Try.func5
    (ChangeSpec.witness6 (enc := enc) (C := Try.checked) false ⟨#[], #[.string ByteArray.empty, .int .i64 0], []⟩ 8 (by kernel_rfl) (by kernel_rfl) (by kernel_rfl) (by kernel_rfl)) ?_
  intro W base args ds gs before hval0 hW _ hsz0 _
  have hsz : (DataW.weightsEach Try.prog (Try.f5.params.toList ++ Rows.pagePlacesSpec.plain.varTypes Try.prog) (ds ++ gs)).all (· ≤ reachBytes) = true := hsz0
  have hval : ∀ (j : Nat) t v, Try.f5.params[j]? = some t → args[j]? = some v → Value.okWide Try.prog W .any base t v := hval0
  have hW' := hW
  obtain ⟨p, q, hA0, hV, rfl, hfz, hnd⟩ := hW
  have hA : DataW.TrodAll enc Try.prog W 0 (fun _ => true) true Try.f5.params.toList args.toList ds p := hA0
  rw [Try.params5] at hA hval hsz
  obtain ⟨v0, vs0, d0, ds0, p0, q0, hargs, rfl, rfl, h0, r0⟩ := trodAll_cons hA
  obtain ⟨v1, vs1, d1, ds1, p1, q1, rfl, rfl, rfl, h1, r1⟩ := trodAll_cons r0
  obtain ⟨rfl, rfl, rfl⟩ := trodAll_nil r1
  obtain rfl : args = #[v0, v1] := by cases args; simp_all
  obtain ⟨rfl, rfl⟩ := trodVars_none hV
  obtain ⟨a0, rfl, e0, rfl, w0⟩ := open_string Try.underlying9 (hval 0 9 v0 rfl rfl) h0
  have z0 : a0.size ≤ 140737488351232 := by have := sized_string hsz (j := 0) rfl (by rw [e0]; rfl); rw [Lib.size_eq]; exact Nat.le_trans this (by decide)
  subst e0
  obtain ⟨a1, rfl, rfl, rfl, w1⟩ := open_int Try.underlying3 (hval 1 3 v1 rfl rfl) h1
  have g1 := i64_bd w1
  clear hA0 hval0 hsz0 hsz
  refine (pagePlaces_walk a0 a1 W z0 g1).mono fun e W' ⟨he, bel⟩ => ?_
  subst he
  exact ⟨_, rfl, _, _, _, [], _, [], hW', trodAll_mk1 (shut_bool Try.underlying4 _), (trodAll_cons_mk (shut_string Try.underlying9 w0) (trodAll_cons_mk (shut_int Try.underlying3 w1) trodAll_mk0)), rfl, bel.frame _, fun h => by cases h⟩
/-- The statement. -/
theorem pagePlaces_holds : Rows.PagePlacesSaid :=
  OpenClaim.holds_of_wide 5 Try.f5 rfl rfl rfl rfl rfl rfl rfl ⟨rfl, rfl, rfl, rfl, rfl⟩ rfl rfl rfl rfl rfl (by kernel_rfl) Try.func5 (by kernel_rfl)
    (of_decide_eq_true (by kernel_rfl)) (by unfold Func.isWrapper; first | (rw [if_pos (by decide +kernel)]; kernel_rfl) | (rw [if_neg (by decide +kernel)]; exact ⟨rfl, rfl⟩))
    (fun os started H enc _ => pagePlaces_lifted os started H enc)
#print axioms pagePlaces_holds
end
end Go.Proofs.Ytfmfmdiegabobaa

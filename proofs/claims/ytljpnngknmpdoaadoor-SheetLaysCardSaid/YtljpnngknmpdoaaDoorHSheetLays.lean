/- What it says: 'Rows.SheetLaysCardSaid': for every input trothlaw08.SheetLays answers true, and what came in reads behind the call as before. No condition but that the listed variables read as the program's text lays them, which the card ties. -/
import Derived.Test.YtljpnngknmpdoaaDoorPk4
import Derived.Test.YtljpnngknmpdoaaDoorPk5
import Derived.Test.YtljpnngknmpdoaaDoorPk6
import Derived.Test.YtljpnngknmpdoaaDoorPk7
import Derived.Test.YtljpnngknmpdoaaDoorCards
import Derived.Test.YtljpnngknmpdoaaDoorTie
import Derived.SevenTiedAt
import Derived.LaidMore
import Derived.Stop.Joined

set_option linter.unusedSimpArgs false
set_option linter.unusedVariables false
set_option linter.deprecated false
set_option linter.unusedSectionVars false
set_option linter.all false

/- the Go text of trothlaw08.SheetLays answers true, and writes nothing that was there. -/
namespace Go.Proofs.YtljpnngknmpdoaaDoor
open Go.RowKit

theorem zb_err2 (m : Nat) (hm : m < 3) : layErr 0 0 [zb (4095 + m)] = if m = 2 then 12 else 0 := by
  unfold layErr
  rw [if_neg (by rintro (h | h) <;> cases h)]
  by_cases q : m = 2
  · rw [if_pos q, if_pos ⟨_, List.mem_singleton.2 rfl, by rw [zb_len]; omega⟩]
  · have : (allL [zb (4095 + m)]).length ≤ 4110 := by
      have := allL_le [zb (4095 + m)] (fun b hb => by simp at hb; subst hb; rw [zb_len]; omega)
      simpa using this
    rw [if_neg q, if_neg (by rintro ⟨b, hb, h⟩; simp at hb; subst hb; rw [zb_len] at h; omega), if_neg (by unfold shN; omega)]

theorem sheetLays_awake (inc pos : Int) (A : Option Addr) (n c : Nat) (ls : List (List Int)) (more : Int) (w : World) (h : BodsE w A n c ls) (hT : Tab w) (hg : greatB ls = true) :
    Calls Tryd.prog 4 #[.int .i64 inc, .int .i64 pos, .slice A n c, .int .i64 more] w (Ret (.bool true) w) := by
  obtain ⟨vs, hv⟩ := h.ex
  have C := great8_any A n c ls vs w hv
  rw [hg] at C
  have C := Lib.hid C
  have HT := Lib.hid hT
  clear h hv hT hg
  go_enter Tryd.func4, Tryd.ntmps4
  go_wp2_with fail
  refine C.out.mono ?_
  rintro e w0 ⟨rfl, rfl⟩
  go_wp2_with fail
  refine (awake8 w HT.out).mono ?_
  rintro e w1 ⟨rfl, b1⟩
  have B1 := Lib.hid b1
  clear b1
  go_wp2_with fail
  go_ret
  exact ⟨rfl, B1.out⟩

set_option maxRecDepth 100000 in
set_option maxHeartbeats 4000000 in
theorem sheetLays_walk (inc pos : Int) (A : Option Addr) (n c : Nat) (ls : List (List Int)) (more : Int) (w : World) (hinc : -9223372036854775808 ≤ inc ∧ inc ≤ 9223372036854775807) (hpos : -9223372036854775808 ≤ pos ∧ pos ≤ 9223372036854775807) (h : BodsE w A n c ls)
    (hmore : -9223372036854775808 ≤ more ∧ more ≤ 9223372036854775807) (hT : Tab w) :
    Calls Tryd.prog 4 #[.int .i64 inc, .int .i64 pos, .slice A n c, .int .i64 more] w (Ret (.bool true) w) := by
  cases hg : greatB ls with
  | true => exact sheetLays_awake inc pos A n c ls more w h hT hg
  | false =>
    obtain ⟨vs, hv⟩ := h.ex
    obtain ⟨hn40, hb1500⟩ := greatB_no hg
    have hnn : n ≤ 40 := by rw [← hv.len]; exact hn40
    have C := great8_any A n c ls vs w hv
    rw [hg] at C
    have C := Lib.hid C
    have HT := Lib.hid hT
    have HV := Lib.hid hv
    have CO := Lib.hid (own8_any A n c ls vs w hv (by omega) (fun b hb => by have := hb1500 b hb; omega))
    have HI := Lib.hid hinc
    have HP := Lib.hid hpos
    obtain ⟨x, hx⟩ : ∃ x, layErr inc pos ls = x := ⟨_, rfl⟩
    obtain ⟨rl, hrl⟩ : ∃ r, layRes inc pos ls = r := ⟨_, rfl⟩
    have HX := Lib.hid hx
    have HRL := Lib.hid hrl
    clear h hv hT hg hb1500 hn40 hinc hpos hx hrl
    go_enter Tryd.func4, Tryd.ntmps4
    go_wp2_with fail
    refine C.out.mono ?_
    rintro e w0 ⟨rfl, rfl⟩
    go_wp2_with fail
    refine CO.out.mono ?_
    rintro e w1 ⟨A1, n1, c1, vs1, rfl, hB1, b1⟩
    have hn1 : n1 = n := by rw [← hB1.len, ← HV.out.len]
    subst hn1
    have C1 := lay_any inc pos A1 n1 c1 ls vs1 w1 hB1 (by omega) HI.out HP.out (HT.out.ret b1)
    rw [HX.out, HRL.out] at C1
    have C1 := Lib.hid C1
    have B1 := Lib.hid b1
    clear hB1 b1 C CO
    go_wp2_with fail
    refine C1.out.mono ?_
    rintro e w2 ⟨A2, n2, c2, rfl, hS2, b2⟩
    have B2 := Lib.hid (B1.out.trans (b2.mono B1.out.size))
    have S2 := Lib.hid hS2
    have C2 := refLay_any inc pos A n1 c ls vs w2 (HV.out.below B2.out) (by omega) HI.out HP.out
    rw [HX.out, HRL.out] at C2
    have C2 := Lib.hid C2
    clear hS2 b2 C1 B1
    go_wp2_with fail
    refine C2.out.mono ?_
    rintro e w3 ⟨A3, n3, c3, rfl, hS3, b3⟩
    have B3 := Lib.hid (B2.out.trans (b3.mono B2.out.size))
    have S3 := Lib.hid hS3
    have S2 := Lib.hid (S2.out.below b3)
    clear hS3 b3 C2 B2
    have fin : ∀ W, Below w3.heap.size w3 W → Calls Tryd.prog 18 #[.slice A2 n2 c2, .slice A3 n3 c3] W (Ret (.bool true) W) := fun W hb => Quiet.ret (sameS_yes A2 n2 c2 A3 n3 c3 rl W (S2.out.below hb) (S3.out.below hb))
    have FIN := Lib.hid fin
    clear fin S2 S3
    by_cases hm : 0 ≤ more ∧ more < 3
    · obtain ⟨m, rfl⟩ := Int.eq_ofNat_of_zero_le hm.1
      have hm3 : m < 3 := by omega
      have hmk := make_bytes (4095 + m) (by omega) w3
      have ec : ((4095 + m : Nat) : Int) = 4095 + (m : Int) := by omega
      rw [ec] at hmk
      have C4 := lay_any 0 0 _ 1 1 [zb (4095 + m)] _ _ (zbods (4095 + m) w3 (by omega)) (by omega) ⟨by omega, by omega⟩ ⟨by omega, by omega⟩ (HT.out.ret (B3.out.trans ((zbods_below (4095 + m) w3).mono B3.out.size)))
      rw [zb_err2 m hm3] at C4
      obtain ⟨rl4, hrl4⟩ : ∃ r, layRes 0 0 [zb (4095 + m)] = r := ⟨_, rfl⟩
      rw [hrl4] at C4
      have C4 := Lib.hid C4
      have ZB := Lib.hid (zbods_below (4095 + m) w3)
      clear hrl4 ec hm
      obtain ⟨x4, hx4⟩ : ∃ x4, (if m = 2 then (12 : Int) else 0) = x4 := ⟨_, rfl⟩
      have hb : ((x4 == 12) = true ∧ ((m : Int) == 2) = true) ∨ ((x4 == 12) = false ∧ ((m : Int) == 2) = false) := by
        by_cases q : m = 2
        · rw [if_pos q] at hx4
          left
          subst hx4
          exact ⟨rfl, by simp; omega⟩
        · rw [if_neg q] at hx4
          right
          subst hx4
          exact ⟨rfl, by simp; omega⟩
      rw [hx4] at C4
      clear hx4
      have hm0 : (0 : Int) ≤ (m : Int) := by omega
      have hm3' : (m : Int) < 3 := by omega
      rcases hb with ⟨p1, p2⟩ | ⟨p1, p2⟩
      all_goals
        go_wp2_with fail
        refine C4.out.mono ?_
        rintro e w4 ⟨A4, n4, c4, rfl, _, b4⟩
        have BB := Lib.hid (ZB.out.trans (b4.mono ZB.out.size))
        clear b4 C4 ZB hmk
        go_wp2_with fail
        refine (FIN.out _ BB.out).mono ?_
        rintro e w5 ⟨rfl, b5⟩
        have B5 := Lib.hid (B3.out.trans ((BB.out.trans (b5.mono BB.out.size)).mono B3.out.size))
        clear b5
        go_wp2_with fail
        refine (awake8 w5 (HT.out.ret B5.out)).mono ?_
        rintro e w6 ⟨rfl, b6⟩
        have B6 := Lib.hid (B5.out.trans (b6.mono B5.out.size))
        clear b6
        go_wp2_with fail
        go_ret
        exact ⟨rfl, B6.out⟩
    · have hor : ¬ 0 ≤ more ∨ (0 ≤ more ∧ ¬ more < 3) := by omega
      clear hm
      rcases hor with q1 | ⟨q1, q2⟩
      all_goals
        go_wp2_with fail
        refine (FIN.out _ (Below.refl _ _)).mono ?_
        rintro e w5 ⟨rfl, b5⟩
        have B5 := Lib.hid (B3.out.trans (b5.mono B3.out.size))
        clear b5
        go_wp2_with fail
        refine (awake8 w5 (HT.out.ret B5.out)).mono ?_
        rintro e w6 ⟨rfl, b6⟩
        have B6 := Lib.hid (B5.out.trans (b6.mono B5.out.size))
        clear b6
        go_wp2_with fail
        go_ret
        exact ⟨rfl, B6.out⟩
end Go.Proofs.YtljpnngknmpdoaaDoor

/- 'Rows.SheetLaysCardSaid': for every input trothlaw08.SheetLays answers true, and what came in reads behind the call as before. No condition but that the listed variables read as the program's text lays them, which the card ties. -/
namespace Go.Proofs.YtljpnngknmpdoaaDoor
open Go.ChangeShapes Go.WideShapes Go.ChangeAt Go.RowKit

theorem sheetLays_door (os : Os) (args : Array Value) : laidMetH Tryd.prog Rows.sheetLaysRow.laid ((World.doorLaid Tryd.prog 14 os).forCall (fun _ _ => 0) ⟨#[], args, []⟩).memory :=
  laidMetH_of_parts3 (fuel := 8) (laidMet_of_run' 8 (by kernel_rfl) (by kernel_rfl)) (by kernel_rfl) (by kernel_rfl)

set_option maxRecDepth 100000 in
theorem sheetLays_lifted (os : Os) (started : os.Started) (H : Type) (enc : TypeId × Value → H) :
    ReturnsInHanded {} Tryd.checked os 4 .any (fun w args => (Rows.sheetLaysSpec.pre enc Tryd.prog Tryd.f4 Rows.sheetLaysRow.domain false w args ∧ laidMetH Tryd.prog Rows.sheetLaysRow.laid w) ∧ sizedMet enc Tryd.prog Tryd.f4 (OpenSpec.ofChange Rows.sheetLaysSpec) false w args)
      (Rows.sheetLaysSpec.post enc Tryd.prog Tryd.f4 false true false false) := by
  refine returnsInHanded_of_change_and (C := Tryd.checked) (X := fun w _ => laidMetH Tryd.prog Rows.sheetLaysRow.laid w) (fun _ _ _ hh h => h.of_heap hh) own_knob started (by kernel_rfl) Tryd.func4
    (ChangeSpec.witness_shaped (enc := enc) (C := Tryd.checked) (os := os) (X := fun w _ => laidMetH Tryd.prog Rows.sheetLaysRow.laid w) false (World.doorLaid Tryd.prog 14 os) #[.int .i64 0, .int .i64 0, .slice none 0 0, .int .i64 0] 8 rfl (World.shaped_of_RefB (by kernel_rfl) (by kernel_rfl)) (by kernel_rfl) (by kernel_rfl) (by kernel_rfl) (sheetLays_door os _)) ?_
  intro W base args ds gs before hval0 hW _ hsz0 hL _
  have hval : ∀ (j : Nat) t v, Tryd.f4.params[j]? = some t → args[j]? = some v → Value.okWide Tryd.prog W .any base t v := hval0
  have hW' := hW
  obtain ⟨p, q, hA0, hV, rfl, hfz, hnd⟩ := hW
  have hA : DataW.TrodAll enc Tryd.prog W 0 (fun _ => true) true Tryd.f4.params.toList args.toList ds p := hA0
  rw [Tryd.params4] at hA hval
  obtain ⟨v0, vs0, d0, ds0, p0, q0, hargs, rfl, rfl, h0, r0⟩ := trodAll_cons hA
  obtain ⟨v1, vs1, d1, ds1, p1, q1, rfl, rfl, rfl, h1, r1⟩ := trodAll_cons r0
  obtain ⟨v2, vs2, d2, ds2, p2, q2, rfl, rfl, rfl, h2, r2⟩ := trodAll_cons r1
  obtain ⟨v3, vs3, d3, ds3, p3, q3, rfl, rfl, rfl, h3, r3⟩ := trodAll_cons r2
  obtain ⟨rfl, rfl, rfl⟩ := trodAll_nil r3
  obtain rfl : args = #[v0, v1, v2, v3] := by cases args; simp_all
  obtain ⟨rfl, rfl⟩ := trodVars_none hV
  obtain ⟨a0, rfl, rfl, rfl, w0⟩ := open_int Tryd.underlying3 (hval 0 3 v0 rfl rfl) h0
  have g0 := i64_bd w0
  obtain ⟨a1, rfl, rfl, rfl, w1⟩ := open_int Tryd.underlying3 (hval 1 3 v1 rfl rfl) h1
  have g1 := i64_bd w1
  obtain ⟨a2, n2, c2, rfl⟩ := okWide_slice Tryd.underlying37 (hval 2 37 v2 rfl rfl)
  have k2 := h2
  have lt2 : ∀ x ∈ p2, x.block < W.heap.size := by obtain ⟨m, hm⟩ := k2; exact DataW.trod_lt m _ _ _ hm
  obtain ⟨l2, b2⟩ := open_bods h2
  obtain ⟨a3, rfl, rfl, rfl, w3⟩ := open_int Tryd.underlying3 (hval 3 3 v3 rfl rfl) h3
  have g3 := i64_bd w3
  clear hA0 hval0 hsz0
  refine (sheetLays_walk a0 a1 a2 n2 c2 l2 a3 W g0 g1 b2 g3 (tab_of_laid hL)).mono fun e W' ⟨he, bel⟩ => ?_
  subst he
  exact ⟨_, rfl, _, _, _, [], _, [], hW', trodAll_mk1 (shut_bool Tryd.underlying4 _), (trodAll_cons_mk (shut_int Tryd.underlying3 w0) (trodAll_cons_mk (shut_int Tryd.underlying3 w1) (trodAll_cons_mk (Below.trod laidOut (by kernel_rfl) (of_decide_eq_true (by kernel_rfl)) k2 bel lt2) (trodAll_cons_mk (shut_int Tryd.underlying3 w3) trodAll_mk0)))), rfl, bel.frame _, fun h => by cases h⟩

/-- The row. -/
theorem sheetLays_holds : Rows.SheetLaysSaid :=
  OpenClaim.holds_of_wide 4 Tryd.f4 rfl rfl rfl rfl rfl rfl rfl ⟨rfl, rfl, rfl, rfl, rfl⟩ rfl rfl rfl rfl rfl (by kernel_rfl) Tryd.func4 (by kernel_rfl)
    (of_decide_eq_true (by kernel_rfl)) (by unfold Func.isWrapper; first | (rw [if_pos (by decide +kernel)]; kernel_rfl) | (rw [if_neg (by decide +kernel)]; exact ⟨rfl, rfl⟩))
    (fun os started H enc _ => sheetLays_lifted os started H enc)

/-- The statement: the tied card. -/
theorem sheetLays_card : Rows.SheetLaysCardSaid :=
  Claim7.holds_tied_plain_at .later [] Rows.sheetLaysCard.laidKinds true Rows.sheetLaysCard.stood.harness false
    sheetLays_holds (fun _ h => by cases h) (by kernel_rfl) (fun _ h => by cases h) sheetLays_row_tie rfl ⟨rfl, rfl⟩ (by kernel_rfl) rfl
    (fun f fn hf hfn => by
      obtain rfl : f = 4 := Option.some.inj ((show Tryd.prog.funcNamed "troth/trothlaw08.SheetLays" = some 4 by kernel_rfl).symm.trans hf) |>.symm
      obtain rfl : fn = Tryd.f4 := (Option.some.inj (Tryd.func4.symm.trans hfn)).symm
      exact ⟨by kernel_rfl, fun j t ht => by
        rw [Tryd.params4] at ht
        have hm : t ∈ [3, 3, 37, 3] := by simpa using Array.mem_of_getElem? ht
        have hall : ([3, 3, 37, 3].all fun u => !Tryd.prog.wantsStandIn u) = true := by kernel_rfl
        exact (show Tryd.prog.wantsStandIn t = false by simpa using List.all_eq_true.1 hall t hm)⟩)
    (by kernel_rfl)
#print axioms sheetLays_card
end Go.Proofs.YtljpnngknmpdoaaDoor

/- What it says: 'Rows.SheetBackCardSaid': for every input trothlaw08.SheetBack answers true, and what came in reads behind the call as before. No condition but that the listed variables read as the program's text lays them, which the card ties. -/
import Derived.Test.YtljpnngknmpdoaaDoorPk4
import Derived.Test.YtljpnngknmpdoaaDoorPk6
import Derived.Test.YtljpnngknmpdoaaDoorPk7
import Derived.Test.YtljpnngknmpdoaaDoorCards
import Derived.Test.YtljpnngknmpdoaaDoorTie
import Derived.SevenTiedAt
import Derived.LaidMore
import Derived.Stop.Joined

set_option linter.unusedSimpArgs false
set_option linter.unusedVariables false
set_option linter.deprecated false
set_option linter.unusedSectionVars false
set_option linter.all false

/- the Go text of trothlaw08.SheetBack answers true, and writes nothing that was there. -/
namespace Go.Proofs.YtljpnngknmpdoaaDoor
open Go.RowKit

set_option maxHeartbeats 1000000 in
theorem sheetBack_awake (inc pos : Int) (A : Option Addr) (n c : Nat) (ls : List (List Int)) (cut : Int) (w : World) (h : BodsE w A n c ls) (hT : Tab w) (hg : greatB ls = true ∨ (greatB ls = false ∧ (inc < 0 ∨ (¬ inc < 0 ∧ 1099511627776 ≤ inc) ∨ (¬ inc < 0 ∧ ¬ 1099511627776 ≤ inc ∧ pos < 0) ∨ (¬ inc < 0 ∧ ¬ 1099511627776 ≤ inc ∧ ¬ pos < 0 ∧ 549755813888 < pos) ∨ (¬ inc < 0 ∧ ¬ 1099511627776 ≤ inc ∧ ¬ pos < 0 ∧ ¬ 549755813888 < pos ∧ cut < 0)))) :
    Calls Tryd.prog 6 #[.int .i64 inc, .int .i64 pos, .slice A n c, .int .i64 cut] w (Ret (.bool true) w) := by
  obtain ⟨vs, hv⟩ := h.ex
  have C := great8_any A n c ls vs w hv
  have HT := Lib.hid hT
  clear h hv hT
  rcases hg with hg | ⟨hg, hor⟩
  · rw [hg] at C
    have C := Lib.hid C
    clear hg
    go_enter Tryd.func6, Tryd.ntmps6
    go_wp2_with fail
    refine C.out.mono ?_
    rintro e w0 ⟨rfl, rfl⟩
    go_wp2_with fail
    refine (awake8 w HT.out).mono ?_
    rintro e w1 ⟨rfl, b1⟩
    have B1 := Lib.hid b1
    clear b1
    go_wp2_with fail
    go_ret
    exact ⟨rfl, B1.out⟩
  · rw [hg] at C
    have C := Lib.hid C
    clear hg
    rcases hor with q1 | ⟨q1, q2⟩ | ⟨q1, q2, q3⟩ | ⟨q1, q2, q3, q4⟩ | ⟨q1, q2, q3, q4, q5⟩
    all_goals
      go_enter Tryd.func6, Tryd.ntmps6
      go_wp2_with fail
      refine C.out.mono ?_
      rintro e w0 ⟨rfl, rfl⟩
      go_wp2_with fail
      refine (awake8 w HT.out).mono ?_
      rintro e w1 ⟨rfl, b1⟩
      have B1 := Lib.hid b1
      clear b1
      go_wp2_with fail
      go_ret
      exact ⟨rfl, B1.out⟩

set_option maxRecDepth 100000 in
set_option maxHeartbeats 4000000 in
theorem sheetBack_main (inc pos : Int) (A : Option Addr) (n c : Nat) (ls : List (List Int)) (cut : Int) (w : World) (h : BodsE w A n c ls) (hT : Tab w) (hg : greatB ls = false) (hi : 0 ≤ inc ∧ inc < 1099511627776) (hp : 0 ≤ pos ∧ pos ≤ 549755813888) (hc : 0 ≤ cut ∧ cut ≤ 9223372036854775807) :
    Calls Tryd.prog 6 #[.int .i64 inc, .int .i64 pos, .slice A n c, .int .i64 cut] w (Ret (.bool true) w) := by
  obtain ⟨vs, hv⟩ := h.ex
  obtain ⟨hn40, hb1500⟩ := greatB_no hg
  have hnn : n ≤ 40 := by rw [← hv.len]; exact hn40
  have hisB := hv.isB
  have hok : ∀ b ∈ ls, isB b ∧ b.length ≤ 4096 := fun b hb => ⟨hisB b hb, by have := hb1500 b hb; omega⟩
  obtain ⟨he, hr⟩ := played_err (inc := inc) (pos := pos) hg hi hp
  have hal := played_len hg
  have C := great8_any A n c ls vs w hv
  rw [hg] at C
  have C := Lib.hid C
  have HT := Lib.hid hT
  have HV := Lib.hid hv
  have CO := Lib.hid (own8_any A n c ls vs w hv (by omega) (fun b hb => by have := hb1500 b hb; omega))
  have HOK := Lib.hid hok
  have H1500 := Lib.hid hb1500
  have HB := Lib.hid hisB
  have HE := Lib.hid he
  have HR := Lib.hid hr
  obtain ⟨q1, q2⟩ := hi
  obtain ⟨q3, q4⟩ := hp
  obtain ⟨q5, q6⟩ := hc
  have t1 : ¬ inc < 0 := by omega
  have t2 : ¬ 1099511627776 ≤ inc := by omega
  have t3 : ¬ pos < 0 := by omega
  have t4 : ¬ 549755813888 < pos := by omega
  have t5 : ¬ cut < 0 := by omega
  have hcap := hv.flt.cap
  have hmax := hv.flt.max
  unfold maxLen at hmax
  clear h hv hT hg hb1500 hn40 hok he hr hisB
  go_enter Tryd.func6, Tryd.ntmps6
  go_wp2_with fail
  refine C.out.mono ?_
  rintro e w0 ⟨rfl, rfl⟩
  go_wp2_with fail
  refine CO.out.mono ?_
  rintro e w1 ⟨A1, n1, c1, vs1, rfl, hB1, b1⟩
  have hn1 : n1 = n := by rw [← hB1.len, ← HV.out.len]
  subst hn1
  have C1 := lay_any inc pos A1 n1 c1 ls vs1 w1 hB1 (by omega) ⟨by omega, by omega⟩ ⟨by omega, by omega⟩ (HT.out.ret b1)
  rw [HE.out, HR.out] at C1
  have C1 := Lib.hid C1
  have B1 := Lib.hid b1
  clear hB1 b1 C CO
  go_wp2_with fail
  refine C1.out.mono ?_
  rintro e w2 ⟨A2, N, c2, rfl, hS2, b2⟩
  have hN : N = shN (allL ls).length := by rw [← hS2.len, layShs_len]
  have hNb : N ≤ 250 := by rw [hN]; unfold shN; omega
  have B2 := Lib.hid (B1.out.trans (b2.mono B1.out.size))
  have S2 := Lib.hid hS2
  have C2 := find_any A2 N c2 _ w2 hS2 (by omega) (layShs_242 inc pos ls) (HT.out.ret B2.out)
  rw [layShs_fd inc pos HB.out] at C2
  have C2 := Lib.hid C2
  have hcap2 := hS2.flt.cap
  have hmax2 := hS2.flt.max
  unfold maxLen at hmax2
  have HN := Lib.hid hN
  clear hS2 b2 C1 B1 hN
  go_wp2_with fail
  refine C2.out.mono ?_
  rintro e w3 ⟨A3, n3, c3, rfl, hF3, hl3, _, b3⟩
  have B3 := Lib.hid (B2.out.trans (b3.mono B2.out.size))
  have S3 := Lib.hid (S2.out.below b3)
  have C3 := Lib.hid (Quiet.ret (bodies_yes A3 n3 c3 A n1 c _ ls vs w3 ⟨hF3, hl3⟩ (HV.out.below B3.out) (found_all HOK.out)))
  clear hF3 hl3 b3 C2 B2 S2
  go_wp2_with fail
  refine C3.out.mono ?_
  rintro e w4 ⟨rfl, b4⟩
  have B4 := Lib.hid (B3.out.trans (b4.mono B3.out.size))
  have S4 := Lib.hid (S3.out.below b4)
  clear b4 C3 B3 S3
  obtain ⟨q, hq⟩ := Int.eq_ofNat_of_zero_le (Int.emod_nonneg cut (show ((N : Int) + 1) ≠ 0 by omega))
  have hqlt : cut % ((N : Int) + 1) < (N : Int) + 1 := Int.emod_lt_of_pos _ (by omega)
  have hq' : cut.tmod ((N : Int) + 1) = (q : Int) := by rw [Int.tmod_eq_emod_of_nonneg q5]; exact hq
  have hqN : q ≤ N := by omega
  clear hqlt
  by_cases hqe : q = N
  · have hb : ((q : Int) == (N : Int)) = true := by simp; omega
    clear hqe S4
    go_wp2_with fail
    refine (awake8 w4 (HT.out.ret B4.out)).mono ?_
    rintro e w5 ⟨rfl, b5⟩
    have B5 := Lib.hid (B4.out.trans (b5.mono B4.out.size))
    clear b5
    go_wp2_with fail
    go_ret
    exact ⟨rfl, B5.out⟩
  · have hb : ((q : Int) == (N : Int)) = false := by simp; omega
    obtain ⟨s0, hs0, hw0, hw1, hw2⟩ := info_parts info_shL
    obtain ⟨j0, hj0, hy0, hy1, hy2⟩ := info_parts info_slJ
    obtain ⟨hsl, _⟩ := cutF_h (t := 39) Tryd.underlying39 hs0 S4.out.flt q hqN (q : Int) rfl
    have C5 := find_any A2 q c2 _ w4 (S4.out.take q hqN) (by omega) (fun x hx => layShs_242 inc pos ls x (List.mem_of_mem_take hx)) (HT.out.ret B4.out)
    rw [List.map_take, layShs_fd inc pos HB.out] at C5
    have C5 := Lib.hid C5
    clear S4 hqe
    go_wp2_with fail
    refine C5.out.mono ?_
    rintro e w5 ⟨A5, n5, c5, rfl, hF5, hl5, _, b5⟩
    have B5 := Lib.hid (B4.out.trans (b5.mono B4.out.size))
    have F5 := Lib.hid (show Fnds w5 A5 n5 c5 _ from ⟨hF5, hl5⟩)
    have C6 := Lib.hid (ended_any A n1 c ls vs w5 (HV.out.below B5.out) (by omega) H1500.out q (by omega))
    clear hF5 hl5 b5 C5 B4 hsl
    go_wp2_with fail
    refine C6.out.mono ?_
    rintro e w6 ⟨j, rfl, hEI, hw6⟩
    subst hw6
    have hjn : j ≤ n1 := by have := hEI.1; rw [HV.out.len] at this; exact this
    have V5 := HV.out.below B5.out
    obtain ⟨hsl2, _⟩ := cutF_h (t := 37) Tryd.underlying37 hj0 V5.flt j hjn (j : Int) rfl
    have hff : (found ((laidL ls).take q)).map Prod.fst = ls.take j := found_first HOK.out q j (by rw [← HN.out]; omega) hEI
    have C7 := Lib.hid (Quiet.ret (bodies_yes A5 n5 c5 A j c _ _ _ w5 F5.out (V5.take j hjn) hff))
    clear hEI C6 V5 hff F5
    go_wp2_with fail
    refine C7.out.mono ?_
    rintro e w7 ⟨rfl, b7⟩
    have B7 := Lib.hid (B5.out.trans (b7.mono B5.out.size))
    clear b7 C7
    go_wp2_with fail
    refine (awake8 w7 (HT.out.ret B7.out)).mono ?_
    rintro e w8 ⟨rfl, b8⟩
    have B8 := Lib.hid (B7.out.trans (b8.mono B7.out.size))
    clear b8
    go_wp2_with fail
    go_ret
    exact ⟨rfl, B8.out⟩

theorem sheetBack_walk (inc pos : Int) (A : Option Addr) (n c : Nat) (ls : List (List Int)) (cut : Int) (w : World) (_hinc : -9223372036854775808 ≤ inc ∧ inc ≤ 9223372036854775807) (_hpos : -9223372036854775808 ≤ pos ∧ pos ≤ 9223372036854775807) (h : BodsE w A n c ls)
    (hcut : -9223372036854775808 ≤ cut ∧ cut ≤ 9223372036854775807) (hT : Tab w) :
    Calls Tryd.prog 6 #[.int .i64 inc, .int .i64 pos, .slice A n c, .int .i64 cut] w (Ret (.bool true) w) := by
  cases hg : greatB ls with
  | true => exact sheetBack_awake inc pos A n c ls cut w h hT (.inl hg)
  | false =>
    by_cases hm : 0 ≤ inc ∧ inc < 1099511627776 ∧ 0 ≤ pos ∧ pos ≤ 549755813888 ∧ 0 ≤ cut
    · exact sheetBack_main inc pos A n c ls cut w h hT hg ⟨hm.1, hm.2.1⟩ ⟨hm.2.2.1, hm.2.2.2.1⟩ ⟨hm.2.2.2.2, hcut.2⟩
    · exact sheetBack_awake inc pos A n c ls cut w h hT (.inr ⟨hg, by omega⟩)
end Go.Proofs.YtljpnngknmpdoaaDoor

/- 'Rows.SheetBackCardSaid': for every input trothlaw08.SheetBack answers true, and what came in reads behind the call as before. No condition but that the listed variables read as the program's text lays them, which the card ties. -/
namespace Go.Proofs.YtljpnngknmpdoaaDoor
open Go.ChangeShapes Go.WideShapes Go.ChangeAt Go.RowKit

theorem sheetBack_door (os : Os) (args : Array Value) : laidMetH Tryd.prog Rows.sheetBackRow.laid ((World.doorLaid Tryd.prog 14 os).forCall (fun _ _ => 0) ⟨#[], args, []⟩).memory :=
  laidMetH_of_parts3 (fuel := 8) (laidMet_of_run' 8 (by kernel_rfl) (by kernel_rfl)) (by kernel_rfl) (by kernel_rfl)

set_option maxRecDepth 100000 in
theorem sheetBack_lifted (os : Os) (started : os.Started) (H : Type) (enc : TypeId × Value → H) :
    ReturnsInHanded {} Tryd.checked os 6 .any (fun w args => (Rows.sheetBackSpec.pre enc Tryd.prog Tryd.f6 Rows.sheetBackRow.domain false w args ∧ laidMetH Tryd.prog Rows.sheetBackRow.laid w) ∧ sizedMet enc Tryd.prog Tryd.f6 (OpenSpec.ofChange Rows.sheetBackSpec) false w args)
      (Rows.sheetBackSpec.post enc Tryd.prog Tryd.f6 false true false false) := by
  refine returnsInHanded_of_change_and (C := Tryd.checked) (X := fun w _ => laidMetH Tryd.prog Rows.sheetBackRow.laid w) (fun _ _ _ hh h => h.of_heap hh) own_knob started (by kernel_rfl) Tryd.func6
    (ChangeSpec.witness_shaped (enc := enc) (C := Tryd.checked) (os := os) (X := fun w _ => laidMetH Tryd.prog Rows.sheetBackRow.laid w) false (World.doorLaid Tryd.prog 14 os) #[.int .i64 0, .int .i64 0, .slice none 0 0, .int .i64 0] 8 rfl (World.shaped_of_RefB (by kernel_rfl) (by kernel_rfl)) (by kernel_rfl) (by kernel_rfl) (by kernel_rfl) (sheetBack_door os _)) ?_
  intro W base args ds gs before hval0 hW _ hsz0 hL _
  have hval : ∀ (j : Nat) t v, Tryd.f6.params[j]? = some t → args[j]? = some v → Value.okWide Tryd.prog W .any base t v := hval0
  have hW' := hW
  obtain ⟨p, q, hA0, hV, rfl, hfz, hnd⟩ := hW
  have hA : DataW.TrodAll enc Tryd.prog W 0 (fun _ => true) true Tryd.f6.params.toList args.toList ds p := hA0
  rw [Tryd.params6] at hA hval
  obtain ⟨v0, vs0, d0, ds0, p0, q0, hargs, rfl, rfl, h0, r0⟩ := trodAll_cons hA
  obtain ⟨v1, vs1, d1, ds1, p1, q1, rfl, rfl, rfl, h1, r1⟩ := trodAll_cons r0
  obtain ⟨v2, vs2, d2, ds2, p2, q2, rfl, rfl, rfl, h2, r2⟩ := trodAll_cons r1
  obtain ⟨v3, vs3, d3, ds3, p3, q3, rfl, rfl, rfl, h3, r3⟩ := trodAll_cons r2
  obtain ⟨rfl, rfl, rfl⟩ := trodAll_nil r3
  obtain rfl : args = #[v0, v1, v2, v3] := by cases args; simp_all
  obtain ⟨rfl, rfl⟩ := trodVars_none hV
  obtain ⟨a0, rfl, rfl, rfl, w0⟩ := open_int Tryd.underlying3 (hval 0 3 v0 rfl rfl) h0
  have g0 := i64_bd w0
  obtain ⟨a1, rfl, rfl, rfl, w1⟩ := open_int Tryd.underlying3 (hval 1 3 v1 rfl rfl) h1
  have g1 := i64_bd w1
  obtain ⟨a2, n2, c2, rfl⟩ := okWide_slice Tryd.underlying37 (hval 2 37 v2 rfl rfl)
  have k2 := h2
  have lt2 : ∀ x ∈ p2, x.block < W.heap.size := by obtain ⟨m, hm⟩ := k2; exact DataW.trod_lt m _ _ _ hm
  obtain ⟨l2, b2⟩ := open_bods h2
  obtain ⟨a3, rfl, rfl, rfl, w3⟩ := open_int Tryd.underlying3 (hval 3 3 v3 rfl rfl) h3
  have g3 := i64_bd w3
  clear hA0 hval0 hsz0
  refine (sheetBack_walk a0 a1 a2 n2 c2 l2 a3 W g0 g1 b2 g3 (tab_of_laid hL)).mono fun e W' ⟨he, bel⟩ => ?_
  subst he
  exact ⟨_, rfl, _, _, _, [], _, [], hW', trodAll_mk1 (shut_bool Tryd.underlying4 _), (trodAll_cons_mk (shut_int Tryd.underlying3 w0) (trodAll_cons_mk (shut_int Tryd.underlying3 w1) (trodAll_cons_mk (Below.trod laidOut (by kernel_rfl) (of_decide_eq_true (by kernel_rfl)) k2 bel lt2) (trodAll_cons_mk (shut_int Tryd.underlying3 w3) trodAll_mk0)))), rfl, bel.frame _, fun h => by cases h⟩

/-- The row. -/
theorem sheetBack_holds : Rows.SheetBackSaid :=
  OpenClaim.holds_of_wide 6 Tryd.f6 rfl rfl rfl rfl rfl rfl rfl ⟨rfl, rfl, rfl, rfl, rfl⟩ rfl rfl rfl rfl rfl (by kernel_rfl) Tryd.func6 (by kernel_rfl)
    (of_decide_eq_true (by kernel_rfl)) (by unfold Func.isWrapper; first | (rw [if_pos (by decide +kernel)]; kernel_rfl) | (rw [if_neg (by decide +kernel)]; exact ⟨rfl, rfl⟩))
    (fun os started H enc _ => sheetBack_lifted os started H enc)

/-- The statement: the tied card. -/
theorem sheetBack_card : Rows.SheetBackCardSaid :=
  Claim7.holds_tied_plain_at .later [] Rows.sheetBackCard.laidKinds true Rows.sheetBackCard.stood.harness false
    sheetBack_holds (fun _ h => by cases h) (by kernel_rfl) (fun _ h => by cases h) sheetBack_row_tie rfl ⟨rfl, rfl⟩ (by kernel_rfl) rfl
    (fun f fn hf hfn => by
      obtain rfl : f = 6 := Option.some.inj ((show Tryd.prog.funcNamed "troth/trothlaw08.SheetBack" = some 6 by kernel_rfl).symm.trans hf) |>.symm
      obtain rfl : fn = Tryd.f6 := (Option.some.inj (Tryd.func6.symm.trans hfn)).symm
      exact ⟨by kernel_rfl, fun j t ht => by
        rw [Tryd.params6] at ht
        have hm : t ∈ [3, 3, 37, 3] := by simpa using Array.mem_of_getElem? ht
        have hall : ([3, 3, 37, 3].all fun u => !Tryd.prog.wantsStandIn u) = true := by kernel_rfl
        exact (show Tryd.prog.wantsStandIn t = false by simpa using List.all_eq_true.1 hall t hm)⟩)
    (by kernel_rfl)
#print axioms sheetBack_card
end Go.Proofs.YtljpnngknmpdoaaDoor

/- What it says: 'Rows.SheetFindsCardSaid': for every input trothlaw08.SheetFinds answers true, and what came in reads behind the call as before. No condition but that the listed variables read as the program's text lays them, which the card ties. -/
import Derived.Test.YtljpnngknmpdoaaDoorPk4
import Derived.Test.YtljpnngknmpdoaaDoorPk5
import Derived.Test.YtljpnngknmpdoaaDoorPk6
import Derived.Test.YtljpnngknmpdoaaDoorCards
import Derived.Test.YtljpnngknmpdoaaDoorTie
import Derived.SevenTiedAt
import Derived.LaidMore
import Derived.Stop.Joined

set_option linter.unusedSimpArgs false
set_option linter.unusedVariables false
set_option linter.deprecated false
set_option linter.unusedSectionVars false
set_option linter.all false

/- the Go text of trothlaw08.SheetFinds answers true, and writes nothing that was there. -/
namespace Go.Proofs.YtljpnngknmpdoaaDoor
open Go.RowKit

set_option maxRecDepth 100000 in
set_option maxHeartbeats 4000000 in
theorem sheetFinds_walk (A : Option Addr) (n c : Nat) (l : List Sh) (w : World) (h : Shs w A n c l) (hT : Tab w) : Calls Tryd.prog 5 #[.slice A n c] w (Ret (.bool true) w) := by
  obtain ⟨s0, hs0, hw0, hw1, hw2⟩ := info_parts info_shL
  have hw : 0 < w.heap.size := by have := World.block_lt_of_cell? w _ (hT 0 (by omega)); omega
  have hcap := h.flt.cap
  have hmax := h.flt.max
  unfold maxLen at hmax
  have HT := Lib.hid hT
  have HS := Lib.hid h
  have hlen := h.len
  clear h hT
  by_cases h60 : (60 : Int) < (n : Int)
  · clear HS
    go_enter Tryd.func5, Tryd.ntmps5
    go_wp2_with fail
    refine (awake8 w HT.out).mono ?_
    rintro e w1 ⟨rfl, b1⟩
    have B1 := Lib.hid b1
    clear b1
    go_wp2_with fail
    go_ret
    exact ⟨rfl, B1.out⟩
  · go_enter Tryd.func5, Tryd.ntmps5
    go_wp2_with fail
    go_loop [3] (fun q => ∃ i : Nat, i ≤ n ∧ q = .int .i64 i ∧ ∀ j, j < i → (l.getD j sh0).data.size ≤ 242) (fun q => n - (intOf q).toNat)
    case atStart => exact ⟨0, Nat.zero_le _, rfl, fun j hj => absurd hj (by omega)⟩
    case round =>
      obtain ⟨i, hin, rfl, hall⟩ := hrel
      have HA := Lib.hid hall
      clear hall
      by_cases hlt : i < n
      · obtain ⟨g, off, hA, hc⟩ := HS.out.flt.at_get sh0 Sh.cells Sh.cells_len hlen (by omega)
        subst hA
        obtain ⟨xd, hxd⟩ : ∃ d, (l.getD i sh0).data = d := ⟨_, rfl⟩
        have c3 := hc i hlt 3 (.string (l.getD i sh0).data) rfl
        rw [hxd] at c3
        have HX := Lib.hid hxd
        clear hc hxd
        by_cases h3 : (242 : Int) < (xd.size : Int)
        · clear HS HA HX
          go_wp2_with fail
          refine (awake8 w HT.out).mono ?_
          rintro e w1 ⟨rfl, b1⟩
          have B1 := Lib.hid b1
          clear b1
          go_wp2_with fail
          go_ret
          exact ⟨rfl, B1.out⟩
        · have HN : Hid (∀ j, j < i + 1 → (l.getD j sh0).data.size ≤ 242) := Lib.hid (fun j hj => by
            by_cases he : j < i
            · exact HA.out j he
            · obtain rfl : j = i := by omega
              rw [HX.out]; omega)
          go_wp2_with fail
          go_round
          case rel => exact ⟨i + 1, by omega, by go_num, HN.out⟩
          case measure => simp [intOf]; omega
      · have hin' : i = n := by omega
        subst hin'
        have h242 : ∀ x ∈ l, x.data.size ≤ 242 := fun x hx => by
          obtain ⟨j, hj, rfl⟩ := List.getElem_of_mem hx
          have := HA.out j (by omega)
          have e : l.getD j sh0 = l[j] := by simp [List.getD, List.getElem?_eq_getElem hj]
          rwa [e] at this
        have H242 := Lib.hid h242
        have hown0 := World.ownsRow_made (base := w.heap.size) (e := 23) (size := 4) w #[] 0 (Nat.le_refl _) (Nat.zero_le _) rfl
        have HF := HS.out.flt.below ((Below.refl w.heap.size w).alloc (Nat.le_refl _) (.cells #[] 23))
        have hi60 : i ≤ 60 := by omega
        clear h242 HA
        go_wp2_with (at_builtin; refine wpList_append_flt rfl _ _ 39 rfl w.heap.size 23 s0 _ 4 40 Tryd.underlying39 hs0 hw0 hw1 hw2 (by rfl) (by omega) rfl (by exact hown0) rfl HF (sh_ones l) (by omega) (by omega) (by simp) ?_)
        intro A1 c1 w1 k1 k2
        have bel1 : Below w.heap.size w w1 := ((Below.refl _ _).alloc (Nat.le_refl _) _).grown k2 (by simp) (fun q hq => by simp [Value.ownBlock] at hq; omega)
        have S1 : Shs w1 A1 i c1 l := ⟨by have := Flt.of_own k1; simpa using this, hlen, HS.out.inn⟩
        have C1 := Lib.hid (find_any A1 i c1 l w1 S1 (by omega) H242.out (HT.out.ret bel1))
        have B1 := Lib.hid bel1
        clear k1 k2 bel1 S1 HF hown0
        (try rw [Nat.zero_add])
        go_wp2_with fail
        refine C1.out.mono ?_
        rintro e w2 ⟨A2, n2, c2, rfl, hF2, hl2, _, b2⟩
        have F2 := Lib.hid (show Fnds w2 A2 n2 c2 _ from ⟨hF2, hl2⟩)
        have B2 := Lib.hid (B1.out.trans (b2.mono B1.out.size))
        have C2 := Lib.hid (refFind_any A i c l w2 (HS.out.below B2.out) (by omega) H242.out (Nat.lt_of_lt_of_le hw B2.out.size))
        clear hF2 hl2 b2 C1 B1
        go_wp2_with fail
        refine C2.out.mono ?_
        rintro e w3 ⟨A3, n3, c3, rfl, hF3, hl3, _, b3⟩
        have C3 := Lib.hid (Quiet.ret (sameF_yes A2 n2 c2 A3 n3 c3 _ w3 (F2.out.below b3) ⟨hF3, hl3⟩))
        have B3 := Lib.hid (B2.out.trans (b3.mono B2.out.size))
        clear hF3 hl3 b3 C2 B2 F2
        go_wp2_with fail
        refine C3.out.mono ?_
        rintro e w4 ⟨rfl, b4⟩
        have B4 := Lib.hid (B3.out.trans (b4.mono B3.out.size))
        clear b4 C3 B3
        go_wp2_with fail
        refine (awake8 w4 (HT.out.ret B4.out)).mono ?_
        rintro e w5 ⟨rfl, b5⟩
        have B5 := Lib.hid (B4.out.trans (b5.mono B4.out.size))
        clear b5
        go_wp2_with fail
        go_ret
        exact ⟨rfl, B5.out⟩
end Go.Proofs.YtljpnngknmpdoaaDoor

/- 'Rows.SheetFindsCardSaid': for every input trothlaw08.SheetFinds answers true, and what came in reads behind the call as before. No condition but that the listed variables read as the program's text lays them, which the card ties. -/
namespace Go.Proofs.YtljpnngknmpdoaaDoor
open Go.ChangeShapes Go.WideShapes Go.ChangeAt Go.RowKit

theorem sheetFinds_door (os : Os) (args : Array Value) : laidMetH Tryd.prog Rows.sheetFindsRow.laid ((World.doorLaid Tryd.prog 14 os).forCall (fun _ _ => 0) ⟨#[], args, []⟩).memory :=
  laidMetH_of_parts3 (fuel := 8) (laidMet_of_run' 8 (by kernel_rfl) (by kernel_rfl)) (by kernel_rfl) (by kernel_rfl)

set_option maxRecDepth 100000 in
theorem sheetFinds_lifted (os : Os) (started : os.Started) (H : Type) (enc : TypeId × Value → H) :
    ReturnsInHanded {} Tryd.checked os 5 .any (fun w args => (Rows.sheetFindsSpec.pre enc Tryd.prog Tryd.f5 Rows.sheetFindsRow.domain false w args ∧ laidMetH Tryd.prog Rows.sheetFindsRow.laid w) ∧ sizedMet enc Tryd.prog Tryd.f5 (OpenSpec.ofChange Rows.sheetFindsSpec) false w args)
      (Rows.sheetFindsSpec.post enc Tryd.prog Tryd.f5 false true false false) := by
  refine returnsInHanded_of_change_and (C := Tryd.checked) (X := fun w _ => laidMetH Tryd.prog Rows.sheetFindsRow.laid w) (fun _ _ _ hh h => h.of_heap hh) own_knob started (by kernel_rfl) Tryd.func5
    (ChangeSpec.witness_shaped (enc := enc) (C := Tryd.checked) (os := os) (X := fun w _ => laidMetH Tryd.prog Rows.sheetFindsRow.laid w) false (World.doorLaid Tryd.prog 14 os) #[.slice none 0 0] 8 rfl (World.shaped_of_RefB (by kernel_rfl) (by kernel_rfl)) (by kernel_rfl) (by kernel_rfl) (by kernel_rfl) (sheetFinds_door os _)) ?_
  intro W base args ds gs before hval0 hW _ hsz0 hL _
  have hval : ∀ (j : Nat) t v, Tryd.f5.params[j]? = some t → args[j]? = some v → Value.okWide Tryd.prog W .any base t v := hval0
  have hW' := hW
  obtain ⟨p, q, hA0, hV, rfl, hfz, hnd⟩ := hW
  have hA : DataW.TrodAll enc Tryd.prog W 0 (fun _ => true) true Tryd.f5.params.toList args.toList ds p := hA0
  rw [Tryd.params5] at hA hval
  obtain ⟨v0, vs0, d0, ds0, p0, q0, hargs, rfl, rfl, h0, r0⟩ := trodAll_cons hA
  obtain ⟨rfl, rfl, rfl⟩ := trodAll_nil r0
  obtain rfl : args = #[v0] := by cases args; simp_all
  obtain ⟨rfl, rfl⟩ := trodVars_none hV
  obtain ⟨a0, n0, c0, rfl⟩ := okWide_slice Tryd.underlying39 (hval 0 39 v0 rfl rfl)
  have k0 := h0
  have lt0 : ∀ x ∈ p0, x.block < W.heap.size := by obtain ⟨m, hm⟩ := k0; exact DataW.trod_lt m _ _ _ hm
  obtain ⟨l0, b0⟩ := open_shs h0
  clear hA0 hval0 hsz0
  refine (sheetFinds_walk a0 n0 c0 l0 W b0 (tab_of_laid hL)).mono fun e W' ⟨he, bel⟩ => ?_
  subst he
  exact ⟨_, rfl, _, _, _, [], _, [], hW', trodAll_mk1 (shut_bool Tryd.underlying4 _), (trodAll_cons_mk (Below.trod laidOut (by kernel_rfl) (of_decide_eq_true (by kernel_rfl)) k0 bel lt0) trodAll_mk0), rfl, bel.frame _, fun h => by cases h⟩

/-- The row. -/
theorem sheetFinds_holds : Rows.SheetFindsSaid :=
  OpenClaim.holds_of_wide 5 Tryd.f5 rfl rfl rfl rfl rfl rfl rfl ⟨rfl, rfl, rfl, rfl, rfl⟩ rfl rfl rfl rfl rfl (by kernel_rfl) Tryd.func5 (by kernel_rfl)
    (of_decide_eq_true (by kernel_rfl)) (by unfold Func.isWrapper; first | (rw [if_pos (by decide +kernel)]; kernel_rfl) | (rw [if_neg (by decide +kernel)]; exact ⟨rfl, rfl⟩))
    (fun os started H enc _ => sheetFinds_lifted os started H enc)

/-- The statement: the tied card. -/
theorem sheetFinds_card : Rows.SheetFindsCardSaid :=
  Claim7.holds_tied_plain_at .later [] Rows.sheetFindsCard.laidKinds true Rows.sheetFindsCard.stood.harness false
    sheetFinds_holds (fun _ h => by cases h) (by kernel_rfl) (fun _ h => by cases h) sheetFinds_row_tie rfl ⟨rfl, rfl⟩ (by kernel_rfl) rfl
    (fun f fn hf hfn => by
      obtain rfl : f = 5 := Option.some.inj ((show Tryd.prog.funcNamed "troth/trothlaw08.SheetFinds" = some 5 by kernel_rfl).symm.trans hf) |>.symm
      obtain rfl : fn = Tryd.f5 := (Option.some.inj (Tryd.func5.symm.trans hfn)).symm
      exact ⟨by kernel_rfl, fun j t ht => by
        rw [Tryd.params5] at ht
        have hm : t ∈ [39] := by simpa using Array.mem_of_getElem? ht
        have hall : ([39].all fun u => !Tryd.prog.wantsStandIn u) = true := by kernel_rfl
        exact (show Tryd.prog.wantsStandIn t = false by simpa using List.all_eq_true.1 hall t hm)⟩)
    (by kernel_rfl)
#print axioms sheetFinds_card
end Go.Proofs.YtljpnngknmpdoaaDoor

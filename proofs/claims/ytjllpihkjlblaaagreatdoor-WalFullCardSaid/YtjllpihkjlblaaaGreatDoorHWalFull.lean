/- What it says: 'Rows.WalFullCardSaid': for every input trothlaw09.WalFull answers true, and what came in reads behind the call as before. No condition but that the listed variables read as the program's text lays them, which the card ties. -/
import Derived.Test.YtjllpihkjlblaaaGreatDoorPk32
import Derived.LoopTactic
import Derived.Deep.CutBlock
import Derived.Test.YtjllpihkjlblaaaGreatDoorCards
import Derived.Test.YtjllpihkjlblaaaGreatDoorTie
import Derived.SevenTiedAt
import Derived.LaidMore
import Derived.Stop.Joined

set_option linter.unusedSimpArgs false
set_option linter.unusedVariables false
set_option linter.deprecated false
set_option linter.unusedSectionVars false
set_option linter.all false
namespace Go.Proofs.YtjllpihkjlblaaaGreatDoor

/- the walk of the law WalFull: whatever comes in, it answers true and turns nothing that was there. -/
section
open Go.RowKit
def fI : Nat → Nat := fun i => i % 100 + 1
theorem fI_ok : fOk fI := fun i => ⟨by show 1 ≤ i % 100 + 1; omega, by show i % 100 + 1 < 128; omega⟩
theorem fI_is (i : Nat) (h : i < 60) : fI i = i + 1 := by show i % 100 + 1 = i + 1; omega
theorem lgN_congr (z : Int) {f g : Nat → Nat} (k : Nat) (h : ∀ i, i < k → f i = g i) : lgN z f k = lgN z g k := by
  unfold lgN
  have : rcsN f k = rcsN g k := List.map_congr_left (fun i hi => by rw [h i (List.mem_range.1 hi)])
  rw [this]
/-- The call of a record that hasn't room, whatever small one it is. -/
theorem wgFullAppend_any {B : Nat} {R : Res} {w : World} {b d : Nat} {z : Int} {k : Nat} (h : Has B ((lgR b d (lgN z fI k)).star R) w) (hB : B ≤ w.heap.size) (hT : Tab w) (hz : 8 ≤ z ∧ z ≤ 1000) (hk : k ≤ 900) (sp : Int) (hsp : -9223372036854775808 ≤ sp ∧ sp ≤ 9223372036854775807) (hr : z - max sp 0 < (k : Int) + 1) (tx : Nat) (ht : 1 ≤ tx ∧ tx < 128) :
    Calls Tryz.prog 29 #[.pointer (some ⟨b, 0, none⟩), (xOne tx).val, .int .i64 sp] w (RetHas (.tuple #[.int .i64 0, .int .i64 90]) B ((lgR b d (lgN z fI k)).star R) w) := by
  have e : lgN z fI k = lgN z (fun i => if i = k then tx else fI i) k := lgN_congr z k (fun i hi => by rw [if_neg (by omega)])
  rw [e] at h ⊢
  refine lgN_append_full h hB hT (fun i => ?_) hz hk sp hsp hr tx (by simp)
  show 1 ≤ (if i = k then tx else fI i) ∧ (if i = k then tx else fI i) < 128
  split
  · exact ht
  · exact fI_ok i
set_option maxRecDepth 100000 in
set_option maxHeartbeats 8000000 in
theorem walFull_walk (count spare : Int) (w : World) (h0 : -9223372036854775808 ≤ count ∧ count ≤ 9223372036854775807) (h1 : -9223372036854775808 ≤ spare ∧ spare ≤ 9223372036854775807) (hT : Tab w) :
    Calls Tryz.prog 6 #[.int .i64 count, .int .i64 spare] w (Ret (.bool true) w) := by
  have hg : 0 < w.heap.size := World.block_lt_of_cell? w _ (hT 0 (by omega))
  have HT := Lib.hid hT
  clear hT
  by_cases hbad : count < 8 ∨ count > 40 ∨ spare < 0 ∨ spare > 60
  · have CA := Lib.hid (awake9_any (Has.emp w.heap.size w) (Nat.le_refl _) hg HT.out)
    by_cases g1 : count < 8
    · have g1' : decide (count < 8) = true := decide_eq_true g1
      go_enter Tryz.func6, Tryz.ntmps6
      go_wp2_with fail
      refine CA.out.mono ?_
      rintro e w1 ⟨rfl, _, b1⟩
      have R9 := Lib.hid b1
      clear b1
      go_wp2_with fail
      go_ret
      exact ⟨rfl, R9.out⟩
    · have g1' : decide (count < 8) = false := decide_eq_false g1
      by_cases g2 : 40 < count
      · have g2' : decide ((40 : Int) < count) = true := decide_eq_true g2
        go_enter Tryz.func6, Tryz.ntmps6
        go_wp2_with fail
        refine CA.out.mono ?_
        rintro e w1 ⟨rfl, _, b1⟩
        have R9 := Lib.hid b1
        clear b1
        go_wp2_with fail
        go_ret
        exact ⟨rfl, R9.out⟩
      · have g2' : decide ((40 : Int) < count) = false := decide_eq_false g2
        by_cases g3 : spare < 0
        · have g3' : decide (spare < 0) = true := decide_eq_true g3
          go_enter Tryz.func6, Tryz.ntmps6
          go_wp2_with fail
          refine CA.out.mono ?_
          rintro e w1 ⟨rfl, _, b1⟩
          have R9 := Lib.hid b1
          clear b1
          go_wp2_with fail
          go_ret
          exact ⟨rfl, R9.out⟩
        · have g3' : decide (spare < 0) = false := decide_eq_false g3
          have g4 : 60 < spare := by omega
          go_enter Tryz.func6, Tryz.ntmps6
          go_wp2_with fail
          refine CA.out.mono ?_
          rintro e w1 ⟨rfl, _, b1⟩
          have R9 := Lib.hid b1
          clear b1
          go_wp2_with fail
          go_ret
          exact ⟨rfl, R9.out⟩
  · have g1' : decide (count < 8) = false := decide_eq_false (by omega)
    have g2' : decide ((40 : Int) < count) = false := decide_eq_false (by omega)
    have g3' : decide (spare < 0) = false := decide_eq_false (by omega)
    have g4' : decide ((60 : Int) < spare) = false := decide_eq_false (by omega)
    have hc : 8 ≤ count ∧ count ≤ 40 := by omega
    have hs : 0 ≤ spare ∧ spare ≤ 60 := by omega
    have CM := Lib.hid (made_any (Has.emp w.heap.size w) (Nat.le_refl _) hg HT.out count (by omega))
    obtain ⟨M, hM⟩ : ∃ M : Nat, (M : Int) = max 0 (count - spare) := ⟨(max 0 (count - spare)).toNat, by omega⟩
    clear hbad
    go_enter Tryz.func6, Tryz.ntmps6
    go_wp2_with fail
    refine CM.out.mono ?_
    rintro e w1 ⟨d, b, s, rfl, hm, h1, b1⟩
    rw [lgMade_eq count fI] at h1
    have H1 := Lib.hid h1
    have B1 := Lib.hid b1
    have D1 := Lib.hid hm.dk
    clear hm h1 b1 CM
    go_wp2_with fail
    go_loopw [7] (fun q wr => ∃ (i k : Nat) (s : St), i ≤ 60 ∧ q = .int .i64 i ∧ k = min i M ∧ Dk count (2 + i) s ∧ Has w.heap.size ((lgR b d (lgN count fI k)).star ((dsk d s).star emp)) wr ∧ Below w.heap.size w wr) (fun q _ => 60 - (intOf q).toNat)
    case atStart => exact ⟨0, 0, s, by omega, rfl, by omega, D1.out, H1.out, B1.out⟩
    case round =>
      obtain ⟨i, k, s, hi, rfl, hk, hd, hh, hb⟩ := hrel
      have HH := Lib.hid hh
      have HD := Lib.hid hd
      have HB := Lib.hid hb
      have hB : w.heap.size ≤ wr.heap.size := hb.size
      clear hh hd hb H1 B1 D1
      by_cases hlt : i < 60
      · have CO := Lib.hid (one_any ((i : Int) + 1) wr)
        go_wp2_with fail
        refine CO.out.mono ?_
        rintro e w2 ⟨rfl, b2⟩
        have hB2 : w.heap.size ≤ w2.heap.size := Nat.le_trans hB b2.size
        have B2 : Hid (Below w.heap.size w w2) := Lib.hid (HB.out.trans (b2.mono hB))
        have T2 := Lib.hid (HT.out.below B2.out hg)
        have e1 : ((i : Int) + 1) = ((i + 1 : Nat) : Int) := by omega
        by_cases hfull : i < M
        · have hki : k = i := by omega
          subst hki
          have CA := Lib.hid (lgN_append (HH.out.below b2) hB2 T2.out fI_ok (by omega) (by omega) spare h1 (by omega))
          rw [fI_is k hlt, ← e1] at CA
          have c1 : decide ((k : Int) < count - spare) = true := decide_eq_true (by omega)
          clear b2 CO e1 hk
          go_wp2_with fail
          refine CA.out.mono ?_
          rintro e w3 ⟨rfl, h3, b3⟩
          have hB3 : w.heap.size ≤ w3.heap.size := Nat.le_trans hB2 b3.size
          have B3 : Hid (Below w.heap.size w w3) := Lib.hid (B2.out.trans b3)
          have CF := Lib.hid (lgW_force h3 hB3 (HT.out.below B3.out hg) fI_ok (by omega) (by omega) HD.out (by omega))
          clear h3 b3 CA
          go_wp2_with fail
          refine CF.out.mono ?_
          rintro e w4 ⟨s4, rfl, d4, h4, b4⟩
          have NX : Hid (∃ (i' k' : Nat) (s : St), i' ≤ 60 ∧ ((k : Int) + 1 = (i' : Int)) ∧ k' = min i' M ∧ Dk count (2 + i') s ∧ Has w.heap.size ((lgR b d (lgN count fI k')).star ((dsk d s).star emp)) w4 ∧ Below w.heap.size w w4) := Lib.hid ⟨k + 1, k + 1, s4, by omega, by omega, by omega, d4, h4, B3.out.trans b4⟩
          clear d4 h4 b4 CF
          go_wp2_with fail
          go_roundw
          case rel =>
            obtain ⟨i', k', s', n1, n2, n3⟩ := NX.out
            exact ⟨i', k', s', n1, by rw [← n2], n3⟩
          case measure => simp [intOf]; omega
        · have hkm : k = M := by omega
          have CA := Lib.hid (wgFullAppend_any (HH.out.below b2) hB2 T2.out (by omega) (by omega) spare h1 (by omega) (i + 1) (by omega))
          rw [← e1] at CA
          have c1 : decide ((i : Int) < count - spare) = false := decide_eq_false (by omega)
          clear b2 CO e1
          go_wp2_with fail
          refine CA.out.mono ?_
          rintro e w3 ⟨rfl, h3, b3⟩
          have hB3 : w.heap.size ≤ w3.heap.size := Nat.le_trans hB2 b3.size
          have B3 : Hid (Below w.heap.size w w3) := Lib.hid (B2.out.trans b3)
          have CF := Lib.hid (lgN_force h3 hB3 (HT.out.below B3.out hg) (by omega) (by omega) HD.out (by omega))
          clear h3 b3 CA
          go_wp2_with fail
          refine CF.out.mono ?_
          rintro e w4 ⟨s4, rfl, d4, h4, b4⟩
          have NX : Hid (∃ (i' k' : Nat) (s : St), i' ≤ 60 ∧ ((i : Int) + 1 = (i' : Int)) ∧ k' = min i' M ∧ Dk count (2 + i') s ∧ Has w.heap.size ((lgR b d (lgN count fI k')).star ((dsk d s).star emp)) w4 ∧ Below w.heap.size w w4) := Lib.hid ⟨i + 1, k, s4, by omega, by omega, by omega, d4, h4, B3.out.trans b4⟩
          clear d4 h4 b4 CF
          go_wp2_with fail
          go_roundw
          case rel =>
            obtain ⟨i', k', s', n1, n2, n3⟩ := NX.out
            exact ⟨i', k', s', n1, by rw [← n2], n3⟩
          case measure => simp [intOf]; omega
      · have N1 := Lib.hid (lgN_nums HH.out (by omega) (by omega))
        have hmx : max 0 (min (count - spare) 60) = (k : Int) := by omega
        go_wp2_with fail
        (try rw [hmx])
        refine N1.out.2.1.mono ?_
        rintro e w2 ⟨rfl, b2⟩
        have B2 : Hid (Below w.heap.size w w2) := Lib.hid (HB.out.trans (b2.mono hB))
        have hB2 : w.heap.size ≤ w2.heap.size := Nat.le_trans hB b2.size
        have H2 := Lib.hid (HH.out.below b2)
        have N2 := Lib.hid (lgN_nums H2.out (by omega) (by omega))
        have hk' : ((k : Int) == (k : Int)) = true := by simp
        clear b2 N1
        go_wp2_with fail
        refine N2.out.2.2.mono ?_
        rintro e w3 ⟨rfl, b3⟩
        have B3 : Hid (Below w.heap.size w w3) := Lib.hid (B2.out.trans (b3.mono hB2))
        have CA := Lib.hid (awake9_any (Has.emp w.heap.size w3) B3.out.size hg (HT.out.below B3.out hg))
        clear b3 N2
        go_wp2_with fail
        refine CA.out.mono ?_
        rintro e w4 ⟨rfl, _, b4⟩
        have R9 : Hid (Ret (.bool true) w (.returned (.bool true)) w4) := Lib.hid ⟨rfl, B3.out.trans b4⟩
        clear b4 CA
        go_wp2_with fail
        go_ret
        exact R9.out
end

/- 'Rows.WalFullCardSaid': for every input trothlaw09.WalFull answers true, and what came in reads behind the call as before. No condition but that the listed variables read as the program's text lays them, which the card ties. -/
section
open Go.ChangeShapes Go.WideShapes Go.ChangeAt Go.RowKit
theorem walFull_door (os : Os) (args : Array Value) : laidMetH Tryz.prog Rows.walFullRow.laid ((World.doorLaid Tryz.prog 14 os).forCall (fun _ _ => 0) ⟨#[], args, []⟩).memory :=
  laidMetH_of_parts3 (fuel := 8) (laidMet_of_run' 8 (by kernel_rfl) (by kernel_rfl)) (by kernel_rfl) (by kernel_rfl)
set_option maxRecDepth 100000 in
theorem walFull_lifted (os : Os) (started : os.Started) (H : Type) (enc : TypeId × Value → H) :
    ReturnsInHanded {} Tryz.checked os 6 .any (fun w args => (Rows.walFullSpec.pre enc Tryz.prog Tryz.f6 Rows.walFullRow.domain false w args ∧ laidMetH Tryz.prog Rows.walFullRow.laid w) ∧ sizedMet enc Tryz.prog Tryz.f6 (OpenSpec.ofChange Rows.walFullSpec) false w args)
      (Rows.walFullSpec.post enc Tryz.prog Tryz.f6 false true false false) := by
  refine returnsInHanded_of_change_and (C := Tryz.checked) (X := fun w _ => laidMetH Tryz.prog Rows.walFullRow.laid w) (fun _ _ _ hh h => h.of_heap hh) own_knob started (by kernel_rfl) Tryz.func6
    (ChangeSpec.witness_shaped (enc := enc) (C := Tryz.checked) (os := os) (X := fun w _ => laidMetH Tryz.prog Rows.walFullRow.laid w) false (World.doorLaid Tryz.prog 14 os) #[.int .i64 0, .int .i64 0] 8 rfl (World.shaped_of_RefB (by kernel_rfl) (by kernel_rfl)) (by kernel_rfl) (by kernel_rfl) (by kernel_rfl) (walFull_door os _)) ?_
  intro W base args ds gs before hval0 hW _ hsz0 hL _
  have hval : ∀ (j : Nat) t v, Tryz.f6.params[j]? = some t → args[j]? = some v → Value.okWide Tryz.prog W .any base t v := hval0
  have hW' := hW
  obtain ⟨p, q, hA0, hV, rfl, hfz, hnd⟩ := hW
  have hA : DataW.TrodAll enc Tryz.prog W 0 (fun _ => true) true Tryz.f6.params.toList args.toList ds p := hA0
  rw [Tryz.params6] at hA hval
  obtain ⟨v0, vs0, d0, ds0, p0, q0, hargs, rfl, rfl, h0, r0⟩ := trodAll_cons hA
  obtain ⟨v1, vs1, d1, ds1, p1, q1, rfl, rfl, rfl, h1, r1⟩ := trodAll_cons r0
  obtain ⟨rfl, rfl, rfl⟩ := trodAll_nil r1
  obtain rfl : args = #[v0, v1] := by cases args; simp_all
  obtain ⟨rfl, rfl⟩ := trodVars_none hV
  obtain ⟨a0, rfl, rfl, rfl, w0⟩ := open_int Tryz.underlying3 (hval 0 3 v0 rfl rfl) h0
  have g0 := i64_bd w0
  obtain ⟨a1, rfl, rfl, rfl, w1⟩ := open_int Tryz.underlying3 (hval 1 3 v1 rfl rfl) h1
  have g1 := i64_bd w1
  clear hA0 hval0 hsz0
  refine (walFull_walk a0 a1 W g0 g1 (tab_of_laid hL)).mono fun e W' ⟨he, bel⟩ => ?_
  subst he
  exact ⟨_, rfl, _, _, _, [], _, [], hW', trodAll_mk1 (shut_bool Tryz.underlying4 _), (trodAll_cons_mk (shut_int Tryz.underlying3 w0) (trodAll_cons_mk (shut_int Tryz.underlying3 w1) trodAll_mk0)), rfl, bel.frame _, fun h => by cases h⟩
/-- The row. -/
theorem walFull_holds : Rows.WalFullSaid :=
  OpenClaim.holds_of_wide 6 Tryz.f6 rfl rfl rfl rfl rfl rfl rfl ⟨rfl, rfl, rfl, rfl, rfl⟩ rfl rfl rfl rfl rfl (by kernel_rfl) Tryz.func6 (by kernel_rfl)
    (of_decide_eq_true (by kernel_rfl)) (by unfold Func.isWrapper; first | (rw [if_pos (by decide +kernel)]; kernel_rfl) | (rw [if_neg (by decide +kernel)]; exact ⟨rfl, rfl⟩))
    (fun os started H enc _ => walFull_lifted os started H enc)
/-- The statement: the tied card. -/
theorem walFull_card : Rows.WalFullCardSaid :=
  Claim7.holds_tied_plain_at .later [] Rows.walFullCard.laidKinds true Rows.walFullCard.stood.harness Rows.walFullCard.stood.looks
    walFull_holds (fun _ h => by cases h) (by kernel_rfl) (fun _ h => by cases h) walFull_row_tie rfl ⟨rfl, rfl⟩ (by kernel_rfl) rfl
    (fun f fn hf hfn => by
      obtain rfl : f = 6 := Option.some.inj ((show Tryz.prog.funcNamed "troth/trothlaw09.WalFull" = some 6 by kernel_rfl).symm.trans hf) |>.symm
      obtain rfl : fn = Tryz.f6 := (Option.some.inj (Tryz.func6.symm.trans hfn)).symm
      exact ⟨by kernel_rfl, fun j t ht => by
        rw [Tryz.params6] at ht
        have hm : t ∈ [3, 3] := by simpa using Array.mem_of_getElem? ht
        have hall : ([3, 3].all fun u => !Tryz.prog.wantsStandIn u) = true := by kernel_rfl
        exact (show Tryz.prog.wantsStandIn t = false by simpa using List.all_eq_true.1 hall t hm)⟩)
    (by kernel_rfl)
#print axioms walFull_card
end
end Go.Proofs.YtjllpihkjlblaaaGreatDoor

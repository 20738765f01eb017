/- What it says: 'Rows.PageSetsSaid': for every input trothlaw10.PageSets answers true, and what came in reads behind the call as before. No condition. -/
import Derived.Test.YtfmfmdiegabobaaPa2
import Derived.Test.YtfmfmdiegabobaaPa3
import Derived.Test.YtfmfmdiegabobaaPa4
import Derived.Test.YtfmfmdiegabobaaPa5

set_option linter.unusedSimpArgs false
set_option linter.unusedVariables false
set_option linter.deprecated false
set_option linter.unusedSectionVars false
set_option linter.all false
namespace Go.Proofs.Ytfmfmdiegabobaa

/- the Go text of trothlaw10.PageSets answers true, and writes nothing that was there. -/
section
open Go.RowKit
set_option maxRecDepth 100000 in
set_option maxHeartbeats 8000000 in
theorem pageSets_walk (m : Xp) (lsn : Int) (key : ByteArray) (v : Vl) (w : World) (h : XpIn w m) (ha : -9223372036854775808 ≤ lsn ∧ lsn ≤ 9223372036854775807) (_hk : key.size ≤ 140737488351232) (_hv : True) :
    Calls Try.prog 4 #[m.val, .int .i64 lsn, .string key, vlV v] w (Ret (.bool true) w) := by
  obtain ⟨lsn0, A, n, c, l⟩ := m
  obtain ⟨hs, d⟩ := v
  obtain ⟨_, hp⟩ := h
  simp only at hp
  show Calls _ _ #[pgV lsn0 A n c, .int .i64 lsn, .string key, .agg #[.bool hs, .string d]] w _
  obtain ⟨W0, hW0⟩ : ∃ W, W = (w.alloc (.cells #[.int .i64 lsn0, .slice A n c] 24)).alloc (.cells #[.bool hs, .string d] 42) := ⟨_, rfl⟩
  have HB : Hid (Below w.heap.size w W0) := Lib.hid (by rw [hW0]; exact ((Below.refl _ _).alloc (Nat.le_refl _) _).alloc (by simp) _)
  have BP : Hid (Bk W0 w.heap.size 24 #[.int .i64 lsn0, .slice A n c]) := Lib.hid (by rw [hW0]; exact (Bk.new w _ _).bel ((Below.refl _ _).alloc (Nat.le_refl _) _) (by simp))
  have BV : Hid (Bk W0 (w.heap.size + 1) 42 #[.bool hs, .string d]) := Lib.hid (by
    rw [hW0]
    have := Bk.new (w.alloc (.cells #[.int .i64 lsn0, .slice A n c] 24)) 42 #[.bool hs, .string d]
    rwa [World.size_alloc] at this)
  have HP := Lib.hid (hp.below HB.out)
  have FC : Hid (∀ W, Below W0.heap.size W0 W → W.cell? ⟨w.heap.size, 0, none⟩ = some (.int .i64 lsn0) ∧ W.cell? ⟨w.heap.size, 1, none⟩ = some (.slice A n c) ∧ W.cell? ⟨w.heap.size + 1, 0, none⟩ = some (.bool hs) ∧ W.cell? ⟨w.heap.size + 1, 1, none⟩ = some (.string d)) := Lib.hid (fun W hb => by
    have a := BP.out.bel hb BP.out.lt
    have b := BV.out.bel hb BV.out.lt
    exact ⟨a.cell 0, a.cell 1, b.cell 0, b.cell 1⟩)
  have CG := Lib.hid (greatPg_any lsn0 A n c l W0 HP.out)
  have HW := Lib.hid hW0
  obtain ⟨p0, p1, v0, v1⟩ := FC.out W0 (Below.refl _ _)
  clear hW0 hp
  go_enter Try.func4, Try.ntmps4
  go_upto_region 1 with fail
  rw [← HW.out]
  go_wp2_with fail
  refine CG.out.mono ?_
  rintro e w1 ⟨bg, rfl, hfew, b1⟩
  have HFEW := Lib.hid hfew
  have B1 := Lib.hid b1
  obtain ⟨q0, q1, u0, u1⟩ := FC.out w1 b1
  clear b1 hfew CG p0 p1 v0 v1
  have AWK : Hid (∀ (W : World), Below w.heap.size w W → ∀ e W', Ret (.bool true) W e W' → e = .returned (.bool true) ∧ Below w.heap.size w W') := Lib.hid (fun W hb e W' h => ⟨h.1, Below.then hb h.2⟩)
  by_cases hgo : bg = false ∧ ¬ (100 : Int) < (key.size : Int) ∧ ¬ (100 : Int) < (d.size : Int)
  rotate_left
  · cases bg with
    | true =>
      clear hgo
      go_wp2_with fail
      refine (awake10 _).mono ?_
      rintro e w2 hr
      obtain ⟨rfl, hb⟩ := AWK.out _ (Below.then HB.out B1.out) _ _ hr
      have H := Lib.hid hb
      clear hb hr
      go_wp2_with fail
      go_ret
      exact ⟨rfl, H.out⟩
    | false =>
      by_cases h1 : (100 : Int) < (key.size : Int)
      · clear hgo
        go_wp2_with fail
        refine (awake10 _).mono ?_
        rintro e w2 hr
        obtain ⟨rfl, hb⟩ := AWK.out _ (Below.then HB.out B1.out) _ _ hr
        have H := Lib.hid hb
        clear hb hr
        go_wp2_with fail
        go_ret
        exact ⟨rfl, H.out⟩
      · have h3 : (100 : Int) < (d.size : Int) := by
          by_cases q : (100 : Int) < (d.size : Int)
          · exact q
          · exact absurd ⟨rfl, h1, q⟩ hgo
        clear hgo
        go_wp2_with fail
        refine (awake10 _).mono ?_
        rintro e w2 hr
        obtain ⟨rfl, hb⟩ := AWK.out _ (Below.then HB.out B1.out) _ _ hr
        have H := Lib.hid hb
        clear hb hr
        go_wp2_with fail
        go_ret
        exact ⟨rfl, H.out⟩
  obtain ⟨rfl, h1, h3⟩ := hgo
  have hn20 : n ≤ 20 := by rw [← HP.out.len]; exact (HFEW.out rfl).1
  go_upto_region 3 with fail
  have BB := B1
  obtain ⟨r, hr⟩ : ∃ r, setPg ⟨lsn0, l⟩ lsn ⟨key, ⟨hs, d⟩⟩ = r := ⟨_, rfl⟩
  have HRR := Lib.hid hr
  obtain ⟨⟨rl, rc⟩, re⟩ := r
  clear hr q0 q1 u0 u1
  go_cut [9, 10] from 27 to 35 (fun t u wx => GotPg w1 wx (⟨rl, rc⟩, re) t u)
  case first =>
    have KS : Hid (∀ w', Below w1.heap.size w1 w' → w'.cell? ⟨w.heap.size, 0, none⟩ = some (.int .i64 lsn0) ∧ w'.cell? ⟨w.heap.size, 1, none⟩ = some (.slice A n c) ∧ w'.cell? ⟨w.heap.size + 1, 0, none⟩ = some (.bool hs) ∧ w'.cell? ⟨w.heap.size + 1, 1, none⟩ = some (.string d)) := Lib.hid (fun w' hb => FC.out w' (Below.then BB.out hb))
    have f0 : Below w1.heap.size w1 w1.drew := (Below.refl _ _).drew
    refine wp_region_noPanic ?_
    refine upto_start (fun w' => w'.cell? ⟨w.heap.size, 0, none⟩ = some (.int .i64 lsn0) ∧ w'.cell? ⟨w.heap.size, 1, none⟩ = some (.slice A n c) ∧ w'.cell? ⟨w.heap.size + 1, 0, none⟩ = some (.bool hs) ∧ w'.cell? ⟨w.heap.size + 1, 1, none⟩ = some (.string d)) 11 (by kernel_rfl) ?_
    change Upto _ _ _ _ _ 12 _ _ _
    refine Upto.take (i := 0) (v := ?_) rfl (by kernel_rfl) (fun _ _ _ h => h) rfl (fun w' hS => ?_) (KS.out _ f0) ?_
    rotate_left
    · (try dsimp only at hS)
      go_split_ands
      go_simp
      (try with_reducible rfl)
    simp only [Act.put, List.setIfInBounds_toArray, List.set_cons_zero, List.set_cons_succ]
    refine Upto.take (i := 2) (v := ?_) rfl (by kernel_rfl) (fun _ _ _ h => h) rfl (fun w' hS => ?_) (KS.out _ f0) ?_
    rotate_left
    · (try dsimp only at hS)
      go_split_ands
      go_simp
      (try with_reducible rfl)
    simp only [Act.put, List.setIfInBounds_toArray, List.set_cons_zero, List.set_cons_succ]
    refine Upto.take (i := 3) (v := ?_) rfl (by kernel_rfl) (fun _ _ _ h => h) rfl (fun w' hS => ?_) (KS.out _ f0) ?_
    rotate_left
    · (try dsimp only at hS)
      go_split_ands
      go_simp
      (try with_reducible rfl)
    simp only [Act.put, List.setIfInBounds_toArray, List.set_cons_zero, List.set_cons_succ]
    refine Upto.take (i := 4) (v := ?_) rfl (by kernel_rfl) (fun _ _ _ h => h) rfl (fun w' hS => ?_) (KS.out _ f0) ?_
    rotate_left
    · (try dsimp only at hS)
      go_split_ands
      go_simp
      (try with_reducible rfl)
    simp only [Act.put, List.setIfInBounds_toArray, List.set_cons_zero, List.set_cons_succ]
    refine Upto.two (i := 1) (j := 9) rfl rfl (by kernel_rfl) rfl rfl (fun K hK => ?_) (fun K hK => ?_)
    · refine wp_enter (f := 11) (args := #[pgV lsn0 A n c]) (by go_simp) (copy_any lsn0 A n c l w1.drew (HP.out.below (Below.then BB.out f0)) (by omega)) ?_
      rintro e x1 ⟨A4, n4, c4, rfl, ho1, b⟩
      have f1 := Below.then f0 b
      refine ⟨_, rfl, hK _ _ (KS.out _ f1) ?_⟩
      clear hK b
      simp only [Act.put, List.setIfInBounds_toArray, List.set_cons_zero, List.set_cons_succ]
      refine Upto.two (i := 5) (j := 9) rfl rfl (by kernel_rfl) rfl rfl (fun K hK => ?_) (fun K hK => ?_)
      · have CS := set_any lsn0 A4 n4 c4 l lsn ⟨key, ⟨hs, d⟩⟩ x1 ho1.pcs
        rw [HRR.out] at CS
        refine wp_enter (f := 17) (args := #[pgV lsn0 A4 n4 c4, .int .i64 lsn, .string key, .agg #[.bool hs, .string d]]) (by go_simp) CS ?_
        rintro e x2 ⟨A5, n5, c5, rfl, ho2, b⟩
        have hbase := f1.size
        have f2 := Below.then f1 b
        refine ⟨_, rfl, hK _ _ (KS.out _ f2) ?_⟩
        clear hK b CS
        simp only [Act.put, List.setIfInBounds_toArray, List.set_cons_zero, List.set_cons_succ]
        refine Upto.take (i := 6) (v := ?_) rfl (by kernel_rfl) (fun _ _ _ h => h) rfl (fun w' hS => ?_) (KS.out _ f2) ?_
        rotate_left
        · (try dsimp only at hS)
          go_split_ands
          go_simp
          (try with_reducible rfl)
        simp only [Act.put, List.setIfInBounds_toArray, List.set_cons_zero, List.set_cons_succ]
        refine Upto.take (i := 7) (v := ?_) rfl (by kernel_rfl) (fun _ _ _ h => h) rfl (fun w' hS => ?_) (KS.out _ f2) ?_
        rotate_left
        · (try dsimp only at hS)
          go_split_ands
          go_simp
          (try with_reducible rfl)
        simp only [Act.put, List.setIfInBounds_toArray, List.set_cons_zero, List.set_cons_succ]
        refine Upto.take (i := 8) (v := ?_) rfl (by kernel_rfl) (fun _ _ _ h => h) rfl (fun w' hS => ?_) (KS.out _ f2) ?_
        rotate_left
        · (try dsimp only at hS)
          go_split_ands
          go_simp
          (try with_reducible rfl)
        simp only [Act.put, List.setIfInBounds_toArray, List.set_cons_zero, List.set_cons_succ]
        refine Upto.law (i := 9) rfl (by kernel_rfl) rfl (fun K hK => ?_)
        refine wp_new (by rfl) zero_pg ?_
        have b : Below x2.heap.size x2 (x2.alloc (.cells #[.int .i64 0, .slice none 0 0] 24)) := (Below.refl _ _).alloc (Nat.le_refl _) _
        have hx3 : Bk (x2.alloc (.cells #[.int .i64 0, .slice none 0 0] 24)) x2.heap.size 24 #[.int .i64 0, .slice none 0 0] := Bk.new x2 _ _
        have hX := f2.size
        have f3 := Below.then f2 b
        have ho3 := ho2.below b
        refine hK _ _ (KS.out _ f3) ?_
        clear hK b
        simp only [Act.put, List.setIfInBounds_toArray, List.set_cons_zero, List.set_cons_succ]
        generalize hW3 : x2.alloc (.cells #[.int .i64 0, .slice none 0 0] 24) = x3 at hx3 f3 ho3 ⊢
        refine Upto.law (i := 10) rfl (by kernel_rfl) rfl (fun K hK => ?_)
        refine wp_store_row 24 _ _ (by rfl) x2.heap.size #[.int .i64 rl, .slice A5 n5 c5] (by rfl) (by rfl) 24 _ hx3 pg_inf rfl (pg_one _ _ _ _) ?_
        refine hK _ _ (KS.out _ (row_below f3 f3.size hX _)) ?_
        clear hK
        simp only [Act.put, List.setIfInBounds_toArray, List.set_cons_zero, List.set_cons_succ]
        refine Upto.tail rfl (by kernel_rfl) ?_
        simp only [List.drop_succ_cons, List.drop_zero]
        go_wp2_with fail
        refine NoPanic.normal ?_
        go_wp2_with fail
        go_meet
        case rel => exact GotPg.of (r := (⟨rl, rc⟩, re)) hx3 ho3 hX hbase f3
      · refine wp_new (by rfl) zero_pg ?_
        have b : Below x1.heap.size x1 (x1.alloc (.cells #[.int .i64 0, .slice none 0 0] 24)) := (Below.refl _ _).alloc (Nat.le_refl _) _
        have hx2 : Bk (x1.alloc (.cells #[.int .i64 0, .slice none 0 0] 24)) x1.heap.size 24 #[.int .i64 0, .slice none 0 0] := Bk.new x1 _ _
        have hX := f1.size
        have f2 := Below.then f1 b
        have ho2 := ho1.below b
        refine hK _ _ (KS.out _ f2) ?_
        clear hK b
        simp only [Act.put, List.setIfInBounds_toArray, List.set_cons_zero, List.set_cons_succ]
        generalize hW2 : x1.alloc (.cells #[.int .i64 0, .slice none 0 0] 24) = x2 at hx2 f2 ho2 ⊢
        refine Upto.law (i := 5) rfl (by kernel_rfl) rfl (fun K hK => ?_)
        have CS := set_any lsn0 A4 n4 c4 l lsn ⟨key, ⟨hs, d⟩⟩ x2 ho2.pcs
        rw [HRR.out] at CS
        refine wp_enter (f := 17) (args := #[pgV lsn0 A4 n4 c4, .int .i64 lsn, .string key, .agg #[.bool hs, .string d]]) (by go_simp) CS ?_
        rintro e x3 ⟨A5, n5, c5, rfl, ho3, b⟩
        have hbase := f2.size
        have f3 := Below.then f2 b
        have hx3 := hx2.bel b hx2.lt
        refine ⟨_, rfl, hK _ _ (KS.out _ f3) ?_⟩
        clear hK b CS
        simp only [Act.put, List.setIfInBounds_toArray, List.set_cons_zero, List.set_cons_succ]
        refine Upto.take (i := 6) (v := ?_) rfl (by kernel_rfl) (fun _ _ _ h => h) rfl (fun w' hS => ?_) (KS.out _ f3) ?_
        rotate_left
        · (try dsimp only at hS)
          go_split_ands
          go_simp
          (try with_reducible rfl)
        simp only [Act.put, List.setIfInBounds_toArray, List.set_cons_zero, List.set_cons_succ]
        refine Upto.take (i := 7) (v := ?_) rfl (by kernel_rfl) (fun _ _ _ h => h) rfl (fun w' hS => ?_) (KS.out _ f3) ?_
        rotate_left
        · (try dsimp only at hS)
          go_split_ands
          go_simp
          (try with_reducible rfl)
        simp only [Act.put, List.setIfInBounds_toArray, List.set_cons_zero, List.set_cons_succ]
        refine Upto.take (i := 8) (v := ?_) rfl (by kernel_rfl) (fun _ _ _ h => h) rfl (fun w' hS => ?_) (KS.out _ f3) ?_
        rotate_left
        · (try dsimp only at hS)
          go_split_ands
          go_simp
          (try with_reducible rfl)
        simp only [Act.put, List.setIfInBounds_toArray, List.set_cons_zero, List.set_cons_succ]
        refine Upto.law (i := 10) rfl (by kernel_rfl) rfl (fun K hK => ?_)
        refine wp_store_row 24 _ _ (by rfl) x1.heap.size #[.int .i64 rl, .slice A5 n5 c5] (by rfl) (by rfl) 24 _ hx3 pg_inf rfl (pg_one _ _ _ _) ?_
        refine hK _ _ (KS.out _ (row_below f3 f3.size hX _)) ?_
        clear hK
        simp only [Act.put, List.setIfInBounds_toArray, List.set_cons_zero, List.set_cons_succ]
        refine Upto.tail rfl (by kernel_rfl) ?_
        simp only [List.drop_succ_cons, List.drop_zero]
        go_wp2_with fail
        refine NoPanic.normal ?_
        go_wp2_with fail
        go_meet
        case rel => exact GotPg.of (r := (⟨rl, rc⟩, re)) hx3 ho3 hX hbase f3
    · refine wp_new (by rfl) zero_pg ?_
      have b : Below w1.drew.heap.size w1.drew (w1.drew.alloc (.cells #[.int .i64 0, .slice none 0 0] 24)) := (Below.refl _ _).alloc (Nat.le_refl _) _
      have hx1 : Bk (w1.drew.alloc (.cells #[.int .i64 0, .slice none 0 0] 24)) w1.drew.heap.size 24 #[.int .i64 0, .slice none 0 0] := Bk.new w1.drew _ _
      have hX := f0.size
      have f1 := Below.then f0 b
      refine hK _ _ (KS.out _ f1) ?_
      clear hK b
      simp only [Act.put, List.setIfInBounds_toArray, List.set_cons_zero, List.set_cons_succ]
      generalize hW1 : w1.drew.alloc (.cells #[.int .i64 0, .slice none 0 0] 24) = x1 at hx1 f1 ⊢
      refine Upto.law (i := 1) rfl (by kernel_rfl) rfl (fun K hK => ?_)
      refine wp_enter (f := 11) (args := #[pgV lsn0 A n c]) (by go_simp) (copy_any lsn0 A n c l x1 (HP.out.below (Below.then BB.out f1)) (by omega)) ?_
      rintro e x2 ⟨A4, n4, c4, rfl, ho2, b⟩
      have f2 := Below.then f1 b
      have hx2 := hx1.bel b hx1.lt
      refine ⟨_, rfl, hK _ _ (KS.out _ f2) ?_⟩
      clear hK b
      simp only [Act.put, List.setIfInBounds_toArray, List.set_cons_zero, List.set_cons_succ]
      refine Upto.law (i := 5) rfl (by kernel_rfl) rfl (fun K hK => ?_)
      have CS := set_any lsn0 A4 n4 c4 l lsn ⟨key, ⟨hs, d⟩⟩ x2 ho2.pcs
      rw [HRR.out] at CS
      refine wp_enter (f := 17) (args := #[pgV lsn0 A4 n4 c4, .int .i64 lsn, .string key, .agg #[.bool hs, .string d]]) (by go_simp) CS ?_
      rintro e x3 ⟨A5, n5, c5, rfl, ho3, b⟩
      have hbase := f2.size
      have f3 := Below.then f2 b
      have hx3 := hx2.bel b hx2.lt
      refine ⟨_, rfl, hK _ _ (KS.out _ f3) ?_⟩
      clear hK b CS
      simp only [Act.put, List.setIfInBounds_toArray, List.set_cons_zero, List.set_cons_succ]
      refine Upto.take (i := 6) (v := ?_) rfl (by kernel_rfl) (fun _ _ _ h => h) rfl (fun w' hS => ?_) (KS.out _ f3) ?_
      rotate_left
      · (try dsimp only at hS)
        go_split_ands
        go_simp
        (try with_reducible rfl)
      simp only [Act.put, List.setIfInBounds_toArray, List.set_cons_zero, List.set_cons_succ]
      refine Upto.take (i := 7) (v := ?_) rfl (by kernel_rfl) (fun _ _ _ h => h) rfl (fun w' hS => ?_) (KS.out _ f3) ?_
      rotate_left
      · (try dsimp only at hS)
        go_split_ands
        go_simp
        (try with_reducible rfl)
      simp only [Act.put, List.setIfInBounds_toArray, List.set_cons_zero, List.set_cons_succ]
      refine Upto.take (i := 8) (v := ?_) rfl (by kernel_rfl) (fun _ _ _ h => h) rfl (fun w' hS => ?_) (KS.out _ f3) ?_
      rotate_left
      · (try dsimp only at hS)
        go_split_ands
        go_simp
        (try with_reducible rfl)
      simp only [Act.put, List.setIfInBounds_toArray, List.set_cons_zero, List.set_cons_succ]
      refine Upto.law (i := 10) rfl (by kernel_rfl) rfl (fun K hK => ?_)
      refine wp_store_row 24 _ _ (by rfl) w1.drew.heap.size #[.int .i64 rl, .slice A5 n5 c5] (by rfl) (by rfl) 24 _ hx3 pg_inf rfl (pg_one _ _ _ _) ?_
      refine hK _ _ (KS.out _ (row_below f3 f3.size hX _)) ?_
      clear hK
      simp only [Act.put, List.setIfInBounds_toArray, List.set_cons_zero, List.set_cons_succ]
      refine Upto.tail rfl (by kernel_rfl) ?_
      simp only [List.drop_succ_cons, List.drop_zero]
      go_wp2_with fail
      refine NoPanic.normal ?_
      go_wp2_with fail
      go_meet
      case rel => exact GotPg.of (r := (⟨rl, rc⟩, re)) hx3 ho3 hX hbase f3
  case rest =>
    obtain ⟨⟨X, A5, n5, c5, rfl, hbk, hown, hX⟩, rfl, hbel⟩ := hcut
    obtain ⟨w5, hw5⟩ : ∃ x, x = wc := ⟨_, rfl⟩
    subst hw5
    have HBK := Lib.hid hbk
    have HO5 := Lib.hid hown
    have BC := Lib.hid (Below.then B1.out hbel)
    simp only at HBK HO5
    clear hbk hown hbel hX BB
    obtain ⟨p0, p1, v0, v1⟩ := FC.out w5 BC.out
    have CR := refSet_any lsn0 A n c l lsn ⟨key, ⟨hs, d⟩⟩ w5 (HP.out.below BC.out)
    rw [HRR.out] at CR
    have CR := Lib.hid CR
    go_wp2_with fail
    refine CR.out.mono ?_
    rintro e w6 ⟨A6, n6, c6, rfl, ho6, b6⟩
    have B6 := Lib.hid (Below.then BC.out b6)
    have hq6 := HBK.out.bel b6 HBK.out.lt
    have hoq6 := HO5.out.below b6
    go_upto_region 5 with fail
    (try simp only at ho6)
    obtain ⟨W7, hW7⟩ : ∃ W, W = w6.alloc (.cells #[.int .i64 rl, .slice A6 n6 c6] 24) := ⟨_, rfl⟩
    rw [← hW7]
    have b7 : Below w6.heap.size w6 W7 := by rw [hW7]; exact (Below.refl _ _).alloc (Nat.le_refl _) _
    have hs7 : Bk W7 w6.heap.size 24 #[.int .i64 rl, .slice A6 n6 c6] := by rw [hW7]; exact Bk.new w6 _ _
    have B7 := Lib.hid (Below.then B6.out b7)
    have HQ7 := Lib.hid (hq6.bel b7 hq6.lt)
    have HS7 := Lib.hid hs7
    have PQ := Lib.hid (hoq6.below b7).pcs
    have PS := Lib.hid (ho6.below b7).pcs
    have PP := Lib.hid (HP.out.below B7.out)
    clear hW7 b7 hs7 b6 hq6 hoq6 ho6 p0 p1 v0 v1 CR HBK HO5
    have KS : Hid (∀ w', Below W7.heap.size W7 w' → w'.cell? ⟨X, 0, none⟩ = some (.int .i64 rl) ∧ w'.cell? ⟨X, 1, none⟩ = some (.slice A5 n5 c5) ∧ w'.cell? ⟨w6.heap.size, 0, none⟩ = some (.int .i64 rl) ∧ w'.cell? ⟨w6.heap.size, 1, none⟩ = some (.slice A6 n6 c6) ∧ w'.cell? ⟨w.heap.size, 0, none⟩ = some (.int .i64 lsn0) ∧ w'.cell? ⟨w.heap.size, 1, none⟩ = some (.slice A n c)) := Lib.hid (fun w' hb => by
      have a := HQ7.out.bel hb HQ7.out.lt
      have b := HS7.out.bel hb HS7.out.lt
      obtain ⟨x0, x1, _, _⟩ := FC.out w' (Below.then B7.out hb)
      exact ⟨a.cell 0, a.cell 1, b.cell 0, b.cell 1, x0, x1⟩)
    have f0 : Below W7.heap.size W7 W7.drew := (Below.refl _ _).drew
    refine wp_region_noPanic ?_
    refine upto_start (fun w' => w'.cell? ⟨X, 0, none⟩ = some (.int .i64 rl) ∧ w'.cell? ⟨X, 1, none⟩ = some (.slice A5 n5 c5) ∧ w'.cell? ⟨w6.heap.size, 0, none⟩ = some (.int .i64 rl) ∧ w'.cell? ⟨w6.heap.size, 1, none⟩ = some (.slice A6 n6 c6) ∧ w'.cell? ⟨w.heap.size, 0, none⟩ = some (.int .i64 lsn0) ∧ w'.cell? ⟨w.heap.size, 1, none⟩ = some (.slice A n c)) 31 (by kernel_rfl) ?_
    change Upto _ _ _ _ _ 32 _ _ _
    refine Upto.take (i := 0) (v := ?_) rfl (by kernel_rfl) (fun _ _ _ h => h) rfl (fun w' hS => ?_) (KS.out _ f0) ?_
    rotate_left
    · (try dsimp only at hS)
      go_split_ands
      go_simp
      (try with_reducible rfl)
    simp only [Act.put, List.setIfInBounds_toArray, List.set_cons_zero, List.set_cons_succ]
    refine Upto.take (i := 1) (v := ?_) rfl (by kernel_rfl) (fun _ _ _ h => h) rfl (fun w' hS => ?_) (KS.out _ f0) ?_
    rotate_left
    · (try dsimp only at hS)
      go_split_ands
      go_simp
      (try with_reducible rfl)
    simp only [Act.put, List.setIfInBounds_toArray, List.set_cons_zero, List.set_cons_succ]
    refine Upto.take (i := 2) (v := ?_) rfl (by kernel_rfl) (fun _ _ _ h => h) rfl (fun w' hS => ?_) (KS.out _ f0) ?_
    rotate_left
    · (try dsimp only at hS)
      go_split_ands
      go_simp
      (try with_reducible rfl)
    simp only [Act.put, List.setIfInBounds_toArray, List.set_cons_zero, List.set_cons_succ]
    refine Upto.take (i := 3) (v := ?_) rfl (by kernel_rfl) (fun _ _ _ h => h) rfl (fun w' hS => ?_) (KS.out _ f0) ?_
    rotate_left
    · (try dsimp only at hS)
      go_split_ands
      go_simp
      (try with_reducible rfl)
    simp only [Act.put, List.setIfInBounds_toArray, List.set_cons_zero, List.set_cons_succ]
    refine Upto.takeG (i := 4) (v := ?_) rfl (by kernel_rfl) (fun _ _ _ h => h) rfl (fun w' hS => ?_) (KS.out _ f0) ?_
    rotate_left
    · (try dsimp only at hS)
      go_split_ands
      go_simp
      (try with_reducible rfl)
    simp only [Act.put, List.setIfInBounds_toArray, List.set_cons_zero, List.set_cons_succ]
    refine Upto.takeG (i := 5) (v := ?_) rfl (by kernel_rfl) (fun _ _ _ h => h) rfl (fun w' hS => ?_) (KS.out _ f0) ?_
    rotate_left
    · (try dsimp only at hS)
      go_split_ands
      go_simp
      (try with_reducible rfl)
    simp only [Act.put, List.setIfInBounds_toArray, List.set_cons_zero, List.set_cons_succ]
    refine Upto.lawG (i := 6) rfl (by kernel_rfl) rfl (fun K hK => ?_)
    refine wp_enter (f := 16) (args := #[pgV rl A5 n5 c5, pgV rl A6 n6 c6]) (by go_simp) (samePg_yes rl A5 n5 c5 A6 n6 c6 rc W7.drew (PQ.out.below f0) (PS.out.below f0)) ?_
    rintro e x1 ⟨rfl, b⟩
    have f1 := Below.then f0 b
    refine ⟨_, rfl, hK _ _ (KS.out _ f1) ?_⟩
    clear hK
    simp only [Act.put, List.setIfInBounds_toArray, List.set_cons_zero, List.set_cons_succ]
    refine Upto.take (i := 7) (v := ?_) rfl (by kernel_rfl) (fun _ _ _ h => h) rfl (fun w' hS => ?_) (KS.out _ f1) ?_
    rotate_left
    · (try dsimp only at hS)
      go_split_ands
      go_simp
      (try with_reducible rfl)
    simp only [Act.put, List.setIfInBounds_toArray, List.set_cons_zero, List.set_cons_succ]
    refine Upto.take (i := 8) (v := ?_) rfl (by kernel_rfl) (fun _ _ _ h => h) rfl (fun w' hS => ?_) (KS.out _ f1) ?_
    rotate_left
    · (try dsimp only at hS)
      go_split_ands
      go_simp
      (try with_reducible rfl)
    simp only [Act.put, List.setIfInBounds_toArray, List.set_cons_zero, List.set_cons_succ]
    refine Upto.takeG (i := 9) (v := ?_) rfl (by kernel_rfl) (fun _ _ _ h => h) rfl (fun w' hS => ?_) (KS.out _ f1) ?_
    rotate_left
    · (try dsimp only at hS)
      go_split_ands
      go_simp
      (try with_reducible rfl)
    simp only [Act.put, List.setIfInBounds_toArray, List.set_cons_zero, List.set_cons_succ]
    refine Upto.takeG (i := 11) (v := ?_) rfl (by kernel_rfl) (fun _ _ _ h => h) rfl (fun w' hS => ?_) (KS.out _ f1) ?_
    rotate_left
    · (try dsimp only at hS)
      go_split_ands
      go_simp
      (try with_reducible rfl)
    simp only [Act.put, List.setIfInBounds_toArray, List.set_cons_zero, List.set_cons_succ]
    refine Upto.takeG (i := 13) (v := ?_) rfl (by kernel_rfl) (fun _ _ _ h => h) rfl (fun w' hS => ?_) (KS.out _ f1) ?_
    rotate_left
    · (try dsimp only at hS)
      go_split_ands
      go_simp
      (try with_reducible rfl)
    simp only [Act.put, List.setIfInBounds_toArray, List.set_cons_zero, List.set_cons_succ]
    refine Upto.takeG (i := 14) (v := ?_) rfl (by kernel_rfl) (fun _ _ _ h => h) rfl (fun w' hS => ?_) (KS.out _ f1) ?_
    rotate_left
    · (try dsimp only at hS)
      go_split_ands
      go_simp
      (try with_reducible rfl)
    simp only [Act.put, List.setIfInBounds_toArray, List.set_cons_zero, List.set_cons_succ]
    refine Upto.lawG (i := 10) rfl (by kernel_rfl) rfl (fun K hK => ?_)
    refine wp_enter (f := 11) (args := #[pgV lsn0 A n c]) (by go_simp) (copy_any lsn0 A n c l x1 (PP.out.below f1) (by omega)) ?_
    rintro e x2 ⟨A7, n7, c7, rfl, ho7, b⟩
    have f2 := Below.then f1 b
    refine ⟨_, rfl, hK _ _ (KS.out _ f2) ?_⟩
    clear hK
    simp only [Act.put, List.setIfInBounds_toArray, List.set_cons_zero, List.set_cons_succ]
    refine Upto.lawG (i := 12) rfl (by kernel_rfl) rfl (fun K hK => ?_)
    refine wp_enter (f := 19) (args := #[pgV lsn0 A7 n7 c7, .string key]) (by go_simp) (get_any lsn0 A7 n7 c7 l key x2 ho7.pcs) ?_
    rintro e x3 ⟨rfl, b⟩
    have f3 := Below.then f2 b
    refine ⟨_, rfl, hK _ _ (KS.out _ f3) ?_⟩
    clear hK
    simp only [Act.put, List.setIfInBounds_toArray, List.set_cons_zero, List.set_cons_succ]
    refine Upto.lawG (i := 15) rfl (by kernel_rfl) rfl (fun K hK => ?_)
    refine wp_enter (f := 20) (args := #[pgV lsn0 A n c, .string key]) (by go_simp) (refGet_any lsn0 A n c l key x3 (PP.out.below f3)) ?_
    rintro e x4 ⟨rfl, b⟩
    have f4 := Below.then f3 b
    refine ⟨_, rfl, hK _ _ (KS.out _ f4) ?_⟩
    clear hK
    simp only [Act.put, List.setIfInBounds_toArray, List.set_cons_zero, List.set_cons_succ]
    refine Upto.takeG (i := 16) (v := ?_) rfl (by kernel_rfl) (fun _ _ _ h => h) rfl (fun w' hS => ?_) (KS.out _ f4) ?_
    rotate_left
    · (try dsimp only at hS)
      go_split_ands
      go_simp
      (try with_reducible rfl)
    simp only [Act.put, List.setIfInBounds_toArray, List.set_cons_zero, List.set_cons_succ]
    refine Upto.take (i := 17) (v := ?_) rfl (by kernel_rfl) (fun _ _ _ h => h) rfl (fun w' hS => ?_) (KS.out _ f4) ?_
    rotate_left
    · (try dsimp only at hS)
      go_split_ands
      go_simp
      (try with_reducible rfl)
    simp only [Act.put, List.setIfInBounds_toArray, List.set_cons_zero, List.set_cons_succ]
    refine Upto.take (i := 18) (v := ?_) rfl (by kernel_rfl) (fun _ _ _ h => h) rfl (fun w' hS => ?_) (KS.out _ f4) ?_
    rotate_left
    · (try dsimp only at hS)
      go_split_ands
      go_simp
      (try with_reducible rfl)
    simp only [Act.put, List.setIfInBounds_toArray, List.set_cons_zero, List.set_cons_succ]
    refine Upto.takeG (i := 19) (v := ?_) rfl (by kernel_rfl) (fun _ _ _ h => h) rfl (fun w' hS => ?_) (KS.out _ f4) ?_
    rotate_left
    · (try dsimp only at hS)
      go_split_ands
      go_simp
      (try with_reducible rfl)
    simp only [Act.put, List.setIfInBounds_toArray, List.set_cons_zero, List.set_cons_succ]
    refine Upto.takeG (i := 21) (v := ?_) rfl (by kernel_rfl) (fun _ _ _ h => h) rfl (fun w' hS => ?_) (KS.out _ f4) ?_
    rotate_left
    · (try dsimp only at hS)
      go_split_ands
      go_simp
      (try with_reducible rfl)
    simp only [Act.put, List.setIfInBounds_toArray, List.set_cons_zero, List.set_cons_succ]
    refine Upto.takeG (i := 23) (v := ?_) rfl (by kernel_rfl) (fun _ _ _ h => h) rfl (fun w' hS => ?_) (KS.out _ f4) ?_
    rotate_left
    · (try dsimp only at hS)
      go_split_ands
      go_simp
      (try with_reducible rfl)
    simp only [Act.put, List.setIfInBounds_toArray, List.set_cons_zero, List.set_cons_succ]
    refine Upto.takeG (i := 24) (v := ?_) rfl (by kernel_rfl) (fun _ _ _ h => h) rfl (fun w' hS => ?_) (KS.out _ f4) ?_
    rotate_left
    · (try dsimp only at hS)
      go_split_ands
      go_simp
      (try with_reducible rfl)
    simp only [Act.put, List.setIfInBounds_toArray, List.set_cons_zero, List.set_cons_succ]
    refine Upto.lawG (i := 20) rfl (by kernel_rfl) rfl (fun K hK => ?_)
    refine wp_enter (f := 11) (args := #[pgV lsn0 A n c]) (by go_simp) (copy_any lsn0 A n c l x4 (PP.out.below f4) (by omega)) ?_
    rintro e x5 ⟨A8, n8, c8, rfl, ho8, b⟩
    have f5 := Below.then f4 b
    refine ⟨_, rfl, hK _ _ (KS.out _ f5) ?_⟩
    clear hK
    simp only [Act.put, List.setIfInBounds_toArray, List.set_cons_zero, List.set_cons_succ]
    refine Upto.lawG (i := 22) rfl (by kernel_rfl) rfl (fun K hK => ?_)
    refine wp_enter (f := 21) (args := #[pgV lsn0 A8 n8 c8, .string key]) (by go_simp) (room_any lsn0 A8 n8 c8 l key x5 ho8.pcs) ?_
    rintro e x6 ⟨rfl, b⟩
    have f6 := Below.then f5 b
    refine ⟨_, rfl, hK _ _ (KS.out _ f6) ?_⟩
    clear hK
    simp only [Act.put, List.setIfInBounds_toArray, List.set_cons_zero, List.set_cons_succ]
    refine Upto.lawG (i := 25) rfl (by kernel_rfl) rfl (fun K hK => ?_)
    refine wp_enter (f := 22) (args := #[pgV lsn0 A n c, .string key]) (by go_simp) (refRoom_any lsn0 A n c l key x6 (PP.out.below f6)) ?_
    rintro e x7 ⟨rfl, b⟩
    have f7 := Below.then f6 b
    refine ⟨_, rfl, hK _ _ (KS.out _ f7) ?_⟩
    clear hK
    simp only [Act.put, List.setIfInBounds_toArray, List.set_cons_zero, List.set_cons_succ]
    refine Upto.takeG (i := 26) (v := ?_) rfl (by kernel_rfl) (fun _ _ _ h => h) rfl (fun w' hS => ?_) (KS.out _ f7) ?_
    rotate_left
    · (try dsimp only at hS)
      go_split_ands
      go_simp
      (try with_reducible rfl)
    simp only [Act.put, List.setIfInBounds_toArray, List.set_cons_zero, List.set_cons_succ]
    refine Upto.take (i := 27) (v := ?_) rfl (by kernel_rfl) (fun _ _ _ h => h) rfl (fun w' hS => ?_) (KS.out _ f7) ?_
    rotate_left
    · (try dsimp only at hS)
      go_split_ands
      go_simp
      (try with_reducible rfl)
    simp only [Act.put, List.setIfInBounds_toArray, List.set_cons_zero, List.set_cons_succ]
    refine Upto.take (i := 28) (v := ?_) rfl (by kernel_rfl) (fun _ _ _ h => h) rfl (fun w' hS => ?_) (KS.out _ f7) ?_
    rotate_left
    · (try dsimp only at hS)
      go_split_ands
      go_simp
      (try with_reducible rfl)
    simp only [Act.put, List.setIfInBounds_toArray, List.set_cons_zero, List.set_cons_succ]
    refine Upto.lawG (i := 29) rfl (by kernel_rfl) rfl (fun K hK => ?_)
    refine wp_enter (f := 9) (args := #[]) (by go_simp) (awake10 x7) ?_
    rintro e x8 ⟨rfl, b⟩
    have f8 := Below.then f7 b
    refine ⟨_, rfl, hK _ _ (KS.out _ f8) ?_⟩
    clear hK
    simp only [Act.put, List.setIfInBounds_toArray, List.set_cons_zero, List.set_cons_succ]
    refine Upto.take (i := 30) (v := ?_) rfl (by kernel_rfl) (fun _ _ _ h => h) rfl (fun w' hS => ?_) (KS.out _ f8) ?_
    rotate_left
    · (try dsimp only at hS)
      go_split_ands
      go_simp
      (try with_reducible rfl)
    simp only [Act.put, List.setIfInBounds_toArray, List.set_cons_zero, List.set_cons_succ]
    refine Upto.tail rfl (by kernel_rfl) ?_
    simp only [List.drop_succ_cons, List.drop_zero]
    have RF := Lib.hid (Below.then (Below.then HB.out B7.out) f8)
    go_wp2_with fail
    refine NoPanic.normal ?_
    go_wp2_with fail
    go_ret
    exact ⟨by simp, RF.out⟩
end

/- 'Rows.PageSetsSaid': for every input trothlaw10.PageSets answers true, and what came in reads behind the call as before. No condition. -/
section
open Go.ChangeShapes Go.WideShapes Go.ChangeAt Go.RowKit
open Go.ChangeMaps (open_string shut_string)
set_option maxRecDepth 100000 in
theorem pageSets_lifted (os : Os) (started : os.Started) (H : Type) (enc : TypeId × Value → H) :
    ReturnsInHanded {} Try.checked os 4 .any (Rows.pageSetsSpec.pre6 enc Try.prog Try.f4 Rows.pageSetsRow.domain false) (Rows.pageSetsSpec.post enc Try.prog Try.f4 false true false false) := by
  refine returnsInHanded_of_change_sized (C := Try.checked) own_knob started (by kernel_rfl) Try.func4
    (ChangeSpec.witness6 (enc := enc) (C := Try.checked) false ⟨#[], #[.agg #[.int .i64 0, .slice none 0 0], .int .i64 0, .string ByteArray.empty, .agg #[.bool false, .string ByteArray.empty]], []⟩ 8 (by kernel_rfl) (by kernel_rfl) (by kernel_rfl) (by kernel_rfl)) ?_
  intro W base args ds gs before hval0 hW _ hsz0 _
  have hsz : (DataW.weightsEach Try.prog (Try.f4.params.toList ++ Rows.pageSetsSpec.plain.varTypes Try.prog) (ds ++ gs)).all (· ≤ reachBytes) = true := hsz0
  have hval : ∀ (j : Nat) t v, Try.f4.params[j]? = some t → args[j]? = some v → Value.okWide Try.prog W .any base t v := hval0
  have hW' := hW
  obtain ⟨p, q, hA0, hV, rfl, hfz, hnd⟩ := hW
  have hA : DataW.TrodAll enc Try.prog W 0 (fun _ => true) true Try.f4.params.toList args.toList ds p := hA0
  rw [Try.params4] at hA hval hsz
  obtain ⟨v0, vs0, d0, ds0, p0, q0, hargs, rfl, rfl, h0, r0⟩ := trodAll_cons hA
  obtain ⟨v1, vs1, d1, ds1, p1, q1, rfl, rfl, rfl, h1, r1⟩ := trodAll_cons r0
  obtain ⟨v2, vs2, d2, ds2, p2, q2, rfl, rfl, rfl, h2, r2⟩ := trodAll_cons r1
  obtain ⟨v3, vs3, d3, ds3, p3, q3, rfl, rfl, rfl, h3, r3⟩ := trodAll_cons r2
  obtain ⟨rfl, rfl, rfl⟩ := trodAll_nil r3
  obtain rfl : args = #[v0, v1, v2, v3] := by cases args; simp_all
  obtain ⟨rfl, rfl⟩ := trodVars_none hV
  have k0 := h0
  have lt0 : ∀ x ∈ p0, x.block < W.heap.size := by obtain ⟨m, hm⟩ := k0; exact DataW.trod_lt m _ _ _ hm
  obtain ⟨m0, rfl, b0⟩ := open_pg (hval 0 24 v0 rfl rfl) h0
  obtain ⟨a1, rfl, rfl, rfl, w1⟩ := open_int Try.underlying3 (hval 1 3 v1 rfl rfl) h1
  have g1 := i64_bd w1
  obtain ⟨a2, rfl, e2, rfl, w2⟩ := open_string Try.underlying9 (hval 2 9 v2 rfl rfl) h2
  have z2 : a2.size ≤ 140737488351232 := by have := sized_string hsz (j := 2) rfl (by rw [e2]; rfl); rw [Lib.size_eq]; exact Nat.le_trans this (by decide)
  subst e2
  have k3 := h3
  have lt3 : ∀ x ∈ p3, x.block < W.heap.size := by obtain ⟨m, hm⟩ := k3; exact DataW.trod_lt m _ _ _ hm
  obtain ⟨m3, rfl, b3⟩ := open_value (hval 3 42 v3 rfl rfl) h3
  clear hA0 hval0 hsz0 hsz
  refine (pageSets_walk m0 a1 a2 m3 W b0 g1 z2 b3).mono fun e W' ⟨he, bel⟩ => ?_
  subst he
  exact ⟨_, rfl, _, _, _, [], _, [], hW', trodAll_mk1 (shut_bool Try.underlying4 _), (trodAll_cons_mk (Below.trod laidOut (by kernel_rfl) (of_decide_eq_true (by kernel_rfl)) k0 bel lt0) (trodAll_cons_mk (shut_int Try.underlying3 w1) (trodAll_cons_mk (shut_string Try.underlying9 w2) (trodAll_cons_mk (Below.trod laidOut (by kernel_rfl) (of_decide_eq_true (by kernel_rfl)) k3 bel lt3) trodAll_mk0)))), rfl, bel.frame _, fun h => by cases h⟩
/-- The statement. -/
theorem pageSets_holds : Rows.PageSetsSaid :=
  OpenClaim.holds_of_wide 4 Try.f4 rfl rfl rfl rfl rfl rfl rfl ⟨rfl, rfl, rfl, rfl, rfl⟩ rfl rfl rfl rfl rfl (by kernel_rfl) Try.func4 (by kernel_rfl)
    (of_decide_eq_true (by kernel_rfl)) (by unfold Func.isWrapper; first | (rw [if_pos (by decide +kernel)]; kernel_rfl) | (rw [if_neg (by decide +kernel)]; exact ⟨rfl, rfl⟩))
    (fun os started H enc _ => pageSets_lifted os started H enc)
#print axioms pageSets_holds
end
end Go.Proofs.Ytfmfmdiegabobaa

/- What it says: 'Rows.PageBackSaid': for every input trothlaw10.PageBack answers true, and what came in reads behind the call as before. No condition. -/
import Derived.Test.YtfmfmdiegabobaaPa3
import Derived.Test.YtfmfmdiegabobaaPa4
import Derived.Test.YtfmfmdiegabobaaPa5

set_option linter.unusedSimpArgs false
set_option linter.unusedVariables false
set_option linter.deprecated false
set_option linter.unusedSectionVars false
set_option linter.all false
namespace Go.Proofs.Ytfmfmdiegabobaa

/- the Go text of trothlaw10.PageBack answers true, and writes nothing that was there. -/
section
open Go.RowKit
/-- Behind a change, and behind its change back. -/
theorem back_plain {lsn0 a b : Int} {l : List Cl} {x : Cl} (h : (setPg ⟨lsn0, l⟩ a x).2 = 0) :
    ∃ l1, setPg ⟨lsn0, l⟩ a x = (⟨a, l1⟩, 0) ∧ getV l1 x.key = x.val ∧ (∀ k, k ≠ x.key → getV l1 k = getV l k) ∧
      (1 ≤ b ∧ b ≤ 1099511627776 → ∃ l2, setPg ⟨a, l1⟩ b ⟨x.key, getV l x.key⟩ = (⟨b, l2⟩, 0) ∧ (∀ k, getV l2 k = getV l k) ∧ roomC l2 x.key = true) := by
  by_cases hy : (⟨lsn0, l⟩ : Pg).ok ∧ clOk x ∧ 1 ≤ a ∧ a ≤ 1099511627776
  · cases hr : roomC l x.key with
    | false => rw [setPg_page hy hr] at h; cases h
    | true =>
      have hp := ((clsOk_pw l).1 hy.1.2.2).2
      have hall := ((clsOk_pw l).1 hy.1.2.2).1
      have hq := setPg_isok hy hr
      have hp1 := ((clsOk_pw _).1 hq.2.2).2
      have g0 : getV (setC l x) x.key = x.val := by unfold getV; rw [setC_get]; rfl
      have g1 : ∀ k, k ≠ x.key → getV (setC l x) k = getV l k := fun k hk => by unfold getV; rw [setC_other hp x hk]
      refine ⟨setC l x, setPg_ok hy hr, g0, g1, fun hb => ?_⟩
      have hc2 : clOk ⟨x.key, getV l x.key⟩ := ⟨hy.2.1.1, getV_ok hall _⟩
      have hr2 : roomC (setC l x) x.key = true := by unfold roomC; rw [setC_has]; rfl
      refine ⟨setC (setC l x) ⟨x.key, getV l x.key⟩, setPg_ok (c := ⟨x.key, getV l x.key⟩) (p := ⟨a, setC l x⟩) ⟨hq, hc2, hb.1, hb.2⟩ hr2, fun k => ?_, ?_⟩
      · by_cases hk : k = x.key
        · subst hk
          unfold getV
          rw [show getC (setC (setC l x) ⟨x.key, ((getC l x.key).map Cl.val).getD vl0⟩) x.key = some ⟨x.key, ((getC l x.key).map Cl.val).getD vl0⟩ from setC_get _]
          rfl
        · rw [← g1 k hk]
          unfold getV
          rw [setC_other hp1 _ (by exact hk)]
      · unfold roomC
        rw [show hasC (setC (setC l x) ⟨x.key, getV l x.key⟩) x.key = true from setC_has (l := setC l x) ⟨x.key, getV l x.key⟩]
        rfl
  · rw [setPg_arg hy] at h; cases h
theorem str_beq (a : ByteArray) : (a.toList == a.toList) = true := by simp
set_option maxRecDepth 100000 in
set_option maxHeartbeats 8000000 in
theorem pageBack_walk (m : Xp) (a b : Int) (key : ByteArray) (v : Vl) (other : ByteArray) (w : World) (h : XpIn w m) (ha : -9223372036854775808 ≤ a ∧ a ≤ 9223372036854775807) (hb : -9223372036854775808 ≤ b ∧ b ≤ 9223372036854775807) (_hk : key.size ≤ 140737488351232) (_hv : True) (_ho : other.size ≤ 140737488351232) :
    Calls Try.prog 6 #[m.val, .int .i64 a, .int .i64 b, .string key, vlV v, .string other] w (Ret (.bool true) w) := by
  obtain ⟨lsn0, A, n, c, l⟩ := m
  obtain ⟨hs, d⟩ := v
  obtain ⟨_, hp⟩ := h
  simp only at hp
  show Calls _ _ #[pgV lsn0 A n c, .int .i64 a, .int .i64 b, .string key, .agg #[.bool hs, .string d], .string other] w _
  obtain ⟨W0, hW0⟩ : ∃ W, W = (w.alloc (.cells #[.int .i64 lsn0, .slice A n c] 24)).alloc (.cells #[.bool hs, .string d] 42) := ⟨_, rfl⟩
  have HB : Hid (Below w.heap.size w W0) := Lib.hid (by rw [hW0]; exact ((Below.refl _ _).alloc (Nat.le_refl _) _).alloc (by simp) _)
  have BP : Hid (Bk W0 w.heap.size 24 #[.int .i64 lsn0, .slice A n c]) := Lib.hid (by rw [hW0]; exact (Bk.new w _ _).bel ((Below.refl _ _).alloc (Nat.le_refl _) _) (by simp))
  have BV : Hid (Bk W0 (w.heap.size + 1) 42 #[.bool hs, .string d]) := Lib.hid (by
    rw [hW0]
    have := Bk.new (w.alloc (.cells #[.int .i64 lsn0, .slice A n c] 24)) 42 #[.bool hs, .string d]
    rwa [World.size_alloc] at this)
  have HP := Lib.hid (hp.below HB.out)
  have FC : Hid (∀ W, Below W0.heap.size W0 W → W.cell? ⟨w.heap.size, 0, none⟩ = some (.int .i64 lsn0) ∧ W.cell? ⟨w.heap.size, 1, none⟩ = some (.slice A n c) ∧ W.cell? ⟨w.heap.size + 1, 0, none⟩ = some (.bool hs) ∧ W.cell? ⟨w.heap.size + 1, 1, none⟩ = some (.string d)) := Lib.hid (fun W hb => by
    have a := BP.out.bel hb BP.out.lt
    have b := BV.out.bel hb BV.out.lt
    exact ⟨a.cell 0, a.cell 1, b.cell 0, b.cell 1⟩)
  have CG := Lib.hid (greatPg_any lsn0 A n c l W0 HP.out)
  have HW := Lib.hid hW0
  obtain ⟨p0, p1, v0, v1⟩ := FC.out W0 (Below.refl _ _)
  clear hW0 hp
  go_enter Try.func6, Try.ntmps6
  go_upto_region 1 with fail
  rw [← HW.out]
  go_wp2_with fail
  refine CG.out.mono ?_
  rintro e w1 ⟨bg, rfl, hfew, b1⟩
  have HFEW := Lib.hid hfew
  have B1 := Lib.hid b1
  obtain ⟨q0, q1, u0, u1⟩ := FC.out w1 b1
  clear b1 hfew CG p0 p1 v0 v1
  have AWK : Hid (∀ (W : World), Below w.heap.size w W → ∀ e W', Ret (.bool true) W e W' → e = .returned (.bool true) ∧ Below w.heap.size w W') := Lib.hid (fun W hb e W' h => ⟨h.1, Below.then hb h.2⟩)
  by_cases hgo : bg = false ∧ ¬ (100 : Int) < (key.size : Int) ∧ ¬ (100 : Int) < (other.size : Int) ∧ ¬ (100 : Int) < (d.size : Int)
  rotate_left
  · cases bg with
    | true =>
      clear hgo
      go_wp2_with fail
      refine (awake10 _).mono ?_
      rintro e w2 hr
      obtain ⟨rfl, hb⟩ := AWK.out _ (Below.then HB.out B1.out) _ _ hr
      have H := Lib.hid hb
      clear hb hr
      go_wp2_with fail
      go_ret
      exact ⟨rfl, H.out⟩
    | false =>
      by_cases h1 : (100 : Int) < (key.size : Int)
      · clear hgo
        go_wp2_with fail
        refine (awake10 _).mono ?_
        rintro e w2 hr
        obtain ⟨rfl, hb⟩ := AWK.out _ (Below.then HB.out B1.out) _ _ hr
        have H := Lib.hid hb
        clear hb hr
        go_wp2_with fail
        go_ret
        exact ⟨rfl, H.out⟩
      · by_cases h2 : (100 : Int) < (other.size : Int)
        · clear hgo
          go_wp2_with fail
          refine (awake10 _).mono ?_
          rintro e w2 hr
          obtain ⟨rfl, hb⟩ := AWK.out _ (Below.then HB.out B1.out) _ _ hr
          have H := Lib.hid hb
          clear hb hr
          go_wp2_with fail
          go_ret
          exact ⟨rfl, H.out⟩
        · have h3 : (100 : Int) < (d.size : Int) := by
            by_cases q : (100 : Int) < (d.size : Int)
            · exact q
            · exact absurd ⟨rfl, h1, h2, q⟩ hgo
          clear hgo
          go_wp2_with fail
          refine (awake10 _).mono ?_
          rintro e w2 hr
          obtain ⟨rfl, hb⟩ := AWK.out _ (Below.then HB.out B1.out) _ _ hr
          have H := Lib.hid hb
          clear hb hr
          go_wp2_with fail
          go_ret
          exact ⟨rfl, H.out⟩
  obtain ⟨rfl, h1, h2, h3⟩ := hgo
  have hn20 : n ≤ 20 := by rw [← HP.out.len]; exact (HFEW.out rfl).1
  obtain ⟨was, hwas⟩ : ∃ v, getV l key = v := ⟨_, rfl⟩
  obtain ⟨ws, wd⟩ := was
  have CW := refGet_any lsn0 A n c l key w1 (HP.out.below B1.out)
  rw [hwas] at CW
  have CW := Lib.hid CW
  have HWAS := Lib.hid hwas
  clear hwas
  go_wp2_with fail
  refine CW.out.mono ?_
  rintro e w2 ⟨rfl, b2⟩
  have B2 := Lib.hid (Below.then B1.out b2)
  clear b2 CW q0 q1 u0 u1
  go_upto_region 4 with fail
  obtain ⟨W3, hW3⟩ : ∃ W, W = w2.alloc (.cells #[.bool ws, .string wd] 42) := ⟨_, rfl⟩
  rw [← hW3]
  have b3 : Below w2.heap.size w2 W3 := by rw [hW3]; exact (Below.refl _ _).alloc (Nat.le_refl _) _
  have B3 := Lib.hid (Below.then B2.out b3)
  have KW : Hid (Bk W3 w2.heap.size 42 #[.bool ws, .string wd]) := Lib.hid (by rw [hW3]; exact Bk.new w2 _ _)
  clear hW3 b3
  obtain ⟨r, hr⟩ : ∃ r, setPg ⟨lsn0, l⟩ a ⟨key, ⟨hs, d⟩⟩ = r := ⟨_, rfl⟩
  have HRR := Lib.hid hr
  have BB := B3
  obtain ⟨⟨rl, rc⟩, re⟩ := r
  clear hr
  go_cut [14, 15] from 40 to 48 (fun t u wx => GotPg W3 wx (⟨rl, rc⟩, re) t u)
  case first =>
    have KS : Hid (∀ w', Below W3.heap.size W3 w' → w'.cell? ⟨w.heap.size, 0, none⟩ = some (.int .i64 lsn0) ∧ w'.cell? ⟨w.heap.size, 1, none⟩ = some (.slice A n c) ∧ w'.cell? ⟨w.heap.size + 1, 0, none⟩ = some (.bool hs) ∧ w'.cell? ⟨w.heap.size + 1, 1, none⟩ = some (.string d)) := Lib.hid (fun w' hb => FC.out w' (Below.then BB.out hb))
    have f0 : Below W3.heap.size W3 W3.drew := (Below.refl _ _).drew
    refine wp_region_noPanic ?_
    refine upto_start (fun w' => w'.cell? ⟨w.heap.size, 0, none⟩ = some (.int .i64 lsn0) ∧ w'.cell? ⟨w.heap.size, 1, none⟩ = some (.slice A n c) ∧ w'.cell? ⟨w.heap.size + 1, 0, none⟩ = some (.bool hs) ∧ w'.cell? ⟨w.heap.size + 1, 1, none⟩ = some (.string d)) 11 (by kernel_rfl) ?_
    change Upto _ _ _ _ _ 12 _ _ _
    refine Upto.take (i := 0) (v := ?_) rfl (by kernel_rfl) (fun _ _ _ h => h) rfl (fun w' hS => ?_) (KS.out _ f0) ?_
    rotate_left
    · (try dsimp only at hS)
      go_split_ands
      go_simp
      (try with_reducible rfl)
    simp only [Act.put, List.setIfInBounds_toArray, List.set_cons_zero, List.set_cons_succ]
    refine Upto.take (i := 2) (v := ?_) rfl (by kernel_rfl) (fun _ _ _ h => h) rfl (fun w' hS => ?_) (KS.out _ f0) ?_
    rotate_left
    · (try dsimp only at hS)
      go_split_ands
      go_simp
      (try with_reducible rfl)
    simp only [Act.put, List.setIfInBounds_toArray, List.set_cons_zero, List.set_cons_succ]
    refine Upto.take (i := 3) (v := ?_) rfl (by kernel_rfl) (fun _ _ _ h => h) rfl (fun w' hS => ?_) (KS.out _ f0) ?_
    rotate_left
    · (try dsimp only at hS)
      go_split_ands
      go_simp
      (try with_reducible rfl)
    simp only [Act.put, List.setIfInBounds_toArray, List.set_cons_zero, List.set_cons_succ]
    refine Upto.take (i := 4) (v := ?_) rfl (by kernel_rfl) (fun _ _ _ h => h) rfl (fun w' hS => ?_) (KS.out _ f0) ?_
    rotate_left
    · (try dsimp only at hS)
      go_split_ands
      go_simp
      (try with_reducible rfl)
    simp only [Act.put, List.setIfInBounds_toArray, List.set_cons_zero, List.set_cons_succ]
    refine Upto.two (i := 1) (j := 9) rfl rfl (by kernel_rfl) rfl rfl (fun K hK => ?_) (fun K hK => ?_)
    · refine wp_enter (f := 11) (args := #[pgV lsn0 A n c]) (by go_simp) (copy_any lsn0 A n c l W3.drew (HP.out.below (Below.then BB.out f0)) (by omega)) ?_
      rintro e x1 ⟨A4, n4, c4, rfl, ho1, b⟩
      have f1 := Below.then f0 b
      refine ⟨_, rfl, hK _ _ (KS.out _ f1) ?_⟩
      clear hK b
      simp only [Act.put, List.setIfInBounds_toArray, List.set_cons_zero, List.set_cons_succ]
      refine Upto.two (i := 5) (j := 9) rfl rfl (by kernel_rfl) rfl rfl (fun K hK => ?_) (fun K hK => ?_)
      · have CS := set_any lsn0 A4 n4 c4 l a ⟨key, ⟨hs, d⟩⟩ x1 ho1.pcs
        rw [HRR.out] at CS
        refine wp_enter (f := 17) (args := #[pgV lsn0 A4 n4 c4, .int .i64 a, .string key, .agg #[.bool hs, .string d]]) (by go_simp) CS ?_
        rintro e x2 ⟨A5, n5, c5, rfl, ho2, b⟩
        have hbase := f1.size
        have f2 := Below.then f1 b
        refine ⟨_, rfl, hK _ _ (KS.out _ f2) ?_⟩
        clear hK b CS
        simp only [Act.put, List.setIfInBounds_toArray, List.set_cons_zero, List.set_cons_succ]
        refine Upto.take (i := 6) (v := ?_) rfl (by kernel_rfl) (fun _ _ _ h => h) rfl (fun w' hS => ?_) (KS.out _ f2) ?_
        rotate_left
        · (try dsimp only at hS)
          go_split_ands
          go_simp
          (try with_reducible rfl)
        simp only [Act.put, List.setIfInBounds_toArray, List.set_cons_zero, List.set_cons_succ]
        refine Upto.take (i := 7) (v := ?_) rfl (by kernel_rfl) (fun _ _ _ h => h) rfl (fun w' hS => ?_) (KS.out _ f2) ?_
        rotate_left
        · (try dsimp only at hS)
          go_split_ands
          go_simp
          (try with_reducible rfl)
        simp only [Act.put, List.setIfInBounds_toArray, List.set_cons_zero, List.set_cons_succ]
        refine Upto.take (i := 8) (v := ?_) rfl (by kernel_rfl) (fun _ _ _ h => h) rfl (fun w' hS => ?_) (KS.out _ f2) ?_
        rotate_left
        · (try dsimp only at hS)
          go_split_ands
          go_simp
          (try with_reducible rfl)
        simp only [Act.put, List.setIfInBounds_toArray, List.set_cons_zero, List.set_cons_succ]
        refine Upto.law (i := 9) rfl (by kernel_rfl) rfl (fun K hK => ?_)
        refine wp_new (by rfl) zero_pg ?_
        have b : Below x2.heap.size x2 (x2.alloc (.cells #[.int .i64 0, .slice none 0 0] 24)) := (Below.refl _ _).alloc (Nat.le_refl _) _
        have hx3 : Bk (x2.alloc (.cells #[.int .i64 0, .slice none 0 0] 24)) x2.heap.size 24 #[.int .i64 0, .slice none 0 0] := Bk.new x2 _ _
        have hX := f2.size
        have f3 := Below.then f2 b
        have ho3 := ho2.below b
        refine hK _ _ (KS.out _ f3) ?_
        clear hK b
        simp only [Act.put, List.setIfInBounds_toArray, List.set_cons_zero, List.set_cons_succ]
        generalize hW3 : x2.alloc (.cells #[.int .i64 0, .slice none 0 0] 24) = x3 at hx3 f3 ho3 ⊢
        refine Upto.law (i := 10) rfl (by kernel_rfl) rfl (fun K hK => ?_)
        refine wp_store_row 24 _ _ (by rfl) x2.heap.size #[.int .i64 rl, .slice A5 n5 c5] (by rfl) (by rfl) 24 _ hx3 pg_inf rfl (pg_one _ _ _ _) ?_
        refine hK _ _ (KS.out _ (row_below f3 f3.size hX _)) ?_
        clear hK
        simp only [Act.put, List.setIfInBounds_toArray, List.set_cons_zero, List.set_cons_succ]
        refine Upto.tail rfl (by kernel_rfl) ?_
        simp only [List.drop_succ_cons, List.drop_zero]
        go_wp2_with fail
        refine NoPanic.normal ?_
        go_wp2_with fail
        go_meet
        case rel => exact GotPg.of (r := (⟨rl, rc⟩, re)) hx3 ho3 hX hbase f3
      · refine wp_new (by rfl) zero_pg ?_
        have b : Below x1.heap.size x1 (x1.alloc (.cells #[.int .i64 0, .slice none 0 0] 24)) := (Below.refl _ _).alloc (Nat.le_refl _) _
        have hx2 : Bk (x1.alloc (.cells #[.int .i64 0, .slice none 0 0] 24)) x1.heap.size 24 #[.int .i64 0, .slice none 0 0] := Bk.new x1 _ _
        have hX := f1.size
        have f2 := Below.then f1 b
        have ho2 := ho1.below b
        refine hK _ _ (KS.out _ f2) ?_
        clear hK b
        simp only [Act.put, List.setIfInBounds_toArray, List.set_cons_zero, List.set_cons_succ]
        generalize hW2 : x1.alloc (.cells #[.int .i64 0, .slice none 0 0] 24) = x2 at hx2 f2 ho2 ⊢
        refine Upto.law (i := 5) rfl (by kernel_rfl) rfl (fun K hK => ?_)
        have CS := set_any lsn0 A4 n4 c4 l a ⟨key, ⟨hs, d⟩⟩ x2 ho2.pcs
        rw [HRR.out] at CS
        refine wp_enter (f := 17) (args := #[pgV lsn0 A4 n4 c4, .int .i64 a, .string key, .agg #[.bool hs, .string d]]) (by go_simp) CS ?_
        rintro e x3 ⟨A5, n5, c5, rfl, ho3, b⟩
        have hbase := f2.size
        have f3 := Below.then f2 b
        have hx3 := hx2.bel b hx2.lt
        refine ⟨_, rfl, hK _ _ (KS.out _ f3) ?_⟩
        clear hK b CS
        simp only [Act.put, List.setIfInBounds_toArray, List.set_cons_zero, List.set_cons_succ]
        refine Upto.take (i := 6) (v := ?_) rfl (by kernel_rfl) (fun _ _ _ h => h) rfl (fun w' hS => ?_) (KS.out _ f3) ?_
        rotate_left
        · (try dsimp only at hS)
          go_split_ands
          go_simp
          (try with_reducible rfl)
        simp only [Act.put, List.setIfInBounds_toArray, List.set_cons_zero, List.set_cons_succ]
        refine Upto.take (i := 7) (v := ?_) rfl (by kernel_rfl) (fun _ _ _ h => h) rfl (fun w' hS => ?_) (KS.out _ f3) ?_
        rotate_left
        · (try dsimp only at hS)
          go_split_ands
          go_simp
          (try with_reducible rfl)
        simp only [Act.put, List.setIfInBounds_toArray, List.set_cons_zero, List.set_cons_succ]
        refine Upto.take (i := 8) (v := ?_) rfl (by kernel_rfl) (fun _ _ _ h => h) rfl (fun w' hS => ?_) (KS.out _ f3) ?_
        rotate_left
        · (try dsimp only at hS)
          go_split_ands
          go_simp
          (try with_reducible rfl)
        simp only [Act.put, List.setIfInBounds_toArray, List.set_cons_zero, List.set_cons_succ]
        refine Upto.law (i := 10) rfl (by kernel_rfl) rfl (fun K hK => ?_)
        refine wp_store_row 24 _ _ (by rfl) x1.heap.size #[.int .i64 rl, .slice A5 n5 c5] (by rfl) (by rfl) 24 _ hx3 pg_inf rfl (pg_one _ _ _ _) ?_
        refine hK _ _ (KS.out _ (row_below f3 f3.size hX _)) ?_
        clear hK
        simp only [Act.put, List.setIfInBounds_toArray, List.set_cons_zero, List.set_cons_succ]
        refine Upto.tail rfl (by kernel_rfl) ?_
        simp only [List.drop_succ_cons, List.drop_zero]
        go_wp2_with fail
        refine NoPanic.normal ?_
        go_wp2_with fail
        go_meet
        case rel => exact GotPg.of (r := (⟨rl, rc⟩, re)) hx3 ho3 hX hbase f3
    · refine wp_new (by rfl) zero_pg ?_
      have b : Below W3.drew.heap.size W3.drew (W3.drew.alloc (.cells #[.int .i64 0, .slice none 0 0] 24)) := (Below.refl _ _).alloc (Nat.le_refl _) _
      have hx1 : Bk (W3.drew.alloc (.cells #[.int .i64 0, .slice none 0 0] 24)) W3.drew.heap.size 24 #[.int .i64 0, .slice none 0 0] := Bk.new W3.drew _ _
      have hX := f0.size
      have f1 := Below.then f0 b
      refine hK _ _ (KS.out _ f1) ?_
      clear hK b
      simp only [Act.put, List.setIfInBounds_toArray, List.set_cons_zero, List.set_cons_succ]
      generalize hW1 : W3.drew.alloc (.cells #[.int .i64 0, .slice none 0 0] 24) = x1 at hx1 f1 ⊢
      refine Upto.law (i := 1) rfl (by kernel_rfl) rfl (fun K hK => ?_)
      refine wp_enter (f := 11) (args := #[pgV lsn0 A n c]) (by go_simp) (copy_any lsn0 A n c l x1 (HP.out.below (Below.then BB.out f1)) (by omega)) ?_
      rintro e x2 ⟨A4, n4, c4, rfl, ho2, b⟩
      have f2 := Below.then f1 b
      have hx2 := hx1.bel b hx1.lt
      refine ⟨_, rfl, hK _ _ (KS.out _ f2) ?_⟩
      clear hK b
      simp only [Act.put, List.setIfInBounds_toArray, List.set_cons_zero, List.set_cons_succ]
      refine Upto.law (i := 5) rfl (by kernel_rfl) rfl (fun K hK => ?_)
      have CS := set_any lsn0 A4 n4 c4 l a ⟨key, ⟨hs, d⟩⟩ x2 ho2.pcs
      rw [HRR.out] at CS
      refine wp_enter (f := 17) (args := #[pgV lsn0 A4 n4 c4, .int .i64 a, .string key, .agg #[.bool hs, .string d]]) (by go_simp) CS ?_
      rintro e x3 ⟨A5, n5, c5, rfl, ho3, b⟩
      have hbase := f2.size
      have f3 := Below.then f2 b
      have hx3 := hx2.bel b hx2.lt
      refine ⟨_, rfl, hK _ _ (KS.out _ f3) ?_⟩
      clear hK b CS
      simp only [Act.put, List.setIfInBounds_toArray, List.set_cons_zero, List.set_cons_succ]
      refine Upto.take (i := 6) (v := ?_) rfl (by kernel_rfl) (fun _ _ _ h => h) rfl (fun w' hS => ?_) (KS.out _ f3) ?_
      rotate_left
      · (try dsimp only at hS)
        go_split_ands
        go_simp
        (try with_reducible rfl)
      simp only [Act.put, List.setIfInBounds_toArray, List.set_cons_zero, List.set_cons_succ]
      refine Upto.take (i := 7) (v := ?_) rfl (by kernel_rfl) (fun _ _ _ h => h) rfl (fun w' hS => ?_) (KS.out _ f3) ?_
      rotate_left
      · (try dsimp only at hS)
        go_split_ands
        go_simp
        (try with_reducible rfl)
      simp only [Act.put, List.setIfInBounds_toArray, List.set_cons_zero, List.set_cons_succ]
      refine Upto.take (i := 8) (v := ?_) rfl (by kernel_rfl) (fun _ _ _ h => h) rfl (fun w' hS => ?_) (KS.out _ f3) ?_
      rotate_left
      · (try dsimp only at hS)
        go_split_ands
        go_simp
        (try with_reducible rfl)
      simp only [Act.put, List.setIfInBounds_toArray, List.set_cons_zero, List.set_cons_succ]
      refine Upto.law (i := 10) rfl (by kernel_rfl) rfl (fun K hK => ?_)
      refine wp_store_row 24 _ _ (by rfl) W3.drew.heap.size #[.int .i64 rl, .slice A5 n5 c5] (by rfl) (by rfl) 24 _ hx3 pg_inf rfl (pg_one _ _ _ _) ?_
      refine hK _ _ (KS.out _ (row_below f3 f3.size hX _)) ?_
      clear hK
      simp only [Act.put, List.setIfInBounds_toArray, List.set_cons_zero, List.set_cons_succ]
      refine Upto.tail rfl (by kernel_rfl) ?_
      simp only [List.drop_succ_cons, List.drop_zero]
      go_wp2_with fail
      refine NoPanic.normal ?_
      go_wp2_with fail
      go_meet
      case rel => exact GotPg.of (r := (⟨rl, rc⟩, re)) hx3 ho3 hX hbase f3
  case rest =>
    obtain ⟨⟨X, A5, n5, c5, rfl, hbk, hown, hX⟩, rfl, hbel⟩ := hcut
    obtain ⟨w5, hw5⟩ : ∃ x, x = wc := ⟨_, rfl⟩
    subst hw5
    have HBK := Lib.hid hbk
    have HO5 := Lib.hid hown
    have BC := Lib.hid (Below.then B3.out hbel)
    have KWC := Lib.hid (KW.out.bel hbel KW.out.lt)
    simp only at HBK HO5
    clear hbk hown hbel hX BB KW
    have q0 : w5.cell? ⟨X, 0, none⟩ = some (.int .i64 rl) := HBK.out.cell 0
    have q1 : w5.cell? ⟨X, 1, none⟩ = some (.slice A5 n5 c5) := HBK.out.cell 1
    by_cases hre : re = 0
    rotate_left
    · have hz : ((re : Int) != 0) = true := by simp; omega
      have hn0 : n5 = 0 := by
        have := setPg_zero (p := ⟨lsn0, l⟩) (lsn := a) (x := ⟨key, ⟨hs, d⟩⟩) (by rw [HRR.out]; exact hre)
        rw [HRR.out] at this
        have e2 : rc = [] := by injection this
        rw [← HO5.out.len, e2]
        rfl
      subst hn0
      clear hre
      go_wp2_with fail
      refine (awake10 _).mono ?_
      rintro e w2 hr
      obtain ⟨rfl, hb⟩ := AWK.out _ (Below.then HB.out BC.out) _ _ hr
      have H := Lib.hid hb
      clear hb hr
      go_wp2_with fail
      go_ret
      exact ⟨rfl, H.out⟩
    subst hre
    obtain ⟨l1, e1, hg0, hg1, hback⟩ := back_plain (b := b) (show (setPg ⟨lsn0, l⟩ a ⟨key, ⟨hs, d⟩⟩).2 = 0 by rw [HRR.out])
    rw [HRR.out] at e1
    obtain ⟨rfl, rfl⟩ : rl = a ∧ rc = l1 := by
      injection e1 with e1 _
      injection e1 with e2 e3
      exact ⟨e2, e3⟩
    simp only at hg0 hg1 hback
    have HG1 := Lib.hid hg1
    have HBACK := Lib.hid hback
    have CGA : Hid (∀ k W', Below w5.heap.size w5 W' → Calls Try.prog 19 #[pgV rl A5 n5 c5, .string k] W' (Ret (.agg #[.bool (getV rc k).has, .string (getV rc k).data]) W')) := Lib.hid (fun k W' hb => get_any rl A5 n5 c5 rc k W' (HO5.out.pcs.below hb))
    have hk1 : getV rc key = ⟨hs, d⟩ := hg0
    obtain ⟨ov, hov⟩ : ∃ v, getV l other = v := ⟨_, rfl⟩
    obtain ⟨os_, od⟩ := ov
    have HOV := Lib.hid hov
    have CGR : Hid (∀ W', Below w5.heap.size w5 W' → Calls Try.prog 20 #[pgV lsn0 A n c, .string other] W' (Ret (.agg #[.bool os_, .string od]) W')) := Lib.hid (fun W' hb => by
      have := refGet_any lsn0 A n c l other W' ((HP.out.below BC.out).below hb)
      rw [hov] at this
      exact this)
    clear hg0 hg1 hback hov e1
    obtain ⟨p0, p1, v0, v1⟩ := FC.out w5 BC.out
    have f0 : ∀ d' os, (Go.Sort.grow (redrawn w5 d') os).cell? ⟨X, 0, none⟩ = some (.int .i64 rl) := cell_regrown q0
    have f1 : ∀ d' os, (Go.Sort.grow (redrawn w5 d') os).cell? ⟨X, 1, none⟩ = some (.slice A5 n5 c5) := cell_regrown q1
    have f2 : ∀ d' os, (Go.Sort.grow (redrawn w5 d') os).cell? ⟨w.heap.size, 0, none⟩ = some (.int .i64 lsn0) := cell_regrown p0
    have f3 : ∀ d' os, (Go.Sort.grow (redrawn w5 d') os).cell? ⟨w.heap.size, 1, none⟩ = some (.slice A n c) := cell_regrown p1
    have f4 : ∀ d' os, (Go.Sort.grow (redrawn w5 d') os).cell? ⟨w.heap.size + 1, 0, none⟩ = some (.bool hs) := cell_regrown v0
    have f5 : ∀ d' os, (Go.Sort.grow (redrawn w5 d') os).cell? ⟨w.heap.size + 1, 1, none⟩ = some (.string d) := cell_regrown v1
    go_upto_region 7 with fail
    go_cut [82] from 58 to 81 (fun s wx => s = .bool false ∧ Below w5.heap.size w5 wx)
    case first =>
      by_cases heq : other = key
      · subst heq
        have hB : (other.toList == other.toList) = true := str_beq _
        refine wp_region_quiet_below (by kernel_rfl) (by kernel_rfl) ?_
        repeat (any_goals (first | go_big_quiet_step ((first | (go_at_call 19; exact Calls.regrown_of (by exact CGA.out _ _ (below_regrown _ _ _))))) | quiet_step ((first | (go_at_call 19; exact Calls.regrown_of (by exact CGA.out _ _ (below_regrown _ _ _)))))))
        refine wpQuiet_nil ?_
        intro _ hw'
        obtain ⟨⟨dq, osq⟩, hw''⟩ := hw'
        subst hw''
        have LQ := Lib.hid (Below.then (Below.refl w5.heap.size w5) (below_regrown w5 dq osq))
        go_wp2_with fail
        go_meet
        case rel => exact ⟨by simp, LQ.out⟩
      · have hB : (other.toList == key.toList) = false := by rw [beq_key]; exact decide_eq_false heq
        have hk2 : getV rc other = ⟨os_, od⟩ := by rw [HG1.out other heq]; exact HOV.out
        refine wp_region_quiet_below (by kernel_rfl) (by kernel_rfl) ?_
        repeat (any_goals (first | go_big_quiet_step ((first | (go_at_call 20; exact Calls.regrown_of (by exact CGR.out _ (below_regrown _ _ _))) | (go_at_call 19; exact Calls.regrown_of (by exact CGA.out _ _ (below_regrown _ _ _))))) | quiet_step ((first | (go_at_call 20; exact Calls.regrown_of (by exact CGR.out _ (below_regrown _ _ _))) | (go_at_call 19; exact Calls.regrown_of (by exact CGA.out _ _ (below_regrown _ _ _)))))))
        refine wpQuiet_nil ?_
        intro _ hw'
        obtain ⟨⟨dq, osq⟩, hw''⟩ := hw'
        subst hw''
        have LQ := Lib.hid (Below.then (Below.refl w5.heap.size w5) (below_regrown w5 dq osq))
        go_wp2_with fail
        go_meet
        case rel => exact ⟨by simp, LQ.out⟩
    case rest =>
      obtain ⟨rfl, b7⟩ := hcut
      have BD := Lib.hid (Below.then BC.out b7)
      have HBQ := Lib.hid (HBK.out.bel b7 HBK.out.lt)
      have KWD := Lib.hid (KWC.out.bel b7 KWC.out.lt)
      have HO7 := Lib.hid (HO5.out.below b7)
      clear b7 f0 f1 f2 f3 f4 f5 q0 q1 p0 p1 v0 v1 CGR CGA HBK KWC HO5
      by_cases hb1 : b < 1
      · go_wp2_with fail
        refine (awake10 _).mono ?_
        rintro e w2 hr
        obtain ⟨rfl, hb⟩ := AWK.out _ (Below.then HB.out BD.out) _ _ hr
        have H := Lib.hid hb
        clear hb hr
        go_wp2_with fail
        go_ret
        exact ⟨rfl, H.out⟩
      by_cases hb2 : 1099511627776 < b
      · go_wp2_with fail
        refine (awake10 _).mono ?_
        rintro e w2 hr
        obtain ⟨rfl, hb⟩ := AWK.out _ (Below.then HB.out BD.out) _ _ hr
        have H := Lib.hid hb
        clear hb hr
        go_wp2_with fail
        go_ret
        exact ⟨rfl, H.out⟩
      obtain ⟨l2, e2, hg2, hroom⟩ := HBACK.out ⟨by omega, by omega⟩
      rw [HWAS.out] at e2
      have CS2 := set_any rl A5 n5 c5 rc b ⟨key, ⟨ws, wd⟩⟩ wc HO7.out.pcs
      rw [e2] at CS2
      have CS2 := Lib.hid CS2
      have HG2 := Lib.hid hg2
      have q0 : wc.cell? ⟨X, 0, none⟩ = some (.int .i64 rl) := HBQ.out.cell 0
      have q1 : wc.cell? ⟨X, 1, none⟩ = some (.slice A5 n5 c5) := HBQ.out.cell 1
      have u0 : wc.cell? ⟨w2.heap.size, 0, none⟩ = some (.bool ws) := KWD.out.cell 0
      have u1 : wc.cell? ⟨w2.heap.size, 1, none⟩ = some (.string wd) := KWD.out.cell 1
      have hk3 : getV l2 key = ⟨ws, wd⟩ := by rw [hg2]; exact HWAS.out
      have hk4 : getV l2 other = ⟨os_, od⟩ := by rw [hg2]; exact HOV.out
      have hroom' : roomC l2 key = true := hroom
      clear e2 hg2 hroom hk1
      go_wp2_with fail
      refine CS2.out.mono ?_
      rintro e w8 ⟨A8, n8, c8, rfl, ho8, b8⟩
      have B8 := Lib.hid (Below.then BD.out b8)
      have KW8 := Lib.hid (KWD.out.bel b8 KWD.out.lt)
      have HO8 := Lib.hid ho8
      clear ho8 b8 CS2 q0 q1 u0 u1
      go_upto_region 12 with fail
      obtain ⟨W9, hW9⟩ : ∃ W, W = w8.alloc (.cells #[.int .i64 b, .slice A8 n8 c8] 24) := ⟨_, rfl⟩
      rw [← hW9]
      have b9 : Below w8.heap.size w8 W9 := by rw [hW9]; exact (Below.refl _ _).alloc (Nat.le_refl _) _
      have hs9 : Bk W9 w8.heap.size 24 #[.int .i64 b, .slice A8 n8 c8] := by rw [hW9]; exact Bk.new w8 _ _
      have B9 := Lib.hid (Below.then B8.out b9)
      have kw9 := KW8.out.bel b9 KW8.out.lt
      have HO9 := Lib.hid (HO8.out.below b9)
      obtain ⟨p0, p1, _, _⟩ := FC.out W9 B9.out
      have f0 : ∀ d' os, (Go.Sort.grow (redrawn W9 d') os).cell? ⟨w8.heap.size, 0, none⟩ = some (.int .i64 b) := cell_regrown (hs9.cell 0)
      have f1 : ∀ d' os, (Go.Sort.grow (redrawn W9 d') os).cell? ⟨w8.heap.size, 1, none⟩ = some (.slice A8 n8 c8) := cell_regrown (hs9.cell 1)
      have f2 : ∀ d' os, (Go.Sort.grow (redrawn W9 d') os).cell? ⟨w.heap.size, 0, none⟩ = some (.int .i64 lsn0) := cell_regrown p0
      have f3 : ∀ d' os, (Go.Sort.grow (redrawn W9 d') os).cell? ⟨w.heap.size, 1, none⟩ = some (.slice A n c) := cell_regrown p1
      have f4 : ∀ d' os, (Go.Sort.grow (redrawn W9 d') os).cell? ⟨w2.heap.size, 0, none⟩ = some (.bool ws) := cell_regrown (kw9.cell 0)
      have f5 : ∀ d' os, (Go.Sort.grow (redrawn W9 d') os).cell? ⟨w2.heap.size, 1, none⟩ = some (.string wd) := cell_regrown (kw9.cell 1)
      have CGS : Hid (∀ k W', Below W9.heap.size W9 W' → Calls Try.prog 19 #[pgV b A8 n8 c8, .string k] W' (Ret (.agg #[.bool (getV l2 k).has, .string (getV l2 k).data]) W')) := Lib.hid (fun k W' hb => get_any b A8 n8 c8 l2 k W' (HO9.out.pcs.below hb))
      have CRM : Hid (∀ k W', Below W9.heap.size W9 W' → Calls Try.prog 21 #[pgV b A8 n8 c8, .string k] W' (Ret (.bool (roomC l2 k)) W')) := Lib.hid (fun k W' hb => room_any b A8 n8 c8 l2 k W' (HO9.out.pcs.below hb))
      have CGR : Hid (∀ W', Below W9.heap.size W9 W' → Calls Try.prog 20 #[pgV lsn0 A n c, .string other] W' (Ret (.agg #[.bool os_, .string od]) W')) := Lib.hid (fun W' hb => by
        have := refGet_any lsn0 A n c l other W' ((HP.out.below B9.out).below hb)
        rw [HOV.out] at this
        exact this)
      clear hW9 b9 hs9 kw9 p0 p1
      refine wp_region_quiet_below (by kernel_rfl) (by kernel_rfl) ?_
      repeat (any_goals (first | go_big_quiet_step ((first | (go_at_call 19; exact Calls.regrown_of (by exact CGS.out _ _ (below_regrown _ _ _))) | (go_at_call 20; exact Calls.regrown_of (by exact CGR.out _ (below_regrown _ _ _))) | (go_at_call 21; exact Calls.regrown_of (by exact CRM.out _ _ (below_regrown _ _ _))) | (go_at_call 9; exact Calls.regrown_of (by exact awake10 _)))) | quiet_step ((first | (go_at_call 19; exact Calls.regrown_of (by exact CGS.out _ _ (below_regrown _ _ _))) | (go_at_call 20; exact Calls.regrown_of (by exact CGR.out _ (below_regrown _ _ _))) | (go_at_call 21; exact Calls.regrown_of (by exact CRM.out _ _ (below_regrown _ _ _))) | (go_at_call 9; exact Calls.regrown_of (by exact awake10 _))))))
      refine wpQuiet_nil ?_
      intro _ hw'
      obtain ⟨⟨dq, osq⟩, hw''⟩ := hw'
      subst hw''
      have LQ := Lib.hid (Below.then (Below.refl W9.heap.size W9) (below_regrown W9 dq osq))
      have RF := Lib.hid (Below.then (Below.then HB.out B9.out) LQ.out)
      clear LQ f0 f1 f2 f3 f4 f5
      go_wp2_with fail
      go_ret
      exact ⟨by simp [hroom'], RF.out⟩
end

/- 'Rows.PageBackSaid': for every input trothlaw10.PageBack answers true, and what came in reads behind the call as before. No condition. -/
section
open Go.ChangeShapes Go.WideShapes Go.ChangeAt Go.RowKit
open Go.ChangeMaps (open_string shut_string)
set_option maxRecDepth 100000 in
theorem pageBack_lifted (os : Os) (started : os.Started) (H : Type) (enc : TypeId × Value → H) :
    ReturnsInHanded {} Try.checked os 6 .any (Rows.pageBackSpec.pre6 enc Try.prog Try.f6 Rows.pageBackRow.domain false) (Rows.pageBackSpec.post enc Try.prog Try.f6 false true false false) := by
  refine returnsInHanded_of_change_sized (C := Try.checked) own_knob started (by kernel_rfl) Try.func6
    (ChangeSpec.witness6 (enc := enc) (C := Try.checked) false ⟨#[], #[.agg #[.int .i64 0, .slice none 0 0], .int .i64 0, .int .i64 0, .string ByteArray.empty, .agg #[.bool false, .string ByteArray.empty], .string ByteArray.empty], []⟩ 8 (by kernel_rfl) (by kernel_rfl) (by kernel_rfl) (by kernel_rfl)) ?_
  intro W base args ds gs before hval0 hW _ hsz0 _
  have hsz : (DataW.weightsEach Try.prog (Try.f6.params.toList ++ Rows.pageBackSpec.plain.varTypes Try.prog) (ds ++ gs)).all (· ≤ reachBytes) = true := hsz0
  have hval : ∀ (j : Nat) t v, Try.f6.params[j]? = some t → args[j]? = some v → Value.okWide Try.prog W .any base t v := hval0
  have hW' := hW
  obtain ⟨p, q, hA0, hV, rfl, hfz, hnd⟩ := hW
  have hA : DataW.TrodAll enc Try.prog W 0 (fun _ => true) true Try.f6.params.toList args.toList ds p := hA0
  rw [Try.params6] at hA hval hsz
  obtain ⟨v0, vs0, d0, ds0, p0, q0, hargs, rfl, rfl, h0, r0⟩ := trodAll_cons hA
  obtain ⟨v1, vs1, d1, ds1, p1, q1, rfl, rfl, rfl, h1, r1⟩ := trodAll_cons r0
  obtain ⟨v2, vs2, d2, ds2, p2, q2, rfl, rfl, rfl, h2, r2⟩ := trodAll_cons r1
  obtain ⟨v3, vs3, d3, ds3, p3, q3, rfl, rfl, rfl, h3, r3⟩ := trodAll_cons r2
  obtain ⟨v4, vs4, d4, ds4, p4, q4, rfl, rfl, rfl, h4, r4⟩ := trodAll_cons r3
  obtain ⟨v5, vs5, d5, ds5, p5, q5, rfl, rfl, rfl, h5, r5⟩ := trodAll_cons r4
  obtain ⟨rfl, rfl, rfl⟩ := trodAll_nil r5
  obtain rfl : args = #[v0, v1, v2, v3, v4, v5] := by cases args; simp_all
  obtain ⟨rfl, rfl⟩ := trodVars_none hV
  have k0 := h0
  have lt0 : ∀ x ∈ p0, x.block < W.heap.size := by obtain ⟨m, hm⟩ := k0; exact DataW.trod_lt m _ _ _ hm
  obtain ⟨m0, rfl, b0⟩ := open_pg (hval 0 24 v0 rfl rfl) h0
  obtain ⟨a1, rfl, rfl, rfl, w1⟩ := open_int Try.underlying3 (hval 1 3 v1 rfl rfl) h1
  have g1 := i64_bd w1
  obtain ⟨a2, rfl, rfl, rfl, w2⟩ := open_int Try.underlying3 (hval 2 3 v2 rfl rfl) h2
  have g2 := i64_bd w2
  obtain ⟨a3, rfl, e3, rfl, w3⟩ := open_string Try.underlying9 (hval 3 9 v3 rfl rfl) h3
  have z3 : a3.size ≤ 140737488351232 := by have := sized_string hsz (j := 3) rfl (by rw [e3]; rfl); rw [Lib.size_eq]; exact Nat.le_trans this (by decide)
  subst e3
  have k4 := h4
  have lt4 : ∀ x ∈ p4, x.block < W.heap.size := by obtain ⟨m, hm⟩ := k4; exact DataW.trod_lt m _ _ _ hm
  obtain ⟨m4, rfl, b4⟩ := open_value (hval 4 42 v4 rfl rfl) h4
  obtain ⟨a5, rfl, e5, rfl, w5⟩ := open_string Try.underlying9 (hval 5 9 v5 rfl rfl) h5
  have z5 : a5.size ≤ 140737488351232 := by have := sized_string hsz (j := 5) rfl (by rw [e5]; rfl); rw [Lib.size_eq]; exact Nat.le_trans this (by decide)
  subst e5
  clear hA0 hval0 hsz0 hsz
  refine (pageBack_walk m0 a1 a2 a3 m4 a5 W b0 g1 g2 z3 b4 z5).mono fun e W' ⟨he, bel⟩ => ?_
  subst he
  exact ⟨_, rfl, _, _, _, [], _, [], hW', trodAll_mk1 (shut_bool Try.underlying4 _), (trodAll_cons_mk (Below.trod laidOut (by kernel_rfl) (of_decide_eq_true (by kernel_rfl)) k0 bel lt0) (trodAll_cons_mk (shut_int Try.underlying3 w1) (trodAll_cons_mk (shut_int Try.underlying3 w2) (trodAll_cons_mk (shut_string Try.underlying9 w3) (trodAll_cons_mk (Below.trod laidOut (by kernel_rfl) (of_decide_eq_true (by kernel_rfl)) k4 bel lt4) (trodAll_cons_mk (shut_string Try.underlying9 w5) trodAll_mk0)))))), rfl, bel.frame _, fun h => by cases h⟩
/-- The statement. -/
theorem pageBack_holds : Rows.PageBackSaid :=
  OpenClaim.holds_of_wide 6 Try.f6 rfl rfl rfl rfl rfl rfl rfl ⟨rfl, rfl, rfl, rfl, rfl⟩ rfl rfl rfl rfl rfl (by kernel_rfl) Try.func6 (by kernel_rfl)
    (of_decide_eq_true (by kernel_rfl)) (by unfold Func.isWrapper; first | (rw [if_pos (by decide +kernel)]; kernel_rfl) | (rw [if_neg (by decide +kernel)]; exact ⟨rfl, rfl⟩))
    (fun os started H enc _ => pageBack_lifted os started H enc)
#print axioms pageBack_holds
end
end Go.Proofs.Ytfmfmdiegabobaa

/- What it says: 'Rows.RecWritesSaid': for every input trothlaw07.RecWrites answers true, and what came in reads behind the call as before. No condition. -/
import Derived.Test.YtfldcddbmikfiaaPw7
import Derived.Test.YtfldcddbmikfiaaPw21
import Derived.Test.YtfldcddbmikfiaaPw23
import Derived.Test.YtfldcddbmikfiaaPw34

set_option linter.unusedSimpArgs false
set_option linter.unusedVariables false
set_option linter.deprecated false
set_option linter.unusedSectionVars false
set_option linter.all false

/- the walk of the statement RecWrites: whether a record may be, its bytes and their number are the document's. -/
namespace Go.Proofs.Ytfldcddbmikfiaa
open Go.RowKit

theorem bk_rangeC {w : World} {g : Nat} {t : TypeId} {cs : Array Value} (h : Bk w g t cs) : w.rangeAt g 0 cs.toList := fun j v hv => by
  have := h.cell (0 + j)
  rw [this, Nat.zero_add, ← Array.getElem?_toList]
  exact hv

set_option maxRecDepth 100000 in
set_option maxHeartbeats 16000000 in
theorem recWrites_walk (x : Xr) (w : World) (hx : XrIn w.heap.size w x) :
    Calls Try.prog 3 #[x.val] w (Ret (.bool true) w) := by
  have HX0 := Lib.hid hx
  obtain ⟨C, hC⟩ : ∃ C, C = x.cells := ⟨_, rfl⟩
  obtain ⟨r, hrr⟩ : ∃ r, w.heap.size = r := ⟨_, rfl⟩
  obtain ⟨W1, hW1⟩ : ∃ W1, W1 = w.alloc (.cells C 30) := ⟨_, rfl⟩
  have hb1 : Below w.heap.size w W1 := by rw [hW1]; exact (Below.refl _ _).alloc (Nat.le_refl _) _
  have V1 : Hid (Bk W1 r 30 C) := Lib.hid (by rw [hW1, ← hrr]; exact Bk.new w _ _)
  have B1 := Lib.hid hb1
  have X1 : Hid (XrIn w.heap.size W1 x) := Lib.hid (hx.calm (Calm.of_below hb1))
  have CG := Lib.hid (great_any x w.heap.size W1 X1.out)
  have HCS : Hid (C.size = 16) := Lib.hid (by rw [hC]; rfl)
  have HC := Lib.hid hC
  have HW := Lib.hid hW1
  have HRR := Lib.hid hrr
  rw [Xr.val_eq, ← hC] at CG ⊢
  clear hx hC hW1 hb1
  go_enter Try.func3, Try.ntmps3
  go_upto_region 1 with fail
  (try rw [hrr])
  rw [← HW.out]
  clear HW hrr
  go_wp2_with (refine wpList_load_row rfl 30 _ rfl r rfl 30 _ (0, 0) _ V1.out Try.underlying30 rfl (by rw [HCS.out]; exact inf_rec) ?_)
  refine CG.out.mono ?_
  rintro e w2 ⟨b, rfl, hg, hb2⟩
  have B2 := Lib.hid (Below.then B1.out hb2)
  have V2 := Lib.hid (V1.out.bel hb2 V1.out.lt)
  have X2 : Hid (XrIn w2.heap.size w2 x) := Lib.hid ((X1.out.calm (Calm.of_below hb2)).up B2.out.size)
  have HG := Lib.hid hg
  clear hg hb2 CG
  have quit : ∀ (v : World), Below w.heap.size w v → Calls Try.prog 6 #[] v (fun e w' => e = .returned (.bool true) ∧ Below w.heap.size w w') := fun v hv => (awake_any v).mono fun e w' h => ⟨h.1, Below.then hv h.2⟩
  have QU := Lib.hid quit
  clear quit
  cases b with
  | true =>
    have CA := Lib.hid (QU.out w2 B2.out)
    go_wp2_with fail
    refine CA.out.mono ?_
    rintro e w3 ⟨rfl, hb3⟩
    have R := Lib.hid hb3
    clear hb3
    go_wp2_with fail
    go_ret
    exact ⟨rfl, R.out⟩
  | false =>
    have HNG := Lib.hid (HG.out rfl)
    clear HG
    have CC := copy_any x w2 X2.out HNG.out
    rw [Xr.val_eq, ← HC.out] at CC
    have CC := Lib.hid CC
    go_wp2_with (refine wpList_load_row rfl 30 _ rfl r rfl 30 _ (0, 0) _ V2.out Try.underlying30 rfl (by rw [HCS.out]; exact inf_rec) ?_)
    refine CC.out.mono ?_
    rintro e w3 ⟨y, rfl, hy, hyr, hb3⟩
    have B3 := Lib.hid (Below.then B2.out hb3)
    have V3 := Lib.hid (V2.out.bel hb3 V2.out.lt)
    have X3 := Lib.hid ((X2.out.calm (Calm.of_below hb3)).up hb3.size)
    have CE := recEncode_any isSame_all y w3 (hy.up hb3.size)
    rw [hyr] at CE
    obtain ⟨bl, hbl⟩ : ∃ l, encB x.read = l := ⟨_, rfl⟩
    obtain ⟨er, her⟩ : ∃ l, encE x.read = l := ⟨_, rfl⟩
    rw [hbl, her] at CE
    have HBL := Lib.hid hbl
    have HER := Lib.hid her
    have CE := Lib.hid CE
    clear hy hyr hb3 CC hbl her
    go_wp2_with fail
    refine CE.out.mono ?_
    rintro e w4 ⟨A4, n4, c4, rfl, ho, hr, hb4⟩
    have B4 := Lib.hid (Below.then B3.out hb4)
    have V4 := Lib.hid (V3.out.bel hb4 V3.out.lt)
    have X4 := Lib.hid ((X3.out.calm (Calm.of_below hb4)).up hb4.size)
    have Y4 := Lib.hid (Byt.of_own ho hr)
    have CR := rEnc7_any x w4 X4.out (Nat.le_refl _) HNG.out
    rw [HBL.out, HER.out, Xr.val_eq, ← HC.out] at CR
    have CR := Lib.hid CR
    clear ho hr hb4 CE
    go_wp2_with (refine wpList_load_row rfl 30 _ rfl r rfl 30 _ (0, 0) _ V4.out Try.underlying30 rfl (by rw [HCS.out]; exact inf_rec) ?_)
    refine CR.out.mono ?_
    rintro e w5 ⟨A5, n5, c5, rfl, hy5, hb5⟩
    have B5 := Lib.hid (Below.then B4.out hb5)
    have V5 := Lib.hid (V4.out.bel hb5 V4.out.lt)
    have X5 := Lib.hid ((X4.out.calm (Calm.of_below hb5)).up hb5.size)
    have Y5 := Lib.hid (Y4.out.below hb5)
    have Z5 := Lib.hid hy5
    obtain rfl : n5 = n4 := by rw [← hy5.len, ← Y4.out.len]
    have hu := Try.underlying30
    have hsz : (Try.prog.info? 30).map (·.size) = some C.toList.length := by rw [Array.length_toList, HCS.out]; exact inf_rec
    have KS : Hid (∀ W, Below w5.heap.size w5 W → W.heap[r]? = some (.cells C 30 (0, 0))) := Lib.hid (fun W hb => V5.out.bel hb V5.out.lt)
    have CC : Hid (∀ W, Below w5.heap.size w5 W → Calls Try.prog 8 #[.agg C] W (RetCopy x W)) := Lib.hid (fun W hb => by
      have := copy_any x W ((X5.out.calm (Calm.of_below hb)).up hb.size) HNG.out
      rwa [Xr.val_eq, ← HC.out] at this)
    have CS : Hid (∀ W, Below w5.heap.size w5 W → Calls Try.prog 12 #[.slice A4 n5 c4, .slice A5 n5 c5] W (Ret (.bool true) W)) := Lib.hid (fun W hb => Quiet.ret (same_yes A4 n5 c4 A5 n5 c5 bl bl W (Y5.out.below hb) (Z5.out.below hb) rfl))
    have SZ : Hid (∀ W (y : Xr), XrIn W.heap.size W y → y.read = x.read → Calls Try.prog 13 #[y.val] W (Ret (.int .i64 (n5 : Nat)) W)) := Lib.hid (fun W y hy hyr => (size_any isSame_all y W hy).mono fun e w' ⟨h1, h2⟩ => ⟨by rw [h1, hyr, HBL.out, Z5.out.len], h2⟩)
    have HXS := Lib.hid (fun W (hb : Below w5.heap.size w5 W) => may7_any x W.heap.size W ((X5.out.calm (Calm.of_below hb)).up hb.size))
    clear hy5 hb5 CR Y4 X4 V4 B4
    by_cases hok : x.read.ok
    · have MA : Hid (∀ W (y : Xr), XrIn W.heap.size W y → y.read = x.read → Calls Try.prog 10 #[y.val] W (Ret (.bool true) W)) := Lib.hid (fun W y hy hyr => (may_any isSame_all y W hy).mono fun e w' ⟨b, h1, h2, h3⟩ => ⟨by rw [h1, h2.2 (by rw [hyr]; exact hok)], h3⟩)
      have MB : Hid (∀ W, Below w5.heap.size w5 W → Calls Try.prog 11 #[.agg C] W (Ret (.bool true) W)) := Lib.hid (fun W hb => by
        have := HXS.out W hb
        rw [Xr.val_eq, ← HC.out] at this
        exact this.mono fun e w' ⟨b, h1, h2, h3⟩ => ⟨by rw [h1, h2.2 hok], h3⟩)
      clear hok HXS
      go_wp2_with fail
      have f0 : Below w5.heap.size w5 w5.drew := (Below.refl _ _).drew
      have hSx := KS.out w5.drew f0
      refine wp_region_noPanic ?_
      refine upto_start (fun w' => w'.heap[r]? = some (.cells C 30 (0, 0))) 27 (by kernel_rfl) ?_
      change Upto _ _ _ _ _ 28 _ _ _
      refine Upto.take (i := 0) (v := .agg C) rfl (by kernel_rfl) (fun _ _ _ h => h) rfl (fun w' hS => exec_load rfl (by rfl) (bk_rangeC hS) hu rfl hsz) hSx ?_
      simp only [Act.put, List.setIfInBounds_toArray, List.set_cons_zero, List.set_cons_succ]
      refine Upto.take (i := 3) (v := .agg C) rfl (by kernel_rfl) (fun _ _ _ h => h) rfl (fun w' hS => exec_load rfl (by rfl) (bk_rangeC hS) hu rfl hsz) hSx ?_
      simp only [Act.put, List.setIfInBounds_toArray, List.set_cons_zero, List.set_cons_succ]
      refine Upto.law (i := 1) rfl (by kernel_rfl) rfl (fun K hK => ?_)
      refine wp_enter (f := 8) (args := #[.agg C]) (by go_simp; (try with_reducible rfl)) (CC.out _ f0) ?_
      rintro e W1 ⟨y, rfl, hy, hyr, b1⟩
      have f1 := Below.then f0 b1
      refine ⟨_, rfl, hK _ _ (KS.out _ f1) ?_⟩
      clear hK
      have hSx := KS.out _ f1
      simp only [Act.put, List.setIfInBounds_toArray, List.set_cons_zero, List.set_cons_succ]
      have CM1 := MA.out W1 y (XrIn.up hy b1.size) hyr
      clear b1
      refine Upto.law (i := 2) rfl (by kernel_rfl) rfl (fun K hK => ?_)
      refine wp_enter (f := 10) (args := #[y.val]) (by go_simp; (try with_reducible rfl)) CM1 ?_
      rintro e W2 ⟨rfl, b2⟩
      have f2 := Below.then f1 b2
      refine ⟨_, rfl, hK _ _ (KS.out _ f2) ?_⟩
      clear hK
      have hSx := KS.out _ f2
      simp only [Act.put, List.setIfInBounds_toArray, List.set_cons_zero, List.set_cons_succ]
      clear b2 CM1
      refine Upto.law (i := 4) rfl (by kernel_rfl) rfl (fun K hK => ?_)
      refine wp_enter (f := 11) (args := #[.agg C]) (by go_simp; (try with_reducible rfl)) (MB.out _ f2) ?_
      rintro e W3 ⟨rfl, b3⟩
      have f3 := Below.then f2 b3
      refine ⟨_, rfl, hK _ _ (KS.out _ f3) ?_⟩
      clear hK
      have hSx := KS.out _ f3
      simp only [Act.put, List.setIfInBounds_toArray, List.set_cons_zero, List.set_cons_succ]
      clear b3
      refine Upto.take (i := 5) (v := ?_) rfl (by kernel_rfl) (fun _ _ _ h => h) rfl (fun w' hS => ?_) hSx ?_
      rotate_left
      · go_simp
        (try with_reducible rfl)
      simp only [Act.put, List.setIfInBounds_toArray, List.set_cons_zero, List.set_cons_succ]
      refine Upto.take (i := 6) (v := ?_) rfl (by kernel_rfl) (fun _ _ _ h => h) rfl (fun w' hS => ?_) hSx ?_
      rotate_left
      · go_simp
        (try with_reducible rfl)
      simp only [Act.put, List.setIfInBounds_toArray, List.set_cons_zero, List.set_cons_succ]
      refine Upto.takeG (i := 7) (v := ?_) rfl (by kernel_rfl) (fun _ _ _ h => h) (by rfl) (fun w' hS => ?_) hSx ?_
      rotate_left
      · go_simp
        (try with_reducible rfl)
      simp only [Act.put, List.setIfInBounds_toArray, List.set_cons_zero, List.set_cons_succ]
      refine Upto.takeG (i := 8) (v := ?_) rfl (by kernel_rfl) (fun _ _ _ h => h) (by rfl) (fun w' hS => ?_) hSx ?_
      rotate_left
      · go_simp
        (try with_reducible rfl)
      simp only [Act.put, List.setIfInBounds_toArray, List.set_cons_zero, List.set_cons_succ]
      refine Upto.takeG (i := 9) (v := ?_) rfl (by kernel_rfl) (fun _ _ _ h => h) (by rfl) (fun w' hS => ?_) hSx ?_
      rotate_left
      · go_simp
        (try with_reducible rfl)
      simp only [Act.put, List.setIfInBounds_toArray, List.set_cons_zero, List.set_cons_succ]
      refine Upto.take (i := 10) (v := ?_) rfl (by kernel_rfl) (fun _ _ _ h => h) rfl (fun w' hS => ?_) hSx ?_
      rotate_left
      · go_simp
        (try with_reducible rfl)
      simp only [Act.put, List.setIfInBounds_toArray, List.set_cons_zero, List.set_cons_succ]
      refine Upto.take (i := 11) (v := ?_) rfl (by kernel_rfl) (fun _ _ _ h => h) rfl (fun w' hS => ?_) hSx ?_
      rotate_left
      · go_simp
        (try with_reducible rfl)
      simp only [Act.put, List.setIfInBounds_toArray, List.set_cons_zero, List.set_cons_succ]
      refine Upto.takeG (i := 12) (v := ?_) rfl (by kernel_rfl) (fun _ _ _ h => h) (by rfl) (fun w' hS => ?_) hSx ?_
      rotate_left
      · go_simp
        (try with_reducible rfl)
      simp only [Act.put, List.setIfInBounds_toArray, List.set_cons_zero, List.set_cons_succ]
      refine Upto.takeG (i := 13) (v := ?_) rfl (by kernel_rfl) (fun _ _ _ h => h) (by rfl) (fun w' hS => ?_) hSx ?_
      rotate_left
      · go_simp
        (try with_reducible rfl)
      simp only [Act.put, List.setIfInBounds_toArray, List.set_cons_zero, List.set_cons_succ]
      refine Upto.lawG (i := 14) rfl (by kernel_rfl) (by rfl) (fun K hK => ?_)
      refine wp_enter (f := 12) (args := #[.slice A4 n5 c4, .slice A5 n5 c5]) (by go_simp; (try with_reducible rfl)) (CS.out _ f3) ?_
      rintro e W4 ⟨rfl, b4⟩
      have f4 := Below.then f3 b4
      refine ⟨_, rfl, hK _ _ (KS.out _ f4) ?_⟩
      clear hK
      have hSx := KS.out _ f4
      simp only [Act.put, List.setIfInBounds_toArray, List.set_cons_zero, List.set_cons_succ]
      clear b4
      refine Upto.take (i := 15) (v := ?_) rfl (by kernel_rfl) (fun _ _ _ h => h) rfl (fun w' hS => ?_) hSx ?_
      rotate_left
      · go_simp
        (try with_reducible rfl)
      simp only [Act.put, List.setIfInBounds_toArray, List.set_cons_zero, List.set_cons_succ]
      refine Upto.take (i := 16) (v := ?_) rfl (by kernel_rfl) (fun _ _ _ h => h) rfl (fun w' hS => ?_) hSx ?_
      rotate_left
      · go_simp
        (try with_reducible rfl)
      simp only [Act.put, List.setIfInBounds_toArray, List.set_cons_zero, List.set_cons_succ]
      refine Upto.takeG (i := 17) (v := .agg C) rfl (by kernel_rfl) (fun _ _ _ h => h) (by rfl) (fun w' hS => exec_load rfl (by rfl) (bk_rangeC hS) hu rfl hsz) hSx ?_
      simp only [Act.put, List.setIfInBounds_toArray, List.set_cons_zero, List.set_cons_succ]
      refine Upto.takeG (i := 20) (v := ?_) rfl (by kernel_rfl) (fun _ _ _ h => h) (by rfl) (fun w' hS => ?_) hSx ?_
      rotate_left
      · go_simp
        (try with_reducible rfl)
      simp only [Act.put, List.setIfInBounds_toArray, List.set_cons_zero, List.set_cons_succ]
      refine Upto.takeG (i := 21) (v := ?_) rfl (by kernel_rfl) (fun _ _ _ h => h) (by rfl) (fun w' hS => ?_) hSx ?_
      rotate_left
      · go_simp
        (try with_reducible rfl)
      simp only [Act.put, List.setIfInBounds_toArray, List.set_cons_zero, List.set_cons_succ]
      refine Upto.lawG (i := 18) rfl (by kernel_rfl) (by rfl) (fun K hK => ?_)
      refine wp_enter (f := 8) (args := #[.agg C]) (by go_simp; (try with_reducible rfl)) (CC.out _ f4) ?_
      rintro e W5 ⟨y2, rfl, hy2, hyr2, b5⟩
      have f5 := Below.then f4 b5
      refine ⟨_, rfl, hK _ _ (KS.out _ f5) ?_⟩
      clear hK
      have hSx := KS.out _ f5
      simp only [Act.put, List.setIfInBounds_toArray, List.set_cons_zero, List.set_cons_succ]
      have CZ := SZ.out W5 y2 (XrIn.up hy2 b5.size) hyr2
      clear b5
      refine Upto.lawG (i := 19) rfl (by kernel_rfl) (by rfl) (fun K hK => ?_)
      refine wp_enter (f := 13) (args := #[y2.val]) (by go_simp; (try with_reducible rfl)) CZ ?_
      rintro e W6 ⟨rfl, b6⟩
      have f6 := Below.then f5 b6
      refine ⟨_, rfl, hK _ _ (KS.out _ f6) ?_⟩
      clear hK
      have hSx := KS.out _ f6
      simp only [Act.put, List.setIfInBounds_toArray, List.set_cons_zero, List.set_cons_succ]
      clear b6 CZ
      refine Upto.takeG (i := 22) (v := ?_) rfl (by kernel_rfl) (fun _ _ _ h => h) (by rfl) (fun w' hS => ?_) hSx ?_
      rotate_left
      · go_simp
        (try with_reducible rfl)
      simp only [Act.put, List.setIfInBounds_toArray, List.set_cons_zero, List.set_cons_succ]
      refine Upto.take (i := 23) (v := ?_) rfl (by kernel_rfl) (fun _ _ _ h => h) rfl (fun w' hS => ?_) hSx ?_
      rotate_left
      · go_simp
        (try with_reducible rfl)
      simp only [Act.put, List.setIfInBounds_toArray, List.set_cons_zero, List.set_cons_succ]
      refine Upto.take (i := 24) (v := ?_) rfl (by kernel_rfl) (fun _ _ _ h => h) rfl (fun w' hS => ?_) hSx ?_
      rotate_left
      · go_simp
        (try with_reducible rfl)
      simp only [Act.put, List.setIfInBounds_toArray, List.set_cons_zero, List.set_cons_succ]
      refine Upto.lawG (i := 25) rfl (by kernel_rfl) (by rfl) (fun K hK => ?_)
      refine wp_enter (f := 6) (args := #[]) (by go_simp; (try with_reducible rfl)) (awake_any W6) ?_
      rintro e W7 ⟨rfl, b7⟩
      have f7 := Below.then f6 b7
      refine ⟨_, rfl, hK _ _ (KS.out _ f7) ?_⟩
      clear hK
      have hSx := KS.out _ f7
      simp only [Act.put, List.setIfInBounds_toArray, List.set_cons_zero, List.set_cons_succ]
      clear b7
      refine Upto.take (i := 26) (v := ?_) rfl (by kernel_rfl) (fun _ _ _ h => h) rfl (fun w' hS => ?_) hSx ?_
      rotate_left
      · go_simp
        (try with_reducible rfl)
      simp only [Act.put, List.setIfInBounds_toArray, List.set_cons_zero, List.set_cons_succ]
      refine Upto.tail rfl (by kernel_rfl) ?_
      simp only [List.drop_succ_cons, List.drop_zero]
      have R := Lib.hid (Below.then B5.out f7)
      clear f0 f1 f2 f3 f4 f5 f6 f7 hSx KS CC MA MB CS SZ
      go_wp2_with fail
      refine NoPanic.normal ?_
      go_wp2_with fail
      go_ret
      exact ⟨rfl, R.out⟩
    · have MA : Hid (∀ W (y : Xr), XrIn W.heap.size W y → y.read = x.read → Calls Try.prog 10 #[y.val] W (Ret (.bool false) W)) := Lib.hid (fun W y hy hyr => (may_any isSame_all y W hy).mono fun e w' ⟨b, h1, h2, h3⟩ => ⟨by
        cases b with
        | true => exact absurd (by have := h2.1 rfl; rwa [hyr] at this) hok
        | false => exact h1, h3⟩)
      have MB : Hid (∀ W, Below w5.heap.size w5 W → Calls Try.prog 11 #[.agg C] W (Ret (.bool false) W)) := Lib.hid (fun W hb => by
        have := HXS.out W hb
        rw [Xr.val_eq, ← HC.out] at this
        exact this.mono fun e w' ⟨b, h1, h2, h3⟩ => ⟨by
          cases b with
          | true => exact absurd (h2.1 rfl) hok
          | false => exact h1, h3⟩)
      clear hok HXS
      go_wp2_with fail
      have f0 : Below w5.heap.size w5 w5.drew := (Below.refl _ _).drew
      have hSx := KS.out w5.drew f0
      refine wp_region_noPanic ?_
      refine upto_start (fun w' => w'.heap[r]? = some (.cells C 30 (0, 0))) 27 (by kernel_rfl) ?_
      change Upto _ _ _ _ _ 28 _ _ _
      refine Upto.take (i := 0) (v := .agg C) rfl (by kernel_rfl) (fun _ _ _ h => h) rfl (fun w' hS => exec_load rfl (by rfl) (bk_rangeC hS) hu rfl hsz) hSx ?_
      simp only [Act.put, List.setIfInBounds_toArray, List.set_cons_zero, List.set_cons_succ]
      refine Upto.take (i := 3) (v := .agg C) rfl (by kernel_rfl) (fun _ _ _ h => h) rfl (fun w' hS => exec_load rfl (by rfl) (bk_rangeC hS) hu rfl hsz) hSx ?_
      simp only [Act.put, List.setIfInBounds_toArray, List.set_cons_zero, List.set_cons_succ]
      refine Upto.law (i := 1) rfl (by kernel_rfl) rfl (fun K hK => ?_)
      refine wp_enter (f := 8) (args := #[.agg C]) (by go_simp; (try with_reducible rfl)) (CC.out _ f0) ?_
      rintro e W1 ⟨y, rfl, hy, hyr, b1⟩
      have f1 := Below.then f0 b1
      refine ⟨_, rfl, hK _ _ (KS.out _ f1) ?_⟩
      clear hK
      have hSx := KS.out _ f1
      simp only [Act.put, List.setIfInBounds_toArray, List.set_cons_zero, List.set_cons_succ]
      have CM1 := MA.out W1 y (XrIn.up hy b1.size) hyr
      clear b1
      refine Upto.law (i := 2) rfl (by kernel_rfl) rfl (fun K hK => ?_)
      refine wp_enter (f := 10) (args := #[y.val]) (by go_simp; (try with_reducible rfl)) CM1 ?_
      rintro e W2 ⟨rfl, b2⟩
      have f2 := Below.then f1 b2
      refine ⟨_, rfl, hK _ _ (KS.out _ f2) ?_⟩
      clear hK
      have hSx := KS.out _ f2
      simp only [Act.put, List.setIfInBounds_toArray, List.set_cons_zero, List.set_cons_succ]
      clear b2 CM1
      refine Upto.law (i := 4) rfl (by kernel_rfl) rfl (fun K hK => ?_)
      refine wp_enter (f := 11) (args := #[.agg C]) (by go_simp; (try with_reducible rfl)) (MB.out _ f2) ?_
      rintro e W3 ⟨rfl, b3⟩
      have f3 := Below.then f2 b3
      refine ⟨_, rfl, hK _ _ (KS.out _ f3) ?_⟩
      clear hK
      have hSx := KS.out _ f3
      simp only [Act.put, List.setIfInBounds_toArray, List.set_cons_zero, List.set_cons_succ]
      clear b3
      refine Upto.take (i := 5) (v := ?_) rfl (by kernel_rfl) (fun _ _ _ h => h) rfl (fun w' hS => ?_) hSx ?_
      rotate_left
      · go_simp
        (try with_reducible rfl)
      simp only [Act.put, List.setIfInBounds_toArray, List.set_cons_zero, List.set_cons_succ]
      refine Upto.take (i := 6) (v := ?_) rfl (by kernel_rfl) (fun _ _ _ h => h) rfl (fun w' hS => ?_) hSx ?_
      rotate_left
      · go_simp
        (try with_reducible rfl)
      simp only [Act.put, List.setIfInBounds_toArray, List.set_cons_zero, List.set_cons_succ]
      refine Upto.takeG (i := 7) (v := ?_) rfl (by kernel_rfl) (fun _ _ _ h => h) (by rfl) (fun w' hS => ?_) hSx ?_
      rotate_left
      · go_simp
        (try with_reducible rfl)
      simp only [Act.put, List.setIfInBounds_toArray, List.set_cons_zero, List.set_cons_succ]
      refine Upto.takeG (i := 8) (v := ?_) rfl (by kernel_rfl) (fun _ _ _ h => h) (by rfl) (fun w' hS => ?_) hSx ?_
      rotate_left
      · go_simp
        (try with_reducible rfl)
      simp only [Act.put, List.setIfInBounds_toArray, List.set_cons_zero, List.set_cons_succ]
      refine Upto.takeG (i := 9) (v := ?_) rfl (by kernel_rfl) (fun _ _ _ h => h) (by rfl) (fun w' hS => ?_) hSx ?_
      rotate_left
      · go_simp
        (try with_reducible rfl)
      simp only [Act.put, List.setIfInBounds_toArray, List.set_cons_zero, List.set_cons_succ]
      refine Upto.take (i := 10) (v := ?_) rfl (by kernel_rfl) (fun _ _ _ h => h) rfl (fun w' hS => ?_) hSx ?_
      rotate_left
      · go_simp
        (try with_reducible rfl)
      simp only [Act.put, List.setIfInBounds_toArray, List.set_cons_zero, List.set_cons_succ]
      refine Upto.take (i := 11) (v := ?_) rfl (by kernel_rfl) (fun _ _ _ h => h) rfl (fun w' hS => ?_) hSx ?_
      rotate_left
      · go_simp
        (try with_reducible rfl)
      simp only [Act.put, List.setIfInBounds_toArray, List.set_cons_zero, List.set_cons_succ]
      refine Upto.takeG (i := 12) (v := ?_) rfl (by kernel_rfl) (fun _ _ _ h => h) (by rfl) (fun w' hS => ?_) hSx ?_
      rotate_left
      · go_simp
        (try with_reducible rfl)
      simp only [Act.put, List.setIfInBounds_toArray, List.set_cons_zero, List.set_cons_succ]
      refine Upto.takeG (i := 13) (v := ?_) rfl (by kernel_rfl) (fun _ _ _ h => h) (by rfl) (fun w' hS => ?_) hSx ?_
      rotate_left
      · go_simp
        (try with_reducible rfl)
      simp only [Act.put, List.setIfInBounds_toArray, List.set_cons_zero, List.set_cons_succ]
      refine Upto.lawG (i := 14) rfl (by kernel_rfl) (by rfl) (fun K hK => ?_)
      refine wp_enter (f := 12) (args := #[.slice A4 n5 c4, .slice A5 n5 c5]) (by go_simp; (try with_reducible rfl)) (CS.out _ f3) ?_
      rintro e W4 ⟨rfl, b4⟩
      have f4 := Below.then f3 b4
      refine ⟨_, rfl, hK _ _ (KS.out _ f4) ?_⟩
      clear hK
      have hSx := KS.out _ f4
      simp only [Act.put, List.setIfInBounds_toArray, List.set_cons_zero, List.set_cons_succ]
      clear b4
      refine Upto.take (i := 15) (v := ?_) rfl (by kernel_rfl) (fun _ _ _ h => h) rfl (fun w' hS => ?_) hSx ?_
      rotate_left
      · go_simp
        (try with_reducible rfl)
      simp only [Act.put, List.setIfInBounds_toArray, List.set_cons_zero, List.set_cons_succ]
      refine Upto.take (i := 16) (v := ?_) rfl (by kernel_rfl) (fun _ _ _ h => h) rfl (fun w' hS => ?_) hSx ?_
      rotate_left
      · go_simp
        (try with_reducible rfl)
      simp only [Act.put, List.setIfInBounds_toArray, List.set_cons_zero, List.set_cons_succ]
      refine Upto.takeG (i := 17) (v := .agg C) rfl (by kernel_rfl) (fun _ _ _ h => h) (by rfl) (fun w' hS => exec_load rfl (by rfl) (bk_rangeC hS) hu rfl hsz) hSx ?_
      simp only [Act.put, List.setIfInBounds_toArray, List.set_cons_zero, List.set_cons_succ]
      refine Upto.takeG (i := 20) (v := ?_) rfl (by kernel_rfl) (fun _ _ _ h => h) (by rfl) (fun w' hS => ?_) hSx ?_
      rotate_left
      · go_simp
        (try with_reducible rfl)
      simp only [Act.put, List.setIfInBounds_toArray, List.set_cons_zero, List.set_cons_succ]
      refine Upto.takeG (i := 21) (v := ?_) rfl (by kernel_rfl) (fun _ _ _ h => h) (by rfl) (fun w' hS => ?_) hSx ?_
      rotate_left
      · go_simp
        (try with_reducible rfl)
      simp only [Act.put, List.setIfInBounds_toArray, List.set_cons_zero, List.set_cons_succ]
      refine Upto.lawG (i := 18) rfl (by kernel_rfl) (by rfl) (fun K hK => ?_)
      refine wp_enter (f := 8) (args := #[.agg C]) (by go_simp; (try with_reducible rfl)) (CC.out _ f4) ?_
      rintro e W5 ⟨y2, rfl, hy2, hyr2, b5⟩
      have f5 := Below.then f4 b5
      refine ⟨_, rfl, hK _ _ (KS.out _ f5) ?_⟩
      clear hK
      have hSx := KS.out _ f5
      simp only [Act.put, List.setIfInBounds_toArray, List.set_cons_zero, List.set_cons_succ]
      have CZ := SZ.out W5 y2 (XrIn.up hy2 b5.size) hyr2
      clear b5
      refine Upto.lawG (i := 19) rfl (by kernel_rfl) (by rfl) (fun K hK => ?_)
      refine wp_enter (f := 13) (args := #[y2.val]) (by go_simp; (try with_reducible rfl)) CZ ?_
      rintro e W6 ⟨rfl, b6⟩
      have f6 := Below.then f5 b6
      refine ⟨_, rfl, hK _ _ (KS.out _ f6) ?_⟩
      clear hK
      have hSx := KS.out _ f6
      simp only [Act.put, List.setIfInBounds_toArray, List.set_cons_zero, List.set_cons_succ]
      clear b6 CZ
      refine Upto.takeG (i := 22) (v := ?_) rfl (by kernel_rfl) (fun _ _ _ h => h) (by rfl) (fun w' hS => ?_) hSx ?_
      rotate_left
      · go_simp
        (try with_reducible rfl)
      simp only [Act.put, List.setIfInBounds_toArray, List.set_cons_zero, List.set_cons_succ]
      refine Upto.take (i := 23) (v := ?_) rfl (by kernel_rfl) (fun _ _ _ h => h) rfl (fun w' hS => ?_) hSx ?_
      rotate_left
      · go_simp
        (try with_reducible rfl)
      simp only [Act.put, List.setIfInBounds_toArray, List.set_cons_zero, List.set_cons_succ]
      refine Upto.take (i := 24) (v := ?_) rfl (by kernel_rfl) (fun _ _ _ h => h) rfl (fun w' hS => ?_) hSx ?_
      rotate_left
      · go_simp
        (try with_reducible rfl)
      simp only [Act.put, List.setIfInBounds_toArray, List.set_cons_zero, List.set_cons_succ]
      refine Upto.lawG (i := 25) rfl (by kernel_rfl) (by rfl) (fun K hK => ?_)
      refine wp_enter (f := 6) (args := #[]) (by go_simp; (try with_reducible rfl)) (awake_any W6) ?_
      rintro e W7 ⟨rfl, b7⟩
      have f7 := Below.then f6 b7
      refine ⟨_, rfl, hK _ _ (KS.out _ f7) ?_⟩
      clear hK
      have hSx := KS.out _ f7
      simp only [Act.put, List.setIfInBounds_toArray, List.set_cons_zero, List.set_cons_succ]
      clear b7
      refine Upto.take (i := 26) (v := ?_) rfl (by kernel_rfl) (fun _ _ _ h => h) rfl (fun w' hS => ?_) hSx ?_
      rotate_left
      · go_simp
        (try with_reducible rfl)
      simp only [Act.put, List.setIfInBounds_toArray, List.set_cons_zero, List.set_cons_succ]
      refine Upto.tail rfl (by kernel_rfl) ?_
      simp only [List.drop_succ_cons, List.drop_zero]
      have R := Lib.hid (Below.then B5.out f7)
      clear f0 f1 f2 f3 f4 f5 f6 f7 hSx KS CC MA MB CS SZ
      go_wp2_with fail
      refine NoPanic.normal ?_
      go_wp2_with fail
      go_ret
      exact ⟨rfl, R.out⟩
end Go.Proofs.Ytfldcddbmikfiaa

/- 'Rows.RecWritesSaid': for every input trothlaw07.RecWrites answers true, and what came in reads behind the call as before. No condition. -/
namespace Go.Proofs.Ytfldcddbmikfiaa
open Go.ChangeShapes Go.WideShapes Go.ChangeAt Go.RowKit

set_option maxRecDepth 100000 in
theorem recWrites_lifted (os : Os) (started : os.Started) (H : Type) (enc : TypeId × Value → H) :
    ReturnsInHanded {} Try.checked os 3 .any (Rows.recWritesSpec.pre6 enc Try.prog Try.f3 Rows.recWritesRow.domain false) (Rows.recWritesSpec.post enc Try.prog Try.f3 false true false false) := by
  refine returnsInHanded_of_change_sized (C := Try.checked) own_knob started (by kernel_rfl) Try.func3
    (ChangeSpec.witness6 (enc := enc) (C := Try.checked) false ⟨#[], #[.agg #[.int .i64 0, .int .i64 0, .int .i64 0, .int .i64 0, .string ByteArray.empty, .bool false, .string ByteArray.empty, .bool false, .string ByteArray.empty, .int .i64 0, .slice none 0 0, .slice none 0 0, .slice none 0 0, .slice none 0 0, .slice none 0 0, .slice none 0 0]], []⟩ 8 (by kernel_rfl) (by kernel_rfl) (by kernel_rfl) (by kernel_rfl)) ?_
  intro W base args ds gs before hval0 hW _ hsz0 _
  have hval : ∀ (j : Nat) t v, Try.f3.params[j]? = some t → args[j]? = some v → Value.okWide Try.prog W .any base t v := hval0
  have hW' := hW
  obtain ⟨p, q, hA0, hV, rfl, hfz, hnd⟩ := hW
  have hA : DataW.TrodAll enc Try.prog W 0 (fun _ => true) true Try.f3.params.toList args.toList ds p := hA0
  rw [Try.params3] at hA hval
  obtain ⟨v0, vs0, d0, ds0, p0, q0, hargs, rfl, rfl, h0, r0⟩ := trodAll_cons hA
  obtain ⟨rfl, rfl, rfl⟩ := trodAll_nil r0
  obtain rfl : args = #[v0] := by cases args; simp_all
  obtain ⟨rfl, rfl⟩ := trodVars_none hV
  have k0 := h0
  have lt0 : ∀ x ∈ p0, x.block < W.heap.size := by obtain ⟨m, hm⟩ := k0; exact DataW.trod_lt m _ _ _ hm
  obtain ⟨m0, rfl, b0⟩ := open_rec (hval 0 30 v0 rfl rfl) h0
  clear hA0 hval0 hsz0
  refine (recWrites_walk m0 W b0).mono fun e W' ⟨he, bel⟩ => ?_
  subst he
  exact ⟨_, rfl, _, _, _, [], _, [], hW', trodAll_mk1 (shut_bool Try.underlying4 _), (trodAll_cons_mk (Below.trod laidOut (by kernel_rfl) (of_decide_eq_true (by kernel_rfl)) k0 bel lt0) trodAll_mk0), rfl, bel.frame _, fun h => by cases h⟩

/-- The statement. -/
theorem recWrites_holds : Rows.RecWritesSaid :=
  OpenClaim.holds_of_wide 3 Try.f3 rfl rfl rfl rfl rfl rfl rfl ⟨rfl, rfl, rfl, rfl, rfl⟩ rfl rfl rfl rfl rfl (by kernel_rfl) Try.func3 (by kernel_rfl)
    (of_decide_eq_true (by kernel_rfl)) (by unfold Func.isWrapper; first | (rw [if_pos (by decide +kernel)]; kernel_rfl) | (rw [if_neg (by decide +kernel)]; exact ⟨rfl, rfl⟩))
    (fun os started H enc _ => recWrites_lifted os started H enc)
#print axioms recWrites_holds
end Go.Proofs.Ytfldcddbmikfiaa

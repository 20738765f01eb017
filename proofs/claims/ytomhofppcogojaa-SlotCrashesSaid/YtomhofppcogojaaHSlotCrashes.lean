/- What it says: 'Rows.SlotCrashesSaid': for every input trothlaw11.SlotCrashes answers true, and what came in reads behind the call as before. No condition. -/
import Derived.Test.YtomhofppcogojaaPs1
import Derived.Test.YtomhofppcogojaaPs3
import Derived.Test.YtomhofppcogojaaPs7
import Derived.Test.YtomhofppcogojaaPs9
import Derived.Test.YtomhofppcogojaaPs10
import Derived.LoopTactic
import Derived.Deep.CutBlock
import Derived.Deep.CutRange
import Derived.BigQuiet
import Derived.Lib.QuietBelow
import Derived.Deep.MidRow

set_option linter.unusedSimpArgs false
set_option linter.unusedVariables false
set_option linter.deprecated false
set_option linter.unusedSectionVars false
set_option linter.all false

/- the walk of the law SlotCrashes: whatever comes in, it answers true and turns nothing that was there. -/
namespace Go.Proofs.Ytomhofppcogojaa
open Go.RowKit

theorem toT1 {B : Nat} {w : World} {K D P X : Res} (h : Has B (K.star (D.star (P.star X))) w) : Has B (D.star (P.star (K.star X))) w :=
  (h.sw.map2 (fun _ q => Res.star_assoc q)).map2 (fun _ q => Res.star_mapR (fun _ q => Res.star_comm q) q)
theorem build_cs (A : Option Addr) (m c : Nat) (t : Bool) (x : Int) : Try.prog.built 52 [(0, .slice A m c), (1, .bool t), (2, .int .i64 x)] = some #[.slice A m c, .bool t, .int .i64 x] := by
  kernel_rfl

set_option maxRecDepth 100000 in
set_option maxHeartbeats 80000000 in
theorem slotCrashes_walk (A : Option Addr) (n c : Nat) (cs : List Svd) (w : World) (h : Sds w A n c cs) :
    Calls Try.prog 5 #[.slice A n c] w (Ret (.bool true) w) := by
  obtain ⟨i0, hi, hz0, hz1, hz2⟩ := info_parts info_int
  have hcap := h.cap
  have hmax := h.max
  unfold maxLen at hmax
  have HX := Lib.hid h
  clear h
  by_cases hlong : 40 < n
  · go_enter Try.func5, Try.ntmps5
    go_wp2_with fail
    refine (awake11_any _).mono ?_
    rintro e w1 ⟨rfl, b1⟩
    have B1 := Lib.hid b1
    clear b1
    go_wp2_with fail
    go_ret
    exact ⟨rfl, B1.out⟩
  have CN := Lib.hid (hasD_new (Has.emp w.heap.size w) (Nat.le_refl w.heap.size) 8 (by omega))
  go_enter Try.func5, Try.ntmps5
  go_wp2_with fail
  refine CN.out.mono ?_
  rintro e w1 ⟨b, rfl, h1, b1⟩
  obtain ⟨q5, hq5⟩ : ∃ q, w1.heap.size = q := ⟨_, rfl⟩
  obtain ⟨W1, hW1⟩ : ∃ W, W = (w1.alloc (.cells #[.int .i64 0, .slice none 0 0, .int .i64 0, .slice none 0 0, .int .i64 0, .slice none 0 0] 48)).alloc (.cells #[.int .i64 0, .int .i64 0, .int .i64 0] 49) := ⟨_, rfl⟩
  have R0 : Hid (Has w.heap.size ((dsk b (St.new 8)).star ((pgs q5 (fun i => (vr0 : Vr).pg)).star ((trs (q5 + 1) (fun _ => vr0.turn)).star emp))) W1 ∧ Below w.heap.size w W1) := Lib.hid (by
    have g1 := (pgs_new h1 b1.size).swap
    have g2 := blkR_new 49 #[.int .i64 0, .int .i64 0, .int .i64 0] g1 (by simp; have := b1.size; omega)
    rw [World.size_alloc, hq5] at g2
    rw [hW1]
    exact ⟨toT1 g2, (b1.alloc b1.size _).alloc (by simp; have := b1.size; omega) _⟩)
  have HQ5 := Lib.hid hq5
  have HW1 := Lib.hid hW1
  have HNP : Hid (∀ i : Nat, i < 3 → (fun _ : Nat => vr0) i = pairV (St.new 8).syn (2 + 2 * i)) := Lib.hid (fun i _ => by
    show vr0 = loadV zeros zeros
    unfold loadV
    rw [verP_zeros, verP_zeros, if_neg (by omega)])
  clear h1 b1 CN hq5 hW1
  go_wp2_with fail
  rw [← HW1.out, HQ5.out]
  clear HW1 HQ5
  obtain ⟨q6, hq6⟩ : ∃ q, q5 + 1 = q := ⟨_, rfl⟩
  rw [hq6] at R0 ⊢
  clear hq6
  go_loopw [3, 7] (fun d i wr => ∃ (k b : Nat) (s : St) (O : Nat → Vr) (X : Res), k ≤ n ∧ d = .pointer (some ⟨b, 0, none⟩) ∧ i = .int .i64 (k : Nat) ∧ Sld 8 s k ∧ (∀ i : Nat, i < 3 → O i = pairV s.syn (2 + 2 * i)) ∧ (∀ i : Nat, i < 3 → (O i).turn ≤ (k : Int)) ∧ Has w.heap.size ((dsk b s).star ((pgs q5 (fun i => (O i).pg)).star ((trs q6 (fun i => (O i).turn)).star X))) wr ∧ Below w.heap.size w wr) (fun _ i _ => n - (intOf i).toNat)
  case atStart => exact ⟨0, b, _, _, emp, Nat.zero_le _, rfl, rfl, Sld.start 8, HNP.out, fun i _ => Int.le_refl 0, R0.out⟩
  case round =>
    obtain ⟨k, b, s, O, X, hkn, rfl, rfl, hsl, hol, hot, hs, hb⟩ := hrel
    have HSL := Lib.hid hsl
    have HOL := Lib.hid hol
    have HOT := Lib.hid hot
    have HS := Lib.hid hs
    have HB := Lib.hid hb
    have HOKS := Lib.hid (hasD_ok hs)
    clear hsl hol hot hs hb R0 HNP
    by_cases hlt : k < n
    · obtain ⟨qd, off, rfl, hc⟩ := HX.out.at_ (by omega)
      have hin := HX.out.each k hlt
      obtain ⟨cl, hcl⟩ : ∃ cl, cs.getD k default = cl := ⟨_, rfl⟩
      have hc0 := hc k hlt
      rw [hcl] at hin hc0
      have X0 : ∀ j v, cl.cells[j]? = some v → wr.cell? ⟨qd, off + k * 7 + j, none⟩ = some v := fun j v hv => (HB.out.cell (World.block_lt_of_cell? w _ (hc0 j v hv))).trans (hc0 j v hv)
      have x0 : wr.cell? ⟨qd, off + k * 7, none⟩ = some (.int .i64 cl.n) := X0 0 _ rfl
      have x1 : wr.cell? ⟨qd, off + k * 7 + 1, none⟩ = some (.int .i64 cl.pg.lsn) := X0 1 _ rfl
      have x2 : wr.cell? ⟨qd, off + k * 7 + 2, none⟩ = some (.slice cl.pg.A cl.pg.n cl.pg.c) := X0 2 _ rfl
      have x3 : wr.cell? ⟨qd, off + k * 7 + 3, none⟩ = some (.int .i64 cl.fuse) := X0 3 _ rfl
      have x4 : wr.cell? ⟨qd, off + k * 7 + 4, none⟩ = some (.slice cl.kA cl.kn cl.kc) := X0 4 _ rfl
      have x5 : wr.cell? ⟨qd, off + k * 7 + 5, none⟩ = some (.bool cl.crs.torn) := X0 5 _ rfl
      have x6 : wr.cell? ⟨qd, off + k * 7 + 6, none⟩ = some (.int .i64 cl.crs.cut) := X0 6 _ rfl
      have HINW := Lib.hid hin
      have hk0 : (0 : Int) ≤ (k : Int) := Int.natCast_nonneg _
      have hk1 : (k : Int) < (n : Int) := by omega
      have hkc := hin.keep.cap
      have hkm := hin.keep.max
      unfold maxLen at hkm
      have hfu := hin.fuse
      have hpf := hin.pcs.flt.cap
      have hpm := hin.pcs.flt.max
      unfold maxLen at hpm
      clear hc hc0 hin X0 hcl
      obtain ⟨cn, hcn⟩ : ∃ x, cl.n = x := ⟨_, rfl⟩
      obtain ⟨⟨pl, pA, pn, pc, pll⟩, hpg⟩ : ∃ x, cl.pg = x := ⟨_, rfl⟩
      obtain ⟨fu, hfu'⟩ : ∃ x, cl.fuse = x := ⟨_, rfl⟩
      obtain ⟨tn, htn⟩ : ∃ x, cl.crs.torn = x := ⟨_, rfl⟩
      obtain ⟨ct, hct⟩ : ∃ x, cl.crs.cut = x := ⟨_, rfl⟩
      have HCR : Hid (cl.crs.torn = tn ∧ cl.crs.cut = ct) := Lib.hid ⟨htn, hct⟩
      have HPC : Hid (Pcs w pA pn pc pll) := Lib.hid (by have := HINW.out.pcs; rw [hpg] at this; exact this)
      rw [hcn] at x0
      rw [hpg] at x1 x2 hpf hpm
      rw [hfu'] at x3 hfu
      rw [htn] at x5
      rw [hct] at x6
      simp only at x1 x2 hpf hpm
      clear hcn hpg hfu' htn hct
      obtain ⟨qx, hqx⟩ : ∃ x, wr.heap.size = x := ⟨_, rfl⟩
      obtain ⟨W1, hW1⟩ : ∃ W, W = wr.alloc (.cells #[.int .i64 cn, .int .i64 pl, .slice pA pn pc, .int .i64 fu, .slice cl.kA cl.kn cl.kc, .bool tn, .int .i64 ct] 54) := ⟨_, rfl⟩
      have bw1 : Below wr.heap.size wr W1 := by rw [hW1]; exact (Below.refl _ _).alloc (Nat.le_refl _) _
      have H1 : Hid (Has w.heap.size ((dsk b s).star ((pgs q5 (fun i => (O i).pg)).star ((trs q6 (fun i => (O i).turn)).star (X.star (blkR qx 54 #[.int .i64 cn, .int .i64 pl, .slice pA pn pc, .int .i64 fu, .slice cl.kA cl.kn cl.kc, .bool tn, .int .i64 ct]))))) W1) := Lib.hid (by
        have q1 := toK (blkR_new 54 #[.int .i64 cn, .int .i64 pl, .slice pA pn pc, .int .i64 fu, .slice cl.kA cl.kn cl.kc, .bool tn, .int .i64 ct] HS.out HB.out.size)
        rw [hqx] at q1
        rw [hW1]
        exact q1)
      have B1 := Lib.hid (HB.out.trans (bw1.mono HB.out.size))
      have HW1 := Lib.hid hW1
      have HQX := Lib.hid hqx
      clear HS HB bw1 hW1 hqx
      go_upto_region 10 with fail
      rw [← HW1.out, HQX.out]
      clear HW1 HQX x0 x1 x2 x3 x4 x5 x6
      have KX : Hid (∀ W b' s' H T, Has w.heap.size ((dsk b' s').star ((pgs q5 H).star ((trs q6 T).star (X.star (blkR qx 54 #[.int .i64 cn, .int .i64 pl, .slice pA pn pc, .int .i64 fu, .slice cl.kA cl.kn cl.kc, .bool tn, .int .i64 ct]))))) W → Bk W qx 54 #[.int .i64 cn, .int .i64 pl, .slice pA pn pc, .int .i64 fu, .slice cl.kA cl.kn cl.kc, .bool tn, .int .i64 ct]) := Lib.hid (fun W b' s' H T h => bk_of h.snd.snd.snd.snd)
      have kx := KX.out _ _ _ _ _ H1.out
      have y0 : W1.cell? ⟨qx, 0, none⟩ = some (.int .i64 cn) := kx.cell 0
      have y1 : W1.cell? ⟨qx, 1, none⟩ = some (.int .i64 pl) := kx.cell 1
      have y2 : W1.cell? ⟨qx, 2, none⟩ = some (.slice pA pn pc) := kx.cell 2
      have y4 : W1.cell? ⟨qx, 4, none⟩ = some (.slice cl.kA cl.kn cl.kc) := kx.cell 4
      clear kx
      by_cases g1 : cn < 0
      · clear y1 y2 y4
        go_wp2_with fail
        go_roundw
        case rel => exact ⟨k + 1, b, s, O, _, by omega, rfl, by go_num, HSL.out.mono (by omega), HOL.out, by intro i hi; have := HOT.out i hi; omega, (H1.out.below (Below.refl _ _)), B1.out⟩
        case measure => simp [intOf]; omega
      by_cases g2 : 2 < cn
      · clear y1 y2 y4
        go_wp2_with fail
        go_roundw
        case rel => exact ⟨k + 1, b, s, O, _, by omega, rfl, by go_num, HSL.out.mono (by omega), HOL.out, by intro i hi; have := HOT.out i hi; omega, (H1.out.below (Below.refl _ _)), B1.out⟩
        case measure => simp [intOf]; omega
      have CG := Lib.hid (greatPg_any pl pA pn pc pll W1 (HPC.out.below B1.out))
      obtain ⟨nn, rfl⟩ := Int.eq_ofNat_of_zero_le (show 0 ≤ cn by omega)
      have hnn : nn < 3 := by omega
      go_wp2_with fail
      refine CG.out.mono ?_
      rintro e W2 ⟨gr, rfl, hfew, b2⟩
      have HF := Lib.hid hfew
      have H2 := Lib.hid (H1.out.below b2)
      have B2 := Lib.hid (B1.out.trans (b2.mono B1.out.size))
      clear hfew b2 CG H1 B1 y0 y1 y2 y4
      cases gr with
      | true =>
        go_wp2_with fail
        go_roundw
        case rel => exact ⟨k + 1, b, s, O, _, by omega, rfl, by go_num, HSL.out.mono (by omega), HOL.out, by intro i hi; have := HOT.out i hi; omega, H2.out, B2.out⟩
        case measure => simp [intOf]; omega
      | false =>
        have hp20 : pn ≤ 20 := by rw [← HPC.out.len]; exact (HF.out rfl).1
        have CM := may10_any pl pA pn pc pll W2 (HPC.out.below B2.out)
        have kx := KX.out _ _ _ _ _ H2.out
        have y1 : W2.cell? ⟨qx, 1, none⟩ = some (.int .i64 pl) := kx.cell 1
        have y2 : W2.cell? ⟨qx, 2, none⟩ = some (.slice pA pn pc) := kx.cell 2
        clear kx
        by_cases hpo : (⟨pl, pll⟩ : Pg).ok
        rotate_left
        · rw [decide_eq_false hpo] at CM
          have CM := Lib.hid CM
          clear hpo
          go_wp2_with fail
          refine CM.out.mono ?_
          rintro e W3 ⟨rfl, b3⟩
          have H3 := Lib.hid (H2.out.below b3)
          have B3 := Lib.hid (B2.out.trans (b3.mono B2.out.size))
          clear b3 CM H2 B2 y1 y2
          go_wp2_with fail
          go_roundw
          case rel => exact ⟨k + 1, b, s, O, _, by omega, rfl, by go_num, HSL.out.mono (by omega), HOL.out, by intro i hi; have := HOT.out i hi; omega, H3.out, B3.out⟩
          case measure => simp [intOf]; omega
        rw [decide_eq_true hpo] at CM
        have CM := Lib.hid CM
        have HPO := Lib.hid hpo
        clear hpo
        go_wp2_with fail
        refine CM.out.mono ?_
        rintro e W3 ⟨rfl, b3⟩
        have H3 := Lib.hid (H2.out.below b3)
        have B3 := Lib.hid (B2.out.trans (b3.mono B2.out.size))
        clear b3 CM H2 B2 y1 y2
        have kx := KX.out _ _ _ _ _ H3.out
        have y4 : W3.cell? ⟨qx, 4, none⟩ = some (.slice cl.kA cl.kn cl.kc) := kx.cell 4
        have y3 : W3.cell? ⟨qx, 3, none⟩ = some (.int .i64 fu) := kx.cell 3
        clear kx
        by_cases g4 : 10 < cl.kn
        · clear y3
          go_wp2_with fail
          go_roundw
          case rel => exact ⟨k + 1, b, s, O, _, by omega, rfl, by go_num, HSL.out.mono (by omega), HOL.out, by intro i hi; have := HOT.out i hi; omega, H3.out, B3.out⟩
          case measure => simp [intOf]; omega
        have CF := Lib.hid (hasD_fuse H3.out B3.out.size fu (by omega))
        go_wp2_with fail
        refine CF.out.mono ?_
        rintro e W4 ⟨rfl, h4, b4⟩
        have H4 := Lib.hid h4
        have B4 := Lib.hid (B3.out.trans b4)
        clear h4 b4 CF H3 B3 y3 y4
        obtain ⟨tt, htt⟩ : ∃ x, (O nn).turn = x := ⟨_, rfl⟩
        have htb : 0 ≤ tt ∧ tt ≤ (k : Int) := ⟨by rw [← htt, HOL.out nn hnn]; exact (pairV_turn _ _).1, by rw [← htt]; exact HOT.out nn hnn⟩
        have OUT := outc HSL.out HOKS.out hnn (t := tt + 1) (p := ⟨pl, pll⟩) (by rw [← htt, HOL.out nn hnn]) (by omega) HPO.out fu
        obtain ⟨er, her⟩ : ∃ x, slE (s.fuse fu) 2 nn (tt + 1) ⟨pl, pll⟩ = x := ⟨_, rfl⟩
        obtain ⟨S, hS⟩ : ∃ x, slS (s.fuse fu) 2 nn (tt + 1) ⟨pl, pll⟩ = x := ⟨_, rfl⟩
        rw [her, hS] at OUT
        have OUT := Lib.hid OUT
        have KS : Hid (∀ W, Below W4.heap.size W4 W → W.cell? ⟨qx, 0, none⟩ = some (.int .i64 (nn : Int)) ∧ W.cell? ⟨qx, 1, none⟩ = some (.int .i64 pl) ∧ W.cell? ⟨qx, 2, none⟩ = some (.slice pA pn pc) ∧ W.cell? ⟨q6, nn, none⟩ = some (.int .i64 tt)) := Lib.hid (fun W hb => by
          have hz := KX.out _ _ _ _ _ (H4.out.below hb)
          have ht := trs_cell (H4.out.below hb).snd.snd.fst nn hnn
          rw [htt] at ht
          exact ⟨hz.cell 0, hz.cell 1, hz.cell 2, ht⟩)
        have hS0 := KS.out W4.drew (Below.refl _ _).drew
        have CC : Hid (∀ W, Below W4.heap.size W4 W → Calls Try.prog 11 #[pgV pl pA pn pc] W (RetPg1 pl pll W)) := Lib.hid (fun W hb => copy_any pl pA pn pc pll W (HPC.out.below (B4.out.trans (hb.mono B4.out.size))) (by omega))
        have CS : Hid (∀ W A' n' c', Below W4.heap.size W4 W → Pcs W A' n' c' pll → Calls Try.prog 10 #[.pointer (some ⟨b, 0, none⟩), .int .i64 2, .int .i64 (nn : Int), .int .i64 (tt + 1), pgV pl A' n' c'] W (RetHas (.int .i64 er) w.heap.size ((dsk b S).star ((pgs q5 (fun i => (O i).pg)).star ((trs q6 (fun i => (O i).turn)).star (X.star (blkR qx 54 #[.int .i64 (nn : Int), .int .i64 pl, .slice pA pn pc, .int .i64 fu, .slice cl.kA cl.kn cl.kc, .bool tn, .int .i64 ct]))))) W)) := Lib.hid (fun W A' n' c' hb hy => by
          have := slSave_any (H4.out.below hb) (Nat.le_trans B4.out.size hb.size) 2 nn (tt + 1) pl A' n' c' pll hy (by show s.pend.length < _; rw [HSL.out.pend]; simp) (by show s.syncs < _; have := HSL.out.syncs; omega)
          rw [her, hS] at this
          exact this)
        have HTT := Lib.hid htt
        clear her hS htt
        have hix : (nn : Int) < 3 := by omega
        go_wp2_with fail
        refine wp_region_noPanic ?_
        refine upto_start (fun w' => w'.cell? ⟨qx, 0, none⟩ = some (.int .i64 (nn : Int)) ∧ w'.cell? ⟨qx, 1, none⟩ = some (.int .i64 pl) ∧ w'.cell? ⟨qx, 2, none⟩ = some (.slice pA pn pc) ∧ w'.cell? ⟨q6, nn, none⟩ = some (.int .i64 tt)) 11 (by kernel_rfl) ?_
        change Upto _ _ _ _ _ 13 _ _ _
        refine Upto.take (i := 0) (v := ?_) rfl (by kernel_rfl) (fun _ _ _ h => h) rfl (fun w' hS => ?_) hS0 ?_
        rotate_left
        · (try dsimp only at hS)
          go_split_ands
          go_simp
          (try with_reducible rfl)
        simp only [Act.put, List.setIfInBounds_toArray, List.set_cons_zero, List.set_cons_succ]
        refine Upto.take (i := 1) (v := ?_) rfl (by kernel_rfl) (fun _ _ _ h => h) rfl (fun w' hS => ?_) hS0 ?_
        rotate_left
        · (try dsimp only at hS)
          go_split_ands
          go_simp
          (try with_reducible rfl)
        simp only [Act.put, List.setIfInBounds_toArray, List.set_cons_zero, List.set_cons_succ]
        refine Upto.take (i := 2) (v := ?_) rfl (by kernel_rfl) (fun _ _ _ h => h) rfl (fun w' hS => ?_) hS0 ?_
        rotate_left
        · (try dsimp only at hS)
          go_split_ands
          go_simp
          (try with_reducible rfl)
        simp only [Act.put, List.setIfInBounds_toArray, List.set_cons_zero, List.set_cons_succ]
        refine Upto.take (i := 3) (v := ?_) rfl (by kernel_rfl) (fun _ _ _ h => h) rfl (fun w' hS => ?_) hS0 ?_
        rotate_left
        · (try dsimp only at hS)
          go_split_ands
          go_simp
          (try with_reducible rfl)
        simp only [Act.put, List.setIfInBounds_toArray, List.set_cons_zero, List.set_cons_succ]
        refine Upto.take (i := 4) (v := ?_) rfl (by kernel_rfl) (fun _ _ _ h => h) rfl (fun w' hS => ?_) hS0 ?_
        rotate_left
        · (try dsimp only at hS)
          go_split_ands
          go_simp
          (try with_reducible rfl)
        simp only [Act.put, List.setIfInBounds_toArray, List.set_cons_zero, List.set_cons_succ]
        refine Upto.take (i := 5) (v := ?_) rfl (by kernel_rfl) (fun _ _ _ h => h) rfl (fun w' hS => ?_) hS0 ?_
        rotate_left
        · (try dsimp only at hS)
          go_split_ands
          go_simp
          (try with_reducible rfl)
        simp only [Act.put, List.setIfInBounds_toArray, List.set_cons_zero, List.set_cons_succ]
        refine Upto.take (i := 6) (v := ?_) rfl (by kernel_rfl) (fun _ _ _ h => h) rfl (fun w' hS => ?_) hS0 ?_
        rotate_left
        · (try dsimp only at hS)
          go_split_ands
          go_simp
          (try with_reducible rfl)
        simp only [Act.put, List.setIfInBounds_toArray, List.set_cons_zero, List.set_cons_succ]
        refine Upto.take (i := 7) (v := ?_) rfl (by kernel_rfl) (fun _ _ _ h => h) rfl (fun w' hS => ?_) hS0 ?_
        rotate_left
        · (try dsimp only at hS)
          go_split_ands
          go_simp
          (try with_reducible rfl)
        simp only [Act.put, List.setIfInBounds_toArray, List.set_cons_zero, List.set_cons_succ]
        refine Upto.take (i := 8) (v := ?_) rfl (by kernel_rfl) (fun _ _ _ h => h) rfl (fun w' hS => ?_) hS0 ?_
        rotate_left
        · (try dsimp only at hS)
          go_split_ands
          go_simp
          (try with_reducible rfl)
        simp only [Act.put, List.setIfInBounds_toArray, List.set_cons_zero, List.set_cons_succ]
        refine Upto.take (i := 9) (v := ?_) rfl (by kernel_rfl) (fun _ _ _ h => h) rfl (fun w' hS => ?_) hS0 ?_
        rotate_left
        · (try dsimp only at hS)
          go_split_ands
          go_simp
          (try with_reducible rfl)
        simp only [Act.put, List.setIfInBounds_toArray, List.set_cons_zero, List.set_cons_succ]
        refine Upto.law (i := 10) rfl (by kernel_rfl) rfl (fun K hK => ?_)
        refine wp_enter (f := 11) (args := #[pgV pl pA pn pc]) (by go_simp) (CC.out _ (Below.refl _ _).drew) ?_
        rintro e W5 ⟨A5, n5, c5, rfl, ho5, b5⟩
        have b5' : Below W4.heap.size W4 W5 := by
          have q := (Below.refl W4.heap.size W4).drew
          exact q.trans (b5.mono q.size)
        refine ⟨_, rfl, hK _ _ (KS.out _ b5') ?_⟩
        clear hK
        have CS5 := Lib.hid (CS.out W5 A5 n5 c5 b5' ho5.pcs)
        have B5 := Lib.hid (B4.out.trans (b5'.mono B4.out.size))
        clear ho5 b5 b5' KS CC CS hS0 H4 B4
        simp only [Act.put, List.setIfInBounds_toArray, List.set_cons_zero, List.set_cons_succ]
        refine Upto.tail rfl (by kernel_rfl) ?_
        simp only [List.drop_succ_cons, List.drop_zero]
        go_wp2_with fail
        refine CS5.out.mono ?_
        rintro e W6 ⟨rfl, h6, b6⟩
        have H6 := Lib.hid h6
        have B6 := Lib.hid (B5.out.trans b6)
        clear h6 b6 CS5 B5
        go_wp2_with fail
        refine NoPanic.normal ?_
        go_upto_region 13 with fail
        obtain ⟨cr, hcr⟩ : ∃ x, decide (er = 40 ∨ 0 ≤ fu) = x := ⟨_, rfl⟩
        have HCRB := Lib.hid hcr
        clear hcr
        go_cut [86] from 74 to 86 (fun v wx => v = .bool false ∧ wx = W6)
        case first =>
          have CD := hasD_down H6.out
          rw [OUT.out.gone] at CD
          by_cases he : er = 0
          · subst he
            have CDH : Hid (Calls Try.prog 22 #[.pointer (some ⟨b, 0, none⟩)] W6 (Same (.bool false) W6)) := Lib.hid CD
            clear CD
            go_wp2_with fail
            refine CDH.out.mono ?_
            rintro e W7 ⟨rfl, rfl⟩
            clear CDH
            go_wp2_with fail
            go_meet
            case rel => exact ⟨rfl, rfl⟩
          · have he4 : er = 40 := by rcases OUT.out.two with q | q; exact absurd q he; exact q
            subst he4
            have CDH : Hid (Calls Try.prog 22 #[.pointer (some ⟨b, 0, none⟩)] W6 (Same (.bool true) W6)) := Lib.hid CD
            clear he CD
            go_wp2_with fail
            refine CDH.out.mono ?_
            rintro e W7 ⟨rfl, rfl⟩
            clear CDH
            go_wp2_with fail
            go_meet
            case rel => exact ⟨rfl, rfl⟩
        obtain ⟨rfl, hwc⟩ := hcut
        rw [hwc]
        clear hwc
        go_upto_region 15 with fail
        go_cut [93] from 87 to 93 (fun v wx => v = .bool cr ∧ wx = W6)
        case first =>
          have y3 : W6.cell? ⟨qx, 3, none⟩ = some (.int .i64 fu) := (KX.out _ _ _ _ _ H6.out).cell 3
          by_cases he : er = 0
          · by_cases hf : 0 ≤ fu
            · obtain rfl : cr = true := HCRB.out.symm.trans (decide_eq_true (.inr hf))
              subst he
              go_wp2_with fail
              go_meet
              case rel => exact ⟨rfl, rfl⟩
            · obtain rfl : cr = false := HCRB.out.symm.trans (decide_eq_false (by omega))
              subst he
              go_wp2_with fail
              go_meet
              case rel => exact ⟨rfl, rfl⟩
          · have he4 : er = 40 := by rcases OUT.out.two with q | q; exact absurd q he; exact q
            obtain rfl : cr = true := HCRB.out.symm.trans (decide_eq_true (.inl he4))
            subst he4
            clear he
            go_wp2_with fail
            go_meet
            case rel => exact ⟨rfl, rfl⟩
        obtain ⟨rfl, hwc⟩ := hcut
        rw [hwc]
        clear hwc
        (try go_upto_if 93 with fail)
        go_cut [3] from 94 to 107 (fun d wx => ∃ (b' : Nat) (S' : St), d = .pointer (some ⟨b', 0, none⟩) ∧ Sld 8 S' (k + 1) ∧ NewV s.syn S'.syn nn (tt + 1) ⟨pl, pll⟩ (decide (er = 0)) ∧ Has w.heap.size ((dsk b' S').star ((pgs q5 (fun i => (O i).pg)).star ((trs q6 (fun i => (O i).turn)).star (X.star (blkR qx 54 #[.int .i64 (nn : Int), .int .i64 pl, .slice pA pn pc, .int .i64 fu, .slice cl.kA cl.kn cl.kc, .bool tn, .int .i64 ct]))))) wx ∧ Below w.heap.size w wx)
        case first =>
          have CRASH : Hid (∀ W A' c', Has w.heap.size ((dsk b S).star ((pgs q5 (fun i => (O i).pg)).star ((trs q6 (fun i => (O i).turn)).star (X.star (blkR qx 54 #[.int .i64 (nn : Int), .int .i64 pl, .slice pA pn pc, .int .i64 fu, .slice cl.kA cl.kn cl.kc, .bool tn, .int .i64 ct]))))) W → w.heap.size ≤ W.heap.size → Nts W A' cl.kn c' cl.crs.keep → Calls Try.prog 23 #[.pointer (some ⟨b, 0, none⟩), .agg #[.slice A' cl.kn c', .bool tn, .int .i64 ct]] W (RetNewHas (S.crash cl.crs) w.heap.size ((pgs q5 (fun i => (O i).pg)).star ((trs q6 (fun i => (O i).turn)).star (X.star (blkR qx 54 #[.int .i64 (nn : Int), .int .i64 pl, .slice pA pn pc, .int .i64 fu, .slice cl.kA cl.kn cl.kc, .bool tn, .int .i64 ct])))) W)) := Lib.hid (fun W A' c' h hs hk => by
            have := hasD_crash h h.snd hs A' cl.kn c' cl.crs hk HINW.out.cut
            unfold crsV at this
            rw [HCR.out.1, HCR.out.2] at this
            exact this)
          have KS : Hid (∀ W, Below W6.heap.size W6 W → W.cell? ⟨qx, 4, none⟩ = some (.slice cl.kA cl.kn cl.kc) ∧ W.cell? ⟨qx, 5, none⟩ = some (.bool tn) ∧ W.cell? ⟨qx, 6, none⟩ = some (.int .i64 ct)) := Lib.hid (fun W hb => by
            have hz := KX.out _ _ _ _ _ (H6.out.below hb)
            exact ⟨hz.cell 4, hz.cell 5, hz.cell 6⟩)
          have HKN : Hid (∀ W, Below W6.heap.size W6 W → Nts W cl.kA cl.kn cl.kc cl.crs.keep) := Lib.hid (fun W hb => HINW.out.keep.below (B6.out.trans (hb.mono B6.out.size)))
          cases cr with
          | true =>
            have hf : 0 ≤ fu := by
              refine Classical.byContradiction fun q => ?_
              have h0 := (OUT.out.neg (by omega)).1
              have h1 := of_decide_eq_true HCRB.out
              omega
            have PS := Lib.hid (OUT.out.pos hf cl.crs)
            clear hf
            have hS0 := KS.out W6.drew (Below.refl _ _).drew
            go_wp2_with fail
            refine wp_region_noPanic ?_
            refine upto_start (fun w' => w'.cell? ⟨qx, 4, none⟩ = some (.slice cl.kA cl.kn cl.kc) ∧ w'.cell? ⟨qx, 5, none⟩ = some (.bool tn) ∧ w'.cell? ⟨qx, 6, none⟩ = some (.int .i64 ct)) 13 (by kernel_rfl) ?_
            change Upto _ _ _ _ _ 15 _ _ _
            refine Upto.take (i := 0) (v := ?_) rfl (by kernel_rfl) (fun _ _ _ h => h) rfl (fun w' hS => ?_) hS0 ?_
            rotate_left
            · (try dsimp only at hS)
              go_split_ands
              go_simp
              (try with_reducible rfl)
            simp only [Act.put, List.setIfInBounds_toArray, List.set_cons_zero, List.set_cons_succ]
            refine Upto.take (i := 2) (v := ?_) rfl (by kernel_rfl) (fun _ _ _ h => h) rfl (fun w' hS => ?_) hS0 ?_
            rotate_left
            · (try dsimp only at hS)
              go_split_ands
              go_simp
              (try with_reducible rfl)
            simp only [Act.put, List.setIfInBounds_toArray, List.set_cons_zero, List.set_cons_succ]
            refine Upto.take (i := 3) (v := ?_) rfl (by kernel_rfl) (fun _ _ _ h => h) rfl (fun w' hS => ?_) hS0 ?_
            rotate_left
            · (try dsimp only at hS)
              go_split_ands
              go_simp
              (try with_reducible rfl)
            simp only [Act.put, List.setIfInBounds_toArray, List.set_cons_zero, List.set_cons_succ]
            refine Upto.take (i := 4) (v := ?_) rfl (by kernel_rfl) (fun _ _ _ h => h) rfl (fun w' hS => ?_) hS0 ?_
            rotate_left
            · (try dsimp only at hS)
              go_split_ands
              go_simp
              (try with_reducible rfl)
            simp only [Act.put, List.setIfInBounds_toArray, List.set_cons_zero, List.set_cons_succ]
            refine Upto.take (i := 6) (v := ?_) rfl (by kernel_rfl) (fun _ _ _ h => h) rfl (fun w' hS => ?_) hS0 ?_
            rotate_left
            · (try dsimp only at hS)
              go_split_ands
              go_simp
              (try with_reducible rfl)
            simp only [Act.put, List.setIfInBounds_toArray, List.set_cons_zero, List.set_cons_succ]
            refine Upto.take (i := 7) (v := ?_) rfl (by kernel_rfl) (fun _ _ _ h => h) rfl (fun w' hS => ?_) hS0 ?_
            rotate_left
            · (try dsimp only at hS)
              go_split_ands
              go_simp
              (try with_reducible rfl)
            simp only [Act.put, List.setIfInBounds_toArray, List.set_cons_zero, List.set_cons_succ]
            refine Upto.take (i := 8) (v := ?_) rfl (by kernel_rfl) (fun _ _ _ h => h) rfl (fun w' hS => ?_) hS0 ?_
            rotate_left
            · (try dsimp only at hS)
              go_split_ands
              go_simp
              (try with_reducible rfl)
            simp only [Act.put, List.setIfInBounds_toArray, List.set_cons_zero, List.set_cons_succ]
            refine Upto.take (i := 9) (v := ?_) rfl (by kernel_rfl) (fun _ _ _ h => h) rfl (fun w' hS => ?_) hS0 ?_
            rotate_left
            · (try dsimp only at hS)
              go_split_ands
              go_simp
              (try with_reducible rfl)
            simp only [Act.put, List.setIfInBounds_toArray, List.set_cons_zero, List.set_cons_succ]
            refine Upto.take (i := 10) (v := ?_) rfl (by kernel_rfl) (fun _ _ _ h => h) rfl (fun w' hS => ?_) hS0 ?_
            rotate_left
            · (try dsimp only at hS)
              go_split_ands
              go_simp
              (try with_reducible rfl)
            simp only [Act.put, List.setIfInBounds_toArray, List.set_cons_zero, List.set_cons_succ]
            refine Upto.take (i := 11) (v := ?_) rfl (by kernel_rfl) (fun _ _ _ h => h) rfl (fun w' hS => ?_) hS0 ?_
            rotate_left
            · (try dsimp only at hS)
              go_split_ands
              go_simp
              (try with_reducible rfl)
            simp only [Act.put, List.setIfInBounds_toArray, List.set_cons_zero, List.set_cons_succ]
            refine Upto.only (i := 1) rfl (by kernel_rfl) rfl (exec_buildSlice rfl [] (by rfl) (bslice_noints _)) ?_ ?_
            · exact KS.out _ ((Below.refl _ W6).drew.alloc (Nat.le_refl _) _)
            simp only [Act.put, List.setIfInBounds_toArray, List.set_cons_zero, List.set_cons_succ]
            have hown0 := World.ownsRow_made (base := W6.heap.size) (e := 3) (size := 1) W6.drew #[] 0 (Nat.le_refl _) (Nat.zero_le _) rfl
            have hbA : Below W6.heap.size W6 (W6.drew.alloc (.cells #[] 3)) := (Below.refl _ W6).drew.alloc (Nat.le_refl _) _
            refine Upto.law (i := 5) rfl (by kernel_rfl) rfl (fun K hK => ?_)
            refine wp_append_nts _ _ 50 (by rfl) W6.heap.size 3 i0 Try.underlying50 hi hz0 hz1 hz2 _ 0 [] (by rfl) hown0 cl.kA cl.kn cl.kc cl.crs.keep (by rfl) (HKN.out _ hbA) (by omega) hbA.size ?_
            intro vA vcc W8 hv5 hg5
            have hb5 : Below W6.heap.size W6 W8 := hbA.grown hg5 hbA.size (fun k hk => by simp [Value.ownBlock] at hk; omega)
            refine hK _ _ (KS.out _ hb5) ?_
            clear hK hown0 hg5
            have hv5' : W8.ownsRow W6.heap.size 3 1 (.slice vA cl.kn vcc) cl.kn (cl.crs.keep.map (Value.int .i64)) := by simpa using hv5
            have hn5 : Nts W8 vA cl.kn vcc cl.crs.keep := Nts.of_row hv5' HINW.out.keep.len HINW.out.keep.rng
            have B8 := Lib.hid (B6.out.trans (hb5.mono B6.out.size))
            have CC := Lib.hid (CRASH.out W8 vA vcc (H6.out.below hb5) B8.out.size hn5)
            have HB45 := Lib.hid hb5
            clear hv5 hv5' hn5 hbA hb5 hS0 HKN CRASH
            simp only [Act.put, List.setIfInBounds_toArray, List.set_cons_zero, List.set_cons_succ, Nat.zero_add]
            refine Upto.only (i := 12) rfl (by kernel_rfl) rfl (exec_build rfl [(0, .slice vA cl.kn vcc), (1, .bool tn), (2, .int .i64 ct)] (by rfl) (build_cs _ _ _ _ _)) (KS.out _ HB45.out) ?_
            simp only [Act.put, List.setIfInBounds_toArray, List.set_cons_zero, List.set_cons_succ]
            refine Upto.tail rfl (by kernel_rfl) ?_
            simp only [List.drop_succ_cons, List.drop_zero]
            clear KS HB45
            go_wp2_with fail
            refine CC.out.mono ?_
            rintro e W9 ⟨b', rfl, h9, b9⟩
            have H9 := Lib.hid h9
            have B9 := Lib.hid (B8.out.trans (b9.mono B8.out.size))
            clear h9 b9 CC
            go_wp2_with fail
            refine NoPanic.normal ?_
            go_wp2_with fail
            go_meet
            case rel => exact ⟨b', _, rfl, PS.out.1, PS.out.2, H9.out, B9.out⟩
          | false =>
            have h1 := of_decide_eq_false HCRB.out
            have PS := Lib.hid (OUT.out.neg (by omega))
            have PN : Hid (NewV s.syn S.syn nn (tt + 1) ⟨pl, pll⟩ (decide (er = 0))) := Lib.hid (by rw [decide_eq_true PS.out.1]; exact PS.out.2.2)
            clear KS HKN CRASH h1
            go_wp2_with fail
            go_meet
            case rel => exact ⟨b, S, rfl, PS.out.2.1, PN.out, H6.out, B6.out⟩
        case rest =>
          obtain ⟨b', S', rfl, hsl', hnv, h7, b7⟩ := hcut
          obtain ⟨W7, hW7⟩ : ∃ W, W = wc := ⟨_, rfl⟩
          subst hW7
          have HSL' := Lib.hid hsl'
          have HNV := Lib.hid hnv
          have H7 := Lib.hid h7
          have B7 := Lib.hid b7
          clear hsl' hnv h7 b7 H6 B6
          have HE2 := Lib.hid OUT.out.two
          clear OUT
          have NVM : Hid (∀ i : Nat, i < 3 → (i = nn → pairV S'.syn (2 + 2 * i) = ⟨tt + 1, ⟨pl, pll⟩⟩ ∨ (er ≠ 0 ∧ pairV S'.syn (2 + 2 * i) = O i)) ∧ (i ≠ nn → pairV S'.syn (2 + 2 * i) = O i)) := Lib.hid (fun i hi => by
            refine ⟨fun e => ?_, fun e => (HNV.out.other i hi e).trans (HOL.out i hi).symm⟩
            subst e
            rcases HNV.out.it with q | ⟨q1, q2⟩
            · exact .inl q
            · exact .inr ⟨of_decide_eq_false q1, q2.trans (HOL.out i hi).symm⟩)
          clear HNV
          go_upto_region 17 with fail
          go_wp2_with fail
          go_loopw [10] (fun j wr => ∃ (m : Nat), m ≤ 3 ∧ j = .int .i64 (m : Nat) ∧ Has w.heap.size ((dsk b' S').star ((pgs q5 (fun i => (if i < m then pairV S'.syn (2 + 2 * i) else O i).pg)).star ((trs q6 (fun i => (if i < m then pairV S'.syn (2 + 2 * i) else O i).turn)).star (X.star (blkR qx 54 #[.int .i64 (nn : Int), .int .i64 pl, .slice pA pn pc, .int .i64 fu, .slice cl.kA cl.kn cl.kc, .bool tn, .int .i64 ct]))))) wr ∧ Below w.heap.size w wr) (fun j _ => 3 - (intOf j).toNat)
          case atStart => exact ⟨0, by omega, rfl, by simpa using H7.out, B7.out⟩
          case round =>
            obtain ⟨m, hm, rfl, h8, b8⟩ := hrel
            have H8 := Lib.hid h8
            have B8 := Lib.hid b8
            clear h8 b8
            by_cases hlt3 : m < 3
            rotate_left
            · obtain rfl : m = 3 := by omega
              clear hlt3
              go_wp2_with fail
              go_roundw
              case rel => exact ⟨k + 1, b', S', (fun i => if i < 3 then pairV S'.syn (2 + 2 * i) else O i), _, by omega, rfl, by go_num, HSL'.out, fun i hi => by simp only [if_pos hi], fun i hi => by
                simp only [if_pos hi]
                by_cases e : i = nn
                · rcases (NVM.out i hi).1 e with q | q
                  · rw [q]; show tt + 1 ≤ _; omega
                  · rw [q.2]; have := HOT.out i hi; omega
                · rw [(NVM.out i hi).2 e]; have := HOT.out i hi; omega, H8.out, B8.out⟩
              case measure => simp [intOf]; omega
            have hlt3' : (m : Int) < 3 := by omega
            have ld := HSL'.out.load (base := 2) (n := m) (by omega) (by omega)
            have CL := slLoad_any H8.out 2 m
            obtain ⟨⟨vt, ⟨vl, vc⟩⟩, hv⟩ : ∃ x, pairV S'.syn (2 + 2 * m) = x := ⟨_, rfl⟩
            have ld1 : ldE S'.rErr 2 (m : Int) = 0 := ld.1
            have ld2 : ldV S'.rErr S'.rBytes 2 (m : Int) = ⟨vt, ⟨vl, vc⟩⟩ := ld.2.trans hv
            rw [ld1, ld2] at CL
            have CL := Lib.hid CL
            have HV := Lib.hid hv
            clear ld ld1 ld2 hv
            go_wp2_with fail
            refine CL.out.mono ?_
            rintro e W9 ⟨A9, n9, c9, rfl, ho9, b9⟩
            have ho9 := ho9.pcs
            simp only at ho9
            have HO9 := Lib.hid ho9
            go_upto_region 21 with fail
            obtain ⟨Y, hY⟩ : ∃ x, W9.heap.size = x := ⟨_, rfl⟩
            obtain ⟨Wa, hWa⟩ : ∃ W, W = W9.alloc (.cells #[.int .i64 vl, .slice A9 n9 c9] 24) := ⟨_, rfl⟩
            have hal : Below W9.heap.size W9 Wa := by rw [hWa]; exact (Below.refl _ _).alloc (Nat.le_refl _) _
            have b9a := Below.then b9 hal
            have Ha := Lib.hid (H8.out.below b9a)
            have Ba := Lib.hid (B8.out.trans (b9a.mono B8.out.size))
            have YK : Hid (Bk Wa Y 24 #[.int .i64 vl, .slice A9 n9 c9]) := Lib.hid (by rw [hWa, ← hY]; exact Bk.new _ _ _)
            have VP : Hid (Pcs Wa A9 n9 c9 vc) := Lib.hid (HO9.out.below hal)
            rw [← hWa]
            (try rw [hY])
            clear ho9 b9 CL HO9 hal b9a hWa hY H8 B8
            have kx := KX.out _ _ _ _ _ Ha.out
            have y0 : Wa.cell? ⟨qx, 0, none⟩ = some (.int .i64 (nn : Int)) := kx.cell 0
            have y1 : Wa.cell? ⟨qx, 1, none⟩ = some (.int .i64 pl) := kx.cell 1
            have y2 : Wa.cell? ⟨qx, 2, none⟩ = some (.slice pA pn pc) := kx.cell 2
            have u0 : Wa.cell? ⟨Y, 0, none⟩ = some (.int .i64 vl) := YK.out.cell 0
            have u1 : Wa.cell? ⟨Y, 1, none⟩ = some (.slice A9 n9 c9) := YK.out.cell 1
            have tm : Wa.cell? ⟨q6, m, none⟩ = some (.int .i64 (O m).turn) := by
              have := trs_cell Ha.out.snd.snd.fst m hlt3
              rw [if_neg (by omega)] at this
              exact this
            clear kx
            by_cases hmn : m = nn
            · subst hmn
              rw [HTT.out] at tm
              rcases (NVM.out m hlt3).1 rfl with hnew | ⟨her, hold⟩
              · rw [HV.out] at hnew
                obtain ⟨rfl, rfl, rfl⟩ : vt = tt + 1 ∧ vl = pl ∧ vc = pll := by injection hnew with a b; injection b with b c; exact ⟨a, b, c⟩
                have CS := Lib.hid (samePg_yes vl A9 n9 c9 pA pn pc vc Wa VP.out (HPC.out.below Ba.out))
                clear hnew
                go_wp2_with fail
                refine CS.out.mono ?_
                rintro e Wb ⟨rfl, bb⟩
                have Hb := Lib.hid (Ha.out.below bb)
                have Bb := Lib.hid (Ba.out.trans (bb.mono Ba.out.size))
                have VPb := Lib.hid (VP.out.below bb)
                have YKb := Lib.hid (YK.out.bel bb YK.out.lt)
                clear bb CS y0 y1 y2 u0 u1 tm Ha Ba YK VP
                have u0 : Wb.cell? ⟨Y, 0, none⟩ = some (.int .i64 vl) := YKb.out.cell 0
                have u1 : Wb.cell? ⟨Y, 1, none⟩ = some (.slice A9 n9 c9) := YKb.out.cell 1
                have hn9 : n9 ≤ 20 := by
                  have h1 := VPb.out.len
                  have h2 := HPC.out.len
                  omega
                have CC := Lib.hid (copy_any vl A9 n9 c9 vc Wb VPb.out (by omega))
                clear hn9
                go_wp2_with fail
                refine CC.out.mono ?_
                rintro e Wc ⟨Ac, nc, cc, rfl, hoc, bc⟩
                have PS := pgs_set (p := ⟨vl, vc⟩) Hb.out.swap Bb.out.size bc hoc m hlt3
                have TH := Lib.hid (pgs_there (Hb.out.swap.below bc) m hlt3)
                have hd1 := PS.1.swap
                have Hd := Lib.hid hd1
                have Bd := Lib.hid (Bb.out.trans PS.2)
                obtain ⟨Wd, hWd⟩ : ∃ W, W = Wc.setCells q5 (m * 2) [.int .i64 vl, .slice Ac nc cc] := ⟨_, rfl⟩
                rw [← hWd] at Hd Bd
                have HC : Hid ((#[.int .i64 vl, .slice Ac nc cc] : Array Value).all (·.oneCell') = true) := Lib.hid (pg_one _ _ _ _)
                have HWd := Lib.hid hWd
                clear hoc bc CC PS hd1 Hb Bb VPb YKb u0 u1 hWd
                go_upto_region 25 with (refine wpList_store_mid rfl 24 _ _ rfl q5 (m * 2) #[.int .i64 vl, .slice Ac nc cc] rfl rfl TH.out (pg_inf2 _ _ _ _) HC.out ?_; simp only [Act.put])
                (try rw [← HWd.out])
                clear HWd TH HC
                have tm : Wd.cell? ⟨q6, m, none⟩ = some (.int .i64 tt) := by
                  have := trs_cell Hd.out.snd.snd.fst m hlt3
                  rw [if_neg (by omega), HTT.out] at this
                  exact this
                have tf : Wd.frozen? ⟨q6, m, none⟩ = false := trs_frz Hd.out.snd.snd.fst m
                have TS := trs_set (toT Hd.out) Bd.out.size m hlt3 (tt + 1)
                have hf := ofT TS.1
                have He := Lib.hid hf
                have Be := Lib.hid (Bd.out.trans TS.2)
                clear TS hf Hd Bd
                go_wp2_with fail
                go_roundw
                case rel => exact ⟨m + 1, by omega, by go_num, by
                  have e1 : (fun i => (if i < m + 1 then pairV S'.syn (2 + 2 * i) else O i).pg) = (fun i => if i = m then (⟨vl, vc⟩ : Pg) else (if i < m then pairV S'.syn (2 + 2 * i) else O i).pg) := by
                    funext i
                    by_cases e : i = m
                    · subst e
                      rw [if_pos (by omega), if_pos rfl, HV.out]
                    · rw [if_neg e]
                      by_cases e2 : i < m
                      · rw [if_pos (by omega), if_pos e2]
                      · rw [if_neg (by omega), if_neg e2]
                  have e2 : (fun i => (if i < m + 1 then pairV S'.syn (2 + 2 * i) else O i).turn) = (fun i => if i = m then (tt + 1) else (if i < m then pairV S'.syn (2 + 2 * i) else O i).turn) := by
                    funext i
                    by_cases e : i = m
                    · subst e
                      rw [if_pos (by omega), if_pos rfl, HV.out]
                    · rw [if_neg e]
                      by_cases e2 : i < m
                      · rw [if_pos (by omega), if_pos e2]
                      · rw [if_neg (by omega), if_neg e2]
                  rw [e1, e2]
                  exact He.out, Be.out⟩
                case measure => simp [intOf]; omega
              · have hO : O m = ⟨vt, ⟨vl, vc⟩⟩ := hold.symm.trans HV.out
                obtain rfl : er = 40 := by rcases HE2.out with q | q; exact absurd q her; exact q
                obtain rfl : vt = tt := by have := HTT.out; rw [hO] at this; exact this
                have hne : ((vt : Int) == vt + 1) = false := by rw [beq_eq_false_iff_ne]; omega
                have HO := Lib.hid hO
                clear hO hold her
                go_upto_region 26 with fail
                clear hne
                obtain ⟨A8, n8, c8, h0, h1, HP8⟩ := pgs_at Ha.out.swap m hlt3
                rw [if_neg (by omega), HO.out] at h0 HP8
                simp only at h0 HP8
                have f0 : ∀ d' os, (Go.Sort.grow (redrawn Wa d') os).cell? ⟨qx, 0, none⟩ = some (.int .i64 (m : Int)) := cell_regrown y0
                have f1 : ∀ d' os, (Go.Sort.grow (redrawn Wa d') os).cell? ⟨Y, 0, none⟩ = some (.int .i64 vl) := cell_regrown u0
                have f2 : ∀ d' os, (Go.Sort.grow (redrawn Wa d') os).cell? ⟨Y, 1, none⟩ = some (.slice A9 n9 c9) := cell_regrown u1
                have f3 : ∀ d' os, (Go.Sort.grow (redrawn Wa d') os).cell? ⟨q6, m, none⟩ = some (.int .i64 vt) := cell_regrown tm
                have f4 : ∀ d' os, (Go.Sort.grow (redrawn Wa d') os).cell? ⟨q5, m * 2, none⟩ = some (.int .i64 vl) := cell_regrown h0
                have f5 : ∀ d' os, (Go.Sort.grow (redrawn Wa d') os).cell? ⟨q5, m * 2 + 1, none⟩ = some (.slice A8 n8 c8) := cell_regrown h1
                have CS : Hid (∀ d' os, Calls Try.prog 18 #[pgV vl A9 n9 c9, pgV vl A8 n8 c8] (Go.Sort.grow (redrawn Wa d') os) (Ret (.bool true) (Go.Sort.grow (redrawn Wa d') os))) := Lib.hid (fun d' os => samePg_yes vl A9 n9 c9 A8 n8 c8 vc _ (VP.out.below (below_regrown Wa d' os)) (HP8.below (below_regrown Wa d' os)))
                clear y0 y1 y2 u0 u1 tm h0 h1 HP8 VP YK
                refine wp_region_quiet_below (by kernel_rfl) (by kernel_rfl) ?_
                repeat (any_goals (first | go_big_quiet_step ((go_at_call 18; exact Calls.regrown_of (CS.out _ _))) | quiet_step ((go_at_call 18; exact Calls.regrown_of (CS.out _ _)))))
                refine wpQuiet_nil ?_
                intro _ hw'
                obtain ⟨⟨dq, osq⟩, hw''⟩ := hw'
                subst hw''
                have He := Lib.hid (Ha.out.below (below_regrown Wa dq osq))
                have Be := Lib.hid (Ba.out.trans ((below_regrown Wa dq osq).mono Ba.out.size))
                clear f0 f1 f2 f3 f4 f5 CS Ha Ba
                go_wp2_with fail
                go_roundw
                case rel => exact ⟨m + 1, by omega, by go_num, by
                  have e0 : ∀ i, (if i < m + 1 then pairV S'.syn (2 + 2 * i) else O i) = (if i < m then pairV S'.syn (2 + 2 * i) else O i) := fun i => by
                    by_cases e : i = m
                    · subst e
                      rw [if_pos (by omega), if_neg (by omega), HV.out, HO.out]
                    · by_cases e2 : i < m
                      · rw [if_pos (by omega), if_pos e2]
                      · rw [if_neg (by omega), if_neg e2]
                  simp only [e0]
                  exact He.out, Be.out⟩
                case measure => simp [intOf]; omega
            · have hO : O m = ⟨vt, ⟨vl, vc⟩⟩ := ((NVM.out m hlt3).2 hmn).symm.trans HV.out
              rw [hO] at tm
              simp only at tm
              have HO := Lib.hid hO
              have hne : ((m : Int) == (nn : Int)) = false := by rw [beq_eq_false_iff_ne]; omega
              clear hO
              go_upto_region 26 with fail
              obtain ⟨A8, n8, c8, h0, h1, HP8⟩ := pgs_at Ha.out.swap m hlt3
              rw [if_neg (by omega), HO.out] at h0 HP8
              simp only at h0 HP8
              have f0 : ∀ d' os, (Go.Sort.grow (redrawn Wa d') os).cell? ⟨qx, 0, none⟩ = some (.int .i64 (nn : Int)) := cell_regrown y0
              have f1 : ∀ d' os, (Go.Sort.grow (redrawn Wa d') os).cell? ⟨Y, 0, none⟩ = some (.int .i64 vl) := cell_regrown u0
              have f2 : ∀ d' os, (Go.Sort.grow (redrawn Wa d') os).cell? ⟨Y, 1, none⟩ = some (.slice A9 n9 c9) := cell_regrown u1
              have f3 : ∀ d' os, (Go.Sort.grow (redrawn Wa d') os).cell? ⟨q6, m, none⟩ = some (.int .i64 vt) := cell_regrown tm
              have f4 : ∀ d' os, (Go.Sort.grow (redrawn Wa d') os).cell? ⟨q5, m * 2, none⟩ = some (.int .i64 vl) := cell_regrown h0
              have f5 : ∀ d' os, (Go.Sort.grow (redrawn Wa d') os).cell? ⟨q5, m * 2 + 1, none⟩ = some (.slice A8 n8 c8) := cell_regrown h1
              have CS : Hid (∀ d' os, Calls Try.prog 18 #[pgV vl A9 n9 c9, pgV vl A8 n8 c8] (Go.Sort.grow (redrawn Wa d') os) (Ret (.bool true) (Go.Sort.grow (redrawn Wa d') os))) := Lib.hid (fun d' os => samePg_yes vl A9 n9 c9 A8 n8 c8 vc _ (VP.out.below (below_regrown Wa d' os)) (HP8.below (below_regrown Wa d' os)))
              clear y0 y1 y2 u0 u1 tm h0 h1 HP8 VP YK
              refine wp_region_quiet_below (by kernel_rfl) (by kernel_rfl) ?_
              repeat (any_goals (first | go_big_quiet_step ((go_at_call 18; exact Calls.regrown_of (CS.out _ _))) | quiet_step ((go_at_call 18; exact Calls.regrown_of (CS.out _ _)))))
              refine wpQuiet_nil ?_
              intro _ hw'
              obtain ⟨⟨dq, osq⟩, hw''⟩ := hw'
              subst hw''
              have He := Lib.hid (Ha.out.below (below_regrown Wa dq osq))
              have Be := Lib.hid (Ba.out.trans ((below_regrown Wa dq osq).mono Ba.out.size))
              clear f0 f1 f2 f3 f4 f5 CS Ha Ba
              go_wp2_with fail
              go_roundw
              case rel => exact ⟨m + 1, by omega, by go_num, by
                have e0 : ∀ i, (if i < m + 1 then pairV S'.syn (2 + 2 * i) else O i) = (if i < m then pairV S'.syn (2 + 2 * i) else O i) := fun i => by
                  by_cases e : i = m
                  · subst e
                    rw [if_pos (by omega), if_neg (by omega), HV.out, HO.out]
                  · by_cases e2 : i < m
                    · rw [if_pos (by omega), if_pos e2]
                    · rw [if_neg (by omega), if_neg e2]
                simp only [e0]
                exact He.out, Be.out⟩
              case measure => simp [intOf]; omega
    · obtain rfl : k = n := by omega
      go_wp2_with fail
      refine (awake11_any _).mono ?_
      rintro e w9 ⟨rfl, b9⟩
      have B9 := Lib.hid (Below.then HB.out b9)
      clear b9
      go_wp2_with fail
      go_ret
      exact ⟨rfl, B9.out⟩
end Go.Proofs.Ytomhofppcogojaa

/- 'Rows.SlotCrashesSaid': for every input trothlaw11.SlotCrashes answers true, and what came in reads behind the call as before. No condition. -/
namespace Go.Proofs.Ytomhofppcogojaa
open Go.ChangeShapes Go.WideShapes Go.ChangeAt Go.RowKit

set_option maxRecDepth 100000 in
theorem slotCrashes_lifted (os : Os) (started : os.Started) (H : Type) (enc : TypeId × Value → H) :
    ReturnsInHanded {} Try.checked os 5 .any (Rows.slotCrashesSpec.pre6 enc Try.prog Try.f5 Rows.slotCrashesRow.domain false) (Rows.slotCrashesSpec.post enc Try.prog Try.f5 false true false false) := by
  refine returnsInHanded_of_change_sized (C := Try.checked) own_knob started (by kernel_rfl) Try.func5
    (ChangeSpec.witness6 (enc := enc) (C := Try.checked) false ⟨#[], #[.slice none 0 0], []⟩ 8 (by kernel_rfl) (by kernel_rfl) (by kernel_rfl) (by kernel_rfl)) ?_
  intro W base args ds gs before hval0 hW _ hsz0 _
  have hval : ∀ (j : Nat) t v, Try.f5.params[j]? = some t → args[j]? = some v → Value.okWide Try.prog W .any base t v := hval0
  have hW' := hW
  obtain ⟨p, q, hA0, hV, rfl, hfz, hnd⟩ := hW
  have hA : DataW.TrodAll enc Try.prog W 0 (fun _ => true) true Try.f5.params.toList args.toList ds p := hA0
  rw [Try.params5] at hA hval
  obtain ⟨v0, vs0, d0, ds0, p0, q0, hargs, rfl, rfl, h0, r0⟩ := trodAll_cons hA
  obtain ⟨rfl, rfl, rfl⟩ := trodAll_nil r0
  obtain rfl : args = #[v0] := by cases args; simp_all
  obtain ⟨rfl, rfl⟩ := trodVars_none hV
  obtain ⟨a0, n0, c0, rfl⟩ := okWide_slice Try.underlying47 (hval 0 47 v0 rfl rfl)
  have k0 := h0
  have lt0 : ∀ x ∈ p0, x.block < W.heap.size := by obtain ⟨m, hm⟩ := k0; exact DataW.trod_lt m _ _ _ hm
  obtain ⟨l0, b0⟩ := open_svds h0
  clear hA0 hval0 hsz0
  refine (slotCrashes_walk a0 n0 c0 l0 W b0).mono fun e W' ⟨he, bel⟩ => ?_
  subst he
  exact ⟨_, rfl, _, _, _, [], _, [], hW', trodAll_mk1 (shut_bool Try.underlying4 _), (trodAll_cons_mk (Below.trod laidOut (by kernel_rfl) (of_decide_eq_true (by kernel_rfl)) k0 bel lt0) trodAll_mk0), rfl, bel.frame _, fun h => by cases h⟩

/-- The statement. -/
theorem slotCrashes_holds : Rows.SlotCrashesSaid :=
  OpenClaim.holds_of_wide 5 Try.f5 rfl rfl rfl rfl rfl rfl rfl ⟨rfl, rfl, rfl, rfl, rfl⟩ rfl rfl rfl rfl rfl (by kernel_rfl) Try.func5 (by kernel_rfl)
    (of_decide_eq_true (by kernel_rfl)) (by unfold Func.isWrapper; first | (rw [if_pos (by decide +kernel)]; kernel_rfl) | (rw [if_neg (by decide +kernel)]; exact ⟨rfl, rfl⟩))
    (fun os started H enc _ => slotCrashes_lifted os started H enc)
#print axioms slotCrashes_holds
end Go.Proofs.Ytomhofppcogojaa

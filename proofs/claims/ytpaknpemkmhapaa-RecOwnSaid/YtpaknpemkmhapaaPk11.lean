/- What it says: contracts and plain mathematics that the laws' walks use, 11 of 24: each part's own remark says what; no condition. -/
import Derived.Test.YtpaknpemkmhapaaPk6
import Derived.Test.YtpaknpemkmhapaaPk7
import Derived.Test.YtpaknpemkmhapaaPk8
import Derived.Test.YtpaknpemkmhapaaPk9
import Derived.Test.YtpaknpemkmhapaaPk10
import Derived.Lib.MinMax

set_option linter.unusedSimpArgs false
set_option linter.unusedVariables false
set_option linter.deprecated false
set_option linter.unusedSectionVars false
set_option linter.all false

/- rec's list, at rows: what it passes on. -/
namespace Go.Proofs.Ytpaknpemkmhapaa
open Go.RowKit
theorem mk_R (n : Nat) (hn : n ≤ 256) (W : World) : (Instr.makeSlice 26 (.int .i64 (n : Int)) (.int .i64 (n : Int))).run Try.prog W =
    .ok (.slice (some ⟨W.heap.size, 0, none⟩) n n) (W.alloc (.cells (madeCells #[.int .i64 0, .int .i64 0, .int .i64 0, .int .i64 0, .int .i64 0, .int .i64 0, .slice none 0 0, .slice none 0 0] (n * elR.size)) 52)) := by
  have hz : (Try.prog.info? 52).map (fun i => (i.zero, i.size, i.bytes)) = some (some (.agg #[.int .i64 0, .int .i64 0, .int .i64 0, .int .i64 0, .int .i64 0, .int .i64 0, .slice none 0 0, .slice none 0 0]), 8, 96) := by kernel_rfl
  obtain ⟨i0, hi, hz0, hz1, hz2⟩ := info_parts hz
  have := run_make (P := Try.prog) W 26 52 i0 (.agg #[.int .i64 0, .int .i64 0, .int .i64 0, .int .i64 0, .int .i64 0, .int .i64 0, .slice none 0 0, .slice none 0 0]) Try.underlying26 hi hz0 .i64 .i64 n n (by omega) (by omega) (by rw [hz2]; omega) (by omega)
  rw [this, hz1, Int.toNat_natCast]
  rfl
theorem info_R : (Try.prog.info? 52).map (·.size) = some 8 := by kernel_rfl
theorem by_R (x : Xw) (w : World) : Calls Try.prog 82 #[.agg (elR.cells x).toArray] w (fun e w' => e = .returned (.int .i64 x.tx) ∧ Below w.heap.size w w') := by
  have e : (Value.agg (elR.cells x).toArray) = .agg #[.int .i64 x.tx, .int .i64 x.st, .int .i64 x.fi, .int .i64 x.la, .int .i64 x.un, .int .i64 x.co, .slice x.mA x.mn x.mc, .slice x.kA x.kn x.kc] := rfl
  rw [e]
  go_enter Try.func82, Try.ntmps82
  go_wp2_with fail
  go_ret
  exact ⟨rfl, (Below.refl _ _).alloc (Nat.le_refl _) _⟩
section
variable {H pb : Nat} {w : World}
set_option maxRecDepth 100000 in
set_option maxHeartbeats 8000000 in
theorem listR_any (s : Ps) (wr : Bool) (A : Option Addr) (n0 c0 : Nat) (xs : List Xw) (q : Addr) (h : Pst H w pb s wr) (hx : Sl elR H w A n0 c0 xs) (hr : s.room (10 + 256 * rwSp.cost))
    (hE : ∀ (w1 : World) (s1 : Ps) (wr1 : Bool) (x : Xw), Calm H w w1 → Pst H w1 pb s1 wr1 → elR.inn H w1 x → s1.room rwSp.cost → Calls Try.prog 80 #[.agg (elR.cells x).toArray, .pointer (some q)] w1 (RetV rwSp (VE elR Xw.row (fun x => .agg (elR.cells x).toArray) H) (Xw.row x) H pb s1 wr1 w1)) :
    Calls Try.prog 81 #[.pointer (some ⟨pb, 0, none⟩), .slice A n0 c0, .int .i64 64, .func (.func 80) #[] #[.pointer (some q)], .func (.func 82) #[] #[]] w
      (RetV (rwSp.list 64 (fun a b : Rw => a.tx < b.tx)) (VL elR Xw.row H) (xs.map Xw.row) H pb s wr w) := by
  have hmaxn : n0 ≤ 9223372036854775807 := by have := hx.cap; have := hx.max; unfold maxLen at this; omega
  have CC := Lib.hid (count_any (H := H) (pb := pb) s wr (n0 : Int) 64 h (by omega) (by omega) (hr.mono (by omega)))
  have HX := Lib.hid hx
  have HR := Lib.hid hr
  have HL := Lib.hid h.low
  have HE := Lib.hid hE
  clear hE
  clear h hx hr
  go_enter Try.func81, Try.ntmps81
  go_wp2_with fail
  refine CC.out.mono ?_
  rintro e w1 ⟨_, z, s1, wr1, rfl, ⟨rfl, hz0, hz1⟩, hg, hp, hc⟩
  obtain ⟨n, hn⟩ : ∃ n : Nat, (n : Int) = min z 256 := ⟨(min z 256).toNat, by omega⟩
  have hmin : min z 256 = (n : Int) := hn.symm
  have hlen : xs.length = n0 := HX.out.len
  have G1 : Hid (Goes (cntS 64) (((xs.map (Xw.row : Xw → Rw)).length : Nat) : Int) s wr z s1 wr1) := Lib.hid (by rw [List.length_map, hlen]; exact hg)
  have P1 := Lib.hid hp
  have C1 := Lib.hid hc
  have HN : Hid ((n : Int) = min z 256) := Lib.hid hn
  have hn256 : n ≤ 256 := by omega
  clear hg hp hc CC hn hlen hz0 hz1
  by_cases h0 : n = 0
  · subst h0
    have R := Lib.hid (list_empty (E := elR) (rd := Xw.row) (S := rwSp) (lt := (fun a b : Rw => a.tx < b.tx)) (xs := xs) P1.out C1.out (most := 64) (by omega) G1.out HN.out)
    go_wp2_with fail
    go_ret
    exact R.out
  · have hne : ((n : Int) == 0) = false := by simp; omega
    have kmk := mk_R n hn256
    obtain ⟨Z, hZ⟩ : ∃ Z, Z = madeCells #[.int .i64 0, .int .i64 0, .int .i64 0, .int .i64 0, .int .i64 0, .int .i64 0, .slice none 0 0, .slice none 0 0] (n * elR.size) := ⟨_, rfl⟩
    rw [← hZ] at kmk
    obtain ⟨g, hgd⟩ : ∃ g, w1.heap.size = g := ⟨_, rfl⟩
    have RW0 : Hid (Row elR 52 (w1.alloc (.cells Z 52)) g n (List.replicate n (default : Xw))) := Lib.hid (by rw [hZ, ← hgd]; exact Row.made w1 ((default : Xw)) #[.int .i64 0, .int .i64 0, .int .i64 0, .int .i64 0, .int .i64 0, .int .i64 0, .slice none 0 0, .slice none 0 0] rfl n)
    have B1 : Hid (Below w1.heap.size w1 (w1.alloc (.cells Z 52))) := Lib.hid ((Below.refl _ _).alloc (Nat.le_refl _) _)
    have P1' : Hid (Pst H (w1.alloc (.cells Z 52)) pb s1 wr1) := Lib.hid (P1.out.keeps (Keeps.of_below B1.out))
    have C1' : Hid (Calm H w (w1.alloc (.cells Z 52))) := Lib.hid (C1.out.trans (Calm.of_below B1.out))
    have X1 : Hid (Sl elR H (w1.alloc (.cells Z 52)) A n0 c0 xs) := Lib.hid (HX.out.calm C1'.out)
    have HG : Hid (w.heap.size ≤ g) := Lib.hid (by rw [← hgd]; exact C1.out.size)
    have HS : Hid ((w1.alloc (.cells Z 52)).heap.size = g + 1) := Lib.hid (by rw [← hgd]; simp)
    clear hZ
    go_wp2_with (refine wpList_copy_row (E := elR) (H := H) rfl _ _ 26 26 rfl 52 Try.underlying26 (by kernel_rfl) RW0.out X1.out n (by rfl) (by rfl) ?_)
    intro kk w2 zs hcop
    have L0 := Lib.hid (LRel.start (rd := Xw.row) (S := rwSp) (lt := (fun a b : Rw => a.tx < b.tx)) HG.out HL.out rfl P1'.out C1'.out RW0.out X1.out (fun i hi => by rw [List.getD_eq_getElem?_getD, List.getElem?_replicate, if_pos hi]; exact (xw0_in H _)) hcop.out)
    clear hcop RW0 B1 P1' C1' X1 HS
    go_wp2_with fail
    go_loopw [30] (fun q wr => ∃ k : Nat, k ≤ n ∧ q = .int .i64 k ∧ LRel elR Xw.row rwSp (fun a b : Rw => a.tx < b.tx) H pb g n w zs s1 wr1 k wr) (fun q _ => n - (intOf q).toNat)
    case atStart => exact ⟨0, Nat.zero_le _, rfl, L0.out.1⟩
    case round =>
      obtain ⟨k, hkn, rfl, hrel⟩ := hrel
      by_cases hlt : k < n
      · obtain ⟨hlow, zk, s2, wr2, hp, hc, hrow, hgo, hrest, hin⟩ := hrel
        obtain ⟨xk, hxk⟩ : ∃ xk, zk.getD k default = xk := ⟨_, rfl⟩
        have hr0 := hrow.at_ k hlt
        rw [hxk] at hr0
        have hxi : elR.inn H wr xk := by rw [← hxk]; exact hin _ (getD_mem (by rw [hrow.len]; exact hlt))
        have hroom : s2.room rwSp.cost := hgo.room (c := rwSp.cost) (by
          have : Ps.room s1 (256 * rwSp.cost) := G1.out.room HR.out
          refine this.mono ?_
          have : (k + 1) * rwSp.cost ≤ 256 * rwSp.cost := Nat.mul_le_mul_right _ (by omega)
          rw [Nat.add_mul] at this
          omega)
        have HXK : Hid (xk = zs.getD k default) := Lib.hid (by rw [← hxk]; exact hrest k (Nat.le_refl _) hlt)
        have MID := Lib.hid (fun v1 s3 wr3 x' (hc1 : Calm H wr v1) hp1 hx1 hg1 => LMid.of (pb := pb) (E := elR) (rd := Xw.row) (S := rwSp) (lt := (fun a b : Rw => a.tx < b.tx)) (x' := x') (w1 := v1) (s2 := s3) (wr2 := wr3) hlow HL.out rfl hrow hgo hrest hin hc hlt hc1 hp1 hx1 hg1)
        have ROW : Hid (∀ v1, Calm H wr v1 → Row elR 52 v1 g n zk) := Lib.hid (fun v1 hc1 => hrow.calm rfl hc1)
        have HR0 : Hid (wr.rangeAt g (k * 8) (elR.cells xk)) := Lib.hid hr0
        have HBE : Hid (Bk (wr.alloc (.cells (elR.cells xk).toArray 52)) wr.heap.size 52 (elR.cells xk).toArray) := Lib.hid (Bk.new wr _ _)
        have hba : Below wr.heap.size wr (wr.alloc (.cells (elR.cells xk).toArray 52)) := (Below.refl _ _).alloc (Nat.le_refl _) _
        have CN := Lib.hid (HE.out (wr.alloc (.cells (elR.cells xk).toArray 52)) s2 wr2 xk (hc.trans (Calm.of_below hba)) (hp.keeps (Keeps.of_below hba)) (elR.calm H wr _ xk hxi (Calm.of_below hba)) hroom)
        have HBA := Lib.hid hba
        have hszk : (elR.cells xk).length = 8 := elR.len xk
        have HSK := Lib.hid hszk
        clear hlow hp hc hrow hgo hrest hin hr0 hxk hroom hxi hba hszk
        go_wp2_with (first
          | (refine wpList_load_mid rfl 52 _ rfl g (k * 8) rfl (elR.cells xk) _ HR0.out Try.underlying52 rfl (by rw [HSK.out]; exact info_R) ?_)
          | (refine wpList_store_new rfl (W := wr) rfl (c := #[.int .i64 0, .int .i64 0, .int .i64 0, .int .i64 0, .int .i64 0, .int .i64 0, .slice none 0 0, .slice none 0 0]) (c' := (elR.cells xk).toArray) rfl rfl rfl (by rw [List.size_toArray, HSK.out]; exact info_R) (by simp only [List.size_toArray]; rw [HSK.out]; rfl) (all_oneCell_toArray (elR.one xk)) ?_; simp only [Act.put])
          | (refine wpList_load_row rfl 52 _ rfl wr.heap.size rfl 52 _ (0, 0) _ HBE.out Try.underlying52 rfl (by rw [List.size_toArray, HSK.out]; exact info_R) ?_))
        refine CN.out.mono ?_
        rintro e v1 ⟨_, _, s3, wr3, rfl, ⟨y, rfl, hy, rfl⟩, hg3, hp3, hc3⟩
        have hc3' := (Calm.of_below HBA.out).trans hc3
        have RV := ROW.out v1 hc3'
        have hszy : (elR.cells y).length = 8 := elR.len y
        have HSY := Lib.hid hszy
        have TH : Hid (v1.there g (k * 8) (elR.cells y).toArray.size) := Lib.hid (by rw [List.size_toArray, hszy]; exact RV.there hlt)
        have M := MID.out v1 s3 wr3 y hc3' hp3 hy (by rw [HXK.out] at hg3; exact hg3)
        obtain ⟨W2, hW2⟩ : ∃ W2, W2 = v1.setCells g (k * 8) (elR.cells y) := ⟨_, rfl⟩
        have e2 : v1.setCells g (k * elR.size) (elR.cells y) = W2 := hW2.symm
        have HW2 : Hid (v1.setCells g (k * 8) (elR.cells y).toArray.toList = W2) := Lib.hid hW2.symm
        rw [e2] at M
        have M := Lib.hid M
        clear hW2 e2 RV hg3 hp3 hc3 hc3' MID ROW CN hszy HBE HBA HR0 HSK
        have HY := Lib.hid hy
        clear hy
        go_wp2_with (refine wpList_store_mid rfl 52 _ _ rfl g (k * 8) (elR.cells y).toArray rfl rfl TH.out (by rw [List.size_toArray, HSY.out]; exact info_R) (all_oneCell_toArray (elR.one y)) ?_; rw [HW2.out]; simp only [Act.put])
        clear HW2 TH
        by_cases hk0 : k = 0
        · subst hk0
          have CE := Lib.hid (fun b => expect_any (H := H) (pb := pb) (w := W2.drew) s3 wr3 b (M.out.pst.keeps ⟨Nat.le_refl _, fun _ _ => rfl⟩))
          have hS0 : True := trivial
          refine wp_region_noPanic ?_
          refine upto_start (fun _ => True) 19 (by kernel_rfl) ?_
          change Upto _ _ _ _ _ 20 _ _ _
          refine Upto.take (i := 0) (v := ?_) rfl (by kernel_rfl) (fun _ _ _ h => h) rfl (fun w' hS => ?_) hS0 ?_
          rotate_left
          · (try dsimp only at hS); go_split_ands; go_simp; (try with_reducible rfl)
          simp only [Act.put, List.setIfInBounds_toArray, List.set_cons_zero, List.set_cons_succ]
          refine Upto.take (i := 1) (v := ?_) rfl (by kernel_rfl) (fun _ _ _ h => h) rfl (fun w' hS => ?_) hS0 ?_
          rotate_left
          · (try dsimp only at hS); go_split_ands; go_simp; (try with_reducible rfl)
          simp only [Act.put, List.setIfInBounds_toArray, List.set_cons_zero, List.set_cons_succ]
          refine Upto.take (i := 2) (v := ?_) rfl (by kernel_rfl) (fun _ _ _ h => h) rfl (fun w' hS => ?_) hS0 ?_
          rotate_left
          · (try dsimp only at hS); go_split_ands; go_simp; (try with_reducible rfl)
          simp only [Act.put, List.setIfInBounds_toArray, List.set_cons_zero, List.set_cons_succ]
          refine Upto.take (i := 3) (v := ?_) rfl (by kernel_rfl) (fun _ _ _ h => h) rfl (fun w' hS => ?_) hS0 ?_
          rotate_left
          · (try dsimp only at hS); go_split_ands; go_simp; (try with_reducible rfl)
          simp only [Act.put, List.setIfInBounds_toArray, List.set_cons_zero, List.set_cons_succ]
          refine Upto.skip (i := 4) rfl (by kernel_rfl) (fun _ _ _ h => h) rfl hS0 ?_
          simp only [Act.put, List.setIfInBounds_toArray, List.set_cons_zero, List.set_cons_succ]
          refine Upto.skip (i := 5) rfl (by kernel_rfl) (fun _ _ _ h => h) rfl hS0 ?_
          simp only [Act.put, List.setIfInBounds_toArray, List.set_cons_zero, List.set_cons_succ]
          refine Upto.skip (i := 6) rfl (by kernel_rfl) (fun _ _ _ h => h) rfl hS0 ?_
          simp only [Act.put, List.setIfInBounds_toArray, List.set_cons_zero, List.set_cons_succ]
          refine Upto.skip (i := 7) rfl (by kernel_rfl) (fun _ _ _ h => h) rfl hS0 ?_
          simp only [Act.put, List.setIfInBounds_toArray, List.set_cons_zero, List.set_cons_succ]
          refine Upto.skip (i := 8) rfl (by kernel_rfl) (fun _ _ _ h => h) rfl hS0 ?_
          simp only [Act.put, List.setIfInBounds_toArray, List.set_cons_zero, List.set_cons_succ]
          refine Upto.skip (i := 9) rfl (by kernel_rfl) (fun _ _ _ h => h) rfl hS0 ?_
          simp only [Act.put, List.setIfInBounds_toArray, List.set_cons_zero, List.set_cons_succ]
          refine Upto.skip (i := 10) rfl (by kernel_rfl) (fun _ _ _ h => h) rfl hS0 ?_
          simp only [Act.put, List.setIfInBounds_toArray, List.set_cons_zero, List.set_cons_succ]
          refine Upto.skip (i := 11) rfl (by kernel_rfl) (fun _ _ _ h => h) rfl hS0 ?_
          simp only [Act.put, List.setIfInBounds_toArray, List.set_cons_zero, List.set_cons_succ]
          refine Upto.skip (i := 12) rfl (by kernel_rfl) (fun _ _ _ h => h) rfl hS0 ?_
          simp only [Act.put, List.setIfInBounds_toArray, List.set_cons_zero, List.set_cons_succ]
          refine Upto.skip (i := 13) rfl (by kernel_rfl) (fun _ _ _ h => h) rfl hS0 ?_
          simp only [Act.put, List.setIfInBounds_toArray, List.set_cons_zero, List.set_cons_succ]
          refine Upto.skip (i := 14) rfl (by kernel_rfl) (fun _ _ _ h => h) rfl hS0 ?_
          simp only [Act.put, List.setIfInBounds_toArray, List.set_cons_zero, List.set_cons_succ]
          refine Upto.skip (i := 15) rfl (by kernel_rfl) (fun _ _ _ h => h) rfl hS0 ?_
          simp only [Act.put, List.setIfInBounds_toArray, List.set_cons_zero, List.set_cons_succ]
          refine Upto.skip (i := 16) rfl (by kernel_rfl) (fun _ _ _ h => h) rfl hS0 ?_
          simp only [Act.put, List.setIfInBounds_toArray, List.set_cons_zero, List.set_cons_succ]
          refine Upto.skip (i := 17) rfl (by kernel_rfl) (fun _ _ _ h => h) rfl hS0 ?_
          simp only [Act.put, List.setIfInBounds_toArray, List.set_cons_zero, List.set_cons_succ]
          refine Upto.take (i := 18) (v := ?_) rfl (by kernel_rfl) (fun _ _ _ h => h) rfl (fun w' hS => ?_) hS0 ?_
          rotate_left
          · (try dsimp only at hS); go_split_ands; go_simp; (try with_reducible rfl)
          simp only [Act.put, List.setIfInBounds_toArray, List.set_cons_zero, List.set_cons_succ]
          refine Upto.tail rfl (by kernel_rfl) ?_
          simp only [List.drop_succ_cons, List.drop_zero]
          go_wp2_with fail
          refine (CE.out true).mono ?_
          rintro e v4 ⟨wr4, rfl, hiff, hp4, hc4⟩
          have N := Lib.hid (M.out.next rfl (fun _ => rfl) hlt L0.out.2.1 (w4 := v4) (by exact (⟨hc4.os, hc4.tape, hc4.output, hc4.size, hc4.block⟩ : Calm H W2 v4)) hp4 (hiff.trans ⟨fun q => ⟨q.1, fun h => absurd h (by omega)⟩, fun q => ⟨q.1, rfl⟩⟩))
          clear hiff hp4 hc4 CE M
          go_wp2_with fail
          refine NoPanic.normal ?_
          go_wp2_with fail
          go_roundw
          case rel => exact ⟨0 + 1, by omega, by go_num, N.out⟩
          case measure => simp [intOf]; omega
        · obtain ⟨j, hjk⟩ : ∃ j, j = k - 1 := ⟨_, rfl⟩
          have hj1 : (k : Int) - 1 = (j : Int) := by omega
          have hj2 : ((k : Int) == 0) = false := by simp; omega
          have hjn : j < n := by omega
          have hwj : IntKind.i64.wrap (j : Int) = (j : Int) := by rw [IntKind.wrap_i64]; omega
          have HJ := Lib.hid hjk
          clear hjk
          obtain ⟨xp, hxp⟩ : ∃ xp, (zk.set k y).getD j default = xp := ⟨_, rfl⟩
          have hr1 := M.out.row.at_ j hjn
          have hr2 := M.out.row.at_ k hlt
          rw [hxp] at hr1
          rw [getD_set (by rw [M.out.len]; exact hlt), if_pos rfl] at hr2
          have HXP := Lib.hid hxp
          clear hxp
          have hS0 : W2.drew.rangeAt g (j * 8) (elR.cells xp) ∧ W2.drew.rangeAt g (k * 8) (elR.cells y) := ⟨hr1, hr2⟩
          have hgl : g < W2.drew.heap.size := M.out.row.lt
          have HGL := Lib.hid hgl
          clear hr1 hr2 hgl
          refine wp_region_noPanic ?_
          refine upto_start (fun w' => w'.rangeAt g (j * 8) (elR.cells xp) ∧ w'.rangeAt g (k * 8) (elR.cells y)) 19 (by kernel_rfl) ?_
          change Upto _ _ _ _ _ 20 _ _ _
          refine Upto.take (i := 0) (v := ?_) rfl (by kernel_rfl) (fun _ _ _ h => h) rfl (fun w' hS => ?_) hS0 ?_
          rotate_left
          · (try dsimp only at hS); go_split_ands; go_simp; (try with_reducible rfl)
          simp only [Act.put, List.setIfInBounds_toArray, List.set_cons_zero, List.set_cons_succ]
          refine Upto.take (i := 1) (v := ?_) rfl (by kernel_rfl) (fun _ _ _ h => h) rfl (fun w' hS => ?_) hS0 ?_
          rotate_left
          · (try dsimp only at hS); go_split_ands; go_simp; (try with_reducible rfl)
          simp only [Act.put, List.setIfInBounds_toArray, List.set_cons_zero, List.set_cons_succ]
          refine Upto.take (i := 2) (v := ?_) rfl (by kernel_rfl) (fun _ _ _ h => h) rfl (fun w' hS => ?_) hS0 ?_
          rotate_left
          · (try dsimp only at hS); go_split_ands; go_simp; (try with_reducible rfl)
          simp only [Act.put, List.setIfInBounds_toArray, List.set_cons_zero, List.set_cons_succ]
          refine Upto.take (i := 3) (v := ?_) rfl (by kernel_rfl) (fun _ _ _ h => h) rfl (fun w' hS => ?_) hS0 ?_
          rotate_left
          · (try dsimp only at hS); go_split_ands; go_simp; (try with_reducible rfl)
          simp only [Act.put, List.setIfInBounds_toArray, List.set_cons_zero, List.set_cons_succ]
          refine Upto.takeG (i := 4) (v := ?_) rfl (by kernel_rfl) (fun _ _ _ h => h) rfl (fun w' hS => ?_) hS0 ?_
          rotate_left
          · (try dsimp only at hS); go_split_ands; go_simp; (try with_reducible rfl)
          simp only [Act.put, List.setIfInBounds_toArray, List.set_cons_zero, List.set_cons_succ]
          refine Upto.takeG (i := 5) (v := ?_) rfl (by kernel_rfl) (fun _ _ _ h => h) rfl (fun w' hS => ?_) hS0 ?_
          rotate_left
          · (try dsimp only at hS); go_split_ands; go_simp; (try with_reducible rfl)
          simp only [Act.put, List.setIfInBounds_toArray, List.set_cons_zero, List.set_cons_succ]
          refine Upto.takeG (i := 6) (v := ?_) rfl (by kernel_rfl) (fun _ _ _ h => h) rfl (fun w' hS => ?_) hS0 ?_
          rotate_left
          · (try dsimp only at hS); go_split_ands; go_simp; (try with_reducible rfl)
          simp only [Act.put, List.setIfInBounds_toArray, List.set_cons_zero, List.set_cons_succ]
          refine Upto.takeG (i := 7) (v := ?_) rfl (by kernel_rfl) (fun _ _ _ h => h) rfl (fun w' hS => ?_) hS0 ?_
          rotate_left
          · (try dsimp only at hS); go_split_ands; go_simp; (try with_reducible rfl)
          simp only [Act.put, List.setIfInBounds_toArray, List.set_cons_zero, List.set_cons_succ]
          refine Upto.takeG (i := 8) (v := ?_) rfl (by kernel_rfl) (fun _ _ _ h => h) rfl (fun w' hS => ?_) hS0 ?_
          rotate_left
          · (try dsimp only at hS); go_split_ands; go_simp; (try with_reducible rfl)
          simp only [Act.put, List.setIfInBounds_toArray, List.set_cons_zero, List.set_cons_succ]
          refine Upto.takeG (i := 9) rfl (by kernel_rfl) (fun _ _ _ h => h) rfl (fun w' hS => exec_load rfl (by rfl) hS.1 Try.underlying52 rfl (by rw [elR.len xp]; exact info_R)) hS0 ?_
          simp only [Act.put, List.setIfInBounds_toArray, List.set_cons_zero, List.set_cons_succ]
          refine Upto.takeG (i := 11) (v := ?_) rfl (by kernel_rfl) (fun _ _ _ h => h) rfl (fun w' hS => ?_) hS0 ?_
          rotate_left
          · (try dsimp only at hS); go_split_ands; go_simp; (try with_reducible rfl)
          simp only [Act.put, List.setIfInBounds_toArray, List.set_cons_zero, List.set_cons_succ]
          refine Upto.takeG (i := 12) (v := ?_) rfl (by kernel_rfl) (fun _ _ _ h => h) rfl (fun w' hS => ?_) hS0 ?_
          rotate_left
          · (try dsimp only at hS); go_split_ands; go_simp; (try with_reducible rfl)
          simp only [Act.put, List.setIfInBounds_toArray, List.set_cons_zero, List.set_cons_succ]
          refine Upto.takeG (i := 13) (v := ?_) rfl (by kernel_rfl) (fun _ _ _ h => h) rfl (fun w' hS => ?_) hS0 ?_
          rotate_left
          · (try dsimp only at hS); go_split_ands; go_simp; (try with_reducible rfl)
          simp only [Act.put, List.setIfInBounds_toArray, List.set_cons_zero, List.set_cons_succ]
          refine Upto.takeG (i := 14) (v := ?_) rfl (by kernel_rfl) (fun _ _ _ h => h) rfl (fun w' hS => ?_) hS0 ?_
          rotate_left
          · (try dsimp only at hS); go_split_ands; go_simp; (try with_reducible rfl)
          simp only [Act.put, List.setIfInBounds_toArray, List.set_cons_zero, List.set_cons_succ]
          refine Upto.takeG (i := 15) rfl (by kernel_rfl) (fun _ _ _ h => h) rfl (fun w' hS => exec_load rfl (by rfl) hS.2 Try.underlying52 rfl (by rw [elR.len y]; exact info_R)) hS0 ?_
          simp only [Act.put, List.setIfInBounds_toArray, List.set_cons_zero, List.set_cons_succ]
          refine Upto.lawG (i := 10) rfl (by kernel_rfl) rfl (fun K hK => ?_)
          refine wp_enter (f := 82) (args := #[.agg (elR.cells xp).toArray]) (by go_simp) (by_R xp _) ?_
          rintro e W3 ⟨rfl, hb3⟩
          have hS1 := And.intro (rangeAt_heap hS0.1 (hb3.block g HGL.out)) (rangeAt_heap hS0.2 (hb3.block g HGL.out))
          refine ⟨_, rfl, hK _ _ hS1 ?_⟩
          clear hK
          have HB3 := Lib.hid hb3
          clear hb3
          simp only [Act.put, List.setIfInBounds_toArray, List.set_cons_zero, List.set_cons_succ]
          refine Upto.lawG (i := 16) rfl (by kernel_rfl) rfl (fun K hK => ?_)
          refine wp_enter (f := 82) (args := #[.agg (elR.cells y).toArray]) (by go_simp) (by_R y _) ?_
          rintro e W4 ⟨rfl, hb4⟩
          have hgl3 : g < W3.heap.size := Nat.lt_of_lt_of_le HGL.out HB3.out.size
          have hS2 := And.intro (rangeAt_heap hS1.1 (hb4.block g hgl3)) (rangeAt_heap hS1.2 (hb4.block g hgl3))
          refine ⟨_, rfl, hK _ _ hS2 ?_⟩
          have HW4 : Hid (Pst H W4 pb s3 wr3 ∧ Calm H W2 W4) := Lib.hid (by
            have b4 : Below W2.heap.size W2 W4 := by
              have a := Below.then HB3.out hb4
              exact ⟨a.os, a.tape, a.output, a.size, a.block⟩
            exact ⟨M.out.pst.keeps (Keeps.of_below b4), Calm.of_below b4⟩)
          clear hK hS0 hS1 hb4 HB3 hgl3
          have hS0 := hS2
          clear hS2
          simp only [Act.put, List.setIfInBounds_toArray, List.set_cons_zero, List.set_cons_succ]
          refine Upto.takeG (i := 17) (v := ?_) rfl (by kernel_rfl) (fun _ _ _ h => h) rfl (fun w' hS => ?_) hS0 ?_
          rotate_left
          · (try dsimp only at hS); go_split_ands; go_simp; (try with_reducible rfl)
          simp only [Act.put, List.setIfInBounds_toArray, List.set_cons_zero, List.set_cons_succ]
          refine Upto.take (i := 18) (v := ?_) rfl (by kernel_rfl) (fun _ _ _ h => h) rfl (fun w' hS => ?_) hS0 ?_
          rotate_left
          · (try dsimp only at hS); go_split_ands; go_simp; (try with_reducible rfl)
          simp only [Act.put, List.setIfInBounds_toArray, List.set_cons_zero, List.set_cons_succ]
          have CE := Lib.hid (expect_any (H := H) (pb := pb) (w := W4) s3 wr3 (decide (xp.tx < y.tx)) HW4.out.1)
          refine Upto.tail rfl (by kernel_rfl) ?_
          simp only [List.drop_succ_cons, List.drop_zero]
          go_wp2_with fail
          refine CE.out.mono ?_
          rintro e v4 ⟨wr4, rfl, hiff, hp4, hc4⟩
          have N := Lib.hid (M.out.next rfl (fun _ => rfl) hlt L0.out.2.1 (w4 := v4) (HW4.out.2.trans hc4) hp4 (hiff.trans (by
            have e1 : (zk.set k y).getD (k - 1) default = xp := by rw [← HJ.out]; exact HXP.out
            have e2 : (zk.set k y).getD k default = y := by rw [getD_set (by rw [M.out.len]; exact hlt), if_pos rfl]
            rw [e1, e2]
            exact ⟨fun q => ⟨q.1, fun _ => by have := of_decide_eq_true q.2; exact this⟩, fun q => ⟨q.1, by have := q.2 (by omega); exact decide_eq_true this⟩⟩)))
          clear hiff hp4 hc4 CE M HW4 hS0
          go_wp2_with fail
          refine NoPanic.normal ?_
          go_wp2_with fail
          go_roundw
          case rel => exact ⟨k + 1, by omega, by go_num, N.out⟩
          case measure => simp [intOf]; omega
      · obtain rfl : k = n := by omega
        have R := Lib.hid (hrel.done (xs := xs) (most := 64) (by omega) rfl L0.out.2.1 G1.out HN.out L0.out.2.2)
        clear hrel
        go_wp2_with fail
        go_ret
        exact R.out
end
end Go.Proofs.Ytpaknpemkmhapaa

/- what rec passes on of one of its rows, and of a list of them. -/
namespace Go.Proofs.Ytpaknpemkmhapaa
open Go.RowKit
theorem one_cR (u0 : Int) (u1 : Int) (u2 : Int) (u3 : Int) (u4 : Int) (u5 : Int) (A6 : Option Addr) (n6 c6 : Nat) (A7 : Option Addr) (n7 c7 : Nat) : (#[.int .i64 u0, .int .i64 u1, .int .i64 u2, .int .i64 u3, .int .i64 u4, .int .i64 u5, .slice A6 n6 c6, .slice A7 n7 c7] : Array Value).all (·.oneCell') = true := by simp [Value.oneCell']
theorem goes_cR {x : Rw} {y : ((((((Int × Int) × Int) × Int) × Int) × Int) × List Int) × List Lk} {s s' : Ps} {wr wr' : Bool} (h : Goes ((((((((numS 1 1099511627776).pair (numS 1 4)).pair (numS 0 1099511627776)).pair (numS 0 1099511627776)).pair (numS 0 1099511627776)).pair (numS 0 7)).pair memSp).pair lksSp) (((((((x.tx, x.st), x.fi), x.la), x.un), x.co), x.mem), x.lks) s wr y s' wr') : Goes rwSp x s wr (⟨y.1.1.1.1.1.1.1, y.1.1.1.1.1.1.2, y.1.1.1.1.1.2, y.1.1.1.1.2, y.1.1.1.2, y.1.1.2, y.1.2, y.2⟩ : Rw) s' wr' :=
  Goes.map (f := fun y : ((((((Int × Int) × Int) × Int) × Int) × Int) × List Int) × List Lk => (⟨y.1.1.1.1.1.1.1, y.1.1.1.1.1.1.2, y.1.1.1.1.1.2, y.1.1.1.1.2, y.1.1.1.2, y.1.1.2, y.1.2, y.2⟩ : Rw)) (g := fun x : Rw => (((((((x.tx, x.st), x.fi), x.la), x.un), x.co), x.mem), x.lks)) (fun _ => rfl) h
theorem inf_cR : (Try.prog.info? 52).map (·.size) = some 8 := by kernel_rfl
section
variable {H pb : Nat} {w : World}
set_option maxRecDepth 100000 in
set_option maxHeartbeats 8000000 in
theorem eachR_any (s : Ps) (wr : Bool) (q : Addr) (x : Xw) (h : Pst H w pb s wr) (hq : stab H w q.block) (hqc : w.cell? q = some (.pointer (some ⟨pb, 0, none⟩))) (hx : elR.inn H w x) (hr : s.room rwSp.cost) :
    Calls Try.prog 80 #[.agg (elR.cells x).toArray, .pointer (some q)] w (RetV rwSp (VE elR Xw.row (fun x => .agg (elR.cells x).toArray) H) (Xw.row x) H pb s wr w) := by
  have hr0 : s.room 18256 := hr.mono (by decide)
  have ecs : (Value.agg (elR.cells x).toArray) = .agg #[.int .i64 x.tx, .int .i64 x.st, .int .i64 x.fi, .int .i64 x.la, .int .i64 x.un, .int .i64 x.co, .slice x.mA x.mn x.mc, .slice x.kA x.kn x.kc] := rfl
  rw [ecs]
  clear ecs hr
  obtain ⟨r, hrr⟩ : ∃ r, w.heap.size = r := ⟨_, rfl⟩
  obtain ⟨W1, hW1⟩ : ∃ W1, W1 = (w.alloc (.cells #[.int .i64 x.tx, .int .i64 x.st, .int .i64 x.fi, .int .i64 x.la, .int .i64 x.un, .int .i64 x.co, .slice x.mA x.mn x.mc, .slice x.kA x.kn x.kc] 52)).alloc (.cells #[.int .i64 0, .int .i64 0, .int .i64 0, .int .i64 0, .int .i64 0, .int .i64 0, .slice none 0 0, .slice none 0 0] 52) := ⟨_, rfl⟩
  have HB : Hid (Below w.heap.size w W1) := Lib.hid (by rw [hW1]; exact ((Below.refl _ _).alloc (Nat.le_refl _) _).alloc (by simp) _)
  have HV : Hid (Bk W1 r 52 #[.int .i64 x.tx, .int .i64 x.st, .int .i64 x.fi, .int .i64 x.la, .int .i64 x.un, .int .i64 x.co, .slice x.mA x.mn x.mc, .slice x.kA x.kn x.kc]) := Lib.hid (by rw [hW1, ← hrr]; exact (Bk.new w _ _).bel ((Below.refl _ _).alloc (Nat.le_refl _) _) (by simp))
  have HRS : Hid (Bk W1 (r + 1) 52 #[.int .i64 0, .int .i64 0, .int .i64 0, .int .i64 0, .int .i64 0, .int .i64 0, .slice none 0 0, .slice none 0 0]) := Lib.hid (by
    rw [hW1, ← hrr]
    have := Bk.new (w.alloc (.cells #[.int .i64 x.tx, .int .i64 x.st, .int .i64 x.fi, .int .i64 x.la, .int .i64 x.un, .int .i64 x.co, .slice x.mA x.mn x.mc, .slice x.kA x.kn x.kc] 52)) 52 #[.int .i64 0, .int .i64 0, .int .i64 0, .int .i64 0, .int .i64 0, .int .i64 0, .slice none 0 0, .slice none 0 0]
    rw [World.size_alloc] at this
    exact this)
  have HQ : Hid (stab H W1 q.block) := Lib.hid (hq.calm (Calm.of_below HB.out))
  have hqc1 : W1.cell? q = some (.pointer (some ⟨pb, 0, none⟩)) := ((Calm.of_below (H := H) HB.out).cell hq).trans hqc
  have P0 : Hid (Pst H W1.drew pb s wr) := Lib.hid ((h.keeps (Keeps.of_below HB.out)).keeps ⟨Nat.le_refl _, fun _ _ => rfl⟩)
  have HX : Hid (elR.inn H W1.drew x) := Lib.hid (elR.calm H w _ x hx (by have := Calm.of_below (H := H) HB.out; exact ⟨this.os, this.tape, this.output, this.size, this.block⟩))
  have R0 := Lib.hid hr0
  have HLOW := Lib.hid h.low
  have HRR := Lib.hid hrr
  have HW := Lib.hid hW1
  have KS : Hid (∀ W, Calm H W1.drew W → W.cell? q = some (.pointer (some ⟨pb, 0, none⟩)) ∧ W.cell? ⟨r, 0, none⟩ = some (.int .i64 x.tx) ∧ W.cell? ⟨r, 1, none⟩ = some (.int .i64 x.st) ∧ W.cell? ⟨r, 2, none⟩ = some (.int .i64 x.fi) ∧ W.cell? ⟨r, 3, none⟩ = some (.int .i64 x.la) ∧ W.cell? ⟨r, 4, none⟩ = some (.int .i64 x.un) ∧ W.cell? ⟨r, 5, none⟩ = some (.int .i64 x.co) ∧ W.cell? ⟨r, 6, none⟩ = some (.slice x.mA x.mn x.mc) ∧ W.cell? ⟨r, 7, none⟩ = some (.slice x.kA x.kn x.kc)) := Lib.hid (fun W hc => ⟨(hc.cell (p := q) HQ.out).trans hqc1, ((HV.out.calm (w1 := W) rfl (by exact (⟨hc.os, hc.tape, hc.output, hc.size, hc.block⟩ : Calm H W1 W))).cell 0), ((HV.out.calm (w1 := W) rfl (by exact (⟨hc.os, hc.tape, hc.output, hc.size, hc.block⟩ : Calm H W1 W))).cell 1), ((HV.out.calm (w1 := W) rfl (by exact (⟨hc.os, hc.tape, hc.output, hc.size, hc.block⟩ : Calm H W1 W))).cell 2), ((HV.out.calm (w1 := W) rfl (by exact (⟨hc.os, hc.tape, hc.output, hc.size, hc.block⟩ : Calm H W1 W))).cell 3), ((HV.out.calm (w1 := W) rfl (by exact (⟨hc.os, hc.tape, hc.output, hc.size, hc.block⟩ : Calm H W1 W))).cell 4), ((HV.out.calm (w1 := W) rfl (by exact (⟨hc.os, hc.tape, hc.output, hc.size, hc.block⟩ : Calm H W1 W))).cell 5), ((HV.out.calm (w1 := W) rfl (by exact (⟨hc.os, hc.tape, hc.output, hc.size, hc.block⟩ : Calm H W1 W))).cell 6), ((HV.out.calm (w1 := W) rfl (by exact (⟨hc.os, hc.tape, hc.output, hc.size, hc.block⟩ : Calm H W1 W))).cell 7)⟩)
  clear h hr0 hW1 hq hqc hqc1 hx
  go_enter Try.func80, Try.ntmps80
  go_wp2_with fail
  (try rw [hrr])
  rw [← HW.out]
  clear HW hrr
  have hS0 := KS.out W1.drew (Calm.refl H _)
  refine wp_region_noPanic ?_
  refine upto_start (fun w' => w'.cell? q = some (.pointer (some ⟨pb, 0, none⟩)) ∧ w'.cell? ⟨r, 0, none⟩ = some (.int .i64 x.tx) ∧ w'.cell? ⟨r, 1, none⟩ = some (.int .i64 x.st) ∧ w'.cell? ⟨r, 2, none⟩ = some (.int .i64 x.fi) ∧ w'.cell? ⟨r, 3, none⟩ = some (.int .i64 x.la) ∧ w'.cell? ⟨r, 4, none⟩ = some (.int .i64 x.un) ∧ w'.cell? ⟨r, 5, none⟩ = some (.int .i64 x.co) ∧ w'.cell? ⟨r, 6, none⟩ = some (.slice x.mA x.mn x.mc) ∧ w'.cell? ⟨r, 7, none⟩ = some (.slice x.kA x.kn x.kc)) 33 (by kernel_rfl) ?_
  change Upto _ _ _ _ _ 34 _ _ _
  refine Upto.take (i := 0) (v := ?_) rfl (by kernel_rfl) (fun _ _ _ h => h) rfl (fun w' hS => ?_) hS0 ?_
  rotate_left
  · (try dsimp only at hS); go_split_ands; go_simp; (try with_reducible rfl)
  simp only [Act.put, List.setIfInBounds_toArray, List.set_cons_zero, List.set_cons_succ]
  refine Upto.take (i := 1) (v := ?_) rfl (by kernel_rfl) (fun _ _ _ h => h) rfl (fun w' hS => ?_) hS0 ?_
  rotate_left
  · (try dsimp only at hS); go_split_ands; go_simp; (try with_reducible rfl)
  simp only [Act.put, List.setIfInBounds_toArray, List.set_cons_zero, List.set_cons_succ]
  refine Upto.take (i := 2) (v := ?_) rfl (by kernel_rfl) (fun _ _ _ h => h) rfl (fun w' hS => ?_) hS0 ?_
  rotate_left
  · (try dsimp only at hS); go_split_ands; go_simp; (try with_reducible rfl)
  simp only [Act.put, List.setIfInBounds_toArray, List.set_cons_zero, List.set_cons_succ]
  refine Upto.take (i := 4) (v := ?_) rfl (by kernel_rfl) (fun _ _ _ h => h) rfl (fun w' hS => ?_) hS0 ?_
  rotate_left
  · (try dsimp only at hS); go_split_ands; go_simp; (try with_reducible rfl)
  simp only [Act.put, List.setIfInBounds_toArray, List.set_cons_zero, List.set_cons_succ]
  refine Upto.take (i := 5) (v := ?_) rfl (by kernel_rfl) (fun _ _ _ h => h) rfl (fun w' hS => ?_) hS0 ?_
  rotate_left
  · (try dsimp only at hS); go_split_ands; go_simp; (try with_reducible rfl)
  simp only [Act.put, List.setIfInBounds_toArray, List.set_cons_zero, List.set_cons_succ]
  refine Upto.take (i := 6) (v := ?_) rfl (by kernel_rfl) (fun _ _ _ h => h) rfl (fun w' hS => ?_) hS0 ?_
  rotate_left
  · (try dsimp only at hS); go_split_ands; go_simp; (try with_reducible rfl)
  simp only [Act.put, List.setIfInBounds_toArray, List.set_cons_zero, List.set_cons_succ]
  refine Upto.take (i := 8) (v := ?_) rfl (by kernel_rfl) (fun _ _ _ h => h) rfl (fun w' hS => ?_) hS0 ?_
  rotate_left
  · (try dsimp only at hS); go_split_ands; go_simp; (try with_reducible rfl)
  simp only [Act.put, List.setIfInBounds_toArray, List.set_cons_zero, List.set_cons_succ]
  refine Upto.take (i := 9) (v := ?_) rfl (by kernel_rfl) (fun _ _ _ h => h) rfl (fun w' hS => ?_) hS0 ?_
  rotate_left
  · (try dsimp only at hS); go_split_ands; go_simp; (try with_reducible rfl)
  simp only [Act.put, List.setIfInBounds_toArray, List.set_cons_zero, List.set_cons_succ]
  refine Upto.take (i := 10) (v := ?_) rfl (by kernel_rfl) (fun _ _ _ h => h) rfl (fun w' hS => ?_) hS0 ?_
  rotate_left
  · (try dsimp only at hS); go_split_ands; go_simp; (try with_reducible rfl)
  simp only [Act.put, List.setIfInBounds_toArray, List.set_cons_zero, List.set_cons_succ]
  refine Upto.take (i := 12) (v := ?_) rfl (by kernel_rfl) (fun _ _ _ h => h) rfl (fun w' hS => ?_) hS0 ?_
  rotate_left
  · (try dsimp only at hS); go_split_ands; go_simp; (try with_reducible rfl)
  simp only [Act.put, List.setIfInBounds_toArray, List.set_cons_zero, List.set_cons_succ]
  refine Upto.take (i := 13) (v := ?_) rfl (by kernel_rfl) (fun _ _ _ h => h) rfl (fun w' hS => ?_) hS0 ?_
  rotate_left
  · (try dsimp only at hS); go_split_ands; go_simp; (try with_reducible rfl)
  simp only [Act.put, List.setIfInBounds_toArray, List.set_cons_zero, List.set_cons_succ]
  refine Upto.take (i := 14) (v := ?_) rfl (by kernel_rfl) (fun _ _ _ h => h) rfl (fun w' hS => ?_) hS0 ?_
  rotate_left
  · (try dsimp only at hS); go_split_ands; go_simp; (try with_reducible rfl)
  simp only [Act.put, List.setIfInBounds_toArray, List.set_cons_zero, List.set_cons_succ]
  refine Upto.take (i := 16) (v := ?_) rfl (by kernel_rfl) (fun _ _ _ h => h) rfl (fun w' hS => ?_) hS0 ?_
  rotate_left
  · (try dsimp only at hS); go_split_ands; go_simp; (try with_reducible rfl)
  simp only [Act.put, List.setIfInBounds_toArray, List.set_cons_zero, List.set_cons_succ]
  refine Upto.take (i := 17) (v := ?_) rfl (by kernel_rfl) (fun _ _ _ h => h) rfl (fun w' hS => ?_) hS0 ?_
  rotate_left
  · (try dsimp only at hS); go_split_ands; go_simp; (try with_reducible rfl)
  simp only [Act.put, List.setIfInBounds_toArray, List.set_cons_zero, List.set_cons_succ]
  refine Upto.take (i := 18) (v := ?_) rfl (by kernel_rfl) (fun _ _ _ h => h) rfl (fun w' hS => ?_) hS0 ?_
  rotate_left
  · (try dsimp only at hS); go_split_ands; go_simp; (try with_reducible rfl)
  simp only [Act.put, List.setIfInBounds_toArray, List.set_cons_zero, List.set_cons_succ]
  refine Upto.take (i := 20) (v := ?_) rfl (by kernel_rfl) (fun _ _ _ h => h) rfl (fun w' hS => ?_) hS0 ?_
  rotate_left
  · (try dsimp only at hS); go_split_ands; go_simp; (try with_reducible rfl)
  simp only [Act.put, List.setIfInBounds_toArray, List.set_cons_zero, List.set_cons_succ]
  refine Upto.take (i := 21) (v := ?_) rfl (by kernel_rfl) (fun _ _ _ h => h) rfl (fun w' hS => ?_) hS0 ?_
  rotate_left
  · (try dsimp only at hS); go_split_ands; go_simp; (try with_reducible rfl)
  simp only [Act.put, List.setIfInBounds_toArray, List.set_cons_zero, List.set_cons_succ]
  refine Upto.take (i := 22) (v := ?_) rfl (by kernel_rfl) (fun _ _ _ h => h) rfl (fun w' hS => ?_) hS0 ?_
  rotate_left
  · (try dsimp only at hS); go_split_ands; go_simp; (try with_reducible rfl)
  simp only [Act.put, List.setIfInBounds_toArray, List.set_cons_zero, List.set_cons_succ]
  refine Upto.take (i := 24) (v := ?_) rfl (by kernel_rfl) (fun _ _ _ h => h) rfl (fun w' hS => ?_) hS0 ?_
  rotate_left
  · (try dsimp only at hS); go_split_ands; go_simp; (try with_reducible rfl)
  simp only [Act.put, List.setIfInBounds_toArray, List.set_cons_zero, List.set_cons_succ]
  refine Upto.take (i := 25) (v := ?_) rfl (by kernel_rfl) (fun _ _ _ h => h) rfl (fun w' hS => ?_) hS0 ?_
  rotate_left
  · (try dsimp only at hS); go_split_ands; go_simp; (try with_reducible rfl)
  simp only [Act.put, List.setIfInBounds_toArray, List.set_cons_zero, List.set_cons_succ]
  refine Upto.take (i := 26) (v := ?_) rfl (by kernel_rfl) (fun _ _ _ h => h) rfl (fun w' hS => ?_) hS0 ?_
  rotate_left
  · (try dsimp only at hS); go_split_ands; go_simp; (try with_reducible rfl)
  simp only [Act.put, List.setIfInBounds_toArray, List.set_cons_zero, List.set_cons_succ]
  refine Upto.take (i := 28) (v := ?_) rfl (by kernel_rfl) (fun _ _ _ h => h) rfl (fun w' hS => ?_) hS0 ?_
  rotate_left
  · (try dsimp only at hS); go_split_ands; go_simp; (try with_reducible rfl)
  simp only [Act.put, List.setIfInBounds_toArray, List.set_cons_zero, List.set_cons_succ]
  refine Upto.take (i := 29) (v := ?_) rfl (by kernel_rfl) (fun _ _ _ h => h) rfl (fun w' hS => ?_) hS0 ?_
  rotate_left
  · (try dsimp only at hS); go_split_ands; go_simp; (try with_reducible rfl)
  simp only [Act.put, List.setIfInBounds_toArray, List.set_cons_zero, List.set_cons_succ]
  refine Upto.take (i := 30) (v := ?_) rfl (by kernel_rfl) (fun _ _ _ h => h) rfl (fun w' hS => ?_) hS0 ?_
  rotate_left
  · (try dsimp only at hS); go_split_ands; go_simp; (try with_reducible rfl)
  simp only [Act.put, List.setIfInBounds_toArray, List.set_cons_zero, List.set_cons_succ]
  have C0 := Lib.hid (Calm.refl H W1.drew)
  have X1 := Lib.hid (HX.out)
  have CT1 := Lib.hid (seq_any (H := H) (pb := pb) s wr x.tx P0.out (elR.calm H _ _ x HX.out C0.out).tx (R0.out.mono (by decide)))
  refine Upto.law (i := 3) rfl (by kernel_rfl) rfl (fun K hK => ?_)
  refine wp_enter (f := 55) (args := #[.pointer (some ⟨pb, 0, none⟩), .int .i64 x.tx]) (by go_simp) CT1.out ?_
  rintro e V1 ⟨_, y1, s1, wr1, rfl, ⟨rfl, hi1⟩, hg1, hp1, hc1⟩
  have hS1 := KS.out V1 (C0.out.trans hc1)
  refine ⟨_, rfl, hK _ _ hS1 ?_⟩
  have C1 := Lib.hid (C0.out.trans hc1)
  have R1 : Hid (s1.room 18246) := Lib.hid (hg1.room (c := 18246) (R0.out.mono (by decide)))
  have G1 := Lib.hid hg1
  have P1 := Lib.hid hp1
  have D1 := Lib.hid hc1
  have I1 := Lib.hid hi1
  clear hK CT1 hg1 hp1 hc1 hS0 X1 hi1
  have hS0 := hS1
  clear hS1
  simp only [Act.put, List.setIfInBounds_toArray, List.set_cons_zero, List.set_cons_succ]
  have X2 := Lib.hid (HX.out)
  have CT2 := Lib.hid (num_any (H := H) (pb := pb) s1 wr1 x.st 1 4 P1.out (elR.calm H _ _ x HX.out C1.out).st (by omega) (by omega) (by omega) (by omega) (R1.out.mono (by decide)))
  refine Upto.law (i := 7) rfl (by kernel_rfl) rfl (fun K hK => ?_)
  refine wp_enter (f := 54) (args := #[.pointer (some ⟨pb, 0, none⟩), .int .i64 x.st, .int .i64 1, .int .i64 4]) (by go_simp) CT2.out ?_
  rintro e V2 ⟨_, y2, s2, wr2, rfl, ⟨rfl, hi2⟩, hg2, hp2, hc2⟩
  have hS2 := KS.out V2 (C1.out.trans hc2)
  refine ⟨_, rfl, hK _ _ hS2 ?_⟩
  have C2 := Lib.hid (C1.out.trans hc2)
  have R2 : Hid (s2.room 18236) := Lib.hid (hg2.room (c := 18236) (R1.out.mono (by decide)))
  have G2 := Lib.hid hg2
  have P2 := Lib.hid hp2
  have D2 := Lib.hid hc2
  have I2 := Lib.hid hi2
  clear hK CT2 hg2 hp2 hc2 hS0 X2 hi2
  have hS0 := hS2
  clear hS2
  simp only [Act.put, List.setIfInBounds_toArray, List.set_cons_zero, List.set_cons_succ]
  have X3 := Lib.hid (HX.out)
  have CT3 := Lib.hid (seqOrNone_any (H := H) (pb := pb) s2 wr2 x.fi P2.out (elR.calm H _ _ x HX.out C2.out).fi (R2.out.mono (by decide)))
  refine Upto.law (i := 11) rfl (by kernel_rfl) rfl (fun K hK => ?_)
  refine wp_enter (f := 56) (args := #[.pointer (some ⟨pb, 0, none⟩), .int .i64 x.fi]) (by go_simp) CT3.out ?_
  rintro e V3 ⟨_, y3, s3, wr3, rfl, ⟨rfl, hi3⟩, hg3, hp3, hc3⟩
  have hS3 := KS.out V3 (C2.out.trans hc3)
  refine ⟨_, rfl, hK _ _ hS3 ?_⟩
  have C3 := Lib.hid (C2.out.trans hc3)
  have R3 : Hid (s3.room 18226) := Lib.hid (hg3.room (c := 18226) (R2.out.mono (by decide)))
  have G3 := Lib.hid hg3
  have P3 := Lib.hid hp3
  have D3 := Lib.hid hc3
  have I3 := Lib.hid hi3
  clear hK CT3 hg3 hp3 hc3 hS0 X3 hi3
  have hS0 := hS3
  clear hS3
  simp only [Act.put, List.setIfInBounds_toArray, List.set_cons_zero, List.set_cons_succ]
  have X4 := Lib.hid (HX.out)
  have CT4 := Lib.hid (seqOrNone_any (H := H) (pb := pb) s3 wr3 x.la P3.out (elR.calm H _ _ x HX.out C3.out).la (R3.out.mono (by decide)))
  refine Upto.law (i := 15) rfl (by kernel_rfl) rfl (fun K hK => ?_)
  refine wp_enter (f := 56) (args := #[.pointer (some ⟨pb, 0, none⟩), .int .i64 x.la]) (by go_simp) CT4.out ?_
  rintro e V4 ⟨_, y4, s4, wr4, rfl, ⟨rfl, hi4⟩, hg4, hp4, hc4⟩
  have hS4 := KS.out V4 (C3.out.trans hc4)
  refine ⟨_, rfl, hK _ _ hS4 ?_⟩
  have C4 := Lib.hid (C3.out.trans hc4)
  have R4 : Hid (s4.room 18216) := Lib.hid (hg4.room (c := 18216) (R3.out.mono (by decide)))
  have G4 := Lib.hid hg4
  have P4 := Lib.hid hp4
  have D4 := Lib.hid hc4
  have I4 := Lib.hid hi4
  clear hK CT4 hg4 hp4 hc4 hS0 X4 hi4
  have hS0 := hS4
  clear hS4
  simp only [Act.put, List.setIfInBounds_toArray, List.set_cons_zero, List.set_cons_succ]
  have X5 := Lib.hid (HX.out)
  have CT5 := Lib.hid (seqOrNone_any (H := H) (pb := pb) s4 wr4 x.un P4.out (elR.calm H _ _ x HX.out C4.out).un (R4.out.mono (by decide)))
  refine Upto.law (i := 19) rfl (by kernel_rfl) rfl (fun K hK => ?_)
  refine wp_enter (f := 56) (args := #[.pointer (some ⟨pb, 0, none⟩), .int .i64 x.un]) (by go_simp) CT5.out ?_
  rintro e V5 ⟨_, y5, s5, wr5, rfl, ⟨rfl, hi5⟩, hg5, hp5, hc5⟩
  have hS5 := KS.out V5 (C4.out.trans hc5)
  refine ⟨_, rfl, hK _ _ hS5 ?_⟩
  have C5 := Lib.hid (C4.out.trans hc5)
  have R5 : Hid (s5.room 18206) := Lib.hid (hg5.room (c := 18206) (R4.out.mono (by decide)))
  have G5 := Lib.hid hg5
  have P5 := Lib.hid hp5
  have D5 := Lib.hid hc5
  have I5 := Lib.hid hi5
  clear hK CT5 hg5 hp5 hc5 hS0 X5 hi5
  have hS0 := hS5
  clear hS5
  simp only [Act.put, List.setIfInBounds_toArray, List.set_cons_zero, List.set_cons_succ]
  have X6 := Lib.hid (HX.out)
  have CT6 := Lib.hid (node_any (H := H) (pb := pb) s5 wr5 x.co P5.out (elR.calm H _ _ x HX.out C5.out).co (R5.out.mono (by decide)))
  refine Upto.law (i := 23) rfl (by kernel_rfl) rfl (fun K hK => ?_)
  refine wp_enter (f := 59) (args := #[.pointer (some ⟨pb, 0, none⟩), .int .i64 x.co]) (by go_simp) CT6.out ?_
  rintro e V6 ⟨_, y6, s6, wr6, rfl, ⟨rfl, hi6⟩, hg6, hp6, hc6⟩
  have hS6 := KS.out V6 (C5.out.trans hc6)
  refine ⟨_, rfl, hK _ _ hS6 ?_⟩
  have C6 := Lib.hid (C5.out.trans hc6)
  have R6 : Hid (s6.room 18196) := Lib.hid (hg6.room (c := 18196) (R5.out.mono (by decide)))
  have G6 := Lib.hid hg6
  have P6 := Lib.hid hp6
  have D6 := Lib.hid hc6
  have I6 := Lib.hid hi6
  clear hK CT6 hg6 hp6 hc6 hS0 X6 hi6
  have hS0 := hS6
  clear hS6
  simp only [Act.put, List.setIfInBounds_toArray, List.set_cons_zero, List.set_cons_succ]
  have X7 := Lib.hid (HX.out)
  have CT7 := Lib.hid (members_any (H := H) (pb := pb) s6 wr6 x.mA x.mn x.mc x.mem P6.out (elR.calm H _ _ x HX.out C6.out).mem (R6.out.mono (by decide)))
  refine Upto.law (i := 27) rfl (by kernel_rfl) rfl (fun K hK => ?_)
  refine wp_enter (f := 60) (args := #[.pointer (some ⟨pb, 0, none⟩), .slice x.mA x.mn x.mc]) (by go_simp) CT7.out ?_
  rintro e V7 ⟨_, y7, s7, wr7, rfl, ⟨A7, n7, c7, l7, rfl, hi7, rfl⟩, hg7, hp7, hc7⟩
  have hS7 := KS.out V7 (C6.out.trans hc7)
  refine ⟨_, rfl, hK _ _ hS7 ?_⟩
  have C7 := Lib.hid (C6.out.trans hc7)
  have R7 : Hid (s7.room 15626) := Lib.hid (hg7.room (c := 15626) (R6.out.mono (by decide)))
  have G7 := Lib.hid hg7
  have P7 := Lib.hid hp7
  have D7 := Lib.hid hc7
  have I7 := Lib.hid hi7
  clear hK CT7 hg7 hp7 hc7 hS0 X7 hi7
  have hS0 := hS7
  clear hS7
  simp only [Act.put, List.setIfInBounds_toArray, List.set_cons_zero, List.set_cons_succ]
  have X8 := Lib.hid (HX.out)
  have CT8 := Lib.hid (locks_any (H := H) (pb := pb) s7 wr7 x.kA x.kn x.kc x.lks P7.out (elR.calm H _ _ x HX.out C7.out).lks (R7.out.mono (by decide)))
  refine Upto.law (i := 31) rfl (by kernel_rfl) rfl (fun K hK => ?_)
  refine wp_enter (f := 61) (args := #[.pointer (some ⟨pb, 0, none⟩), .slice x.kA x.kn x.kc]) (by go_simp) CT8.out ?_
  rintro e V8 ⟨_, y8, s8, wr8, rfl, ⟨A8, n8, c8, l8, rfl, hi8, rfl⟩, hg8, hp8, hc8⟩
  have hS8 := KS.out V8 (C7.out.trans hc8)
  refine ⟨_, rfl, hK _ _ hS8 ?_⟩
  have C8 := Lib.hid (C7.out.trans hc8)
  have R8 : Hid (s8.room 0) := Lib.hid (hg8.room (c := 0) (R7.out.mono (by decide)))
  have G8 := Lib.hid hg8
  have P8 := Lib.hid hp8
  have D8 := Lib.hid hc8
  have I8 := Lib.hid hi8
  clear hK CT8 hg8 hp8 hc8 hS0 X8 hi8
  have hS0 := hS8
  clear hS8
  simp only [Act.put, List.setIfInBounds_toArray, List.set_cons_zero, List.set_cons_succ]
  refine Upto.take (i := 32) (v := ?_) rfl (by kernel_rfl) (fun _ _ _ h => h) rfl (fun w' hS => ?_) hS0 ?_
  rotate_left
  · (try dsimp only at hS); go_split_ands; go_simp; (try with_reducible rfl)
  simp only [Act.put, List.setIfInBounds_toArray, List.set_cons_zero, List.set_cons_succ]
  have RB := Lib.hid (HRS.out.calm (w1 := V8) rfl (by have := C8.out; exact ⟨this.os, this.tape, this.output, this.size, this.block⟩ : Calm H W1 V8))
  have F : Hid (RetV rwSp (VE elR Xw.row (fun x => .agg (elR.cells x).toArray) H) (Xw.row x) H pb s wr w (.returned (.agg #[.int .i64 y1, .int .i64 y2, .int .i64 y3, .int .i64 y4, .int .i64 y5, .int .i64 y6, .slice A7 n7 c7, .slice A8 n8 c8])) (V8.setRow (r + 1) #[.int .i64 y1, .int .i64 y2, .int .i64 y3, .int .i64 y4, .int .i64 y5, .int .i64 y6, .slice A7 n7 c7, .slice A8 n8 c8])) := Lib.hid (by
    have hcw : Calm H w V8 := (Calm.of_below HB.out).trans (by have := C8.out; exact ⟨this.os, this.tape, this.output, this.size, this.block⟩ : Calm H W1 V8)
    obtain ⟨a, b⟩ := P8.out.row RB.out rfl (by have := HRR.out; omega) hcw #[.int .i64 y1, .int .i64 y2, .int .i64 y3, .int .i64 y4, .int .i64 y5, .int .i64 y6, .slice A7 n7 c7, .slice A8 n8 c8]
    have hin : elR.inn H V8 (⟨y1, y2, y3, y4, y5, y6, A7, n7, c7, l7, A8, n8, c8, l8⟩ : Xw) := ⟨I1.out, I2.out, I3.out, I4.out, I5.out, I6.out, I7.out.calm D8.out, I8.out⟩
    refine ⟨_, Xw.row (⟨y1, y2, y3, y4, y5, y6, A7, n7, c7, l7, A8, n8, c8, l8⟩ : Xw), s8, wr8, rfl, ⟨(⟨y1, y2, y3, y4, y5, y6, A7, n7, c7, l7, A8, n8, c8, l8⟩ : Xw), rfl, elR.apart H _ _ _ (r + 1) 52 _ _ rfl hin (by have := HRR.out; have := HLOW.out; omega) RB.out (grown_setRow _ _ _), rfl⟩, ?_, a, b⟩
    exact goes_cR (x := Xw.row x) (((((((G1.out.pair G2.out).pair G3.out).pair G4.out).pair G5.out).pair G6.out).pair G7.out.ids).pair G8.out.ids))
  have RF := Lib.hid (RB.out.rowp #[.int .i64 y1, .int .i64 y2, .int .i64 y3, .int .i64 y4, .int .i64 y5, .int .i64 y6, .slice A7 n7 c7, .slice A8 n8 c8])
  refine Upto.tail rfl (by kernel_rfl) ?_
  simp only [List.drop_succ_cons, List.drop_zero]
  go_wp2_with (refine wpList_store_row rfl 52 _ _ rfl (r + 1) #[.int .i64 y1, .int .i64 y2, .int .i64 y3, .int .i64 y4, .int .i64 y5, .int .i64 y6, .slice A7 n7 c7, .slice A8 n8 c8] rfl rfl 52 _ RB.out inf_cR rfl (one_cR _ _ _ _ _ _ _ _ _ _ _ _) ?_; simp only [Act.put])
  refine NoPanic.normal ?_
  (try simp only [Exit.inBlock, Exit.then])
  go_wp2_with fail
  refine bodyPost_ret (results_cell_row rfl _ _ (r + 1) 52 _ (0, 0) _ rfl RF.out Try.underlying52 rfl inf_cR) rfl ?_
  exact F.out

set_option maxRecDepth 100000 in
set_option maxHeartbeats 4000000 in
theorem rows_any (s : Ps) (wr : Bool) (A : Option Addr) (n c : Nat) (xs : List Xw) (h : Pst H w pb s wr) (hx : Sl elR H w A n c xs) (hr : s.room rwsSp.cost) :
    Calls Try.prog 62 #[.pointer (some ⟨pb, 0, none⟩), .slice A n c] w (RetV rwsSp (VL elR Xw.row H) (xs.map Xw.row) H pb s wr w) := by
  obtain ⟨W1, hW1⟩ : ∃ W1, W1 = w.alloc (.cells #[.pointer (some ⟨pb, 0, none⟩)] 95) := ⟨_, rfl⟩
  have hb : Below w.heap.size w W1 := by rw [hW1]; exact (Below.refl _ _).alloc (Nat.le_refl _) _
  have hbk : Bk W1 w.heap.size 95 #[.pointer (some ⟨pb, 0, none⟩)] := by rw [hW1]; exact Bk.new w _ _
  have CL := Lib.hid (listR_any (H := H) (pb := pb) (w := W1) s wr A n c xs ⟨w.heap.size, 0, none⟩ (h.keeps (Keeps.of_below hb)) (hx.calm (Calm.of_below hb)) hr
    (fun w1 s1 wr1 x hc hp hi hr1 => eachR_any s1 wr1 ⟨w.heap.size, 0, none⟩ x hp ((hbk.stab rfl).calm hc) ((hbk.calm rfl hc).cell 0) hi hr1))
  have HB := Lib.hid hb
  have HW := Lib.hid hW1
  have k0 : W1.cell? ⟨w.heap.size, 0, none⟩ = some (.pointer (some ⟨pb, 0, none⟩)) := hbk.cell 0
  clear h hx hr hW1 hb hbk
  go_enter Try.func62, Try.ntmps62
  go_wp2_with fail
  rw [← HW.out]
  clear HW
  go_wp2_with fail
  refine CL.out.mono ?_
  rintro e w1 ⟨v, y, s', wr', rfl, ⟨A1, n1, c1, l1, rfl, hsl, hy⟩, hg, hp, hc⟩
  have R : Hid (RetV rwsSp (VL elR Xw.row H) (xs.map Xw.row) H pb s wr w (.returned (.slice A1 n1 c1)) w1) := Lib.hid ⟨_, y, s', wr', rfl, ⟨A1, n1, c1, l1, rfl, hsl, hy⟩, hg, hp, (Calm.of_below HB.out).trans hc⟩
  clear hsl hg hp hc hy
  go_wp2_with fail
  go_ret
  exact R.out
end
end Go.Proofs.Ytpaknpemkmhapaa

/- how each kind of record is passed on; a record's value. -/
namespace Go.Proofs.Ytpaknpemkmhapaa
open Go.RowKit
abbrev seqS : Spc Int := numS 1 1099511627776
abbrev seq0S : Spc Int := numS 0 1099511627776
def spU : Spc Rc := ((((seqS.pair seq0S).pair (textSp 1 16)).pair valSp).pair valSp).map mkU uU
def spC : Spc Rc := ((((seqS.pair seq0S).pair seq0S).pair (textSp 1 16)).pair valSp).map mkC uC
def spP : Spc Rc := ((((seqS.pair seq0S).pair (numS 0 7)).pair memSp).pair lksSp).map mkP uP
def spE (k : Int) : Spc Rc := (seqS.pair seq0S).map (mkE k) uE
def spK : Spc Rc := (((rwsSp.pair dtsSp).pair ddsSp).pair pastSp).map mkK uK
def spD : Spc Rc := (seqS.pair memSp).map mkD uD
def spF : Spc Rc := seqS.map mkF (fun r => r.tx)
/-- Nothing is passed on. -/
def spB : Spc Rc := ⟨fun σ => (rc0 7, σ), fun _ => [], fun _ => True, fun _ => rc0 7, 0⟩
theorem noneSp_goes (x : Rc) (s : Ps) (wr : Bool) : Goes spB x s wr (rc0 7) s wr := by
  cases s with
  | out l B => exact ⟨l, rfl, ⟨fun h => ⟨h, trivial⟩, fun h => h.1⟩, fun _ => ⟨rfl, (List.append_nil l).symm⟩⟩
  | inp σ => exact ⟨rfl, rfl, ⟨fun h => ⟨h, trivial⟩, fun h => h.1⟩⟩
def VR (H : Nat) (w : World) (v : Value) (y : Rc) : Prop := ∃ x : Xr, v = x.val ∧ XrIn H w x ∧ x.read = y
theorem i64_of (z : Int) (h : decide (-9223372036854775808 ≤ z ∧ z ≤ 9223372036854775807) = true) : i64 z := by
  have := of_decide_eq_true h
  exact this
theorem inf_rec : (Try.prog.info? 30).map (·.size) = some 16 := by kernel_rfl
theorem rec_one (a : Array Value) (h : a.all (·.oneCell') = true) : a.all (·.oneCell') = true := h
end Go.Proofs.Ytpaknpemkmhapaa

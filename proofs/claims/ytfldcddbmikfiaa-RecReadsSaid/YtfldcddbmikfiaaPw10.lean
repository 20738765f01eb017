/- What it says: contracts and plain mathematics that the laws' walks use, 10 of 34: each part's own remark says what; no condition. -/
import Derived.Test.YtfldcddbmikfiaaPw6
import Derived.Test.YtfldcddbmikfiaaPw7
import Derived.Test.YtfldcddbmikfiaaPw9
import Derived.Lib.MinMax

set_option linter.unusedSimpArgs false
set_option linter.unusedVariables false
set_option linter.deprecated false
set_option linter.unusedSectionVars false
set_option linter.all false

/- rec's list, at transactions: what it passes on. -/
namespace Go.Proofs.Ytfldcddbmikfiaa
open Go.RowKit
theorem mk_S (n : Nat) (hn : n ≤ 256) (W : World) : (Instr.makeSlice 24 (.int .i64 (n : Int)) (.int .i64 (n : Int))).run Try.prog W =
    .ok (.slice (some ⟨W.heap.size, 0, none⟩) n n) (W.alloc (.cells (madeCells #[.int .i64 0] (n * elI.size)) 3)) := by
  have hz : (Try.prog.info? 3).map (fun i => (i.zero, i.size, i.bytes)) = some (some (.int .i64 0), 1, 8) := by kernel_rfl
  obtain ⟨i0, hi, hz0, hz1, hz2⟩ := info_parts hz
  have := run_make (P := Try.prog) W 24 3 i0 (.int .i64 0) Try.underlying24 hi hz0 .i64 .i64 n n (by omega) (by omega) (by rw [hz2]; omega) (by omega)
  rw [this, hz1, Int.toNat_natCast]
  rfl
theorem itself_S (x : Int) (w : World) : Calls Try.prog 73 #[.int .i64 x] w (fun e w' => e = .returned (.int .i64 x) ∧ w = w') := by
  go_enter Try.func73, Try.ntmps73
  go_wp2_with fail
  go_ret
  exact ⟨rfl, rfl⟩
section
variable {H pb : Nat} {w : World}
set_option maxRecDepth 100000 in
set_option maxHeartbeats 8000000 in
theorem listS_any [Inhabited Prop] (s : Ps) (wr : Bool) (A : Option Addr) (n0 c0 : Nat) (xs : List Int) (h : Pst H w pb s wr) (hx : Sl elI H w A n0 c0 xs) (hr : s.room (10 + 256 * (numS 1 1099511627776).cost)) :
    Calls Try.prog 72 #[.pointer (some ⟨pb, 0, none⟩), .slice A n0 c0, .int .i64 256, .func (.func 52) #[.pointer (some ⟨pb, 0, none⟩)] #[], .func (.func 73) #[] #[]] w
      (RetV ((numS 1 1099511627776).list 256 (· < ·)) (VL elI id H) (xs.map id) H pb s wr w) := by
  have hmaxn : n0 ≤ 9223372036854775807 := by have := hx.cap; have := hx.max; unfold maxLen at this; omega
  have CC := Lib.hid (count_any (H := H) (pb := pb) s wr (n0 : Int) 256 h (by omega) (by omega) (hr.mono (by omega)))
  have HX := Lib.hid hx
  have HR := Lib.hid hr
  have HL := Lib.hid h.low
  clear h hx hr
  go_enter Try.func72, Try.ntmps72
  go_wp2_with fail
  refine CC.out.mono ?_
  rintro e w1 ⟨_, z, s1, wr1, rfl, ⟨rfl, hz0, hz1⟩, hg, hp, hc⟩
  obtain ⟨n, hn⟩ : ∃ n : Nat, (n : Int) = min z 256 := ⟨(min z 256).toNat, by omega⟩
  have hmin : min z 256 = (n : Int) := hn.symm
  have hlen : xs.length = n0 := HX.out.len
  have G1 : Hid (Goes (cntS 256) (((xs.map (id : Int → Int)).length : Nat) : Int) s wr z s1 wr1) := Lib.hid (by rw [List.length_map, hlen]; exact hg)
  have P1 := Lib.hid hp
  have C1 := Lib.hid hc
  have HN : Hid ((n : Int) = min z 256) := Lib.hid hn
  have hn256 : n ≤ 256 := by omega
  clear hg hp hc CC hn hlen hz0 hz1
  by_cases h0 : n = 0
  · subst h0
    have R := Lib.hid (list_empty (E := elI) (rd := id) (S := (numS 1 1099511627776)) (lt := (· < ·)) (xs := xs) P1.out C1.out (most := 256) (by omega) G1.out HN.out)
    go_wp2_with fail
    go_ret
    exact R.out
  · have hne : ((n : Int) == 0) = false := by simp; omega
    have kmk := mk_S n hn256
    obtain ⟨Z, hZ⟩ : ∃ Z, Z = madeCells #[.int .i64 0] (n * elI.size) := ⟨_, rfl⟩
    rw [← hZ] at kmk
    obtain ⟨g, hgd⟩ : ∃ g, w1.heap.size = g := ⟨_, rfl⟩
    have RW0 : Hid (Row elI 3 (w1.alloc (.cells Z 3)) g n (List.replicate n (0 : Int))) := Lib.hid (by rw [hZ, ← hgd]; exact Row.made w1 ((0 : Int)) #[.int .i64 0] rfl n)
    have B1 : Hid (Below w1.heap.size w1 (w1.alloc (.cells Z 3))) := Lib.hid ((Below.refl _ _).alloc (Nat.le_refl _) _)
    have P1' : Hid (Pst H (w1.alloc (.cells Z 3)) pb s1 wr1) := Lib.hid (P1.out.keeps (Keeps.of_below B1.out))
    have C1' : Hid (Calm H w (w1.alloc (.cells Z 3))) := Lib.hid (C1.out.trans (Calm.of_below B1.out))
    have X1 : Hid (Sl elI H (w1.alloc (.cells Z 3)) A n0 c0 xs) := Lib.hid (HX.out.calm C1'.out)
    have HG : Hid (w.heap.size ≤ g) := Lib.hid (by rw [← hgd]; exact C1.out.size)
    have HS : Hid ((w1.alloc (.cells Z 3)).heap.size = g + 1) := Lib.hid (by rw [← hgd]; simp)
    clear hZ
    go_wp2_with (refine wpList_copy_row (E := elI) (H := H) rfl _ _ 24 24 rfl 3 Try.underlying24 (by kernel_rfl) RW0.out X1.out n (by rfl) (by rfl) ?_)
    intro kk w2 zs hcop
    have L0 := Lib.hid (LRel.start (rd := id) (S := (numS 1 1099511627776)) (lt := (· < ·)) HG.out HL.out rfl P1'.out C1'.out RW0.out X1.out (fun i hi => by rw [List.getD_eq_getElem?_getD, List.getElem?_replicate, if_pos hi]; exact (show i64 0 by unfold i64; omega)) hcop.out)
    clear hcop RW0 B1 P1' C1' X1 HS
    go_wp2_with fail
    go_loopw [30] (fun q wr => ∃ k : Nat, k ≤ n ∧ q = .int .i64 k ∧ LRel elI id (numS 1 1099511627776) (· < ·) H pb g n w zs s1 wr1 k wr) (fun q _ => n - (intOf q).toNat)
    case atStart => exact ⟨0, Nat.zero_le _, rfl, L0.out.1⟩
    case round =>
      obtain ⟨k, hkn, rfl, hrel⟩ := hrel
      by_cases hlt : k < n
      · obtain ⟨hlow, zk, s2, wr2, hp, hc, hrow, hgo, hrest, hin⟩ := hrel
        obtain ⟨xk, hxk⟩ : ∃ xk, zk.getD k default = xk := ⟨_, rfl⟩
        have hr0 := hrow.at_ k hlt
        rw [hxk] at hr0
        have hxi : elI.inn H wr xk := by rw [← hxk]; exact hin _ (getD_mem (by rw [hrow.len]; exact hlt))
        have hroom : s2.room (numS 1 1099511627776).cost := hgo.room (c := (numS 1 1099511627776).cost) (by
          have : Ps.room s1 (256 * (numS 1 1099511627776).cost) := G1.out.room HR.out
          refine this.mono ?_
          have : (k + 1) * (numS 1 1099511627776).cost ≤ 256 * (numS 1 1099511627776).cost := Nat.mul_le_mul_right _ (by omega)
          rw [Nat.add_mul] at this
          omega)
        have HXK : Hid (xk = zs.getD k default) := Lib.hid (by rw [← hxk]; exact hrest k (Nat.le_refl _) hlt)
        have MID := Lib.hid (fun v1 s3 wr3 x' (hc1 : Calm H wr v1) hp1 hx1 hg1 => LMid.of (pb := pb) (E := elI) (rd := id) (S := (numS 1 1099511627776)) (lt := (· < ·)) (x' := x') (w1 := v1) (s2 := s3) (wr2 := wr3) hlow HL.out rfl hrow hgo hrest hin hc hlt hc1 hp1 hx1 hg1)
        have ROW : Hid (∀ v1, Calm H wr v1 → Row elI 3 v1 g n zk) := Lib.hid (fun v1 hc1 => hrow.calm rfl hc1)
        have c0 : wr.cell? ⟨g, k, none⟩ = some (.int .i64 xk) := by have := hr0 0 (.int .i64 xk) rfl; simpa [elI] using this
        have CN := Lib.hid (seq_any (H := H) (pb := pb) s2 wr2 xk hp hxi hroom)
        clear hlow hp hc hrow hgo hrest hin hr0 hxk hroom
        go_wp2_with fail
        refine CN.out.mono ?_
        rintro e v1 ⟨_, y, s3, wr3, rfl, ⟨rfl, hy⟩, hg3, hp3, hc3⟩
        have RV := ROW.out v1 hc3
        have th := RV.there hlt 0 (by show 0 < 1; omega)
        obtain ⟨xo, hxo⟩ := Option.isSome_iff_exists.1 th.1
        have c1 : v1.cell? ⟨g, k, none⟩ = some xo := by have := hxo; simpa [elI] using this
        have f1 : v1.frozen? ⟨g, k, none⟩ = false := by have := th.2; simpa [elI] using this
        have M := MID.out v1 s3 wr3 y hc3 hp3 hy (by rw [HXK.out] at hg3; exact hg3)
        obtain ⟨W2, hW2⟩ : ∃ W2, W2 = v1.setCell ⟨g, k, none⟩ (.int .i64 y) := ⟨_, rfl⟩
        have e2 : v1.setCells g (k * elI.size) (elI.cells y) = W2 := by rw [hW2]; show (v1.setCell ⟨g, k * 1, none⟩ (.int .i64 y)) = _; rw [Nat.mul_one]
        rw [e2] at M
        have M := Lib.hid M
        have HW2 := Lib.hid hW2
        clear hW2 e2 th hxo RV hg3 hp3 hc3 MID ROW CN
        have HY := Lib.hid hy
        clear hy
        go_wp2_with fail
        rw [← HW2.out]
        clear HW2 c1 f1
        by_cases hk0 : k = 0
        · subst hk0
          have CE := Lib.hid (fun b => expect_any (H := H) (pb := pb) (w := W2.drew) s3 wr3 b (M.out.pst.keeps ⟨Nat.le_refl _, fun _ _ => rfl⟩))
          have hS0 : True := trivial
          refine wp_region_noPanic ?_
          refine upto_start (fun _ => True) 19 (by kernel_rfl) ?_
          change Upto _ _ _ _ _ 20 _ _ _
          refine Upto.take (i := 0) (v := ?_) rfl (by kernel_rfl) (fun _ _ _ h => h) rfl (fun w' hS => ?_) hS0 ?_
          rotate_left
          · (try dsimp only at hS); go_split_ands; go_simp; (try with_reducible rfl)
          simp only [Act.put, List.setIfInBounds_toArray, List.set_cons_zero, List.set_cons_succ]
          refine Upto.take (i := 1) (v := ?_) rfl (by kernel_rfl) (fun _ _ _ h => h) rfl (fun w' hS => ?_) hS0 ?_
          rotate_left
          · (try dsimp only at hS); go_split_ands; go_simp; (try with_reducible rfl)
          simp only [Act.put, List.setIfInBounds_toArray, List.set_cons_zero, List.set_cons_succ]
          refine Upto.take (i := 2) (v := ?_) rfl (by kernel_rfl) (fun _ _ _ h => h) rfl (fun w' hS => ?_) hS0 ?_
          rotate_left
          · (try dsimp only at hS); go_split_ands; go_simp; (try with_reducible rfl)
          simp only [Act.put, List.setIfInBounds_toArray, List.set_cons_zero, List.set_cons_succ]
          refine Upto.take (i := 3) (v := ?_) rfl (by kernel_rfl) (fun _ _ _ h => h) rfl (fun w' hS => ?_) hS0 ?_
          rotate_left
          · (try dsimp only at hS); go_split_ands; go_simp; (try with_reducible rfl)
          simp only [Act.put, List.setIfInBounds_toArray, List.set_cons_zero, List.set_cons_succ]
          refine Upto.skip (i := 4) rfl (by kernel_rfl) (fun _ _ _ h => h) rfl hS0 ?_
          simp only [Act.put, List.setIfInBounds_toArray, List.set_cons_zero, List.set_cons_succ]
          refine Upto.skip (i := 5) rfl (by kernel_rfl) (fun _ _ _ h => h) rfl hS0 ?_
          simp only [Act.put, List.setIfInBounds_toArray, List.set_cons_zero, List.set_cons_succ]
          refine Upto.skip (i := 6) rfl (by kernel_rfl) (fun _ _ _ h => h) rfl hS0 ?_
          simp only [Act.put, List.setIfInBounds_toArray, List.set_cons_zero, List.set_cons_succ]
          refine Upto.skip (i := 7) rfl (by kernel_rfl) (fun _ _ _ h => h) rfl hS0 ?_
          simp only [Act.put, List.setIfInBounds_toArray, List.set_cons_zero, List.set_cons_succ]
          refine Upto.skip (i := 8) rfl (by kernel_rfl) (fun _ _ _ h => h) rfl hS0 ?_
          simp only [Act.put, List.setIfInBounds_toArray, List.set_cons_zero, List.set_cons_succ]
          refine Upto.skip (i := 9) rfl (by kernel_rfl) (fun _ _ _ h => h) rfl hS0 ?_
          simp only [Act.put, List.setIfInBounds_toArray, List.set_cons_zero, List.set_cons_succ]
          refine Upto.skip (i := 10) rfl (by kernel_rfl) (fun _ _ _ h => h) rfl hS0 ?_
          simp only [Act.put, List.setIfInBounds_toArray, List.set_cons_zero, List.set_cons_succ]
          refine Upto.skip (i := 11) rfl (by kernel_rfl) (fun _ _ _ h => h) rfl hS0 ?_
          simp only [Act.put, List.setIfInBounds_toArray, List.set_cons_zero, List.set_cons_succ]
          refine Upto.skip (i := 12) rfl (by kernel_rfl) (fun _ _ _ h => h) rfl hS0 ?_
          simp only [Act.put, List.setIfInBounds_toArray, List.set_cons_zero, List.set_cons_succ]
          refine Upto.skip (i := 13) rfl (by kernel_rfl) (fun _ _ _ h => h) rfl hS0 ?_
          simp only [Act.put, List.setIfInBounds_toArray, List.set_cons_zero, List.set_cons_succ]
          refine Upto.skip (i := 14) rfl (by kernel_rfl) (fun _ _ _ h => h) rfl hS0 ?_
          simp only [Act.put, List.setIfInBounds_toArray, List.set_cons_zero, List.set_cons_succ]
          refine Upto.skip (i := 15) rfl (by kernel_rfl) (fun _ _ _ h => h) rfl hS0 ?_
          simp only [Act.put, List.setIfInBounds_toArray, List.set_cons_zero, List.set_cons_succ]
          refine Upto.skip (i := 16) rfl (by kernel_rfl) (fun _ _ _ h => h) rfl hS0 ?_
          simp only [Act.put, List.setIfInBounds_toArray, List.set_cons_zero, List.set_cons_succ]
          refine Upto.skip (i := 17) rfl (by kernel_rfl) (fun _ _ _ h => h) rfl hS0 ?_
          simp only [Act.put, List.setIfInBounds_toArray, List.set_cons_zero, List.set_cons_succ]
          refine Upto.take (i := 18) (v := ?_) rfl (by kernel_rfl) (fun _ _ _ h => h) rfl (fun w' hS => ?_) hS0 ?_
          rotate_left
          · (try dsimp only at hS); go_split_ands; go_simp; (try with_reducible rfl)
          simp only [Act.put, List.setIfInBounds_toArray, List.set_cons_zero, List.set_cons_succ]
          refine Upto.tail rfl (by kernel_rfl) ?_
          simp only [List.drop_succ_cons, List.drop_zero]
          go_wp2_with fail
          refine (CE.out true).mono ?_
          rintro e v4 ⟨wr4, rfl, hiff, hp4, hc4⟩
          have N := Lib.hid (M.out.next rfl (fun _ => rfl) hlt L0.out.2.1 (w4 := v4) (by exact (⟨hc4.os, hc4.tape, hc4.output, hc4.size, hc4.block⟩ : Calm H W2 v4)) hp4 (hiff.trans ⟨fun q => ⟨q.1, fun h => absurd h (by omega)⟩, fun q => ⟨q.1, rfl⟩⟩))
          clear hiff hp4 hc4 CE M
          go_wp2_with fail
          refine NoPanic.normal ?_
          go_wp2_with fail
          go_roundw
          case rel => exact ⟨0 + 1, by omega, by go_num, N.out⟩
          case measure => simp [intOf]; omega
        · obtain ⟨j, hjk⟩ : ∃ j, j = k - 1 := ⟨_, rfl⟩
          have hj1 : (k : Int) - 1 = (j : Int) := by omega
          have hj2 : ((k : Int) == 0) = false := by simp; omega
          have hjn : j < n := by omega
          have hwj : IntKind.i64.wrap (j : Int) = (j : Int) := by rw [IntKind.wrap_i64]; omega
          have HJ := Lib.hid hjk
          clear hjk
          obtain ⟨xp, hxp⟩ : ∃ xp, (zk.set k y).getD j default = xp := ⟨_, rfl⟩
          have hr1 := M.out.row.at_ j hjn
          have hr2 := M.out.row.at_ k hlt
          rw [hxp] at hr1
          rw [getD_set (by rw [M.out.len]; exact hlt), if_pos rfl] at hr2
          have HXP := Lib.hid hxp
          clear hxp
          have d1 : W2.cell? ⟨g, j, none⟩ = some (.int .i64 xp) := by have := hr1 0 (.int .i64 xp) rfl; simpa [elI] using this
          have d2 : W2.cell? ⟨g, k, none⟩ = some (.int .i64 y) := by have := hr2 0 (.int .i64 y) rfl; simpa [elI] using this
          have hS0 : W2.drew.cell? ⟨g, j, none⟩ = some (.int .i64 xp) ∧ W2.drew.cell? ⟨g, k, none⟩ = some (.int .i64 y) := ⟨d1, d2⟩
          clear hr1 hr2
          refine wp_region_noPanic ?_
          refine upto_start (fun w' => w'.cell? ⟨g, j, none⟩ = some (.int .i64 xp) ∧ w'.cell? ⟨g, k, none⟩ = some (.int .i64 y)) 19 (by kernel_rfl) ?_
          change Upto _ _ _ _ _ 20 _ _ _
          refine Upto.take (i := 0) (v := ?_) rfl (by kernel_rfl) (fun _ _ _ h => h) rfl (fun w' hS => ?_) hS0 ?_
          rotate_left
          · (try dsimp only at hS); go_split_ands; go_simp; (try with_reducible rfl)
          simp only [Act.put, List.setIfInBounds_toArray, List.set_cons_zero, List.set_cons_succ]
          refine Upto.take (i := 1) (v := ?_) rfl (by kernel_rfl) (fun _ _ _ h => h) rfl (fun w' hS => ?_) hS0 ?_
          rotate_left
          · (try dsimp only at hS); go_split_ands; go_simp; (try with_reducible rfl)
          simp only [Act.put, List.setIfInBounds_toArray, List.set_cons_zero, List.set_cons_succ]
          refine Upto.take (i := 2) (v := ?_) rfl (by kernel_rfl) (fun _ _ _ h => h) rfl (fun w' hS => ?_) hS0 ?_
          rotate_left
          · (try dsimp only at hS); go_split_ands; go_simp; (try with_reducible rfl)
          simp only [Act.put, List.setIfInBounds_toArray, List.set_cons_zero, List.set_cons_succ]
          refine Upto.take (i := 3) (v := ?_) rfl (by kernel_rfl) (fun _ _ _ h => h) rfl (fun w' hS => ?_) hS0 ?_
          rotate_left
          · (try dsimp only at hS); go_split_ands; go_simp; (try with_reducible rfl)
          simp only [Act.put, List.setIfInBounds_toArray, List.set_cons_zero, List.set_cons_succ]
          refine Upto.takeG (i := 4) (v := ?_) rfl (by kernel_rfl) (fun _ _ _ h => h) rfl (fun w' hS => ?_) hS0 ?_
          rotate_left
          · (try dsimp only at hS); go_split_ands; go_simp; (try with_reducible rfl)
          simp only [Act.put, List.setIfInBounds_toArray, List.set_cons_zero, List.set_cons_succ]
          refine Upto.takeG (i := 5) (v := ?_) rfl (by kernel_rfl) (fun _ _ _ h => h) rfl (fun w' hS => ?_) hS0 ?_
          rotate_left
          · (try dsimp only at hS); go_split_ands; go_simp; (try with_reducible rfl)
          simp only [Act.put, List.setIfInBounds_toArray, List.set_cons_zero, List.set_cons_succ]
          refine Upto.takeG (i := 6) (v := ?_) rfl (by kernel_rfl) (fun _ _ _ h => h) rfl (fun w' hS => ?_) hS0 ?_
          rotate_left
          · (try dsimp only at hS); go_split_ands; go_simp; (try with_reducible rfl)
          simp only [Act.put, List.setIfInBounds_toArray, List.set_cons_zero, List.set_cons_succ]
          refine Upto.takeG (i := 7) (v := ?_) rfl (by kernel_rfl) (fun _ _ _ h => h) rfl (fun w' hS => ?_) hS0 ?_
          rotate_left
          · (try dsimp only at hS); go_split_ands; go_simp; (try with_reducible rfl)
          simp only [Act.put, List.setIfInBounds_toArray, List.set_cons_zero, List.set_cons_succ]
          refine Upto.takeG (i := 8) (v := ?_) rfl (by kernel_rfl) (fun _ _ _ h => h) rfl (fun w' hS => ?_) hS0 ?_
          rotate_left
          · (try dsimp only at hS); go_split_ands; go_simp; (try with_reducible rfl)
          simp only [Act.put, List.setIfInBounds_toArray, List.set_cons_zero, List.set_cons_succ]
          refine Upto.takeG (i := 9) (v := ?_) rfl (by kernel_rfl) (fun _ _ _ h => h) rfl (fun w' hS => ?_) hS0 ?_
          rotate_left
          · (try dsimp only at hS); go_split_ands; go_simp; (try with_reducible rfl)
          simp only [Act.put, List.setIfInBounds_toArray, List.set_cons_zero, List.set_cons_succ]
          refine Upto.takeG (i := 11) (v := ?_) rfl (by kernel_rfl) (fun _ _ _ h => h) rfl (fun w' hS => ?_) hS0 ?_
          rotate_left
          · (try dsimp only at hS); go_split_ands; go_simp; (try with_reducible rfl)
          simp only [Act.put, List.setIfInBounds_toArray, List.set_cons_zero, List.set_cons_succ]
          refine Upto.takeG (i := 12) (v := ?_) rfl (by kernel_rfl) (fun _ _ _ h => h) rfl (fun w' hS => ?_) hS0 ?_
          rotate_left
          · (try dsimp only at hS); go_split_ands; go_simp; (try with_reducible rfl)
          simp only [Act.put, List.setIfInBounds_toArray, List.set_cons_zero, List.set_cons_succ]
          refine Upto.takeG (i := 13) (v := ?_) rfl (by kernel_rfl) (fun _ _ _ h => h) rfl (fun w' hS => ?_) hS0 ?_
          rotate_left
          · (try dsimp only at hS); go_split_ands; go_simp; (try with_reducible rfl)
          simp only [Act.put, List.setIfInBounds_toArray, List.set_cons_zero, List.set_cons_succ]
          refine Upto.takeG (i := 14) (v := ?_) rfl (by kernel_rfl) (fun _ _ _ h => h) rfl (fun w' hS => ?_) hS0 ?_
          rotate_left
          · (try dsimp only at hS); go_split_ands; go_simp; (try with_reducible rfl)
          simp only [Act.put, List.setIfInBounds_toArray, List.set_cons_zero, List.set_cons_succ]
          refine Upto.takeG (i := 15) (v := ?_) rfl (by kernel_rfl) (fun _ _ _ h => h) rfl (fun w' hS => ?_) hS0 ?_
          rotate_left
          · (try dsimp only at hS); go_split_ands; go_simp; (try with_reducible rfl)
          simp only [Act.put, List.setIfInBounds_toArray, List.set_cons_zero, List.set_cons_succ]
          refine Upto.lawG (i := 10) rfl (by kernel_rfl) rfl (fun K hK => ?_)
          refine wp_enter (f := 73) (args := #[.int .i64 xp]) (by go_simp) (itself_S xp _) ?_
          rintro e W3 ⟨rfl, hb3⟩
          have hS1 : W3.cell? ⟨g, j, none⟩ = some (.int .i64 xp) ∧ W3.cell? ⟨g, k, none⟩ = some (.int .i64 y) := by rw [← hb3]; exact hS0
          refine ⟨_, rfl, hK _ _ hS1 ?_⟩
          clear hK
          have HB3 := Lib.hid hb3
          clear hb3
          simp only [Act.put, List.setIfInBounds_toArray, List.set_cons_zero, List.set_cons_succ]
          refine Upto.lawG (i := 16) rfl (by kernel_rfl) rfl (fun K hK => ?_)
          refine wp_enter (f := 73) (args := #[.int .i64 y]) (by go_simp) (itself_S y _) ?_
          rintro e W4 ⟨rfl, hb4⟩
          have hS2 : W4.cell? ⟨g, j, none⟩ = some (.int .i64 xp) ∧ W4.cell? ⟨g, k, none⟩ = some (.int .i64 y) := by rw [← hb4]; exact hS1
          refine ⟨_, rfl, hK _ _ hS2 ?_⟩
          clear hK hS0 hS1
          have hS0 := hS2
          have HW4 : Hid (Pst H W4 pb s3 wr3 ∧ Calm H W2 W4) := Lib.hid (by rw [← hb4, ← HB3.out]; exact ⟨M.out.pst.keeps ⟨Nat.le_refl _, fun _ _ => rfl⟩, ⟨rfl, rfl, rfl, Nat.le_refl _, fun _ _ _ => rfl⟩⟩)
          clear hb4 HB3 hS2
          simp only [Act.put, List.setIfInBounds_toArray, List.set_cons_zero, List.set_cons_succ]
          refine Upto.takeG (i := 17) (v := ?_) rfl (by kernel_rfl) (fun _ _ _ h => h) rfl (fun w' hS => ?_) hS0 ?_
          rotate_left
          · (try dsimp only at hS); go_split_ands; go_simp; (try with_reducible rfl)
          simp only [Act.put, List.setIfInBounds_toArray, List.set_cons_zero, List.set_cons_succ]
          refine Upto.take (i := 18) (v := ?_) rfl (by kernel_rfl) (fun _ _ _ h => h) rfl (fun w' hS => ?_) hS0 ?_
          rotate_left
          · (try dsimp only at hS); go_split_ands; go_simp; (try with_reducible rfl)
          simp only [Act.put, List.setIfInBounds_toArray, List.set_cons_zero, List.set_cons_succ]
          have CE := Lib.hid (expect_any (H := H) (pb := pb) (w := W4) s3 wr3 (decide (xp < y)) HW4.out.1)
          refine Upto.tail rfl (by kernel_rfl) ?_
          simp only [List.drop_succ_cons, List.drop_zero]
          go_wp2_with fail
          refine CE.out.mono ?_
          rintro e v4 ⟨wr4, rfl, hiff, hp4, hc4⟩
          have N := Lib.hid (M.out.next rfl (fun _ => rfl) hlt L0.out.2.1 (w4 := v4) (HW4.out.2.trans hc4) hp4 (hiff.trans (by
            have e1 : (zk.set k y).getD (k - 1) default = xp := by rw [← HJ.out]; exact HXP.out
            have e2 : (zk.set k y).getD k default = y := by rw [getD_set (by rw [M.out.len]; exact hlt), if_pos rfl]
            rw [e1, e2]
            exact ⟨fun q => ⟨q.1, fun _ => by simpa using q.2⟩, fun q => ⟨q.1, by simpa using q.2 (by omega)⟩⟩)))
          clear hiff hp4 hc4 CE M HW4 hS0
          go_wp2_with fail
          refine NoPanic.normal ?_
          go_wp2_with fail
          go_roundw
          case rel => exact ⟨k + 1, by omega, by go_num, N.out⟩
          case measure => simp [intOf]; omega
      · obtain rfl : k = n := by omega
        have R := Lib.hid (hrel.done HL.out (xs := xs) (most := 256) (by omega) rfl L0.out.2.1 G1.out HN.out L0.out.2.2)
        clear hrel
        go_wp2_with fail
        go_ret
        exact R.out
end
end Go.Proofs.Ytfldcddbmikfiaa

/- what rec passes on of members, and of transactions that were committed. -/
namespace Go.Proofs.Ytfldcddbmikfiaa
open Go.RowKit
theorem Goes.ids {α : Type} {S : Spc (List α)} {x y : List α} {s s' : Ps} {wr wr' : Bool} (h : Goes S (x.map id) s wr (y.map id) s' wr') : Goes S x s wr y s' wr' := by
  rw [List.map_id, List.map_id] at h
  exact h
section
variable {H pb : Nat} {w : World}

set_option maxHeartbeats 4000000 in
theorem members_any [Inhabited Prop] (s : Ps) (wr : Bool) (A : Option Addr) (n c : Nat) (xs : List Int) (h : Pst H w pb s wr) (hx : Sl elI H w A n c xs) (hr : s.room memSp.cost) :
    Calls Try.prog 57 #[.pointer (some ⟨pb, 0, none⟩), .slice A n c] w (RetV memSp (VL elI id H) (xs.map id) H pb s wr w) := by
  have CL := Lib.hid (listN_any (H := H) (pb := pb) s wr A n c xs h hx hr)
  clear h hx hr
  go_enter Try.func57, Try.ntmps57
  go_wp2_with fail
  refine CL.out.mono ?_
  rintro e w1 ⟨v, y, s', wr', rfl, ⟨A1, n1, c1, l1, rfl, hsl, hy⟩, hg, hp, hc⟩
  have R : Hid (RetV memSp (VL elI id H) (xs.map id) H pb s wr w (.returned (.slice A1 n1 c1)) w1) := Lib.hid ⟨_, y, s', wr', rfl, ⟨A1, n1, c1, l1, rfl, hsl, hy⟩, hg, hp, hc⟩
  clear hsl hg hp hc hy
  go_wp2_with fail
  go_ret
  exact R.out

set_option maxHeartbeats 4000000 in
theorem past_any [Inhabited Prop] (s : Ps) (wr : Bool) (A : Option Addr) (n c : Nat) (xs : List Int) (h : Pst H w pb s wr) (hx : Sl elI H w A n c xs) (hr : s.room pastSp.cost) :
    Calls Try.prog 62 #[.pointer (some ⟨pb, 0, none⟩), .slice A n c] w (RetV pastSp (VL elI id H) (xs.map id) H pb s wr w) := by
  have CL := Lib.hid (listS_any (H := H) (pb := pb) s wr A n c xs h hx hr)
  clear h hx hr
  go_enter Try.func62, Try.ntmps62
  go_wp2_with fail
  refine CL.out.mono ?_
  rintro e w1 ⟨v, y, s', wr', rfl, ⟨A1, n1, c1, l1, rfl, hsl, hy⟩, hg, hp, hc⟩
  have R : Hid (RetV pastSp (VL elI id H) (xs.map id) H pb s wr w (.returned (.slice A1 n1 c1)) w1) := Lib.hid ⟨_, y, s', wr', rfl, ⟨A1, n1, c1, l1, rfl, hsl, hy⟩, hg, hp, hc⟩
  clear hsl hg hp hc hy
  go_wp2_with fail
  go_ret
  exact R.out
end
end Go.Proofs.Ytfldcddbmikfiaa

/- what rec passes on of one of its deeds, and of a list of them. -/
namespace Go.Proofs.Ytfldcddbmikfiaa
open Go.RowKit
theorem one_cE (u0 : Int) (A1 : Option Addr) (n1 c1 : Nat) : (#[.int .i64 u0, .slice A1 n1 c1] : Array Value).all (·.oneCell') = true := by simp [Value.oneCell']
theorem goes_cE {x : Dd} {y : Int × List Int} {s s' : Ps} {wr wr' : Bool} (h : Goes ((numS 1 1099511627776).pair memSp) (x.tx, x.mem) s wr y s' wr') : Goes ddSp x s wr (⟨y.1, y.2⟩ : Dd) s' wr' :=
  Goes.map (f := fun y : Int × List Int => (⟨y.1, y.2⟩ : Dd)) (g := fun x : Dd => (x.tx, x.mem)) (fun _ => rfl) h
theorem inf_cE : (Try.prog.info? 53).map (·.size) = some 2 := by kernel_rfl
section
variable {H pb : Nat} {w : World}
set_option maxRecDepth 100000 in
set_option maxHeartbeats 8000000 in
theorem eachE_any [Inhabited Prop] (s : Ps) (wr : Bool) (q : Addr) (x : Xd) (h : Pst H w pb s wr) (hq : stab H w q.block) (hqc : w.cell? q = some (.pointer (some ⟨pb, 0, none⟩))) (hx : elE.inn H w x) (hr : s.room ddSp.cost) :
    Calls Try.prog 83 #[.agg (elE.cells x).toArray, .pointer (some q)] w (RetV ddSp (VE elE Xd.deed (fun x => .agg (elE.cells x).toArray) H) (Xd.deed x) H pb s wr w) := by
  have hr0 : s.room 2580 := hr.mono (by decide)
  have ecs : (Value.agg (elE.cells x).toArray) = .agg #[.int .i64 x.tx, .slice x.mA x.mn x.mc] := rfl
  rw [ecs]
  clear ecs hr
  obtain ⟨r, hrr⟩ : ∃ r, w.heap.size = r := ⟨_, rfl⟩
  obtain ⟨W1, hW1⟩ : ∃ W1, W1 = (w.alloc (.cells #[.int .i64 x.tx, .slice x.mA x.mn x.mc] 53)).alloc (.cells #[.int .i64 0, .slice none 0 0] 53) := ⟨_, rfl⟩
  have HB : Hid (Below w.heap.size w W1) := Lib.hid (by rw [hW1]; exact ((Below.refl _ _).alloc (Nat.le_refl _) _).alloc (by simp) _)
  have HV : Hid (Bk W1 r 53 #[.int .i64 x.tx, .slice x.mA x.mn x.mc]) := Lib.hid (by rw [hW1, ← hrr]; exact (Bk.new w _ _).bel ((Below.refl _ _).alloc (Nat.le_refl _) _) (by simp))
  have HRS : Hid (Bk W1 (r + 1) 53 #[.int .i64 0, .slice none 0 0]) := Lib.hid (by
    rw [hW1, ← hrr]
    have := Bk.new (w.alloc (.cells #[.int .i64 x.tx, .slice x.mA x.mn x.mc] 53)) 53 #[.int .i64 0, .slice none 0 0]
    rw [World.size_alloc] at this
    exact this)
  have HQ : Hid (stab H W1 q.block) := Lib.hid (hq.calm (Calm.of_below HB.out))
  have hqc1 : W1.cell? q = some (.pointer (some ⟨pb, 0, none⟩)) := ((Calm.of_below (H := H) HB.out).cell hq).trans hqc
  have P0 : Hid (Pst H W1.drew pb s wr) := Lib.hid ((h.keeps (Keeps.of_below HB.out)).keeps ⟨Nat.le_refl _, fun _ _ => rfl⟩)
  have HX : Hid (elE.inn H W1.drew x) := Lib.hid (elE.calm H w _ x hx (by have := Calm.of_below (H := H) HB.out; exact ⟨this.os, this.tape, this.output, this.size, this.block⟩))
  have R0 := Lib.hid hr0
  have HLOW := Lib.hid h.low
  have HRR := Lib.hid hrr
  have HW := Lib.hid hW1
  have KS : Hid (∀ W, Calm H W1.drew W → W.cell? q = some (.pointer (some ⟨pb, 0, none⟩)) ∧ W.cell? ⟨r, 0, none⟩ = some (.int .i64 x.tx) ∧ W.cell? ⟨r, 1, none⟩ = some (.slice x.mA x.mn x.mc)) := Lib.hid (fun W hc => ⟨(hc.cell (p := q) HQ.out).trans hqc1, ((HV.out.calm (w1 := W) rfl (by exact (⟨hc.os, hc.tape, hc.output, hc.size, hc.block⟩ : Calm H W1 W))).cell 0), ((HV.out.calm (w1 := W) rfl (by exact (⟨hc.os, hc.tape, hc.output, hc.size, hc.block⟩ : Calm H W1 W))).cell 1)⟩)
  clear h hr0 hW1 hq hqc hqc1 hx
  go_enter Try.func83, Try.ntmps83
  go_wp2_with fail
  (try rw [hrr])
  rw [← HW.out]
  clear HW hrr
  have hS0 := KS.out W1.drew (Calm.refl H _)
  refine wp_region_noPanic ?_
  refine upto_start (fun w' => w'.cell? q = some (.pointer (some ⟨pb, 0, none⟩)) ∧ w'.cell? ⟨r, 0, none⟩ = some (.int .i64 x.tx) ∧ w'.cell? ⟨r, 1, none⟩ = some (.slice x.mA x.mn x.mc)) 9 (by kernel_rfl) ?_
  change Upto _ _ _ _ _ 10 _ _ _
  refine Upto.take (i := 0) (v := ?_) rfl (by kernel_rfl) (fun _ _ _ h => h) rfl (fun w' hS => ?_) hS0 ?_
  rotate_left
  · (try dsimp only at hS); go_split_ands; go_simp; (try with_reducible rfl)
  simp only [Act.put, List.setIfInBounds_toArray, List.set_cons_zero, List.set_cons_succ]
  refine Upto.take (i := 1) (v := ?_) rfl (by kernel_rfl) (fun _ _ _ h => h) rfl (fun w' hS => ?_) hS0 ?_
  rotate_left
  · (try dsimp only at hS); go_split_ands; go_simp; (try with_reducible rfl)
  simp only [Act.put, List.setIfInBounds_toArray, List.set_cons_zero, List.set_cons_succ]
  refine Upto.take (i := 2) (v := ?_) rfl (by kernel_rfl) (fun _ _ _ h => h) rfl (fun w' hS => ?_) hS0 ?_
  rotate_left
  · (try dsimp only at hS); go_split_ands; go_simp; (try with_reducible rfl)
  simp only [Act.put, List.setIfInBounds_toArray, List.set_cons_zero, List.set_cons_succ]
  refine Upto.take (i := 4) (v := ?_) rfl (by kernel_rfl) (fun _ _ _ h => h) rfl (fun w' hS => ?_) hS0 ?_
  rotate_left
  · (try dsimp only at hS); go_split_ands; go_simp; (try with_reducible rfl)
  simp only [Act.put, List.setIfInBounds_toArray, List.set_cons_zero, List.set_cons_succ]
  refine Upto.take (i := 5) (v := ?_) rfl (by kernel_rfl) (fun _ _ _ h => h) rfl (fun w' hS => ?_) hS0 ?_
  rotate_left
  · (try dsimp only at hS); go_split_ands; go_simp; (try with_reducible rfl)
  simp only [Act.put, List.setIfInBounds_toArray, List.set_cons_zero, List.set_cons_succ]
  refine Upto.take (i := 6) (v := ?_) rfl (by kernel_rfl) (fun _ _ _ h => h) rfl (fun w' hS => ?_) hS0 ?_
  rotate_left
  · (try dsimp only at hS); go_split_ands; go_simp; (try with_reducible rfl)
  simp only [Act.put, List.setIfInBounds_toArray, List.set_cons_zero, List.set_cons_succ]
  have C0 := Lib.hid (Calm.refl H W1.drew)
  have X1 := Lib.hid (HX.out)
  have CT1 := Lib.hid (seq_any (H := H) (pb := pb) s wr x.tx P0.out (elE.calm H _ _ x HX.out C0.out).tx (R0.out.mono (by decide)))
  refine Upto.law (i := 3) rfl (by kernel_rfl) rfl (fun K hK => ?_)
  refine wp_enter (f := 52) (args := #[.pointer (some ⟨pb, 0, none⟩), .int .i64 x.tx]) (by go_simp) CT1.out ?_
  rintro e V1 ⟨_, y1, s1, wr1, rfl, ⟨rfl, hi1⟩, hg1, hp1, hc1⟩
  have hS1 := KS.out V1 (C0.out.trans hc1)
  refine ⟨_, rfl, hK _ _ hS1 ?_⟩
  have C1 := Lib.hid (C0.out.trans hc1)
  have R1 : Hid (s1.room 2570) := Lib.hid (hg1.room (c := 2570) (R0.out.mono (by decide)))
  have G1 := Lib.hid hg1
  have P1 := Lib.hid hp1
  have D1 := Lib.hid hc1
  have I1 := Lib.hid hi1
  clear hK CT1 hg1 hp1 hc1 hS0 X1 hi1
  have hS0 := hS1
  clear hS1
  simp only [Act.put, List.setIfInBounds_toArray, List.set_cons_zero, List.set_cons_succ]
  have X2 := Lib.hid (HX.out)
  have CT2 := Lib.hid (members_any (H := H) (pb := pb) s1 wr1 x.mA x.mn x.mc x.mem P1.out (elE.calm H _ _ x HX.out C1.out).mem (R1.out.mono (by decide)))
  refine Upto.law (i := 7) rfl (by kernel_rfl) rfl (fun K hK => ?_)
  refine wp_enter (f := 57) (args := #[.pointer (some ⟨pb, 0, none⟩), .slice x.mA x.mn x.mc]) (by go_simp) CT2.out ?_
  rintro e V2 ⟨_, y2, s2, wr2, rfl, ⟨A2, n2, c2, l2, rfl, hi2, rfl⟩, hg2, hp2, hc2⟩
  have hS2 := KS.out V2 (C1.out.trans hc2)
  refine ⟨_, rfl, hK _ _ hS2 ?_⟩
  have C2 := Lib.hid (C1.out.trans hc2)
  have R2 : Hid (s2.room 0) := Lib.hid (hg2.room (c := 0) (R1.out.mono (by decide)))
  have G2 := Lib.hid hg2
  have P2 := Lib.hid hp2
  have D2 := Lib.hid hc2
  have I2 := Lib.hid hi2
  clear hK CT2 hg2 hp2 hc2 hS0 X2 hi2
  have hS0 := hS2
  clear hS2
  simp only [Act.put, List.setIfInBounds_toArray, List.set_cons_zero, List.set_cons_succ]
  refine Upto.take (i := 8) (v := ?_) rfl (by kernel_rfl) (fun _ _ _ h => h) rfl (fun w' hS => ?_) hS0 ?_
  rotate_left
  · (try dsimp only at hS); go_split_ands; go_simp; (try with_reducible rfl)
  simp only [Act.put, List.setIfInBounds_toArray, List.set_cons_zero, List.set_cons_succ]
  have RB := Lib.hid (HRS.out.calm (w1 := V2) rfl (by have := C2.out; exact ⟨this.os, this.tape, this.output, this.size, this.block⟩ : Calm H W1 V2))
  have F : Hid (RetV ddSp (VE elE Xd.deed (fun x => .agg (elE.cells x).toArray) H) (Xd.deed x) H pb s wr w (.returned (.agg #[.int .i64 y1, .slice A2 n2 c2])) (V2.setRow (r + 1) #[.int .i64 y1, .slice A2 n2 c2])) := Lib.hid (by
    have hcw : Calm H w V2 := (Calm.of_below HB.out).trans (by have := C2.out; exact ⟨this.os, this.tape, this.output, this.size, this.block⟩ : Calm H W1 V2)
    obtain ⟨a, b⟩ := P2.out.row RB.out rfl (by have := HRR.out; omega) hcw #[.int .i64 y1, .slice A2 n2 c2]
    have hin : elE.inn H V2 (⟨y1, A2, n2, c2, l2⟩ : Xd) := ⟨I1.out, I2.out⟩
    refine ⟨_, Xd.deed (⟨y1, A2, n2, c2, l2⟩ : Xd), s2, wr2, rfl, ⟨(⟨y1, A2, n2, c2, l2⟩ : Xd), rfl, elE.apart H _ _ _ (r + 1) 53 _ _ rfl hin (by have := HRR.out; have := HLOW.out; omega) RB.out (grown_setRow _ _ _), rfl⟩, ?_, a, b⟩
    exact goes_cE (x := Xd.deed x) (G1.out.pair G2.out.ids))
  have RF := Lib.hid (RB.out.rowp #[.int .i64 y1, .slice A2 n2 c2])
  refine Upto.tail rfl (by kernel_rfl) ?_
  simp only [List.drop_succ_cons, List.drop_zero]
  go_wp2_with (refine wpList_store_row rfl 53 _ _ rfl (r + 1) #[.int .i64 y1, .slice A2 n2 c2] rfl rfl 53 _ RB.out inf_cE rfl (one_cE _ _ _ _) ?_; simp only [Act.put])
  refine NoPanic.normal ?_
  (try simp only [Exit.inBlock, Exit.then])
  go_wp2_with fail
  refine bodyPost_ret (results_cell_row rfl _ _ (r + 1) 53 _ (0, 0) _ rfl RF.out Try.underlying53 rfl inf_cE) rfl ?_
  exact F.out

set_option maxRecDepth 100000 in
set_option maxHeartbeats 4000000 in
theorem deeds_any [Inhabited Prop] (s : Ps) (wr : Bool) (A : Option Addr) (n c : Nat) (xs : List Xd) (h : Pst H w pb s wr) (hx : Sl elE H w A n c xs) (hr : s.room ddsSp.cost) :
    Calls Try.prog 61 #[.pointer (some ⟨pb, 0, none⟩), .slice A n c] w (RetV ddsSp (VL elE Xd.deed H) (xs.map Xd.deed) H pb s wr w) := by
  obtain ⟨W1, hW1⟩ : ∃ W1, W1 = w.alloc (.cells #[.pointer (some ⟨pb, 0, none⟩)] 94) := ⟨_, rfl⟩
  have hb : Below w.heap.size w W1 := by rw [hW1]; exact (Below.refl _ _).alloc (Nat.le_refl _) _
  have hbk : Bk W1 w.heap.size 94 #[.pointer (some ⟨pb, 0, none⟩)] := by rw [hW1]; exact Bk.new w _ _
  have CL := Lib.hid (listE_any (H := H) (pb := pb) (w := W1) s wr A n c xs ⟨w.heap.size, 0, none⟩ (h.keeps (Keeps.of_below hb)) (hx.calm (Calm.of_below hb)) hr
    (fun w1 s1 wr1 x hc hp hi hr1 => eachE_any s1 wr1 ⟨w.heap.size, 0, none⟩ x hp ((hbk.stab rfl).calm hc) ((hbk.calm rfl hc).cell 0) hi hr1))
  have HB := Lib.hid hb
  have HW := Lib.hid hW1
  have k0 : W1.cell? ⟨w.heap.size, 0, none⟩ = some (.pointer (some ⟨pb, 0, none⟩)) := hbk.cell 0
  clear h hx hr hW1 hb hbk
  go_enter Try.func61, Try.ntmps61
  go_wp2_with fail
  rw [← HW.out]
  clear HW
  go_wp2_with fail
  refine CL.out.mono ?_
  rintro e w1 ⟨v, y, s', wr', rfl, ⟨A1, n1, c1, l1, rfl, hsl, hy⟩, hg, hp, hc⟩
  have R : Hid (RetV ddsSp (VL elE Xd.deed H) (xs.map Xd.deed) H pb s wr w (.returned (.slice A1 n1 c1)) w1) := Lib.hid ⟨_, y, s', wr', rfl, ⟨A1, n1, c1, l1, rfl, hsl, hy⟩, hg, hp, (Calm.of_below HB.out).trans hc⟩
  clear hsl hg hp hc hy
  go_wp2_with fail
  go_ret
  exact R.out
end
end Go.Proofs.Ytfldcddbmikfiaa

/- rec's list, at rows: what it passes on. -/
namespace Go.Proofs.Ytfldcddbmikfiaa
open Go.RowKit
theorem mk_R [Inhabited Prop] (n : Nat) (hn : n ≤ 256) (W : World) : (Instr.makeSlice 26 (.int .i64 (n : Int)) (.int .i64 (n : Int))).run Try.prog W =
    .ok (.slice (some ⟨W.heap.size, 0, none⟩) n n) (W.alloc (.cells (madeCells #[.int .i64 0, .int .i64 0, .int .i64 0, .int .i64 0, .int .i64 0, .int .i64 0, .slice none 0 0, .slice none 0 0] (n * elR.size)) 51)) := by
  have hz : (Try.prog.info? 51).map (fun i => (i.zero, i.size, i.bytes)) = some (some (.agg #[.int .i64 0, .int .i64 0, .int .i64 0, .int .i64 0, .int .i64 0, .int .i64 0, .slice none 0 0, .slice none 0 0]), 8, 96) := by kernel_rfl
  obtain ⟨i0, hi, hz0, hz1, hz2⟩ := info_parts hz
  have := run_make (P := Try.prog) W 26 51 i0 (.agg #[.int .i64 0, .int .i64 0, .int .i64 0, .int .i64 0, .int .i64 0, .int .i64 0, .slice none 0 0, .slice none 0 0]) Try.underlying26 hi hz0 .i64 .i64 n n (by omega) (by omega) (by rw [hz2]; omega) (by omega)
  rw [this, hz1, Int.toNat_natCast]
  rfl
theorem info_R : (Try.prog.info? 51).map (·.size) = some 8 := by kernel_rfl
theorem by_R [Inhabited Prop] (x : Xw) (w : World) : Calls Try.prog 79 #[.agg (elR.cells x).toArray] w (fun e w' => e = .returned (.int .i64 x.tx) ∧ Below w.heap.size w w') := by
  have e : (Value.agg (elR.cells x).toArray) = .agg #[.int .i64 x.tx, .int .i64 x.st, .int .i64 x.fi, .int .i64 x.la, .int .i64 x.un, .int .i64 x.co, .slice x.mA x.mn x.mc, .slice x.kA x.kn x.kc] := rfl
  rw [e]
  go_enter Try.func79, Try.ntmps79
  go_wp2_with fail
  go_ret
  exact ⟨rfl, (Below.refl _ _).alloc (Nat.le_refl _) _⟩
section
variable {H pb : Nat} {w : World}
set_option maxRecDepth 100000 in
set_option maxHeartbeats 8000000 in
theorem listR_any [Inhabited Prop] (s : Ps) (wr : Bool) (A : Option Addr) (n0 c0 : Nat) (xs : List Xw) (q : Addr) (h : Pst H w pb s wr) (hx : Sl elR H w A n0 c0 xs) (hr : s.room (10 + 256 * rwSp.cost))
    (hE : ∀ (w1 : World) (s1 : Ps) (wr1 : Bool) (x : Xw), Calm H w w1 → Pst H w1 pb s1 wr1 → elR.inn H w1 x → s1.room rwSp.cost → Calls Try.prog 77 #[.agg (elR.cells x).toArray, .pointer (some q)] w1 (RetV rwSp (VE elR Xw.row (fun x => .agg (elR.cells x).toArray) H) (Xw.row x) H pb s1 wr1 w1)) :
    Calls Try.prog 78 #[.pointer (some ⟨pb, 0, none⟩), .slice A n0 c0, .int .i64 64, .func (.func 77) #[] #[.pointer (some q)], .func (.func 79) #[] #[]] w
      (RetV (rwSp.list 64 (fun a b : Rw => a.tx < b.tx)) (VL elR Xw.row H) (xs.map Xw.row) H pb s wr w) := by
  have hmaxn : n0 ≤ 9223372036854775807 := by have := hx.cap; have := hx.max; unfold maxLen at this; omega
  have CC := Lib.hid (count_any (H := H) (pb := pb) s wr (n0 : Int) 64 h (by omega) (by omega) (hr.mono (by omega)))
  have HX := Lib.hid hx
  have HR := Lib.hid hr
  have HL := Lib.hid h.low
  have HE := Lib.hid hE
  clear hE
  clear h hx hr
  go_enter Try.func78, Try.ntmps78
  go_wp2_with fail
  refine CC.out.mono ?_
  rintro e w1 ⟨_, z, s1, wr1, rfl, ⟨rfl, hz0, hz1⟩, hg, hp, hc⟩
  obtain ⟨n, hn⟩ : ∃ n : Nat, (n : Int) = min z 256 := ⟨(min z 256).toNat, by omega⟩
  have hmin : min z 256 = (n : Int) := hn.symm
  have hlen : xs.length = n0 := HX.out.len
  have G1 : Hid (Goes (cntS 64) (((xs.map (Xw.row : Xw → Rw)).length : Nat) : Int) s wr z s1 wr1) := Lib.hid (by rw [List.length_map, hlen]; exact hg)
  have P1 := Lib.hid hp
  have C1 := Lib.hid hc
  have HN : Hid ((n : Int) = min z 256) := Lib.hid hn
  have hn256 : n ≤ 256 := by omega
  clear hg hp hc CC hn hlen hz0 hz1
  by_cases h0 : n = 0
  · subst h0
    have R := Lib.hid (list_empty (E := elR) (rd := Xw.row) (S := rwSp) (lt := (fun a b : Rw => a.tx < b.tx)) (xs := xs) P1.out C1.out (most := 64) (by omega) G1.out HN.out)
    go_wp2_with fail
    go_ret
    exact R.out
  · have hne : ((n : Int) == 0) = false := by simp; omega
    have kmk := mk_R n hn256
    obtain ⟨Z, hZ⟩ : ∃ Z, Z = madeCells #[.int .i64 0, .int .i64 0, .int .i64 0, .int .i64 0, .int .i64 0, .int .i64 0, .slice none 0 0, .slice none 0 0] (n * elR.size) := ⟨_, rfl⟩
    rw [← hZ] at kmk
    obtain ⟨g, hgd⟩ : ∃ g, w1.heap.size = g := ⟨_, rfl⟩
    have RW0 : Hid (Row elR 51 (w1.alloc (.cells Z 51)) g n (List.replicate n (default : Xw))) := Lib.hid (by rw [hZ, ← hgd]; exact Row.made w1 ((default : Xw)) #[.int .i64 0, .int .i64 0, .int .i64 0, .int .i64 0, .int .i64 0, .int .i64 0, .slice none 0 0, .slice none 0 0] rfl n)
    have B1 : Hid (Below w1.heap.size w1 (w1.alloc (.cells Z 51))) := Lib.hid ((Below.refl _ _).alloc (Nat.le_refl _) _)
    have P1' : Hid (Pst H (w1.alloc (.cells Z 51)) pb s1 wr1) := Lib.hid (P1.out.keeps (Keeps.of_below B1.out))
    have C1' : Hid (Calm H w (w1.alloc (.cells Z 51))) := Lib.hid (C1.out.trans (Calm.of_below B1.out))
    have X1 : Hid (Sl elR H (w1.alloc (.cells Z 51)) A n0 c0 xs) := Lib.hid (HX.out.calm C1'.out)
    have HG : Hid (w.heap.size ≤ g) := Lib.hid (by rw [← hgd]; exact C1.out.size)
    have HS : Hid ((w1.alloc (.cells Z 51)).heap.size = g + 1) := Lib.hid (by rw [← hgd]; simp)
    clear hZ
    go_wp2_with (refine wpList_copy_row (E := elR) (H := H) rfl _ _ 26 26 rfl 51 Try.underlying26 (by kernel_rfl) RW0.out X1.out n (by rfl) (by rfl) ?_)
    intro kk w2 zs hcop
    have L0 := Lib.hid (LRel.start (rd := Xw.row) (S := rwSp) (lt := (fun a b : Rw => a.tx < b.tx)) HG.out HL.out rfl P1'.out C1'.out RW0.out X1.out (fun i hi => by rw [List.getD_eq_getElem?_getD, List.getElem?_replicate, if_pos hi]; exact (xw0_in H _)) hcop.out)
    clear hcop RW0 B1 P1' C1' X1 HS
    go_wp2_with fail
    go_loopw [30] (fun q wr => ∃ k : Nat, k ≤ n ∧ q = .int .i64 k ∧ LRel elR Xw.row rwSp (fun a b : Rw => a.tx < b.tx) H pb g n w zs s1 wr1 k wr) (fun q _ => n - (intOf q).toNat)
    case atStart => exact ⟨0, Nat.zero_le _, rfl, L0.out.1⟩
    case round =>
      obtain ⟨k, hkn, rfl, hrel⟩ := hrel
      by_cases hlt : k < n
      · obtain ⟨hlow, zk, s2, wr2, hp, hc, hrow, hgo, hrest, hin⟩ := hrel
        obtain ⟨xk, hxk⟩ : ∃ xk, zk.getD k default = xk := ⟨_, rfl⟩
        have hr0 := hrow.at_ k hlt
        rw [hxk] at hr0
        have hxi : elR.inn H wr xk := by rw [← hxk]; exact hin _ (getD_mem (by rw [hrow.len]; exact hlt))
        have hroom : s2.room rwSp.cost := hgo.room (c := rwSp.cost) (by
          have : Ps.room s1 (256 * rwSp.cost) := G1.out.room HR.out
          refine this.mono ?_
          have : (k + 1) * rwSp.cost ≤ 256 * rwSp.cost := Nat.mul_le_mul_right _ (by omega)
          rw [Nat.add_mul] at this
          omega)
        have HXK : Hid (xk = zs.getD k default) := Lib.hid (by rw [← hxk]; exact hrest k (Nat.le_refl _) hlt)
        have MID := Lib.hid (fun v1 s3 wr3 x' (hc1 : Calm H wr v1) hp1 hx1 hg1 => LMid.of (pb := pb) (E := elR) (rd := Xw.row) (S := rwSp) (lt := (fun a b : Rw => a.tx < b.tx)) (x' := x') (w1 := v1) (s2 := s3) (wr2 := wr3) hlow HL.out rfl hrow hgo hrest hin hc hlt hc1 hp1 hx1 hg1)
        have ROW : Hid (∀ v1, Calm H wr v1 → Row elR 51 v1 g n zk) := Lib.hid (fun v1 hc1 => hrow.calm rfl hc1)
        have HR0 : Hid (wr.rangeAt g (k * 8) (elR.cells xk)) := Lib.hid hr0
        have HBE : Hid (Bk (wr.alloc (.cells (elR.cells xk).toArray 51)) wr.heap.size 51 (elR.cells xk).toArray) := Lib.hid (Bk.new wr _ _)
        have hba : Below wr.heap.size wr (wr.alloc (.cells (elR.cells xk).toArray 51)) := (Below.refl _ _).alloc (Nat.le_refl _) _
        have CN := Lib.hid (HE.out (wr.alloc (.cells (elR.cells xk).toArray 51)) s2 wr2 xk (hc.trans (Calm.of_below hba)) (hp.keeps (Keeps.of_below hba)) (elR.calm H wr _ xk hxi (Calm.of_below hba)) hroom)
        have HBA := Lib.hid hba
        have hszk : (elR.cells xk).length = 8 := elR.len xk
        have HSK := Lib.hid hszk
        clear hlow hp hc hrow hgo hrest hin hr0 hxk hroom hxi hba hszk
        go_wp2_with (first
          | (refine wpList_load_mid rfl 51 _ rfl g (k * 8) rfl (elR.cells xk) _ HR0.out Try.underlying51 rfl (by rw [HSK.out]; exact info_R) ?_)
          | (refine wpList_store_new rfl (W := wr) rfl (c := #[.int .i64 0, .int .i64 0, .int .i64 0, .int .i64 0, .int .i64 0, .int .i64 0, .slice none 0 0, .slice none 0 0]) (c' := (elR.cells xk).toArray) rfl rfl rfl (by rw [List.size_toArray, HSK.out]; exact info_R) (by simp only [List.size_toArray]; rw [HSK.out]; rfl) (all_oneCell_toArray (elR.one xk)) ?_; simp only [Act.put])
          | (refine wpList_load_row rfl 51 _ rfl wr.heap.size rfl 51 _ (0, 0) _ HBE.out Try.underlying51 rfl (by rw [List.size_toArray, HSK.out]; exact info_R) ?_))
        refine CN.out.mono ?_
        rintro e v1 ⟨_, _, s3, wr3, rfl, ⟨y, rfl, hy, rfl⟩, hg3, hp3, hc3⟩
        have hc3' := (Calm.of_below HBA.out).trans hc3
        have RV := ROW.out v1 hc3'
        have hszy : (elR.cells y).length = 8 := elR.len y
        have HSY := Lib.hid hszy
        have TH : Hid (v1.there g (k * 8) (elR.cells y).toArray.size) := Lib.hid (by rw [List.size_toArray, hszy]; exact RV.there hlt)
        have M := MID.out v1 s3 wr3 y hc3' hp3 hy (by rw [HXK.out] at hg3; exact hg3)
        obtain ⟨W2, hW2⟩ : ∃ W2, W2 = v1.setCells g (k * 8) (elR.cells y) := ⟨_, rfl⟩
        have e2 : v1.setCells g (k * elR.size) (elR.cells y) = W2 := hW2.symm
        have HW2 : Hid (v1.setCells g (k * 8) (elR.cells y).toArray.toList = W2) := Lib.hid hW2.symm
        rw [e2] at M
        have M := Lib.hid M
        clear hW2 e2 RV hg3 hp3 hc3 hc3' MID ROW CN hszy HBE HBA HR0 HSK
        have HY := Lib.hid hy
        clear hy
        go_wp2_with (refine wpList_store_mid rfl 51 _ _ rfl g (k * 8) (elR.cells y).toArray rfl rfl TH.out (by rw [List.size_toArray, HSY.out]; exact info_R) (all_oneCell_toArray (elR.one y)) ?_; rw [HW2.out]; simp only [Act.put])
        clear HW2 TH
        by_cases hk0 : k = 0
        · subst hk0
          have CE := Lib.hid (fun b => expect_any (H := H) (pb := pb) (w := W2.drew) s3 wr3 b (M.out.pst.keeps ⟨Nat.le_refl _, fun _ _ => rfl⟩))
          have hS0 : True := trivial
          refine wp_region_noPanic ?_
          refine upto_start (fun _ => True) 19 (by kernel_rfl) ?_
          change Upto _ _ _ _ _ 20 _ _ _
          refine Upto.take (i := 0) (v := ?_) rfl (by kernel_rfl) (fun _ _ _ h => h) rfl (fun w' hS => ?_) hS0 ?_
          rotate_left
          · (try dsimp only at hS); go_split_ands; go_simp; (try with_reducible rfl)
          simp only [Act.put, List.setIfInBounds_toArray, List.set_cons_zero, List.set_cons_succ]
          refine Upto.take (i := 1) (v := ?_) rfl (by kernel_rfl) (fun _ _ _ h => h) rfl (fun w' hS => ?_) hS0 ?_
          rotate_left
          · (try dsimp only at hS); go_split_ands; go_simp; (try with_reducible rfl)
          simp only [Act.put, List.setIfInBounds_toArray, List.set_cons_zero, List.set_cons_succ]
          refine Upto.take (i := 2) (v := ?_) rfl (by kernel_rfl) (fun _ _ _ h => h) rfl (fun w' hS => ?_) hS0 ?_
          rotate_left
          · (try dsimp only at hS); go_split_ands; go_simp; (try with_reducible rfl)
          simp only [Act.put, List.setIfInBounds_toArray, List.set_cons_zero, List.set_cons_succ]
          refine Upto.take (i := 3) (v := ?_) rfl (by kernel_rfl) (fun _ _ _ h => h) rfl (fun w' hS => ?_) hS0 ?_
          rotate_left
          · (try dsimp only at hS); go_split_ands; go_simp; (try with_reducible rfl)
          simp only [Act.put, List.setIfInBounds_toArray, List.set_cons_zero, List.set_cons_succ]
          refine Upto.skip (i := 4) rfl (by kernel_rfl) (fun _ _ _ h => h) rfl hS0 ?_
          simp only [Act.put, List.setIfInBounds_toArray, List.set_cons_zero, List.set_cons_succ]
          refine Upto.skip (i := 5) rfl (by kernel_rfl) (fun _ _ _ h => h) rfl hS0 ?_
          simp only [Act.put, List.setIfInBounds_toArray, List.set_cons_zero, List.set_cons_succ]
          refine Upto.skip (i := 6) rfl (by kernel_rfl) (fun _ _ _ h => h) rfl hS0 ?_
          simp only [Act.put, List.setIfInBounds_toArray, List.set_cons_zero, List.set_cons_succ]
          refine Upto.skip (i := 7) rfl (by kernel_rfl) (fun _ _ _ h => h) rfl hS0 ?_
          simp only [Act.put, List.setIfInBounds_toArray, List.set_cons_zero, List.set_cons_succ]
          refine Upto.skip (i := 8) rfl (by kernel_rfl) (fun _ _ _ h => h) rfl hS0 ?_
          simp only [Act.put, List.setIfInBounds_toArray, List.set_cons_zero, List.set_cons_succ]
          refine Upto.skip (i := 9) rfl (by kernel_rfl) (fun _ _ _ h => h) rfl hS0 ?_
          simp only [Act.put, List.setIfInBounds_toArray, List.set_cons_zero, List.set_cons_succ]
          refine Upto.skip (i := 10) rfl (by kernel_rfl) (fun _ _ _ h => h) rfl hS0 ?_
          simp only [Act.put, List.setIfInBounds_toArray, List.set_cons_zero, List.set_cons_succ]
          refine Upto.skip (i := 11) rfl (by kernel_rfl) (fun _ _ _ h => h) rfl hS0 ?_
          simp only [Act.put, List.setIfInBounds_toArray, List.set_cons_zero, List.set_cons_succ]
          refine Upto.skip (i := 12) rfl (by kernel_rfl) (fun _ _ _ h => h) rfl hS0 ?_
          simp only [Act.put, List.setIfInBounds_toArray, List.set_cons_zero, List.set_cons_succ]
          refine Upto.skip (i := 13) rfl (by kernel_rfl) (fun _ _ _ h => h) rfl hS0 ?_
          simp only [Act.put, List.setIfInBounds_toArray, List.set_cons_zero, List.set_cons_succ]
          refine Upto.skip (i := 14) rfl (by kernel_rfl) (fun _ _ _ h => h) rfl hS0 ?_
          simp only [Act.put, List.setIfInBounds_toArray, List.set_cons_zero, List.set_cons_succ]
          refine Upto.skip (i := 15) rfl (by kernel_rfl) (fun _ _ _ h => h) rfl hS0 ?_
          simp only [Act.put, List.setIfInBounds_toArray, List.set_cons_zero, List.set_cons_succ]
          refine Upto.skip (i := 16) rfl (by kernel_rfl) (fun _ _ _ h => h) rfl hS0 ?_
          simp only [Act.put, List.setIfInBounds_toArray, List.set_cons_zero, List.set_cons_succ]
          refine Upto.skip (i := 17) rfl (by kernel_rfl) (fun _ _ _ h => h) rfl hS0 ?_
          simp only [Act.put, List.setIfInBounds_toArray, List.set_cons_zero, List.set_cons_succ]
          refine Upto.take (i := 18) (v := ?_) rfl (by kernel_rfl) (fun _ _ _ h => h) rfl (fun w' hS => ?_) hS0 ?_
          rotate_left
          · (try dsimp only at hS); go_split_ands; go_simp; (try with_reducible rfl)
          simp only [Act.put, List.setIfInBounds_toArray, List.set_cons_zero, List.set_cons_succ]
          refine Upto.tail rfl (by kernel_rfl) ?_
          simp only [List.drop_succ_cons, List.drop_zero]
          go_wp2_with fail
          refine (CE.out true).mono ?_
          rintro e v4 ⟨wr4, rfl, hiff, hp4, hc4⟩
          have N := Lib.hid (M.out.next rfl (fun _ => rfl) hlt L0.out.2.1 (w4 := v4) (by exact (⟨hc4.os, hc4.tape, hc4.output, hc4.size, hc4.block⟩ : Calm H W2 v4)) hp4 (hiff.trans ⟨fun q => ⟨q.1, fun h => absurd h (by omega)⟩, fun q => ⟨q.1, rfl⟩⟩))
          clear hiff hp4 hc4 CE M
          go_wp2_with fail
          refine NoPanic.normal ?_
          go_wp2_with fail
          go_roundw
          case rel => exact ⟨0 + 1, by omega, by go_num, N.out⟩
          case measure => simp [intOf]; omega
        · obtain ⟨j, hjk⟩ : ∃ j, j = k - 1 := ⟨_, rfl⟩
          have hj1 : (k : Int) - 1 = (j : Int) := by omega
          have hj2 : ((k : Int) == 0) = false := by simp; omega
          have hjn : j < n := by omega
          have hwj : IntKind.i64.wrap (j : Int) = (j : Int) := by rw [IntKind.wrap_i64]; omega
          have HJ := Lib.hid hjk
          clear hjk
          obtain ⟨xp, hxp⟩ : ∃ xp, (zk.set k y).getD j default = xp := ⟨_, rfl⟩
          have hr1 := M.out.row.at_ j hjn
          have hr2 := M.out.row.at_ k hlt
          rw [hxp] at hr1
          rw [getD_set (by rw [M.out.len]; exact hlt), if_pos rfl] at hr2
          have HXP := Lib.hid hxp
          clear hxp
          have hS0 : W2.drew.rangeAt g (j * 8) (elR.cells xp) ∧ W2.drew.rangeAt g (k * 8) (elR.cells y) := ⟨hr1, hr2⟩
          have hgl : g < W2.drew.heap.size := M.out.row.lt
          have HGL := Lib.hid hgl
          clear hr1 hr2 hgl
          refine wp_region_noPanic ?_
          refine upto_start (fun w' => w'.rangeAt g (j * 8) (elR.cells xp) ∧ w'.rangeAt g (k * 8) (elR.cells y)) 19 (by kernel_rfl) ?_
          change Upto _ _ _ _ _ 20 _ _ _
          refine Upto.take (i := 0) (v := ?_) rfl (by kernel_rfl) (fun _ _ _ h => h) rfl (fun w' hS => ?_) hS0 ?_
          rotate_left
          · (try dsimp only at hS); go_split_ands; go_simp; (try with_reducible rfl)
          simp only [Act.put, List.setIfInBounds_toArray, List.set_cons_zero, List.set_cons_succ]
          refine Upto.take (i := 1) (v := ?_) rfl (by kernel_rfl) (fun _ _ _ h => h) rfl (fun w' hS => ?_) hS0 ?_
          rotate_left
          · (try dsimp only at hS); go_split_ands; go_simp; (try with_reducible rfl)
          simp only [Act.put, List.setIfInBounds_toArray, List.set_cons_zero, List.set_cons_succ]
          refine Upto.take (i := 2) (v := ?_) rfl (by kernel_rfl) (fun _ _ _ h => h) rfl (fun w' hS => ?_) hS0 ?_
          rotate_left
          · (try dsimp only at hS); go_split_ands; go_simp; (try with_reducible rfl)
          simp only [Act.put, List.setIfInBounds_toArray, List.set_cons_zero, List.set_cons_succ]
          refine Upto.take (i := 3) (v := ?_) rfl (by kernel_rfl) (fun _ _ _ h => h) rfl (fun w' hS => ?_) hS0 ?_
          rotate_left
          · (try dsimp only at hS); go_split_ands; go_simp; (try with_reducible rfl)
          simp only [Act.put, List.setIfInBounds_toArray, List.set_cons_zero, List.set_cons_succ]
          refine Upto.takeG (i := 4) (v := ?_) rfl (by kernel_rfl) (fun _ _ _ h => h) rfl (fun w' hS => ?_) hS0 ?_
          rotate_left
          · (try dsimp only at hS); go_split_ands; go_simp; (try with_reducible rfl)
          simp only [Act.put, List.setIfInBounds_toArray, List.set_cons_zero, List.set_cons_succ]
          refine Upto.takeG (i := 5) (v := ?_) rfl (by kernel_rfl) (fun _ _ _ h => h) rfl (fun w' hS => ?_) hS0 ?_
          rotate_left
          · (try dsimp only at hS); go_split_ands; go_simp; (try with_reducible rfl)
          simp only [Act.put, List.setIfInBounds_toArray, List.set_cons_zero, List.set_cons_succ]
          refine Upto.takeG (i := 6) (v := ?_) rfl (by kernel_rfl) (fun _ _ _ h => h) rfl (fun w' hS => ?_) hS0 ?_
          rotate_left
          · (try dsimp only at hS); go_split_ands; go_simp; (try with_reducible rfl)
          simp only [Act.put, List.setIfInBounds_toArray, List.set_cons_zero, List.set_cons_succ]
          refine Upto.takeG (i := 7) (v := ?_) rfl (by kernel_rfl) (fun _ _ _ h => h) rfl (fun w' hS => ?_) hS0 ?_
          rotate_left
          · (try dsimp only at hS); go_split_ands; go_simp; (try with_reducible rfl)
          simp only [Act.put, List.setIfInBounds_toArray, List.set_cons_zero, List.set_cons_succ]
          refine Upto.takeG (i := 8) (v := ?_) rfl (by kernel_rfl) (fun _ _ _ h => h) rfl (fun w' hS => ?_) hS0 ?_
          rotate_left
          · (try dsimp only at hS); go_split_ands; go_simp; (try with_reducible rfl)
          simp only [Act.put, List.setIfInBounds_toArray, List.set_cons_zero, List.set_cons_succ]
          refine Upto.takeG (i := 9) rfl (by kernel_rfl) (fun _ _ _ h => h) rfl (fun w' hS => exec_load rfl (by rfl) hS.1 Try.underlying51 rfl (by rw [elR.len xp]; exact info_R)) hS0 ?_
          simp only [Act.put, List.setIfInBounds_toArray, List.set_cons_zero, List.set_cons_succ]
          refine Upto.takeG (i := 11) (v := ?_) rfl (by kernel_rfl) (fun _ _ _ h => h) rfl (fun w' hS => ?_) hS0 ?_
          rotate_left
          · (try dsimp only at hS); go_split_ands; go_simp; (try with_reducible rfl)
          simp only [Act.put, List.setIfInBounds_toArray, List.set_cons_zero, List.set_cons_succ]
          refine Upto.takeG (i := 12) (v := ?_) rfl (by kernel_rfl) (fun _ _ _ h => h) rfl (fun w' hS => ?_) hS0 ?_
          rotate_left
          · (try dsimp only at hS); go_split_ands; go_simp; (try with_reducible rfl)
          simp only [Act.put, List.setIfInBounds_toArray, List.set_cons_zero, List.set_cons_succ]
          refine Upto.takeG (i := 13) (v := ?_) rfl (by kernel_rfl) (fun _ _ _ h => h) rfl (fun w' hS => ?_) hS0 ?_
          rotate_left
          · (try dsimp only at hS); go_split_ands; go_simp; (try with_reducible rfl)
          simp only [Act.put, List.setIfInBounds_toArray, List.set_cons_zero, List.set_cons_succ]
          refine Upto.takeG (i := 14) (v := ?_) rfl (by kernel_rfl) (fun _ _ _ h => h) rfl (fun w' hS => ?_) hS0 ?_
          rotate_left
          · (try dsimp only at hS); go_split_ands; go_simp; (try with_reducible rfl)
          simp only [Act.put, List.setIfInBounds_toArray, List.set_cons_zero, List.set_cons_succ]
          refine Upto.takeG (i := 15) rfl (by kernel_rfl) (fun _ _ _ h => h) rfl (fun w' hS => exec_load rfl (by rfl) hS.2 Try.underlying51 rfl (by rw [elR.len y]; exact info_R)) hS0 ?_
          simp only [Act.put, List.setIfInBounds_toArray, List.set_cons_zero, List.set_cons_succ]
          refine Upto.lawG (i := 10) rfl (by kernel_rfl) rfl (fun K hK => ?_)
          refine wp_enter (f := 79) (args := #[.agg (elR.cells xp).toArray]) (by go_simp) (by_R xp _) ?_
          rintro e W3 ⟨rfl, hb3⟩
          have hS1 := And.intro (rangeAt_heap hS0.1 (hb3.block g HGL.out)) (rangeAt_heap hS0.2 (hb3.block g HGL.out))
          refine ⟨_, rfl, hK _ _ hS1 ?_⟩
          clear hK
          have HB3 := Lib.hid hb3
          clear hb3
          simp only [Act.put, List.setIfInBounds_toArray, List.set_cons_zero, List.set_cons_succ]
          refine Upto.lawG (i := 16) rfl (by kernel_rfl) rfl (fun K hK => ?_)
          refine wp_enter (f := 79) (args := #[.agg (elR.cells y).toArray]) (by go_simp) (by_R y _) ?_
          rintro e W4 ⟨rfl, hb4⟩
          have hgl3 : g < W3.heap.size := Nat.lt_of_lt_of_le HGL.out HB3.out.size
          have hS2 := And.intro (rangeAt_heap hS1.1 (hb4.block g hgl3)) (rangeAt_heap hS1.2 (hb4.block g hgl3))
          refine ⟨_, rfl, hK _ _ hS2 ?_⟩
          have HW4 : Hid (Pst H W4 pb s3 wr3 ∧ Calm H W2 W4) := Lib.hid (by
            have b4 : Below W2.heap.size W2 W4 := by
              have a := Below.then HB3.out hb4
              exact ⟨a.os, a.tape, a.output, a.size, a.block⟩
            exact ⟨M.out.pst.keeps (Keeps.of_below b4), Calm.of_below b4⟩)
          clear hK hS0 hS1 hb4 HB3 hgl3
          have hS0 := hS2
          clear hS2
          simp only [Act.put, List.setIfInBounds_toArray, List.set_cons_zero, List.set_cons_succ]
          refine Upto.takeG (i := 17) (v := ?_) rfl (by kernel_rfl) (fun _ _ _ h => h) rfl (fun w' hS => ?_) hS0 ?_
          rotate_left
          · (try dsimp only at hS); go_split_ands; go_simp; (try with_reducible rfl)
          simp only [Act.put, List.setIfInBounds_toArray, List.set_cons_zero, List.set_cons_succ]
          refine Upto.take (i := 18) (v := ?_) rfl (by kernel_rfl) (fun _ _ _ h => h) rfl (fun w' hS => ?_) hS0 ?_
          rotate_left
          · (try dsimp only at hS); go_split_ands; go_simp; (try with_reducible rfl)
          simp only [Act.put, List.setIfInBounds_toArray, List.set_cons_zero, List.set_cons_succ]
          have CE := Lib.hid (expect_any (H := H) (pb := pb) (w := W4) s3 wr3 (decide (xp.tx < y.tx)) HW4.out.1)
          refine Upto.tail rfl (by kernel_rfl) ?_
          simp only [List.drop_succ_cons, List.drop_zero]
          go_wp2_with fail
          refine CE.out.mono ?_
          rintro e v4 ⟨wr4, rfl, hiff, hp4, hc4⟩
          have N := Lib.hid (M.out.next rfl (fun _ => rfl) hlt L0.out.2.1 (w4 := v4) (HW4.out.2.trans hc4) hp4 (hiff.trans (by
            have e1 : (zk.set k y).getD (k - 1) default = xp := by rw [← HJ.out]; exact HXP.out
            have e2 : (zk.set k y).getD k default = y := by rw [getD_set (by rw [M.out.len]; exact hlt), if_pos rfl]
            rw [e1, e2]
            exact ⟨fun q => ⟨q.1, fun _ => by have := of_decide_eq_true q.2; exact this⟩, fun q => ⟨q.1, by have := q.2 (by omega); exact decide_eq_true this⟩⟩)))
          clear hiff hp4 hc4 CE M HW4 hS0
          go_wp2_with fail
          refine NoPanic.normal ?_
          go_wp2_with fail
          go_roundw
          case rel => exact ⟨k + 1, by omega, by go_num, N.out⟩
          case measure => simp [intOf]; omega
      · obtain rfl : k = n := by omega
        have R := Lib.hid (hrel.done HL.out (xs := xs) (most := 64) (by omega) rfl L0.out.2.1 G1.out HN.out L0.out.2.2)
        clear hrel
        go_wp2_with fail
        go_ret
        exact R.out
end
end Go.Proofs.Ytfldcddbmikfiaa

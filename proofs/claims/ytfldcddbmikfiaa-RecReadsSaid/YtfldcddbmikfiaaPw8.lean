/- What it says: contracts and plain mathematics that the laws' walks use, 8 of 34: each part's own remark says what; no condition. -/
import Derived.Test.YtfldcddbmikfiaaPw6
import Derived.Test.YtfldcddbmikfiaaPw7
import Derived.Lib.MinMax

set_option linter.unusedSimpArgs false
set_option linter.unusedVariables false
set_option linter.deprecated false
set_option linter.unusedSectionVars false
set_option linter.all false

/- rec's list, at locks: what it passes on. -/
namespace Go.Proofs.Ytfldcddbmikfiaa
open Go.RowKit
theorem mk_L (n : Nat) (hn : n ≤ 256) (W : World) : (Instr.makeSlice 25 (.int .i64 (n : Int)) (.int .i64 (n : Int))).run Try.prog W =
    .ok (.slice (some ⟨W.heap.size, 0, none⟩) n n) (W.alloc (.cells (madeCells #[.string ⟨#[]⟩, .bool false] (n * elL.size)) 49)) := by
  have hz : (Try.prog.info? 49).map (fun i => (i.zero, i.size, i.bytes)) = some (some (.agg #[.string ⟨#[]⟩, .bool false]), 2, 24) := by kernel_rfl
  obtain ⟨i0, hi, hz0, hz1, hz2⟩ := info_parts hz
  have := run_make (P := Try.prog) W 25 49 i0 (.agg #[.string ⟨#[]⟩, .bool false]) Try.underlying25 hi hz0 .i64 .i64 n n (by omega) (by omega) (by rw [hz2]; omega) (by omega)
  rw [this, hz1, Int.toNat_natCast]
  rfl
theorem info_L : (Try.prog.info? 49).map (·.size) = some 2 := by kernel_rfl
theorem by_L (x : Lk) (w : World) : Calls Try.prog 76 #[.agg (elL.cells x).toArray] w (fun e w' => e = .returned (.string x.key) ∧ Below w.heap.size w w') := by
  have e : (Value.agg (elL.cells x).toArray) = .agg #[.string x.key, .bool x.x] := rfl
  rw [e]
  go_enter Try.func76, Try.ntmps76
  go_wp2_with fail
  go_ret
  exact ⟨rfl, (Below.refl _ _).alloc (Nat.le_refl _) _⟩
section
variable {H pb : Nat} {w : World}
set_option maxRecDepth 100000 in
set_option maxHeartbeats 8000000 in
theorem listL_any [Inhabited Prop] (s : Ps) (wr : Bool) (A : Option Addr) (n0 c0 : Nat) (xs : List Lk) (q : Addr) (h : Pst H w pb s wr) (hx : Sl elL H w A n0 c0 xs) (hr : s.room (10 + 256 * lkSp.cost))
    (hE : ∀ (w1 : World) (s1 : Ps) (wr1 : Bool) (x : Lk), Calm H w w1 → Pst H w1 pb s1 wr1 → elL.inn H w1 x → s1.room lkSp.cost → Calls Try.prog 74 #[.agg (elL.cells x).toArray, .pointer (some q)] w1 (RetV lkSp (VE elL id (fun x => .agg (elL.cells x).toArray) H) (id x) H pb s1 wr1 w1)) :
    Calls Try.prog 75 #[.pointer (some ⟨pb, 0, none⟩), .slice A n0 c0, .int .i64 64, .func (.func 74) #[] #[.pointer (some q)], .func (.func 76) #[] #[]] w
      (RetV (lkSp.list 64 (fun a b : Lk => kLt a.key b.key)) (VL elL id H) (xs.map id) H pb s wr w) := by
  have hmaxn : n0 ≤ 9223372036854775807 := by have := hx.cap; have := hx.max; unfold maxLen at this; omega
  have CC := Lib.hid (count_any (H := H) (pb := pb) s wr (n0 : Int) 64 h (by omega) (by omega) (hr.mono (by omega)))
  have HX := Lib.hid hx
  have HR := Lib.hid hr
  have HL := Lib.hid h.low
  have HE := Lib.hid hE
  clear hE
  clear h hx hr
  go_enter Try.func75, Try.ntmps75
  go_wp2_with fail
  refine CC.out.mono ?_
  rintro e w1 ⟨_, z, s1, wr1, rfl, ⟨rfl, hz0, hz1⟩, hg, hp, hc⟩
  obtain ⟨n, hn⟩ : ∃ n : Nat, (n : Int) = min z 256 := ⟨(min z 256).toNat, by omega⟩
  have hmin : min z 256 = (n : Int) := hn.symm
  have hlen : xs.length = n0 := HX.out.len
  have G1 : Hid (Goes (cntS 64) (((xs.map (id : Lk → Lk)).length : Nat) : Int) s wr z s1 wr1) := Lib.hid (by rw [List.length_map, hlen]; exact hg)
  have P1 := Lib.hid hp
  have C1 := Lib.hid hc
  have HN : Hid ((n : Int) = min z 256) := Lib.hid hn
  have hn256 : n ≤ 256 := by omega
  clear hg hp hc CC hn hlen hz0 hz1
  by_cases h0 : n = 0
  · subst h0
    have R := Lib.hid (list_empty (E := elL) (rd := id) (S := lkSp) (lt := (fun a b : Lk => kLt a.key b.key)) (xs := xs) P1.out C1.out (most := 64) (by omega) G1.out HN.out)
    go_wp2_with fail
    go_ret
    exact R.out
  · have hne : ((n : Int) == 0) = false := by simp; omega
    have kmk := mk_L n hn256
    obtain ⟨Z, hZ⟩ : ∃ Z, Z = madeCells #[.string ⟨#[]⟩, .bool false] (n * elL.size) := ⟨_, rfl⟩
    rw [← hZ] at kmk
    obtain ⟨g, hgd⟩ : ∃ g, w1.heap.size = g := ⟨_, rfl⟩
    have RW0 : Hid (Row elL 49 (w1.alloc (.cells Z 49)) g n (List.replicate n (⟨⟨#[]⟩, false⟩ : Lk))) := Lib.hid (by rw [hZ, ← hgd]; exact Row.made w1 ((⟨⟨#[]⟩, false⟩ : Lk)) #[.string ⟨#[]⟩, .bool false] rfl n)
    have B1 : Hid (Below w1.heap.size w1 (w1.alloc (.cells Z 49))) := Lib.hid ((Below.refl _ _).alloc (Nat.le_refl _) _)
    have P1' : Hid (Pst H (w1.alloc (.cells Z 49)) pb s1 wr1) := Lib.hid (P1.out.keeps (Keeps.of_below B1.out))
    have C1' : Hid (Calm H w (w1.alloc (.cells Z 49))) := Lib.hid (C1.out.trans (Calm.of_below B1.out))
    have X1 : Hid (Sl elL H (w1.alloc (.cells Z 49)) A n0 c0 xs) := Lib.hid (HX.out.calm C1'.out)
    have HG : Hid (w.heap.size ≤ g) := Lib.hid (by rw [← hgd]; exact C1.out.size)
    have HS : Hid ((w1.alloc (.cells Z 49)).heap.size = g + 1) := Lib.hid (by rw [← hgd]; simp)
    clear hZ
    go_wp2_with (refine wpList_copy_row (E := elL) (H := H) rfl _ _ 25 25 rfl 49 Try.underlying25 (by kernel_rfl) RW0.out X1.out n (by rfl) (by rfl) ?_)
    intro kk w2 zs hcop
    have L0 := Lib.hid (LRel.start (rd := id) (S := lkSp) (lt := (fun a b : Lk => kLt a.key b.key)) HG.out HL.out rfl P1'.out C1'.out RW0.out X1.out (fun i hi => by rw [List.getD_eq_getElem?_getD, List.getElem?_replicate, if_pos hi]; exact (Nat.zero_le _)) hcop.out)
    clear hcop RW0 B1 P1' C1' X1 HS
    go_wp2_with fail
    go_loopw [30] (fun q wr => ∃ k : Nat, k ≤ n ∧ q = .int .i64 k ∧ LRel elL id lkSp (fun a b : Lk => kLt a.key b.key) H pb g n w zs s1 wr1 k wr) (fun q _ => n - (intOf q).toNat)
    case atStart => exact ⟨0, Nat.zero_le _, rfl, L0.out.1⟩
    case round =>
      obtain ⟨k, hkn, rfl, hrel⟩ := hrel
      by_cases hlt : k < n
      · obtain ⟨hlow, zk, s2, wr2, hp, hc, hrow, hgo, hrest, hin⟩ := hrel
        obtain ⟨xk, hxk⟩ : ∃ xk, zk.getD k default = xk := ⟨_, rfl⟩
        have hr0 := hrow.at_ k hlt
        rw [hxk] at hr0
        have hxi : elL.inn H wr xk := by rw [← hxk]; exact hin _ (getD_mem (by rw [hrow.len]; exact hlt))
        have hroom : s2.room lkSp.cost := hgo.room (c := lkSp.cost) (by
          have : Ps.room s1 (256 * lkSp.cost) := G1.out.room HR.out
          refine this.mono ?_
          have : (k + 1) * lkSp.cost ≤ 256 * lkSp.cost := Nat.mul_le_mul_right _ (by omega)
          rw [Nat.add_mul] at this
          omega)
        have HXK : Hid (xk = zs.getD k default) := Lib.hid (by rw [← hxk]; exact hrest k (Nat.le_refl _) hlt)
        have MID := Lib.hid (fun v1 s3 wr3 x' (hc1 : Calm H wr v1) hp1 hx1 hg1 => LMid.of (pb := pb) (E := elL) (rd := id) (S := lkSp) (lt := (fun a b : Lk => kLt a.key b.key)) (x' := x') (w1 := v1) (s2 := s3) (wr2 := wr3) hlow HL.out rfl hrow hgo hrest hin hc hlt hc1 hp1 hx1 hg1)
        have ROW : Hid (∀ v1, Calm H wr v1 → Row elL 49 v1 g n zk) := Lib.hid (fun v1 hc1 => hrow.calm rfl hc1)
        have HR0 : Hid (wr.rangeAt g (k * 2) (elL.cells xk)) := Lib.hid hr0
        have HBE : Hid (Bk (wr.alloc (.cells (elL.cells xk).toArray 49)) wr.heap.size 49 (elL.cells xk).toArray) := Lib.hid (Bk.new wr _ _)
        have hba : Below wr.heap.size wr (wr.alloc (.cells (elL.cells xk).toArray 49)) := (Below.refl _ _).alloc (Nat.le_refl _) _
        have CN := Lib.hid (HE.out (wr.alloc (.cells (elL.cells xk).toArray 49)) s2 wr2 xk (hc.trans (Calm.of_below hba)) (hp.keeps (Keeps.of_below hba)) (elL.calm H wr _ xk hxi (Calm.of_below hba)) hroom)
        have HBA := Lib.hid hba
        have hszk : (elL.cells xk).length = 2 := elL.len xk
        have HSK := Lib.hid hszk
        clear hlow hp hc hrow hgo hrest hin hr0 hxk hroom hxi hba hszk
        go_wp2_with (first
          | (refine wpList_load_mid rfl 49 _ rfl g (k * 2) rfl (elL.cells xk) _ HR0.out Try.underlying49 rfl (by rw [HSK.out]; exact info_L) ?_)
          | (refine wpList_store_new rfl (W := wr) rfl (c := #[.string ⟨#[]⟩, .bool false]) (c' := (elL.cells xk).toArray) rfl rfl rfl (by rw [List.size_toArray, HSK.out]; exact info_L) (by simp only [List.size_toArray]; rw [HSK.out]; rfl) (all_oneCell_toArray (elL.one xk)) ?_; simp only [Act.put])
          | (refine wpList_load_row rfl 49 _ rfl wr.heap.size rfl 49 _ (0, 0) _ HBE.out Try.underlying49 rfl (by rw [List.size_toArray, HSK.out]; exact info_L) ?_))
        refine CN.out.mono ?_
        rintro e v1 ⟨_, _, s3, wr3, rfl, ⟨y, rfl, hy, rfl⟩, hg3, hp3, hc3⟩
        have hc3' := (Calm.of_below HBA.out).trans hc3
        have RV := ROW.out v1 hc3'
        have hszy : (elL.cells y).length = 2 := elL.len y
        have HSY := Lib.hid hszy
        have TH : Hid (v1.there g (k * 2) (elL.cells y).toArray.size) := Lib.hid (by rw [List.size_toArray, hszy]; exact RV.there hlt)
        have M := MID.out v1 s3 wr3 y hc3' hp3 hy (by rw [HXK.out] at hg3; exact hg3)
        obtain ⟨W2, hW2⟩ : ∃ W2, W2 = v1.setCells g (k * 2) (elL.cells y) := ⟨_, rfl⟩
        have e2 : v1.setCells g (k * elL.size) (elL.cells y) = W2 := hW2.symm
        have HW2 : Hid (v1.setCells g (k * 2) (elL.cells y).toArray.toList = W2) := Lib.hid hW2.symm
        rw [e2] at M
        have M := Lib.hid M
        clear hW2 e2 RV hg3 hp3 hc3 hc3' MID ROW CN hszy HBE HBA HR0 HSK
        have HY := Lib.hid hy
        clear hy
        go_wp2_with (refine wpList_store_mid rfl 49 _ _ rfl g (k * 2) (elL.cells y).toArray rfl rfl TH.out (by rw [List.size_toArray, HSY.out]; exact info_L) (all_oneCell_toArray (elL.one y)) ?_; rw [HW2.out]; simp only [Act.put])
        clear HW2 TH
        by_cases hk0 : k = 0
        · subst hk0
          have CE := Lib.hid (fun b => expect_any (H := H) (pb := pb) (w := W2.drew) s3 wr3 b (M.out.pst.keeps ⟨Nat.le_refl _, fun _ _ => rfl⟩))
          have hS0 : True := trivial
          refine wp_region_noPanic ?_
          refine upto_start (fun _ => True) 19 (by kernel_rfl) ?_
          change Upto _ _ _ _ _ 20 _ _ _
          refine Upto.take (i := 0) (v := ?_) rfl (by kernel_rfl) (fun _ _ _ h => h) rfl (fun w' hS => ?_) hS0 ?_
          rotate_left
          · (try dsimp only at hS); go_split_ands; go_simp; (try with_reducible rfl)
          simp only [Act.put, List.setIfInBounds_toArray, List.set_cons_zero, List.set_cons_succ]
          refine Upto.take (i := 1) (v := ?_) rfl (by kernel_rfl) (fun _ _ _ h => h) rfl (fun w' hS => ?_) hS0 ?_
          rotate_left
          · (try dsimp only at hS); go_split_ands; go_simp; (try with_reducible rfl)
          simp only [Act.put, List.setIfInBounds_toArray, List.set_cons_zero, List.set_cons_succ]
          refine Upto.take (i := 2) (v := ?_) rfl (by kernel_rfl) (fun _ _ _ h => h) rfl (fun w' hS => ?_) hS0 ?_
          rotate_left
          · (try dsimp only at hS); go_split_ands; go_simp; (try with_reducible rfl)
          simp only [Act.put, List.setIfInBounds_toArray, List.set_cons_zero, List.set_cons_succ]
          refine Upto.take (i := 3) (v := ?_) rfl (by kernel_rfl) (fun _ _ _ h => h) rfl (fun w' hS => ?_) hS0 ?_
          rotate_left
          · (try dsimp only at hS); go_split_ands; go_simp; (try with_reducible rfl)
          simp only [Act.put, List.setIfInBounds_toArray, List.set_cons_zero, List.set_cons_succ]
          refine Upto.skip (i := 4) rfl (by kernel_rfl) (fun _ _ _ h => h) rfl hS0 ?_
          simp only [Act.put, List.setIfInBounds_toArray, List.set_cons_zero, List.set_cons_succ]
          refine Upto.skip (i := 5) rfl (by kernel_rfl) (fun _ _ _ h => h) rfl hS0 ?_
          simp only [Act.put, List.setIfInBounds_toArray, List.set_cons_zero, List.set_cons_succ]
          refine Upto.skip (i := 6) rfl (by kernel_rfl) (fun _ _ _ h => h) rfl hS0 ?_
          simp only [Act.put, List.setIfInBounds_toArray, List.set_cons_zero, List.set_cons_succ]
          refine Upto.skip (i := 7) rfl (by kernel_rfl) (fun _ _ _ h => h) rfl hS0 ?_
          simp only [Act.put, List.setIfInBounds_toArray, List.set_cons_zero, List.set_cons_succ]
          refine Upto.skip (i := 8) rfl (by kernel_rfl) (fun _ _ _ h => h) rfl hS0 ?_
          simp only [Act.put, List.setIfInBounds_toArray, List.set_cons_zero, List.set_cons_succ]
          refine Upto.skip (i := 9) rfl (by kernel_rfl) (fun _ _ _ h => h) rfl hS0 ?_
          simp only [Act.put, List.setIfInBounds_toArray, List.set_cons_zero, List.set_cons_succ]
          refine Upto.skip (i := 10) rfl (by kernel_rfl) (fun _ _ _ h => h) rfl hS0 ?_
          simp only [Act.put, List.setIfInBounds_toArray, List.set_cons_zero, List.set_cons_succ]
          refine Upto.skip (i := 11) rfl (by kernel_rfl) (fun _ _ _ h => h) rfl hS0 ?_
          simp only [Act.put, List.setIfInBounds_toArray, List.set_cons_zero, List.set_cons_succ]
          refine Upto.skip (i := 12) rfl (by kernel_rfl) (fun _ _ _ h => h) rfl hS0 ?_
          simp only [Act.put, List.setIfInBounds_toArray, List.set_cons_zero, List.set_cons_succ]
          refine Upto.skip (i := 13) rfl (by kernel_rfl) (fun _ _ _ h => h) rfl hS0 ?_
          simp only [Act.put, List.setIfInBounds_toArray, List.set_cons_zero, List.set_cons_succ]
          refine Upto.skip (i := 14) rfl (by kernel_rfl) (fun _ _ _ h => h) rfl hS0 ?_
          simp only [Act.put, List.setIfInBounds_toArray, List.set_cons_zero, List.set_cons_succ]
          refine Upto.skip (i := 15) rfl (by kernel_rfl) (fun _ _ _ h => h) rfl hS0 ?_
          simp only [Act.put, List.setIfInBounds_toArray, List.set_cons_zero, List.set_cons_succ]
          refine Upto.skip (i := 16) rfl (by kernel_rfl) (fun _ _ _ h => h) rfl hS0 ?_
          simp only [Act.put, List.setIfInBounds_toArray, List.set_cons_zero, List.set_cons_succ]
          refine Upto.skip (i := 17) rfl (by kernel_rfl) (fun _ _ _ h => h) rfl hS0 ?_
          simp only [Act.put, List.setIfInBounds_toArray, List.set_cons_zero, List.set_cons_succ]
          refine Upto.take (i := 18) (v := ?_) rfl (by kernel_rfl) (fun _ _ _ h => h) rfl (fun w' hS => ?_) hS0 ?_
          rotate_left
          · (try dsimp only at hS); go_split_ands; go_simp; (try with_reducible rfl)
          simp only [Act.put, List.setIfInBounds_toArray, List.set_cons_zero, List.set_cons_succ]
          refine Upto.tail rfl (by kernel_rfl) ?_
          simp only [List.drop_succ_cons, List.drop_zero]
          go_wp2_with fail
          refine (CE.out true).mono ?_
          rintro e v4 ⟨wr4, rfl, hiff, hp4, hc4⟩
          have N := Lib.hid (M.out.next rfl (fun _ => rfl) hlt L0.out.2.1 (w4 := v4) (by exact (⟨hc4.os, hc4.tape, hc4.output, hc4.size, hc4.block⟩ : Calm H W2 v4)) hp4 (hiff.trans ⟨fun q => ⟨q.1, fun h => absurd h (by omega)⟩, fun q => ⟨q.1, rfl⟩⟩))
          clear hiff hp4 hc4 CE M
          go_wp2_with fail
          refine NoPanic.normal ?_
          go_wp2_with fail
          go_roundw
          case rel => exact ⟨0 + 1, by omega, by go_num, N.out⟩
          case measure => simp [intOf]; omega
        · obtain ⟨j, hjk⟩ : ∃ j, j = k - 1 := ⟨_, rfl⟩
          have hj1 : (k : Int) - 1 = (j : Int) := by omega
          have hj2 : ((k : Int) == 0) = false := by simp; omega
          have hjn : j < n := by omega
          have hwj : IntKind.i64.wrap (j : Int) = (j : Int) := by rw [IntKind.wrap_i64]; omega
          have HJ := Lib.hid hjk
          clear hjk
          obtain ⟨xp, hxp⟩ : ∃ xp, (zk.set k y).getD j default = xp := ⟨_, rfl⟩
          have hr1 := M.out.row.at_ j hjn
          have hr2 := M.out.row.at_ k hlt
          rw [hxp] at hr1
          rw [getD_set (by rw [M.out.len]; exact hlt), if_pos rfl] at hr2
          have HXP := Lib.hid hxp
          clear hxp
          have hS0 : W2.drew.rangeAt g (j * 2) (elL.cells xp) ∧ W2.drew.rangeAt g (k * 2) (elL.cells y) := ⟨hr1, hr2⟩
          have hgl : g < W2.drew.heap.size := M.out.row.lt
          have HGL := Lib.hid hgl
          clear hr1 hr2 hgl
          refine wp_region_noPanic ?_
          refine upto_start (fun w' => w'.rangeAt g (j * 2) (elL.cells xp) ∧ w'.rangeAt g (k * 2) (elL.cells y)) 19 (by kernel_rfl) ?_
          change Upto _ _ _ _ _ 20 _ _ _
          refine Upto.take (i := 0) (v := ?_) rfl (by kernel_rfl) (fun _ _ _ h => h) rfl (fun w' hS => ?_) hS0 ?_
          rotate_left
          · (try dsimp only at hS); go_split_ands; go_simp; (try with_reducible rfl)
          simp only [Act.put, List.setIfInBounds_toArray, List.set_cons_zero, List.set_cons_succ]
          refine Upto.take (i := 1) (v := ?_) rfl (by kernel_rfl) (fun _ _ _ h => h) rfl (fun w' hS => ?_) hS0 ?_
          rotate_left
          · (try dsimp only at hS); go_split_ands; go_simp; (try with_reducible rfl)
          simp only [Act.put, List.setIfInBounds_toArray, List.set_cons_zero, List.set_cons_succ]
          refine Upto.take (i := 2) (v := ?_) rfl (by kernel_rfl) (fun _ _ _ h => h) rfl (fun w' hS => ?_) hS0 ?_
          rotate_left
          · (try dsimp only at hS); go_split_ands; go_simp; (try with_reducible rfl)
          simp only [Act.put, List.setIfInBounds_toArray, List.set_cons_zero, List.set_cons_succ]
          refine Upto.take (i := 3) (v := ?_) rfl (by kernel_rfl) (fun _ _ _ h => h) rfl (fun w' hS => ?_) hS0 ?_
          rotate_left
          · (try dsimp only at hS); go_split_ands; go_simp; (try with_reducible rfl)
          simp only [Act.put, List.setIfInBounds_toArray, List.set_cons_zero, List.set_cons_succ]
          refine Upto.takeG (i := 4) (v := ?_) rfl (by kernel_rfl) (fun _ _ _ h => h) rfl (fun w' hS => ?_) hS0 ?_
          rotate_left
          · (try dsimp only at hS); go_split_ands; go_simp; (try with_reducible rfl)
          simp only [Act.put, List.setIfInBounds_toArray, List.set_cons_zero, List.set_cons_succ]
          refine Upto.takeG (i := 5) (v := ?_) rfl (by kernel_rfl) (fun _ _ _ h => h) rfl (fun w' hS => ?_) hS0 ?_
          rotate_left
          · (try dsimp only at hS); go_split_ands; go_simp; (try with_reducible rfl)
          simp only [Act.put, List.setIfInBounds_toArray, List.set_cons_zero, List.set_cons_succ]
          refine Upto.takeG (i := 6) (v := ?_) rfl (by kernel_rfl) (fun _ _ _ h => h) rfl (fun w' hS => ?_) hS0 ?_
          rotate_left
          · (try dsimp only at hS); go_split_ands; go_simp; (try with_reducible rfl)
          simp only [Act.put, List.setIfInBounds_toArray, List.set_cons_zero, List.set_cons_succ]
          refine Upto.takeG (i := 7) (v := ?_) rfl (by kernel_rfl) (fun _ _ _ h => h) rfl (fun w' hS => ?_) hS0 ?_
          rotate_left
          · (try dsimp only at hS); go_split_ands; go_simp; (try with_reducible rfl)
          simp only [Act.put, List.setIfInBounds_toArray, List.set_cons_zero, List.set_cons_succ]
          refine Upto.takeG (i := 8) (v := ?_) rfl (by kernel_rfl) (fun _ _ _ h => h) rfl (fun w' hS => ?_) hS0 ?_
          rotate_left
          · (try dsimp only at hS); go_split_ands; go_simp; (try with_reducible rfl)
          simp only [Act.put, List.setIfInBounds_toArray, List.set_cons_zero, List.set_cons_succ]
          refine Upto.takeG (i := 9) rfl (by kernel_rfl) (fun _ _ _ h => h) rfl (fun w' hS => exec_load rfl (by rfl) hS.1 Try.underlying49 rfl (by rw [elL.len xp]; exact info_L)) hS0 ?_
          simp only [Act.put, List.setIfInBounds_toArray, List.set_cons_zero, List.set_cons_succ]
          refine Upto.takeG (i := 11) (v := ?_) rfl (by kernel_rfl) (fun _ _ _ h => h) rfl (fun w' hS => ?_) hS0 ?_
          rotate_left
          · (try dsimp only at hS); go_split_ands; go_simp; (try with_reducible rfl)
          simp only [Act.put, List.setIfInBounds_toArray, List.set_cons_zero, List.set_cons_succ]
          refine Upto.takeG (i := 12) (v := ?_) rfl (by kernel_rfl) (fun _ _ _ h => h) rfl (fun w' hS => ?_) hS0 ?_
          rotate_left
          · (try dsimp only at hS); go_split_ands; go_simp; (try with_reducible rfl)
          simp only [Act.put, List.setIfInBounds_toArray, List.set_cons_zero, List.set_cons_succ]
          refine Upto.takeG (i := 13) (v := ?_) rfl (by kernel_rfl) (fun _ _ _ h => h) rfl (fun w' hS => ?_) hS0 ?_
          rotate_left
          · (try dsimp only at hS); go_split_ands; go_simp; (try with_reducible rfl)
          simp only [Act.put, List.setIfInBounds_toArray, List.set_cons_zero, List.set_cons_succ]
          refine Upto.takeG (i := 14) (v := ?_) rfl (by kernel_rfl) (fun _ _ _ h => h) rfl (fun w' hS => ?_) hS0 ?_
          rotate_left
          · (try dsimp only at hS); go_split_ands; go_simp; (try with_reducible rfl)
          simp only [Act.put, List.setIfInBounds_toArray, List.set_cons_zero, List.set_cons_succ]
          refine Upto.takeG (i := 15) rfl (by kernel_rfl) (fun _ _ _ h => h) rfl (fun w' hS => exec_load rfl (by rfl) hS.2 Try.underlying49 rfl (by rw [elL.len y]; exact info_L)) hS0 ?_
          simp only [Act.put, List.setIfInBounds_toArray, List.set_cons_zero, List.set_cons_succ]
          refine Upto.lawG (i := 10) rfl (by kernel_rfl) rfl (fun K hK => ?_)
          refine wp_enter (f := 76) (args := #[.agg (elL.cells xp).toArray]) (by go_simp) (by_L xp _) ?_
          rintro e W3 ⟨rfl, hb3⟩
          have hS1 := And.intro (rangeAt_heap hS0.1 (hb3.block g HGL.out)) (rangeAt_heap hS0.2 (hb3.block g HGL.out))
          refine ⟨_, rfl, hK _ _ hS1 ?_⟩
          clear hK
          have HB3 := Lib.hid hb3
          clear hb3
          simp only [Act.put, List.setIfInBounds_toArray, List.set_cons_zero, List.set_cons_succ]
          refine Upto.lawG (i := 16) rfl (by kernel_rfl) rfl (fun K hK => ?_)
          refine wp_enter (f := 76) (args := #[.agg (elL.cells y).toArray]) (by go_simp) (by_L y _) ?_
          rintro e W4 ⟨rfl, hb4⟩
          have hgl3 : g < W3.heap.size := Nat.lt_of_lt_of_le HGL.out HB3.out.size
          have hS2 := And.intro (rangeAt_heap hS1.1 (hb4.block g hgl3)) (rangeAt_heap hS1.2 (hb4.block g hgl3))
          refine ⟨_, rfl, hK _ _ hS2 ?_⟩
          have HW4 : Hid (Pst H W4 pb s3 wr3 ∧ Calm H W2 W4) := Lib.hid (by
            have b4 : Below W2.heap.size W2 W4 := by
              have a := Below.then HB3.out hb4
              exact ⟨a.os, a.tape, a.output, a.size, a.block⟩
            exact ⟨M.out.pst.keeps (Keeps.of_below b4), Calm.of_below b4⟩)
          clear hK hS0 hS1 hb4 HB3 hgl3
          have hS0 := hS2
          clear hS2
          simp only [Act.put, List.setIfInBounds_toArray, List.set_cons_zero, List.set_cons_succ]
          refine Upto.takeG (i := 17) (v := ?_) rfl (by kernel_rfl) (fun _ _ _ h => h) rfl (fun w' hS => ?_) hS0 ?_
          rotate_left
          · (try dsimp only at hS); go_split_ands; go_simp; (try with_reducible rfl)
          simp only [Act.put, List.setIfInBounds_toArray, List.set_cons_zero, List.set_cons_succ]
          refine Upto.take (i := 18) (v := ?_) rfl (by kernel_rfl) (fun _ _ _ h => h) rfl (fun w' hS => ?_) hS0 ?_
          rotate_left
          · (try dsimp only at hS); go_split_ands; go_simp; (try with_reducible rfl)
          simp only [Act.put, List.setIfInBounds_toArray, List.set_cons_zero, List.set_cons_succ]
          have CE := Lib.hid (expect_any (H := H) (pb := pb) (w := W4) s3 wr3 (Op.bytesLess xp.key.toList y.key.toList) HW4.out.1)
          refine Upto.tail rfl (by kernel_rfl) ?_
          simp only [List.drop_succ_cons, List.drop_zero]
          go_wp2_with fail
          refine CE.out.mono ?_
          rintro e v4 ⟨wr4, rfl, hiff, hp4, hc4⟩
          have N := Lib.hid (M.out.next rfl (fun _ => rfl) hlt L0.out.2.1 (w4 := v4) (HW4.out.2.trans hc4) hp4 (hiff.trans (by
            have e1 : (zk.set k y).getD (k - 1) default = xp := by rw [← HJ.out]; exact HXP.out
            have e2 : (zk.set k y).getD k default = y := by rw [getD_set (by rw [M.out.len]; exact hlt), if_pos rfl]
            rw [e1, e2]
            exact ⟨fun q => ⟨q.1, fun _ => q.2⟩, fun q => ⟨q.1, q.2 (by omega)⟩⟩)))
          clear hiff hp4 hc4 CE M HW4 hS0
          go_wp2_with fail
          refine NoPanic.normal ?_
          go_wp2_with fail
          go_roundw
          case rel => exact ⟨k + 1, by omega, by go_num, N.out⟩
          case measure => simp [intOf]; omega
      · obtain rfl : k = n := by omega
        have R := Lib.hid (hrel.done HL.out (xs := xs) (most := 64) (by omega) rfl L0.out.2.1 G1.out HN.out L0.out.2.2)
        clear hrel
        go_wp2_with fail
        go_ret
        exact R.out
end
end Go.Proofs.Ytfldcddbmikfiaa

/- what rec passes on of one of its locks, and of a list of them. -/
namespace Go.Proofs.Ytfldcddbmikfiaa
open Go.RowKit
theorem one_cL (u0 : ByteArray) (u1 : Bool) : (#[.string u0, .bool u1] : Array Value).all (·.oneCell') = true := by simp [Value.oneCell']
theorem goes_cL {x : Lk} {y : ByteArray × Bool} {s s' : Ps} {wr wr' : Bool} (h : Goes ((textSp 1 16).pair flagSp) (x.key, x.x) s wr y s' wr') : Goes lkSp x s wr (⟨y.1, y.2⟩ : Lk) s' wr' :=
  Goes.map (f := fun y : ByteArray × Bool => (⟨y.1, y.2⟩ : Lk)) (g := fun x : Lk => (x.key, x.x)) (fun _ => rfl) h
theorem inf_cL : (Try.prog.info? 49).map (·.size) = some 2 := by kernel_rfl
section
variable {H pb : Nat} {w : World}
set_option maxRecDepth 100000 in
set_option maxHeartbeats 8000000 in
theorem eachL_any (s : Ps) (wr : Bool) (q : Addr) (x : Lk) (h : Pst H w pb s wr) (hq : stab H w q.block) (hqc : w.cell? q = some (.pointer (some ⟨pb, 0, none⟩))) (hx : elL.inn H w x) (hr : s.room lkSp.cost) :
    Calls Try.prog 74 #[.agg (elL.cells x).toArray, .pointer (some q)] w (RetV lkSp (VE elL id (fun x => .agg (elL.cells x).toArray) H) (id x) H pb s wr w) := by
  have hr0 : s.room 61 := hr.mono (by decide)
  have ecs : (Value.agg (elL.cells x).toArray) = .agg #[.string x.key, .bool x.x] := rfl
  rw [ecs]
  clear ecs hr
  obtain ⟨r, hrr⟩ : ∃ r, w.heap.size = r := ⟨_, rfl⟩
  obtain ⟨W1, hW1⟩ : ∃ W1, W1 = (w.alloc (.cells #[.string x.key, .bool x.x] 49)).alloc (.cells #[.string ⟨#[]⟩, .bool false] 49) := ⟨_, rfl⟩
  have HB : Hid (Below w.heap.size w W1) := Lib.hid (by rw [hW1]; exact ((Below.refl _ _).alloc (Nat.le_refl _) _).alloc (by simp) _)
  have HV : Hid (Bk W1 r 49 #[.string x.key, .bool x.x]) := Lib.hid (by rw [hW1, ← hrr]; exact (Bk.new w _ _).bel ((Below.refl _ _).alloc (Nat.le_refl _) _) (by simp))
  have HRS : Hid (Bk W1 (r + 1) 49 #[.string ⟨#[]⟩, .bool false]) := Lib.hid (by
    rw [hW1, ← hrr]
    have := Bk.new (w.alloc (.cells #[.string x.key, .bool x.x] 49)) 49 #[.string ⟨#[]⟩, .bool false]
    rw [World.size_alloc] at this
    exact this)
  have HQ : Hid (stab H W1 q.block) := Lib.hid (hq.calm (Calm.of_below HB.out))
  have hqc1 : W1.cell? q = some (.pointer (some ⟨pb, 0, none⟩)) := ((Calm.of_below (H := H) HB.out).cell hq).trans hqc
  have P0 : Hid (Pst H W1.drew pb s wr) := Lib.hid ((h.keeps (Keeps.of_below HB.out)).keeps ⟨Nat.le_refl _, fun _ _ => rfl⟩)
  have HX : Hid (elL.inn H W1.drew x) := Lib.hid (elL.calm H w _ x hx (by have := Calm.of_below (H := H) HB.out; exact ⟨this.os, this.tape, this.output, this.size, this.block⟩))
  have R0 := Lib.hid hr0
  have HLOW := Lib.hid h.low
  have HRR := Lib.hid hrr
  have HW := Lib.hid hW1
  have KS : Hid (∀ W, Calm H W1.drew W → W.cell? q = some (.pointer (some ⟨pb, 0, none⟩)) ∧ W.cell? ⟨r, 0, none⟩ = some (.string x.key) ∧ W.cell? ⟨r, 1, none⟩ = some (.bool x.x)) := Lib.hid (fun W hc => ⟨(hc.cell (p := q) HQ.out).trans hqc1, ((HV.out.calm (w1 := W) rfl (by exact (⟨hc.os, hc.tape, hc.output, hc.size, hc.block⟩ : Calm H W1 W))).cell 0), ((HV.out.calm (w1 := W) rfl (by exact (⟨hc.os, hc.tape, hc.output, hc.size, hc.block⟩ : Calm H W1 W))).cell 1)⟩)
  clear h hr0 hW1 hq hqc hqc1 hx
  go_enter Try.func74, Try.ntmps74
  go_wp2_with fail
  (try rw [hrr])
  rw [← HW.out]
  clear HW hrr
  have hS0 := KS.out W1.drew (Calm.refl H _)
  refine wp_region_noPanic ?_
  refine upto_start (fun w' => w'.cell? q = some (.pointer (some ⟨pb, 0, none⟩)) ∧ w'.cell? ⟨r, 0, none⟩ = some (.string x.key) ∧ w'.cell? ⟨r, 1, none⟩ = some (.bool x.x)) 9 (by kernel_rfl) ?_
  change Upto _ _ _ _ _ 10 _ _ _
  refine Upto.take (i := 0) (v := ?_) rfl (by kernel_rfl) (fun _ _ _ h => h) rfl (fun w' hS => ?_) hS0 ?_
  rotate_left
  · (try dsimp only at hS); go_split_ands; go_simp; (try with_reducible rfl)
  simp only [Act.put, List.setIfInBounds_toArray, List.set_cons_zero, List.set_cons_succ]
  refine Upto.take (i := 1) (v := ?_) rfl (by kernel_rfl) (fun _ _ _ h => h) rfl (fun w' hS => ?_) hS0 ?_
  rotate_left
  · (try dsimp only at hS); go_split_ands; go_simp; (try with_reducible rfl)
  simp only [Act.put, List.setIfInBounds_toArray, List.set_cons_zero, List.set_cons_succ]
  refine Upto.take (i := 2) (v := ?_) rfl (by kernel_rfl) (fun _ _ _ h => h) rfl (fun w' hS => ?_) hS0 ?_
  rotate_left
  · (try dsimp only at hS); go_split_ands; go_simp; (try with_reducible rfl)
  simp only [Act.put, List.setIfInBounds_toArray, List.set_cons_zero, List.set_cons_succ]
  refine Upto.take (i := 4) (v := ?_) rfl (by kernel_rfl) (fun _ _ _ h => h) rfl (fun w' hS => ?_) hS0 ?_
  rotate_left
  · (try dsimp only at hS); go_split_ands; go_simp; (try with_reducible rfl)
  simp only [Act.put, List.setIfInBounds_toArray, List.set_cons_zero, List.set_cons_succ]
  refine Upto.take (i := 5) (v := ?_) rfl (by kernel_rfl) (fun _ _ _ h => h) rfl (fun w' hS => ?_) hS0 ?_
  rotate_left
  · (try dsimp only at hS); go_split_ands; go_simp; (try with_reducible rfl)
  simp only [Act.put, List.setIfInBounds_toArray, List.set_cons_zero, List.set_cons_succ]
  refine Upto.take (i := 6) (v := ?_) rfl (by kernel_rfl) (fun _ _ _ h => h) rfl (fun w' hS => ?_) hS0 ?_
  rotate_left
  · (try dsimp only at hS); go_split_ands; go_simp; (try with_reducible rfl)
  simp only [Act.put, List.setIfInBounds_toArray, List.set_cons_zero, List.set_cons_succ]
  have C0 := Lib.hid (Calm.refl H W1.drew)
  have X1 := Lib.hid (HX.out)
  have CT1 := Lib.hid (key_any (H := H) (pb := pb) s wr x.key P0.out (elL.calm H _ _ x HX.out C0.out) (R0.out.mono (by decide)))
  refine Upto.law (i := 3) rfl (by kernel_rfl) rfl (fun K hK => ?_)
  refine wp_enter (f := 54) (args := #[.pointer (some ⟨pb, 0, none⟩), .string x.key]) (by go_simp) CT1.out ?_
  rintro e V1 ⟨_, y1, s1, wr1, rfl, ⟨rfl, hi1⟩, hg1, hp1, hc1⟩
  have hS1 := KS.out V1 (C0.out.trans hc1)
  refine ⟨_, rfl, hK _ _ hS1 ?_⟩
  have C1 := Lib.hid (C0.out.trans hc1)
  have R1 : Hid (s1.room 1) := Lib.hid (hg1.room (c := 1) (R0.out.mono (by decide)))
  have G1 := Lib.hid hg1
  have P1 := Lib.hid hp1
  have D1 := Lib.hid hc1
  have I1 := Lib.hid hi1
  clear hK CT1 hg1 hp1 hc1 hS0 X1 hi1
  have hS0 := hS1
  clear hS1
  simp only [Act.put, List.setIfInBounds_toArray, List.set_cons_zero, List.set_cons_succ]
  have X2 := Lib.hid (HX.out)
  have CT2 := Lib.hid (flag_any (H := H) (pb := pb) s1 wr1 x.x P1.out (R1.out.mono (by decide)))
  refine Upto.law (i := 7) rfl (by kernel_rfl) rfl (fun K hK => ?_)
  refine wp_enter (f := 71) (args := #[.pointer (some ⟨pb, 0, none⟩), .bool x.x]) (by go_simp) CT2.out ?_
  rintro e V2 ⟨_, y2, s2, wr2, rfl, rfl, hg2, hp2, hc2⟩
  have hS2 := KS.out V2 (C1.out.trans hc2)
  refine ⟨_, rfl, hK _ _ hS2 ?_⟩
  have C2 := Lib.hid (C1.out.trans hc2)
  have R2 : Hid (s2.room 0) := Lib.hid (hg2.room (c := 0) (R1.out.mono (by decide)))
  have G2 := Lib.hid hg2
  have P2 := Lib.hid hp2
  have D2 := Lib.hid hc2
  have I2 := Lib.hid trivial
  clear hK CT2 hg2 hp2 hc2 hS0 X2
  have hS0 := hS2
  clear hS2
  simp only [Act.put, List.setIfInBounds_toArray, List.set_cons_zero, List.set_cons_succ]
  refine Upto.take (i := 8) (v := ?_) rfl (by kernel_rfl) (fun _ _ _ h => h) rfl (fun w' hS => ?_) hS0 ?_
  rotate_left
  · (try dsimp only at hS); go_split_ands; go_simp; (try with_reducible rfl)
  simp only [Act.put, List.setIfInBounds_toArray, List.set_cons_zero, List.set_cons_succ]
  have RB := Lib.hid (HRS.out.calm (w1 := V2) rfl (by have := C2.out; exact ⟨this.os, this.tape, this.output, this.size, this.block⟩ : Calm H W1 V2))
  have F : Hid (RetV lkSp (VE elL id (fun x => .agg (elL.cells x).toArray) H) (id x) H pb s wr w (.returned (.agg #[.string y1, .bool y2])) (V2.setRow (r + 1) #[.string y1, .bool y2])) := Lib.hid (by
    have hcw : Calm H w V2 := (Calm.of_below HB.out).trans (by have := C2.out; exact ⟨this.os, this.tape, this.output, this.size, this.block⟩ : Calm H W1 V2)
    obtain ⟨a, b⟩ := P2.out.row RB.out rfl (by have := HRR.out; omega) hcw #[.string y1, .bool y2]
    have hin : elL.inn H V2 (⟨y1, y2⟩ : Lk) := I1.out
    refine ⟨_, id (⟨y1, y2⟩ : Lk), s2, wr2, rfl, ⟨(⟨y1, y2⟩ : Lk), rfl, elL.apart H _ _ _ (r + 1) 49 _ _ rfl hin (by have := HRR.out; have := HLOW.out; omega) RB.out (grown_setRow _ _ _), rfl⟩, ?_, a, b⟩
    exact goes_cL (x := id x) (G1.out.pair G2.out))
  have RF := Lib.hid (RB.out.rowp #[.string y1, .bool y2])
  refine Upto.tail rfl (by kernel_rfl) ?_
  simp only [List.drop_succ_cons, List.drop_zero]
  go_wp2_with (refine wpList_store_row rfl 49 _ _ rfl (r + 1) #[.string y1, .bool y2] rfl rfl 49 _ RB.out inf_cL rfl (one_cL _ _) ?_; simp only [Act.put])
  refine NoPanic.normal ?_
  (try simp only [Exit.inBlock, Exit.then])
  go_wp2_with fail
  refine bodyPost_ret (results_cell_row rfl _ _ (r + 1) 49 _ (0, 0) _ rfl RF.out Try.underlying49 rfl inf_cL) rfl ?_
  exact F.out

set_option maxRecDepth 100000 in
set_option maxHeartbeats 4000000 in
theorem locks_any [Inhabited Prop] (s : Ps) (wr : Bool) (A : Option Addr) (n c : Nat) (xs : List Lk) (h : Pst H w pb s wr) (hx : Sl elL H w A n c xs) (hr : s.room lksSp.cost) :
    Calls Try.prog 58 #[.pointer (some ⟨pb, 0, none⟩), .slice A n c] w (RetV lksSp (VL elL id H) (xs.map id) H pb s wr w) := by
  obtain ⟨W1, hW1⟩ : ∃ W1, W1 = w.alloc (.cells #[.pointer (some ⟨pb, 0, none⟩)] 94) := ⟨_, rfl⟩
  have hb : Below w.heap.size w W1 := by rw [hW1]; exact (Below.refl _ _).alloc (Nat.le_refl _) _
  have hbk : Bk W1 w.heap.size 94 #[.pointer (some ⟨pb, 0, none⟩)] := by rw [hW1]; exact Bk.new w _ _
  have CL := Lib.hid (listL_any (H := H) (pb := pb) (w := W1) s wr A n c xs ⟨w.heap.size, 0, none⟩ (h.keeps (Keeps.of_below hb)) (hx.calm (Calm.of_below hb)) hr
    (fun w1 s1 wr1 x hc hp hi hr1 => eachL_any s1 wr1 ⟨w.heap.size, 0, none⟩ x hp ((hbk.stab rfl).calm hc) ((hbk.calm rfl hc).cell 0) hi hr1))
  have HB := Lib.hid hb
  have HW := Lib.hid hW1
  have k0 : W1.cell? ⟨w.heap.size, 0, none⟩ = some (.pointer (some ⟨pb, 0, none⟩)) := hbk.cell 0
  clear h hx hr hW1 hb hbk
  go_enter Try.func58, Try.ntmps58
  go_wp2_with fail
  rw [← HW.out]
  clear HW
  go_wp2_with fail
  refine CL.out.mono ?_
  rintro e w1 ⟨v, y, s', wr', rfl, ⟨A1, n1, c1, l1, rfl, hsl, hy⟩, hg, hp, hc⟩
  have R : Hid (RetV lksSp (VL elL id H) (xs.map id) H pb s wr w (.returned (.slice A1 n1 c1)) w1) := Lib.hid ⟨_, y, s', wr', rfl, ⟨A1, n1, c1, l1, rfl, hsl, hy⟩, hg, hp, (Calm.of_below HB.out).trans hc⟩
  clear hsl hg hp hc hy
  go_wp2_with fail
  go_ret
  exact R.out
end
end Go.Proofs.Ytfldcddbmikfiaa

/- rec's list, at dirty pages: what it passes on. -/
namespace Go.Proofs.Ytfldcddbmikfiaa
open Go.RowKit
theorem mk_D (n : Nat) (hn : n ≤ 256) (W : World) : (Instr.makeSlice 27 (.int .i64 (n : Int)) (.int .i64 (n : Int))).run Try.prog W =
    .ok (.slice (some ⟨W.heap.size, 0, none⟩) n n) (W.alloc (.cells (madeCells #[.int .i64 0, .int .i64 0] (n * elD.size)) 89)) := by
  have hz : (Try.prog.info? 89).map (fun i => (i.zero, i.size, i.bytes)) = some (some (.agg #[.int .i64 0, .int .i64 0]), 2, 16) := by kernel_rfl
  obtain ⟨i0, hi, hz0, hz1, hz2⟩ := info_parts hz
  have := run_make (P := Try.prog) W 27 89 i0 (.agg #[.int .i64 0, .int .i64 0]) Try.underlying27 hi hz0 .i64 .i64 n n (by omega) (by omega) (by rw [hz2]; omega) (by omega)
  rw [this, hz1, Int.toNat_natCast]
  rfl
theorem info_D : (Try.prog.info? 89).map (·.size) = some 2 := by kernel_rfl
theorem by_D (x : Dt) (w : World) : Calls Try.prog 82 #[.agg (elD.cells x).toArray] w (fun e w' => e = .returned (.int .i64 x.page) ∧ Below w.heap.size w w') := by
  have e : (Value.agg (elD.cells x).toArray) = .agg #[.int .i64 x.page, .int .i64 x.lsn] := rfl
  rw [e]
  go_enter Try.func82, Try.ntmps82
  go_wp2_with fail
  go_ret
  exact ⟨rfl, (Below.refl _ _).alloc (Nat.le_refl _) _⟩
section
variable {H pb : Nat} {w : World}
set_option maxRecDepth 100000 in
set_option maxHeartbeats 8000000 in
theorem listD_any [Inhabited Prop] (s : Ps) (wr : Bool) (A : Option Addr) (n0 c0 : Nat) (xs : List Dt) (q : Addr) (h : Pst H w pb s wr) (hx : Sl elD H w A n0 c0 xs) (hr : s.room (10 + 256 * dtSp.cost))
    (hE : ∀ (w1 : World) (s1 : Ps) (wr1 : Bool) (x : Dt), Calm H w w1 → Pst H w1 pb s1 wr1 → elD.inn H w1 x → s1.room dtSp.cost → Calls Try.prog 80 #[.agg (elD.cells x).toArray, .pointer (some q)] w1 (RetV dtSp (VE elD id (fun x => .agg (elD.cells x).toArray) H) (id x) H pb s1 wr1 w1)) :
    Calls Try.prog 81 #[.pointer (some ⟨pb, 0, none⟩), .slice A n0 c0, .int .i64 64, .func (.func 80) #[] #[.pointer (some q)], .func (.func 82) #[] #[]] w
      (RetV (dtSp.list 64 (fun a b : Dt => a.page < b.page)) (VL elD id H) (xs.map id) H pb s wr w) := by
  have hmaxn : n0 ≤ 9223372036854775807 := by have := hx.cap; have := hx.max; unfold maxLen at this; omega
  have CC := Lib.hid (count_any (H := H) (pb := pb) s wr (n0 : Int) 64 h (by omega) (by omega) (hr.mono (by omega)))
  have HX := Lib.hid hx
  have HR := Lib.hid hr
  have HL := Lib.hid h.low
  have HE := Lib.hid hE
  clear hE
  clear h hx hr
  go_enter Try.func81, Try.ntmps81
  go_wp2_with fail
  refine CC.out.mono ?_
  rintro e w1 ⟨_, z, s1, wr1, rfl, ⟨rfl, hz0, hz1⟩, hg, hp, hc⟩
  obtain ⟨n, hn⟩ : ∃ n : Nat, (n : Int) = min z 256 := ⟨(min z 256).toNat, by omega⟩
  have hmin : min z 256 = (n : Int) := hn.symm
  have hlen : xs.length = n0 := HX.out.len
  have G1 : Hid (Goes (cntS 64) (((xs.map (id : Dt → Dt)).length : Nat) : Int) s wr z s1 wr1) := Lib.hid (by rw [List.length_map, hlen]; exact hg)
  have P1 := Lib.hid hp
  have C1 := Lib.hid hc
  have HN : Hid ((n : Int) = min z 256) := Lib.hid hn
  have hn256 : n ≤ 256 := by omega
  clear hg hp hc CC hn hlen hz0 hz1
  by_cases h0 : n = 0
  · subst h0
    have R := Lib.hid (list_empty (E := elD) (rd := id) (S := dtSp) (lt := (fun a b : Dt => a.page < b.page)) (xs := xs) P1.out C1.out (most := 64) (by omega) G1.out HN.out)
    go_wp2_with fail
    go_ret
    exact R.out
  · have hne : ((n : Int) == 0) = false := by simp; omega
    have kmk := mk_D n hn256
    obtain ⟨Z, hZ⟩ : ∃ Z, Z = madeCells #[.int .i64 0, .int .i64 0] (n * elD.size) := ⟨_, rfl⟩
    rw [← hZ] at kmk
    obtain ⟨g, hgd⟩ : ∃ g, w1.heap.size = g := ⟨_, rfl⟩
    have RW0 : Hid (Row elD 89 (w1.alloc (.cells Z 89)) g n (List.replicate n (⟨0, 0⟩ : Dt))) := Lib.hid (by rw [hZ, ← hgd]; exact Row.made w1 ((⟨0, 0⟩ : Dt)) #[.int .i64 0, .int .i64 0] rfl n)
    have B1 : Hid (Below w1.heap.size w1 (w1.alloc (.cells Z 89))) := Lib.hid ((Below.refl _ _).alloc (Nat.le_refl _) _)
    have P1' : Hid (Pst H (w1.alloc (.cells Z 89)) pb s1 wr1) := Lib.hid (P1.out.keeps (Keeps.of_below B1.out))
    have C1' : Hid (Calm H w (w1.alloc (.cells Z 89))) := Lib.hid (C1.out.trans (Calm.of_below B1.out))
    have X1 : Hid (Sl elD H (w1.alloc (.cells Z 89)) A n0 c0 xs) := Lib.hid (HX.out.calm C1'.out)
    have HG : Hid (w.heap.size ≤ g) := Lib.hid (by rw [← hgd]; exact C1.out.size)
    have HS : Hid ((w1.alloc (.cells Z 89)).heap.size = g + 1) := Lib.hid (by rw [← hgd]; simp)
    clear hZ
    go_wp2_with (refine wpList_copy_row (E := elD) (H := H) rfl _ _ 27 27 rfl 89 Try.underlying27 (by kernel_rfl) RW0.out X1.out n (by rfl) (by rfl) ?_)
    intro kk w2 zs hcop
    have L0 := Lib.hid (LRel.start (rd := id) (S := dtSp) (lt := (fun a b : Dt => a.page < b.page)) HG.out HL.out rfl P1'.out C1'.out RW0.out X1.out (fun i hi => by rw [List.getD_eq_getElem?_getD, List.getElem?_replicate, if_pos hi]; exact (show i64 0 ∧ i64 0 by unfold i64; omega)) hcop.out)
    clear hcop RW0 B1 P1' C1' X1 HS
    go_wp2_with fail
    go_loopw [30] (fun q wr => ∃ k : Nat, k ≤ n ∧ q = .int .i64 k ∧ LRel elD id dtSp (fun a b : Dt => a.page < b.page) H pb g n w zs s1 wr1 k wr) (fun q _ => n - (intOf q).toNat)
    case atStart => exact ⟨0, Nat.zero_le _, rfl, L0.out.1⟩
    case round =>
      obtain ⟨k, hkn, rfl, hrel⟩ := hrel
      by_cases hlt : k < n
      · obtain ⟨hlow, zk, s2, wr2, hp, hc, hrow, hgo, hrest, hin⟩ := hrel
        obtain ⟨xk, hxk⟩ : ∃ xk, zk.getD k default = xk := ⟨_, rfl⟩
        have hr0 := hrow.at_ k hlt
        rw [hxk] at hr0
        have hxi : elD.inn H wr xk := by rw [← hxk]; exact hin _ (getD_mem (by rw [hrow.len]; exact hlt))
        have hroom : s2.room dtSp.cost := hgo.room (c := dtSp.cost) (by
          have : Ps.room s1 (256 * dtSp.cost) := G1.out.room HR.out
          refine this.mono ?_
          have : (k + 1) * dtSp.cost ≤ 256 * dtSp.cost := Nat.mul_le_mul_right _ (by omega)
          rw [Nat.add_mul] at this
          omega)
        have HXK : Hid (xk = zs.getD k default) := Lib.hid (by rw [← hxk]; exact hrest k (Nat.le_refl _) hlt)
        have MID := Lib.hid (fun v1 s3 wr3 x' (hc1 : Calm H wr v1) hp1 hx1 hg1 => LMid.of (pb := pb) (E := elD) (rd := id) (S := dtSp) (lt := (fun a b : Dt => a.page < b.page)) (x' := x') (w1 := v1) (s2 := s3) (wr2 := wr3) hlow HL.out rfl hrow hgo hrest hin hc hlt hc1 hp1 hx1 hg1)
        have ROW : Hid (∀ v1, Calm H wr v1 → Row elD 89 v1 g n zk) := Lib.hid (fun v1 hc1 => hrow.calm rfl hc1)
        have HR0 : Hid (wr.rangeAt g (k * 2) (elD.cells xk)) := Lib.hid hr0
        have HBE : Hid (Bk (wr.alloc (.cells (elD.cells xk).toArray 89)) wr.heap.size 89 (elD.cells xk).toArray) := Lib.hid (Bk.new wr _ _)
        have hba : Below wr.heap.size wr (wr.alloc (.cells (elD.cells xk).toArray 89)) := (Below.refl _ _).alloc (Nat.le_refl _) _
        have CN := Lib.hid (HE.out (wr.alloc (.cells (elD.cells xk).toArray 89)) s2 wr2 xk (hc.trans (Calm.of_below hba)) (hp.keeps (Keeps.of_below hba)) (elD.calm H wr _ xk hxi (Calm.of_below hba)) hroom)
        have HBA := Lib.hid hba
        have hszk : (elD.cells xk).length = 2 := elD.len xk
        have HSK := Lib.hid hszk
        clear hlow hp hc hrow hgo hrest hin hr0 hxk hroom hxi hba hszk
        go_wp2_with (first
          | (refine wpList_load_mid rfl 89 _ rfl g (k * 2) rfl (elD.cells xk) _ HR0.out Try.underlying89 rfl (by rw [HSK.out]; exact info_D) ?_)
          | (refine wpList_store_new rfl (W := wr) rfl (c := #[.int .i64 0, .int .i64 0]) (c' := (elD.cells xk).toArray) rfl rfl rfl (by rw [List.size_toArray, HSK.out]; exact info_D) (by simp only [List.size_toArray]; rw [HSK.out]; rfl) (all_oneCell_toArray (elD.one xk)) ?_; simp only [Act.put])
          | (refine wpList_load_row rfl 89 _ rfl wr.heap.size rfl 89 _ (0, 0) _ HBE.out Try.underlying89 rfl (by rw [List.size_toArray, HSK.out]; exact info_D) ?_))
        refine CN.out.mono ?_
        rintro e v1 ⟨_, _, s3, wr3, rfl, ⟨y, rfl, hy, rfl⟩, hg3, hp3, hc3⟩
        have hc3' := (Calm.of_below HBA.out).trans hc3
        have RV := ROW.out v1 hc3'
        have hszy : (elD.cells y).length = 2 := elD.len y
        have HSY := Lib.hid hszy
        have TH : Hid (v1.there g (k * 2) (elD.cells y).toArray.size) := Lib.hid (by rw [List.size_toArray, hszy]; exact RV.there hlt)
        have M := MID.out v1 s3 wr3 y hc3' hp3 hy (by rw [HXK.out] at hg3; exact hg3)
        obtain ⟨W2, hW2⟩ : ∃ W2, W2 = v1.setCells g (k * 2) (elD.cells y) := ⟨_, rfl⟩
        have e2 : v1.setCells g (k * elD.size) (elD.cells y) = W2 := hW2.symm
        have HW2 : Hid (v1.setCells g (k * 2) (elD.cells y).toArray.toList = W2) := Lib.hid hW2.symm
        rw [e2] at M
        have M := Lib.hid M
        clear hW2 e2 RV hg3 hp3 hc3 hc3' MID ROW CN hszy HBE HBA HR0 HSK
        have HY := Lib.hid hy
        clear hy
        go_wp2_with (refine wpList_store_mid rfl 89 _ _ rfl g (k * 2) (elD.cells y).toArray rfl rfl TH.out (by rw [List.size_toArray, HSY.out]; exact info_D) (all_oneCell_toArray (elD.one y)) ?_; rw [HW2.out]; simp only [Act.put])
        clear HW2 TH
        by_cases hk0 : k = 0
        · subst hk0
          have CE := Lib.hid (fun b => expect_any (H := H) (pb := pb) (w := W2.drew) s3 wr3 b (M.out.pst.keeps ⟨Nat.le_refl _, fun _ _ => rfl⟩))
          have hS0 : True := trivial
          refine wp_region_noPanic ?_
          refine upto_start (fun _ => True) 19 (by kernel_rfl) ?_
          change Upto _ _ _ _ _ 20 _ _ _
          refine Upto.take (i := 0) (v := ?_) rfl (by kernel_rfl) (fun _ _ _ h => h) rfl (fun w' hS => ?_) hS0 ?_
          rotate_left
          · (try dsimp only at hS); go_split_ands; go_simp; (try with_reducible rfl)
          simp only [Act.put, List.setIfInBounds_toArray, List.set_cons_zero, List.set_cons_succ]
          refine Upto.take (i := 1) (v := ?_) rfl (by kernel_rfl) (fun _ _ _ h => h) rfl (fun w' hS => ?_) hS0 ?_
          rotate_left
          · (try dsimp only at hS); go_split_ands; go_simp; (try with_reducible rfl)
          simp only [Act.put, List.setIfInBounds_toArray, List.set_cons_zero, List.set_cons_succ]
          refine Upto.take (i := 2) (v := ?_) rfl (by kernel_rfl) (fun _ _ _ h => h) rfl (fun w' hS => ?_) hS0 ?_
          rotate_left
          · (try dsimp only at hS); go_split_ands; go_simp; (try with_reducible rfl)
          simp only [Act.put, List.setIfInBounds_toArray, List.set_cons_zero, List.set_cons_succ]
          refine Upto.take (i := 3) (v := ?_) rfl (by kernel_rfl) (fun _ _ _ h => h) rfl (fun w' hS => ?_) hS0 ?_
          rotate_left
          · (try dsimp only at hS); go_split_ands; go_simp; (try with_reducible rfl)
          simp only [Act.put, List.setIfInBounds_toArray, List.set_cons_zero, List.set_cons_succ]
          refine Upto.skip (i := 4) rfl (by kernel_rfl) (fun _ _ _ h => h) rfl hS0 ?_
          simp only [Act.put, List.setIfInBounds_toArray, List.set_cons_zero, List.set_cons_succ]
          refine Upto.skip (i := 5) rfl (by kernel_rfl) (fun _ _ _ h => h) rfl hS0 ?_
          simp only [Act.put, List.setIfInBounds_toArray, List.set_cons_zero, List.set_cons_succ]
          refine Upto.skip (i := 6) rfl (by kernel_rfl) (fun _ _ _ h => h) rfl hS0 ?_
          simp only [Act.put, List.setIfInBounds_toArray, List.set_cons_zero, List.set_cons_succ]
          refine Upto.skip (i := 7) rfl (by kernel_rfl) (fun _ _ _ h => h) rfl hS0 ?_
          simp only [Act.put, List.setIfInBounds_toArray, List.set_cons_zero, List.set_cons_succ]
          refine Upto.skip (i := 8) rfl (by kernel_rfl) (fun _ _ _ h => h) rfl hS0 ?_
          simp only [Act.put, List.setIfInBounds_toArray, List.set_cons_zero, List.set_cons_succ]
          refine Upto.skip (i := 9) rfl (by kernel_rfl) (fun _ _ _ h => h) rfl hS0 ?_
          simp only [Act.put, List.setIfInBounds_toArray, List.set_cons_zero, List.set_cons_succ]
          refine Upto.skip (i := 10) rfl (by kernel_rfl) (fun _ _ _ h => h) rfl hS0 ?_
          simp only [Act.put, List.setIfInBounds_toArray, List.set_cons_zero, List.set_cons_succ]
          refine Upto.skip (i := 11) rfl (by kernel_rfl) (fun _ _ _ h => h) rfl hS0 ?_
          simp only [Act.put, List.setIfInBounds_toArray, List.set_cons_zero, List.set_cons_succ]
          refine Upto.skip (i := 12) rfl (by kernel_rfl) (fun _ _ _ h => h) rfl hS0 ?_
          simp only [Act.put, List.setIfInBounds_toArray, List.set_cons_zero, List.set_cons_succ]
          refine Upto.skip (i := 13) rfl (by kernel_rfl) (fun _ _ _ h => h) rfl hS0 ?_
          simp only [Act.put, List.setIfInBounds_toArray, List.set_cons_zero, List.set_cons_succ]
          refine Upto.skip (i := 14) rfl (by kernel_rfl) (fun _ _ _ h => h) rfl hS0 ?_
          simp only [Act.put, List.setIfInBounds_toArray, List.set_cons_zero, List.set_cons_succ]
          refine Upto.skip (i := 15) rfl (by kernel_rfl) (fun _ _ _ h => h) rfl hS0 ?_
          simp only [Act.put, List.setIfInBounds_toArray, List.set_cons_zero, List.set_cons_succ]
          refine Upto.skip (i := 16) rfl (by kernel_rfl) (fun _ _ _ h => h) rfl hS0 ?_
          simp only [Act.put, List.setIfInBounds_toArray, List.set_cons_zero, List.set_cons_succ]
          refine Upto.skip (i := 17) rfl (by kernel_rfl) (fun _ _ _ h => h) rfl hS0 ?_
          simp only [Act.put, List.setIfInBounds_toArray, List.set_cons_zero, List.set_cons_succ]
          refine Upto.take (i := 18) (v := ?_) rfl (by kernel_rfl) (fun _ _ _ h => h) rfl (fun w' hS => ?_) hS0 ?_
          rotate_left
          · (try dsimp only at hS); go_split_ands; go_simp; (try with_reducible rfl)
          simp only [Act.put, List.setIfInBounds_toArray, List.set_cons_zero, List.set_cons_succ]
          refine Upto.tail rfl (by kernel_rfl) ?_
          simp only [List.drop_succ_cons, List.drop_zero]
          go_wp2_with fail
          refine (CE.out true).mono ?_
          rintro e v4 ⟨wr4, rfl, hiff, hp4, hc4⟩
          have N := Lib.hid (M.out.next rfl (fun _ => rfl) hlt L0.out.2.1 (w4 := v4) (by exact (⟨hc4.os, hc4.tape, hc4.output, hc4.size, hc4.block⟩ : Calm H W2 v4)) hp4 (hiff.trans ⟨fun q => ⟨q.1, fun h => absurd h (by omega)⟩, fun q => ⟨q.1, rfl⟩⟩))
          clear hiff hp4 hc4 CE M
          go_wp2_with fail
          refine NoPanic.normal ?_
          go_wp2_with fail
          go_roundw
          case rel => exact ⟨0 + 1, by omega, by go_num, N.out⟩
          case measure => simp [intOf]; omega
        · obtain ⟨j, hjk⟩ : ∃ j, j = k - 1 := ⟨_, rfl⟩
          have hj1 : (k : Int) - 1 = (j : Int) := by omega
          have hj2 : ((k : Int) == 0) = false := by simp; omega
          have hjn : j < n := by omega
          have hwj : IntKind.i64.wrap (j : Int) = (j : Int) := by rw [IntKind.wrap_i64]; omega
          have HJ := Lib.hid hjk
          clear hjk
          obtain ⟨xp, hxp⟩ : ∃ xp, (zk.set k y).getD j default = xp := ⟨_, rfl⟩
          have hr1 := M.out.row.at_ j hjn
          have hr2 := M.out.row.at_ k hlt
          rw [hxp] at hr1
          rw [getD_set (by rw [M.out.len]; exact hlt), if_pos rfl] at hr2
          have HXP := Lib.hid hxp
          clear hxp
          have hS0 : W2.drew.rangeAt g (j * 2) (elD.cells xp) ∧ W2.drew.rangeAt g (k * 2) (elD.cells y) := ⟨hr1, hr2⟩
          have hgl : g < W2.drew.heap.size := M.out.row.lt
          have HGL := Lib.hid hgl
          clear hr1 hr2 hgl
          refine wp_region_noPanic ?_
          refine upto_start (fun w' => w'.rangeAt g (j * 2) (elD.cells xp) ∧ w'.rangeAt g (k * 2) (elD.cells y)) 19 (by kernel_rfl) ?_
          change Upto _ _ _ _ _ 20 _ _ _
          refine Upto.take (i := 0) (v := ?_) rfl (by kernel_rfl) (fun _ _ _ h => h) rfl (fun w' hS => ?_) hS0 ?_
          rotate_left
          · (try dsimp only at hS); go_split_ands; go_simp; (try with_reducible rfl)
          simp only [Act.put, List.setIfInBounds_toArray, List.set_cons_zero, List.set_cons_succ]
          refine Upto.take (i := 1) (v := ?_) rfl (by kernel_rfl) (fun _ _ _ h => h) rfl (fun w' hS => ?_) hS0 ?_
          rotate_left
          · (try dsimp only at hS); go_split_ands; go_simp; (try with_reducible rfl)
          simp only [Act.put, List.setIfInBounds_toArray, List.set_cons_zero, List.set_cons_succ]
          refine Upto.take (i := 2) (v := ?_) rfl (by kernel_rfl) (fun _ _ _ h => h) rfl (fun w' hS => ?_) hS0 ?_
          rotate_left
          · (try dsimp only at hS); go_split_ands; go_simp; (try with_reducible rfl)
          simp only [Act.put, List.setIfInBounds_toArray, List.set_cons_zero, List.set_cons_succ]
          refine Upto.take (i := 3) (v := ?_) rfl (by kernel_rfl) (fun _ _ _ h => h) rfl (fun w' hS => ?_) hS0 ?_
          rotate_left
          · (try dsimp only at hS); go_split_ands; go_simp; (try with_reducible rfl)
          simp only [Act.put, List.setIfInBounds_toArray, List.set_cons_zero, List.set_cons_succ]
          refine Upto.takeG (i := 4) (v := ?_) rfl (by kernel_rfl) (fun _ _ _ h => h) rfl (fun w' hS => ?_) hS0 ?_
          rotate_left
          · (try dsimp only at hS); go_split_ands; go_simp; (try with_reducible rfl)
          simp only [Act.put, List.setIfInBounds_toArray, List.set_cons_zero, List.set_cons_succ]
          refine Upto.takeG (i := 5) (v := ?_) rfl (by kernel_rfl) (fun _ _ _ h => h) rfl (fun w' hS => ?_) hS0 ?_
          rotate_left
          · (try dsimp only at hS); go_split_ands; go_simp; (try with_reducible rfl)
          simp only [Act.put, List.setIfInBounds_toArray, List.set_cons_zero, List.set_cons_succ]
          refine Upto.takeG (i := 6) (v := ?_) rfl (by kernel_rfl) (fun _ _ _ h => h) rfl (fun w' hS => ?_) hS0 ?_
          rotate_left
          · (try dsimp only at hS); go_split_ands; go_simp; (try with_reducible rfl)
          simp only [Act.put, List.setIfInBounds_toArray, List.set_cons_zero, List.set_cons_succ]
          refine Upto.takeG (i := 7) (v := ?_) rfl (by kernel_rfl) (fun _ _ _ h => h) rfl (fun w' hS => ?_) hS0 ?_
          rotate_left
          · (try dsimp only at hS); go_split_ands; go_simp; (try with_reducible rfl)
          simp only [Act.put, List.setIfInBounds_toArray, List.set_cons_zero, List.set_cons_succ]
          refine Upto.takeG (i := 8) (v := ?_) rfl (by kernel_rfl) (fun _ _ _ h => h) rfl (fun w' hS => ?_) hS0 ?_
          rotate_left
          · (try dsimp only at hS); go_split_ands; go_simp; (try with_reducible rfl)
          simp only [Act.put, List.setIfInBounds_toArray, List.set_cons_zero, List.set_cons_succ]
          refine Upto.takeG (i := 9) rfl (by kernel_rfl) (fun _ _ _ h => h) rfl (fun w' hS => exec_load rfl (by rfl) hS.1 Try.underlying89 rfl (by rw [elD.len xp]; exact info_D)) hS0 ?_
          simp only [Act.put, List.setIfInBounds_toArray, List.set_cons_zero, List.set_cons_succ]
          refine Upto.takeG (i := 11) (v := ?_) rfl (by kernel_rfl) (fun _ _ _ h => h) rfl (fun w' hS => ?_) hS0 ?_
          rotate_left
          · (try dsimp only at hS); go_split_ands; go_simp; (try with_reducible rfl)
          simp only [Act.put, List.setIfInBounds_toArray, List.set_cons_zero, List.set_cons_succ]
          refine Upto.takeG (i := 12) (v := ?_) rfl (by kernel_rfl) (fun _ _ _ h => h) rfl (fun w' hS => ?_) hS0 ?_
          rotate_left
          · (try dsimp only at hS); go_split_ands; go_simp; (try with_reducible rfl)
          simp only [Act.put, List.setIfInBounds_toArray, List.set_cons_zero, List.set_cons_succ]
          refine Upto.takeG (i := 13) (v := ?_) rfl (by kernel_rfl) (fun _ _ _ h => h) rfl (fun w' hS => ?_) hS0 ?_
          rotate_left
          · (try dsimp only at hS); go_split_ands; go_simp; (try with_reducible rfl)
          simp only [Act.put, List.setIfInBounds_toArray, List.set_cons_zero, List.set_cons_succ]
          refine Upto.takeG (i := 14) (v := ?_) rfl (by kernel_rfl) (fun _ _ _ h => h) rfl (fun w' hS => ?_) hS0 ?_
          rotate_left
          · (try dsimp only at hS); go_split_ands; go_simp; (try with_reducible rfl)
          simp only [Act.put, List.setIfInBounds_toArray, List.set_cons_zero, List.set_cons_succ]
          refine Upto.takeG (i := 15) rfl (by kernel_rfl) (fun _ _ _ h => h) rfl (fun w' hS => exec_load rfl (by rfl) hS.2 Try.underlying89 rfl (by rw [elD.len y]; exact info_D)) hS0 ?_
          simp only [Act.put, List.setIfInBounds_toArray, List.set_cons_zero, List.set_cons_succ]
          refine Upto.lawG (i := 10) rfl (by kernel_rfl) rfl (fun K hK => ?_)
          refine wp_enter (f := 82) (args := #[.agg (elD.cells xp).toArray]) (by go_simp) (by_D xp _) ?_
          rintro e W3 ⟨rfl, hb3⟩
          have hS1 := And.intro (rangeAt_heap hS0.1 (hb3.block g HGL.out)) (rangeAt_heap hS0.2 (hb3.block g HGL.out))
          refine ⟨_, rfl, hK _ _ hS1 ?_⟩
          clear hK
          have HB3 := Lib.hid hb3
          clear hb3
          simp only [Act.put, List.setIfInBounds_toArray, List.set_cons_zero, List.set_cons_succ]
          refine Upto.lawG (i := 16) rfl (by kernel_rfl) rfl (fun K hK => ?_)
          refine wp_enter (f := 82) (args := #[.agg (elD.cells y).toArray]) (by go_simp) (by_D y _) ?_
          rintro e W4 ⟨rfl, hb4⟩
          have hgl3 : g < W3.heap.size := Nat.lt_of_lt_of_le HGL.out HB3.out.size
          have hS2 := And.intro (rangeAt_heap hS1.1 (hb4.block g hgl3)) (rangeAt_heap hS1.2 (hb4.block g hgl3))
          refine ⟨_, rfl, hK _ _ hS2 ?_⟩
          have HW4 : Hid (Pst H W4 pb s3 wr3 ∧ Calm H W2 W4) := Lib.hid (by
            have b4 : Below W2.heap.size W2 W4 := by
              have a := Below.then HB3.out hb4
              exact ⟨a.os, a.tape, a.output, a.size, a.block⟩
            exact ⟨M.out.pst.keeps (Keeps.of_below b4), Calm.of_below b4⟩)
          clear hK hS0 hS1 hb4 HB3 hgl3
          have hS0 := hS2
          clear hS2
          simp only [Act.put, List.setIfInBounds_toArray, List.set_cons_zero, List.set_cons_succ]
          refine Upto.takeG (i := 17) (v := ?_) rfl (by kernel_rfl) (fun _ _ _ h => h) rfl (fun w' hS => ?_) hS0 ?_
          rotate_left
          · (try dsimp only at hS); go_split_ands; go_simp; (try with_reducible rfl)
          simp only [Act.put, List.setIfInBounds_toArray, List.set_cons_zero, List.set_cons_succ]
          refine Upto.take (i := 18) (v := ?_) rfl (by kernel_rfl) (fun _ _ _ h => h) rfl (fun w' hS => ?_) hS0 ?_
          rotate_left
          · (try dsimp only at hS); go_split_ands; go_simp; (try with_reducible rfl)
          simp only [Act.put, List.setIfInBounds_toArray, List.set_cons_zero, List.set_cons_succ]
          have CE := Lib.hid (expect_any (H := H) (pb := pb) (w := W4) s3 wr3 (decide (xp.page < y.page)) HW4.out.1)
          refine Upto.tail rfl (by kernel_rfl) ?_
          simp only [List.drop_succ_cons, List.drop_zero]
          go_wp2_with fail
          refine CE.out.mono ?_
          rintro e v4 ⟨wr4, rfl, hiff, hp4, hc4⟩
          have N := Lib.hid (M.out.next rfl (fun _ => rfl) hlt L0.out.2.1 (w4 := v4) (HW4.out.2.trans hc4) hp4 (hiff.trans (by
            have e1 : (zk.set k y).getD (k - 1) default = xp := by rw [← HJ.out]; exact HXP.out
            have e2 : (zk.set k y).getD k default = y := by rw [getD_set (by rw [M.out.len]; exact hlt), if_pos rfl]
            rw [e1, e2]
            exact ⟨fun q => ⟨q.1, fun _ => by have := of_decide_eq_true q.2; exact this⟩, fun q => ⟨q.1, by have := q.2 (by omega); exact decide_eq_true this⟩⟩)))
          clear hiff hp4 hc4 CE M HW4 hS0
          go_wp2_with fail
          refine NoPanic.normal ?_
          go_wp2_with fail
          go_roundw
          case rel => exact ⟨k + 1, by omega, by go_num, N.out⟩
          case measure => simp [intOf]; omega
      · obtain rfl : k = n := by omega
        have R := Lib.hid (hrel.done HL.out (xs := xs) (most := 64) (by omega) rfl L0.out.2.1 G1.out HN.out L0.out.2.2)
        clear hrel
        go_wp2_with fail
        go_ret
        exact R.out
end
end Go.Proofs.Ytfldcddbmikfiaa

/- What it says: contracts and plain mathematics that the laws' walks use, 13 of 34: each part's own remark says what; no condition. -/
import Derived.Test.YtfldcddbmikfiaaPw11
import Derived.LoopTactic
import Derived.Deep.CutBlock

set_option linter.unusedSimpArgs false
set_option linter.unusedVariables false
set_option linter.deprecated false
set_option linter.unusedSectionVars false
set_option linter.all false

/- what rec passes on of a record of kind 6. -/
namespace Go.Proofs.Ytfldcddbmikfiaa
open Go.RowKit
section
variable {H pb : Nat} {w : World}
set_option maxRecDepth 100000 in
set_option maxHeartbeats 8000000 in
theorem fieldsE6_any [Inhabited Prop] (s : Ps) (wr : Bool) (x : Xr) (h : Pst H w pb s wr) (hx : XrIn H w x) (hk : x.kind = 6) (hr : s.room (spE 6).cost) :
    Calls Try.prog 34 #[.pointer (some ⟨pb, 0, none⟩), x.val] w (RetV (spE 6) (VR H) x.read H pb s wr w) := by
  obtain ⟨kind, tx, prev, next, key, ⟨oh, od⟩, ⟨nh, nd⟩, co, mA, mn, mc, mem, kA, kn, kc, lks, rA, rn, rc, rows, dA, dn, dc, dirty, eA, en, ec, deeds, pA, pn, pc, past⟩ := x
  simp only at hk
  subst hk
  unfold Xr.val Xr.read
  simp only
  have hr0 : s.room 20 := hr.mono (by decide)
  clear hr
  obtain ⟨r, hrr⟩ : ∃ r, w.heap.size = r := ⟨_, rfl⟩
  obtain ⟨W1, hW1⟩ : ∃ W1, W1 = (w.alloc (.cells #[.int .i64 6, .int .i64 tx, .int .i64 prev, .int .i64 next, .string key, .bool oh, .string od, .bool nh, .string nd, .int .i64 co, .slice mA mn mc, .slice kA kn kc, .slice rA rn rc, .slice dA dn dc, .slice eA en ec, .slice pA pn pc] 30)).alloc (.cells #[.int .i64 0, .int .i64 0, .int .i64 0, .int .i64 0, .string ⟨#[]⟩, .bool false, .string ⟨#[]⟩, .bool false, .string ⟨#[]⟩, .int .i64 0, .slice none 0 0, .slice none 0 0, .slice none 0 0, .slice none 0 0, .slice none 0 0, .slice none 0 0] 30) := ⟨_, rfl⟩
  have HB : Hid (Below w.heap.size w W1) := Lib.hid (by rw [hW1]; exact ((Below.refl _ _).alloc (Nat.le_refl _) _).alloc (by simp) _)
  have HV : Hid (Bk W1 r 30 #[.int .i64 6, .int .i64 tx, .int .i64 prev, .int .i64 next, .string key, .bool oh, .string od, .bool nh, .string nd, .int .i64 co, .slice mA mn mc, .slice kA kn kc, .slice rA rn rc, .slice dA dn dc, .slice eA en ec, .slice pA pn pc]) := Lib.hid (by rw [hW1, ← hrr]; exact (Bk.new w _ _).bel ((Below.refl _ _).alloc (Nat.le_refl _) _) (by simp))
  have HRS : Hid (Bk W1 (r + 1) 30 #[.int .i64 0, .int .i64 0, .int .i64 0, .int .i64 0, .string ⟨#[]⟩, .bool false, .string ⟨#[]⟩, .bool false, .string ⟨#[]⟩, .int .i64 0, .slice none 0 0, .slice none 0 0, .slice none 0 0, .slice none 0 0, .slice none 0 0, .slice none 0 0]) := Lib.hid (by
    rw [hW1, ← hrr]
    have := Bk.new (w.alloc (.cells #[.int .i64 6, .int .i64 tx, .int .i64 prev, .int .i64 next, .string key, .bool oh, .string od, .bool nh, .string nd, .int .i64 co, .slice mA mn mc, .slice kA kn kc, .slice rA rn rc, .slice dA dn dc, .slice eA en ec, .slice pA pn pc] 30)) 30 #[.int .i64 0, .int .i64 0, .int .i64 0, .int .i64 0, .string ⟨#[]⟩, .bool false, .string ⟨#[]⟩, .bool false, .string ⟨#[]⟩, .int .i64 0, .slice none 0 0, .slice none 0 0, .slice none 0 0, .slice none 0 0, .slice none 0 0, .slice none 0 0]
    rw [World.size_alloc] at this
    exact this)
  have HLOW := Lib.hid h.low
  have HRR := Lib.hid hrr
  have HW := Lib.hid hW1
  have P0 : Hid (Pst H W1.drew pb s wr) := Lib.hid ((h.keeps (Keeps.of_below HB.out)).keeps ⟨Nat.le_refl _, fun _ _ => rfl⟩)
  have HX := Lib.hid (hx.calm (w' := W1.drew) (by have := Calm.of_below (H := H) HB.out; exact ⟨this.os, this.tape, this.output, this.size, this.block⟩))
  have R0 := Lib.hid hr0
  have k0 : W1.cell? ⟨r, 0, none⟩ = some (.int .i64 6) := HV.out.cell 0
  have KS : Hid (∀ W, Calm H W1.drew W → W.cell? ⟨r, 0, none⟩ = some (.int .i64 6) ∧ W.cell? ⟨r, 1, none⟩ = some (.int .i64 tx) ∧ W.cell? ⟨r, 2, none⟩ = some (.int .i64 prev)) := Lib.hid (fun W hc => ⟨((HV.out.calm (w1 := W) rfl (by exact (⟨hc.os, hc.tape, hc.output, hc.size, hc.block⟩ : Calm H W1 W))).cell 0), ((HV.out.calm (w1 := W) rfl (by exact (⟨hc.os, hc.tape, hc.output, hc.size, hc.block⟩ : Calm H W1 W))).cell 1), ((HV.out.calm (w1 := W) rfl (by exact (⟨hc.os, hc.tape, hc.output, hc.size, hc.block⟩ : Calm H W1 W))).cell 2)⟩)
  clear h hr0 hW1 hx
  go_enter Try.func34, Try.ntmps34
  go_upto_region 1 with fail
  (try rw [hrr])
  rw [← HW.out]
  clear HW hrr
  go_wp2_with fail
  have hS0 := KS.out W1.drew (Calm.refl H _)
  refine wp_region_noPanic ?_
  refine upto_start (fun w' => w'.cell? ⟨r, 0, none⟩ = some (.int .i64 6) ∧ w'.cell? ⟨r, 1, none⟩ = some (.int .i64 tx) ∧ w'.cell? ⟨r, 2, none⟩ = some (.int .i64 prev)) 11 (by kernel_rfl) ?_
  change Upto _ _ _ _ _ 12 _ _ _
  refine Upto.take (i := 0) (v := ?_) rfl (by kernel_rfl) (fun _ _ _ h => h) rfl (fun w' hS => ?_) hS0 ?_
  rotate_left
  · (try dsimp only at hS); go_split_ands; go_simp; (try with_reducible rfl)
  simp only [Act.put, List.setIfInBounds_toArray, List.set_cons_zero, List.set_cons_succ]
  refine Upto.take (i := 1) (v := ?_) rfl (by kernel_rfl) (fun _ _ _ h => h) rfl (fun w' hS => ?_) hS0 ?_
  rotate_left
  · (try dsimp only at hS); go_split_ands; go_simp; (try with_reducible rfl)
  simp only [Act.put, List.setIfInBounds_toArray, List.set_cons_zero, List.set_cons_succ]
  refine Upto.take (i := 2) (v := ?_) rfl (by kernel_rfl) (fun _ _ _ h => h) rfl (fun w' hS => ?_) hS0 ?_
  rotate_left
  · (try dsimp only at hS); go_split_ands; go_simp; (try with_reducible rfl)
  simp only [Act.put, List.setIfInBounds_toArray, List.set_cons_zero, List.set_cons_succ]
  refine Upto.take (i := 3) (v := ?_) rfl (by kernel_rfl) (fun _ _ _ h => h) rfl (fun w' hS => ?_) hS0 ?_
  rotate_left
  · (try dsimp only at hS); go_split_ands; go_simp; (try with_reducible rfl)
  simp only [Act.put, List.setIfInBounds_toArray, List.set_cons_zero, List.set_cons_succ]
  refine Upto.take (i := 4) (v := ?_) rfl (by kernel_rfl) (fun _ _ _ h => h) rfl (fun w' hS => ?_) hS0 ?_
  rotate_left
  · (try dsimp only at hS); go_split_ands; go_simp; (try with_reducible rfl)
  simp only [Act.put, List.setIfInBounds_toArray, List.set_cons_zero, List.set_cons_succ]
  refine Upto.take (i := 6) (v := ?_) rfl (by kernel_rfl) (fun _ _ _ h => h) rfl (fun w' hS => ?_) hS0 ?_
  rotate_left
  · (try dsimp only at hS); go_split_ands; go_simp; (try with_reducible rfl)
  simp only [Act.put, List.setIfInBounds_toArray, List.set_cons_zero, List.set_cons_succ]
  refine Upto.take (i := 7) (v := ?_) rfl (by kernel_rfl) (fun _ _ _ h => h) rfl (fun w' hS => ?_) hS0 ?_
  rotate_left
  · (try dsimp only at hS); go_split_ands; go_simp; (try with_reducible rfl)
  simp only [Act.put, List.setIfInBounds_toArray, List.set_cons_zero, List.set_cons_succ]
  refine Upto.take (i := 8) (v := ?_) rfl (by kernel_rfl) (fun _ _ _ h => h) rfl (fun w' hS => ?_) hS0 ?_
  rotate_left
  · (try dsimp only at hS); go_split_ands; go_simp; (try with_reducible rfl)
  simp only [Act.put, List.setIfInBounds_toArray, List.set_cons_zero, List.set_cons_succ]
  have C0 := Lib.hid (Calm.refl H W1.drew)
  have CT1 := Lib.hid (seq_any (H := H) (pb := pb) s wr tx P0.out HX.out.tx (R0.out.mono (by decide)))
  refine Upto.law (i := 5) rfl (by kernel_rfl) rfl (fun K hK => ?_)
  refine wp_enter (f := 52) (args := #[.pointer (some ⟨pb, 0, none⟩), .int .i64 tx]) (by go_simp) CT1.out ?_
  rintro e V1 ⟨_, y1, s1, wr1, rfl, ⟨rfl, hi1⟩, hg1, hp1, hc1⟩
  have hS1 := KS.out V1 (C0.out.trans hc1)
  refine ⟨_, rfl, hK _ _ hS1 ?_⟩
  have C1 := Lib.hid (C0.out.trans hc1)
  have R1 : Hid (s1.room 10) := Lib.hid (hg1.room (c := 10) (R0.out.mono (by decide)))
  have G1 := Lib.hid hg1
  have P1 := Lib.hid hp1
  have D1 := Lib.hid hc1
  have I1 := Lib.hid hi1
  clear hK CT1 hg1 hp1 hc1 hS0 hi1
  have hS0 := hS1
  clear hS1
  simp only [Act.put, List.setIfInBounds_toArray, List.set_cons_zero, List.set_cons_succ]
  have CT2 := Lib.hid (seqOrNone_any (H := H) (pb := pb) s1 wr1 prev P1.out HX.out.prev (R1.out.mono (by decide)))
  refine Upto.law (i := 9) rfl (by kernel_rfl) rfl (fun K hK => ?_)
  refine wp_enter (f := 53) (args := #[.pointer (some ⟨pb, 0, none⟩), .int .i64 prev]) (by go_simp) CT2.out ?_
  rintro e V2 ⟨_, y2, s2, wr2, rfl, ⟨rfl, hi2⟩, hg2, hp2, hc2⟩
  have hS2 := KS.out V2 (C1.out.trans hc2)
  refine ⟨_, rfl, hK _ _ hS2 ?_⟩
  have C2 := Lib.hid (C1.out.trans hc2)
  have R2 : Hid (s2.room 0) := Lib.hid (hg2.room (c := 0) (R1.out.mono (by decide)))
  have G2 := Lib.hid hg2
  have P2 := Lib.hid hp2
  have D2 := Lib.hid hc2
  have I2 := Lib.hid hi2
  clear hK CT2 hg2 hp2 hc2 hS0 hi2
  have hS0 := hS2
  clear hS2
  simp only [Act.put, List.setIfInBounds_toArray, List.set_cons_zero, List.set_cons_succ]
  refine Upto.take (i := 10) (v := ?_) rfl (by kernel_rfl) (fun _ _ _ h => h) rfl (fun w' hS => ?_) hS0 ?_
  rotate_left
  · (try dsimp only at hS); go_split_ands; go_simp; (try with_reducible rfl)
  simp only [Act.put, List.setIfInBounds_toArray, List.set_cons_zero, List.set_cons_succ]
  have hcl : Calm H W1 V2 := by have := C2.out; exact ⟨this.os, this.tape, this.output, this.size, this.block⟩
  have RB := Lib.hid (HRS.out.calm (w1 := V2) rfl hcl)
  have F : Hid (RetV (spE 6) (VR H) (⟨6, tx, prev, next, key, ⟨oh, od⟩, ⟨nh, nd⟩, co, mem, lks, rows.map Xw.row, dirty, deeds.map Xd.deed, past⟩ : Rc) H pb s wr w (.returned (.agg #[.int .i64 6, .int .i64 y1, .int .i64 y2, .int .i64 0, .string ⟨#[]⟩, .bool false, .string ⟨#[]⟩, .bool false, .string ⟨#[]⟩, .int .i64 0, .slice none 0 0, .slice none 0 0, .slice none 0 0, .slice none 0 0, .slice none 0 0, .slice none 0 0])) (V2.setRow (r + 1) #[.int .i64 6, .int .i64 y1, .int .i64 y2, .int .i64 0, .string ⟨#[]⟩, .bool false, .string ⟨#[]⟩, .bool false, .string ⟨#[]⟩, .int .i64 0, .slice none 0 0, .slice none 0 0, .slice none 0 0, .slice none 0 0, .slice none 0 0, .slice none 0 0])) := Lib.hid (by
    have hcw : Calm H w V2 := (Calm.of_below HB.out).trans hcl
    obtain ⟨a, b⟩ := P2.out.row RB.out rfl (by have := HRR.out; omega) hcw #[.int .i64 6, .int .i64 y1, .int .i64 y2, .int .i64 0, .string ⟨#[]⟩, .bool false, .string ⟨#[]⟩, .bool false, .string ⟨#[]⟩, .int .i64 0, .slice none 0 0, .slice none 0 0, .slice none 0 0, .slice none 0 0, .slice none 0 0, .slice none 0 0]
    have hin : XrIn H V2 (⟨6, y1, y2, 0, ⟨#[]⟩, ⟨false, ⟨#[]⟩⟩, ⟨false, ⟨#[]⟩⟩, 0, none, 0, 0, [], none, 0, 0, [], none, 0, 0, [], none, 0, 0, [], none, 0, 0, [], none, 0, 0, []⟩ : Xr) := ⟨(i64_of _ rfl), I1.out, I2.out, (i64_of _ rfl), (Nat.zero_le _), (Nat.zero_le _), (Nat.zero_le _), (i64_of _ rfl), (Sl.nil elI H _), (Sl.nil elL H _), (Sl.nil elR H _), (Sl.nil elD H _), (Sl.nil elE H _), (Sl.nil elI H _)⟩
    refine ⟨_, (mkE 6) (y1, y2), s2, wr2, rfl, ⟨(⟨6, y1, y2, 0, ⟨#[]⟩, ⟨false, ⟨#[]⟩⟩, ⟨false, ⟨#[]⟩⟩, 0, none, 0, 0, [], none, 0, 0, [], none, 0, 0, [], none, 0, 0, [], none, 0, 0, [], none, 0, 0, []⟩ : Xr), rfl, hin.other RB.out (by have := HRR.out; have := HLOW.out; omega) (grown_setRow _ _ _), rfl⟩, ?_, a, b⟩
    exact Goes.map (x := (⟨6, tx, prev, next, key, ⟨oh, od⟩, ⟨nh, nd⟩, co, mem, lks, rows.map Xw.row, dirty, deeds.map Xd.deed, past⟩ : Rc)) (y := (y1, y2)) (f := (mkE 6)) (g := uE) (fun _ => rfl) (G1.out.pair G2.out))
  clear hcl
  have RF := Lib.hid (RB.out.rowp #[.int .i64 6, .int .i64 y1, .int .i64 y2, .int .i64 0, .string ⟨#[]⟩, .bool false, .string ⟨#[]⟩, .bool false, .string ⟨#[]⟩, .int .i64 0, .slice none 0 0, .slice none 0 0, .slice none 0 0, .slice none 0 0, .slice none 0 0, .slice none 0 0])
  refine Upto.tail rfl (by kernel_rfl) ?_
  simp only [List.drop_succ_cons, List.drop_zero]
  go_wp2_with (refine wpList_store_row rfl 30 _ _ rfl (r + 1) #[.int .i64 6, .int .i64 y1, .int .i64 y2, .int .i64 0, .string ⟨#[]⟩, .bool false, .string ⟨#[]⟩, .bool false, .string ⟨#[]⟩, .int .i64 0, .slice none 0 0, .slice none 0 0, .slice none 0 0, .slice none 0 0, .slice none 0 0, .slice none 0 0] rfl rfl 30 _ RB.out inf_rec rfl (rec_one _ (by simp [Value.oneCell'])) ?_; simp only [Act.put])
  refine NoPanic.normal ?_
  (try simp only [Exit.inBlock, Exit.then])
  go_wp2_with fail
  (try simp only [Exit.inBlock, Exit.then])
  refine bodyPost_ret (results_cell_row rfl _ _ (r + 1) 30 _ (0, 0) _ rfl RF.out Try.underlying30 rfl inf_rec) rfl ?_
  exact F.out
end
end Go.Proofs.Ytfldcddbmikfiaa

/- what rec passes on of a record of kind 7. -/
namespace Go.Proofs.Ytfldcddbmikfiaa
open Go.RowKit
section
variable {H pb : Nat} {w : World}
set_option maxRecDepth 100000 in
set_option maxHeartbeats 8000000 in
theorem fieldsB_any [Inhabited Prop] (s : Ps) (wr : Bool) (x : Xr) (h : Pst H w pb s wr) (hx : XrIn H w x) (hk : x.kind = 7) (hr : s.room spB.cost) :
    Calls Try.prog 34 #[.pointer (some ⟨pb, 0, none⟩), x.val] w (RetV spB (VR H) x.read H pb s wr w) := by
  obtain ⟨kind, tx, prev, next, key, ⟨oh, od⟩, ⟨nh, nd⟩, co, mA, mn, mc, mem, kA, kn, kc, lks, rA, rn, rc, rows, dA, dn, dc, dirty, eA, en, ec, deeds, pA, pn, pc, past⟩ := x
  simp only at hk
  subst hk
  unfold Xr.val Xr.read
  simp only
  clear hr
  obtain ⟨r, hrr⟩ : ∃ r, w.heap.size = r := ⟨_, rfl⟩
  obtain ⟨W1, hW1⟩ : ∃ W1, W1 = (w.alloc (.cells #[.int .i64 7, .int .i64 tx, .int .i64 prev, .int .i64 next, .string key, .bool oh, .string od, .bool nh, .string nd, .int .i64 co, .slice mA mn mc, .slice kA kn kc, .slice rA rn rc, .slice dA dn dc, .slice eA en ec, .slice pA pn pc] 30)).alloc (.cells #[.int .i64 0, .int .i64 0, .int .i64 0, .int .i64 0, .string ⟨#[]⟩, .bool false, .string ⟨#[]⟩, .bool false, .string ⟨#[]⟩, .int .i64 0, .slice none 0 0, .slice none 0 0, .slice none 0 0, .slice none 0 0, .slice none 0 0, .slice none 0 0] 30) := ⟨_, rfl⟩
  have HB : Hid (Below w.heap.size w W1) := Lib.hid (by rw [hW1]; exact ((Below.refl _ _).alloc (Nat.le_refl _) _).alloc (by simp) _)
  have HV : Hid (Bk W1 r 30 #[.int .i64 7, .int .i64 tx, .int .i64 prev, .int .i64 next, .string key, .bool oh, .string od, .bool nh, .string nd, .int .i64 co, .slice mA mn mc, .slice kA kn kc, .slice rA rn rc, .slice dA dn dc, .slice eA en ec, .slice pA pn pc]) := Lib.hid (by rw [hW1, ← hrr]; exact (Bk.new w _ _).bel ((Below.refl _ _).alloc (Nat.le_refl _) _) (by simp))
  have HRS : Hid (Bk W1 (r + 1) 30 #[.int .i64 0, .int .i64 0, .int .i64 0, .int .i64 0, .string ⟨#[]⟩, .bool false, .string ⟨#[]⟩, .bool false, .string ⟨#[]⟩, .int .i64 0, .slice none 0 0, .slice none 0 0, .slice none 0 0, .slice none 0 0, .slice none 0 0, .slice none 0 0]) := Lib.hid (by
    rw [hW1, ← hrr]
    have := Bk.new (w.alloc (.cells #[.int .i64 7, .int .i64 tx, .int .i64 prev, .int .i64 next, .string key, .bool oh, .string od, .bool nh, .string nd, .int .i64 co, .slice mA mn mc, .slice kA kn kc, .slice rA rn rc, .slice dA dn dc, .slice eA en ec, .slice pA pn pc] 30)) 30 #[.int .i64 0, .int .i64 0, .int .i64 0, .int .i64 0, .string ⟨#[]⟩, .bool false, .string ⟨#[]⟩, .bool false, .string ⟨#[]⟩, .int .i64 0, .slice none 0 0, .slice none 0 0, .slice none 0 0, .slice none 0 0, .slice none 0 0, .slice none 0 0]
    rw [World.size_alloc] at this
    exact this)
  have HLOW := Lib.hid h.low
  have HRR := Lib.hid hrr
  have HW := Lib.hid hW1
  have k0 : W1.cell? ⟨r, 0, none⟩ = some (.int .i64 7) := HV.out.cell 0
  have P0 := Lib.hid (h.keeps (Keeps.of_below HB.out))
  clear h hx hW1
  go_enter Try.func34, Try.ntmps34
  go_upto_region 1 with fail
  (try rw [hrr])
  rw [← HW.out]
  clear HW hrr
  have RB := HRS
  have F : Hid (RetV spB (VR H) (⟨7, tx, prev, next, key, ⟨oh, od⟩, ⟨nh, nd⟩, co, mem, lks, rows.map Xw.row, dirty, deeds.map Xd.deed, past⟩ : Rc) H pb s wr w (.returned (.agg #[.int .i64 7, .int .i64 0, .int .i64 0, .int .i64 0, .string ⟨#[]⟩, .bool false, .string ⟨#[]⟩, .bool false, .string ⟨#[]⟩, .int .i64 0, .slice none 0 0, .slice none 0 0, .slice none 0 0, .slice none 0 0, .slice none 0 0, .slice none 0 0])) (W1.setRow (r + 1) #[.int .i64 7, .int .i64 0, .int .i64 0, .int .i64 0, .string ⟨#[]⟩, .bool false, .string ⟨#[]⟩, .bool false, .string ⟨#[]⟩, .int .i64 0, .slice none 0 0, .slice none 0 0, .slice none 0 0, .slice none 0 0, .slice none 0 0, .slice none 0 0])) := Lib.hid (by
    have hcw : Calm H w W1 := Calm.of_below HB.out
    obtain ⟨a, b⟩ := P0.out.row RB.out rfl (by have := HRR.out; omega) hcw #[.int .i64 7, .int .i64 0, .int .i64 0, .int .i64 0, .string ⟨#[]⟩, .bool false, .string ⟨#[]⟩, .bool false, .string ⟨#[]⟩, .int .i64 0, .slice none 0 0, .slice none 0 0, .slice none 0 0, .slice none 0 0, .slice none 0 0, .slice none 0 0]
    have hin : XrIn H W1 (⟨7, 0, 0, 0, ⟨#[]⟩, ⟨false, ⟨#[]⟩⟩, ⟨false, ⟨#[]⟩⟩, 0, none, 0, 0, [], none, 0, 0, [], none, 0, 0, [], none, 0, 0, [], none, 0, 0, [], none, 0, 0, []⟩ : Xr) := ⟨(i64_of _ rfl), (i64_of _ rfl), (i64_of _ rfl), (i64_of _ rfl), (Nat.zero_le _), (Nat.zero_le _), (Nat.zero_le _), (i64_of _ rfl), (Sl.nil elI H _), (Sl.nil elL H _), (Sl.nil elR H _), (Sl.nil elD H _), (Sl.nil elE H _), (Sl.nil elI H _)⟩
    exact ⟨_, rc0 7, s, wr, rfl, ⟨(⟨7, 0, 0, 0, ⟨#[]⟩, ⟨false, ⟨#[]⟩⟩, ⟨false, ⟨#[]⟩⟩, 0, none, 0, 0, [], none, 0, 0, [], none, 0, 0, [], none, 0, 0, [], none, 0, 0, [], none, 0, 0, []⟩ : Xr), rfl, hin.other RB.out (by have := HRR.out; have := HLOW.out; omega) (grown_setRow _ _ _), rfl⟩, noneSp_goes _ _ _, a, b⟩)
  have RF := Lib.hid (RB.out.rowp #[.int .i64 7, .int .i64 0, .int .i64 0, .int .i64 0, .string ⟨#[]⟩, .bool false, .string ⟨#[]⟩, .bool false, .string ⟨#[]⟩, .int .i64 0, .slice none 0 0, .slice none 0 0, .slice none 0 0, .slice none 0 0, .slice none 0 0, .slice none 0 0])
  go_wp2_with (refine wpList_store_row rfl 30 _ _ rfl (r + 1) #[.int .i64 7, .int .i64 0, .int .i64 0, .int .i64 0, .string ⟨#[]⟩, .bool false, .string ⟨#[]⟩, .bool false, .string ⟨#[]⟩, .int .i64 0, .slice none 0 0, .slice none 0 0, .slice none 0 0, .slice none 0 0, .slice none 0 0, .slice none 0 0] rfl rfl 30 _ RB.out inf_rec rfl (rec_one _ (by simp [Value.oneCell'])) ?_; simp only [Act.put])
  (try simp only [Exit.inBlock, Exit.then])
  refine bodyPost_ret (results_cell_row rfl _ _ (r + 1) 30 _ (0, 0) _ rfl RF.out Try.underlying30 rfl inf_rec) rfl ?_
  exact F.out
end
end Go.Proofs.Ytfldcddbmikfiaa

/- what rec passes on of a record of kind 8. -/
namespace Go.Proofs.Ytfldcddbmikfiaa
open Go.RowKit
section
variable {H pb : Nat} {w : World}
set_option maxRecDepth 100000 in
set_option maxHeartbeats 8000000 in
theorem fieldsK_any [Inhabited Prop] (s : Ps) (wr : Bool) (x : Xr) (h : Pst H w pb s wr) (hx : XrIn H w x) (hk : x.kind = 8) (hr : s.room spK.cost) :
    Calls Try.prog 34 #[.pointer (some ⟨pb, 0, none⟩), x.val] w (RetV spK (VR H) x.read H pb s wr w) := by
  obtain ⟨kind, tx, prev, next, key, ⟨oh, od⟩, ⟨nh, nd⟩, co, mA, mn, mc, mem, kA, kn, kc, lks, rA, rn, rc, rows, dA, dn, dc, dirty, eA, en, ec, deeds, pA, pn, pc, past⟩ := x
  simp only at hk
  subst hk
  unfold Xr.val Xr.read
  simp only
  have hr0 : s.room 5341736 := hr.mono (by decide)
  clear hr
  obtain ⟨r, hrr⟩ : ∃ r, w.heap.size = r := ⟨_, rfl⟩
  obtain ⟨W1, hW1⟩ : ∃ W1, W1 = (w.alloc (.cells #[.int .i64 8, .int .i64 tx, .int .i64 prev, .int .i64 next, .string key, .bool oh, .string od, .bool nh, .string nd, .int .i64 co, .slice mA mn mc, .slice kA kn kc, .slice rA rn rc, .slice dA dn dc, .slice eA en ec, .slice pA pn pc] 30)).alloc (.cells #[.int .i64 0, .int .i64 0, .int .i64 0, .int .i64 0, .string ⟨#[]⟩, .bool false, .string ⟨#[]⟩, .bool false, .string ⟨#[]⟩, .int .i64 0, .slice none 0 0, .slice none 0 0, .slice none 0 0, .slice none 0 0, .slice none 0 0, .slice none 0 0] 30) := ⟨_, rfl⟩
  have HB : Hid (Below w.heap.size w W1) := Lib.hid (by rw [hW1]; exact ((Below.refl _ _).alloc (Nat.le_refl _) _).alloc (by simp) _)
  have HV : Hid (Bk W1 r 30 #[.int .i64 8, .int .i64 tx, .int .i64 prev, .int .i64 next, .string key, .bool oh, .string od, .bool nh, .string nd, .int .i64 co, .slice mA mn mc, .slice kA kn kc, .slice rA rn rc, .slice dA dn dc, .slice eA en ec, .slice pA pn pc]) := Lib.hid (by rw [hW1, ← hrr]; exact (Bk.new w _ _).bel ((Below.refl _ _).alloc (Nat.le_refl _) _) (by simp))
  have HRS : Hid (Bk W1 (r + 1) 30 #[.int .i64 0, .int .i64 0, .int .i64 0, .int .i64 0, .string ⟨#[]⟩, .bool false, .string ⟨#[]⟩, .bool false, .string ⟨#[]⟩, .int .i64 0, .slice none 0 0, .slice none 0 0, .slice none 0 0, .slice none 0 0, .slice none 0 0, .slice none 0 0]) := Lib.hid (by
    rw [hW1, ← hrr]
    have := Bk.new (w.alloc (.cells #[.int .i64 8, .int .i64 tx, .int .i64 prev, .int .i64 next, .string key, .bool oh, .string od, .bool nh, .string nd, .int .i64 co, .slice mA mn mc, .slice kA kn kc, .slice rA rn rc, .slice dA dn dc, .slice eA en ec, .slice pA pn pc] 30)) 30 #[.int .i64 0, .int .i64 0, .int .i64 0, .int .i64 0, .string ⟨#[]⟩, .bool false, .string ⟨#[]⟩, .bool false, .string ⟨#[]⟩, .int .i64 0, .slice none 0 0, .slice none 0 0, .slice none 0 0, .slice none 0 0, .slice none 0 0, .slice none 0 0]
    rw [World.size_alloc] at this
    exact this)
  have HLOW := Lib.hid h.low
  have HRR := Lib.hid hrr
  have HW := Lib.hid hW1
  have P0 : Hid (Pst H W1.drew pb s wr) := Lib.hid ((h.keeps (Keeps.of_below HB.out)).keeps ⟨Nat.le_refl _, fun _ _ => rfl⟩)
  have HX := Lib.hid (hx.calm (w' := W1.drew) (by have := Calm.of_below (H := H) HB.out; exact ⟨this.os, this.tape, this.output, this.size, this.block⟩))
  have R0 := Lib.hid hr0
  have k0 : W1.cell? ⟨r, 0, none⟩ = some (.int .i64 8) := HV.out.cell 0
  have KS : Hid (∀ W, Calm H W1.drew W → W.cell? ⟨r, 0, none⟩ = some (.int .i64 8) ∧ W.cell? ⟨r, 12, none⟩ = some (.slice rA rn rc) ∧ W.cell? ⟨r, 13, none⟩ = some (.slice dA dn dc) ∧ W.cell? ⟨r, 14, none⟩ = some (.slice eA en ec) ∧ W.cell? ⟨r, 15, none⟩ = some (.slice pA pn pc)) := Lib.hid (fun W hc => ⟨((HV.out.calm (w1 := W) rfl (by exact (⟨hc.os, hc.tape, hc.output, hc.size, hc.block⟩ : Calm H W1 W))).cell 0), ((HV.out.calm (w1 := W) rfl (by exact (⟨hc.os, hc.tape, hc.output, hc.size, hc.block⟩ : Calm H W1 W))).cell 12), ((HV.out.calm (w1 := W) rfl (by exact (⟨hc.os, hc.tape, hc.output, hc.size, hc.block⟩ : Calm H W1 W))).cell 13), ((HV.out.calm (w1 := W) rfl (by exact (⟨hc.os, hc.tape, hc.output, hc.size, hc.block⟩ : Calm H W1 W))).cell 14), ((HV.out.calm (w1 := W) rfl (by exact (⟨hc.os, hc.tape, hc.output, hc.size, hc.block⟩ : Calm H W1 W))).cell 15)⟩)
  clear h hr0 hW1 hx
  go_enter Try.func34, Try.ntmps34
  go_upto_region 1 with fail
  (try rw [hrr])
  rw [← HW.out]
  clear HW hrr
  go_wp2_with fail
  have hS0 := KS.out W1.drew (Calm.refl H _)
  refine wp_region_noPanic ?_
  refine upto_start (fun w' => w'.cell? ⟨r, 0, none⟩ = some (.int .i64 8) ∧ w'.cell? ⟨r, 12, none⟩ = some (.slice rA rn rc) ∧ w'.cell? ⟨r, 13, none⟩ = some (.slice dA dn dc) ∧ w'.cell? ⟨r, 14, none⟩ = some (.slice eA en ec) ∧ w'.cell? ⟨r, 15, none⟩ = some (.slice pA pn pc)) 19 (by kernel_rfl) ?_
  change Upto _ _ _ _ _ 20 _ _ _
  refine Upto.take (i := 0) (v := ?_) rfl (by kernel_rfl) (fun _ _ _ h => h) rfl (fun w' hS => ?_) hS0 ?_
  rotate_left
  · (try dsimp only at hS); go_split_ands; go_simp; (try with_reducible rfl)
  simp only [Act.put, List.setIfInBounds_toArray, List.set_cons_zero, List.set_cons_succ]
  refine Upto.take (i := 1) (v := ?_) rfl (by kernel_rfl) (fun _ _ _ h => h) rfl (fun w' hS => ?_) hS0 ?_
  rotate_left
  · (try dsimp only at hS); go_split_ands; go_simp; (try with_reducible rfl)
  simp only [Act.put, List.setIfInBounds_toArray, List.set_cons_zero, List.set_cons_succ]
  refine Upto.take (i := 2) (v := ?_) rfl (by kernel_rfl) (fun _ _ _ h => h) rfl (fun w' hS => ?_) hS0 ?_
  rotate_left
  · (try dsimp only at hS); go_split_ands; go_simp; (try with_reducible rfl)
  simp only [Act.put, List.setIfInBounds_toArray, List.set_cons_zero, List.set_cons_succ]
  refine Upto.take (i := 3) (v := ?_) rfl (by kernel_rfl) (fun _ _ _ h => h) rfl (fun w' hS => ?_) hS0 ?_
  rotate_left
  · (try dsimp only at hS); go_split_ands; go_simp; (try with_reducible rfl)
  simp only [Act.put, List.setIfInBounds_toArray, List.set_cons_zero, List.set_cons_succ]
  refine Upto.take (i := 4) (v := ?_) rfl (by kernel_rfl) (fun _ _ _ h => h) rfl (fun w' hS => ?_) hS0 ?_
  rotate_left
  · (try dsimp only at hS); go_split_ands; go_simp; (try with_reducible rfl)
  simp only [Act.put, List.setIfInBounds_toArray, List.set_cons_zero, List.set_cons_succ]
  refine Upto.take (i := 6) (v := ?_) rfl (by kernel_rfl) (fun _ _ _ h => h) rfl (fun w' hS => ?_) hS0 ?_
  rotate_left
  · (try dsimp only at hS); go_split_ands; go_simp; (try with_reducible rfl)
  simp only [Act.put, List.setIfInBounds_toArray, List.set_cons_zero, List.set_cons_succ]
  refine Upto.take (i := 7) (v := ?_) rfl (by kernel_rfl) (fun _ _ _ h => h) rfl (fun w' hS => ?_) hS0 ?_
  rotate_left
  · (try dsimp only at hS); go_split_ands; go_simp; (try with_reducible rfl)
  simp only [Act.put, List.setIfInBounds_toArray, List.set_cons_zero, List.set_cons_succ]
  refine Upto.take (i := 8) (v := ?_) rfl (by kernel_rfl) (fun _ _ _ h => h) rfl (fun w' hS => ?_) hS0 ?_
  rotate_left
  · (try dsimp only at hS); go_split_ands; go_simp; (try with_reducible rfl)
  simp only [Act.put, List.setIfInBounds_toArray, List.set_cons_zero, List.set_cons_succ]
  refine Upto.take (i := 10) (v := ?_) rfl (by kernel_rfl) (fun _ _ _ h => h) rfl (fun w' hS => ?_) hS0 ?_
  rotate_left
  · (try dsimp only at hS); go_split_ands; go_simp; (try with_reducible rfl)
  simp only [Act.put, List.setIfInBounds_toArray, List.set_cons_zero, List.set_cons_succ]
  refine Upto.take (i := 11) (v := ?_) rfl (by kernel_rfl) (fun _ _ _ h => h) rfl (fun w' hS => ?_) hS0 ?_
  rotate_left
  · (try dsimp only at hS); go_split_ands; go_simp; (try with_reducible rfl)
  simp only [Act.put, List.setIfInBounds_toArray, List.set_cons_zero, List.set_cons_succ]
  refine Upto.take (i := 12) (v := ?_) rfl (by kernel_rfl) (fun _ _ _ h => h) rfl (fun w' hS => ?_) hS0 ?_
  rotate_left
  · (try dsimp only at hS); go_split_ands; go_simp; (try with_reducible rfl)
  simp only [Act.put, List.setIfInBounds_toArray, List.set_cons_zero, List.set_cons_succ]
  refine Upto.take (i := 14) (v := ?_) rfl (by kernel_rfl) (fun _ _ _ h => h) rfl (fun w' hS => ?_) hS0 ?_
  rotate_left
  · (try dsimp only at hS); go_split_ands; go_simp; (try with_reducible rfl)
  simp only [Act.put, List.setIfInBounds_toArray, List.set_cons_zero, List.set_cons_succ]
  refine Upto.take (i := 15) (v := ?_) rfl (by kernel_rfl) (fun _ _ _ h => h) rfl (fun w' hS => ?_) hS0 ?_
  rotate_left
  · (try dsimp only at hS); go_split_ands; go_simp; (try with_reducible rfl)
  simp only [Act.put, List.setIfInBounds_toArray, List.set_cons_zero, List.set_cons_succ]
  refine Upto.take (i := 16) (v := ?_) rfl (by kernel_rfl) (fun _ _ _ h => h) rfl (fun w' hS => ?_) hS0 ?_
  rotate_left
  · (try dsimp only at hS); go_split_ands; go_simp; (try with_reducible rfl)
  simp only [Act.put, List.setIfInBounds_toArray, List.set_cons_zero, List.set_cons_succ]
  have C0 := Lib.hid (Calm.refl H W1.drew)
  have CT1 := Lib.hid (rows_any (H := H) (pb := pb) s wr rA rn rc rows P0.out (HX.out.rows.calm C0.out) (R0.out.mono (by decide)))
  refine Upto.law (i := 5) rfl (by kernel_rfl) rfl (fun K hK => ?_)
  refine wp_enter (f := 59) (args := #[.pointer (some ⟨pb, 0, none⟩), .slice rA rn rc]) (by go_simp) CT1.out ?_
  rintro e V1 ⟨_, y1, s1, wr1, rfl, ⟨A1, n1, c1, l1, rfl, hi1, rfl⟩, hg1, hp1, hc1⟩
  have hS1 := KS.out V1 (C0.out.trans hc1)
  refine ⟨_, rfl, hK _ _ hS1 ?_⟩
  have C1 := Lib.hid (C0.out.trans hc1)
  have R1 : Hid (s1.room 668190) := Lib.hid (hg1.room (c := 668190) (R0.out.mono (by decide)))
  have G1 := Lib.hid hg1
  have P1 := Lib.hid hp1
  have D1 := Lib.hid hc1
  have I1 := Lib.hid hi1
  clear hK CT1 hg1 hp1 hc1 hS0 hi1
  have hS0 := hS1
  clear hS1
  simp only [Act.put, List.setIfInBounds_toArray, List.set_cons_zero, List.set_cons_succ]
  have CT2 := Lib.hid (dirty_any (H := H) (pb := pb) s1 wr1 dA dn dc dirty P1.out (HX.out.dirty.calm C1.out) (R1.out.mono (by decide)))
  refine Upto.law (i := 9) rfl (by kernel_rfl) rfl (fun K hK => ?_)
  refine wp_enter (f := 60) (args := #[.pointer (some ⟨pb, 0, none⟩), .slice dA dn dc]) (by go_simp) CT2.out ?_
  rintro e V2 ⟨_, y2, s2, wr2, rfl, ⟨A2, n2, c2, l2, rfl, hi2, rfl⟩, hg2, hp2, hc2⟩
  have hS2 := KS.out V2 (C1.out.trans hc2)
  refine ⟨_, rfl, hK _ _ hS2 ?_⟩
  have C2 := Lib.hid (C1.out.trans hc2)
  have R2 : Hid (s2.room 663060) := Lib.hid (hg2.room (c := 663060) (R1.out.mono (by decide)))
  have G2 := Lib.hid hg2
  have P2 := Lib.hid hp2
  have D2 := Lib.hid hc2
  have I2 := Lib.hid hi2
  clear hK CT2 hg2 hp2 hc2 hS0 hi2
  have hS0 := hS2
  clear hS2
  simp only [Act.put, List.setIfInBounds_toArray, List.set_cons_zero, List.set_cons_succ]
  have CT3 := Lib.hid (deeds_any (H := H) (pb := pb) s2 wr2 eA en ec deeds P2.out (HX.out.deeds.calm C2.out) (R2.out.mono (by decide)))
  refine Upto.law (i := 13) rfl (by kernel_rfl) rfl (fun K hK => ?_)
  refine wp_enter (f := 61) (args := #[.pointer (some ⟨pb, 0, none⟩), .slice eA en ec]) (by go_simp) CT3.out ?_
  rintro e V3 ⟨_, y3, s3, wr3, rfl, ⟨A3, n3, c3, l3, rfl, hi3, rfl⟩, hg3, hp3, hc3⟩
  have hS3 := KS.out V3 (C2.out.trans hc3)
  refine ⟨_, rfl, hK _ _ hS3 ?_⟩
  have C3 := Lib.hid (C2.out.trans hc3)
  have R3 : Hid (s3.room 2570) := Lib.hid (hg3.room (c := 2570) (R2.out.mono (by decide)))
  have G3 := Lib.hid hg3
  have P3 := Lib.hid hp3
  have D3 := Lib.hid hc3
  have I3 := Lib.hid hi3
  clear hK CT3 hg3 hp3 hc3 hS0 hi3
  have hS0 := hS3
  clear hS3
  simp only [Act.put, List.setIfInBounds_toArray, List.set_cons_zero, List.set_cons_succ]
  have CT4 := Lib.hid (past_any (H := H) (pb := pb) s3 wr3 pA pn pc past P3.out (HX.out.past.calm C3.out) (R3.out.mono (by decide)))
  refine Upto.law (i := 17) rfl (by kernel_rfl) rfl (fun K hK => ?_)
  refine wp_enter (f := 62) (args := #[.pointer (some ⟨pb, 0, none⟩), .slice pA pn pc]) (by go_simp) CT4.out ?_
  rintro e V4 ⟨_, y4, s4, wr4, rfl, ⟨A4, n4, c4, l4, rfl, hi4, rfl⟩, hg4, hp4, hc4⟩
  have hS4 := KS.out V4 (C3.out.trans hc4)
  refine ⟨_, rfl, hK _ _ hS4 ?_⟩
  have C4 := Lib.hid (C3.out.trans hc4)
  have R4 : Hid (s4.room 0) := Lib.hid (hg4.room (c := 0) (R3.out.mono (by decide)))
  have G4 := Lib.hid hg4
  have P4 := Lib.hid hp4
  have D4 := Lib.hid hc4
  have I4 := Lib.hid hi4
  clear hK CT4 hg4 hp4 hc4 hS0 hi4
  have hS0 := hS4
  clear hS4
  simp only [Act.put, List.setIfInBounds_toArray, List.set_cons_zero, List.set_cons_succ]
  refine Upto.take (i := 18) (v := ?_) rfl (by kernel_rfl) (fun _ _ _ h => h) rfl (fun w' hS => ?_) hS0 ?_
  rotate_left
  · (try dsimp only at hS); go_split_ands; go_simp; (try with_reducible rfl)
  simp only [Act.put, List.setIfInBounds_toArray, List.set_cons_zero, List.set_cons_succ]
  have hcl : Calm H W1 V4 := by have := C4.out; exact ⟨this.os, this.tape, this.output, this.size, this.block⟩
  have RB := Lib.hid (HRS.out.calm (w1 := V4) rfl hcl)
  have F : Hid (RetV spK (VR H) (⟨8, tx, prev, next, key, ⟨oh, od⟩, ⟨nh, nd⟩, co, mem, lks, rows.map Xw.row, dirty, deeds.map Xd.deed, past⟩ : Rc) H pb s wr w (.returned (.agg #[.int .i64 8, .int .i64 0, .int .i64 0, .int .i64 0, .string ⟨#[]⟩, .bool false, .string ⟨#[]⟩, .bool false, .string ⟨#[]⟩, .int .i64 0, .slice none 0 0, .slice none 0 0, .slice A1 n1 c1, .slice A2 n2 c2, .slice A3 n3 c3, .slice A4 n4 c4])) (V4.setRow (r + 1) #[.int .i64 8, .int .i64 0, .int .i64 0, .int .i64 0, .string ⟨#[]⟩, .bool false, .string ⟨#[]⟩, .bool false, .string ⟨#[]⟩, .int .i64 0, .slice none 0 0, .slice none 0 0, .slice A1 n1 c1, .slice A2 n2 c2, .slice A3 n3 c3, .slice A4 n4 c4])) := Lib.hid (by
    have hcw : Calm H w V4 := (Calm.of_below HB.out).trans hcl
    obtain ⟨a, b⟩ := P4.out.row RB.out rfl (by have := HRR.out; omega) hcw #[.int .i64 8, .int .i64 0, .int .i64 0, .int .i64 0, .string ⟨#[]⟩, .bool false, .string ⟨#[]⟩, .bool false, .string ⟨#[]⟩, .int .i64 0, .slice none 0 0, .slice none 0 0, .slice A1 n1 c1, .slice A2 n2 c2, .slice A3 n3 c3, .slice A4 n4 c4]
    have hin : XrIn H V4 (⟨8, 0, 0, 0, ⟨#[]⟩, ⟨false, ⟨#[]⟩⟩, ⟨false, ⟨#[]⟩⟩, 0, none, 0, 0, [], none, 0, 0, [], A1, n1, c1, l1, A2, n2, c2, l2, A3, n3, c3, l3, A4, n4, c4, l4⟩ : Xr) := ⟨(i64_of _ rfl), (i64_of _ rfl), (i64_of _ rfl), (i64_of _ rfl), (Nat.zero_le _), (Nat.zero_le _), (Nat.zero_le _), (i64_of _ rfl), (Sl.nil elI H _), (Sl.nil elL H _), (((I1.out.calm D2.out).calm D3.out).calm D4.out), ((I2.out.calm D3.out).calm D4.out), (I3.out.calm D4.out), I4.out⟩
    refine ⟨_, mkK (((l1.map Xw.row, l2), l3.map Xd.deed), l4), s4, wr4, rfl, ⟨(⟨8, 0, 0, 0, ⟨#[]⟩, ⟨false, ⟨#[]⟩⟩, ⟨false, ⟨#[]⟩⟩, 0, none, 0, 0, [], none, 0, 0, [], A1, n1, c1, l1, A2, n2, c2, l2, A3, n3, c3, l3, A4, n4, c4, l4⟩ : Xr), rfl, hin.other RB.out (by have := HRR.out; have := HLOW.out; omega) (grown_setRow _ _ _), rfl⟩, ?_, a, b⟩
    exact Goes.map (x := (⟨8, tx, prev, next, key, ⟨oh, od⟩, ⟨nh, nd⟩, co, mem, lks, rows.map Xw.row, dirty, deeds.map Xd.deed, past⟩ : Rc)) (y := (((l1.map Xw.row, l2), l3.map Xd.deed), l4)) (f := mkK) (g := uK) (fun _ => rfl) (((G1.out.pair G2.out.ids).pair G3.out).pair G4.out.ids))
  clear hcl
  have RF := Lib.hid (RB.out.rowp #[.int .i64 8, .int .i64 0, .int .i64 0, .int .i64 0, .string ⟨#[]⟩, .bool false, .string ⟨#[]⟩, .bool false, .string ⟨#[]⟩, .int .i64 0, .slice none 0 0, .slice none 0 0, .slice A1 n1 c1, .slice A2 n2 c2, .slice A3 n3 c3, .slice A4 n4 c4])
  refine Upto.tail rfl (by kernel_rfl) ?_
  simp only [List.drop_succ_cons, List.drop_zero]
  go_wp2_with (refine wpList_store_row rfl 30 _ _ rfl (r + 1) #[.int .i64 8, .int .i64 0, .int .i64 0, .int .i64 0, .string ⟨#[]⟩, .bool false, .string ⟨#[]⟩, .bool false, .string ⟨#[]⟩, .int .i64 0, .slice none 0 0, .slice none 0 0, .slice A1 n1 c1, .slice A2 n2 c2, .slice A3 n3 c3, .slice A4 n4 c4] rfl rfl 30 _ RB.out inf_rec rfl (rec_one _ (by simp [Value.oneCell'])) ?_; simp only [Act.put])
  refine NoPanic.normal ?_
  (try simp only [Exit.inBlock, Exit.then])
  go_wp2_with fail
  (try simp only [Exit.inBlock, Exit.then])
  refine bodyPost_ret (results_cell_row rfl _ _ (r + 1) 30 _ (0, 0) _ rfl RF.out Try.underlying30 rfl inf_rec) rfl ?_
  exact F.out
end
end Go.Proofs.Ytfldcddbmikfiaa

/- what rec passes on of a record of kind 9. -/
namespace Go.Proofs.Ytfldcddbmikfiaa
open Go.RowKit
section
variable {H pb : Nat} {w : World}
set_option maxRecDepth 100000 in
set_option maxHeartbeats 8000000 in
theorem fieldsD_any [Inhabited Prop] (s : Ps) (wr : Bool) (x : Xr) (h : Pst H w pb s wr) (hx : XrIn H w x) (hk : x.kind = 9) (hr : s.room spD.cost) :
    Calls Try.prog 34 #[.pointer (some ⟨pb, 0, none⟩), x.val] w (RetV spD (VR H) x.read H pb s wr w) := by
  obtain ⟨kind, tx, prev, next, key, ⟨oh, od⟩, ⟨nh, nd⟩, co, mA, mn, mc, mem, kA, kn, kc, lks, rA, rn, rc, rows, dA, dn, dc, dirty, eA, en, ec, deeds, pA, pn, pc, past⟩ := x
  simp only at hk
  subst hk
  unfold Xr.val Xr.read
  simp only
  have hr0 : s.room 2580 := hr.mono (by decide)
  clear hr
  obtain ⟨r, hrr⟩ : ∃ r, w.heap.size = r := ⟨_, rfl⟩
  obtain ⟨W1, hW1⟩ : ∃ W1, W1 = (w.alloc (.cells #[.int .i64 9, .int .i64 tx, .int .i64 prev, .int .i64 next, .string key, .bool oh, .string od, .bool nh, .string nd, .int .i64 co, .slice mA mn mc, .slice kA kn kc, .slice rA rn rc, .slice dA dn dc, .slice eA en ec, .slice pA pn pc] 30)).alloc (.cells #[.int .i64 0, .int .i64 0, .int .i64 0, .int .i64 0, .string ⟨#[]⟩, .bool false, .string ⟨#[]⟩, .bool false, .string ⟨#[]⟩, .int .i64 0, .slice none 0 0, .slice none 0 0, .slice none 0 0, .slice none 0 0, .slice none 0 0, .slice none 0 0] 30) := ⟨_, rfl⟩
  have HB : Hid (Below w.heap.size w W1) := Lib.hid (by rw [hW1]; exact ((Below.refl _ _).alloc (Nat.le_refl _) _).alloc (by simp) _)
  have HV : Hid (Bk W1 r 30 #[.int .i64 9, .int .i64 tx, .int .i64 prev, .int .i64 next, .string key, .bool oh, .string od, .bool nh, .string nd, .int .i64 co, .slice mA mn mc, .slice kA kn kc, .slice rA rn rc, .slice dA dn dc, .slice eA en ec, .slice pA pn pc]) := Lib.hid (by rw [hW1, ← hrr]; exact (Bk.new w _ _).bel ((Below.refl _ _).alloc (Nat.le_refl _) _) (by simp))
  have HRS : Hid (Bk W1 (r + 1) 30 #[.int .i64 0, .int .i64 0, .int .i64 0, .int .i64 0, .string ⟨#[]⟩, .bool false, .string ⟨#[]⟩, .bool false, .string ⟨#[]⟩, .int .i64 0, .slice none 0 0, .slice none 0 0, .slice none 0 0, .slice none 0 0, .slice none 0 0, .slice none 0 0]) := Lib.hid (by
    rw [hW1, ← hrr]
    have := Bk.new (w.alloc (.cells #[.int .i64 9, .int .i64 tx, .int .i64 prev, .int .i64 next, .string key, .bool oh, .string od, .bool nh, .string nd, .int .i64 co, .slice mA mn mc, .slice kA kn kc, .slice rA rn rc, .slice dA dn dc, .slice eA en ec, .slice pA pn pc] 30)) 30 #[.int .i64 0, .int .i64 0, .int .i64 0, .int .i64 0, .string ⟨#[]⟩, .bool false, .string ⟨#[]⟩, .bool false, .string ⟨#[]⟩, .int .i64 0, .slice none 0 0, .slice none 0 0, .slice none 0 0, .slice none 0 0, .slice none 0 0, .slice none 0 0]
    rw [World.size_alloc] at this
    exact this)
  have HLOW := Lib.hid h.low
  have HRR := Lib.hid hrr
  have HW := Lib.hid hW1
  have P0 : Hid (Pst H W1.drew pb s wr) := Lib.hid ((h.keeps (Keeps.of_below HB.out)).keeps ⟨Nat.le_refl _, fun _ _ => rfl⟩)
  have HX := Lib.hid (hx.calm (w' := W1.drew) (by have := Calm.of_below (H := H) HB.out; exact ⟨this.os, this.tape, this.output, this.size, this.block⟩))
  have R0 := Lib.hid hr0
  have k0 : W1.cell? ⟨r, 0, none⟩ = some (.int .i64 9) := HV.out.cell 0
  have KS : Hid (∀ W, Calm H W1.drew W → W.cell? ⟨r, 0, none⟩ = some (.int .i64 9) ∧ W.cell? ⟨r, 1, none⟩ = some (.int .i64 tx) ∧ W.cell? ⟨r, 10, none⟩ = some (.slice mA mn mc)) := Lib.hid (fun W hc => ⟨((HV.out.calm (w1 := W) rfl (by exact (⟨hc.os, hc.tape, hc.output, hc.size, hc.block⟩ : Calm H W1 W))).cell 0), ((HV.out.calm (w1 := W) rfl (by exact (⟨hc.os, hc.tape, hc.output, hc.size, hc.block⟩ : Calm H W1 W))).cell 1), ((HV.out.calm (w1 := W) rfl (by exact (⟨hc.os, hc.tape, hc.output, hc.size, hc.block⟩ : Calm H W1 W))).cell 10)⟩)
  clear h hr0 hW1 hx
  go_enter Try.func34, Try.ntmps34
  go_upto_region 1 with fail
  (try rw [hrr])
  rw [← HW.out]
  clear HW hrr
  go_wp2_with fail
  have hS0 := KS.out W1.drew (Calm.refl H _)
  refine wp_region_noPanic ?_
  refine upto_start (fun w' => w'.cell? ⟨r, 0, none⟩ = some (.int .i64 9) ∧ w'.cell? ⟨r, 1, none⟩ = some (.int .i64 tx) ∧ w'.cell? ⟨r, 10, none⟩ = some (.slice mA mn mc)) 11 (by kernel_rfl) ?_
  change Upto _ _ _ _ _ 12 _ _ _
  refine Upto.take (i := 0) (v := ?_) rfl (by kernel_rfl) (fun _ _ _ h => h) rfl (fun w' hS => ?_) hS0 ?_
  rotate_left
  · (try dsimp only at hS); go_split_ands; go_simp; (try with_reducible rfl)
  simp only [Act.put, List.setIfInBounds_toArray, List.set_cons_zero, List.set_cons_succ]
  refine Upto.take (i := 1) (v := ?_) rfl (by kernel_rfl) (fun _ _ _ h => h) rfl (fun w' hS => ?_) hS0 ?_
  rotate_left
  · (try dsimp only at hS); go_split_ands; go_simp; (try with_reducible rfl)
  simp only [Act.put, List.setIfInBounds_toArray, List.set_cons_zero, List.set_cons_succ]
  refine Upto.take (i := 2) (v := ?_) rfl (by kernel_rfl) (fun _ _ _ h => h) rfl (fun w' hS => ?_) hS0 ?_
  rotate_left
  · (try dsimp only at hS); go_split_ands; go_simp; (try with_reducible rfl)
  simp only [Act.put, List.setIfInBounds_toArray, List.set_cons_zero, List.set_cons_succ]
  refine Upto.take (i := 3) (v := ?_) rfl (by kernel_rfl) (fun _ _ _ h => h) rfl (fun w' hS => ?_) hS0 ?_
  rotate_left
  · (try dsimp only at hS); go_split_ands; go_simp; (try with_reducible rfl)
  simp only [Act.put, List.setIfInBounds_toArray, List.set_cons_zero, List.set_cons_succ]
  refine Upto.take (i := 4) (v := ?_) rfl (by kernel_rfl) (fun _ _ _ h => h) rfl (fun w' hS => ?_) hS0 ?_
  rotate_left
  · (try dsimp only at hS); go_split_ands; go_simp; (try with_reducible rfl)
  simp only [Act.put, List.setIfInBounds_toArray, List.set_cons_zero, List.set_cons_succ]
  refine Upto.take (i := 6) (v := ?_) rfl (by kernel_rfl) (fun _ _ _ h => h) rfl (fun w' hS => ?_) hS0 ?_
  rotate_left
  · (try dsimp only at hS); go_split_ands; go_simp; (try with_reducible rfl)
  simp only [Act.put, List.setIfInBounds_toArray, List.set_cons_zero, List.set_cons_succ]
  refine Upto.take (i := 7) (v := ?_) rfl (by kernel_rfl) (fun _ _ _ h => h) rfl (fun w' hS => ?_) hS0 ?_
  rotate_left
  · (try dsimp only at hS); go_split_ands; go_simp; (try with_reducible rfl)
  simp only [Act.put, List.setIfInBounds_toArray, List.set_cons_zero, List.set_cons_succ]
  refine Upto.take (i := 8) (v := ?_) rfl (by kernel_rfl) (fun _ _ _ h => h) rfl (fun w' hS => ?_) hS0 ?_
  rotate_left
  · (try dsimp only at hS); go_split_ands; go_simp; (try with_reducible rfl)
  simp only [Act.put, List.setIfInBounds_toArray, List.set_cons_zero, List.set_cons_succ]
  have C0 := Lib.hid (Calm.refl H W1.drew)
  have CT1 := Lib.hid (seq_any (H := H) (pb := pb) s wr tx P0.out HX.out.tx (R0.out.mono (by decide)))
  refine Upto.law (i := 5) rfl (by kernel_rfl) rfl (fun K hK => ?_)
  refine wp_enter (f := 52) (args := #[.pointer (some ⟨pb, 0, none⟩), .int .i64 tx]) (by go_simp) CT1.out ?_
  rintro e V1 ⟨_, y1, s1, wr1, rfl, ⟨rfl, hi1⟩, hg1, hp1, hc1⟩
  have hS1 := KS.out V1 (C0.out.trans hc1)
  refine ⟨_, rfl, hK _ _ hS1 ?_⟩
  have C1 := Lib.hid (C0.out.trans hc1)
  have R1 : Hid (s1.room 2570) := Lib.hid (hg1.room (c := 2570) (R0.out.mono (by decide)))
  have G1 := Lib.hid hg1
  have P1 := Lib.hid hp1
  have D1 := Lib.hid hc1
  have I1 := Lib.hid hi1
  clear hK CT1 hg1 hp1 hc1 hS0 hi1
  have hS0 := hS1
  clear hS1
  simp only [Act.put, List.setIfInBounds_toArray, List.set_cons_zero, List.set_cons_succ]
  have CT2 := Lib.hid (members_any (H := H) (pb := pb) s1 wr1 mA mn mc mem P1.out (HX.out.mem.calm C1.out) (R1.out.mono (by decide)))
  refine Upto.law (i := 9) rfl (by kernel_rfl) rfl (fun K hK => ?_)
  refine wp_enter (f := 57) (args := #[.pointer (some ⟨pb, 0, none⟩), .slice mA mn mc]) (by go_simp) CT2.out ?_
  rintro e V2 ⟨_, y2, s2, wr2, rfl, ⟨A2, n2, c2, l2, rfl, hi2, rfl⟩, hg2, hp2, hc2⟩
  have hS2 := KS.out V2 (C1.out.trans hc2)
  refine ⟨_, rfl, hK _ _ hS2 ?_⟩
  have C2 := Lib.hid (C1.out.trans hc2)
  have R2 : Hid (s2.room 0) := Lib.hid (hg2.room (c := 0) (R1.out.mono (by decide)))
  have G2 := Lib.hid hg2
  have P2 := Lib.hid hp2
  have D2 := Lib.hid hc2
  have I2 := Lib.hid hi2
  clear hK CT2 hg2 hp2 hc2 hS0 hi2
  have hS0 := hS2
  clear hS2
  simp only [Act.put, List.setIfInBounds_toArray, List.set_cons_zero, List.set_cons_succ]
  refine Upto.take (i := 10) (v := ?_) rfl (by kernel_rfl) (fun _ _ _ h => h) rfl (fun w' hS => ?_) hS0 ?_
  rotate_left
  · (try dsimp only at hS); go_split_ands; go_simp; (try with_reducible rfl)
  simp only [Act.put, List.setIfInBounds_toArray, List.set_cons_zero, List.set_cons_succ]
  have hcl : Calm H W1 V2 := by have := C2.out; exact ⟨this.os, this.tape, this.output, this.size, this.block⟩
  have RB := Lib.hid (HRS.out.calm (w1 := V2) rfl hcl)
  have F : Hid (RetV spD (VR H) (⟨9, tx, prev, next, key, ⟨oh, od⟩, ⟨nh, nd⟩, co, mem, lks, rows.map Xw.row, dirty, deeds.map Xd.deed, past⟩ : Rc) H pb s wr w (.returned (.agg #[.int .i64 9, .int .i64 y1, .int .i64 0, .int .i64 0, .string ⟨#[]⟩, .bool false, .string ⟨#[]⟩, .bool false, .string ⟨#[]⟩, .int .i64 0, .slice A2 n2 c2, .slice none 0 0, .slice none 0 0, .slice none 0 0, .slice none 0 0, .slice none 0 0])) (V2.setRow (r + 1) #[.int .i64 9, .int .i64 y1, .int .i64 0, .int .i64 0, .string ⟨#[]⟩, .bool false, .string ⟨#[]⟩, .bool false, .string ⟨#[]⟩, .int .i64 0, .slice A2 n2 c2, .slice none 0 0, .slice none 0 0, .slice none 0 0, .slice none 0 0, .slice none 0 0])) := Lib.hid (by
    have hcw : Calm H w V2 := (Calm.of_below HB.out).trans hcl
    obtain ⟨a, b⟩ := P2.out.row RB.out rfl (by have := HRR.out; omega) hcw #[.int .i64 9, .int .i64 y1, .int .i64 0, .int .i64 0, .string ⟨#[]⟩, .bool false, .string ⟨#[]⟩, .bool false, .string ⟨#[]⟩, .int .i64 0, .slice A2 n2 c2, .slice none 0 0, .slice none 0 0, .slice none 0 0, .slice none 0 0, .slice none 0 0]
    have hin : XrIn H V2 (⟨9, y1, 0, 0, ⟨#[]⟩, ⟨false, ⟨#[]⟩⟩, ⟨false, ⟨#[]⟩⟩, 0, A2, n2, c2, l2, none, 0, 0, [], none, 0, 0, [], none, 0, 0, [], none, 0, 0, [], none, 0, 0, []⟩ : Xr) := ⟨(i64_of _ rfl), I1.out, (i64_of _ rfl), (i64_of _ rfl), (Nat.zero_le _), (Nat.zero_le _), (Nat.zero_le _), (i64_of _ rfl), I2.out, (Sl.nil elL H _), (Sl.nil elR H _), (Sl.nil elD H _), (Sl.nil elE H _), (Sl.nil elI H _)⟩
    refine ⟨_, mkD (y1, l2), s2, wr2, rfl, ⟨(⟨9, y1, 0, 0, ⟨#[]⟩, ⟨false, ⟨#[]⟩⟩, ⟨false, ⟨#[]⟩⟩, 0, A2, n2, c2, l2, none, 0, 0, [], none, 0, 0, [], none, 0, 0, [], none, 0, 0, [], none, 0, 0, []⟩ : Xr), rfl, hin.other RB.out (by have := HRR.out; have := HLOW.out; omega) (grown_setRow _ _ _), rfl⟩, ?_, a, b⟩
    exact Goes.map (x := (⟨9, tx, prev, next, key, ⟨oh, od⟩, ⟨nh, nd⟩, co, mem, lks, rows.map Xw.row, dirty, deeds.map Xd.deed, past⟩ : Rc)) (y := (y1, l2)) (f := mkD) (g := uD) (fun _ => rfl) (G1.out.pair G2.out.ids))
  clear hcl
  have RF := Lib.hid (RB.out.rowp #[.int .i64 9, .int .i64 y1, .int .i64 0, .int .i64 0, .string ⟨#[]⟩, .bool false, .string ⟨#[]⟩, .bool false, .string ⟨#[]⟩, .int .i64 0, .slice A2 n2 c2, .slice none 0 0, .slice none 0 0, .slice none 0 0, .slice none 0 0, .slice none 0 0])
  refine Upto.tail rfl (by kernel_rfl) ?_
  simp only [List.drop_succ_cons, List.drop_zero]
  go_wp2_with (refine wpList_store_row rfl 30 _ _ rfl (r + 1) #[.int .i64 9, .int .i64 y1, .int .i64 0, .int .i64 0, .string ⟨#[]⟩, .bool false, .string ⟨#[]⟩, .bool false, .string ⟨#[]⟩, .int .i64 0, .slice A2 n2 c2, .slice none 0 0, .slice none 0 0, .slice none 0 0, .slice none 0 0, .slice none 0 0] rfl rfl 30 _ RB.out inf_rec rfl (rec_one _ (by simp [Value.oneCell'])) ?_; simp only [Act.put])
  refine NoPanic.normal ?_
  (try simp only [Exit.inBlock, Exit.then])
  go_wp2_with fail
  (try simp only [Exit.inBlock, Exit.then])
  refine bodyPost_ret (results_cell_row rfl _ _ (r + 1) 30 _ (0, 0) _ rfl RF.out Try.underlying30 rfl inf_rec) rfl ?_
  exact F.out
end
end Go.Proofs.Ytfldcddbmikfiaa

/- what rec passes on of a record of kind 10. -/
namespace Go.Proofs.Ytfldcddbmikfiaa
open Go.RowKit
section
variable {H pb : Nat} {w : World}
set_option maxRecDepth 100000 in
set_option maxHeartbeats 8000000 in
theorem fieldsF_any [Inhabited Prop] (s : Ps) (wr : Bool) (x : Xr) (h : Pst H w pb s wr) (hx : XrIn H w x) (hk : x.kind = 10) (hr : s.room spF.cost) :
    Calls Try.prog 34 #[.pointer (some ⟨pb, 0, none⟩), x.val] w (RetV spF (VR H) x.read H pb s wr w) := by
  obtain ⟨kind, tx, prev, next, key, ⟨oh, od⟩, ⟨nh, nd⟩, co, mA, mn, mc, mem, kA, kn, kc, lks, rA, rn, rc, rows, dA, dn, dc, dirty, eA, en, ec, deeds, pA, pn, pc, past⟩ := x
  simp only at hk
  subst hk
  unfold Xr.val Xr.read
  simp only
  have hr0 : s.room 10 := hr.mono (by decide)
  clear hr
  obtain ⟨r, hrr⟩ : ∃ r, w.heap.size = r := ⟨_, rfl⟩
  obtain ⟨W1, hW1⟩ : ∃ W1, W1 = (w.alloc (.cells #[.int .i64 10, .int .i64 tx, .int .i64 prev, .int .i64 next, .string key, .bool oh, .string od, .bool nh, .string nd, .int .i64 co, .slice mA mn mc, .slice kA kn kc, .slice rA rn rc, .slice dA dn dc, .slice eA en ec, .slice pA pn pc] 30)).alloc (.cells #[.int .i64 0, .int .i64 0, .int .i64 0, .int .i64 0, .string ⟨#[]⟩, .bool false, .string ⟨#[]⟩, .bool false, .string ⟨#[]⟩, .int .i64 0, .slice none 0 0, .slice none 0 0, .slice none 0 0, .slice none 0 0, .slice none 0 0, .slice none 0 0] 30) := ⟨_, rfl⟩
  have HB : Hid (Below w.heap.size w W1) := Lib.hid (by rw [hW1]; exact ((Below.refl _ _).alloc (Nat.le_refl _) _).alloc (by simp) _)
  have HV : Hid (Bk W1 r 30 #[.int .i64 10, .int .i64 tx, .int .i64 prev, .int .i64 next, .string key, .bool oh, .string od, .bool nh, .string nd, .int .i64 co, .slice mA mn mc, .slice kA kn kc, .slice rA rn rc, .slice dA dn dc, .slice eA en ec, .slice pA pn pc]) := Lib.hid (by rw [hW1, ← hrr]; exact (Bk.new w _ _).bel ((Below.refl _ _).alloc (Nat.le_refl _) _) (by simp))
  have HRS : Hid (Bk W1 (r + 1) 30 #[.int .i64 0, .int .i64 0, .int .i64 0, .int .i64 0, .string ⟨#[]⟩, .bool false, .string ⟨#[]⟩, .bool false, .string ⟨#[]⟩, .int .i64 0, .slice none 0 0, .slice none 0 0, .slice none 0 0, .slice none 0 0, .slice none 0 0, .slice none 0 0]) := Lib.hid (by
    rw [hW1, ← hrr]
    have := Bk.new (w.alloc (.cells #[.int .i64 10, .int .i64 tx, .int .i64 prev, .int .i64 next, .string key, .bool oh, .string od, .bool nh, .string nd, .int .i64 co, .slice mA mn mc, .slice kA kn kc, .slice rA rn rc, .slice dA dn dc, .slice eA en ec, .slice pA pn pc] 30)) 30 #[.int .i64 0, .int .i64 0, .int .i64 0, .int .i64 0, .string ⟨#[]⟩, .bool false, .string ⟨#[]⟩, .bool false, .string ⟨#[]⟩, .int .i64 0, .slice none 0 0, .slice none 0 0, .slice none 0 0, .slice none 0 0, .slice none 0 0, .slice none 0 0]
    rw [World.size_alloc] at this
    exact this)
  have HLOW := Lib.hid h.low
  have HRR := Lib.hid hrr
  have HW := Lib.hid hW1
  have P0 : Hid (Pst H W1.drew pb s wr) := Lib.hid ((h.keeps (Keeps.of_below HB.out)).keeps ⟨Nat.le_refl _, fun _ _ => rfl⟩)
  have HX := Lib.hid (hx.calm (w' := W1.drew) (by have := Calm.of_below (H := H) HB.out; exact ⟨this.os, this.tape, this.output, this.size, this.block⟩))
  have R0 := Lib.hid hr0
  have k0 : W1.cell? ⟨r, 0, none⟩ = some (.int .i64 10) := HV.out.cell 0
  have KS : Hid (∀ W, Calm H W1.drew W → W.cell? ⟨r, 0, none⟩ = some (.int .i64 10) ∧ W.cell? ⟨r, 1, none⟩ = some (.int .i64 tx)) := Lib.hid (fun W hc => ⟨((HV.out.calm (w1 := W) rfl (by exact (⟨hc.os, hc.tape, hc.output, hc.size, hc.block⟩ : Calm H W1 W))).cell 0), ((HV.out.calm (w1 := W) rfl (by exact (⟨hc.os, hc.tape, hc.output, hc.size, hc.block⟩ : Calm H W1 W))).cell 1)⟩)
  clear h hr0 hW1 hx
  go_enter Try.func34, Try.ntmps34
  go_upto_region 1 with fail
  (try rw [hrr])
  rw [← HW.out]
  clear HW hrr
  go_wp2_with fail
  have hS0 := KS.out W1.drew (Calm.refl H _)
  refine wp_region_noPanic ?_
  refine upto_start (fun w' => w'.cell? ⟨r, 0, none⟩ = some (.int .i64 10) ∧ w'.cell? ⟨r, 1, none⟩ = some (.int .i64 tx)) 7 (by kernel_rfl) ?_
  change Upto _ _ _ _ _ 8 _ _ _
  refine Upto.take (i := 0) (v := ?_) rfl (by kernel_rfl) (fun _ _ _ h => h) rfl (fun w' hS => ?_) hS0 ?_
  rotate_left
  · (try dsimp only at hS); go_split_ands; go_simp; (try with_reducible rfl)
  simp only [Act.put, List.setIfInBounds_toArray, List.set_cons_zero, List.set_cons_succ]
  refine Upto.take (i := 1) (v := ?_) rfl (by kernel_rfl) (fun _ _ _ h => h) rfl (fun w' hS => ?_) hS0 ?_
  rotate_left
  · (try dsimp only at hS); go_split_ands; go_simp; (try with_reducible rfl)
  simp only [Act.put, List.setIfInBounds_toArray, List.set_cons_zero, List.set_cons_succ]
  refine Upto.take (i := 2) (v := ?_) rfl (by kernel_rfl) (fun _ _ _ h => h) rfl (fun w' hS => ?_) hS0 ?_
  rotate_left
  · (try dsimp only at hS); go_split_ands; go_simp; (try with_reducible rfl)
  simp only [Act.put, List.setIfInBounds_toArray, List.set_cons_zero, List.set_cons_succ]
  refine Upto.take (i := 3) (v := ?_) rfl (by kernel_rfl) (fun _ _ _ h => h) rfl (fun w' hS => ?_) hS0 ?_
  rotate_left
  · (try dsimp only at hS); go_split_ands; go_simp; (try with_reducible rfl)
  simp only [Act.put, List.setIfInBounds_toArray, List.set_cons_zero, List.set_cons_succ]
  refine Upto.take (i := 4) (v := ?_) rfl (by kernel_rfl) (fun _ _ _ h => h) rfl (fun w' hS => ?_) hS0 ?_
  rotate_left
  · (try dsimp only at hS); go_split_ands; go_simp; (try with_reducible rfl)
  simp only [Act.put, List.setIfInBounds_toArray, List.set_cons_zero, List.set_cons_succ]
  have C0 := Lib.hid (Calm.refl H W1.drew)
  have CT1 := Lib.hid (seq_any (H := H) (pb := pb) s wr tx P0.out HX.out.tx (R0.out.mono (by decide)))
  refine Upto.law (i := 5) rfl (by kernel_rfl) rfl (fun K hK => ?_)
  refine wp_enter (f := 52) (args := #[.pointer (some ⟨pb, 0, none⟩), .int .i64 tx]) (by go_simp) CT1.out ?_
  rintro e V1 ⟨_, y1, s1, wr1, rfl, ⟨rfl, hi1⟩, hg1, hp1, hc1⟩
  have hS1 := KS.out V1 (C0.out.trans hc1)
  refine ⟨_, rfl, hK _ _ hS1 ?_⟩
  have C1 := Lib.hid (C0.out.trans hc1)
  have R1 : Hid (s1.room 0) := Lib.hid (hg1.room (c := 0) (R0.out.mono (by decide)))
  have G1 := Lib.hid hg1
  have P1 := Lib.hid hp1
  have D1 := Lib.hid hc1
  have I1 := Lib.hid hi1
  clear hK CT1 hg1 hp1 hc1 hS0 hi1
  have hS0 := hS1
  clear hS1
  simp only [Act.put, List.setIfInBounds_toArray, List.set_cons_zero, List.set_cons_succ]
  refine Upto.take (i := 6) (v := ?_) rfl (by kernel_rfl) (fun _ _ _ h => h) rfl (fun w' hS => ?_) hS0 ?_
  rotate_left
  · (try dsimp only at hS); go_split_ands; go_simp; (try with_reducible rfl)
  simp only [Act.put, List.setIfInBounds_toArray, List.set_cons_zero, List.set_cons_succ]
  have hcl : Calm H W1 V1 := by have := C1.out; exact ⟨this.os, this.tape, this.output, this.size, this.block⟩
  have RB := Lib.hid (HRS.out.calm (w1 := V1) rfl hcl)
  have F : Hid (RetV spF (VR H) (⟨10, tx, prev, next, key, ⟨oh, od⟩, ⟨nh, nd⟩, co, mem, lks, rows.map Xw.row, dirty, deeds.map Xd.deed, past⟩ : Rc) H pb s wr w (.returned (.agg #[.int .i64 10, .int .i64 y1, .int .i64 0, .int .i64 0, .string ⟨#[]⟩, .bool false, .string ⟨#[]⟩, .bool false, .string ⟨#[]⟩, .int .i64 0, .slice none 0 0, .slice none 0 0, .slice none 0 0, .slice none 0 0, .slice none 0 0, .slice none 0 0])) (V1.setRow (r + 1) #[.int .i64 10, .int .i64 y1, .int .i64 0, .int .i64 0, .string ⟨#[]⟩, .bool false, .string ⟨#[]⟩, .bool false, .string ⟨#[]⟩, .int .i64 0, .slice none 0 0, .slice none 0 0, .slice none 0 0, .slice none 0 0, .slice none 0 0, .slice none 0 0])) := Lib.hid (by
    have hcw : Calm H w V1 := (Calm.of_below HB.out).trans hcl
    obtain ⟨a, b⟩ := P1.out.row RB.out rfl (by have := HRR.out; omega) hcw #[.int .i64 10, .int .i64 y1, .int .i64 0, .int .i64 0, .string ⟨#[]⟩, .bool false, .string ⟨#[]⟩, .bool false, .string ⟨#[]⟩, .int .i64 0, .slice none 0 0, .slice none 0 0, .slice none 0 0, .slice none 0 0, .slice none 0 0, .slice none 0 0]
    have hin : XrIn H V1 (⟨10, y1, 0, 0, ⟨#[]⟩, ⟨false, ⟨#[]⟩⟩, ⟨false, ⟨#[]⟩⟩, 0, none, 0, 0, [], none, 0, 0, [], none, 0, 0, [], none, 0, 0, [], none, 0, 0, [], none, 0, 0, []⟩ : Xr) := ⟨(i64_of _ rfl), I1.out, (i64_of _ rfl), (i64_of _ rfl), (Nat.zero_le _), (Nat.zero_le _), (Nat.zero_le _), (i64_of _ rfl), (Sl.nil elI H _), (Sl.nil elL H _), (Sl.nil elR H _), (Sl.nil elD H _), (Sl.nil elE H _), (Sl.nil elI H _)⟩
    refine ⟨_, mkF (y1), s1, wr1, rfl, ⟨(⟨10, y1, 0, 0, ⟨#[]⟩, ⟨false, ⟨#[]⟩⟩, ⟨false, ⟨#[]⟩⟩, 0, none, 0, 0, [], none, 0, 0, [], none, 0, 0, [], none, 0, 0, [], none, 0, 0, [], none, 0, 0, []⟩ : Xr), rfl, hin.other RB.out (by have := HRR.out; have := HLOW.out; omega) (grown_setRow _ _ _), rfl⟩, ?_, a, b⟩
    exact Goes.map (x := (⟨10, tx, prev, next, key, ⟨oh, od⟩, ⟨nh, nd⟩, co, mem, lks, rows.map Xw.row, dirty, deeds.map Xd.deed, past⟩ : Rc)) (y := (y1)) (f := mkF) (g := (fun r : Rc => r.tx)) (fun _ => rfl) G1.out)
  clear hcl
  have RF := Lib.hid (RB.out.rowp #[.int .i64 10, .int .i64 y1, .int .i64 0, .int .i64 0, .string ⟨#[]⟩, .bool false, .string ⟨#[]⟩, .bool false, .string ⟨#[]⟩, .int .i64 0, .slice none 0 0, .slice none 0 0, .slice none 0 0, .slice none 0 0, .slice none 0 0, .slice none 0 0])
  refine Upto.tail rfl (by kernel_rfl) ?_
  simp only [List.drop_succ_cons, List.drop_zero]
  go_wp2_with (refine wpList_store_row rfl 30 _ _ rfl (r + 1) #[.int .i64 10, .int .i64 y1, .int .i64 0, .int .i64 0, .string ⟨#[]⟩, .bool false, .string ⟨#[]⟩, .bool false, .string ⟨#[]⟩, .int .i64 0, .slice none 0 0, .slice none 0 0, .slice none 0 0, .slice none 0 0, .slice none 0 0, .slice none 0 0] rfl rfl 30 _ RB.out inf_rec rfl (rec_one _ (by simp [Value.oneCell'])) ?_; simp only [Act.put])
  refine NoPanic.normal ?_
  (try simp only [Exit.inBlock, Exit.then])
  go_wp2_with fail
  (try simp only [Exit.inBlock, Exit.then])
  refine bodyPost_ret (results_cell_row rfl _ _ (r + 1) 30 _ (0, 0) _ rfl RF.out Try.underlying30 rfl inf_rec) rfl ?_
  exact F.out
end
end Go.Proofs.Ytfldcddbmikfiaa

/- What it says: contracts and plain mathematics that the laws' walks use, 12 of 34: each part's own remark says what; no condition. -/
import Derived.Test.YtfldcddbmikfiaaPw11
import Derived.LoopTactic
import Derived.Deep.CutBlock

set_option linter.unusedSimpArgs false
set_option linter.unusedVariables false
set_option linter.deprecated false
set_option linter.unusedSectionVars false
set_option linter.all false

/- what rec passes on of a record of kind 2. -/
namespace Go.Proofs.Ytfldcddbmikfiaa
open Go.RowKit
section
variable {H pb : Nat} {w : World}
set_option maxRecDepth 100000 in
set_option maxHeartbeats 8000000 in
theorem fieldsC_any [Inhabited Prop] (s : Ps) (wr : Bool) (x : Xr) (h : Pst H w pb s wr) (hx : XrIn H w x) (hk : x.kind = 2) (hr : s.room spC.cost) :
    Calls Try.prog 34 #[.pointer (some ⟨pb, 0, none⟩), x.val] w (RetV spC (VR H) x.read H pb s wr w) := by
  obtain ⟨kind, tx, prev, next, key, ⟨oh, od⟩, ⟨nh, nd⟩, co, mA, mn, mc, mem, kA, kn, kc, lks, rA, rn, rc, rows, dA, dn, dc, dirty, eA, en, ec, deeds, pA, pn, pc, past⟩ := x
  simp only at hk
  subst hk
  unfold Xr.val Xr.read
  simp only
  have hr0 : s.room 151 := hr.mono (by decide)
  clear hr
  obtain ⟨r, hrr⟩ : ∃ r, w.heap.size = r := ⟨_, rfl⟩
  obtain ⟨W1, hW1⟩ : ∃ W1, W1 = (w.alloc (.cells #[.int .i64 2, .int .i64 tx, .int .i64 prev, .int .i64 next, .string key, .bool oh, .string od, .bool nh, .string nd, .int .i64 co, .slice mA mn mc, .slice kA kn kc, .slice rA rn rc, .slice dA dn dc, .slice eA en ec, .slice pA pn pc] 30)).alloc (.cells #[.int .i64 0, .int .i64 0, .int .i64 0, .int .i64 0, .string ⟨#[]⟩, .bool false, .string ⟨#[]⟩, .bool false, .string ⟨#[]⟩, .int .i64 0, .slice none 0 0, .slice none 0 0, .slice none 0 0, .slice none 0 0, .slice none 0 0, .slice none 0 0] 30) := ⟨_, rfl⟩
  have HB : Hid (Below w.heap.size w W1) := Lib.hid (by rw [hW1]; exact ((Below.refl _ _).alloc (Nat.le_refl _) _).alloc (by simp) _)
  have HV : Hid (Bk W1 r 30 #[.int .i64 2, .int .i64 tx, .int .i64 prev, .int .i64 next, .string key, .bool oh, .string od, .bool nh, .string nd, .int .i64 co, .slice mA mn mc, .slice kA kn kc, .slice rA rn rc, .slice dA dn dc, .slice eA en ec, .slice pA pn pc]) := Lib.hid (by rw [hW1, ← hrr]; exact (Bk.new w _ _).bel ((Below.refl _ _).alloc (Nat.le_refl _) _) (by simp))
  have HRS : Hid (Bk W1 (r + 1) 30 #[.int .i64 0, .int .i64 0, .int .i64 0, .int .i64 0, .string ⟨#[]⟩, .bool false, .string ⟨#[]⟩, .bool false, .string ⟨#[]⟩, .int .i64 0, .slice none 0 0, .slice none 0 0, .slice none 0 0, .slice none 0 0, .slice none 0 0, .slice none 0 0]) := Lib.hid (by
    rw [hW1, ← hrr]
    have := Bk.new (w.alloc (.cells #[.int .i64 2, .int .i64 tx, .int .i64 prev, .int .i64 next, .string key, .bool oh, .string od, .bool nh, .string nd, .int .i64 co, .slice mA mn mc, .slice kA kn kc, .slice rA rn rc, .slice dA dn dc, .slice eA en ec, .slice pA pn pc] 30)) 30 #[.int .i64 0, .int .i64 0, .int .i64 0, .int .i64 0, .string ⟨#[]⟩, .bool false, .string ⟨#[]⟩, .bool false, .string ⟨#[]⟩, .int .i64 0, .slice none 0 0, .slice none 0 0, .slice none 0 0, .slice none 0 0, .slice none 0 0, .slice none 0 0]
    rw [World.size_alloc] at this
    exact this)
  have HLOW := Lib.hid h.low
  have HRR := Lib.hid hrr
  have HW := Lib.hid hW1
  have P0 : Hid (Pst H W1.drew pb s wr) := Lib.hid ((h.keeps (Keeps.of_below HB.out)).keeps ⟨Nat.le_refl _, fun _ _ => rfl⟩)
  have HX := Lib.hid (hx.calm (w' := W1.drew) (by have := Calm.of_below (H := H) HB.out; exact ⟨this.os, this.tape, this.output, this.size, this.block⟩))
  have R0 := Lib.hid hr0
  have k0 : W1.cell? ⟨r, 0, none⟩ = some (.int .i64 2) := HV.out.cell 0
  have KS : Hid (∀ W, Calm H W1.drew W → W.cell? ⟨r, 0, none⟩ = some (.int .i64 2) ∧ W.cell? ⟨r, 1, none⟩ = some (.int .i64 tx) ∧ W.cell? ⟨r, 2, none⟩ = some (.int .i64 prev) ∧ W.cell? ⟨r, 3, none⟩ = some (.int .i64 next) ∧ W.cell? ⟨r, 4, none⟩ = some (.string key) ∧ W.cell? ⟨r, 7, none⟩ = some (.bool nh) ∧ W.cell? ⟨r, 8, none⟩ = some (.string nd)) := Lib.hid (fun W hc => ⟨((HV.out.calm (w1 := W) rfl (by exact (⟨hc.os, hc.tape, hc.output, hc.size, hc.block⟩ : Calm H W1 W))).cell 0), ((HV.out.calm (w1 := W) rfl (by exact (⟨hc.os, hc.tape, hc.output, hc.size, hc.block⟩ : Calm H W1 W))).cell 1), ((HV.out.calm (w1 := W) rfl (by exact (⟨hc.os, hc.tape, hc.output, hc.size, hc.block⟩ : Calm H W1 W))).cell 2), ((HV.out.calm (w1 := W) rfl (by exact (⟨hc.os, hc.tape, hc.output, hc.size, hc.block⟩ : Calm H W1 W))).cell 3), ((HV.out.calm (w1 := W) rfl (by exact (⟨hc.os, hc.tape, hc.output, hc.size, hc.block⟩ : Calm H W1 W))).cell 4), ((HV.out.calm (w1 := W) rfl (by exact (⟨hc.os, hc.tape, hc.output, hc.size, hc.block⟩ : Calm H W1 W))).cell 7), ((HV.out.calm (w1 := W) rfl (by exact (⟨hc.os, hc.tape, hc.output, hc.size, hc.block⟩ : Calm H W1 W))).cell 8)⟩)
  clear h hr0 hW1 hx
  go_enter Try.func34, Try.ntmps34
  go_upto_region 1 with fail
  (try rw [hrr])
  rw [← HW.out]
  clear HW hrr
  go_wp2_with fail
  have hS0 := KS.out W1.drew (Calm.refl H _)
  refine wp_region_noPanic ?_
  refine upto_start (fun w' => w'.cell? ⟨r, 0, none⟩ = some (.int .i64 2) ∧ w'.cell? ⟨r, 1, none⟩ = some (.int .i64 tx) ∧ w'.cell? ⟨r, 2, none⟩ = some (.int .i64 prev) ∧ w'.cell? ⟨r, 3, none⟩ = some (.int .i64 next) ∧ w'.cell? ⟨r, 4, none⟩ = some (.string key) ∧ w'.cell? ⟨r, 7, none⟩ = some (.bool nh) ∧ w'.cell? ⟨r, 8, none⟩ = some (.string nd)) 23 (by kernel_rfl) ?_
  change Upto _ _ _ _ _ 24 _ _ _
  refine Upto.take (i := 0) (v := ?_) rfl (by kernel_rfl) (fun _ _ _ h => h) rfl (fun w' hS => ?_) hS0 ?_
  rotate_left
  · (try dsimp only at hS); go_split_ands; go_simp; (try with_reducible rfl)
  simp only [Act.put, List.setIfInBounds_toArray, List.set_cons_zero, List.set_cons_succ]
  refine Upto.take (i := 1) (v := ?_) rfl (by kernel_rfl) (fun _ _ _ h => h) rfl (fun w' hS => ?_) hS0 ?_
  rotate_left
  · (try dsimp only at hS); go_split_ands; go_simp; (try with_reducible rfl)
  simp only [Act.put, List.setIfInBounds_toArray, List.set_cons_zero, List.set_cons_succ]
  refine Upto.take (i := 2) (v := ?_) rfl (by kernel_rfl) (fun _ _ _ h => h) rfl (fun w' hS => ?_) hS0 ?_
  rotate_left
  · (try dsimp only at hS); go_split_ands; go_simp; (try with_reducible rfl)
  simp only [Act.put, List.setIfInBounds_toArray, List.set_cons_zero, List.set_cons_succ]
  refine Upto.take (i := 3) (v := ?_) rfl (by kernel_rfl) (fun _ _ _ h => h) rfl (fun w' hS => ?_) hS0 ?_
  rotate_left
  · (try dsimp only at hS); go_split_ands; go_simp; (try with_reducible rfl)
  simp only [Act.put, List.setIfInBounds_toArray, List.set_cons_zero, List.set_cons_succ]
  refine Upto.take (i := 4) (v := ?_) rfl (by kernel_rfl) (fun _ _ _ h => h) rfl (fun w' hS => ?_) hS0 ?_
  rotate_left
  · (try dsimp only at hS); go_split_ands; go_simp; (try with_reducible rfl)
  simp only [Act.put, List.setIfInBounds_toArray, List.set_cons_zero, List.set_cons_succ]
  refine Upto.take (i := 6) (v := ?_) rfl (by kernel_rfl) (fun _ _ _ h => h) rfl (fun w' hS => ?_) hS0 ?_
  rotate_left
  · (try dsimp only at hS); go_split_ands; go_simp; (try with_reducible rfl)
  simp only [Act.put, List.setIfInBounds_toArray, List.set_cons_zero, List.set_cons_succ]
  refine Upto.take (i := 7) (v := ?_) rfl (by kernel_rfl) (fun _ _ _ h => h) rfl (fun w' hS => ?_) hS0 ?_
  rotate_left
  · (try dsimp only at hS); go_split_ands; go_simp; (try with_reducible rfl)
  simp only [Act.put, List.setIfInBounds_toArray, List.set_cons_zero, List.set_cons_succ]
  refine Upto.take (i := 8) (v := ?_) rfl (by kernel_rfl) (fun _ _ _ h => h) rfl (fun w' hS => ?_) hS0 ?_
  rotate_left
  · (try dsimp only at hS); go_split_ands; go_simp; (try with_reducible rfl)
  simp only [Act.put, List.setIfInBounds_toArray, List.set_cons_zero, List.set_cons_succ]
  refine Upto.take (i := 10) (v := ?_) rfl (by kernel_rfl) (fun _ _ _ h => h) rfl (fun w' hS => ?_) hS0 ?_
  rotate_left
  · (try dsimp only at hS); go_split_ands; go_simp; (try with_reducible rfl)
  simp only [Act.put, List.setIfInBounds_toArray, List.set_cons_zero, List.set_cons_succ]
  refine Upto.take (i := 11) (v := ?_) rfl (by kernel_rfl) (fun _ _ _ h => h) rfl (fun w' hS => ?_) hS0 ?_
  rotate_left
  · (try dsimp only at hS); go_split_ands; go_simp; (try with_reducible rfl)
  simp only [Act.put, List.setIfInBounds_toArray, List.set_cons_zero, List.set_cons_succ]
  refine Upto.take (i := 12) (v := ?_) rfl (by kernel_rfl) (fun _ _ _ h => h) rfl (fun w' hS => ?_) hS0 ?_
  rotate_left
  · (try dsimp only at hS); go_split_ands; go_simp; (try with_reducible rfl)
  simp only [Act.put, List.setIfInBounds_toArray, List.set_cons_zero, List.set_cons_succ]
  refine Upto.take (i := 14) (v := ?_) rfl (by kernel_rfl) (fun _ _ _ h => h) rfl (fun w' hS => ?_) hS0 ?_
  rotate_left
  · (try dsimp only at hS); go_split_ands; go_simp; (try with_reducible rfl)
  simp only [Act.put, List.setIfInBounds_toArray, List.set_cons_zero, List.set_cons_succ]
  refine Upto.take (i := 15) (v := ?_) rfl (by kernel_rfl) (fun _ _ _ h => h) rfl (fun w' hS => ?_) hS0 ?_
  rotate_left
  · (try dsimp only at hS); go_split_ands; go_simp; (try with_reducible rfl)
  simp only [Act.put, List.setIfInBounds_toArray, List.set_cons_zero, List.set_cons_succ]
  refine Upto.take (i := 16) (v := ?_) rfl (by kernel_rfl) (fun _ _ _ h => h) rfl (fun w' hS => ?_) hS0 ?_
  rotate_left
  · (try dsimp only at hS); go_split_ands; go_simp; (try with_reducible rfl)
  simp only [Act.put, List.setIfInBounds_toArray, List.set_cons_zero, List.set_cons_succ]
  refine Upto.take (i := 18) (v := ?_) rfl (by kernel_rfl) (fun _ _ _ h => h) rfl (fun w' hS => ?_) hS0 ?_
  rotate_left
  · (try dsimp only at hS); go_split_ands; go_simp; (try with_reducible rfl)
  simp only [Act.put, List.setIfInBounds_toArray, List.set_cons_zero, List.set_cons_succ]
  refine Upto.take (i := 19) (v := ?_) rfl (by kernel_rfl) (fun _ _ _ h => h) rfl (fun w' hS => ?_) hS0 ?_
  rotate_left
  · (try dsimp only at hS); go_split_ands; go_simp; (try with_reducible rfl)
  simp only [Act.put, List.setIfInBounds_toArray, List.set_cons_zero, List.set_cons_succ]
  refine Upto.take (i := 20) (v := ?_) rfl (by kernel_rfl) (fun _ _ _ h => h) rfl (fun w' hS => ?_) hS0 ?_
  rotate_left
  · (try dsimp only at hS); go_split_ands; go_simp; (try with_reducible rfl)
  simp only [Act.put, List.setIfInBounds_toArray, List.set_cons_zero, List.set_cons_succ]
  have C0 := Lib.hid (Calm.refl H W1.drew)
  have CT1 := Lib.hid (seq_any (H := H) (pb := pb) s wr tx P0.out HX.out.tx (R0.out.mono (by decide)))
  refine Upto.law (i := 5) rfl (by kernel_rfl) rfl (fun K hK => ?_)
  refine wp_enter (f := 52) (args := #[.pointer (some ⟨pb, 0, none⟩), .int .i64 tx]) (by go_simp) CT1.out ?_
  rintro e V1 ⟨_, y1, s1, wr1, rfl, ⟨rfl, hi1⟩, hg1, hp1, hc1⟩
  have hS1 := KS.out V1 (C0.out.trans hc1)
  refine ⟨_, rfl, hK _ _ hS1 ?_⟩
  have C1 := Lib.hid (C0.out.trans hc1)
  have R1 : Hid (s1.room 141) := Lib.hid (hg1.room (c := 141) (R0.out.mono (by decide)))
  have G1 := Lib.hid hg1
  have P1 := Lib.hid hp1
  have D1 := Lib.hid hc1
  have I1 := Lib.hid hi1
  clear hK CT1 hg1 hp1 hc1 hS0 hi1
  have hS0 := hS1
  clear hS1
  simp only [Act.put, List.setIfInBounds_toArray, List.set_cons_zero, List.set_cons_succ]
  have CT2 := Lib.hid (seqOrNone_any (H := H) (pb := pb) s1 wr1 prev P1.out HX.out.prev (R1.out.mono (by decide)))
  refine Upto.law (i := 9) rfl (by kernel_rfl) rfl (fun K hK => ?_)
  refine wp_enter (f := 53) (args := #[.pointer (some ⟨pb, 0, none⟩), .int .i64 prev]) (by go_simp) CT2.out ?_
  rintro e V2 ⟨_, y2, s2, wr2, rfl, ⟨rfl, hi2⟩, hg2, hp2, hc2⟩
  have hS2 := KS.out V2 (C1.out.trans hc2)
  refine ⟨_, rfl, hK _ _ hS2 ?_⟩
  have C2 := Lib.hid (C1.out.trans hc2)
  have R2 : Hid (s2.room 131) := Lib.hid (hg2.room (c := 131) (R1.out.mono (by decide)))
  have G2 := Lib.hid hg2
  have P2 := Lib.hid hp2
  have D2 := Lib.hid hc2
  have I2 := Lib.hid hi2
  clear hK CT2 hg2 hp2 hc2 hS0 hi2
  have hS0 := hS2
  clear hS2
  simp only [Act.put, List.setIfInBounds_toArray, List.set_cons_zero, List.set_cons_succ]
  have CT3 := Lib.hid (seqOrNone_any (H := H) (pb := pb) s2 wr2 next P2.out HX.out.next (R2.out.mono (by decide)))
  refine Upto.law (i := 13) rfl (by kernel_rfl) rfl (fun K hK => ?_)
  refine wp_enter (f := 53) (args := #[.pointer (some ⟨pb, 0, none⟩), .int .i64 next]) (by go_simp) CT3.out ?_
  rintro e V3 ⟨_, y3, s3, wr3, rfl, ⟨rfl, hi3⟩, hg3, hp3, hc3⟩
  have hS3 := KS.out V3 (C2.out.trans hc3)
  refine ⟨_, rfl, hK _ _ hS3 ?_⟩
  have C3 := Lib.hid (C2.out.trans hc3)
  have R3 : Hid (s3.room 121) := Lib.hid (hg3.room (c := 121) (R2.out.mono (by decide)))
  have G3 := Lib.hid hg3
  have P3 := Lib.hid hp3
  have D3 := Lib.hid hc3
  have I3 := Lib.hid hi3
  clear hK CT3 hg3 hp3 hc3 hS0 hi3
  have hS0 := hS3
  clear hS3
  simp only [Act.put, List.setIfInBounds_toArray, List.set_cons_zero, List.set_cons_succ]
  have CT4 := Lib.hid (key_any (H := H) (pb := pb) s3 wr3 key P3.out HX.out.key (R3.out.mono (by decide)))
  refine Upto.law (i := 17) rfl (by kernel_rfl) rfl (fun K hK => ?_)
  refine wp_enter (f := 54) (args := #[.pointer (some ⟨pb, 0, none⟩), .string key]) (by go_simp) CT4.out ?_
  rintro e V4 ⟨_, y4, s4, wr4, rfl, ⟨rfl, hi4⟩, hg4, hp4, hc4⟩
  have hS4 := KS.out V4 (C3.out.trans hc4)
  refine ⟨_, rfl, hK _ _ hS4 ?_⟩
  have C4 := Lib.hid (C3.out.trans hc4)
  have R4 : Hid (s4.room 61) := Lib.hid (hg4.room (c := 61) (R3.out.mono (by decide)))
  have G4 := Lib.hid hg4
  have P4 := Lib.hid hp4
  have D4 := Lib.hid hc4
  have I4 := Lib.hid hi4
  clear hK CT4 hg4 hp4 hc4 hS0 hi4
  have hS0 := hS4
  clear hS4
  simp only [Act.put, List.setIfInBounds_toArray, List.set_cons_zero, List.set_cons_succ]
  have CT5 := Lib.hid (value_any (H := H) (pb := pb) s4 wr4 (⟨nh, nd⟩ : Vl) P4.out HX.out.new (R4.out.mono (by decide)))
  refine Upto.law (i := 21) rfl (by kernel_rfl) rfl (fun K hK => ?_)
  refine wp_enter (f := 55) (args := #[.pointer (some ⟨pb, 0, none⟩), .agg #[.bool nh, .string nd]]) (by go_simp) CT5.out ?_
  rintro e V5 ⟨_, y5, s5, wr5, rfl, ⟨rfl, hi5⟩, hg5, hp5, hc5⟩
  have hS5 := KS.out V5 (C4.out.trans hc5)
  refine ⟨_, rfl, hK _ _ hS5 ?_⟩
  have C5 := Lib.hid (C4.out.trans hc5)
  have R5 : Hid (s5.room 0) := Lib.hid (hg5.room (c := 0) (R4.out.mono (by decide)))
  have G5 := Lib.hid hg5
  have P5 := Lib.hid hp5
  have D5 := Lib.hid hc5
  have I5 := Lib.hid hi5
  clear hK CT5 hg5 hp5 hc5 hS0 hi5
  have hS0 := hS5
  clear hS5
  simp only [Act.put, List.setIfInBounds_toArray, List.set_cons_zero, List.set_cons_succ]
  refine Upto.take (i := 22) (v := ?_) rfl (by kernel_rfl) (fun _ _ _ h => h) rfl (fun w' hS => ?_) hS0 ?_
  rotate_left
  · (try dsimp only at hS); go_split_ands; go_simp; (try with_reducible rfl)
  simp only [Act.put, List.setIfInBounds_toArray, List.set_cons_zero, List.set_cons_succ]
  have hcl : Calm H W1 V5 := by have := C5.out; exact ⟨this.os, this.tape, this.output, this.size, this.block⟩
  have RB := Lib.hid (HRS.out.calm (w1 := V5) rfl hcl)
  have F : Hid (RetV spC (VR H) (⟨2, tx, prev, next, key, ⟨oh, od⟩, ⟨nh, nd⟩, co, mem, lks, rows.map Xw.row, dirty, deeds.map Xd.deed, past⟩ : Rc) H pb s wr w (.returned (.agg #[.int .i64 2, .int .i64 y1, .int .i64 y2, .int .i64 y3, .string y4, .bool false, .string ⟨#[]⟩, .bool y5.has, .string y5.data, .int .i64 0, .slice none 0 0, .slice none 0 0, .slice none 0 0, .slice none 0 0, .slice none 0 0, .slice none 0 0])) (V5.setRow (r + 1) #[.int .i64 2, .int .i64 y1, .int .i64 y2, .int .i64 y3, .string y4, .bool false, .string ⟨#[]⟩, .bool y5.has, .string y5.data, .int .i64 0, .slice none 0 0, .slice none 0 0, .slice none 0 0, .slice none 0 0, .slice none 0 0, .slice none 0 0])) := Lib.hid (by
    have hcw : Calm H w V5 := (Calm.of_below HB.out).trans hcl
    obtain ⟨a, b⟩ := P5.out.row RB.out rfl (by have := HRR.out; omega) hcw #[.int .i64 2, .int .i64 y1, .int .i64 y2, .int .i64 y3, .string y4, .bool false, .string ⟨#[]⟩, .bool y5.has, .string y5.data, .int .i64 0, .slice none 0 0, .slice none 0 0, .slice none 0 0, .slice none 0 0, .slice none 0 0, .slice none 0 0]
    have hin : XrIn H V5 (⟨2, y1, y2, y3, y4, ⟨false, ⟨#[]⟩⟩, ⟨y5.has, y5.data⟩, 0, none, 0, 0, [], none, 0, 0, [], none, 0, 0, [], none, 0, 0, [], none, 0, 0, [], none, 0, 0, []⟩ : Xr) := ⟨(i64_of _ rfl), I1.out, I2.out, I3.out, I4.out, (Nat.zero_le _), I5.out, (i64_of _ rfl), (Sl.nil elI H _), (Sl.nil elL H _), (Sl.nil elR H _), (Sl.nil elD H _), (Sl.nil elE H _), (Sl.nil elI H _)⟩
    refine ⟨_, mkC ((((y1, y2), y3), y4), y5), s5, wr5, rfl, ⟨(⟨2, y1, y2, y3, y4, ⟨false, ⟨#[]⟩⟩, ⟨y5.has, y5.data⟩, 0, none, 0, 0, [], none, 0, 0, [], none, 0, 0, [], none, 0, 0, [], none, 0, 0, [], none, 0, 0, []⟩ : Xr), rfl, hin.other RB.out (by have := HRR.out; have := HLOW.out; omega) (grown_setRow _ _ _), rfl⟩, ?_, a, b⟩
    exact Goes.map (x := (⟨2, tx, prev, next, key, ⟨oh, od⟩, ⟨nh, nd⟩, co, mem, lks, rows.map Xw.row, dirty, deeds.map Xd.deed, past⟩ : Rc)) (y := ((((y1, y2), y3), y4), y5)) (f := mkC) (g := uC) (fun _ => rfl) ((((G1.out.pair G2.out).pair G3.out).pair G4.out).pair G5.out))
  clear hcl
  have RF := Lib.hid (RB.out.rowp #[.int .i64 2, .int .i64 y1, .int .i64 y2, .int .i64 y3, .string y4, .bool false, .string ⟨#[]⟩, .bool y5.has, .string y5.data, .int .i64 0, .slice none 0 0, .slice none 0 0, .slice none 0 0, .slice none 0 0, .slice none 0 0, .slice none 0 0])
  refine Upto.tail rfl (by kernel_rfl) ?_
  simp only [List.drop_succ_cons, List.drop_zero]
  go_wp2_with (refine wpList_store_row rfl 30 _ _ rfl (r + 1) #[.int .i64 2, .int .i64 y1, .int .i64 y2, .int .i64 y3, .string y4, .bool false, .string ⟨#[]⟩, .bool y5.has, .string y5.data, .int .i64 0, .slice none 0 0, .slice none 0 0, .slice none 0 0, .slice none 0 0, .slice none 0 0, .slice none 0 0] rfl rfl 30 _ RB.out inf_rec rfl (rec_one _ (by simp [Value.oneCell'])) ?_; simp only [Act.put])
  refine NoPanic.normal ?_
  (try simp only [Exit.inBlock, Exit.then])
  go_wp2_with fail
  (try simp only [Exit.inBlock, Exit.then])
  refine bodyPost_ret (results_cell_row rfl _ _ (r + 1) 30 _ (0, 0) _ rfl RF.out Try.underlying30 rfl inf_rec) rfl ?_
  exact F.out
end
end Go.Proofs.Ytfldcddbmikfiaa

/- what rec passes on of a record of kind 3. -/
namespace Go.Proofs.Ytfldcddbmikfiaa
open Go.RowKit
section
variable {H pb : Nat} {w : World}
set_option maxRecDepth 100000 in
set_option maxHeartbeats 8000000 in
theorem fieldsP_any [Inhabited Prop] (s : Ps) (wr : Bool) (x : Xr) (h : Pst H w pb s wr) (hx : XrIn H w x) (hk : x.kind = 3) (hr : s.room spP.cost) :
    Calls Try.prog 34 #[.pointer (some ⟨pb, 0, none⟩), x.val] w (RetV spP (VR H) x.read H pb s wr w) := by
  obtain ⟨kind, tx, prev, next, key, ⟨oh, od⟩, ⟨nh, nd⟩, co, mA, mn, mc, mem, kA, kn, kc, lks, rA, rn, rc, rows, dA, dn, dc, dirty, eA, en, ec, deeds, pA, pn, pc, past⟩ := x
  simp only at hk
  subst hk
  unfold Xr.val Xr.read
  simp only
  have hr0 : s.room 18226 := hr.mono (by decide)
  clear hr
  obtain ⟨r, hrr⟩ : ∃ r, w.heap.size = r := ⟨_, rfl⟩
  obtain ⟨W1, hW1⟩ : ∃ W1, W1 = (w.alloc (.cells #[.int .i64 3, .int .i64 tx, .int .i64 prev, .int .i64 next, .string key, .bool oh, .string od, .bool nh, .string nd, .int .i64 co, .slice mA mn mc, .slice kA kn kc, .slice rA rn rc, .slice dA dn dc, .slice eA en ec, .slice pA pn pc] 30)).alloc (.cells #[.int .i64 0, .int .i64 0, .int .i64 0, .int .i64 0, .string ⟨#[]⟩, .bool false, .string ⟨#[]⟩, .bool false, .string ⟨#[]⟩, .int .i64 0, .slice none 0 0, .slice none 0 0, .slice none 0 0, .slice none 0 0, .slice none 0 0, .slice none 0 0] 30) := ⟨_, rfl⟩
  have HB : Hid (Below w.heap.size w W1) := Lib.hid (by rw [hW1]; exact ((Below.refl _ _).alloc (Nat.le_refl _) _).alloc (by simp) _)
  have HV : Hid (Bk W1 r 30 #[.int .i64 3, .int .i64 tx, .int .i64 prev, .int .i64 next, .string key, .bool oh, .string od, .bool nh, .string nd, .int .i64 co, .slice mA mn mc, .slice kA kn kc, .slice rA rn rc, .slice dA dn dc, .slice eA en ec, .slice pA pn pc]) := Lib.hid (by rw [hW1, ← hrr]; exact (Bk.new w _ _).bel ((Below.refl _ _).alloc (Nat.le_refl _) _) (by simp))
  have HRS : Hid (Bk W1 (r + 1) 30 #[.int .i64 0, .int .i64 0, .int .i64 0, .int .i64 0, .string ⟨#[]⟩, .bool false, .string ⟨#[]⟩, .bool false, .string ⟨#[]⟩, .int .i64 0, .slice none 0 0, .slice none 0 0, .slice none 0 0, .slice none 0 0, .slice none 0 0, .slice none 0 0]) := Lib.hid (by
    rw [hW1, ← hrr]
    have := Bk.new (w.alloc (.cells #[.int .i64 3, .int .i64 tx, .int .i64 prev, .int .i64 next, .string key, .bool oh, .string od, .bool nh, .string nd, .int .i64 co, .slice mA mn mc, .slice kA kn kc, .slice rA rn rc, .slice dA dn dc, .slice eA en ec, .slice pA pn pc] 30)) 30 #[.int .i64 0, .int .i64 0, .int .i64 0, .int .i64 0, .string ⟨#[]⟩, .bool false, .string ⟨#[]⟩, .bool false, .string ⟨#[]⟩, .int .i64 0, .slice none 0 0, .slice none 0 0, .slice none 0 0, .slice none 0 0, .slice none 0 0, .slice none 0 0]
    rw [World.size_alloc] at this
    exact this)
  have HLOW := Lib.hid h.low
  have HRR := Lib.hid hrr
  have HW := Lib.hid hW1
  have P0 : Hid (Pst H W1.drew pb s wr) := Lib.hid ((h.keeps (Keeps.of_below HB.out)).keeps ⟨Nat.le_refl _, fun _ _ => rfl⟩)
  have HX := Lib.hid (hx.calm (w' := W1.drew) (by have := Calm.of_below (H := H) HB.out; exact ⟨this.os, this.tape, this.output, this.size, this.block⟩))
  have R0 := Lib.hid hr0
  have k0 : W1.cell? ⟨r, 0, none⟩ = some (.int .i64 3) := HV.out.cell 0
  have KS : Hid (∀ W, Calm H W1.drew W → W.cell? ⟨r, 0, none⟩ = some (.int .i64 3) ∧ W.cell? ⟨r, 1, none⟩ = some (.int .i64 tx) ∧ W.cell? ⟨r, 2, none⟩ = some (.int .i64 prev) ∧ W.cell? ⟨r, 9, none⟩ = some (.int .i64 co) ∧ W.cell? ⟨r, 10, none⟩ = some (.slice mA mn mc) ∧ W.cell? ⟨r, 11, none⟩ = some (.slice kA kn kc)) := Lib.hid (fun W hc => ⟨((HV.out.calm (w1 := W) rfl (by exact (⟨hc.os, hc.tape, hc.output, hc.size, hc.block⟩ : Calm H W1 W))).cell 0), ((HV.out.calm (w1 := W) rfl (by exact (⟨hc.os, hc.tape, hc.output, hc.size, hc.block⟩ : Calm H W1 W))).cell 1), ((HV.out.calm (w1 := W) rfl (by exact (⟨hc.os, hc.tape, hc.output, hc.size, hc.block⟩ : Calm H W1 W))).cell 2), ((HV.out.calm (w1 := W) rfl (by exact (⟨hc.os, hc.tape, hc.output, hc.size, hc.block⟩ : Calm H W1 W))).cell 9), ((HV.out.calm (w1 := W) rfl (by exact (⟨hc.os, hc.tape, hc.output, hc.size, hc.block⟩ : Calm H W1 W))).cell 10), ((HV.out.calm (w1 := W) rfl (by exact (⟨hc.os, hc.tape, hc.output, hc.size, hc.block⟩ : Calm H W1 W))).cell 11)⟩)
  clear h hr0 hW1 hx
  go_enter Try.func34, Try.ntmps34
  go_upto_region 1 with fail
  (try rw [hrr])
  rw [← HW.out]
  clear HW hrr
  go_wp2_with fail
  have hS0 := KS.out W1.drew (Calm.refl H _)
  refine wp_region_noPanic ?_
  refine upto_start (fun w' => w'.cell? ⟨r, 0, none⟩ = some (.int .i64 3) ∧ w'.cell? ⟨r, 1, none⟩ = some (.int .i64 tx) ∧ w'.cell? ⟨r, 2, none⟩ = some (.int .i64 prev) ∧ w'.cell? ⟨r, 9, none⟩ = some (.int .i64 co) ∧ w'.cell? ⟨r, 10, none⟩ = some (.slice mA mn mc) ∧ w'.cell? ⟨r, 11, none⟩ = some (.slice kA kn kc)) 23 (by kernel_rfl) ?_
  change Upto _ _ _ _ _ 24 _ _ _
  refine Upto.take (i := 0) (v := ?_) rfl (by kernel_rfl) (fun _ _ _ h => h) rfl (fun w' hS => ?_) hS0 ?_
  rotate_left
  · (try dsimp only at hS); go_split_ands; go_simp; (try with_reducible rfl)
  simp only [Act.put, List.setIfInBounds_toArray, List.set_cons_zero, List.set_cons_succ]
  refine Upto.take (i := 1) (v := ?_) rfl (by kernel_rfl) (fun _ _ _ h => h) rfl (fun w' hS => ?_) hS0 ?_
  rotate_left
  · (try dsimp only at hS); go_split_ands; go_simp; (try with_reducible rfl)
  simp only [Act.put, List.setIfInBounds_toArray, List.set_cons_zero, List.set_cons_succ]
  refine Upto.take (i := 2) (v := ?_) rfl (by kernel_rfl) (fun _ _ _ h => h) rfl (fun w' hS => ?_) hS0 ?_
  rotate_left
  · (try dsimp only at hS); go_split_ands; go_simp; (try with_reducible rfl)
  simp only [Act.put, List.setIfInBounds_toArray, List.set_cons_zero, List.set_cons_succ]
  refine Upto.take (i := 3) (v := ?_) rfl (by kernel_rfl) (fun _ _ _ h => h) rfl (fun w' hS => ?_) hS0 ?_
  rotate_left
  · (try dsimp only at hS); go_split_ands; go_simp; (try with_reducible rfl)
  simp only [Act.put, List.setIfInBounds_toArray, List.set_cons_zero, List.set_cons_succ]
  refine Upto.take (i := 4) (v := ?_) rfl (by kernel_rfl) (fun _ _ _ h => h) rfl (fun w' hS => ?_) hS0 ?_
  rotate_left
  · (try dsimp only at hS); go_split_ands; go_simp; (try with_reducible rfl)
  simp only [Act.put, List.setIfInBounds_toArray, List.set_cons_zero, List.set_cons_succ]
  refine Upto.take (i := 6) (v := ?_) rfl (by kernel_rfl) (fun _ _ _ h => h) rfl (fun w' hS => ?_) hS0 ?_
  rotate_left
  · (try dsimp only at hS); go_split_ands; go_simp; (try with_reducible rfl)
  simp only [Act.put, List.setIfInBounds_toArray, List.set_cons_zero, List.set_cons_succ]
  refine Upto.take (i := 7) (v := ?_) rfl (by kernel_rfl) (fun _ _ _ h => h) rfl (fun w' hS => ?_) hS0 ?_
  rotate_left
  · (try dsimp only at hS); go_split_ands; go_simp; (try with_reducible rfl)
  simp only [Act.put, List.setIfInBounds_toArray, List.set_cons_zero, List.set_cons_succ]
  refine Upto.take (i := 8) (v := ?_) rfl (by kernel_rfl) (fun _ _ _ h => h) rfl (fun w' hS => ?_) hS0 ?_
  rotate_left
  · (try dsimp only at hS); go_split_ands; go_simp; (try with_reducible rfl)
  simp only [Act.put, List.setIfInBounds_toArray, List.set_cons_zero, List.set_cons_succ]
  refine Upto.take (i := 10) (v := ?_) rfl (by kernel_rfl) (fun _ _ _ h => h) rfl (fun w' hS => ?_) hS0 ?_
  rotate_left
  · (try dsimp only at hS); go_split_ands; go_simp; (try with_reducible rfl)
  simp only [Act.put, List.setIfInBounds_toArray, List.set_cons_zero, List.set_cons_succ]
  refine Upto.take (i := 11) (v := ?_) rfl (by kernel_rfl) (fun _ _ _ h => h) rfl (fun w' hS => ?_) hS0 ?_
  rotate_left
  · (try dsimp only at hS); go_split_ands; go_simp; (try with_reducible rfl)
  simp only [Act.put, List.setIfInBounds_toArray, List.set_cons_zero, List.set_cons_succ]
  refine Upto.take (i := 12) (v := ?_) rfl (by kernel_rfl) (fun _ _ _ h => h) rfl (fun w' hS => ?_) hS0 ?_
  rotate_left
  · (try dsimp only at hS); go_split_ands; go_simp; (try with_reducible rfl)
  simp only [Act.put, List.setIfInBounds_toArray, List.set_cons_zero, List.set_cons_succ]
  refine Upto.take (i := 14) (v := ?_) rfl (by kernel_rfl) (fun _ _ _ h => h) rfl (fun w' hS => ?_) hS0 ?_
  rotate_left
  · (try dsimp only at hS); go_split_ands; go_simp; (try with_reducible rfl)
  simp only [Act.put, List.setIfInBounds_toArray, List.set_cons_zero, List.set_cons_succ]
  refine Upto.take (i := 15) (v := ?_) rfl (by kernel_rfl) (fun _ _ _ h => h) rfl (fun w' hS => ?_) hS0 ?_
  rotate_left
  · (try dsimp only at hS); go_split_ands; go_simp; (try with_reducible rfl)
  simp only [Act.put, List.setIfInBounds_toArray, List.set_cons_zero, List.set_cons_succ]
  refine Upto.take (i := 16) (v := ?_) rfl (by kernel_rfl) (fun _ _ _ h => h) rfl (fun w' hS => ?_) hS0 ?_
  rotate_left
  · (try dsimp only at hS); go_split_ands; go_simp; (try with_reducible rfl)
  simp only [Act.put, List.setIfInBounds_toArray, List.set_cons_zero, List.set_cons_succ]
  refine Upto.take (i := 18) (v := ?_) rfl (by kernel_rfl) (fun _ _ _ h => h) rfl (fun w' hS => ?_) hS0 ?_
  rotate_left
  · (try dsimp only at hS); go_split_ands; go_simp; (try with_reducible rfl)
  simp only [Act.put, List.setIfInBounds_toArray, List.set_cons_zero, List.set_cons_succ]
  refine Upto.take (i := 19) (v := ?_) rfl (by kernel_rfl) (fun _ _ _ h => h) rfl (fun w' hS => ?_) hS0 ?_
  rotate_left
  · (try dsimp only at hS); go_split_ands; go_simp; (try with_reducible rfl)
  simp only [Act.put, List.setIfInBounds_toArray, List.set_cons_zero, List.set_cons_succ]
  refine Upto.take (i := 20) (v := ?_) rfl (by kernel_rfl) (fun _ _ _ h => h) rfl (fun w' hS => ?_) hS0 ?_
  rotate_left
  · (try dsimp only at hS); go_split_ands; go_simp; (try with_reducible rfl)
  simp only [Act.put, List.setIfInBounds_toArray, List.set_cons_zero, List.set_cons_succ]
  have C0 := Lib.hid (Calm.refl H W1.drew)
  have CT1 := Lib.hid (seq_any (H := H) (pb := pb) s wr tx P0.out HX.out.tx (R0.out.mono (by decide)))
  refine Upto.law (i := 5) rfl (by kernel_rfl) rfl (fun K hK => ?_)
  refine wp_enter (f := 52) (args := #[.pointer (some ⟨pb, 0, none⟩), .int .i64 tx]) (by go_simp) CT1.out ?_
  rintro e V1 ⟨_, y1, s1, wr1, rfl, ⟨rfl, hi1⟩, hg1, hp1, hc1⟩
  have hS1 := KS.out V1 (C0.out.trans hc1)
  refine ⟨_, rfl, hK _ _ hS1 ?_⟩
  have C1 := Lib.hid (C0.out.trans hc1)
  have R1 : Hid (s1.room 18216) := Lib.hid (hg1.room (c := 18216) (R0.out.mono (by decide)))
  have G1 := Lib.hid hg1
  have P1 := Lib.hid hp1
  have D1 := Lib.hid hc1
  have I1 := Lib.hid hi1
  clear hK CT1 hg1 hp1 hc1 hS0 hi1
  have hS0 := hS1
  clear hS1
  simp only [Act.put, List.setIfInBounds_toArray, List.set_cons_zero, List.set_cons_succ]
  have CT2 := Lib.hid (seqOrNone_any (H := H) (pb := pb) s1 wr1 prev P1.out HX.out.prev (R1.out.mono (by decide)))
  refine Upto.law (i := 9) rfl (by kernel_rfl) rfl (fun K hK => ?_)
  refine wp_enter (f := 53) (args := #[.pointer (some ⟨pb, 0, none⟩), .int .i64 prev]) (by go_simp) CT2.out ?_
  rintro e V2 ⟨_, y2, s2, wr2, rfl, ⟨rfl, hi2⟩, hg2, hp2, hc2⟩
  have hS2 := KS.out V2 (C1.out.trans hc2)
  refine ⟨_, rfl, hK _ _ hS2 ?_⟩
  have C2 := Lib.hid (C1.out.trans hc2)
  have R2 : Hid (s2.room 18206) := Lib.hid (hg2.room (c := 18206) (R1.out.mono (by decide)))
  have G2 := Lib.hid hg2
  have P2 := Lib.hid hp2
  have D2 := Lib.hid hc2
  have I2 := Lib.hid hi2
  clear hK CT2 hg2 hp2 hc2 hS0 hi2
  have hS0 := hS2
  clear hS2
  simp only [Act.put, List.setIfInBounds_toArray, List.set_cons_zero, List.set_cons_succ]
  have CT3 := Lib.hid (node_any (H := H) (pb := pb) s2 wr2 co P2.out HX.out.co (R2.out.mono (by decide)))
  refine Upto.law (i := 13) rfl (by kernel_rfl) rfl (fun K hK => ?_)
  refine wp_enter (f := 56) (args := #[.pointer (some ⟨pb, 0, none⟩), .int .i64 co]) (by go_simp) CT3.out ?_
  rintro e V3 ⟨_, y3, s3, wr3, rfl, ⟨rfl, hi3⟩, hg3, hp3, hc3⟩
  have hS3 := KS.out V3 (C2.out.trans hc3)
  refine ⟨_, rfl, hK _ _ hS3 ?_⟩
  have C3 := Lib.hid (C2.out.trans hc3)
  have R3 : Hid (s3.room 18196) := Lib.hid (hg3.room (c := 18196) (R2.out.mono (by decide)))
  have G3 := Lib.hid hg3
  have P3 := Lib.hid hp3
  have D3 := Lib.hid hc3
  have I3 := Lib.hid hi3
  clear hK CT3 hg3 hp3 hc3 hS0 hi3
  have hS0 := hS3
  clear hS3
  simp only [Act.put, List.setIfInBounds_toArray, List.set_cons_zero, List.set_cons_succ]
  have CT4 := Lib.hid (members_any (H := H) (pb := pb) s3 wr3 mA mn mc mem P3.out (HX.out.mem.calm C3.out) (R3.out.mono (by decide)))
  refine Upto.law (i := 17) rfl (by kernel_rfl) rfl (fun K hK => ?_)
  refine wp_enter (f := 57) (args := #[.pointer (some ⟨pb, 0, none⟩), .slice mA mn mc]) (by go_simp) CT4.out ?_
  rintro e V4 ⟨_, y4, s4, wr4, rfl, ⟨A4, n4, c4, l4, rfl, hi4, rfl⟩, hg4, hp4, hc4⟩
  have hS4 := KS.out V4 (C3.out.trans hc4)
  refine ⟨_, rfl, hK _ _ hS4 ?_⟩
  have C4 := Lib.hid (C3.out.trans hc4)
  have R4 : Hid (s4.room 15626) := Lib.hid (hg4.room (c := 15626) (R3.out.mono (by decide)))
  have G4 := Lib.hid hg4
  have P4 := Lib.hid hp4
  have D4 := Lib.hid hc4
  have I4 := Lib.hid hi4
  clear hK CT4 hg4 hp4 hc4 hS0 hi4
  have hS0 := hS4
  clear hS4
  simp only [Act.put, List.setIfInBounds_toArray, List.set_cons_zero, List.set_cons_succ]
  have CT5 := Lib.hid (locks_any (H := H) (pb := pb) s4 wr4 kA kn kc lks P4.out (HX.out.lks.calm C4.out) (R4.out.mono (by decide)))
  refine Upto.law (i := 21) rfl (by kernel_rfl) rfl (fun K hK => ?_)
  refine wp_enter (f := 58) (args := #[.pointer (some ⟨pb, 0, none⟩), .slice kA kn kc]) (by go_simp) CT5.out ?_
  rintro e V5 ⟨_, y5, s5, wr5, rfl, ⟨A5, n5, c5, l5, rfl, hi5, rfl⟩, hg5, hp5, hc5⟩
  have hS5 := KS.out V5 (C4.out.trans hc5)
  refine ⟨_, rfl, hK _ _ hS5 ?_⟩
  have C5 := Lib.hid (C4.out.trans hc5)
  have R5 : Hid (s5.room 0) := Lib.hid (hg5.room (c := 0) (R4.out.mono (by decide)))
  have G5 := Lib.hid hg5
  have P5 := Lib.hid hp5
  have D5 := Lib.hid hc5
  have I5 := Lib.hid hi5
  clear hK CT5 hg5 hp5 hc5 hS0 hi5
  have hS0 := hS5
  clear hS5
  simp only [Act.put, List.setIfInBounds_toArray, List.set_cons_zero, List.set_cons_succ]
  refine Upto.take (i := 22) (v := ?_) rfl (by kernel_rfl) (fun _ _ _ h => h) rfl (fun w' hS => ?_) hS0 ?_
  rotate_left
  · (try dsimp only at hS); go_split_ands; go_simp; (try with_reducible rfl)
  simp only [Act.put, List.setIfInBounds_toArray, List.set_cons_zero, List.set_cons_succ]
  have hcl : Calm H W1 V5 := by have := C5.out; exact ⟨this.os, this.tape, this.output, this.size, this.block⟩
  have RB := Lib.hid (HRS.out.calm (w1 := V5) rfl hcl)
  have F : Hid (RetV spP (VR H) (⟨3, tx, prev, next, key, ⟨oh, od⟩, ⟨nh, nd⟩, co, mem, lks, rows.map Xw.row, dirty, deeds.map Xd.deed, past⟩ : Rc) H pb s wr w (.returned (.agg #[.int .i64 3, .int .i64 y1, .int .i64 y2, .int .i64 0, .string ⟨#[]⟩, .bool false, .string ⟨#[]⟩, .bool false, .string ⟨#[]⟩, .int .i64 y3, .slice A4 n4 c4, .slice A5 n5 c5, .slice none 0 0, .slice none 0 0, .slice none 0 0, .slice none 0 0])) (V5.setRow (r + 1) #[.int .i64 3, .int .i64 y1, .int .i64 y2, .int .i64 0, .string ⟨#[]⟩, .bool false, .string ⟨#[]⟩, .bool false, .string ⟨#[]⟩, .int .i64 y3, .slice A4 n4 c4, .slice A5 n5 c5, .slice none 0 0, .slice none 0 0, .slice none 0 0, .slice none 0 0])) := Lib.hid (by
    have hcw : Calm H w V5 := (Calm.of_below HB.out).trans hcl
    obtain ⟨a, b⟩ := P5.out.row RB.out rfl (by have := HRR.out; omega) hcw #[.int .i64 3, .int .i64 y1, .int .i64 y2, .int .i64 0, .string ⟨#[]⟩, .bool false, .string ⟨#[]⟩, .bool false, .string ⟨#[]⟩, .int .i64 y3, .slice A4 n4 c4, .slice A5 n5 c5, .slice none 0 0, .slice none 0 0, .slice none 0 0, .slice none 0 0]
    have hin : XrIn H V5 (⟨3, y1, y2, 0, ⟨#[]⟩, ⟨false, ⟨#[]⟩⟩, ⟨false, ⟨#[]⟩⟩, y3, A4, n4, c4, l4, A5, n5, c5, l5, none, 0, 0, [], none, 0, 0, [], none, 0, 0, [], none, 0, 0, []⟩ : Xr) := ⟨(i64_of _ rfl), I1.out, I2.out, (i64_of _ rfl), (Nat.zero_le _), (Nat.zero_le _), (Nat.zero_le _), I3.out, (I4.out.calm D5.out), I5.out, (Sl.nil elR H _), (Sl.nil elD H _), (Sl.nil elE H _), (Sl.nil elI H _)⟩
    refine ⟨_, mkP ((((y1, y2), y3), l4), l5), s5, wr5, rfl, ⟨(⟨3, y1, y2, 0, ⟨#[]⟩, ⟨false, ⟨#[]⟩⟩, ⟨false, ⟨#[]⟩⟩, y3, A4, n4, c4, l4, A5, n5, c5, l5, none, 0, 0, [], none, 0, 0, [], none, 0, 0, [], none, 0, 0, []⟩ : Xr), rfl, hin.other RB.out (by have := HRR.out; have := HLOW.out; omega) (grown_setRow _ _ _), rfl⟩, ?_, a, b⟩
    exact Goes.map (x := (⟨3, tx, prev, next, key, ⟨oh, od⟩, ⟨nh, nd⟩, co, mem, lks, rows.map Xw.row, dirty, deeds.map Xd.deed, past⟩ : Rc)) (y := ((((y1, y2), y3), l4), l5)) (f := mkP) (g := uP) (fun _ => rfl) ((((G1.out.pair G2.out).pair G3.out).pair G4.out.ids).pair G5.out.ids))
  clear hcl
  have RF := Lib.hid (RB.out.rowp #[.int .i64 3, .int .i64 y1, .int .i64 y2, .int .i64 0, .string ⟨#[]⟩, .bool false, .string ⟨#[]⟩, .bool false, .string ⟨#[]⟩, .int .i64 y3, .slice A4 n4 c4, .slice A5 n5 c5, .slice none 0 0, .slice none 0 0, .slice none 0 0, .slice none 0 0])
  refine Upto.tail rfl (by kernel_rfl) ?_
  simp only [List.drop_succ_cons, List.drop_zero]
  go_wp2_with (refine wpList_store_row rfl 30 _ _ rfl (r + 1) #[.int .i64 3, .int .i64 y1, .int .i64 y2, .int .i64 0, .string ⟨#[]⟩, .bool false, .string ⟨#[]⟩, .bool false, .string ⟨#[]⟩, .int .i64 y3, .slice A4 n4 c4, .slice A5 n5 c5, .slice none 0 0, .slice none 0 0, .slice none 0 0, .slice none 0 0] rfl rfl 30 _ RB.out inf_rec rfl (rec_one _ (by simp [Value.oneCell'])) ?_; simp only [Act.put])
  refine NoPanic.normal ?_
  (try simp only [Exit.inBlock, Exit.then])
  go_wp2_with fail
  (try simp only [Exit.inBlock, Exit.then])
  refine bodyPost_ret (results_cell_row rfl _ _ (r + 1) 30 _ (0, 0) _ rfl RF.out Try.underlying30 rfl inf_rec) rfl ?_
  exact F.out
end
end Go.Proofs.Ytfldcddbmikfiaa

/- what rec passes on of a record of kind 4. -/
namespace Go.Proofs.Ytfldcddbmikfiaa
open Go.RowKit
section
variable {H pb : Nat} {w : World}
set_option maxRecDepth 100000 in
set_option maxHeartbeats 8000000 in
theorem fieldsE4_any [Inhabited Prop] (s : Ps) (wr : Bool) (x : Xr) (h : Pst H w pb s wr) (hx : XrIn H w x) (hk : x.kind = 4) (hr : s.room (spE 4).cost) :
    Calls Try.prog 34 #[.pointer (some ⟨pb, 0, none⟩), x.val] w (RetV (spE 4) (VR H) x.read H pb s wr w) := by
  obtain ⟨kind, tx, prev, next, key, ⟨oh, od⟩, ⟨nh, nd⟩, co, mA, mn, mc, mem, kA, kn, kc, lks, rA, rn, rc, rows, dA, dn, dc, dirty, eA, en, ec, deeds, pA, pn, pc, past⟩ := x
  simp only at hk
  subst hk
  unfold Xr.val Xr.read
  simp only
  have hr0 : s.room 20 := hr.mono (by decide)
  clear hr
  obtain ⟨r, hrr⟩ : ∃ r, w.heap.size = r := ⟨_, rfl⟩
  obtain ⟨W1, hW1⟩ : ∃ W1, W1 = (w.alloc (.cells #[.int .i64 4, .int .i64 tx, .int .i64 prev, .int .i64 next, .string key, .bool oh, .string od, .bool nh, .string nd, .int .i64 co, .slice mA mn mc, .slice kA kn kc, .slice rA rn rc, .slice dA dn dc, .slice eA en ec, .slice pA pn pc] 30)).alloc (.cells #[.int .i64 0, .int .i64 0, .int .i64 0, .int .i64 0, .string ⟨#[]⟩, .bool false, .string ⟨#[]⟩, .bool false, .string ⟨#[]⟩, .int .i64 0, .slice none 0 0, .slice none 0 0, .slice none 0 0, .slice none 0 0, .slice none 0 0, .slice none 0 0] 30) := ⟨_, rfl⟩
  have HB : Hid (Below w.heap.size w W1) := Lib.hid (by rw [hW1]; exact ((Below.refl _ _).alloc (Nat.le_refl _) _).alloc (by simp) _)
  have HV : Hid (Bk W1 r 30 #[.int .i64 4, .int .i64 tx, .int .i64 prev, .int .i64 next, .string key, .bool oh, .string od, .bool nh, .string nd, .int .i64 co, .slice mA mn mc, .slice kA kn kc, .slice rA rn rc, .slice dA dn dc, .slice eA en ec, .slice pA pn pc]) := Lib.hid (by rw [hW1, ← hrr]; exact (Bk.new w _ _).bel ((Below.refl _ _).alloc (Nat.le_refl _) _) (by simp))
  have HRS : Hid (Bk W1 (r + 1) 30 #[.int .i64 0, .int .i64 0, .int .i64 0, .int .i64 0, .string ⟨#[]⟩, .bool false, .string ⟨#[]⟩, .bool false, .string ⟨#[]⟩, .int .i64 0, .slice none 0 0, .slice none 0 0, .slice none 0 0, .slice none 0 0, .slice none 0 0, .slice none 0 0]) := Lib.hid (by
    rw [hW1, ← hrr]
    have := Bk.new (w.alloc (.cells #[.int .i64 4, .int .i64 tx, .int .i64 prev, .int .i64 next, .string key, .bool oh, .string od, .bool nh, .string nd, .int .i64 co, .slice mA mn mc, .slice kA kn kc, .slice rA rn rc, .slice dA dn dc, .slice eA en ec, .slice pA pn pc] 30)) 30 #[.int .i64 0, .int .i64 0, .int .i64 0, .int .i64 0, .string ⟨#[]⟩, .bool false, .string ⟨#[]⟩, .bool false, .string ⟨#[]⟩, .int .i64 0, .slice none 0 0, .slice none 0 0, .slice none 0 0, .slice none 0 0, .slice none 0 0, .slice none 0 0]
    rw [World.size_alloc] at this
    exact this)
  have HLOW := Lib.hid h.low
  have HRR := Lib.hid hrr
  have HW := Lib.hid hW1
  have P0 : Hid (Pst H W1.drew pb s wr) := Lib.hid ((h.keeps (Keeps.of_below HB.out)).keeps ⟨Nat.le_refl _, fun _ _ => rfl⟩)
  have HX := Lib.hid (hx.calm (w' := W1.drew) (by have := Calm.of_below (H := H) HB.out; exact ⟨this.os, this.tape, this.output, this.size, this.block⟩))
  have R0 := Lib.hid hr0
  have k0 : W1.cell? ⟨r, 0, none⟩ = some (.int .i64 4) := HV.out.cell 0
  have KS : Hid (∀ W, Calm H W1.drew W → W.cell? ⟨r, 0, none⟩ = some (.int .i64 4) ∧ W.cell? ⟨r, 1, none⟩ = some (.int .i64 tx) ∧ W.cell? ⟨r, 2, none⟩ = some (.int .i64 prev)) := Lib.hid (fun W hc => ⟨((HV.out.calm (w1 := W) rfl (by exact (⟨hc.os, hc.tape, hc.output, hc.size, hc.block⟩ : Calm H W1 W))).cell 0), ((HV.out.calm (w1 := W) rfl (by exact (⟨hc.os, hc.tape, hc.output, hc.size, hc.block⟩ : Calm H W1 W))).cell 1), ((HV.out.calm (w1 := W) rfl (by exact (⟨hc.os, hc.tape, hc.output, hc.size, hc.block⟩ : Calm H W1 W))).cell 2)⟩)
  clear h hr0 hW1 hx
  go_enter Try.func34, Try.ntmps34
  go_upto_region 1 with fail
  (try rw [hrr])
  rw [← HW.out]
  clear HW hrr
  go_wp2_with fail
  have hS0 := KS.out W1.drew (Calm.refl H _)
  refine wp_region_noPanic ?_
  refine upto_start (fun w' => w'.cell? ⟨r, 0, none⟩ = some (.int .i64 4) ∧ w'.cell? ⟨r, 1, none⟩ = some (.int .i64 tx) ∧ w'.cell? ⟨r, 2, none⟩ = some (.int .i64 prev)) 11 (by kernel_rfl) ?_
  change Upto _ _ _ _ _ 12 _ _ _
  refine Upto.take (i := 0) (v := ?_) rfl (by kernel_rfl) (fun _ _ _ h => h) rfl (fun w' hS => ?_) hS0 ?_
  rotate_left
  · (try dsimp only at hS); go_split_ands; go_simp; (try with_reducible rfl)
  simp only [Act.put, List.setIfInBounds_toArray, List.set_cons_zero, List.set_cons_succ]
  refine Upto.take (i := 1) (v := ?_) rfl (by kernel_rfl) (fun _ _ _ h => h) rfl (fun w' hS => ?_) hS0 ?_
  rotate_left
  · (try dsimp only at hS); go_split_ands; go_simp; (try with_reducible rfl)
  simp only [Act.put, List.setIfInBounds_toArray, List.set_cons_zero, List.set_cons_succ]
  refine Upto.take (i := 2) (v := ?_) rfl (by kernel_rfl) (fun _ _ _ h => h) rfl (fun w' hS => ?_) hS0 ?_
  rotate_left
  · (try dsimp only at hS); go_split_ands; go_simp; (try with_reducible rfl)
  simp only [Act.put, List.setIfInBounds_toArray, List.set_cons_zero, List.set_cons_succ]
  refine Upto.take (i := 3) (v := ?_) rfl (by kernel_rfl) (fun _ _ _ h => h) rfl (fun w' hS => ?_) hS0 ?_
  rotate_left
  · (try dsimp only at hS); go_split_ands; go_simp; (try with_reducible rfl)
  simp only [Act.put, List.setIfInBounds_toArray, List.set_cons_zero, List.set_cons_succ]
  refine Upto.take (i := 4) (v := ?_) rfl (by kernel_rfl) (fun _ _ _ h => h) rfl (fun w' hS => ?_) hS0 ?_
  rotate_left
  · (try dsimp only at hS); go_split_ands; go_simp; (try with_reducible rfl)
  simp only [Act.put, List.setIfInBounds_toArray, List.set_cons_zero, List.set_cons_succ]
  refine Upto.take (i := 6) (v := ?_) rfl (by kernel_rfl) (fun _ _ _ h => h) rfl (fun w' hS => ?_) hS0 ?_
  rotate_left
  · (try dsimp only at hS); go_split_ands; go_simp; (try with_reducible rfl)
  simp only [Act.put, List.setIfInBounds_toArray, List.set_cons_zero, List.set_cons_succ]
  refine Upto.take (i := 7) (v := ?_) rfl (by kernel_rfl) (fun _ _ _ h => h) rfl (fun w' hS => ?_) hS0 ?_
  rotate_left
  · (try dsimp only at hS); go_split_ands; go_simp; (try with_reducible rfl)
  simp only [Act.put, List.setIfInBounds_toArray, List.set_cons_zero, List.set_cons_succ]
  refine Upto.take (i := 8) (v := ?_) rfl (by kernel_rfl) (fun _ _ _ h => h) rfl (fun w' hS => ?_) hS0 ?_
  rotate_left
  · (try dsimp only at hS); go_split_ands; go_simp; (try with_reducible rfl)
  simp only [Act.put, List.setIfInBounds_toArray, List.set_cons_zero, List.set_cons_succ]
  have C0 := Lib.hid (Calm.refl H W1.drew)
  have CT1 := Lib.hid (seq_any (H := H) (pb := pb) s wr tx P0.out HX.out.tx (R0.out.mono (by decide)))
  refine Upto.law (i := 5) rfl (by kernel_rfl) rfl (fun K hK => ?_)
  refine wp_enter (f := 52) (args := #[.pointer (some ⟨pb, 0, none⟩), .int .i64 tx]) (by go_simp) CT1.out ?_
  rintro e V1 ⟨_, y1, s1, wr1, rfl, ⟨rfl, hi1⟩, hg1, hp1, hc1⟩
  have hS1 := KS.out V1 (C0.out.trans hc1)
  refine ⟨_, rfl, hK _ _ hS1 ?_⟩
  have C1 := Lib.hid (C0.out.trans hc1)
  have R1 : Hid (s1.room 10) := Lib.hid (hg1.room (c := 10) (R0.out.mono (by decide)))
  have G1 := Lib.hid hg1
  have P1 := Lib.hid hp1
  have D1 := Lib.hid hc1
  have I1 := Lib.hid hi1
  clear hK CT1 hg1 hp1 hc1 hS0 hi1
  have hS0 := hS1
  clear hS1
  simp only [Act.put, List.setIfInBounds_toArray, List.set_cons_zero, List.set_cons_succ]
  have CT2 := Lib.hid (seqOrNone_any (H := H) (pb := pb) s1 wr1 prev P1.out HX.out.prev (R1.out.mono (by decide)))
  refine Upto.law (i := 9) rfl (by kernel_rfl) rfl (fun K hK => ?_)
  refine wp_enter (f := 53) (args := #[.pointer (some ⟨pb, 0, none⟩), .int .i64 prev]) (by go_simp) CT2.out ?_
  rintro e V2 ⟨_, y2, s2, wr2, rfl, ⟨rfl, hi2⟩, hg2, hp2, hc2⟩
  have hS2 := KS.out V2 (C1.out.trans hc2)
  refine ⟨_, rfl, hK _ _ hS2 ?_⟩
  have C2 := Lib.hid (C1.out.trans hc2)
  have R2 : Hid (s2.room 0) := Lib.hid (hg2.room (c := 0) (R1.out.mono (by decide)))
  have G2 := Lib.hid hg2
  have P2 := Lib.hid hp2
  have D2 := Lib.hid hc2
  have I2 := Lib.hid hi2
  clear hK CT2 hg2 hp2 hc2 hS0 hi2
  have hS0 := hS2
  clear hS2
  simp only [Act.put, List.setIfInBounds_toArray, List.set_cons_zero, List.set_cons_succ]
  refine Upto.take (i := 10) (v := ?_) rfl (by kernel_rfl) (fun _ _ _ h => h) rfl (fun w' hS => ?_) hS0 ?_
  rotate_left
  · (try dsimp only at hS); go_split_ands; go_simp; (try with_reducible rfl)
  simp only [Act.put, List.setIfInBounds_toArray, List.set_cons_zero, List.set_cons_succ]
  have hcl : Calm H W1 V2 := by have := C2.out; exact ⟨this.os, this.tape, this.output, this.size, this.block⟩
  have RB := Lib.hid (HRS.out.calm (w1 := V2) rfl hcl)
  have F : Hid (RetV (spE 4) (VR H) (⟨4, tx, prev, next, key, ⟨oh, od⟩, ⟨nh, nd⟩, co, mem, lks, rows.map Xw.row, dirty, deeds.map Xd.deed, past⟩ : Rc) H pb s wr w (.returned (.agg #[.int .i64 4, .int .i64 y1, .int .i64 y2, .int .i64 0, .string ⟨#[]⟩, .bool false, .string ⟨#[]⟩, .bool false, .string ⟨#[]⟩, .int .i64 0, .slice none 0 0, .slice none 0 0, .slice none 0 0, .slice none 0 0, .slice none 0 0, .slice none 0 0])) (V2.setRow (r + 1) #[.int .i64 4, .int .i64 y1, .int .i64 y2, .int .i64 0, .string ⟨#[]⟩, .bool false, .string ⟨#[]⟩, .bool false, .string ⟨#[]⟩, .int .i64 0, .slice none 0 0, .slice none 0 0, .slice none 0 0, .slice none 0 0, .slice none 0 0, .slice none 0 0])) := Lib.hid (by
    have hcw : Calm H w V2 := (Calm.of_below HB.out).trans hcl
    obtain ⟨a, b⟩ := P2.out.row RB.out rfl (by have := HRR.out; omega) hcw #[.int .i64 4, .int .i64 y1, .int .i64 y2, .int .i64 0, .string ⟨#[]⟩, .bool false, .string ⟨#[]⟩, .bool false, .string ⟨#[]⟩, .int .i64 0, .slice none 0 0, .slice none 0 0, .slice none 0 0, .slice none 0 0, .slice none 0 0, .slice none 0 0]
    have hin : XrIn H V2 (⟨4, y1, y2, 0, ⟨#[]⟩, ⟨false, ⟨#[]⟩⟩, ⟨false, ⟨#[]⟩⟩, 0, none, 0, 0, [], none, 0, 0, [], none, 0, 0, [], none, 0, 0, [], none, 0, 0, [], none, 0, 0, []⟩ : Xr) := ⟨(i64_of _ rfl), I1.out, I2.out, (i64_of _ rfl), (Nat.zero_le _), (Nat.zero_le _), (Nat.zero_le _), (i64_of _ rfl), (Sl.nil elI H _), (Sl.nil elL H _), (Sl.nil elR H _), (Sl.nil elD H _), (Sl.nil elE H _), (Sl.nil elI H _)⟩
    refine ⟨_, (mkE 4) (y1, y2), s2, wr2, rfl, ⟨(⟨4, y1, y2, 0, ⟨#[]⟩, ⟨false, ⟨#[]⟩⟩, ⟨false, ⟨#[]⟩⟩, 0, none, 0, 0, [], none, 0, 0, [], none, 0, 0, [], none, 0, 0, [], none, 0, 0, [], none, 0, 0, []⟩ : Xr), rfl, hin.other RB.out (by have := HRR.out; have := HLOW.out; omega) (grown_setRow _ _ _), rfl⟩, ?_, a, b⟩
    exact Goes.map (x := (⟨4, tx, prev, next, key, ⟨oh, od⟩, ⟨nh, nd⟩, co, mem, lks, rows.map Xw.row, dirty, deeds.map Xd.deed, past⟩ : Rc)) (y := (y1, y2)) (f := (mkE 4)) (g := uE) (fun _ => rfl) (G1.out.pair G2.out))
  clear hcl
  have RF := Lib.hid (RB.out.rowp #[.int .i64 4, .int .i64 y1, .int .i64 y2, .int .i64 0, .string ⟨#[]⟩, .bool false, .string ⟨#[]⟩, .bool false, .string ⟨#[]⟩, .int .i64 0, .slice none 0 0, .slice none 0 0, .slice none 0 0, .slice none 0 0, .slice none 0 0, .slice none 0 0])
  refine Upto.tail rfl (by kernel_rfl) ?_
  simp only [List.drop_succ_cons, List.drop_zero]
  go_wp2_with (refine wpList_store_row rfl 30 _ _ rfl (r + 1) #[.int .i64 4, .int .i64 y1, .int .i64 y2, .int .i64 0, .string ⟨#[]⟩, .bool false, .string ⟨#[]⟩, .bool false, .string ⟨#[]⟩, .int .i64 0, .slice none 0 0, .slice none 0 0, .slice none 0 0, .slice none 0 0, .slice none 0 0, .slice none 0 0] rfl rfl 30 _ RB.out inf_rec rfl (rec_one _ (by simp [Value.oneCell'])) ?_; simp only [Act.put])
  refine NoPanic.normal ?_
  (try simp only [Exit.inBlock, Exit.then])
  go_wp2_with fail
  (try simp only [Exit.inBlock, Exit.then])
  refine bodyPost_ret (results_cell_row rfl _ _ (r + 1) 30 _ (0, 0) _ rfl RF.out Try.underlying30 rfl inf_rec) rfl ?_
  exact F.out
end
end Go.Proofs.Ytfldcddbmikfiaa

/- what rec passes on of a record of kind 5. -/
namespace Go.Proofs.Ytfldcddbmikfiaa
open Go.RowKit
section
variable {H pb : Nat} {w : World}
set_option maxRecDepth 100000 in
set_option maxHeartbeats 8000000 in
theorem fieldsE5_any [Inhabited Prop] (s : Ps) (wr : Bool) (x : Xr) (h : Pst H w pb s wr) (hx : XrIn H w x) (hk : x.kind = 5) (hr : s.room (spE 5).cost) :
    Calls Try.prog 34 #[.pointer (some ⟨pb, 0, none⟩), x.val] w (RetV (spE 5) (VR H) x.read H pb s wr w) := by
  obtain ⟨kind, tx, prev, next, key, ⟨oh, od⟩, ⟨nh, nd⟩, co, mA, mn, mc, mem, kA, kn, kc, lks, rA, rn, rc, rows, dA, dn, dc, dirty, eA, en, ec, deeds, pA, pn, pc, past⟩ := x
  simp only at hk
  subst hk
  unfold Xr.val Xr.read
  simp only
  have hr0 : s.room 20 := hr.mono (by decide)
  clear hr
  obtain ⟨r, hrr⟩ : ∃ r, w.heap.size = r := ⟨_, rfl⟩
  obtain ⟨W1, hW1⟩ : ∃ W1, W1 = (w.alloc (.cells #[.int .i64 5, .int .i64 tx, .int .i64 prev, .int .i64 next, .string key, .bool oh, .string od, .bool nh, .string nd, .int .i64 co, .slice mA mn mc, .slice kA kn kc, .slice rA rn rc, .slice dA dn dc, .slice eA en ec, .slice pA pn pc] 30)).alloc (.cells #[.int .i64 0, .int .i64 0, .int .i64 0, .int .i64 0, .string ⟨#[]⟩, .bool false, .string ⟨#[]⟩, .bool false, .string ⟨#[]⟩, .int .i64 0, .slice none 0 0, .slice none 0 0, .slice none 0 0, .slice none 0 0, .slice none 0 0, .slice none 0 0] 30) := ⟨_, rfl⟩
  have HB : Hid (Below w.heap.size w W1) := Lib.hid (by rw [hW1]; exact ((Below.refl _ _).alloc (Nat.le_refl _) _).alloc (by simp) _)
  have HV : Hid (Bk W1 r 30 #[.int .i64 5, .int .i64 tx, .int .i64 prev, .int .i64 next, .string key, .bool oh, .string od, .bool nh, .string nd, .int .i64 co, .slice mA mn mc, .slice kA kn kc, .slice rA rn rc, .slice dA dn dc, .slice eA en ec, .slice pA pn pc]) := Lib.hid (by rw [hW1, ← hrr]; exact (Bk.new w _ _).bel ((Below.refl _ _).alloc (Nat.le_refl _) _) (by simp))
  have HRS : Hid (Bk W1 (r + 1) 30 #[.int .i64 0, .int .i64 0, .int .i64 0, .int .i64 0, .string ⟨#[]⟩, .bool false, .string ⟨#[]⟩, .bool false, .string ⟨#[]⟩, .int .i64 0, .slice none 0 0, .slice none 0 0, .slice none 0 0, .slice none 0 0, .slice none 0 0, .slice none 0 0]) := Lib.hid (by
    rw [hW1, ← hrr]
    have := Bk.new (w.alloc (.cells #[.int .i64 5, .int .i64 tx, .int .i64 prev, .int .i64 next, .string key, .bool oh, .string od, .bool nh, .string nd, .int .i64 co, .slice mA mn mc, .slice kA kn kc, .slice rA rn rc, .slice dA dn dc, .slice eA en ec, .slice pA pn pc] 30)) 30 #[.int .i64 0, .int .i64 0, .int .i64 0, .int .i64 0, .string ⟨#[]⟩, .bool false, .string ⟨#[]⟩, .bool false, .string ⟨#[]⟩, .int .i64 0, .slice none 0 0, .slice none 0 0, .slice none 0 0, .slice none 0 0, .slice none 0 0, .slice none 0 0]
    rw [World.size_alloc] at this
    exact this)
  have HLOW := Lib.hid h.low
  have HRR := Lib.hid hrr
  have HW := Lib.hid hW1
  have P0 : Hid (Pst H W1.drew pb s wr) := Lib.hid ((h.keeps (Keeps.of_below HB.out)).keeps ⟨Nat.le_refl _, fun _ _ => rfl⟩)
  have HX := Lib.hid (hx.calm (w' := W1.drew) (by have := Calm.of_below (H := H) HB.out; exact ⟨this.os, this.tape, this.output, this.size, this.block⟩))
  have R0 := Lib.hid hr0
  have k0 : W1.cell? ⟨r, 0, none⟩ = some (.int .i64 5) := HV.out.cell 0
  have KS : Hid (∀ W, Calm H W1.drew W → W.cell? ⟨r, 0, none⟩ = some (.int .i64 5) ∧ W.cell? ⟨r, 1, none⟩ = some (.int .i64 tx) ∧ W.cell? ⟨r, 2, none⟩ = some (.int .i64 prev)) := Lib.hid (fun W hc => ⟨((HV.out.calm (w1 := W) rfl (by exact (⟨hc.os, hc.tape, hc.output, hc.size, hc.block⟩ : Calm H W1 W))).cell 0), ((HV.out.calm (w1 := W) rfl (by exact (⟨hc.os, hc.tape, hc.output, hc.size, hc.block⟩ : Calm H W1 W))).cell 1), ((HV.out.calm (w1 := W) rfl (by exact (⟨hc.os, hc.tape, hc.output, hc.size, hc.block⟩ : Calm H W1 W))).cell 2)⟩)
  clear h hr0 hW1 hx
  go_enter Try.func34, Try.ntmps34
  go_upto_region 1 with fail
  (try rw [hrr])
  rw [← HW.out]
  clear HW hrr
  go_wp2_with fail
  have hS0 := KS.out W1.drew (Calm.refl H _)
  refine wp_region_noPanic ?_
  refine upto_start (fun w' => w'.cell? ⟨r, 0, none⟩ = some (.int .i64 5) ∧ w'.cell? ⟨r, 1, none⟩ = some (.int .i64 tx) ∧ w'.cell? ⟨r, 2, none⟩ = some (.int .i64 prev)) 11 (by kernel_rfl) ?_
  change Upto _ _ _ _ _ 12 _ _ _
  refine Upto.take (i := 0) (v := ?_) rfl (by kernel_rfl) (fun _ _ _ h => h) rfl (fun w' hS => ?_) hS0 ?_
  rotate_left
  · (try dsimp only at hS); go_split_ands; go_simp; (try with_reducible rfl)
  simp only [Act.put, List.setIfInBounds_toArray, List.set_cons_zero, List.set_cons_succ]
  refine Upto.take (i := 1) (v := ?_) rfl (by kernel_rfl) (fun _ _ _ h => h) rfl (fun w' hS => ?_) hS0 ?_
  rotate_left
  · (try dsimp only at hS); go_split_ands; go_simp; (try with_reducible rfl)
  simp only [Act.put, List.setIfInBounds_toArray, List.set_cons_zero, List.set_cons_succ]
  refine Upto.take (i := 2) (v := ?_) rfl (by kernel_rfl) (fun _ _ _ h => h) rfl (fun w' hS => ?_) hS0 ?_
  rotate_left
  · (try dsimp only at hS); go_split_ands; go_simp; (try with_reducible rfl)
  simp only [Act.put, List.setIfInBounds_toArray, List.set_cons_zero, List.set_cons_succ]
  refine Upto.take (i := 3) (v := ?_) rfl (by kernel_rfl) (fun _ _ _ h => h) rfl (fun w' hS => ?_) hS0 ?_
  rotate_left
  · (try dsimp only at hS); go_split_ands; go_simp; (try with_reducible rfl)
  simp only [Act.put, List.setIfInBounds_toArray, List.set_cons_zero, List.set_cons_succ]
  refine Upto.take (i := 4) (v := ?_) rfl (by kernel_rfl) (fun _ _ _ h => h) rfl (fun w' hS => ?_) hS0 ?_
  rotate_left
  · (try dsimp only at hS); go_split_ands; go_simp; (try with_reducible rfl)
  simp only [Act.put, List.setIfInBounds_toArray, List.set_cons_zero, List.set_cons_succ]
  refine Upto.take (i := 6) (v := ?_) rfl (by kernel_rfl) (fun _ _ _ h => h) rfl (fun w' hS => ?_) hS0 ?_
  rotate_left
  · (try dsimp only at hS); go_split_ands; go_simp; (try with_reducible rfl)
  simp only [Act.put, List.setIfInBounds_toArray, List.set_cons_zero, List.set_cons_succ]
  refine Upto.take (i := 7) (v := ?_) rfl (by kernel_rfl) (fun _ _ _ h => h) rfl (fun w' hS => ?_) hS0 ?_
  rotate_left
  · (try dsimp only at hS); go_split_ands; go_simp; (try with_reducible rfl)
  simp only [Act.put, List.setIfInBounds_toArray, List.set_cons_zero, List.set_cons_succ]
  refine Upto.take (i := 8) (v := ?_) rfl (by kernel_rfl) (fun _ _ _ h => h) rfl (fun w' hS => ?_) hS0 ?_
  rotate_left
  · (try dsimp only at hS); go_split_ands; go_simp; (try with_reducible rfl)
  simp only [Act.put, List.setIfInBounds_toArray, List.set_cons_zero, List.set_cons_succ]
  have C0 := Lib.hid (Calm.refl H W1.drew)
  have CT1 := Lib.hid (seq_any (H := H) (pb := pb) s wr tx P0.out HX.out.tx (R0.out.mono (by decide)))
  refine Upto.law (i := 5) rfl (by kernel_rfl) rfl (fun K hK => ?_)
  refine wp_enter (f := 52) (args := #[.pointer (some ⟨pb, 0, none⟩), .int .i64 tx]) (by go_simp) CT1.out ?_
  rintro e V1 ⟨_, y1, s1, wr1, rfl, ⟨rfl, hi1⟩, hg1, hp1, hc1⟩
  have hS1 := KS.out V1 (C0.out.trans hc1)
  refine ⟨_, rfl, hK _ _ hS1 ?_⟩
  have C1 := Lib.hid (C0.out.trans hc1)
  have R1 : Hid (s1.room 10) := Lib.hid (hg1.room (c := 10) (R0.out.mono (by decide)))
  have G1 := Lib.hid hg1
  have P1 := Lib.hid hp1
  have D1 := Lib.hid hc1
  have I1 := Lib.hid hi1
  clear hK CT1 hg1 hp1 hc1 hS0 hi1
  have hS0 := hS1
  clear hS1
  simp only [Act.put, List.setIfInBounds_toArray, List.set_cons_zero, List.set_cons_succ]
  have CT2 := Lib.hid (seqOrNone_any (H := H) (pb := pb) s1 wr1 prev P1.out HX.out.prev (R1.out.mono (by decide)))
  refine Upto.law (i := 9) rfl (by kernel_rfl) rfl (fun K hK => ?_)
  refine wp_enter (f := 53) (args := #[.pointer (some ⟨pb, 0, none⟩), .int .i64 prev]) (by go_simp) CT2.out ?_
  rintro e V2 ⟨_, y2, s2, wr2, rfl, ⟨rfl, hi2⟩, hg2, hp2, hc2⟩
  have hS2 := KS.out V2 (C1.out.trans hc2)
  refine ⟨_, rfl, hK _ _ hS2 ?_⟩
  have C2 := Lib.hid (C1.out.trans hc2)
  have R2 : Hid (s2.room 0) := Lib.hid (hg2.room (c := 0) (R1.out.mono (by decide)))
  have G2 := Lib.hid hg2
  have P2 := Lib.hid hp2
  have D2 := Lib.hid hc2
  have I2 := Lib.hid hi2
  clear hK CT2 hg2 hp2 hc2 hS0 hi2
  have hS0 := hS2
  clear hS2
  simp only [Act.put, List.setIfInBounds_toArray, List.set_cons_zero, List.set_cons_succ]
  refine Upto.take (i := 10) (v := ?_) rfl (by kernel_rfl) (fun _ _ _ h => h) rfl (fun w' hS => ?_) hS0 ?_
  rotate_left
  · (try dsimp only at hS); go_split_ands; go_simp; (try with_reducible rfl)
  simp only [Act.put, List.setIfInBounds_toArray, List.set_cons_zero, List.set_cons_succ]
  have hcl : Calm H W1 V2 := by have := C2.out; exact ⟨this.os, this.tape, this.output, this.size, this.block⟩
  have RB := Lib.hid (HRS.out.calm (w1 := V2) rfl hcl)
  have F : Hid (RetV (spE 5) (VR H) (⟨5, tx, prev, next, key, ⟨oh, od⟩, ⟨nh, nd⟩, co, mem, lks, rows.map Xw.row, dirty, deeds.map Xd.deed, past⟩ : Rc) H pb s wr w (.returned (.agg #[.int .i64 5, .int .i64 y1, .int .i64 y2, .int .i64 0, .string ⟨#[]⟩, .bool false, .string ⟨#[]⟩, .bool false, .string ⟨#[]⟩, .int .i64 0, .slice none 0 0, .slice none 0 0, .slice none 0 0, .slice none 0 0, .slice none 0 0, .slice none 0 0])) (V2.setRow (r + 1) #[.int .i64 5, .int .i64 y1, .int .i64 y2, .int .i64 0, .string ⟨#[]⟩, .bool false, .string ⟨#[]⟩, .bool false, .string ⟨#[]⟩, .int .i64 0, .slice none 0 0, .slice none 0 0, .slice none 0 0, .slice none 0 0, .slice none 0 0, .slice none 0 0])) := Lib.hid (by
    have hcw : Calm H w V2 := (Calm.of_below HB.out).trans hcl
    obtain ⟨a, b⟩ := P2.out.row RB.out rfl (by have := HRR.out; omega) hcw #[.int .i64 5, .int .i64 y1, .int .i64 y2, .int .i64 0, .string ⟨#[]⟩, .bool false, .string ⟨#[]⟩, .bool false, .string ⟨#[]⟩, .int .i64 0, .slice none 0 0, .slice none 0 0, .slice none 0 0, .slice none 0 0, .slice none 0 0, .slice none 0 0]
    have hin : XrIn H V2 (⟨5, y1, y2, 0, ⟨#[]⟩, ⟨false, ⟨#[]⟩⟩, ⟨false, ⟨#[]⟩⟩, 0, none, 0, 0, [], none, 0, 0, [], none, 0, 0, [], none, 0, 0, [], none, 0, 0, [], none, 0, 0, []⟩ : Xr) := ⟨(i64_of _ rfl), I1.out, I2.out, (i64_of _ rfl), (Nat.zero_le _), (Nat.zero_le _), (Nat.zero_le _), (i64_of _ rfl), (Sl.nil elI H _), (Sl.nil elL H _), (Sl.nil elR H _), (Sl.nil elD H _), (Sl.nil elE H _), (Sl.nil elI H _)⟩
    refine ⟨_, (mkE 5) (y1, y2), s2, wr2, rfl, ⟨(⟨5, y1, y2, 0, ⟨#[]⟩, ⟨false, ⟨#[]⟩⟩, ⟨false, ⟨#[]⟩⟩, 0, none, 0, 0, [], none, 0, 0, [], none, 0, 0, [], none, 0, 0, [], none, 0, 0, [], none, 0, 0, []⟩ : Xr), rfl, hin.other RB.out (by have := HRR.out; have := HLOW.out; omega) (grown_setRow _ _ _), rfl⟩, ?_, a, b⟩
    exact Goes.map (x := (⟨5, tx, prev, next, key, ⟨oh, od⟩, ⟨nh, nd⟩, co, mem, lks, rows.map Xw.row, dirty, deeds.map Xd.deed, past⟩ : Rc)) (y := (y1, y2)) (f := (mkE 5)) (g := uE) (fun _ => rfl) (G1.out.pair G2.out))
  clear hcl
  have RF := Lib.hid (RB.out.rowp #[.int .i64 5, .int .i64 y1, .int .i64 y2, .int .i64 0, .string ⟨#[]⟩, .bool false, .string ⟨#[]⟩, .bool false, .string ⟨#[]⟩, .int .i64 0, .slice none 0 0, .slice none 0 0, .slice none 0 0, .slice none 0 0, .slice none 0 0, .slice none 0 0])
  refine Upto.tail rfl (by kernel_rfl) ?_
  simp only [List.drop_succ_cons, List.drop_zero]
  go_wp2_with (refine wpList_store_row rfl 30 _ _ rfl (r + 1) #[.int .i64 5, .int .i64 y1, .int .i64 y2, .int .i64 0, .string ⟨#[]⟩, .bool false, .string ⟨#[]⟩, .bool false, .string ⟨#[]⟩, .int .i64 0, .slice none 0 0, .slice none 0 0, .slice none 0 0, .slice none 0 0, .slice none 0 0, .slice none 0 0] rfl rfl 30 _ RB.out inf_rec rfl (rec_one _ (by simp [Value.oneCell'])) ?_; simp only [Act.put])
  refine NoPanic.normal ?_
  (try simp only [Exit.inBlock, Exit.then])
  go_wp2_with fail
  (try simp only [Exit.inBlock, Exit.then])
  refine bodyPost_ret (results_cell_row rfl _ _ (r + 1) 30 _ (0, 0) _ rfl RF.out Try.underlying30 rfl inf_rec) rfl ?_
  exact F.out
end
end Go.Proofs.Ytfldcddbmikfiaa

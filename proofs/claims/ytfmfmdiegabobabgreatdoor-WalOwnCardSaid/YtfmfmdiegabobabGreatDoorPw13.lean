/- What it says: contracts and plain mathematics that the laws' walks use, 13 of 33: each part's own remark says what; no condition. -/
import Derived.Test.YtfmfmdiegabobabGreatDoorPw1
import Derived.Test.YtfmfmdiegabobabGreatDoorPw2
import Derived.Test.YtfmfmdiegabobabGreatDoorPw3
import Derived.Test.YtfmfmdiegabobabGreatDoorPw4
import Derived.Test.YtfmfmdiegabobabGreatDoorPw10
import Derived.Test.YtfmfmdiegabobabGreatDoorPw11
import Derived.Test.YtfmfmdiegabobabGreatDoorPw12
import Derived.LoopTactic
import Derived.Deep.CutBlock
import Derived.Laws.Build
import Derived.BigRegion
import Derived.Handy

set_option linter.unusedSimpArgs false
set_option linter.unusedVariables false
set_option linter.deprecated false
set_option linter.unusedSectionVars false
set_option linter.all false
set_option maxRecDepth 100000
set_option maxHeartbeats 16000000
namespace Go.Proofs.YtfmfmdiegabobabGreatDoor
theorem q1Pw13 {α : Type} (l : List α) (i : Nat) (x : α) : l.toArray.setIfInBounds i x = (l.set i x).toArray := by simp
theorem q2Pw13 {α : Type} (a : α) (l : List α) (x : α) : (a :: l).set 0 x = x :: l := rfl
theorem q3Pw13 {α : Type} (a : α) (l : List α) (i : Nat) (x : α) : (a :: l).set (i + 1) x = a :: l.set i x := rfl

/- what rec passes on of a record of kind 10. -/
section
open Go.RowKit
section
variable {H pb : Nat} {w : World}
theorem fieldsF_any [Inhabited Prop] (s : Ps) (wr : Bool) (x : Xr) (h : Pst H w pb s wr) (hx : XrIn H w x) (hk : x.kind = 10) (hr : s.room spF.cost) :
  Calls Tryz.prog 66 #[.pointer (some ⟨pb, 0, none⟩), x.val] w (RetV spF (VR H) x.read H pb s wr w) := by
 obtain ⟨kind, tx, prev, next, key, ⟨oh, od⟩, ⟨nh, nd⟩, co, mA, mn, mc, mem, kA, kn, kc, lks, rA, rn, rc, rows, dA, dn, dc, dirty, eA, en, ec, deeds, pA, pn, pc, past⟩ := x
 simp only at hk
 subst hk
 unfold Xr.val Xr.read
 simp only
 have hr0 : s.room 10 := hr.mono (by decide)
 clear hr
 obtain ⟨r, hrr⟩ : ∃ r, w.heap.size = r := ⟨_, rfl⟩
 obtain ⟨W1, hW1⟩ : ∃ W1, W1 = (w.alloc (.cells #[.int .i64 10, .int .i64 tx, .int .i64 prev, .int .i64 next, .string key, .bool oh, .string od, .bool nh, .string nd, .int .i64 co, .slice mA mn mc, .slice kA kn kc, .slice rA rn rc, .slice dA dn dc, .slice eA en ec, .slice pA pn pc] 30)).alloc (.cells #[.int .i64 0, .int .i64 0, .int .i64 0, .int .i64 0, .string ⟨#[]⟩, .bool false, .string ⟨#[]⟩, .bool false, .string ⟨#[]⟩, .int .i64 0, .slice none 0 0, .slice none 0 0, .slice none 0 0, .slice none 0 0, .slice none 0 0, .slice none 0 0] 30) := ⟨_, rfl⟩
 have HB : Hid (Below w.heap.size w W1) := Lib.hid (by rw [hW1]; exact ((Below.refl _ _).alloc (Nat.le_refl _) _).alloc (by simp) _)
 have HV : Hid (Bk W1 r 30 #[.int .i64 10, .int .i64 tx, .int .i64 prev, .int .i64 next, .string key, .bool oh, .string od, .bool nh, .string nd, .int .i64 co, .slice mA mn mc, .slice kA kn kc, .slice rA rn rc, .slice dA dn dc, .slice eA en ec, .slice pA pn pc]) := Lib.hid (by rw [hW1, ← hrr]; exact (Bk.new w _ _).bel ((Below.refl _ _).alloc (Nat.le_refl _) _) (by simp))
 have HRS : Hid (Bk W1 (r + 1) 30 #[.int .i64 0, .int .i64 0, .int .i64 0, .int .i64 0, .string ⟨#[]⟩, .bool false, .string ⟨#[]⟩, .bool false, .string ⟨#[]⟩, .int .i64 0, .slice none 0 0, .slice none 0 0, .slice none 0 0, .slice none 0 0, .slice none 0 0, .slice none 0 0]) := Lib.hid (by
  rw [hW1, ← hrr]
  have := Bk.new (w.alloc (.cells #[.int .i64 10, .int .i64 tx, .int .i64 prev, .int .i64 next, .string key, .bool oh, .string od, .bool nh, .string nd, .int .i64 co, .slice mA mn mc, .slice kA kn kc, .slice rA rn rc, .slice dA dn dc, .slice eA en ec, .slice pA pn pc] 30)) 30 #[.int .i64 0, .int .i64 0, .int .i64 0, .int .i64 0, .string ⟨#[]⟩, .bool false, .string ⟨#[]⟩, .bool false, .string ⟨#[]⟩, .int .i64 0, .slice none 0 0, .slice none 0 0, .slice none 0 0, .slice none 0 0, .slice none 0 0, .slice none 0 0]
  rw [World.size_alloc] at this
  exact this)
 have HLOW := Lib.hid h.low
 have HRR := Lib.hid hrr
 have HW := Lib.hid hW1
 have P0 : Hid (Pst H W1.drew pb s wr) := Lib.hid ((h.keeps (Keeps.of_below HB.out)).keeps ⟨Nat.le_refl _, fun _ _ => rfl⟩)
 have HX := Lib.hid (hx.calm (w' := W1.drew) (by have := Calm.of_below (H := H) HB.out; exact ⟨this.os, this.tape, this.output, this.size, this.block⟩))
 have R0 := Lib.hid hr0
 have k0 : W1.cell? ⟨r, 0, none⟩ = some (.int .i64 10) := HV.out.cell 0
 have KS : Hid (∀ W, Calm H W1.drew W → W.cell? ⟨r, 0, none⟩ = some (.int .i64 10) ∧ W.cell? ⟨r, 1, none⟩ = some (.int .i64 tx)) := Lib.hid (fun W hc => ⟨((HV.out.calm (w1 := W) rfl (by exact (⟨hc.os, hc.tape, hc.output, hc.size, hc.block⟩ : Calm H W1 W))).cell 0), ((HV.out.calm (w1 := W) rfl (by exact (⟨hc.os, hc.tape, hc.output, hc.size, hc.block⟩ : Calm H W1 W))).cell 1)⟩)
 clear h hr0 hW1 hx
 go_enter Tryz.func66, Tryz.ntmps66
 go_upto_region 1 with fail
 (try rw [hrr])
 rw [← HW.out]
 clear HW hrr
 go_wp2_with fail
 have hS0 := KS.out W1.drew (Calm.refl H _)
 refine wp_region_noPanic ?_
 refine upto_start (fun w' => w'.cell? ⟨r, 0, none⟩ = some (.int .i64 10) ∧ w'.cell? ⟨r, 1, none⟩ = some (.int .i64 tx)) 7 (by kernel_rfl) ?_
 change Upto _ _ _ _ _ 8 _ _ _
 refine Upto.tk 0 ?_ rfl (fun w' hS => ?_) hS0 ?_
 rotate_left
 ·(try dsimp only at hS); go_split_ands; go_simp; (try with_reducible rfl)
 simp only [Act.put, q1Pw13, q2Pw13, q3Pw13]
 refine Upto.tk 1 ?_ rfl (fun w' hS => ?_) hS0 ?_
 rotate_left
 ·(try dsimp only at hS); go_split_ands; go_simp; (try with_reducible rfl)
 simp only [Act.put, q1Pw13, q2Pw13, q3Pw13]
 refine Upto.tk 2 ?_ rfl (fun w' hS => ?_) hS0 ?_
 rotate_left
 ·(try dsimp only at hS); go_split_ands; go_simp; (try with_reducible rfl)
 simp only [Act.put, q1Pw13, q2Pw13, q3Pw13]
 refine Upto.tk 3 ?_ rfl (fun w' hS => ?_) hS0 ?_
 rotate_left
 ·(try dsimp only at hS); go_split_ands; go_simp; (try with_reducible rfl)
 simp only [Act.put, q1Pw13, q2Pw13, q3Pw13]
 refine Upto.tk 4 ?_ rfl (fun w' hS => ?_) hS0 ?_
 rotate_left
 ·(try dsimp only at hS); go_split_ands; go_simp; (try with_reducible rfl)
 simp only [Act.put, q1Pw13, q2Pw13, q3Pw13]
 have C0 := Lib.hid (Calm.refl H W1.drew)
 have CT1 := Lib.hid (seq_any (H := H) (pb := pb) s wr tx P0.out HX.out.tx (R0.out.mono (by decide)))
 refine Upto.law (i := 5) rfl (by kernel_rfl) rfl (fun K hK => ?_)
 refine wp_enter (f := 92) (args := #[.pointer (some ⟨pb, 0, none⟩), .int .i64 tx]) (by go_simp) CT1.out ?_
 rintro e V1 ⟨_, y1, s1, wr1, rfl, ⟨rfl, hi1⟩, hg1, hp1, hc1⟩
 have hS1 := KS.out V1 (C0.out.trans hc1)
 refine ⟨_, rfl, hK _ _ hS1 ?_⟩
 have C1 := Lib.hid (C0.out.trans hc1)
 have R1 : Hid (s1.room 0) := Lib.hid (hg1.room (c := 0) (R0.out.mono (by decide)))
 have G1 := Lib.hid hg1
 have P1 := Lib.hid hp1
 have D1 := Lib.hid hc1
 have I1 := Lib.hid hi1
 clear hK CT1 hg1 hp1 hc1 hS0 hi1
 have hS0 := hS1
 clear hS1
 simp only [Act.put, q1Pw13, q2Pw13, q3Pw13]
 refine Upto.tk 6 ?_ rfl (fun w' hS => ?_) hS0 ?_
 rotate_left
 ·(try dsimp only at hS); go_split_ands; go_simp; (try with_reducible rfl)
 simp only [Act.put, q1Pw13, q2Pw13, q3Pw13]
 have hcl : Calm H W1 V1 := by have := C1.out; exact ⟨this.os, this.tape, this.output, this.size, this.block⟩
 have RB := Lib.hid (HRS.out.calm (w1 := V1) rfl hcl)
 have F : Hid (RetV spF (VR H) (⟨10, tx, prev, next, key, ⟨oh, od⟩, ⟨nh, nd⟩, co, mem, lks, rows.map Xw.row, dirty, deeds.map Xd.deed, past⟩ : Rc) H pb s wr w (.returned (.agg #[.int .i64 10, .int .i64 y1, .int .i64 0, .int .i64 0, .string ⟨#[]⟩, .bool false, .string ⟨#[]⟩, .bool false, .string ⟨#[]⟩, .int .i64 0, .slice none 0 0, .slice none 0 0, .slice none 0 0, .slice none 0 0, .slice none 0 0, .slice none 0 0])) (V1.setRow (r + 1) #[.int .i64 10, .int .i64 y1, .int .i64 0, .int .i64 0, .string ⟨#[]⟩, .bool false, .string ⟨#[]⟩, .bool false, .string ⟨#[]⟩, .int .i64 0, .slice none 0 0, .slice none 0 0, .slice none 0 0, .slice none 0 0, .slice none 0 0, .slice none 0 0])) := Lib.hid (by
  have hcw : Calm H w V1 := (Calm.of_below HB.out).trans hcl
  obtain ⟨a, b⟩ := P1.out.row RB.out rfl (by have := HRR.out; omega) hcw #[.int .i64 10, .int .i64 y1, .int .i64 0, .int .i64 0, .string ⟨#[]⟩, .bool false, .string ⟨#[]⟩, .bool false, .string ⟨#[]⟩, .int .i64 0, .slice none 0 0, .slice none 0 0, .slice none 0 0, .slice none 0 0, .slice none 0 0, .slice none 0 0]
  have hin : XrIn H V1 (⟨10, y1, 0, 0, ⟨#[]⟩, ⟨false, ⟨#[]⟩⟩, ⟨false, ⟨#[]⟩⟩, 0, none, 0, 0, [], none, 0, 0, [], none, 0, 0, [], none, 0, 0, [], none, 0, 0, [], none, 0, 0, []⟩ : Xr) := ⟨(i64_of _ rfl), I1.out, (i64_of _ rfl), (i64_of _ rfl), (Nat.zero_le _), (Nat.zero_le _), (Nat.zero_le _), (i64_of _ rfl), (Sl.nil elI H _), (Sl.nil elL H _), (Sl.nil elR H _), (Sl.nil elD H _), (Sl.nil elE H _), (Sl.nil elI H _)⟩
  refine ⟨_, mkF (y1), s1, wr1, rfl, ⟨(⟨10, y1, 0, 0, ⟨#[]⟩, ⟨false, ⟨#[]⟩⟩, ⟨false, ⟨#[]⟩⟩, 0, none, 0, 0, [], none, 0, 0, [], none, 0, 0, [], none, 0, 0, [], none, 0, 0, [], none, 0, 0, []⟩ : Xr), rfl, hin.other RB.out (by have := HRR.out; have := HLOW.out; omega) (grown_setRow _ _ _), rfl⟩, ?_, a, b⟩
  exact Goes.map (x := (⟨10, tx, prev, next, key, ⟨oh, od⟩, ⟨nh, nd⟩, co, mem, lks, rows.map Xw.row, dirty, deeds.map Xd.deed, past⟩ : Rc)) (y := (y1)) (f := mkF) (g := (fun r : Rc => r.tx)) (fun _ => rfl) G1.out)
 clear hcl
 have RF := Lib.hid (RB.out.rowp #[.int .i64 10, .int .i64 y1, .int .i64 0, .int .i64 0, .string ⟨#[]⟩, .bool false, .string ⟨#[]⟩, .bool false, .string ⟨#[]⟩, .int .i64 0, .slice none 0 0, .slice none 0 0, .slice none 0 0, .slice none 0 0, .slice none 0 0, .slice none 0 0])
 refine Upto.tail rfl (by kernel_rfl) ?_
 simp only [List.drop_succ_cons, List.drop_zero]
 go_wp2_with (refine wpList_store_row rfl 30 _ _ rfl (r + 1) #[.int .i64 10, .int .i64 y1, .int .i64 0, .int .i64 0, .string ⟨#[]⟩, .bool false, .string ⟨#[]⟩, .bool false, .string ⟨#[]⟩, .int .i64 0, .slice none 0 0, .slice none 0 0, .slice none 0 0, .slice none 0 0, .slice none 0 0, .slice none 0 0] rfl rfl 30 _ RB.out inf_rec rfl (rec_one _ (by simp [Value.oneCell'])) ?_; simp only [Act.put])
 refine NoPanic.normal ?_
 (try simp only [Exit.inBlock, Exit.then])
 go_wp2_with fail
 (try simp only [Exit.inBlock, Exit.then])
 refine bodyPost_ret (results_cell_row rfl _ _ (r + 1) 30 _ (0, 0) _ rfl RF.out Tryz.underlying30 rfl inf_rec) rfl ?_
 exact F.out
end
end

/- of a record of no kind rec passes on nothing. -/
section
open Go.RowKit
def xr0 : Xr := ⟨0, 0, 0, 0, ⟨#[]⟩, ⟨false, ⟨#[]⟩⟩, ⟨false, ⟨#[]⟩⟩, 0, none, 0, 0, [], none, 0, 0, [], none, 0, 0, [], none, 0, 0, [], none, 0, 0, [], none, 0, 0, []⟩
section
variable {H pb : Nat} {w : World}
theorem fieldsZ_any (s : Ps) (wr : Bool) (x : Xr) (h : Pst H w pb s wr) (hk : ¬ (1 ≤ x.kind ∧ x.kind ≤ 10)) :
  Calls Tryz.prog 66 #[.pointer (some ⟨pb, 0, none⟩), x.val] w (fun e w' => e = .returned xr0.val ∧ Pst H w' pb s wr ∧ Calm H w w') := by
 obtain ⟨kind, tx, prev, next, key, ⟨oh, od⟩, ⟨nh, nd⟩, co, mA, mn, mc, mem, kA, kn, kc, lks, rA, rn, rc, rows, dA, dn, dc, dirty, eA, en, ec, deeds, pA, pn, pc, past⟩ := x
 simp only at hk
 have z1 : (kind == 1) = false := by simp; omega
 have z2 : (kind == 2) = false := by simp; omega
 have z3 : (kind == 3) = false := by simp; omega
 have z4 : (kind == 4) = false := by simp; omega
 have z5 : (kind == 5) = false := by simp; omega
 have z6 : (kind == 6) = false := by simp; omega
 have z7 : (kind == 7) = false := by simp; omega
 have z8 : (kind == 8) = false := by simp; omega
 have z9 : (kind == 9) = false := by simp; omega
 have z10 : (kind == 10) = false := by simp; omega
 clear hk
 unfold Xr.val
 simp only
 obtain ⟨r, hrr⟩ : ∃ r, w.heap.size = r := ⟨_, rfl⟩
 obtain ⟨W1, hW1⟩ : ∃ W1, W1 = (w.alloc (.cells #[.int .i64 kind, .int .i64 tx, .int .i64 prev, .int .i64 next, .string key, .bool oh, .string od, .bool nh, .string nd, .int .i64 co, .slice mA mn mc, .slice kA kn kc, .slice rA rn rc, .slice dA dn dc, .slice eA en ec, .slice pA pn pc] 30)).alloc (.cells #[.int .i64 0, .int .i64 0, .int .i64 0, .int .i64 0, .string ⟨#[]⟩, .bool false, .string ⟨#[]⟩, .bool false, .string ⟨#[]⟩, .int .i64 0, .slice none 0 0, .slice none 0 0, .slice none 0 0, .slice none 0 0, .slice none 0 0, .slice none 0 0] 30) := ⟨_, rfl⟩
 have HB : Hid (Below w.heap.size w W1) := Lib.hid (by rw [hW1]; exact ((Below.refl _ _).alloc (Nat.le_refl _) _).alloc (by simp) _)
 have HV : Hid (Bk W1 r 30 #[.int .i64 kind, .int .i64 tx, .int .i64 prev, .int .i64 next, .string key, .bool oh, .string od, .bool nh, .string nd, .int .i64 co, .slice mA mn mc, .slice kA kn kc, .slice rA rn rc, .slice dA dn dc, .slice eA en ec, .slice pA pn pc]) := Lib.hid (by rw [hW1, ← hrr]; exact (Bk.new w _ _).bel ((Below.refl _ _).alloc (Nat.le_refl _) _) (by simp))
 have HRS : Hid (Bk W1 (r + 1) 30 #[.int .i64 0, .int .i64 0, .int .i64 0, .int .i64 0, .string ⟨#[]⟩, .bool false, .string ⟨#[]⟩, .bool false, .string ⟨#[]⟩, .int .i64 0, .slice none 0 0, .slice none 0 0, .slice none 0 0, .slice none 0 0, .slice none 0 0, .slice none 0 0]) := Lib.hid (by
  rw [hW1, ← hrr]
  have := Bk.new (w.alloc (.cells #[.int .i64 kind, .int .i64 tx, .int .i64 prev, .int .i64 next, .string key, .bool oh, .string od, .bool nh, .string nd, .int .i64 co, .slice mA mn mc, .slice kA kn kc, .slice rA rn rc, .slice dA dn dc, .slice eA en ec, .slice pA pn pc] 30)) 30 #[.int .i64 0, .int .i64 0, .int .i64 0, .int .i64 0, .string ⟨#[]⟩, .bool false, .string ⟨#[]⟩, .bool false, .string ⟨#[]⟩, .int .i64 0, .slice none 0 0, .slice none 0 0, .slice none 0 0, .slice none 0 0, .slice none 0 0, .slice none 0 0]
  rw [World.size_alloc] at this
  exact this)
 have HLOW := Lib.hid h.low
 have HRR := Lib.hid hrr
 have HW := Lib.hid hW1
 have k0 : W1.cell? ⟨r, 0, none⟩ = some (.int .i64 kind) := HV.out.cell 0
 have P0 := Lib.hid (h.keeps (Keeps.of_below HB.out))
 clear h hW1
 go_enter Tryz.func66, Tryz.ntmps66
 go_upto_region 1 with fail
 (try rw [hrr])
 rw [← HW.out]
 clear HW hrr
 have RB := HRS
 have F : Hid (Pst H (W1.setRow (r + 1) #[.int .i64 0, .int .i64 0, .int .i64 0, .int .i64 0, .string ⟨#[]⟩, .bool false, .string ⟨#[]⟩, .bool false, .string ⟨#[]⟩, .int .i64 0, .slice none 0 0, .slice none 0 0, .slice none 0 0, .slice none 0 0, .slice none 0 0, .slice none 0 0]) pb s wr ∧ Calm H w (W1.setRow (r + 1) #[.int .i64 0, .int .i64 0, .int .i64 0, .int .i64 0, .string ⟨#[]⟩, .bool false, .string ⟨#[]⟩, .bool false, .string ⟨#[]⟩, .int .i64 0, .slice none 0 0, .slice none 0 0, .slice none 0 0, .slice none 0 0, .slice none 0 0, .slice none 0 0])) := Lib.hid (P0.out.row RB.out rfl (by have := HRR.out; omega) (Calm.of_below HB.out) _)
 have RF := Lib.hid (RB.out.rowp #[.int .i64 0, .int .i64 0, .int .i64 0, .int .i64 0, .string ⟨#[]⟩, .bool false, .string ⟨#[]⟩, .bool false, .string ⟨#[]⟩, .int .i64 0, .slice none 0 0, .slice none 0 0, .slice none 0 0, .slice none 0 0, .slice none 0 0, .slice none 0 0])
 go_wp2_with (refine wpList_store_row rfl 30 _ _ rfl (r + 1) #[.int .i64 0, .int .i64 0, .int .i64 0, .int .i64 0, .string ⟨#[]⟩, .bool false, .string ⟨#[]⟩, .bool false, .string ⟨#[]⟩, .int .i64 0, .slice none 0 0, .slice none 0 0, .slice none 0 0, .slice none 0 0, .slice none 0 0, .slice none 0 0] rfl rfl 30 _ RB.out inf_rec rfl (rec_one _ (by simp [Value.oneCell'])) ?_; simp only [Act.put])
 (try simp only [Exit.inBlock, Exit.then])
 refine bodyPost_ret (results_cell_row rfl _ _ (r + 1) 30 _ (0, 0) _ rfl RF.out Tryz.underlying30 rfl inf_rec) rfl ?_
 exact ⟨rfl, F.out⟩
end
end

/- what rec passes on of a record, whatever its kind. -/
section
open Go.RowKit
section
variable {H pb : Nat} {w : World}
theorem fieldsAll_any [Inhabited Prop] (s : Ps) (wr : Bool) (x : Xr) (h : Pst H w pb s wr) (hx : XrIn H w x) (hk : 1 ≤ x.kind ∧ x.kind ≤ 10) (hr : s.room 10000000) :
  Calls Tryz.prog 66 #[.pointer (some ⟨pb, 0, none⟩), x.val] w (RetV (kindSp x.kind) (VR H) x.read H pb s wr w) := by
 have hr' := hr.mono (kindSp_cost x.kind)
 have hc : x.kind = 1 ∨ x.kind = 2 ∨ x.kind = 3 ∨ x.kind = 4 ∨ x.kind = 5 ∨ x.kind = 6 ∨ x.kind = 7 ∨ x.kind = 8 ∨ x.kind = 9 ∨ x.kind = 10 := by omega
 rcases hc with e | e | e | e | e | e | e | e | e | e
 ·have q : kindSp x.kind = spU := by rw [e]; rfl
  rw [q] at hr' ⊢; exact fieldsU_any s wr x h hx e hr'
 ·have q : kindSp x.kind = spC := by rw [e]; rfl
  rw [q] at hr' ⊢; exact fieldsC_any s wr x h hx e hr'
 ·have q : kindSp x.kind = spP := by rw [e]; rfl
  rw [q] at hr' ⊢; exact fieldsP_any s wr x h hx e hr'
 ·have q : kindSp x.kind = spE 4 := by rw [e]; rfl
  rw [q] at hr' ⊢; exact fieldsE4_any s wr x h hx e hr'
 ·have q : kindSp x.kind = spE 5 := by rw [e]; rfl
  rw [q] at hr' ⊢; exact fieldsE5_any s wr x h hx e hr'
 ·have q : kindSp x.kind = spE 6 := by rw [e]; rfl
  rw [q] at hr' ⊢; exact fieldsE6_any s wr x h hx e hr'
 ·have q : kindSp x.kind = spB := by rw [e]; rfl
  rw [q] at hr' ⊢; exact fieldsB_any s wr x h hx e hr'
 ·have q : kindSp x.kind = spK := by rw [e]; rfl
  rw [q] at hr' ⊢; exact fieldsK_any s wr x h hx e hr'
 ·have q : kindSp x.kind = spD := by rw [e]; rfl
  rw [q] at hr' ⊢; exact fieldsD_any s wr x h hx e hr'
 ·have q : kindSp x.kind = spF := by rw [e]; rfl
  rw [q] at hr' ⊢; exact fieldsF_any s wr x h hx e hr'
end
end

/- trothref01.Short hands back a number's digits to the base 128, in new memory. -/
section
open Go.RowKit
end

/- seal.Seal and trothref03.Seal hand back the document's sealed body, in new memory, or ErrLong. -/
section
open Go.RowKit
def sealL (l : List Int) : List Int := textL l ++ sumL (textL l)
theorem sealL_rng {l : List Int} (h : ∀ x ∈ l, 0 ≤ x ∧ x < 256) : ∀ x ∈ sealL l, 0 ≤ x ∧ x < 256 := fun x hx => by
 rcases List.mem_append.1 hx with h1 | h1
 ·exact textL_rng h x h1
 ·exact sumL_rng _ x h1
def RetOwn2 (l : List Int) (x : Int) (w : World) (e : Ending) (w' : World) : Prop :=
 ∃ A n c, e = .returned (.tuple #[.slice A n c, .int .i64 x]) ∧ w'.ownsRow w.heap.size 5 1 (.slice A n c) n (l.map (Value.int .u8)) ∧ (∀ x ∈ l, 0 ≤ x ∧ x < 256) ∧ Below w.heap.size w w'
theorem Wrt.new (w : World) : Wrt (w.alloc (.cells #[.slice none 0 0] 125)) w.heap.size w.heap.size [] :=
 ⟨Nat.le_refl _, by simp, none, 0, 0, Bk.new _ _ _, World.ownsRow_nil _ _ _ _⟩
def SealPost (l : List Int) (w : World) : Ending → World → Prop := if 4096 < l.length then RetOwn2 [] 12 w else RetOwn2 (sealL l) 0 w
theorem seal_any (A : Option Addr) (n c : Nat) (l : List Int) (w : World) (h : Byt w A n c l) (hT : Tab w) :
  Calls Tryz.prog 72 #[.slice A n c] w (SealPost l w) := by
 have hlen := h.len
 unfold SealPost
 by_cases hlong : (4096 : Int) < (n : Int)
 ·rw [if_pos (by omega)]
  clear h hT hlen
  go_enter Tryz.func72, Tryz.ntmps72
  go_wp2_with fail
  go_ret2
  exact ⟨none, 0, 0, rfl, World.ownsRow_nil _ _ _ _, by simp, Below.refl _ _⟩
 ·rw [if_neg (by omega)]
  have kc := conv_byt (h.alloc (.cells #[.slice none 0 0] 125))
  have W0 := Wrt.new w
  have b0 : Below w.heap.size w (w.alloc (.cells #[.slice none 0 0] 125)) := (Below.refl _ _).alloc (Nat.le_refl _) _
  have hsz := str_size l
  have C1 := wText_any w.heap.size w.heap.size [] (strOfNums l) _ W0 (by simp; omega)
  rw [nums_str l h.rng, List.nil_append] at C1
  have C1 := Lib.hid C1
  have HR := Lib.hid h.rng
  have B0 := Lib.hid b0
  have HT := Lib.hid hT
  have hle := textL_len l (by omega)
  have HLE := Lib.hid hle
  clear h hT W0 b0 hsz hle
  go_enter Tryz.func72, Tryz.ntmps72
  go_wp2_with fail
  refine C1.out.mono ?_
  rintro e w1 ⟨rfl, R1, b1⟩
  obtain ⟨A1, n1, c1, hb1, ho1⟩ := R1.ex
  have hcell : w1.cell? ⟨w.heap.size, 0, none⟩ = some (.slice A1 n1 c1) := hb1.cell 0
  have B1 := B0.out.trans b1
  have C2 := Lib.hid (sumOf_any A1 n1 c1 (textL l) w1 (Byt.of_own ho1 R1.rng) (HT.out.ret B1))
  have R1 := Lib.hid R1
  have B1 := Lib.hid B1
  clear b1 hb1 ho1 C1
  go_wp2_with fail
  refine C2.out.mono ?_
  rintro e w2 ⟨A2, n2, c2, rfl, hb2, b2⟩
  have hn2 : n2 ≤ 4 := by have := hb2.len; rw [sumL_len] at this; omega
  have hle := HLE.out
  have C3 := Lib.hid (put_any w.heap.size w.heap.size (textL l) (sumL (textL l)) A2 n2 c2 w2 (R1.out.ret b2) hb2 (by omega))
  have B2 := Lib.hid (B1.out.trans (b2.mono R1.out.base_le))
  clear hb2 b2 hcell hn2 hle C2 R1 B1
  go_wp2_with fail
  refine C3.out.mono ?_
  rintro e w3 ⟨rfl, R3, b3⟩
  obtain ⟨A3, n3, c3, hb3, ho3⟩ := R3.ex
  have hcell : w3.cell? ⟨w.heap.size, 0, none⟩ = some (.slice A3 n3 c3) := hb3.cell 0
  have R3 := Lib.hid R3
  have O3 := Lib.hid ho3
  have B3 := Lib.hid (B2.out.trans b3)
  clear b3 hb3 ho3 C3 B2
  go_wp2_with fail
  go_ret2
  exact ⟨A3, n3, c3, rfl, O3.out, R3.out.rng, B3.out⟩
end

/- rec.encode answers a record's bytes, if it may be. -/
section
open Go.RowKit
def SameX (x y : Xr) : Prop := x.tx = y.tx ∧ x.prev = y.prev ∧ x.next = y.next ∧ x.key = y.key ∧ x.old.has = y.old.has ∧ x.old.data = y.old.data ∧ x.new.has = y.new.has ∧ x.new.data = y.new.data ∧ x.co = y.co ∧ x.mn = y.mn ∧ x.kn = y.kn ∧ x.rn = y.rn ∧ x.dn = y.dn ∧ x.en = y.en ∧ x.pn = y.pn
def IsSame : Prop := ∀ (x y : Xr) (w : World), Calls Tryz.prog 67 #[x.val, y.val] w (fun e w' => ∃ b, e = .returned (.bool b) ∧ (b = true ↔ SameX x y) ∧ Below w.heap.size w w')
theorem sameX_iff {H : Nat} {w w' : World} {x y : Xr} (hx : XrIn H w x) (hy : XrIn H w' y) : SameX x y ↔ sameRc x.read y.read := by
 unfold SameX sameRc Xr.read
 simp only [List.length_map, hx.mem.len, hx.lks.len, hx.rows.len, hx.dirty.len, hx.deeds.len, hx.past.len, hy.mem.len, hy.lks.len, hy.rows.len, hy.dirty.len, hy.deeds.len, hy.past.len]
 have v : ∀ a b : Vl, a = b ↔ a.has = b.has ∧ a.data = b.data := fun a b => ⟨fun h => by rw [h]; exact ⟨rfl, rfl⟩, fun h => by obtain ⟨a1, a2⟩ := a; obtain ⟨b1, b2⟩ := b; obtain ⟨h1, h2⟩ := h; simp only at h1 h2; subst h1 h2; rfl⟩
 rw [v x.old, v x.new]
 simp only [and_assoc]
theorem wpList_load_row_g {P : Program} {ops : Array Oper} {rest : List Oper} {o : Oper} {a : Act} {w : World} {Q : Exit → Act → World → Prop} (hgd : Region.wanted o (yielded ops a.tmps) = true) (ty : TypeId) (x : Operand) (ho : o.op = .load ty x)
  (g : Nat) (hx : a.eval x = .pointer (some ⟨g, 0, none⟩)) (t : TypeId) (cs : Array Value) (fr : Nat × Nat) (d : TypeDesc) (hg : w.heap[g]? = some (.cells cs t fr))
  (hu : P.underlying ty = some d) (hd : (match d with | .struct _ | .array _ _ => true | _ => false) = true) (hi : (P.info? ty).map (·.size) = some cs.size)
  (h : wpList P ops Q rest (a.put o.dst (.agg cs)) w) : wpList P ops Q (o :: rest) a w :=
 wpList_guarded hgd fun _ hK => wp_load_row ty x ho g hx t cs fr d hg hu hd hi (hK _ _ h)
def EncR (r : Rc) (w : World) (e : Ending) (w' : World) : Prop :=
 ((r.ok ∧ ∃ A n c, e = .returned (.tuple #[.slice A n c, .bool true]) ∧ w'.ownsRow w.heap.size 5 1 (.slice A n c) n ((rcL r).map (Value.int .u8)) ∧ (∀ x ∈ rcL r, 0 ≤ x ∧ x < 256) ∧ (rcL r).length ≤ 100000000000000) ∨
  (¬ r.ok ∧ e = .returned (.tuple #[.slice none 0 0, .bool false]))) ∧ Below w.heap.size w w'
def Xr.cells (x : Xr) : Array Value := #[.int .i64 x.kind, .int .i64 x.tx, .int .i64 x.prev, .int .i64 x.next, .string x.key, .bool x.old.has, .string x.old.data, .bool x.new.has, .string x.new.data, .int .i64 x.co, .slice x.mA x.mn x.mc, .slice x.kA x.kn x.kc, .slice x.rA x.rn x.rc, .slice x.dA x.dn x.dc, .slice x.eA x.en x.ec, .slice x.pA x.pn x.pc]
theorem Xr.val_eq (x : Xr) : x.val = .agg x.cells := rfl
theorem Xr.cells_one (x : Xr) : x.cells.all (·.oneCell') = true := by simp [Xr.cells, Value.oneCell']
theorem whole_out {r y : Rc} {k1 : Int} {l l1 l2 : List Int} {B B1 B2 : Nat} {wr1 wr2 : Bool} (hk : 1 ≤ r.kind ∧ r.kind ≤ 10) (h : Goes (numS 1 10) r.kind (.out l B) false k1 (.out l1 B1) wr1) (k : Goes (kindSp r.kind) r (.out l1 B1) wr1 y (.out l2 B2) wr2) :
  (wr2 = false ↔ (kindSp r.kind).ok r) ∧ (wr2 = false → y = (kindSp r.kind).keep r ∧ l2 = l ++ rcL r) := by
 obtain ⟨l1', e1, h1, h2⟩ := h
 obtain ⟨l2', e2, k1', k2⟩ := k
 injection e1 with a1 a2
 injection e2 with b1 b2
 subst a1 b1
 have hw1 : wr1 = false := h1.2 ⟨rfl, hk⟩
 refine ⟨k1'.trans ⟨fun q => q.2, fun q => ⟨hw1, q⟩⟩, fun q => ?_⟩
 obtain ⟨c, d⟩ := k2 q
 refine ⟨c, ?_⟩
 rw [d, (h2 hw1).2, kindSp_enc]
 show l ++ numL r.kind ++ restLk r.kind r = l ++ rcL r
 rw [List.append_assoc]; rfl
theorem renc_any (HI : IsSame) (x : Xr) (w : World) (hx : XrIn w.heap.size w x) : Calls Tryz.prog 44 #[x.val] w (EncR x.read w) := by
 rw [Xr.val_eq]
 obtain ⟨r, hrr⟩ : ∃ r, w.heap.size = r := ⟨_, rfl⟩
 obtain ⟨C, hC⟩ : ∃ C, C = x.cells := ⟨_, rfl⟩
 rw [← hC]
 have hCs : C.size = 16 := by rw [hC]; rfl
 obtain ⟨W1, hW1⟩ : ∃ W1, W1 = ((w.alloc (.cells C 30)).alloc (.cells #[.slice none 0 0] 125)).alloc (.cells #[.pointer (some ⟨r + 1, 0, none⟩), .pointer none, .bool false] 129) := ⟨_, rfl⟩
 have hb0 : Below w.heap.size w (w.alloc (.cells C 30)) := (Below.refl _ _).alloc (Nat.le_refl _) _
 have hb1 : Below w.heap.size w ((w.alloc (.cells C 30)).alloc (.cells #[.slice none 0 0] 125)) := hb0.alloc (by simp) _
 have HB : Hid (Below w.heap.size w W1) := Lib.hid (by rw [hW1]; exact hb1.alloc (by simp; omega) _)
 have HV : Hid (Bk W1 r 30 C) := Lib.hid (by
  rw [hW1, ← hrr]
  exact ((Bk.new w _ _).bel ((Below.refl _ _).alloc (Nat.le_refl _) _) (by simp)).bel ((Below.refl _ _).alloc (Nat.le_refl _) _) (by simp; omega))
 have HP : Hid (Pst r W1 (r + 2) (.out [] 0) false) := Lib.hid (by
  refine ⟨r + 1, [], ⟨by omega, rfl⟩, ?_, ?_, Nat.le_refl _, fun _ => rfl⟩
  ·rw [hW1, ← hrr]
   have := Bk.new ((w.alloc (.cells C 30)).alloc (.cells #[.slice none 0 0] 125)) 129 #[.pointer (some ⟨w.heap.size + 1, 0, none⟩), .pointer none, .bool false]
   rw [World.size_alloc, World.size_alloc] at this
   exact this
  ·have wn := Wrt.new (w.alloc (.cells C 30))
   rw [World.size_alloc, hrr] at wn
   have wl : Wrt ((w.alloc (.cells C 30)).alloc (.cells #[.slice none 0 0] 125)) r (r + 1) [] := by
    obtain ⟨A, n, c, k1, k2⟩ := wn.ex
    exact ⟨by omega, wn.rng, A, n, c, k1, owns_low k2 (by omega)⟩
   rw [hW1]
   exact wl.ret ((Below.refl _ _).alloc (Nat.le_refl _) _))
 have hx1 : XrIn r W1 x := by rw [← hrr]; exact hx.calm (Calm.of_below HB.out)
 have HX := Lib.hid hx1
 have k0 : W1.cell? ⟨r, 0, none⟩ = some (.int .i64 x.kind) := by rw [HV.out.cell 0, hC]; rfl
 have CK := Lib.hid (kind_any (H := r) (pb := r + 2) (.out [] 0) false x.kind HP.out hx1.kind (by show 0 + 10 ≤ _; omega))
 have HW := Lib.hid hW1
 have HRR := Lib.hid hrr
 have HCS := Lib.hid hCs
 have HCE := Lib.hid hC
 clear hx hx1 hW1 hb0 hb1 hC hCs
 go_enter Tryz.func44, Tryz.ntmps44
 go_upto_region 3 with (refine wpList_store_new rfl rfl (c := #[.pointer none, .pointer none, .bool false]) (c' := #[.pointer (some ⟨r + 1, 0, none⟩), .pointer none, .bool false]) rfl (by simp [hrr]) rfl (by kernel_rfl) rfl rfl ?_; simp only [Act.put])
 (try rw [hrr])
 rw [← HW.out]
 clear HW hrr
 go_wp2_with fail
 refine CK.out.mono ?_
 rintro e v1 ⟨_, k1, s1, wr1, rfl, ⟨rfl, -⟩, hg1, hp1, hc1⟩
 have V1 := Lib.hid (HV.out.calm rfl hc1)
 have X1 := Lib.hid (HX.out.calm hc1)
 have G1 := Lib.hid hg1
 have P1 := Lib.hid hp1
 have C1 : Hid (Calm r w v1) := Lib.hid ((Calm.of_below HB.out).trans hc1)
 have R1 : Hid (s1.room 10000000) := Lib.hid (hg1.room (c := 10000000) (by show 0 + (10 + 10000000) ≤ _; omega))
 have HSZ := HB.out.size
 have HRL : Hid (r ≤ v1.heap.size) := Lib.hid (by have := hc1.size; have := HRR.out; omega)
 clear hg1 hp1 hc1 CK HP HV HX k0 HSZ
 by_cases hk : 1 ≤ x.kind ∧ x.kind ≤ 10
 ·have CF := Lib.hid (fieldsAll_any s1 wr1 x P1.out X1.out hk R1.out)
  have HK := Lib.hid hk
  clear hk
  rw [Xr.val_eq, ← HCE.out] at CF
  go_wp2_with (refine wpList_load_row rfl 30 _ rfl r rfl 30 _ (0, 0) _ V1.out Tryz.underlying30 rfl (by rw [HCS.out]; exact inf_rec) ?_)
  refine CF.out.mono ?_
  rintro e v2 ⟨_, y, s2, wr2, rfl, ⟨x', rfl, hx', rfl⟩, hg2, hp2, hc2⟩
  obtain ⟨l1, rfl, -⟩ := id G1.out
  obtain ⟨l2, rfl, -⟩ := id hg2
  have WO := Lib.hid (whole_out (r := x.read) HK.out G1.out hg2)
  obtain ⟨W3, hW3⟩ : ∃ W3, W3 = v2.alloc (.cells x'.cells 30) := ⟨_, rfl⟩
  have B3 : Below v2.heap.size v2 W3 := by rw [hW3]; exact (Below.refl _ _).alloc (Nat.le_refl _) _
  have P3 : Hid (Pst r W3 (r + 2) _ wr2) := Lib.hid (hp2.keeps (Keeps.of_below B3))
  have K3 : Hid (Bk W3 v2.heap.size 30 x'.cells) := Lib.hid (by rw [hW3]; exact Bk.new v2 _ _)
  have V3 := Lib.hid ((V1.out.calm rfl hc2).calm rfl (Calm.of_below (H := r) B3))
  have C3 : Hid (Calm r w W3) := Lib.hid ((C1.out.trans hc2).trans (Calm.of_below B3))
  have HSM := Lib.hid (sameX_iff hx' X1.out)
  have c2 : W3.cell? ⟨r + 2, 2, none⟩ = some (.bool wr2) := P3.out.ptrs.1
  have HW3 := Lib.hid hW3
  have HSV : Hid (r ≤ v2.heap.size) := Lib.hid (Nat.le_trans HRL.out hc2.size)
  clear hg2 hp2 hc2 hx' hW3 B3 CF
  go_upto_region 5 with (refine wpList_store_new rfl (W := v2) rfl (c := #[.int .i64 0, .int .i64 0, .int .i64 0, .int .i64 0, .string ⟨#[]⟩, .bool false, .string ⟨#[]⟩, .bool false, .string ⟨#[]⟩, .int .i64 0, .slice none 0 0, .slice none 0 0, .slice none 0 0, .slice none 0 0, .slice none 0 0, .slice none 0 0]) (c' := x'.cells) rfl rfl rfl inf_rec rfl (Xr.cells_one x') ?_; simp only [Act.put])
  rw [← HW3.out]
  clear HW3
  cases wr2 with
  | true =>
   have R : Hid (EncR x.read w (.returned (.tuple #[.slice none 0 0, .bool false])) W3) := Lib.hid ⟨.inr ⟨(fun q => by
    have := ((ok_iff _).2 q).2.1
    have := WO.out.1.2 this
    cases this), rfl⟩, by have := C3.out.below (by rw [HRR.out]; exact Nat.le_refl r); rw [HRR.out]; exact this⟩
   clear WO P3 K3 V3 C3 HSM
   go_wp2_with fail
   go_ret2
   exact R.out
  | false =>
   have CI := Lib.hid (HI x' x W3)
   rw [Xr.val_eq, Xr.val_eq, ← HCE.out] at CI
   go_wp2_with (first
    | (refine wpList_load_row_g rfl 30 _ rfl v2.heap.size rfl 30 _ (0, 0) _ K3.out Tryz.underlying30 rfl inf_rec ?_)
    | (refine wpList_load_row_g rfl 30 _ rfl r rfl 30 _ (0, 0) _ V3.out Tryz.underlying30 rfl (by rw [HCS.out]; exact inf_rec) ?_))
   refine CI.out.mono ?_
   rintro e v4 ⟨b, rfl, hb, hbel⟩
   have HBB := Lib.hid hb
   have C4 : Hid (Calm r w v4) := Lib.hid (C3.out.trans (Calm.of_below hbel))
   have P4 := Lib.hid (P3.out.keeps (Keeps.of_below hbel))
   clear hb hbel CI c2
   cases b with
   | false =>
    have R : Hid (EncR x.read w (.returned (.tuple #[.slice none 0 0, .bool false])) v4) := Lib.hid ⟨.inr ⟨(fun q => by
     have h3 := ((ok_iff _).2 q).2.2
     have e1 := (WO.out.2 (by first | rfl | trivial)).1
     have := HBB.out.2 (HSM.out.2 (by rw [e1]; exact (same_iff _ HK.out).2 h3))
     cases this), rfl⟩, by have := C4.out.below (by rw [HRR.out]; exact Nat.le_refl r); rw [HRR.out]; exact this⟩
    clear WO P3 K3 V3 C3 HSM P4 C4
    go_wp2_with fail
    go_ret2
    exact R.out
   | true =>
    have hok : x.read.ok := by
     have e1 := (WO.out.2 (by first | rfl | trivial)).1
     have := HSM.out.1 (HBB.out.1 rfl)
     rw [e1] at this
     exact (ok_iff _).1 ⟨HK.out, WO.out.1.1 (by first | rfl | trivial), (same_iff _ HK.out).1 this⟩
    have el : l2 = rcL x.read := by have := (WO.out.2 (by first | rfl | trivial)).2; rw [this]; rfl
    obtain ⟨q1, q2⟩ := P4.out.bytes
    have e3 : r + 2 - 1 = r + 1 := by omega
    rw [e3] at q1
    have hbd : l2.length ≤ 100000000000000 := by
     have h1 : (kindSp x.kind).cost ≤ 10000000 := kindSp_cost _
     have h2 : (numS 1 10).cost = 10 := rfl
     omega
    have CB := Lib.hid (wBytes_own r (r + 1) l2 v4 q1 (by omega))
    have HOK := Lib.hid hok
    have HEL := Lib.hid (And.intro el hbd)
    clear hok el q1 q2 e3 hbd WO P3 K3 V3 C3 HSM P4
    go_wp2_with fail
    refine CB.out.mono ?_
    rintro e v5 ⟨A, n, c, rfl, ho, hr, hb5⟩
    have R : Hid (EncR x.read w (.returned (.tuple #[.slice A n c, .bool true])) v5) := Lib.hid ⟨.inl ⟨HOK.out, A, n, c, rfl, by
     rw [← HEL.out.1]
     exact owns_low ho C4.out.size, by rw [← HEL.out.1]; exact hr, by rw [← HEL.out.1]; exact HEL.out.2⟩, by
     have := (C4.out.trans (Calm.of_below hb5)).below (by rw [HRR.out]; exact Nat.le_refl r)
     rw [HRR.out]; exact this⟩
    clear ho hr hb5
    go_wp2_with fail
    go_ret2
    exact R.out
 ·have CF := Lib.hid (fieldsZ_any s1 wr1 x P1.out hk)
  rw [Xr.val_eq, ← HCE.out] at CF
  have hwr : wr1 = true := by
   obtain ⟨l1, e1, h1, _⟩ := G1.out
   cases wr1 with
   | true => rfl
   | false => exact absurd (h1.1 rfl).2 hk
  have HNK := Lib.hid hk
  clear hk
  go_wp2_with (refine wpList_load_row rfl 30 _ rfl r rfl 30 _ (0, 0) _ V1.out Tryz.underlying30 rfl (by rw [HCS.out]; exact inf_rec) ?_)
  refine CF.out.mono ?_
  rintro e v2 ⟨rfl, hp2, hc2⟩
  obtain ⟨W3, hW3⟩ : ∃ W3, W3 = v2.alloc (.cells xr0.cells 30) := ⟨_, rfl⟩
  have B3 : Below v2.heap.size v2 W3 := by rw [hW3]; exact (Below.refl _ _).alloc (Nat.le_refl _) _
  have P3 : Pst r W3 (r + 2) _ wr1 := hp2.keeps (Keeps.of_below B3)
  have C3 : Hid (Calm r w W3) := Lib.hid ((C1.out.trans hc2).trans (Calm.of_below B3))
  have c2 : W3.cell? ⟨r + 2, 2, none⟩ = some (.bool true) := by rw [← hwr]; exact P3.ptrs.1
  have HW3 := Lib.hid hW3
  clear hp2 hc2 hW3 B3 CF P3
  go_upto_region 5 with (refine wpList_store_new rfl (W := v2) rfl (c := #[.int .i64 0, .int .i64 0, .int .i64 0, .int .i64 0, .string ⟨#[]⟩, .bool false, .string ⟨#[]⟩, .bool false, .string ⟨#[]⟩, .int .i64 0, .slice none 0 0, .slice none 0 0, .slice none 0 0, .slice none 0 0, .slice none 0 0, .slice none 0 0]) (c' := xr0.cells) rfl rfl rfl inf_rec rfl (Xr.cells_one xr0) ?_; simp only [Act.put])
  rw [← HW3.out]
  clear HW3
  have R : Hid (EncR x.read w (.returned (.tuple #[.slice none 0 0, .bool false])) W3) := Lib.hid ⟨.inr ⟨fun q => HNK.out q.kind, rfl⟩, by have := C3.out.below (by rw [HRR.out]; exact Nat.le_refl r); rw [HRR.out]; exact this⟩
  clear C3
  go_wp2_with fail
  go_ret2
  exact R.out
end

/- rec.May, Encode, Size answer as the document says, in plain mathematics. -/
section
open Go.RowKit
open Classical in
noncomputable def encE (r : Rc) : Nat := if r.ok then (if 4096 < (rcL r).length then 12 else 0) else 1
noncomputable def encB (r : Rc) : List Int := if encE r = 0 then rcL r else []
theorem encE_no {r : Rc} (h : ¬ r.ok) : encE r = 1 := if_neg h
theorem encE_long {r : Rc} (h : r.ok) (hl : 4096 < (rcL r).length) : encE r = 12 := by unfold encE; rw [if_pos h, if_pos hl]
theorem encE_ok {r : Rc} (h : r.ok) (hl : ¬ 4096 < (rcL r).length) : encE r = 0 := by unfold encE; rw [if_pos h, if_neg hl]
theorem encE_zero {r : Rc} (h : encE r = 0) : r.ok ∧ (rcL r).length ≤ 4096 := by
 unfold encE at h
 split at h
 ·rename_i q
  split at h
  ·cases h
  ·exact ⟨q, by omega⟩
 ·cases h
theorem recEncode_any (HI : IsSame) (x : Xr) (w : World) (hx : XrIn w.heap.size w x) : Calls Tryz.prog 21 #[x.val] w (RetOwn2 (encB x.read) (encE x.read) w) := by
 obtain ⟨C, hC⟩ : ∃ C, C = x.cells := ⟨_, rfl⟩
 have hb : Below w.heap.size w (w.alloc (.cells C 30)) := (Below.refl _ _).alloc (Nat.le_refl _) _
 have CE := Lib.hid (renc_any HI x (w.alloc (.cells C 30)) (by
  have h1 := hx.calm (Calm.of_below hb)
  have hs : w.heap.size ≤ (w.alloc (.cells C 30)).heap.size := hb.size
  exact h1.up hs))
 have HV : Hid (Bk (w.alloc (.cells C 30)) w.heap.size 30 C) := Lib.hid (Bk.new w _ _)
 have HB := Lib.hid hb
 have HCS : Hid (C.size = 16) := Lib.hid (by rw [hC]; rfl)
 rw [Xr.val_eq, ← hC] at CE ⊢
 clear hx hb hC
 go_enter Tryz.func21, Tryz.ntmps21
 go_wp2_with (refine wpList_load_row rfl 30 _ rfl w.heap.size rfl 30 _ (0, 0) _ HV.out Tryz.underlying30 rfl (by rw [HCS.out]; exact inf_rec) ?_)
 refine CE.out.mono ?_
 rintro e w1 ⟨h, hb1⟩
 have B1 := Lib.hid (Below.then HB.out hb1)
 clear hb1
 rcases h with ⟨hok, A, n, c, rfl, ho, hr, hlen⟩ | ⟨hok, rfl⟩
 ·have hn : (rcL x.read).length = n := by simpa using ho.1
  by_cases hl : 4096 < n
  ·have R : Hid (RetOwn2 (encB x.read) (encE x.read) w (.returned (.tuple #[.slice none 0 0, .int .i64 12])) w1) := Lib.hid (by
    have e := encE_long hok (by rw [hn]; exact hl)
    have e2 : encB x.read = [] := by unfold encB; rw [e]; rfl
    rw [e, e2]
    exact ⟨none, 0, 0, rfl, World.ownsRow_nil _ _ _ _, by simp, B1.out⟩)
   have hl' : (4096 : Int) < (n : Int) := by omega
   clear ho hr hlen hn hok hl
   go_wp2_with fail
   go_ret2
   exact R.out
  ·have R : Hid (RetOwn2 (encB x.read) (encE x.read) w (.returned (.tuple #[.slice A n c, .int .i64 0])) w1) := Lib.hid (by
    have e := encE_ok hok (by rw [hn]; exact hl)
    have e2 : encB x.read = rcL x.read := by unfold encB; rw [e]; rfl
    rw [e, e2]
    exact ⟨A, n, c, rfl, owns_low ho HB.out.size, hr, B1.out⟩)
   have hl' : ¬ (4096 : Int) < (n : Int) := by omega
   clear ho hr hlen hn hok hl
   go_wp2_with fail
   go_ret2
   exact R.out
 ·have R : Hid (RetOwn2 (encB x.read) (encE x.read) w (.returned (.tuple #[.slice none 0 0, .int .i64 1])) w1) := Lib.hid (by
   have e := encE_no hok
   have e2 : encB x.read = [] := by unfold encB; rw [e]; rfl
   rw [e, e2]
   exact ⟨none, 0, 0, rfl, World.ownsRow_nil _ _ _ _, by simp, B1.out⟩)
  clear hok
  go_wp2_with fail
  go_ret2
  exact R.out
end

/- master.numbers answers the five places of a record. -/
section
open Go.RowKit
def ptrs5 (b : Nat) : Value := .agg #[.pointer (some ⟨b, 0, none⟩), .pointer (some ⟨b, 1, none⟩), .pointer (some ⟨b, 2, none⟩), .pointer (some ⟨b, 3, none⟩), .pointer (some ⟨b, 4, none⟩)]
theorem run_index_ptrs {P : Program} (w : World) (t e te : TypeId) (n : Nat) (cs : Array Value) (i : Nat) (v : Value) (hi : i < n) (hu : P.underlying t = some (.array n e)) (hue : P.underlying e = some (.pointer te)) (hs : (P.info? e).map (·.size) = some 1) (ha : cs[i]? = some v) :
  (Instr.index t (.agg cs) (.int .i64 (i : Int))).run P w = .ok v w := by
 cases hq : P.info? e with
 | none => simp [hq] at hs
 | some ie =>
  have h1 : ie.size = 1 := by simpa [hq] using hs
  have hsz : ∀ w, (sizeOf e).run P w = .ok 1 w := fun w => by simp [sizeOf, typeInfo, hq, h1]
  have hagg : ∀ w, (isAgg e).run P w = .ok false w := fun w => by simp [isAgg, Sem.run_bind, run_underlying hue w]
  have hc : (0 ≤ (i : Int) ∧ (i : Int) < ((n : Nat) : Int)) := by omega
  unfold Instr.index
  simp only [Sem.run_bind, asIntOf, Sem.run_pure, Result.andThen, run_underlying hu w]
  rw [if_pos hc]
  simp only [Sem.run_bind, hsz, Result.andThen, part, hagg, Int.toNat_natCast, Nat.mul_one, ha]
  simp
/-- Each of the five. -/
theorem ptrs_at (b : Nat) (w : World) (k : Nat) (hk : k < 5) : (Instr.index 146 (ptrs5 b) (.int .i64 (k : Int))).run Tryz.prog w = .ok (.pointer (some ⟨b, k, none⟩)) w :=
 run_index_ptrs w 146 145 3 5 _ k _ hk Tryz.underlying146 Tryz.underlying145 (by rfl) (by
  match k, hk with
  | 0, _ => rfl
  | 1, _ => rfl
  | 2, _ => rfl
  | 3, _ => rfl
  | 4, _ => rfl)
theorem ptrs_all (b : Nat) : (∀ w, (Instr.index 146 (ptrs5 b) (.int .i64 0)).run Tryz.prog w = .ok (.pointer (some ⟨b, 0, none⟩)) w) ∧ (∀ w, (Instr.index 146 (ptrs5 b) (.int .i64 1)).run Tryz.prog w = .ok (.pointer (some ⟨b, 1, none⟩)) w) ∧ (∀ w, (Instr.index 146 (ptrs5 b) (.int .i64 2)).run Tryz.prog w = .ok (.pointer (some ⟨b, 2, none⟩)) w) ∧ (∀ w, (Instr.index 146 (ptrs5 b) (.int .i64 3)).run Tryz.prog w = .ok (.pointer (some ⟨b, 3, none⟩)) w) ∧ (∀ w, (Instr.index 146 (ptrs5 b) (.int .i64 4)).run Tryz.prog w = .ok (.pointer (some ⟨b, 4, none⟩)) w) :=
 ⟨fun w => ptrs_at b w 0 (by omega), fun w => ptrs_at b w 1 (by omega), fun w => ptrs_at b w 2 (by omega), fun w => ptrs_at b w 3 (by omega), fun w => ptrs_at b w 4 (by omega)⟩
theorem numbers_any (b : Nat) (w : World) :
  Calls Tryz.prog 81 #[.pointer (some ⟨b, 0, none⟩)] w (Ret (ptrs5 b) w) := by
 unfold ptrs5
 go_enter Tryz.func81, Tryz.ntmps81
 go_wp2_with fail
 go_region
 go_wp2_with fail
 go_returns
 exact ⟨rfl, ((Below.refl _ _).alloc (Nat.le_refl _) _).drew⟩
theorem isValid_any (m : Ms) (w : World) :
  Calls Tryz.prog 56 #[msV m] w (Ret (.bool (decide m.ok)) w) := by
 have CN := Lib.hid (numbers_any w.heap.size (w.alloc (.cells #[.int .i64 m.gen, .int .i64 m.inc, .int .i64 m.first, .int .i64 m.lsn, .int .i64 m.chk] 63)))
 unfold msV
 go_enter Tryz.func56, Tryz.ntmps56
 go_wp2_with fail
 refine CN.out.mono ?_
 rintro e w1 ⟨rfl, b1⟩
 have hk := (Bk.new w 63 #[.int .i64 m.gen, .int .i64 m.inc, .int .i64 m.first, .int .i64 m.lsn, .int .i64 m.chk]).bel b1 (by simp)
 have c0 : w1.cell? ⟨w.heap.size, 0, none⟩ = some (.int .i64 m.gen) := hk.cell 0
 have c1 : w1.cell? ⟨w.heap.size, 1, none⟩ = some (.int .i64 m.inc) := hk.cell 1
 have c2 : w1.cell? ⟨w.heap.size, 2, none⟩ = some (.int .i64 m.first) := hk.cell 2
 have c3 : w1.cell? ⟨w.heap.size, 3, none⟩ = some (.int .i64 m.lsn) := hk.cell 3
 have c4 : w1.cell? ⟨w.heap.size, 4, none⟩ = some (.int .i64 m.chk) := hk.cell 4
 have B1 := Lib.hid (((Below.refl w.heap.size w).alloc (Nat.le_refl _) _).trans (b1.mono (by simp)))
 clear hk b1 CN
 obtain ⟨q0, q1, q2, q3, q4⟩ := ptrs_all w.heap.size
 go_wp2_with fail
 have HNO : Hid (¬ ((1 ≤ m.gen ∧ m.gen ≤ 1099511627776) ∧ (0 ≤ m.inc ∧ m.inc ≤ 1099511627776) ∧ (0 ≤ m.first ∧ m.first ≤ 1099511627776) ∧ (0 ≤ m.lsn ∧ m.lsn ≤ 1099511627776) ∧ (0 ≤ m.chk ∧ m.chk ≤ 1099511627776)) → decide m.ok = false) := Lib.hid fun q => decide_eq_false fun h => q ⟨h.gen, h.inc, h.first, h.lsn, h.chk⟩
 have HYES : Hid (((1 ≤ m.gen ∧ m.gen ≤ 1099511627776) ∧ (0 ≤ m.inc ∧ m.inc ≤ 1099511627776) ∧ (0 ≤ m.first ∧ m.first ≤ 1099511627776) ∧ (0 ≤ m.lsn ∧ m.lsn ≤ 1099511627776) ∧ (0 ≤ m.chk ∧ m.chk ≤ 1099511627776)) → decide m.ok = true) := Lib.hid fun ⟨a, b, c, d, e⟩ => decide_eq_true ⟨a, b, c, d, e⟩
 by_cases hg : 0 < m.gen
 ·go_rounds 6
  all_goals go_returns
  all_goals refine ⟨?_, B1.out⟩
  all_goals first
   | (rw [HNO.out (by omega)]; first | rfl | exact congrArg (fun b => Ending.returned (.bool b)) (decide_eq_false (by omega)))
   | (rw [HYES.out (by omega)]; first | rfl | exact congrArg (fun b => Ending.returned (.bool b)) (decide_eq_true (by omega)))
 ·go_rounds 6
  all_goals go_returns
  all_goals refine ⟨?_, B1.out⟩
  all_goals first
   | (rw [HNO.out (by omega)]; first | rfl | exact congrArg (fun b => Ending.returned (.bool b)) (decide_eq_false (by omega)))
   | (rw [HYES.out (by omega)]; first | rfl | exact congrArg (fun b => Ending.returned (.bool b)) (decide_eq_true (by omega)))
theorem sectorOf_any (m : Ms) (w : World) (h : 0 ≤ m.gen) :
  Calls Tryz.prog 57 #[msV m] w (Ret (.int .i64 (m.gen % 2)) w) := by
 obtain ⟨g, hg⟩ := Int.eq_ofNat_of_zero_le h
 unfold msV
 rw [hg]
 clear hg h
 go_enter Tryz.func57, Tryz.ntmps57
 go_wp2_with fail
 go_ret
 exact ⟨rfl, (Below.refl _ _).alloc (Nat.le_refl _) _⟩
end

/- master.encode answers a record's bytes. -/
section
open Go.RowKit
def msC (m : Ms) : Array Value := #[.int .i64 m.gen, .int .i64 m.inc, .int .i64 m.first, .int .i64 m.lsn, .int .i64 m.chk]
theorem encode_any (m : Ms) (hm : m.fits) (w : World) :
  Calls Tryz.prog 58 #[msV m] w (RetOwn (bodyM m) w) := by
 have HLEN := Lib.hid (bodyN_len hm)
 have HALL := Lib.hid (bodyN_all m)
 have HM := Lib.hid hm
 obtain ⟨q0, q1, q2, q3, q4⟩ := ptrs_all w.heap.size
 obtain ⟨W1, hW1⟩ : ∃ W1, W1 = (w.alloc (.cells #[.int .i64 m.gen, .int .i64 m.inc, .int .i64 m.first, .int .i64 m.lsn, .int .i64 m.chk] 63)).alloc (.cells #[.slice none 0 0] 125) := ⟨_, rfl⟩
 have HK1 : Hid (Bk W1 w.heap.size 63 (msC m)) := Lib.hid (by rw [hW1]; exact (Bk.new w _ _).bel ((Below.refl _ _).alloc (Nat.le_refl _) _) (by simp))
 have HB1 : Hid (Below w.heap.size w W1) := Lib.hid (by rw [hW1]; exact ((Below.refl _ _).alloc (Nat.le_refl _) _).alloc (by simp) _)
 have HR0 : Hid (Wrt W1 (w.heap.size + 1) (w.heap.size + 1) (bodyN m 0)) := Lib.hid (by
  rw [hW1]
  have := Wrt.new (w.alloc (.cells #[.int .i64 m.gen, .int .i64 m.inc, .int .i64 m.first, .int .i64 m.lsn, .int .i64 m.chk] 63))
  rw [World.size_alloc] at this
  exact this)
 have HS1 : Hid (W1.heap.size = w.heap.size + 2) := Lib.hid (by rw [hW1]; simp)
 have HW1 := Lib.hid hW1
 unfold msV
 clear hm hW1
 go_enter Tryz.func58, Tryz.ntmps58
 go_wp2_with fail
 rw [← HW1.out]
 have CN := Lib.hid (numbers_any w.heap.size W1)
 go_wp2_with fail
 refine CN.out.mono ?_
 rintro e w0 ⟨rfl, b0⟩
 have R0 := Lib.hid (HR0.out.ret b0)
 have B0 : Hid (Below (w.heap.size + 1) W1 w0) := Lib.hid (b0.mono (by have := HS1.out; omega))
 have K0 : Hid (Bk w0 w.heap.size 63 (msC m)) := Lib.hid (HK1.out.bel B0.out (by omega))
 clear b0 CN HR0 HW1
 go_wp2_with fail
 refine wp_loop_rounds 6 ?_
 rw [rounds_succ]
 have c0 : w0.cell? ⟨w.heap.size, 0, none⟩ = some (.int .i64 m.gen) := K0.out.cell 0
 have CW0 := Lib.hid (wNum_any (w.heap.size + 1) (w.heap.size + 1) (bodyN m 0) (m.at_ 0) w0 R0.out (HM.out 0) (by have := HLEN.out 0; omega))
 go_wp2_with fail
 refine CW0.out.mono ?_
 rintro e w1 ⟨rfl, hw, hb⟩
 have R1 : Hid (Wrt w1 (w.heap.size + 1) (w.heap.size + 1) (bodyN m 1)) := Lib.hid hw
 have B1 : Hid (Below (w.heap.size + 1) W1 w1) := Lib.hid (B0.out.trans hb)
 have K1 : Hid (Bk w1 w.heap.size 63 (msC m)) := Lib.hid (HK1.out.bel B1.out (by omega))
 clear hw hb c0 CW0
 go_wp2_with fail
 rw [rounds_succ]
 have c1 : w1.cell? ⟨w.heap.size, 1, none⟩ = some (.int .i64 m.inc) := K1.out.cell 1
 have CW1 := Lib.hid (wNum_any (w.heap.size + 1) (w.heap.size + 1) (bodyN m 1) (m.at_ 1) w1 R1.out (HM.out 1) (by have := HLEN.out 1; omega))
 go_wp2_with fail
 refine CW1.out.mono ?_
 rintro e w2 ⟨rfl, hw, hb⟩
 have R2 : Hid (Wrt w2 (w.heap.size + 1) (w.heap.size + 1) (bodyN m 2)) := Lib.hid hw
 have B2 : Hid (Below (w.heap.size + 1) W1 w2) := Lib.hid (B1.out.trans hb)
 have K2 : Hid (Bk w2 w.heap.size 63 (msC m)) := Lib.hid (HK1.out.bel B2.out (by omega))
 clear hw hb c1 CW1
 go_wp2_with fail
 rw [rounds_succ]
 have c2 : w2.cell? ⟨w.heap.size, 2, none⟩ = some (.int .i64 m.first) := K2.out.cell 2
 have CW2 := Lib.hid (wNum_any (w.heap.size + 1) (w.heap.size + 1) (bodyN m 2) (m.at_ 2) w2 R2.out (HM.out 2) (by have := HLEN.out 2; omega))
 go_wp2_with fail
 refine CW2.out.mono ?_
 rintro e w3 ⟨rfl, hw, hb⟩
 have R3 : Hid (Wrt w3 (w.heap.size + 1) (w.heap.size + 1) (bodyN m 3)) := Lib.hid hw
 have B3 : Hid (Below (w.heap.size + 1) W1 w3) := Lib.hid (B2.out.trans hb)
 have K3 : Hid (Bk w3 w.heap.size 63 (msC m)) := Lib.hid (HK1.out.bel B3.out (by omega))
 clear hw hb c2 CW2
 go_wp2_with fail
 rw [rounds_succ]
 have c3 : w3.cell? ⟨w.heap.size, 3, none⟩ = some (.int .i64 m.lsn) := K3.out.cell 3
 have CW3 := Lib.hid (wNum_any (w.heap.size + 1) (w.heap.size + 1) (bodyN m 3) (m.at_ 3) w3 R3.out (HM.out 3) (by have := HLEN.out 3; omega))
 go_wp2_with fail
 refine CW3.out.mono ?_
 rintro e w4 ⟨rfl, hw, hb⟩
 have R4 : Hid (Wrt w4 (w.heap.size + 1) (w.heap.size + 1) (bodyN m 4)) := Lib.hid hw
 have B4 : Hid (Below (w.heap.size + 1) W1 w4) := Lib.hid (B3.out.trans hb)
 have K4 : Hid (Bk w4 w.heap.size 63 (msC m)) := Lib.hid (HK1.out.bel B4.out (by omega))
 clear hw hb c3 CW3
 go_wp2_with fail
 rw [rounds_succ]
 have c4 : w4.cell? ⟨w.heap.size, 4, none⟩ = some (.int .i64 m.chk) := K4.out.cell 4
 have CW4 := Lib.hid (wNum_any (w.heap.size + 1) (w.heap.size + 1) (bodyN m 4) (m.at_ 4) w4 R4.out (HM.out 4) (by have := HLEN.out 4; omega))
 go_wp2_with fail
 refine CW4.out.mono ?_
 rintro e w5 ⟨rfl, hw, hb⟩
 have R5 : Hid (Wrt w5 (w.heap.size + 1) (w.heap.size + 1) (bodyN m 5)) := Lib.hid hw
 have B5 : Hid (Below (w.heap.size + 1) W1 w5) := Lib.hid (B4.out.trans hb)
 have K5 : Hid (Bk w5 w.heap.size 63 (msC m)) := Lib.hid (HK1.out.bel B5.out (by omega))
 clear hw hb c4 CW4
 go_wp2_with fail
 rw [rounds_succ]
 have CB := Lib.hid (wBytes_own (w.heap.size + 1) (w.heap.size + 1) (bodyN m 5) w5 R5.out (by have := HLEN.out 5; omega))
 rw [HALL.out] at CB
 go_wp2_with fail
 refine CB.out.mono ?_
 rintro e w6 ⟨A, n, c, rfl, ho, hr, hb⟩
 have hs5 := B5.out.size
 have hs1 := HS1.out
 have hle : w.heap.size ≤ w5.heap.size := by omega
 have R6 : Hid (RetOwn (bodyM m) w (.returned (.slice A n c)) w6) := Lib.hid ⟨A, n, c, rfl, owns_low ho hle, hr, (HB1.out.trans (B5.out.mono (by omega))).trans (hb.mono hle)⟩
 clear ho hr hb CB
 go_wp2_with fail
 go_ret
 exact R6.out
end
end Go.Proofs.YtfmfmdiegabobabGreatDoor

/- What it says: contracts and plain mathematics that the laws' walks use, 11 of 34: each part's own remark says what; no condition. -/
import Derived.Test.YtfldcddbmikfiaaPw8
import Derived.Test.YtfldcddbmikfiaaPw9
import Derived.Test.YtfldcddbmikfiaaPw10
import Derived.LoopTactic
import Derived.Deep.CutBlock

set_option linter.unusedSimpArgs false
set_option linter.unusedVariables false
set_option linter.deprecated false
set_option linter.unusedSectionVars false
set_option linter.all false

/- what rec passes on of one of its rows, and of a list of them. -/
namespace Go.Proofs.Ytfldcddbmikfiaa
open Go.RowKit
theorem one_cR (u0 : Int) (u1 : Int) (u2 : Int) (u3 : Int) (u4 : Int) (u5 : Int) (A6 : Option Addr) (n6 c6 : Nat) (A7 : Option Addr) (n7 c7 : Nat) : (#[.int .i64 u0, .int .i64 u1, .int .i64 u2, .int .i64 u3, .int .i64 u4, .int .i64 u5, .slice A6 n6 c6, .slice A7 n7 c7] : Array Value).all (·.oneCell') = true := by simp [Value.oneCell']
theorem goes_cR {x : Rw} {y : ((((((Int × Int) × Int) × Int) × Int) × Int) × List Int) × List Lk} {s s' : Ps} {wr wr' : Bool} (h : Goes ((((((((numS 1 1099511627776).pair (numS 1 4)).pair (numS 0 1099511627776)).pair (numS 0 1099511627776)).pair (numS 0 1099511627776)).pair (numS 0 7)).pair memSp).pair lksSp) (((((((x.tx, x.st), x.fi), x.la), x.un), x.co), x.mem), x.lks) s wr y s' wr') : Goes rwSp x s wr (⟨y.1.1.1.1.1.1.1, y.1.1.1.1.1.1.2, y.1.1.1.1.1.2, y.1.1.1.1.2, y.1.1.1.2, y.1.1.2, y.1.2, y.2⟩ : Rw) s' wr' :=
  Goes.map (f := fun y : ((((((Int × Int) × Int) × Int) × Int) × Int) × List Int) × List Lk => (⟨y.1.1.1.1.1.1.1, y.1.1.1.1.1.1.2, y.1.1.1.1.1.2, y.1.1.1.1.2, y.1.1.1.2, y.1.1.2, y.1.2, y.2⟩ : Rw)) (g := fun x : Rw => (((((((x.tx, x.st), x.fi), x.la), x.un), x.co), x.mem), x.lks)) (fun _ => rfl) h
theorem inf_cR : (Try.prog.info? 51).map (·.size) = some 8 := by kernel_rfl
section
variable {H pb : Nat} {w : World}
set_option maxRecDepth 100000 in
set_option maxHeartbeats 8000000 in
theorem eachR_any [Inhabited Prop] (s : Ps) (wr : Bool) (q : Addr) (x : Xw) (h : Pst H w pb s wr) (hq : stab H w q.block) (hqc : w.cell? q = some (.pointer (some ⟨pb, 0, none⟩))) (hx : elR.inn H w x) (hr : s.room rwSp.cost) :
    Calls Try.prog 77 #[.agg (elR.cells x).toArray, .pointer (some q)] w (RetV rwSp (VE elR Xw.row (fun x => .agg (elR.cells x).toArray) H) (Xw.row x) H pb s wr w) := by
  have hr0 : s.room 18256 := hr.mono (by decide)
  have ecs : (Value.agg (elR.cells x).toArray) = .agg #[.int .i64 x.tx, .int .i64 x.st, .int .i64 x.fi, .int .i64 x.la, .int .i64 x.un, .int .i64 x.co, .slice x.mA x.mn x.mc, .slice x.kA x.kn x.kc] := rfl
  rw [ecs]
  clear ecs hr
  obtain ⟨r, hrr⟩ : ∃ r, w.heap.size = r := ⟨_, rfl⟩
  obtain ⟨W1, hW1⟩ : ∃ W1, W1 = (w.alloc (.cells #[.int .i64 x.tx, .int .i64 x.st, .int .i64 x.fi, .int .i64 x.la, .int .i64 x.un, .int .i64 x.co, .slice x.mA x.mn x.mc, .slice x.kA x.kn x.kc] 51)).alloc (.cells #[.int .i64 0, .int .i64 0, .int .i64 0, .int .i64 0, .int .i64 0, .int .i64 0, .slice none 0 0, .slice none 0 0] 51) := ⟨_, rfl⟩
  have HB : Hid (Below w.heap.size w W1) := Lib.hid (by rw [hW1]; exact ((Below.refl _ _).alloc (Nat.le_refl _) _).alloc (by simp) _)
  have HV : Hid (Bk W1 r 51 #[.int .i64 x.tx, .int .i64 x.st, .int .i64 x.fi, .int .i64 x.la, .int .i64 x.un, .int .i64 x.co, .slice x.mA x.mn x.mc, .slice x.kA x.kn x.kc]) := Lib.hid (by rw [hW1, ← hrr]; exact (Bk.new w _ _).bel ((Below.refl _ _).alloc (Nat.le_refl _) _) (by simp))
  have HRS : Hid (Bk W1 (r + 1) 51 #[.int .i64 0, .int .i64 0, .int .i64 0, .int .i64 0, .int .i64 0, .int .i64 0, .slice none 0 0, .slice none 0 0]) := Lib.hid (by
    rw [hW1, ← hrr]
    have := Bk.new (w.alloc (.cells #[.int .i64 x.tx, .int .i64 x.st, .int .i64 x.fi, .int .i64 x.la, .int .i64 x.un, .int .i64 x.co, .slice x.mA x.mn x.mc, .slice x.kA x.kn x.kc] 51)) 51 #[.int .i64 0, .int .i64 0, .int .i64 0, .int .i64 0, .int .i64 0, .int .i64 0, .slice none 0 0, .slice none 0 0]
    rw [World.size_alloc] at this
    exact this)
  have HQ : Hid (stab H W1 q.block) := Lib.hid (hq.calm (Calm.of_below HB.out))
  have hqc1 : W1.cell? q = some (.pointer (some ⟨pb, 0, none⟩)) := ((Calm.of_below (H := H) HB.out).cell hq).trans hqc
  have P0 : Hid (Pst H W1.drew pb s wr) := Lib.hid ((h.keeps (Keeps.of_below HB.out)).keeps ⟨Nat.le_refl _, fun _ _ => rfl⟩)
  have HX : Hid (elR.inn H W1.drew x) := Lib.hid (elR.calm H w _ x hx (by have := Calm.of_below (H := H) HB.out; exact ⟨this.os, this.tape, this.output, this.size, this.block⟩))
  have R0 := Lib.hid hr0
  have HLOW := Lib.hid h.low
  have HRR := Lib.hid hrr
  have HW := Lib.hid hW1
  have KS : Hid (∀ W, Calm H W1.drew W → W.cell? q = some (.pointer (some ⟨pb, 0, none⟩)) ∧ W.cell? ⟨r, 0, none⟩ = some (.int .i64 x.tx) ∧ W.cell? ⟨r, 1, none⟩ = some (.int .i64 x.st) ∧ W.cell? ⟨r, 2, none⟩ = some (.int .i64 x.fi) ∧ W.cell? ⟨r, 3, none⟩ = some (.int .i64 x.la) ∧ W.cell? ⟨r, 4, none⟩ = some (.int .i64 x.un) ∧ W.cell? ⟨r, 5, none⟩ = some (.int .i64 x.co) ∧ W.cell? ⟨r, 6, none⟩ = some (.slice x.mA x.mn x.mc) ∧ W.cell? ⟨r, 7, none⟩ = some (.slice x.kA x.kn x.kc)) := Lib.hid (fun W hc => ⟨(hc.cell (p := q) HQ.out).trans hqc1, ((HV.out.calm (w1 := W) rfl (by exact (⟨hc.os, hc.tape, hc.output, hc.size, hc.block⟩ : Calm H W1 W))).cell 0), ((HV.out.calm (w1 := W) rfl (by exact (⟨hc.os, hc.tape, hc.output, hc.size, hc.block⟩ : Calm H W1 W))).cell 1), ((HV.out.calm (w1 := W) rfl (by exact (⟨hc.os, hc.tape, hc.output, hc.size, hc.block⟩ : Calm H W1 W))).cell 2), ((HV.out.calm (w1 := W) rfl (by exact (⟨hc.os, hc.tape, hc.output, hc.size, hc.block⟩ : Calm H W1 W))).cell 3), ((HV.out.calm (w1 := W) rfl (by exact (⟨hc.os, hc.tape, hc.output, hc.size, hc.block⟩ : Calm H W1 W))).cell 4), ((HV.out.calm (w1 := W) rfl (by exact (⟨hc.os, hc.tape, hc.output, hc.size, hc.block⟩ : Calm H W1 W))).cell 5), ((HV.out.calm (w1 := W) rfl (by exact (⟨hc.os, hc.tape, hc.output, hc.size, hc.block⟩ : Calm H W1 W))).cell 6), ((HV.out.calm (w1 := W) rfl (by exact (⟨hc.os, hc.tape, hc.output, hc.size, hc.block⟩ : Calm H W1 W))).cell 7)⟩)
  clear h hr0 hW1 hq hqc hqc1 hx
  go_enter Try.func77, Try.ntmps77
  go_wp2_with fail
  (try rw [hrr])
  rw [← HW.out]
  clear HW hrr
  have hS0 := KS.out W1.drew (Calm.refl H _)
  refine wp_region_noPanic ?_
  refine upto_start (fun w' => w'.cell? q = some (.pointer (some ⟨pb, 0, none⟩)) ∧ w'.cell? ⟨r, 0, none⟩ = some (.int .i64 x.tx) ∧ w'.cell? ⟨r, 1, none⟩ = some (.int .i64 x.st) ∧ w'.cell? ⟨r, 2, none⟩ = some (.int .i64 x.fi) ∧ w'.cell? ⟨r, 3, none⟩ = some (.int .i64 x.la) ∧ w'.cell? ⟨r, 4, none⟩ = some (.int .i64 x.un) ∧ w'.cell? ⟨r, 5, none⟩ = some (.int .i64 x.co) ∧ w'.cell? ⟨r, 6, none⟩ = some (.slice x.mA x.mn x.mc) ∧ w'.cell? ⟨r, 7, none⟩ = some (.slice x.kA x.kn x.kc)) 33 (by kernel_rfl) ?_
  change Upto _ _ _ _ _ 34 _ _ _
  refine Upto.take (i := 0) (v := ?_) rfl (by kernel_rfl) (fun _ _ _ h => h) rfl (fun w' hS => ?_) hS0 ?_
  rotate_left
  · (try dsimp only at hS); go_split_ands; go_simp; (try with_reducible rfl)
  simp only [Act.put, List.setIfInBounds_toArray, List.set_cons_zero, List.set_cons_succ]
  refine Upto.take (i := 1) (v := ?_) rfl (by kernel_rfl) (fun _ _ _ h => h) rfl (fun w' hS => ?_) hS0 ?_
  rotate_left
  · (try dsimp only at hS); go_split_ands; go_simp; (try with_reducible rfl)
  simp only [Act.put, List.setIfInBounds_toArray, List.set_cons_zero, List.set_cons_succ]
  refine Upto.take (i := 2) (v := ?_) rfl (by kernel_rfl) (fun _ _ _ h => h) rfl (fun w' hS => ?_) hS0 ?_
  rotate_left
  · (try dsimp only at hS); go_split_ands; go_simp; (try with_reducible rfl)
  simp only [Act.put, List.setIfInBounds_toArray, List.set_cons_zero, List.set_cons_succ]
  refine Upto.take (i := 4) (v := ?_) rfl (by kernel_rfl) (fun _ _ _ h => h) rfl (fun w' hS => ?_) hS0 ?_
  rotate_left
  · (try dsimp only at hS); go_split_ands; go_simp; (try with_reducible rfl)
  simp only [Act.put, List.setIfInBounds_toArray, List.set_cons_zero, List.set_cons_succ]
  refine Upto.take (i := 5) (v := ?_) rfl (by kernel_rfl) (fun _ _ _ h => h) rfl (fun w' hS => ?_) hS0 ?_
  rotate_left
  · (try dsimp only at hS); go_split_ands; go_simp; (try with_reducible rfl)
  simp only [Act.put, List.setIfInBounds_toArray, List.set_cons_zero, List.set_cons_succ]
  refine Upto.take (i := 6) (v := ?_) rfl (by kernel_rfl) (fun _ _ _ h => h) rfl (fun w' hS => ?_) hS0 ?_
  rotate_left
  · (try dsimp only at hS); go_split_ands; go_simp; (try with_reducible rfl)
  simp only [Act.put, List.setIfInBounds_toArray, List.set_cons_zero, List.set_cons_succ]
  refine Upto.take (i := 8) (v := ?_) rfl (by kernel_rfl) (fun _ _ _ h => h) rfl (fun w' hS => ?_) hS0 ?_
  rotate_left
  · (try dsimp only at hS); go_split_ands; go_simp; (try with_reducible rfl)
  simp only [Act.put, List.setIfInBounds_toArray, List.set_cons_zero, List.set_cons_succ]
  refine Upto.take (i := 9) (v := ?_) rfl (by kernel_rfl) (fun _ _ _ h => h) rfl (fun w' hS => ?_) hS0 ?_
  rotate_left
  · (try dsimp only at hS); go_split_ands; go_simp; (try with_reducible rfl)
  simp only [Act.put, List.setIfInBounds_toArray, List.set_cons_zero, List.set_cons_succ]
  refine Upto.take (i := 10) (v := ?_) rfl (by kernel_rfl) (fun _ _ _ h => h) rfl (fun w' hS => ?_) hS0 ?_
  rotate_left
  · (try dsimp only at hS); go_split_ands; go_simp; (try with_reducible rfl)
  simp only [Act.put, List.setIfInBounds_toArray, List.set_cons_zero, List.set_cons_succ]
  refine Upto.take (i := 12) (v := ?_) rfl (by kernel_rfl) (fun _ _ _ h => h) rfl (fun w' hS => ?_) hS0 ?_
  rotate_left
  · (try dsimp only at hS); go_split_ands; go_simp; (try with_reducible rfl)
  simp only [Act.put, List.setIfInBounds_toArray, List.set_cons_zero, List.set_cons_succ]
  refine Upto.take (i := 13) (v := ?_) rfl (by kernel_rfl) (fun _ _ _ h => h) rfl (fun w' hS => ?_) hS0 ?_
  rotate_left
  · (try dsimp only at hS); go_split_ands; go_simp; (try with_reducible rfl)
  simp only [Act.put, List.setIfInBounds_toArray, List.set_cons_zero, List.set_cons_succ]
  refine Upto.take (i := 14) (v := ?_) rfl (by kernel_rfl) (fun _ _ _ h => h) rfl (fun w' hS => ?_) hS0 ?_
  rotate_left
  · (try dsimp only at hS); go_split_ands; go_simp; (try with_reducible rfl)
  simp only [Act.put, List.setIfInBounds_toArray, List.set_cons_zero, List.set_cons_succ]
  refine Upto.take (i := 16) (v := ?_) rfl (by kernel_rfl) (fun _ _ _ h => h) rfl (fun w' hS => ?_) hS0 ?_
  rotate_left
  · (try dsimp only at hS); go_split_ands; go_simp; (try with_reducible rfl)
  simp only [Act.put, List.setIfInBounds_toArray, List.set_cons_zero, List.set_cons_succ]
  refine Upto.take (i := 17) (v := ?_) rfl (by kernel_rfl) (fun _ _ _ h => h) rfl (fun w' hS => ?_) hS0 ?_
  rotate_left
  · (try dsimp only at hS); go_split_ands; go_simp; (try with_reducible rfl)
  simp only [Act.put, List.setIfInBounds_toArray, List.set_cons_zero, List.set_cons_succ]
  refine Upto.take (i := 18) (v := ?_) rfl (by kernel_rfl) (fun _ _ _ h => h) rfl (fun w' hS => ?_) hS0 ?_
  rotate_left
  · (try dsimp only at hS); go_split_ands; go_simp; (try with_reducible rfl)
  simp only [Act.put, List.setIfInBounds_toArray, List.set_cons_zero, List.set_cons_succ]
  refine Upto.take (i := 20) (v := ?_) rfl (by kernel_rfl) (fun _ _ _ h => h) rfl (fun w' hS => ?_) hS0 ?_
  rotate_left
  · (try dsimp only at hS); go_split_ands; go_simp; (try with_reducible rfl)
  simp only [Act.put, List.setIfInBounds_toArray, List.set_cons_zero, List.set_cons_succ]
  refine Upto.take (i := 21) (v := ?_) rfl (by kernel_rfl) (fun _ _ _ h => h) rfl (fun w' hS => ?_) hS0 ?_
  rotate_left
  · (try dsimp only at hS); go_split_ands; go_simp; (try with_reducible rfl)
  simp only [Act.put, List.setIfInBounds_toArray, List.set_cons_zero, List.set_cons_succ]
  refine Upto.take (i := 22) (v := ?_) rfl (by kernel_rfl) (fun _ _ _ h => h) rfl (fun w' hS => ?_) hS0 ?_
  rotate_left
  · (try dsimp only at hS); go_split_ands; go_simp; (try with_reducible rfl)
  simp only [Act.put, List.setIfInBounds_toArray, List.set_cons_zero, List.set_cons_succ]
  refine Upto.take (i := 24) (v := ?_) rfl (by kernel_rfl) (fun _ _ _ h => h) rfl (fun w' hS => ?_) hS0 ?_
  rotate_left
  · (try dsimp only at hS); go_split_ands; go_simp; (try with_reducible rfl)
  simp only [Act.put, List.setIfInBounds_toArray, List.set_cons_zero, List.set_cons_succ]
  refine Upto.take (i := 25) (v := ?_) rfl (by kernel_rfl) (fun _ _ _ h => h) rfl (fun w' hS => ?_) hS0 ?_
  rotate_left
  · (try dsimp only at hS); go_split_ands; go_simp; (try with_reducible rfl)
  simp only [Act.put, List.setIfInBounds_toArray, List.set_cons_zero, List.set_cons_succ]
  refine Upto.take (i := 26) (v := ?_) rfl (by kernel_rfl) (fun _ _ _ h => h) rfl (fun w' hS => ?_) hS0 ?_
  rotate_left
  · (try dsimp only at hS); go_split_ands; go_simp; (try with_reducible rfl)
  simp only [Act.put, List.setIfInBounds_toArray, List.set_cons_zero, List.set_cons_succ]
  refine Upto.take (i := 28) (v := ?_) rfl (by kernel_rfl) (fun _ _ _ h => h) rfl (fun w' hS => ?_) hS0 ?_
  rotate_left
  · (try dsimp only at hS); go_split_ands; go_simp; (try with_reducible rfl)
  simp only [Act.put, List.setIfInBounds_toArray, List.set_cons_zero, List.set_cons_succ]
  refine Upto.take (i := 29) (v := ?_) rfl (by kernel_rfl) (fun _ _ _ h => h) rfl (fun w' hS => ?_) hS0 ?_
  rotate_left
  · (try dsimp only at hS); go_split_ands; go_simp; (try with_reducible rfl)
  simp only [Act.put, List.setIfInBounds_toArray, List.set_cons_zero, List.set_cons_succ]
  refine Upto.take (i := 30) (v := ?_) rfl (by kernel_rfl) (fun _ _ _ h => h) rfl (fun w' hS => ?_) hS0 ?_
  rotate_left
  · (try dsimp only at hS); go_split_ands; go_simp; (try with_reducible rfl)
  simp only [Act.put, List.setIfInBounds_toArray, List.set_cons_zero, List.set_cons_succ]
  have C0 := Lib.hid (Calm.refl H W1.drew)
  have X1 := Lib.hid (HX.out)
  have CT1 := Lib.hid (seq_any (H := H) (pb := pb) s wr x.tx P0.out (elR.calm H _ _ x HX.out C0.out).tx (R0.out.mono (by decide)))
  refine Upto.law (i := 3) rfl (by kernel_rfl) rfl (fun K hK => ?_)
  refine wp_enter (f := 52) (args := #[.pointer (some ⟨pb, 0, none⟩), .int .i64 x.tx]) (by go_simp) CT1.out ?_
  rintro e V1 ⟨_, y1, s1, wr1, rfl, ⟨rfl, hi1⟩, hg1, hp1, hc1⟩
  have hS1 := KS.out V1 (C0.out.trans hc1)
  refine ⟨_, rfl, hK _ _ hS1 ?_⟩
  have C1 := Lib.hid (C0.out.trans hc1)
  have R1 : Hid (s1.room 18246) := Lib.hid (hg1.room (c := 18246) (R0.out.mono (by decide)))
  have G1 := Lib.hid hg1
  have P1 := Lib.hid hp1
  have D1 := Lib.hid hc1
  have I1 := Lib.hid hi1
  clear hK CT1 hg1 hp1 hc1 hS0 X1 hi1
  have hS0 := hS1
  clear hS1
  simp only [Act.put, List.setIfInBounds_toArray, List.set_cons_zero, List.set_cons_succ]
  have X2 := Lib.hid (HX.out)
  have CT2 := Lib.hid (num_any (H := H) (pb := pb) s1 wr1 x.st 1 4 P1.out (elR.calm H _ _ x HX.out C1.out).st (by omega) (by omega) (by omega) (by omega) (R1.out.mono (by decide)))
  refine Upto.law (i := 7) rfl (by kernel_rfl) rfl (fun K hK => ?_)
  refine wp_enter (f := 51) (args := #[.pointer (some ⟨pb, 0, none⟩), .int .i64 x.st, .int .i64 1, .int .i64 4]) (by go_simp) CT2.out ?_
  rintro e V2 ⟨_, y2, s2, wr2, rfl, ⟨rfl, hi2⟩, hg2, hp2, hc2⟩
  have hS2 := KS.out V2 (C1.out.trans hc2)
  refine ⟨_, rfl, hK _ _ hS2 ?_⟩
  have C2 := Lib.hid (C1.out.trans hc2)
  have R2 : Hid (s2.room 18236) := Lib.hid (hg2.room (c := 18236) (R1.out.mono (by decide)))
  have G2 := Lib.hid hg2
  have P2 := Lib.hid hp2
  have D2 := Lib.hid hc2
  have I2 := Lib.hid hi2
  clear hK CT2 hg2 hp2 hc2 hS0 X2 hi2
  have hS0 := hS2
  clear hS2
  simp only [Act.put, List.setIfInBounds_toArray, List.set_cons_zero, List.set_cons_succ]
  have X3 := Lib.hid (HX.out)
  have CT3 := Lib.hid (seqOrNone_any (H := H) (pb := pb) s2 wr2 x.fi P2.out (elR.calm H _ _ x HX.out C2.out).fi (R2.out.mono (by decide)))
  refine Upto.law (i := 11) rfl (by kernel_rfl) rfl (fun K hK => ?_)
  refine wp_enter (f := 53) (args := #[.pointer (some ⟨pb, 0, none⟩), .int .i64 x.fi]) (by go_simp) CT3.out ?_
  rintro e V3 ⟨_, y3, s3, wr3, rfl, ⟨rfl, hi3⟩, hg3, hp3, hc3⟩
  have hS3 := KS.out V3 (C2.out.trans hc3)
  refine ⟨_, rfl, hK _ _ hS3 ?_⟩
  have C3 := Lib.hid (C2.out.trans hc3)
  have R3 : Hid (s3.room 18226) := Lib.hid (hg3.room (c := 18226) (R2.out.mono (by decide)))
  have G3 := Lib.hid hg3
  have P3 := Lib.hid hp3
  have D3 := Lib.hid hc3
  have I3 := Lib.hid hi3
  clear hK CT3 hg3 hp3 hc3 hS0 X3 hi3
  have hS0 := hS3
  clear hS3
  simp only [Act.put, List.setIfInBounds_toArray, List.set_cons_zero, List.set_cons_succ]
  have X4 := Lib.hid (HX.out)
  have CT4 := Lib.hid (seqOrNone_any (H := H) (pb := pb) s3 wr3 x.la P3.out (elR.calm H _ _ x HX.out C3.out).la (R3.out.mono (by decide)))
  refine Upto.law (i := 15) rfl (by kernel_rfl) rfl (fun K hK => ?_)
  refine wp_enter (f := 53) (args := #[.pointer (some ⟨pb, 0, none⟩), .int .i64 x.la]) (by go_simp) CT4.out ?_
  rintro e V4 ⟨_, y4, s4, wr4, rfl, ⟨rfl, hi4⟩, hg4, hp4, hc4⟩
  have hS4 := KS.out V4 (C3.out.trans hc4)
  refine ⟨_, rfl, hK _ _ hS4 ?_⟩
  have C4 := Lib.hid (C3.out.trans hc4)
  have R4 : Hid (s4.room 18216) := Lib.hid (hg4.room (c := 18216) (R3.out.mono (by decide)))
  have G4 := Lib.hid hg4
  have P4 := Lib.hid hp4
  have D4 := Lib.hid hc4
  have I4 := Lib.hid hi4
  clear hK CT4 hg4 hp4 hc4 hS0 X4 hi4
  have hS0 := hS4
  clear hS4
  simp only [Act.put, List.setIfInBounds_toArray, List.set_cons_zero, List.set_cons_succ]
  have X5 := Lib.hid (HX.out)
  have CT5 := Lib.hid (seqOrNone_any (H := H) (pb := pb) s4 wr4 x.un P4.out (elR.calm H _ _ x HX.out C4.out).un (R4.out.mono (by decide)))
  refine Upto.law (i := 19) rfl (by kernel_rfl) rfl (fun K hK => ?_)
  refine wp_enter (f := 53) (args := #[.pointer (some ⟨pb, 0, none⟩), .int .i64 x.un]) (by go_simp) CT5.out ?_
  rintro e V5 ⟨_, y5, s5, wr5, rfl, ⟨rfl, hi5⟩, hg5, hp5, hc5⟩
  have hS5 := KS.out V5 (C4.out.trans hc5)
  refine ⟨_, rfl, hK _ _ hS5 ?_⟩
  have C5 := Lib.hid (C4.out.trans hc5)
  have R5 : Hid (s5.room 18206) := Lib.hid (hg5.room (c := 18206) (R4.out.mono (by decide)))
  have G5 := Lib.hid hg5
  have P5 := Lib.hid hp5
  have D5 := Lib.hid hc5
  have I5 := Lib.hid hi5
  clear hK CT5 hg5 hp5 hc5 hS0 X5 hi5
  have hS0 := hS5
  clear hS5
  simp only [Act.put, List.setIfInBounds_toArray, List.set_cons_zero, List.set_cons_succ]
  have X6 := Lib.hid (HX.out)
  have CT6 := Lib.hid (node_any (H := H) (pb := pb) s5 wr5 x.co P5.out (elR.calm H _ _ x HX.out C5.out).co (R5.out.mono (by decide)))
  refine Upto.law (i := 23) rfl (by kernel_rfl) rfl (fun K hK => ?_)
  refine wp_enter (f := 56) (args := #[.pointer (some ⟨pb, 0, none⟩), .int .i64 x.co]) (by go_simp) CT6.out ?_
  rintro e V6 ⟨_, y6, s6, wr6, rfl, ⟨rfl, hi6⟩, hg6, hp6, hc6⟩
  have hS6 := KS.out V6 (C5.out.trans hc6)
  refine ⟨_, rfl, hK _ _ hS6 ?_⟩
  have C6 := Lib.hid (C5.out.trans hc6)
  have R6 : Hid (s6.room 18196) := Lib.hid (hg6.room (c := 18196) (R5.out.mono (by decide)))
  have G6 := Lib.hid hg6
  have P6 := Lib.hid hp6
  have D6 := Lib.hid hc6
  have I6 := Lib.hid hi6
  clear hK CT6 hg6 hp6 hc6 hS0 X6 hi6
  have hS0 := hS6
  clear hS6
  simp only [Act.put, List.setIfInBounds_toArray, List.set_cons_zero, List.set_cons_succ]
  have X7 := Lib.hid (HX.out)
  have CT7 := Lib.hid (members_any (H := H) (pb := pb) s6 wr6 x.mA x.mn x.mc x.mem P6.out (elR.calm H _ _ x HX.out C6.out).mem (R6.out.mono (by decide)))
  refine Upto.law (i := 27) rfl (by kernel_rfl) rfl (fun K hK => ?_)
  refine wp_enter (f := 57) (args := #[.pointer (some ⟨pb, 0, none⟩), .slice x.mA x.mn x.mc]) (by go_simp) CT7.out ?_
  rintro e V7 ⟨_, y7, s7, wr7, rfl, ⟨A7, n7, c7, l7, rfl, hi7, rfl⟩, hg7, hp7, hc7⟩
  have hS7 := KS.out V7 (C6.out.trans hc7)
  refine ⟨_, rfl, hK _ _ hS7 ?_⟩
  have C7 := Lib.hid (C6.out.trans hc7)
  have R7 : Hid (s7.room 15626) := Lib.hid (hg7.room (c := 15626) (R6.out.mono (by decide)))
  have G7 := Lib.hid hg7
  have P7 := Lib.hid hp7
  have D7 := Lib.hid hc7
  have I7 := Lib.hid hi7
  clear hK CT7 hg7 hp7 hc7 hS0 X7 hi7
  have hS0 := hS7
  clear hS7
  simp only [Act.put, List.setIfInBounds_toArray, List.set_cons_zero, List.set_cons_succ]
  have X8 := Lib.hid (HX.out)
  have CT8 := Lib.hid (locks_any (H := H) (pb := pb) s7 wr7 x.kA x.kn x.kc x.lks P7.out (elR.calm H _ _ x HX.out C7.out).lks (R7.out.mono (by decide)))
  refine Upto.law (i := 31) rfl (by kernel_rfl) rfl (fun K hK => ?_)
  refine wp_enter (f := 58) (args := #[.pointer (some ⟨pb, 0, none⟩), .slice x.kA x.kn x.kc]) (by go_simp) CT8.out ?_
  rintro e V8 ⟨_, y8, s8, wr8, rfl, ⟨A8, n8, c8, l8, rfl, hi8, rfl⟩, hg8, hp8, hc8⟩
  have hS8 := KS.out V8 (C7.out.trans hc8)
  refine ⟨_, rfl, hK _ _ hS8 ?_⟩
  have C8 := Lib.hid (C7.out.trans hc8)
  have R8 : Hid (s8.room 0) := Lib.hid (hg8.room (c := 0) (R7.out.mono (by decide)))
  have G8 := Lib.hid hg8
  have P8 := Lib.hid hp8
  have D8 := Lib.hid hc8
  have I8 := Lib.hid hi8
  clear hK CT8 hg8 hp8 hc8 hS0 X8 hi8
  have hS0 := hS8
  clear hS8
  simp only [Act.put, List.setIfInBounds_toArray, List.set_cons_zero, List.set_cons_succ]
  refine Upto.take (i := 32) (v := ?_) rfl (by kernel_rfl) (fun _ _ _ h => h) rfl (fun w' hS => ?_) hS0 ?_
  rotate_left
  · (try dsimp only at hS); go_split_ands; go_simp; (try with_reducible rfl)
  simp only [Act.put, List.setIfInBounds_toArray, List.set_cons_zero, List.set_cons_succ]
  have RB := Lib.hid (HRS.out.calm (w1 := V8) rfl (by have := C8.out; exact ⟨this.os, this.tape, this.output, this.size, this.block⟩ : Calm H W1 V8))
  have F : Hid (RetV rwSp (VE elR Xw.row (fun x => .agg (elR.cells x).toArray) H) (Xw.row x) H pb s wr w (.returned (.agg #[.int .i64 y1, .int .i64 y2, .int .i64 y3, .int .i64 y4, .int .i64 y5, .int .i64 y6, .slice A7 n7 c7, .slice A8 n8 c8])) (V8.setRow (r + 1) #[.int .i64 y1, .int .i64 y2, .int .i64 y3, .int .i64 y4, .int .i64 y5, .int .i64 y6, .slice A7 n7 c7, .slice A8 n8 c8])) := Lib.hid (by
    have hcw : Calm H w V8 := (Calm.of_below HB.out).trans (by have := C8.out; exact ⟨this.os, this.tape, this.output, this.size, this.block⟩ : Calm H W1 V8)
    obtain ⟨a, b⟩ := P8.out.row RB.out rfl (by have := HRR.out; omega) hcw #[.int .i64 y1, .int .i64 y2, .int .i64 y3, .int .i64 y4, .int .i64 y5, .int .i64 y6, .slice A7 n7 c7, .slice A8 n8 c8]
    have hin : elR.inn H V8 (⟨y1, y2, y3, y4, y5, y6, A7, n7, c7, l7, A8, n8, c8, l8⟩ : Xw) := ⟨I1.out, I2.out, I3.out, I4.out, I5.out, I6.out, I7.out.calm D8.out, I8.out⟩
    refine ⟨_, Xw.row (⟨y1, y2, y3, y4, y5, y6, A7, n7, c7, l7, A8, n8, c8, l8⟩ : Xw), s8, wr8, rfl, ⟨(⟨y1, y2, y3, y4, y5, y6, A7, n7, c7, l7, A8, n8, c8, l8⟩ : Xw), rfl, elR.apart H _ _ _ (r + 1) 51 _ _ rfl hin (by have := HRR.out; have := HLOW.out; omega) RB.out (grown_setRow _ _ _), rfl⟩, ?_, a, b⟩
    exact goes_cR (x := Xw.row x) (((((((G1.out.pair G2.out).pair G3.out).pair G4.out).pair G5.out).pair G6.out).pair G7.out.ids).pair G8.out.ids))
  have RF := Lib.hid (RB.out.rowp #[.int .i64 y1, .int .i64 y2, .int .i64 y3, .int .i64 y4, .int .i64 y5, .int .i64 y6, .slice A7 n7 c7, .slice A8 n8 c8])
  refine Upto.tail rfl (by kernel_rfl) ?_
  simp only [List.drop_succ_cons, List.drop_zero]
  go_wp2_with (refine wpList_store_row rfl 51 _ _ rfl (r + 1) #[.int .i64 y1, .int .i64 y2, .int .i64 y3, .int .i64 y4, .int .i64 y5, .int .i64 y6, .slice A7 n7 c7, .slice A8 n8 c8] rfl rfl 51 _ RB.out inf_cR rfl (one_cR _ _ _ _ _ _ _ _ _ _ _ _) ?_; simp only [Act.put])
  refine NoPanic.normal ?_
  (try simp only [Exit.inBlock, Exit.then])
  go_wp2_with fail
  refine bodyPost_ret (results_cell_row rfl _ _ (r + 1) 51 _ (0, 0) _ rfl RF.out Try.underlying51 rfl inf_cR) rfl ?_
  exact F.out

set_option maxRecDepth 100000 in
set_option maxHeartbeats 4000000 in
theorem rows_any [Inhabited Prop] (s : Ps) (wr : Bool) (A : Option Addr) (n c : Nat) (xs : List Xw) (h : Pst H w pb s wr) (hx : Sl elR H w A n c xs) (hr : s.room rwsSp.cost) :
    Calls Try.prog 59 #[.pointer (some ⟨pb, 0, none⟩), .slice A n c] w (RetV rwsSp (VL elR Xw.row H) (xs.map Xw.row) H pb s wr w) := by
  obtain ⟨W1, hW1⟩ : ∃ W1, W1 = w.alloc (.cells #[.pointer (some ⟨pb, 0, none⟩)] 94) := ⟨_, rfl⟩
  have hb : Below w.heap.size w W1 := by rw [hW1]; exact (Below.refl _ _).alloc (Nat.le_refl _) _
  have hbk : Bk W1 w.heap.size 94 #[.pointer (some ⟨pb, 0, none⟩)] := by rw [hW1]; exact Bk.new w _ _
  have CL := Lib.hid (listR_any (H := H) (pb := pb) (w := W1) s wr A n c xs ⟨w.heap.size, 0, none⟩ (h.keeps (Keeps.of_below hb)) (hx.calm (Calm.of_below hb)) hr
    (fun w1 s1 wr1 x hc hp hi hr1 => eachR_any s1 wr1 ⟨w.heap.size, 0, none⟩ x hp ((hbk.stab rfl).calm hc) ((hbk.calm rfl hc).cell 0) hi hr1))
  have HB := Lib.hid hb
  have HW := Lib.hid hW1
  have k0 : W1.cell? ⟨w.heap.size, 0, none⟩ = some (.pointer (some ⟨pb, 0, none⟩)) := hbk.cell 0
  clear h hx hr hW1 hb hbk
  go_enter Try.func59, Try.ntmps59
  go_wp2_with fail
  rw [← HW.out]
  clear HW
  go_wp2_with fail
  refine CL.out.mono ?_
  rintro e w1 ⟨v, y, s', wr', rfl, ⟨A1, n1, c1, l1, rfl, hsl, hy⟩, hg, hp, hc⟩
  have R : Hid (RetV rwsSp (VL elR Xw.row H) (xs.map Xw.row) H pb s wr w (.returned (.slice A1 n1 c1)) w1) := Lib.hid ⟨_, y, s', wr', rfl, ⟨A1, n1, c1, l1, rfl, hsl, hy⟩, hg, hp, (Calm.of_below HB.out).trans hc⟩
  clear hsl hg hp hc hy
  go_wp2_with fail
  go_ret
  exact R.out
end
end Go.Proofs.Ytfldcddbmikfiaa

/- how each kind of record is passed on; a record's value. -/
namespace Go.Proofs.Ytfldcddbmikfiaa
open Go.RowKit
abbrev seqS : Spc Int := numS 1 1099511627776
abbrev seq0S : Spc Int := numS 0 1099511627776
def spU : Spc Rc := ((((seqS.pair seq0S).pair (textSp 1 16)).pair valSp).pair valSp).map mkU uU
def spC : Spc Rc := ((((seqS.pair seq0S).pair seq0S).pair (textSp 1 16)).pair valSp).map mkC uC
def spP : Spc Rc := ((((seqS.pair seq0S).pair (numS 0 7)).pair memSp).pair lksSp).map mkP uP
def spE (k : Int) : Spc Rc := (seqS.pair seq0S).map (mkE k) uE
def spK : Spc Rc := (((rwsSp.pair dtsSp).pair ddsSp).pair pastSp).map mkK uK
def spD : Spc Rc := (seqS.pair memSp).map mkD uD
def spF : Spc Rc := seqS.map mkF (fun r => r.tx)
/-- Nothing is passed on. -/
def spB : Spc Rc := ⟨fun σ => (rc0 7, σ), fun _ => [], fun _ => True, fun _ => rc0 7, 0⟩
theorem noneSp_goes (x : Rc) (s : Ps) (wr : Bool) : Goes spB x s wr (rc0 7) s wr := by
  cases s with
  | out l B => exact ⟨l, rfl, ⟨fun h => ⟨h, trivial⟩, fun h => h.1⟩, fun _ => ⟨rfl, (List.append_nil l).symm⟩⟩
  | inp σ => exact ⟨rfl, rfl, ⟨fun h => ⟨h, trivial⟩, fun h => h.1⟩⟩
section
def VR [Inhabited Prop] (H : Nat) (w : World) (v : Value) (y : Rc) : Prop := ∃ x : Xr, v = x.val ∧ XrIn H w x ∧ x.read = y
end
theorem i64_of (z : Int) (h : decide (-9223372036854775808 ≤ z ∧ z ≤ 9223372036854775807) = true) : i64 z := by
  have := of_decide_eq_true h
  exact this
theorem inf_rec : (Try.prog.info? 30).map (·.size) = some 16 := by kernel_rfl
theorem rec_one (a : Array Value) (h : a.all (·.oneCell') = true) : a.all (·.oneCell') = true := h
end Go.Proofs.Ytfldcddbmikfiaa

/- what rec passes on of a record is the document's record: the same readings, the same bytes, the same that may be. Plain mathematics. -/
namespace Go.Proofs.Ytfldcddbmikfiaa
open Go.RowKit

def kindSp (k : Int) : Spc Rc :=
  if k = 1 then spU else if k = 2 then spC else if k = 3 then spP else if k = 4 ∨ k = 5 ∨ k = 6 then spE k else if k = 7 then spB else if k = 8 then spK else if k = 9 then spD else spF
theorem kindSp_cost (k : Int) : (kindSp k).cost ≤ 10000000 := by
  unfold kindSp
  repeat' split
  all_goals first | decide | exact (show 20 ≤ 10000000 by omega)
theorem kindSp_p (k : Int) (σ : Sg) : (kindSp k).p σ = restP k σ := by
  unfold kindSp restP
  repeat' split
  all_goals rfl
theorem kindSp_enc (k : Int) (r : Rc) : (kindSp k).enc r = restLk k r := by
  unfold kindSp restLk
  repeat' split
  all_goals rfl

theorem rises_iff {α : Type} [Inhabited α] {p p' : α → Prop} {q : α → α → Prop} {l : List α} (h : ∀ x, p x ↔ p' x) : rises p q l ↔ rises p' q l :=
  ⟨fun a i hi => ⟨(h _).1 (a i hi).1, (a i hi).2⟩, fun a i hi => ⟨(h _).2 (a i hi).1, (a i hi).2⟩⟩
theorem mem_iff {l : List Int} : memSp.ok l ↔ memOk l := ⟨fun h => h.2, fun h => ⟨memOk_len h, h⟩⟩
theorem key_iff (k : ByteArray) : (1 ≤ (k.size : Int) ∧ (k.size : Int) ≤ 16) ↔ keyOk k := by unfold keyOk; omega
theorem lks_iff {l : List Lk} : lksSp.ok l ↔ lksOk l :=
  and_congr Iff.rfl (rises_iff fun k => ⟨fun h => (key_iff k.key).1 h.1, fun h => ⟨(key_iff k.key).2 h, trivial⟩⟩)
theorem rw_iff (r : Rw) : rwSp.ok r ↔ rwOk r := by
  constructor
  · rintro ⟨⟨⟨⟨⟨⟨⟨h1, h2⟩, h3⟩, h4⟩, h5⟩, h6⟩, h7⟩, h8⟩
    exact ⟨h1, h2, h3, h4, h5, h6, mem_iff.1 h7, lks_iff.1 h8⟩
  · rintro ⟨h1, h2, h3, h4, h5, h6, h7, h8⟩
    exact ⟨⟨⟨⟨⟨⟨⟨h1, h2⟩, h3⟩, h4⟩, h5⟩, h6⟩, mem_iff.2 h7⟩, lks_iff.2 h8⟩
theorem rws_iff {l : List Rw} : rwsSp.ok l ↔ rwsOk l := and_congr Iff.rfl (rises_iff rw_iff)
theorem dts_iff {l : List Dt} : dtsSp.ok l ↔ dtsOk l := and_congr Iff.rfl (rises_iff fun _ => Iff.rfl)
theorem dds_iff {l : List Dd} : ddsSp.ok l ↔ ddsOk l := and_congr Iff.rfl (rises_iff fun _ => and_congr Iff.rfl mem_iff)
theorem past_iff {l : List Int} : pastSp.ok l ↔ pastOk l := Iff.rfl
theorem val_iff {v : Vl} (h : valSp.keep v = v) : valSp.ok v ↔ vlOk v := by
  obtain ⟨has, data⟩ := v
  cases has with
  | true => exact ⟨fun q => q rfl, fun q => fun _ => q⟩
  | false =>
    have e : (ByteArray.empty) = data := congrArg Vl.data h
    exact ⟨fun _ => e.symm, fun _ h => by cases h⟩
theorem val_keep {v : Vl} (h : vlOk v) : valSp.keep v = v := by
  obtain ⟨has, data⟩ := v
  cases has with
  | true => rfl
  | false =>
    have e : data = ByteArray.empty := h
    show vl0 = _
    rw [e]; rfl

/-- Whether a record may be: its kind, its fields, and nothing is left out. -/
def rcOk (r : Rc) : Prop := (1 ≤ r.kind ∧ r.kind ≤ 10) ∧ (kindSp r.kind).ok r ∧ (kindSp r.kind).keep r = r
theorem ok_iff (r : Rc) : rcOk r ↔ r.ok := by
  unfold rcOk
  by_cases h1 : r.kind = 1
  · rw [show kindSp r.kind = spU by rw [h1]; rfl]
    constructor
    · rintro ⟨hk, ⟨⟨⟨⟨a, b⟩, c⟩, d⟩, e⟩, h⟩
      have h' : mkU ((((r.tx, r.prev), r.key), valSp.keep r.old), valSp.keep r.new) = r := h
      have eo : valSp.keep r.old = r.old := congrArg Rc.old h'
      have en : valSp.keep r.new = r.new := congrArg Rc.new h'
      have ex : (0 : Int) = r.next := congrArg Rc.next h'
      rw [eo, en] at h'
      refine ⟨hk, by unfold onlyRc; rw [if_pos h1]; exact h', fun q => by omega, fun _ _ => ⟨a, b, by rw [← ex]; unfold seqOk; omega⟩, fun _ => ⟨(key_iff _).1 c, (val_iff eo).1 d, (val_iff en).1 e⟩, fun _ _ q => absurd h1 q⟩
    · intro h
      obtain ⟨a, b, _⟩ := h.seq (by omega) (by omega)
      obtain ⟨c, d, e⟩ := h.vals (.inl h1)
      have ho := h.only
      unfold onlyRc at ho
      rw [if_pos h1] at ho
      refine ⟨h.kind, ⟨⟨⟨⟨a, b⟩, (key_iff _).2 c⟩, (val_iff (val_keep d)).2 d⟩, (val_iff (val_keep e)).2 e⟩, ?_⟩
      show mkU ((((r.tx, r.prev), r.key), valSp.keep r.old), valSp.keep r.new) = r
      rw [val_keep d, val_keep e]
      exact ho
  by_cases h2 : r.kind = 2
  · rw [show kindSp r.kind = spC by rw [h2]; rfl]
    constructor
    · rintro ⟨hk, ⟨⟨⟨⟨a, b⟩, b2⟩, c⟩, e⟩, h⟩
      have h' : mkC ((((r.tx, r.prev), r.next), r.key), valSp.keep r.new) = r := h
      have en : valSp.keep r.new = r.new := congrArg Rc.new h'
      have eo : vl0 = r.old := congrArg Rc.old h'
      rw [en] at h'
      refine ⟨hk, by unfold onlyRc; rw [if_neg h1, if_pos h2]; exact h', fun q => by omega, fun _ _ => ⟨a, b, b2⟩, fun _ => ⟨(key_iff _).1 c, by rw [← eo]; rfl, (val_iff en).1 e⟩, fun _ _ _ q => absurd h2 q⟩
    · intro h
      obtain ⟨a, b, b2⟩ := h.seq (by omega) (by omega)
      obtain ⟨c, d, e⟩ := h.vals (.inr h2)
      have ho := h.only
      unfold onlyRc at ho
      rw [if_neg h1, if_pos h2] at ho
      refine ⟨h.kind, ⟨⟨⟨⟨a, b⟩, b2⟩, (key_iff _).2 c⟩, (val_iff (val_keep e)).2 e⟩, ?_⟩
      show mkC ((((r.tx, r.prev), r.next), r.key), valSp.keep r.new) = r
      rw [val_keep e]
      exact ho
  by_cases h3 : r.kind = 3
  · rw [show kindSp r.kind = spP by rw [h3]; rfl]
    constructor
    · rintro ⟨hk, ⟨⟨⟨⟨a, b⟩, c⟩, d⟩, e⟩, h⟩
      have h' : mkP ((((r.tx, r.prev), r.co), r.mem), r.lks) = r := h
      have ex : (0 : Int) = r.next := congrArg Rc.next h'
      exact ⟨hk, by unfold onlyRc; rw [if_neg h1, if_neg h2, if_pos h3]; exact h', fun q => by omega, fun _ _ => ⟨a, b, by rw [← ex]; unfold seqOk; omega⟩, fun q => by omega, fun _ _ _ _ => ⟨c, mem_iff.1 d, lks_iff.1 e⟩⟩
    · intro h
      obtain ⟨a, b, _⟩ := h.seq (by omega) (by omega)
      obtain ⟨c, d, e⟩ := h.rest (by omega) (by omega) (by omega) (by omega)
      have ho := h.only
      unfold onlyRc at ho
      rw [if_neg h1, if_neg h2, if_pos h3] at ho
      exact ⟨h.kind, ⟨⟨⟨⟨a, b⟩, c⟩, mem_iff.2 d⟩, lks_iff.2 e⟩, ho⟩
  have zmem : ∀ l : List Int, [] = l → memOk l := fun l e => by subst e; exact fun i hi => absurd hi (by simp)
  have zlks : ∀ l : List Lk, [] = l → lksOk l := fun l e => by subst e; exact ⟨by simp, fun i hi => absurd hi (by simp)⟩
  by_cases h4 : r.kind = 4 ∨ r.kind = 5 ∨ r.kind = 6
  · rw [show kindSp r.kind = spE r.kind by unfold kindSp; rw [if_neg h1, if_neg h2, if_neg h3, if_pos h4]]
    constructor
    · rintro ⟨hk, ⟨a, b⟩, h⟩
      have h' : mkE r.kind (r.tx, r.prev) = r := h
      have ex : (0 : Int) = r.next := congrArg Rc.next h'
      have ec : (0 : Int) = r.co := congrArg Rc.co h'
      exact ⟨hk, by unfold onlyRc; rw [if_neg h1, if_neg h2, if_neg h3, if_pos h4]; exact h', fun q => by omega, fun _ _ => ⟨a, b, by rw [← ex]; unfold seqOk; omega⟩, fun q => by omega, fun _ _ _ _ => ⟨by omega, zmem _ (congrArg Rc.mem h'), zlks _ (congrArg Rc.lks h')⟩⟩
    · intro h
      obtain ⟨a, b, _⟩ := h.seq (by omega) (by omega)
      have ho := h.only
      unfold onlyRc at ho
      rw [if_neg h1, if_neg h2, if_neg h3, if_pos h4] at ho
      exact ⟨h.kind, ⟨a, b⟩, ho⟩
  by_cases h7 : r.kind = 7
  · rw [show kindSp r.kind = spB by rw [h7]; rfl]
    constructor
    · rintro ⟨hk, _, h⟩
      have h' : rc0 7 = r := h
      exact ⟨hk, by unfold onlyRc; rw [if_neg h1, if_neg h2, if_neg h3, if_neg h4, if_pos h7]; exact h', fun q => by omega, fun q => absurd h7 q, fun q => by omega, fun q => absurd h7 q⟩
    · intro h
      have ho := h.only
      unfold onlyRc at ho
      rw [if_neg h1, if_neg h2, if_neg h3, if_neg h4, if_pos h7] at ho
      exact ⟨h.kind, trivial, ho⟩
  by_cases h8 : r.kind = 8
  · rw [show kindSp r.kind = spK by rw [h8]; rfl]
    constructor
    · rintro ⟨hk, ⟨⟨⟨a, b⟩, c⟩, d⟩, h⟩
      have h' : mkK (((r.rows, r.dirty), r.deeds), r.past) = r := h
      exact ⟨hk, by unfold onlyRc; rw [if_neg h1, if_neg h2, if_neg h3, if_neg h4, if_neg h7, if_pos h8]; exact h', fun _ => ⟨rws_iff.1 a, dts_iff.1 b, dds_iff.1 c, past_iff.1 d⟩, fun _ q => absurd h8 q, fun q => by omega, fun _ q => absurd h8 q⟩
    · intro h
      obtain ⟨a, b, c, d⟩ := h.check h8
      have ho := h.only
      unfold onlyRc at ho
      rw [if_neg h1, if_neg h2, if_neg h3, if_neg h4, if_neg h7, if_pos h8] at ho
      exact ⟨h.kind, ⟨⟨⟨rws_iff.2 a, dts_iff.2 b⟩, dds_iff.2 c⟩, past_iff.2 d⟩, ho⟩
  by_cases h9 : r.kind = 9
  · rw [show kindSp r.kind = spD by rw [h9]; rfl]
    constructor
    · rintro ⟨hk, ⟨a, b⟩, h⟩
      have h' : mkD (r.tx, r.mem) = r := h
      have ex : (0 : Int) = r.next := congrArg Rc.next h'
      have ep : (0 : Int) = r.prev := congrArg Rc.prev h'
      have ec : (0 : Int) = r.co := congrArg Rc.co h'
      exact ⟨hk, by unfold onlyRc; rw [if_neg h1, if_neg h2, if_neg h3, if_neg h4, if_neg h7, if_neg h8, if_pos h9]; exact h', fun q => by omega, fun _ _ => ⟨a, by rw [← ep]; unfold seqOk; omega, by rw [← ex]; unfold seqOk; omega⟩, fun q => by omega, fun _ _ _ _ => ⟨by omega, mem_iff.1 b, zlks _ (congrArg Rc.lks h')⟩⟩
    · intro h
      obtain ⟨a, _, _⟩ := h.seq (by omega) (by omega)
      obtain ⟨_, d, _⟩ := h.rest (by omega) (by omega) (by omega) (by omega)
      have ho := h.only
      unfold onlyRc at ho
      rw [if_neg h1, if_neg h2, if_neg h3, if_neg h4, if_neg h7, if_neg h8, if_pos h9] at ho
      exact ⟨h.kind, ⟨a, mem_iff.2 d⟩, ho⟩
  · rw [show kindSp r.kind = spF by unfold kindSp; rw [if_neg h1, if_neg h2, if_neg h3, if_neg h4, if_neg h7, if_neg h8, if_neg h9]]
    constructor
    · rintro ⟨hk, a, h⟩
      have h' : mkF r.tx = r := h
      have ex : (0 : Int) = r.next := congrArg Rc.next h'
      have ep : (0 : Int) = r.prev := congrArg Rc.prev h'
      have ec : (0 : Int) = r.co := congrArg Rc.co h'
      exact ⟨hk, by unfold onlyRc; rw [if_neg h1, if_neg h2, if_neg h3, if_neg h4, if_neg h7, if_neg h8, if_neg h9]; exact h', fun q => by omega, fun _ _ => ⟨a, by rw [← ep]; unfold seqOk; omega, by rw [← ex]; unfold seqOk; omega⟩, fun q => by omega, fun _ _ _ _ => ⟨by omega, zmem _ (congrArg Rc.mem h'), zlks _ (congrArg Rc.lks h')⟩⟩
    · intro h
      obtain ⟨a, _, _⟩ := h.seq (by omega) (by omega)
      have ho := h.only
      unfold onlyRc at ho
      rw [if_neg h1, if_neg h2, if_neg h3, if_neg h4, if_neg h7, if_neg h8, if_neg h9] at ho
      exact ⟨h.kind, a, ho⟩

/-- What rec's isSame compares. -/
def sameRc (a b : Rc) : Prop := a.tx = b.tx ∧ a.prev = b.prev ∧ a.next = b.next ∧ a.key = b.key ∧ a.old = b.old ∧ a.new = b.new ∧ a.co = b.co ∧ a.mem.length = b.mem.length ∧ a.lks.length = b.lks.length ∧ a.rows.length = b.rows.length ∧ a.dirty.length = b.dirty.length ∧ a.deeds.length = b.deeds.length ∧ a.past.length = b.past.length
theorem keep_kind (r : Rc) (hk : 1 ≤ r.kind ∧ r.kind ≤ 10) : ((kindSp r.kind).keep r).kind = r.kind ∧ (((kindSp r.kind).keep r).mem = r.mem ∨ ((kindSp r.kind).keep r).mem = []) ∧ (((kindSp r.kind).keep r).lks = r.lks ∨ ((kindSp r.kind).keep r).lks = []) ∧ (((kindSp r.kind).keep r).rows = r.rows ∨ ((kindSp r.kind).keep r).rows = []) ∧ (((kindSp r.kind).keep r).dirty = r.dirty ∨ ((kindSp r.kind).keep r).dirty = []) ∧ (((kindSp r.kind).keep r).deeds = r.deeds ∨ ((kindSp r.kind).keep r).deeds = []) ∧ (((kindSp r.kind).keep r).past = r.past ∨ ((kindSp r.kind).keep r).past = []) := by
  by_cases h1 : r.kind = 1
  · rw [show kindSp r.kind = spU by rw [h1]; rfl]; exact ⟨h1.symm, .inr rfl, .inr rfl, .inr rfl, .inr rfl, .inr rfl, .inr rfl⟩
  by_cases h2 : r.kind = 2
  · rw [show kindSp r.kind = spC by rw [h2]; rfl]; exact ⟨h2.symm, .inr rfl, .inr rfl, .inr rfl, .inr rfl, .inr rfl, .inr rfl⟩
  by_cases h3 : r.kind = 3
  · rw [show kindSp r.kind = spP by rw [h3]; rfl]; exact ⟨h3.symm, .inl rfl, .inl rfl, .inr rfl, .inr rfl, .inr rfl, .inr rfl⟩
  by_cases h4 : r.kind = 4 ∨ r.kind = 5 ∨ r.kind = 6
  · rw [show kindSp r.kind = spE r.kind by unfold kindSp; rw [if_neg h1, if_neg h2, if_neg h3, if_pos h4]]; exact ⟨rfl, .inr rfl, .inr rfl, .inr rfl, .inr rfl, .inr rfl, .inr rfl⟩
  by_cases h7 : r.kind = 7
  · rw [show kindSp r.kind = spB by rw [h7]; rfl]; exact ⟨h7.symm, .inr rfl, .inr rfl, .inr rfl, .inr rfl, .inr rfl, .inr rfl⟩
  by_cases h8 : r.kind = 8
  · rw [show kindSp r.kind = spK by rw [h8]; rfl]; exact ⟨h8.symm, .inr rfl, .inr rfl, .inl rfl, .inl rfl, .inl rfl, .inl rfl⟩
  by_cases h9 : r.kind = 9
  · rw [show kindSp r.kind = spD by rw [h9]; rfl]; exact ⟨h9.symm, .inl rfl, .inr rfl, .inr rfl, .inr rfl, .inr rfl, .inr rfl⟩
  · rw [show kindSp r.kind = spF by unfold kindSp; rw [if_neg h1, if_neg h2, if_neg h3, if_neg h4, if_neg h7, if_neg h8, if_neg h9]]; exact ⟨show (10 : Int) = r.kind by omega, .inr rfl, .inr rfl, .inr rfl, .inr rfl, .inr rfl, .inr rfl⟩
theorem same_list {α : Type} {l m : List α} (h : l = m ∨ l = []) (hl : l.length = m.length) : l = m := by
  rcases h with h | h
  · exact h
  · rw [h] at hl ⊢
    exact (List.eq_nil_of_length_eq_zero hl.symm).symm
theorem same_iff (r : Rc) (hk : 1 ≤ r.kind ∧ r.kind ≤ 10) : sameRc ((kindSp r.kind).keep r) r ↔ (kindSp r.kind).keep r = r := by
  obtain ⟨k0, k1, k2, k3, k4, k5, k6⟩ := keep_kind r hk
  obtain ⟨y, hy⟩ : ∃ y, (kindSp r.kind).keep r = y := ⟨_, rfl⟩
  rw [hy] at k0 k1 k2 k3 k4 k5 k6 ⊢
  constructor
  · rintro ⟨a1, a2, a3, a4, a5, a6, a7, b1, b2, b3, b4, b5, b6⟩
    have c1 := same_list k1 b1
    have c2 := same_list k2 b2
    have c3 := same_list k3 b3
    have c4 := same_list k4 b4
    have c5 := same_list k5 b5
    have c6 := same_list k6 b6
    obtain ⟨z0, z1, z2, z3, z4, z5, z6, z7, z8, z9, z10, z11, z12, z13⟩ := y
    obtain ⟨r0, r1, r2, r3, r4, r5, r6, r7, r8, r9, r10, r11, r12, r13⟩ := r
    simp only at *
    subst k0 a1 a2 a3 a4 a5 a6 a7 c1 c2 c3 c4 c5 c6
    rfl
  · intro h
    rw [h]
    exact ⟨rfl, rfl, rfl, rfl, rfl, rfl, rfl, rfl, rfl, rfl, rfl, rfl, rfl⟩
end Go.Proofs.Ytfldcddbmikfiaa

/- what rec passes on of a record of kind 1. -/
namespace Go.Proofs.Ytfldcddbmikfiaa
open Go.RowKit
section
variable {H pb : Nat} {w : World}
set_option maxRecDepth 100000 in
set_option maxHeartbeats 8000000 in
theorem fieldsU_any [Inhabited Prop] (s : Ps) (wr : Bool) (x : Xr) (h : Pst H w pb s wr) (hx : XrIn H w x) (hk : x.kind = 1) (hr : s.room spU.cost) :
    Calls Try.prog 34 #[.pointer (some ⟨pb, 0, none⟩), x.val] w (RetV spU (VR H) x.read H pb s wr w) := by
  obtain ⟨kind, tx, prev, next, key, ⟨oh, od⟩, ⟨nh, nd⟩, co, mA, mn, mc, mem, kA, kn, kc, lks, rA, rn, rc, rows, dA, dn, dc, dirty, eA, en, ec, deeds, pA, pn, pc, past⟩ := x
  simp only at hk
  subst hk
  unfold Xr.val Xr.read
  simp only
  have hr0 : s.room 202 := hr.mono (by decide)
  clear hr
  obtain ⟨r, hrr⟩ : ∃ r, w.heap.size = r := ⟨_, rfl⟩
  obtain ⟨W1, hW1⟩ : ∃ W1, W1 = (w.alloc (.cells #[.int .i64 1, .int .i64 tx, .int .i64 prev, .int .i64 next, .string key, .bool oh, .string od, .bool nh, .string nd, .int .i64 co, .slice mA mn mc, .slice kA kn kc, .slice rA rn rc, .slice dA dn dc, .slice eA en ec, .slice pA pn pc] 30)).alloc (.cells #[.int .i64 0, .int .i64 0, .int .i64 0, .int .i64 0, .string ⟨#[]⟩, .bool false, .string ⟨#[]⟩, .bool false, .string ⟨#[]⟩, .int .i64 0, .slice none 0 0, .slice none 0 0, .slice none 0 0, .slice none 0 0, .slice none 0 0, .slice none 0 0] 30) := ⟨_, rfl⟩
  have HB : Hid (Below w.heap.size w W1) := Lib.hid (by rw [hW1]; exact ((Below.refl _ _).alloc (Nat.le_refl _) _).alloc (by simp) _)
  have HV : Hid (Bk W1 r 30 #[.int .i64 1, .int .i64 tx, .int .i64 prev, .int .i64 next, .string key, .bool oh, .string od, .bool nh, .string nd, .int .i64 co, .slice mA mn mc, .slice kA kn kc, .slice rA rn rc, .slice dA dn dc, .slice eA en ec, .slice pA pn pc]) := Lib.hid (by rw [hW1, ← hrr]; exact (Bk.new w _ _).bel ((Below.refl _ _).alloc (Nat.le_refl _) _) (by simp))
  have HRS : Hid (Bk W1 (r + 1) 30 #[.int .i64 0, .int .i64 0, .int .i64 0, .int .i64 0, .string ⟨#[]⟩, .bool false, .string ⟨#[]⟩, .bool false, .string ⟨#[]⟩, .int .i64 0, .slice none 0 0, .slice none 0 0, .slice none 0 0, .slice none 0 0, .slice none 0 0, .slice none 0 0]) := Lib.hid (by
    rw [hW1, ← hrr]
    have := Bk.new (w.alloc (.cells #[.int .i64 1, .int .i64 tx, .int .i64 prev, .int .i64 next, .string key, .bool oh, .string od, .bool nh, .string nd, .int .i64 co, .slice mA mn mc, .slice kA kn kc, .slice rA rn rc, .slice dA dn dc, .slice eA en ec, .slice pA pn pc] 30)) 30 #[.int .i64 0, .int .i64 0, .int .i64 0, .int .i64 0, .string ⟨#[]⟩, .bool false, .string ⟨#[]⟩, .bool false, .string ⟨#[]⟩, .int .i64 0, .slice none 0 0, .slice none 0 0, .slice none 0 0, .slice none 0 0, .slice none 0 0, .slice none 0 0]
    rw [World.size_alloc] at this
    exact this)
  have HLOW := Lib.hid h.low
  have HRR := Lib.hid hrr
  have HW := Lib.hid hW1
  have P0 : Hid (Pst H W1.drew pb s wr) := Lib.hid ((h.keeps (Keeps.of_below HB.out)).keeps ⟨Nat.le_refl _, fun _ _ => rfl⟩)
  have HX := Lib.hid (hx.calm (w' := W1.drew) (by have := Calm.of_below (H := H) HB.out; exact ⟨this.os, this.tape, this.output, this.size, this.block⟩))
  have R0 := Lib.hid hr0
  have k0 : W1.cell? ⟨r, 0, none⟩ = some (.int .i64 1) := HV.out.cell 0
  have KS : Hid (∀ W, Calm H W1.drew W → W.cell? ⟨r, 0, none⟩ = some (.int .i64 1) ∧ W.cell? ⟨r, 1, none⟩ = some (.int .i64 tx) ∧ W.cell? ⟨r, 2, none⟩ = some (.int .i64 prev) ∧ W.cell? ⟨r, 4, none⟩ = some (.string key) ∧ W.cell? ⟨r, 5, none⟩ = some (.bool oh) ∧ W.cell? ⟨r, 6, none⟩ = some (.string od) ∧ W.cell? ⟨r, 7, none⟩ = some (.bool nh) ∧ W.cell? ⟨r, 8, none⟩ = some (.string nd)) := Lib.hid (fun W hc => ⟨((HV.out.calm (w1 := W) rfl (by exact (⟨hc.os, hc.tape, hc.output, hc.size, hc.block⟩ : Calm H W1 W))).cell 0), ((HV.out.calm (w1 := W) rfl (by exact (⟨hc.os, hc.tape, hc.output, hc.size, hc.block⟩ : Calm H W1 W))).cell 1), ((HV.out.calm (w1 := W) rfl (by exact (⟨hc.os, hc.tape, hc.output, hc.size, hc.block⟩ : Calm H W1 W))).cell 2), ((HV.out.calm (w1 := W) rfl (by exact (⟨hc.os, hc.tape, hc.output, hc.size, hc.block⟩ : Calm H W1 W))).cell 4), ((HV.out.calm (w1 := W) rfl (by exact (⟨hc.os, hc.tape, hc.output, hc.size, hc.block⟩ : Calm H W1 W))).cell 5), ((HV.out.calm (w1 := W) rfl (by exact (⟨hc.os, hc.tape, hc.output, hc.size, hc.block⟩ : Calm H W1 W))).cell 6), ((HV.out.calm (w1 := W) rfl (by exact (⟨hc.os, hc.tape, hc.output, hc.size, hc.block⟩ : Calm H W1 W))).cell 7), ((HV.out.calm (w1 := W) rfl (by exact (⟨hc.os, hc.tape, hc.output, hc.size, hc.block⟩ : Calm H W1 W))).cell 8)⟩)
  clear h hr0 hW1 hx
  go_enter Try.func34, Try.ntmps34
  go_upto_region 1 with fail
  (try rw [hrr])
  rw [← HW.out]
  clear HW hrr
  go_wp2_with fail
  have hS0 := KS.out W1.drew (Calm.refl H _)
  refine wp_region_noPanic ?_
  refine upto_start (fun w' => w'.cell? ⟨r, 0, none⟩ = some (.int .i64 1) ∧ w'.cell? ⟨r, 1, none⟩ = some (.int .i64 tx) ∧ w'.cell? ⟨r, 2, none⟩ = some (.int .i64 prev) ∧ w'.cell? ⟨r, 4, none⟩ = some (.string key) ∧ w'.cell? ⟨r, 5, none⟩ = some (.bool oh) ∧ w'.cell? ⟨r, 6, none⟩ = some (.string od) ∧ w'.cell? ⟨r, 7, none⟩ = some (.bool nh) ∧ w'.cell? ⟨r, 8, none⟩ = some (.string nd)) 23 (by kernel_rfl) ?_
  change Upto _ _ _ _ _ 24 _ _ _
  refine Upto.take (i := 0) (v := ?_) rfl (by kernel_rfl) (fun _ _ _ h => h) rfl (fun w' hS => ?_) hS0 ?_
  rotate_left
  · (try dsimp only at hS); go_split_ands; go_simp; (try with_reducible rfl)
  simp only [Act.put, List.setIfInBounds_toArray, List.set_cons_zero, List.set_cons_succ]
  refine Upto.take (i := 1) (v := ?_) rfl (by kernel_rfl) (fun _ _ _ h => h) rfl (fun w' hS => ?_) hS0 ?_
  rotate_left
  · (try dsimp only at hS); go_split_ands; go_simp; (try with_reducible rfl)
  simp only [Act.put, List.setIfInBounds_toArray, List.set_cons_zero, List.set_cons_succ]
  refine Upto.take (i := 2) (v := ?_) rfl (by kernel_rfl) (fun _ _ _ h => h) rfl (fun w' hS => ?_) hS0 ?_
  rotate_left
  · (try dsimp only at hS); go_split_ands; go_simp; (try with_reducible rfl)
  simp only [Act.put, List.setIfInBounds_toArray, List.set_cons_zero, List.set_cons_succ]
  refine Upto.take (i := 3) (v := ?_) rfl (by kernel_rfl) (fun _ _ _ h => h) rfl (fun w' hS => ?_) hS0 ?_
  rotate_left
  · (try dsimp only at hS); go_split_ands; go_simp; (try with_reducible rfl)
  simp only [Act.put, List.setIfInBounds_toArray, List.set_cons_zero, List.set_cons_succ]
  refine Upto.take (i := 4) (v := ?_) rfl (by kernel_rfl) (fun _ _ _ h => h) rfl (fun w' hS => ?_) hS0 ?_
  rotate_left
  · (try dsimp only at hS); go_split_ands; go_simp; (try with_reducible rfl)
  simp only [Act.put, List.setIfInBounds_toArray, List.set_cons_zero, List.set_cons_succ]
  refine Upto.take (i := 6) (v := ?_) rfl (by kernel_rfl) (fun _ _ _ h => h) rfl (fun w' hS => ?_) hS0 ?_
  rotate_left
  · (try dsimp only at hS); go_split_ands; go_simp; (try with_reducible rfl)
  simp only [Act.put, List.setIfInBounds_toArray, List.set_cons_zero, List.set_cons_succ]
  refine Upto.take (i := 7) (v := ?_) rfl (by kernel_rfl) (fun _ _ _ h => h) rfl (fun w' hS => ?_) hS0 ?_
  rotate_left
  · (try dsimp only at hS); go_split_ands; go_simp; (try with_reducible rfl)
  simp only [Act.put, List.setIfInBounds_toArray, List.set_cons_zero, List.set_cons_succ]
  refine Upto.take (i := 8) (v := ?_) rfl (by kernel_rfl) (fun _ _ _ h => h) rfl (fun w' hS => ?_) hS0 ?_
  rotate_left
  · (try dsimp only at hS); go_split_ands; go_simp; (try with_reducible rfl)
  simp only [Act.put, List.setIfInBounds_toArray, List.set_cons_zero, List.set_cons_succ]
  refine Upto.take (i := 10) (v := ?_) rfl (by kernel_rfl) (fun _ _ _ h => h) rfl (fun w' hS => ?_) hS0 ?_
  rotate_left
  · (try dsimp only at hS); go_split_ands; go_simp; (try with_reducible rfl)
  simp only [Act.put, List.setIfInBounds_toArray, List.set_cons_zero, List.set_cons_succ]
  refine Upto.take (i := 11) (v := ?_) rfl (by kernel_rfl) (fun _ _ _ h => h) rfl (fun w' hS => ?_) hS0 ?_
  rotate_left
  · (try dsimp only at hS); go_split_ands; go_simp; (try with_reducible rfl)
  simp only [Act.put, List.setIfInBounds_toArray, List.set_cons_zero, List.set_cons_succ]
  refine Upto.take (i := 12) (v := ?_) rfl (by kernel_rfl) (fun _ _ _ h => h) rfl (fun w' hS => ?_) hS0 ?_
  rotate_left
  · (try dsimp only at hS); go_split_ands; go_simp; (try with_reducible rfl)
  simp only [Act.put, List.setIfInBounds_toArray, List.set_cons_zero, List.set_cons_succ]
  refine Upto.take (i := 14) (v := ?_) rfl (by kernel_rfl) (fun _ _ _ h => h) rfl (fun w' hS => ?_) hS0 ?_
  rotate_left
  · (try dsimp only at hS); go_split_ands; go_simp; (try with_reducible rfl)
  simp only [Act.put, List.setIfInBounds_toArray, List.set_cons_zero, List.set_cons_succ]
  refine Upto.take (i := 15) (v := ?_) rfl (by kernel_rfl) (fun _ _ _ h => h) rfl (fun w' hS => ?_) hS0 ?_
  rotate_left
  · (try dsimp only at hS); go_split_ands; go_simp; (try with_reducible rfl)
  simp only [Act.put, List.setIfInBounds_toArray, List.set_cons_zero, List.set_cons_succ]
  refine Upto.take (i := 16) (v := ?_) rfl (by kernel_rfl) (fun _ _ _ h => h) rfl (fun w' hS => ?_) hS0 ?_
  rotate_left
  · (try dsimp only at hS); go_split_ands; go_simp; (try with_reducible rfl)
  simp only [Act.put, List.setIfInBounds_toArray, List.set_cons_zero, List.set_cons_succ]
  refine Upto.take (i := 18) (v := ?_) rfl (by kernel_rfl) (fun _ _ _ h => h) rfl (fun w' hS => ?_) hS0 ?_
  rotate_left
  · (try dsimp only at hS); go_split_ands; go_simp; (try with_reducible rfl)
  simp only [Act.put, List.setIfInBounds_toArray, List.set_cons_zero, List.set_cons_succ]
  refine Upto.take (i := 19) (v := ?_) rfl (by kernel_rfl) (fun _ _ _ h => h) rfl (fun w' hS => ?_) hS0 ?_
  rotate_left
  · (try dsimp only at hS); go_split_ands; go_simp; (try with_reducible rfl)
  simp only [Act.put, List.setIfInBounds_toArray, List.set_cons_zero, List.set_cons_succ]
  refine Upto.take (i := 20) (v := ?_) rfl (by kernel_rfl) (fun _ _ _ h => h) rfl (fun w' hS => ?_) hS0 ?_
  rotate_left
  · (try dsimp only at hS); go_split_ands; go_simp; (try with_reducible rfl)
  simp only [Act.put, List.setIfInBounds_toArray, List.set_cons_zero, List.set_cons_succ]
  have C0 := Lib.hid (Calm.refl H W1.drew)
  have CT1 := Lib.hid (seq_any (H := H) (pb := pb) s wr tx P0.out HX.out.tx (R0.out.mono (by decide)))
  refine Upto.law (i := 5) rfl (by kernel_rfl) rfl (fun K hK => ?_)
  refine wp_enter (f := 52) (args := #[.pointer (some ⟨pb, 0, none⟩), .int .i64 tx]) (by go_simp) CT1.out ?_
  rintro e V1 ⟨_, y1, s1, wr1, rfl, ⟨rfl, hi1⟩, hg1, hp1, hc1⟩
  have hS1 := KS.out V1 (C0.out.trans hc1)
  refine ⟨_, rfl, hK _ _ hS1 ?_⟩
  have C1 := Lib.hid (C0.out.trans hc1)
  have R1 : Hid (s1.room 192) := Lib.hid (hg1.room (c := 192) (R0.out.mono (by decide)))
  have G1 := Lib.hid hg1
  have P1 := Lib.hid hp1
  have D1 := Lib.hid hc1
  have I1 := Lib.hid hi1
  clear hK CT1 hg1 hp1 hc1 hS0 hi1
  have hS0 := hS1
  clear hS1
  simp only [Act.put, List.setIfInBounds_toArray, List.set_cons_zero, List.set_cons_succ]
  have CT2 := Lib.hid (seqOrNone_any (H := H) (pb := pb) s1 wr1 prev P1.out HX.out.prev (R1.out.mono (by decide)))
  refine Upto.law (i := 9) rfl (by kernel_rfl) rfl (fun K hK => ?_)
  refine wp_enter (f := 53) (args := #[.pointer (some ⟨pb, 0, none⟩), .int .i64 prev]) (by go_simp) CT2.out ?_
  rintro e V2 ⟨_, y2, s2, wr2, rfl, ⟨rfl, hi2⟩, hg2, hp2, hc2⟩
  have hS2 := KS.out V2 (C1.out.trans hc2)
  refine ⟨_, rfl, hK _ _ hS2 ?_⟩
  have C2 := Lib.hid (C1.out.trans hc2)
  have R2 : Hid (s2.room 182) := Lib.hid (hg2.room (c := 182) (R1.out.mono (by decide)))
  have G2 := Lib.hid hg2
  have P2 := Lib.hid hp2
  have D2 := Lib.hid hc2
  have I2 := Lib.hid hi2
  clear hK CT2 hg2 hp2 hc2 hS0 hi2
  have hS0 := hS2
  clear hS2
  simp only [Act.put, List.setIfInBounds_toArray, List.set_cons_zero, List.set_cons_succ]
  have CT3 := Lib.hid (key_any (H := H) (pb := pb) s2 wr2 key P2.out HX.out.key (R2.out.mono (by decide)))
  refine Upto.law (i := 13) rfl (by kernel_rfl) rfl (fun K hK => ?_)
  refine wp_enter (f := 54) (args := #[.pointer (some ⟨pb, 0, none⟩), .string key]) (by go_simp) CT3.out ?_
  rintro e V3 ⟨_, y3, s3, wr3, rfl, ⟨rfl, hi3⟩, hg3, hp3, hc3⟩
  have hS3 := KS.out V3 (C2.out.trans hc3)
  refine ⟨_, rfl, hK _ _ hS3 ?_⟩
  have C3 := Lib.hid (C2.out.trans hc3)
  have R3 : Hid (s3.room 122) := Lib.hid (hg3.room (c := 122) (R2.out.mono (by decide)))
  have G3 := Lib.hid hg3
  have P3 := Lib.hid hp3
  have D3 := Lib.hid hc3
  have I3 := Lib.hid hi3
  clear hK CT3 hg3 hp3 hc3 hS0 hi3
  have hS0 := hS3
  clear hS3
  simp only [Act.put, List.setIfInBounds_toArray, List.set_cons_zero, List.set_cons_succ]
  have CT4 := Lib.hid (value_any (H := H) (pb := pb) s3 wr3 (⟨oh, od⟩ : Vl) P3.out HX.out.old (R3.out.mono (by decide)))
  refine Upto.law (i := 17) rfl (by kernel_rfl) rfl (fun K hK => ?_)
  refine wp_enter (f := 55) (args := #[.pointer (some ⟨pb, 0, none⟩), .agg #[.bool oh, .string od]]) (by go_simp) CT4.out ?_
  rintro e V4 ⟨_, y4, s4, wr4, rfl, ⟨rfl, hi4⟩, hg4, hp4, hc4⟩
  have hS4 := KS.out V4 (C3.out.trans hc4)
  refine ⟨_, rfl, hK _ _ hS4 ?_⟩
  have C4 := Lib.hid (C3.out.trans hc4)
  have R4 : Hid (s4.room 61) := Lib.hid (hg4.room (c := 61) (R3.out.mono (by decide)))
  have G4 := Lib.hid hg4
  have P4 := Lib.hid hp4
  have D4 := Lib.hid hc4
  have I4 := Lib.hid hi4
  clear hK CT4 hg4 hp4 hc4 hS0 hi4
  have hS0 := hS4
  clear hS4
  simp only [Act.put, List.setIfInBounds_toArray, List.set_cons_zero, List.set_cons_succ]
  have CT5 := Lib.hid (value_any (H := H) (pb := pb) s4 wr4 (⟨nh, nd⟩ : Vl) P4.out HX.out.new (R4.out.mono (by decide)))
  refine Upto.law (i := 21) rfl (by kernel_rfl) rfl (fun K hK => ?_)
  refine wp_enter (f := 55) (args := #[.pointer (some ⟨pb, 0, none⟩), .agg #[.bool nh, .string nd]]) (by go_simp) CT5.out ?_
  rintro e V5 ⟨_, y5, s5, wr5, rfl, ⟨rfl, hi5⟩, hg5, hp5, hc5⟩
  have hS5 := KS.out V5 (C4.out.trans hc5)
  refine ⟨_, rfl, hK _ _ hS5 ?_⟩
  have C5 := Lib.hid (C4.out.trans hc5)
  have R5 : Hid (s5.room 0) := Lib.hid (hg5.room (c := 0) (R4.out.mono (by decide)))
  have G5 := Lib.hid hg5
  have P5 := Lib.hid hp5
  have D5 := Lib.hid hc5
  have I5 := Lib.hid hi5
  clear hK CT5 hg5 hp5 hc5 hS0 hi5
  have hS0 := hS5
  clear hS5
  simp only [Act.put, List.setIfInBounds_toArray, List.set_cons_zero, List.set_cons_succ]
  refine Upto.take (i := 22) (v := ?_) rfl (by kernel_rfl) (fun _ _ _ h => h) rfl (fun w' hS => ?_) hS0 ?_
  rotate_left
  · (try dsimp only at hS); go_split_ands; go_simp; (try with_reducible rfl)
  simp only [Act.put, List.setIfInBounds_toArray, List.set_cons_zero, List.set_cons_succ]
  have hcl : Calm H W1 V5 := by have := C5.out; exact ⟨this.os, this.tape, this.output, this.size, this.block⟩
  have RB := Lib.hid (HRS.out.calm (w1 := V5) rfl hcl)
  have F : Hid (RetV spU (VR H) (⟨1, tx, prev, next, key, ⟨oh, od⟩, ⟨nh, nd⟩, co, mem, lks, rows.map Xw.row, dirty, deeds.map Xd.deed, past⟩ : Rc) H pb s wr w (.returned (.agg #[.int .i64 1, .int .i64 y1, .int .i64 y2, .int .i64 0, .string y3, .bool y4.has, .string y4.data, .bool y5.has, .string y5.data, .int .i64 0, .slice none 0 0, .slice none 0 0, .slice none 0 0, .slice none 0 0, .slice none 0 0, .slice none 0 0])) (V5.setRow (r + 1) #[.int .i64 1, .int .i64 y1, .int .i64 y2, .int .i64 0, .string y3, .bool y4.has, .string y4.data, .bool y5.has, .string y5.data, .int .i64 0, .slice none 0 0, .slice none 0 0, .slice none 0 0, .slice none 0 0, .slice none 0 0, .slice none 0 0])) := Lib.hid (by
    have hcw : Calm H w V5 := (Calm.of_below HB.out).trans hcl
    obtain ⟨a, b⟩ := P5.out.row RB.out rfl (by have := HRR.out; omega) hcw #[.int .i64 1, .int .i64 y1, .int .i64 y2, .int .i64 0, .string y3, .bool y4.has, .string y4.data, .bool y5.has, .string y5.data, .int .i64 0, .slice none 0 0, .slice none 0 0, .slice none 0 0, .slice none 0 0, .slice none 0 0, .slice none 0 0]
    have hin : XrIn H V5 (⟨1, y1, y2, 0, y3, ⟨y4.has, y4.data⟩, ⟨y5.has, y5.data⟩, 0, none, 0, 0, [], none, 0, 0, [], none, 0, 0, [], none, 0, 0, [], none, 0, 0, [], none, 0, 0, []⟩ : Xr) := ⟨(i64_of _ rfl), I1.out, I2.out, (i64_of _ rfl), I3.out, I4.out, I5.out, (i64_of _ rfl), (Sl.nil elI H _), (Sl.nil elL H _), (Sl.nil elR H _), (Sl.nil elD H _), (Sl.nil elE H _), (Sl.nil elI H _)⟩
    refine ⟨_, mkU ((((y1, y2), y3), y4), y5), s5, wr5, rfl, ⟨(⟨1, y1, y2, 0, y3, ⟨y4.has, y4.data⟩, ⟨y5.has, y5.data⟩, 0, none, 0, 0, [], none, 0, 0, [], none, 0, 0, [], none, 0, 0, [], none, 0, 0, [], none, 0, 0, []⟩ : Xr), rfl, hin.other RB.out (by have := HRR.out; have := HLOW.out; omega) (grown_setRow _ _ _), rfl⟩, ?_, a, b⟩
    exact Goes.map (x := (⟨1, tx, prev, next, key, ⟨oh, od⟩, ⟨nh, nd⟩, co, mem, lks, rows.map Xw.row, dirty, deeds.map Xd.deed, past⟩ : Rc)) (y := ((((y1, y2), y3), y4), y5)) (f := mkU) (g := uU) (fun _ => rfl) ((((G1.out.pair G2.out).pair G3.out).pair G4.out).pair G5.out))
  clear hcl
  have RF := Lib.hid (RB.out.rowp #[.int .i64 1, .int .i64 y1, .int .i64 y2, .int .i64 0, .string y3, .bool y4.has, .string y4.data, .bool y5.has, .string y5.data, .int .i64 0, .slice none 0 0, .slice none 0 0, .slice none 0 0, .slice none 0 0, .slice none 0 0, .slice none 0 0])
  refine Upto.tail rfl (by kernel_rfl) ?_
  simp only [List.drop_succ_cons, List.drop_zero]
  go_wp2_with (refine wpList_store_row rfl 30 _ _ rfl (r + 1) #[.int .i64 1, .int .i64 y1, .int .i64 y2, .int .i64 0, .string y3, .bool y4.has, .string y4.data, .bool y5.has, .string y5.data, .int .i64 0, .slice none 0 0, .slice none 0 0, .slice none 0 0, .slice none 0 0, .slice none 0 0, .slice none 0 0] rfl rfl 30 _ RB.out inf_rec rfl (rec_one _ (by simp [Value.oneCell'])) ?_; simp only [Act.put])
  refine NoPanic.normal ?_
  (try simp only [Exit.inBlock, Exit.then])
  go_wp2_with fail
  (try simp only [Exit.inBlock, Exit.then])
  refine bodyPost_ret (results_cell_row rfl _ _ (r + 1) 30 _ (0, 0) _ rfl RF.out Try.underlying30 rfl inf_rec) rfl ?_
  exact F.out
end
end Go.Proofs.Ytfldcddbmikfiaa

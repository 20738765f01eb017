/- What it says: contracts and plain mathematics that the laws' walks use, 23 of 34: each part's own remark says what; no condition. -/
import Derived.Test.YtfldcddbmikfiaaPw4
import Derived.Test.YtfldcddbmikfiaaPw6
import Derived.Test.YtfldcddbmikfiaaPw7
import Derived.Test.YtfldcddbmikfiaaPw11
import Derived.Test.YtfldcddbmikfiaaPw21
import Derived.Test.YtfldcddbmikfiaaPw22
import Derived.OwnWalk
import Derived.Laws.CopyOwn
import Derived.Great.BuildSlice
import Derived.LoopTactic
import Derived.Deep.CutBlock
import Derived.Deep.QuietTactic
import Derived.BigQuiet

set_option linter.unusedSimpArgs false
set_option linter.unusedVariables false
set_option linter.deprecated false
set_option linter.unusedSectionVars false
set_option linter.all false

/- trothref07.Copy hands back a record of one's own that reads as the same. -/
namespace Go.Proofs.Ytfldcddbmikfiaa
open Go.RowKit
theorem ap_I : (Try.prog.info? 3).map (fun i => (i.zero, i.size, i.bytes)) = some (some (.int .i64 0), elI.size, 8) := by kernel_rfl
theorem ap_L : (Try.prog.info? 49).map (fun i => (i.zero, i.size, i.bytes)) = some (some (.agg #[.string ⟨#[]⟩, .bool false]), elL.size, 24) := by kernel_rfl
theorem ap_D : (Try.prog.info? 89).map (fun i => (i.zero, i.size, i.bytes)) = some (some (.agg #[.int .i64 0, .int .i64 0]), elD.size, 16) := by kernel_rfl
theorem ap_R : (Try.prog.info? 51).map (fun i => (i.zero, i.size, i.bytes)) = some (some (.agg #[.int .i64 0, .int .i64 0, .int .i64 0, .int .i64 0, .int .i64 0, .int .i64 0, .slice none 0 0, .slice none 0 0]), elR.size, 96) := by kernel_rfl
theorem ap_E : (Try.prog.info? 53).map (fun i => (i.zero, i.size, i.bytes)) = some (some (.agg #[.int .i64 0, .slice none 0 0]), elE.size, 32) := by kernel_rfl

theorem bs_empty (W : World) : (Instr.buildSlice 24 0 #[]).run Try.prog W = .ok (.slice (some ⟨W.heap.size, 0, none⟩) 0 0) (W.alloc (.cells #[] 3)) := by
  obtain ⟨i0, hi, hz0, hz1, hz2⟩ := info_parts ap_I
  have hu := Try.underlying24
  first
    | (go_simp; done)
    | (simp [Instr.buildSlice, run_underlying hu, sizeOf, typeInfo, hi, hz0, newRow, zeroValue, Instr.fill, newObj]; done)
    | (simp [Instr.buildSlice, run_underlying hu, sizeOf, typeInfo, hi, hz0, newRow, zeroValue, Instr.fill, newObj]; rfl)
theorem bs_deed (W : World) (tx : Int) (A : Option Addr) (n c : Nat) : (Instr.buildSlice 28 1 #[(0, .agg #[.int .i64 tx, .slice A n c])]).run Try.prog W = .ok (.slice (some ⟨W.heap.size, 0, none⟩) 1 1) (W.alloc (.cells #[.int .i64 tx, .slice A n c] 53)) := by
  first
    | (go_simp; done)
    | (go_simp; rfl)
theorem below_range7 {w w' : World} {g o : Nat} {cs : List Value} (h : w.rangeAt g o cs) (hg : g < w.heap.size) (hb : Below w.heap.size w w') : w'.rangeAt g o cs := rangeAt_heap h (hb.block g hg)
/-- A record that is a copy of x. -/
def RetCopyO (o : Prop) (x : Xr) (w : World) (e : Ending) (w' : World) : Prop := ∃ y : Xr, e = .returned y.val ∧ @XrIn (iP o) w.heap.size w' y ∧ y.read = x.read ∧ Below w.heap.size w w'
set_option maxRecDepth 100000 in
set_option maxHeartbeats 16000000 in
theorem copy_gen (o : Prop) (x : Xr) (w : World) (hx : XrIn w.heap.size w x) (hg : NotGreat x) : Calls Try.prog 8 #[x.val] w (RetCopyO o x w) := by
  have HG := Lib.hid hg
  obtain ⟨X, hX⟩ : ∃ X, X = x := ⟨_, rfl⟩
  have HX0 : Hid (XrIn w.heap.size w X) := Lib.hid (by rw [hX]; exact hx)
  rw [← hX]
  obtain ⟨kind, tx, prev, next, key, ⟨oh, od⟩, ⟨nh, nd⟩, co, mA, mn, mc, mem, kA, kn, kc, lks, rA, rn, rc, rows, dA, dn, dc, dirty, eA, en, ec, deeds, pA, pn, pc, past⟩ := x
  have g1 : mn ≤ 20 := hg.mn
  have g2 : kn ≤ 80 := hg.kn
  have g3 : rn ≤ 70 := hg.rn
  have g4 : dn ≤ 80 := hg.dn
  have g5 : en ≤ 80 := hg.en
  have g6 : pn ≤ 300 := hg.pn
  have HXE := Lib.hid hX
  have hval : X.val = .agg #[.int .i64 kind, .int .i64 tx, .int .i64 prev, .int .i64 next, .string key, .bool oh, .string od, .bool nh, .string nd, .int .i64 co, .slice mA mn mc, .slice kA kn kc, .slice rA rn rc, .slice dA dn dc, .slice eA en ec, .slice pA pn pc] := by rw [hX]; rfl
  rw [hval]
  clear hval hX hg hx
  obtain ⟨iI, hiI, hzI, hsI, hbI⟩ := info_parts ap_I
  obtain ⟨iL, hiL, hzL, hsL, hbL⟩ := info_parts ap_L
  obtain ⟨iD, hiD, hzD, hsD, hbD⟩ := info_parts ap_D
  obtain ⟨iR, hiR, hzR, hsR, hbR⟩ := info_parts ap_R
  obtain ⟨iE, hiE, hzE, hsE, hbE⟩ := info_parts ap_E
  obtain ⟨r, hrr⟩ : ∃ r, w.heap.size = r := ⟨_, rfl⟩
  obtain ⟨W1, hW1⟩ : ∃ W1, W1 = (w.alloc (.cells #[.int .i64 kind, .int .i64 tx, .int .i64 prev, .int .i64 next, .string key, .bool oh, .string od, .bool nh, .string nd, .int .i64 co, .slice mA mn mc, .slice kA kn kc, .slice rA rn rc, .slice dA dn dc, .slice eA en ec, .slice pA pn pc] 30)).alloc (.cells #[.int .i64 0, .int .i64 0, .int .i64 0, .int .i64 0, .string ⟨#[]⟩, .bool false, .string ⟨#[]⟩, .bool false, .string ⟨#[]⟩, .int .i64 0, .slice none 0 0, .slice none 0 0, .slice none 0 0, .slice none 0 0, .slice none 0 0, .slice none 0 0] 30) := ⟨_, rfl⟩
  have hb0 : Below w.heap.size w W1 := by rw [hW1]; exact ((Below.refl _ _).alloc (Nat.le_refl _) _).alloc (by simp) _
  have V1 : Hid (Bk W1 r 30 #[.int .i64 kind, .int .i64 tx, .int .i64 prev, .int .i64 next, .string key, .bool oh, .string od, .bool nh, .string nd, .int .i64 co, .slice mA mn mc, .slice kA kn kc, .slice rA rn rc, .slice dA dn dc, .slice eA en ec, .slice pA pn pc]) := Lib.hid (by rw [hW1, ← hrr]; exact (Bk.new w _ _).bel ((Below.refl _ _).alloc (Nat.le_refl _) _) (by simp))
  have Z1 : Hid (Bk W1 (r + 1) 30 #[.int .i64 0, .int .i64 0, .int .i64 0, .int .i64 0, .string ⟨#[]⟩, .bool false, .string ⟨#[]⟩, .bool false, .string ⟨#[]⟩, .int .i64 0, .slice none 0 0, .slice none 0 0, .slice none 0 0, .slice none 0 0, .slice none 0 0, .slice none 0 0]) := Lib.hid (by
    rw [hW1, ← hrr]
    have := Bk.new (w.alloc (.cells #[.int .i64 kind, .int .i64 tx, .int .i64 prev, .int .i64 next, .string key, .bool oh, .string od, .bool nh, .string nd, .int .i64 co, .slice mA mn mc, .slice kA kn kc, .slice rA rn rc, .slice dA dn dc, .slice eA en ec, .slice pA pn pc] 30)) 30 #[.int .i64 0, .int .i64 0, .int .i64 0, .int .i64 0, .string ⟨#[]⟩, .bool false, .string ⟨#[]⟩, .bool false, .string ⟨#[]⟩, .int .i64 0, .slice none 0 0, .slice none 0 0, .slice none 0 0, .slice none 0 0, .slice none 0 0, .slice none 0 0]
    rw [World.size_alloc] at this
    exact this)
  have X1 : Hid (XrIn r W1 X) := Lib.hid (by rw [← hrr]; exact HX0.out.calm (Calm.of_below hb0))
  have B1 : Hid (Below r w W1) := Lib.hid (by rw [← hrr]; exact hb0)
  have HRR := Lib.hid hrr
  have HW := Lib.hid hW1
  clear hb0 hW1 HX0
  go_enter Try.func8, Try.ntmps8
  go_upto_region 1 with fail
  (try rw [hrr])
  rw [← HW.out]
  clear HW hrr
  have c1 : (W1.alloc (.cells #[] 3)).cell? ⟨r, 10, none⟩ = some (.slice mA mn mc) := (V1.out.calm (H := r) rfl (Calm.of_below ((Below.refl _ _).alloc (Nat.le_refl _) _))).cell 10
  have sl1 : Hid (Sl elI r (W1.alloc (.cells #[] 3)) mA mn mc mem) := Lib.hid (by
    have := X1.out.mem
    rw [HXE.out] at this
    exact this.calm (Calm.of_below ((Below.refl _ _).alloc (Nat.le_refl _) _)))
  have ow1 : Hid ((W1.alloc (.cells #[] 3)).ownsRow W1.heap.size elI.ty elI.size (.slice (some ⟨W1.heap.size, 0, none⟩) 0 0) 0 ([].flatMap elI.cells)) := Lib.hid (World.ownsRow_made W1 #[] 0 (Nat.le_refl _) (Nat.zero_le _) rfl)
  go_wp2_with (at_builtin; refine wpList_append_sl (E := elI) (H := r) rfl _ _ 24 rfl W1.heap.size iI (.int .i64 0) 8 Try.underlying24 hiI hzI hsI hbI rfl rfl ow1.out rfl sl1.out (by omega) (by omega) (by simp) ?_)
  intro B1A B1c U1 hap1
  obtain ⟨st1a, st1b, st1c, st1d⟩ := cp_stepO o (E := elI) (H := r) (j := 10) (l := mem) V1.out (by decide) rfl (Nat.le_refl r) (by have := sl1.out.len; omega) (by exact hap1.out) (by have := X1.out.mem; rw [HXE.out] at this; exact this.each)
  have d1 : U1.cell? ⟨r, 10, none⟩ = some (.slice mA mn mc) := st1d.cell 10
  have f1 : U1.frozen? ⟨r, 10, none⟩ = false := st1d.frz 10
  obtain ⟨W2, hW2⟩ : ∃ W, W = U1.setCell ⟨r, 10, none⟩ (.slice B1A mn B1c) := ⟨_, rfl⟩
  rw [← hW2] at st1a st1b st1c
  have V2 : Hid (Bk W2 r 30 #[.int .i64 kind, .int .i64 tx, .int .i64 prev, .int .i64 next, .string key, .bool oh, .string od, .bool nh, .string nd, .int .i64 co, .slice B1A mn B1c, .slice kA kn kc, .slice rA rn rc, .slice dA dn dc, .slice eA en ec, .slice pA pn pc]) := Lib.hid (by simpa using st1a)
  have HS1 : Hid (@Sl (iP o) _ _ elI r W2 B1A mn B1c mem) := Lib.hid (by simpa using st1c)
  have X2 : Hid (XrIn r W2 X) := Lib.hid (X1.out.other V1.out (Nat.le_refl r) st1b)
  have B2 : Hid (Below r w W2) := Lib.hid (B1.out.grown st1b (Nat.le_of_lt V1.out.lt) (fun q hq => by injection hq with hq; omega))
  have Z2 : Hid (Bk W2 (r + 1) 30 #[.int .i64 0, .int .i64 0, .int .i64 0, .int .i64 0, .string ⟨#[]⟩, .bool false, .string ⟨#[]⟩, .bool false, .string ⟨#[]⟩, .int .i64 0, .slice none 0 0, .slice none 0 0, .slice none 0 0, .slice none 0 0, .slice none 0 0, .slice none 0 0]) := Lib.hid ((st1b.block (r + 1) Z1.out.lt (by simp)).trans Z1.out)
  have HW2 := Lib.hid hW2
  clear st1a st1b st1c st1d hW2 hap1 sl1 ow1 c1
  go_upto_region 2 with fail
  (try simp only [Nat.zero_add])
  rw [← (show W2 = U1.setCell ⟨r, 10, none⟩ (.slice B1A mn B1c) by simpa using HW2.out)]
  clear HW2 d1 f1
  have c2 : (W2.alloc (.cells #[] 49)).cell? ⟨r, 11, none⟩ = some (.slice kA kn kc) := (V2.out.calm (H := r) rfl (Calm.of_below ((Below.refl _ _).alloc (Nat.le_refl _) _))).cell 11
  have sl2 : Hid (Sl elL r (W2.alloc (.cells #[] 49)) kA kn kc lks) := Lib.hid (by
    have := X2.out.lks
    rw [HXE.out] at this
    exact this.calm (Calm.of_below ((Below.refl _ _).alloc (Nat.le_refl _) _)))
  have ow2 : Hid ((W2.alloc (.cells #[] 49)).ownsRow W2.heap.size elL.ty elL.size (.slice (some ⟨W2.heap.size, 0, none⟩) 0 0) 0 ([].flatMap elL.cells)) := Lib.hid (World.ownsRow_made W2 #[] 0 (Nat.le_refl _) (Nat.zero_le _) rfl)
  go_wp2_with (at_builtin; refine wpList_append_sl (E := elL) (H := r) rfl _ _ 25 rfl W2.heap.size iL (.agg #[.string ⟨#[]⟩, .bool false]) 24 Try.underlying25 hiL hzL hsL hbL rfl rfl ow2.out rfl sl2.out (by omega) (by omega) (by simp) ?_)
  intro B2A B2c U2 hap2
  obtain ⟨st2a, st2b, st2c, st2d⟩ := cp_stepO o (E := elL) (H := r) (j := 11) (l := lks) V2.out (by decide) rfl (Nat.le_refl r) (by have := sl2.out.len; omega) (by exact hap2.out) (by have := X2.out.lks; rw [HXE.out] at this; exact this.each)
  have d2 : U2.cell? ⟨r, 11, none⟩ = some (.slice kA kn kc) := st2d.cell 11
  have f2 : U2.frozen? ⟨r, 11, none⟩ = false := st2d.frz 11
  obtain ⟨W3, hW3⟩ : ∃ W, W = U2.setCell ⟨r, 11, none⟩ (.slice B2A kn B2c) := ⟨_, rfl⟩
  rw [← hW3] at st2a st2b st2c
  have V3 : Hid (Bk W3 r 30 #[.int .i64 kind, .int .i64 tx, .int .i64 prev, .int .i64 next, .string key, .bool oh, .string od, .bool nh, .string nd, .int .i64 co, .slice B1A mn B1c, .slice B2A kn B2c, .slice rA rn rc, .slice dA dn dc, .slice eA en ec, .slice pA pn pc]) := Lib.hid (by simpa using st2a)
  have HS2 : Hid (@Sl (iP o) _ _ elL r W3 B2A kn B2c lks) := Lib.hid (by simpa using st2c)
  have X3 : Hid (XrIn r W3 X) := Lib.hid (X2.out.other V2.out (Nat.le_refl r) st2b)
  have B3 : Hid (Below r w W3) := Lib.hid (B2.out.grown st2b (Nat.le_of_lt V2.out.lt) (fun q hq => by injection hq with hq; omega))
  have Z3 : Hid (Bk W3 (r + 1) 30 #[.int .i64 0, .int .i64 0, .int .i64 0, .int .i64 0, .string ⟨#[]⟩, .bool false, .string ⟨#[]⟩, .bool false, .string ⟨#[]⟩, .int .i64 0, .slice none 0 0, .slice none 0 0, .slice none 0 0, .slice none 0 0, .slice none 0 0, .slice none 0 0]) := Lib.hid ((st2b.block (r + 1) Z2.out.lt (by simp)).trans Z2.out)
  have HS1 := Lib.hid (HS1.out.other rfl (by decide) V2.out (Nat.le_refl r) st2b)
  have HW3 := Lib.hid hW3
  clear st2a st2b st2c st2d hW3 hap2 sl2 ow2 c2
  go_upto_region 3 with fail
  (try simp only [Nat.zero_add])
  rw [← (show W3 = U2.setCell ⟨r, 11, none⟩ (.slice B2A kn B2c) by simpa using HW3.out)]
  clear HW3 d2 f2
  have c3 : (W3.alloc (.cells #[] 89)).cell? ⟨r, 13, none⟩ = some (.slice dA dn dc) := (V3.out.calm (H := r) rfl (Calm.of_below ((Below.refl _ _).alloc (Nat.le_refl _) _))).cell 13
  have sl3 : Hid (Sl elD r (W3.alloc (.cells #[] 89)) dA dn dc dirty) := Lib.hid (by
    have := X3.out.dirty
    rw [HXE.out] at this
    exact this.calm (Calm.of_below ((Below.refl _ _).alloc (Nat.le_refl _) _)))
  have ow3 : Hid ((W3.alloc (.cells #[] 89)).ownsRow W3.heap.size elD.ty elD.size (.slice (some ⟨W3.heap.size, 0, none⟩) 0 0) 0 ([].flatMap elD.cells)) := Lib.hid (World.ownsRow_made W3 #[] 0 (Nat.le_refl _) (Nat.zero_le _) rfl)
  go_wp2_with (at_builtin; refine wpList_append_sl (E := elD) (H := r) rfl _ _ 27 rfl W3.heap.size iD (.agg #[.int .i64 0, .int .i64 0]) 16 Try.underlying27 hiD hzD hsD hbD rfl rfl ow3.out rfl sl3.out (by omega) (by omega) (by simp) ?_)
  intro B3A B3c U3 hap3
  obtain ⟨st3a, st3b, st3c, st3d⟩ := cp_stepO o (E := elD) (H := r) (j := 13) (l := dirty) V3.out (by decide) rfl (Nat.le_refl r) (by have := sl3.out.len; omega) (by exact hap3.out) (by have := X3.out.dirty; rw [HXE.out] at this; exact this.each)
  have d3 : U3.cell? ⟨r, 13, none⟩ = some (.slice dA dn dc) := st3d.cell 13
  have f3 : U3.frozen? ⟨r, 13, none⟩ = false := st3d.frz 13
  obtain ⟨W4, hW4⟩ : ∃ W, W = U3.setCell ⟨r, 13, none⟩ (.slice B3A dn B3c) := ⟨_, rfl⟩
  rw [← hW4] at st3a st3b st3c
  have V4 : Hid (Bk W4 r 30 #[.int .i64 kind, .int .i64 tx, .int .i64 prev, .int .i64 next, .string key, .bool oh, .string od, .bool nh, .string nd, .int .i64 co, .slice B1A mn B1c, .slice B2A kn B2c, .slice rA rn rc, .slice B3A dn B3c, .slice eA en ec, .slice pA pn pc]) := Lib.hid (by simpa using st3a)
  have HS3 : Hid (@Sl (iP o) _ _ elD r W4 B3A dn B3c dirty) := Lib.hid (by simpa using st3c)
  have X4 : Hid (XrIn r W4 X) := Lib.hid (X3.out.other V3.out (Nat.le_refl r) st3b)
  have B4 : Hid (Below r w W4) := Lib.hid (B3.out.grown st3b (Nat.le_of_lt V3.out.lt) (fun q hq => by injection hq with hq; omega))
  have Z4 : Hid (Bk W4 (r + 1) 30 #[.int .i64 0, .int .i64 0, .int .i64 0, .int .i64 0, .string ⟨#[]⟩, .bool false, .string ⟨#[]⟩, .bool false, .string ⟨#[]⟩, .int .i64 0, .slice none 0 0, .slice none 0 0, .slice none 0 0, .slice none 0 0, .slice none 0 0, .slice none 0 0]) := Lib.hid ((st3b.block (r + 1) Z3.out.lt (by simp)).trans Z3.out)
  have HS1 := Lib.hid (HS1.out.other rfl (by decide) V3.out (Nat.le_refl r) st3b)
  have HS2 := Lib.hid (HS2.out.other rfl (by decide) V3.out (Nat.le_refl r) st3b)
  have HW4 := Lib.hid hW4
  clear st3a st3b st3c st3d hW4 hap3 sl3 ow3 c3
  go_upto_region 4 with fail
  (try simp only [Nat.zero_add])
  rw [← (show W4 = U3.setCell ⟨r, 13, none⟩ (.slice B3A dn B3c) by simpa using HW4.out)]
  clear HW4 d3 f3
  have c4 : (W4.alloc (.cells #[] 3)).cell? ⟨r, 15, none⟩ = some (.slice pA pn pc) := (V4.out.calm (H := r) rfl (Calm.of_below ((Below.refl _ _).alloc (Nat.le_refl _) _))).cell 15
  have sl4 : Hid (Sl elI r (W4.alloc (.cells #[] 3)) pA pn pc past) := Lib.hid (by
    have := X4.out.past
    rw [HXE.out] at this
    exact this.calm (Calm.of_below ((Below.refl _ _).alloc (Nat.le_refl _) _)))
  have ow4 : Hid ((W4.alloc (.cells #[] 3)).ownsRow W4.heap.size elI.ty elI.size (.slice (some ⟨W4.heap.size, 0, none⟩) 0 0) 0 ([].flatMap elI.cells)) := Lib.hid (World.ownsRow_made W4 #[] 0 (Nat.le_refl _) (Nat.zero_le _) rfl)
  go_wp2_with (at_builtin; refine wpList_append_sl (E := elI) (H := r) rfl _ _ 24 rfl W4.heap.size iI (.int .i64 0) 8 Try.underlying24 hiI hzI hsI hbI rfl rfl ow4.out rfl sl4.out (by omega) (by omega) (by simp) ?_)
  intro B4A B4c U4 hap4
  obtain ⟨st4a, st4b, st4c, st4d⟩ := cp_stepO o (E := elI) (H := r) (j := 15) (l := past) V4.out (by decide) rfl (Nat.le_refl r) (by have := sl4.out.len; omega) (by exact hap4.out) (by have := X4.out.past; rw [HXE.out] at this; exact this.each)
  have d4 : U4.cell? ⟨r, 15, none⟩ = some (.slice pA pn pc) := st4d.cell 15
  have f4 : U4.frozen? ⟨r, 15, none⟩ = false := st4d.frz 15
  obtain ⟨W5, hW5⟩ : ∃ W, W = U4.setCell ⟨r, 15, none⟩ (.slice B4A pn B4c) := ⟨_, rfl⟩
  rw [← hW5] at st4a st4b st4c
  have V5 : Hid (Bk W5 r 30 #[.int .i64 kind, .int .i64 tx, .int .i64 prev, .int .i64 next, .string key, .bool oh, .string od, .bool nh, .string nd, .int .i64 co, .slice B1A mn B1c, .slice B2A kn B2c, .slice rA rn rc, .slice B3A dn B3c, .slice eA en ec, .slice B4A pn B4c]) := Lib.hid (by simpa using st4a)
  have HS4 : Hid (@Sl (iP o) _ _ elI r W5 B4A pn B4c past) := Lib.hid (by simpa using st4c)
  have X5 : Hid (XrIn r W5 X) := Lib.hid (X4.out.other V4.out (Nat.le_refl r) st4b)
  have B5 : Hid (Below r w W5) := Lib.hid (B4.out.grown st4b (Nat.le_of_lt V4.out.lt) (fun q hq => by injection hq with hq; omega))
  have Z5 : Hid (Bk W5 (r + 1) 30 #[.int .i64 0, .int .i64 0, .int .i64 0, .int .i64 0, .string ⟨#[]⟩, .bool false, .string ⟨#[]⟩, .bool false, .string ⟨#[]⟩, .int .i64 0, .slice none 0 0, .slice none 0 0, .slice none 0 0, .slice none 0 0, .slice none 0 0, .slice none 0 0]) := Lib.hid ((st4b.block (r + 1) Z4.out.lt (by simp)).trans Z4.out)
  have HS1 := Lib.hid (HS1.out.other rfl (by decide) V4.out (Nat.le_refl r) st4b)
  have HS2 := Lib.hid (HS2.out.other rfl (by decide) V4.out (Nat.le_refl r) st4b)
  have HS3 := Lib.hid (HS3.out.other rfl (by decide) V4.out (Nat.le_refl r) st4b)
  have HW5 := Lib.hid hW5
  clear st4a st4b st4c st4d hW5 hap4 sl4 ow4 c4
  go_upto_region 5 with fail
  (try simp only [Nat.zero_add])
  rw [← (show W5 = U4.setCell ⟨r, 15, none⟩ (.slice B4A pn B4c) by simpa using HW5.out)]
  clear HW5 d4 f4
  have S5 : Hid (GatRel (@elR (iP o)) Xw.row W5 r rows 0 none 0 W5) := Lib.hid ⟨[], World.ownsRow_nil _ _ _ _, rfl, rfl, by simp, Below.refl _ _⟩
  have HLE : Hid (r ≤ W5.heap.size) := Lib.hid (Nat.le_of_lt V5.out.lt)
  have hrl : rows.length = rn := by have := X5.out.rows.len; rw [HXE.out] at this; exact this
  have XR : Hid (Sl elR r W5 rA rn rc rows) := Lib.hid (by have := X5.out.rows; rw [HXE.out] at this; exact this)
  have HIN : Hid (∀ i, i < rn → (rows.getD i default).mn ≤ 20 ∧ (rows.getD i default).kn ≤ 80) := Lib.hid HG.out.inn.1
  have HRL := Lib.hid hrl
  have rcap := XR.out.cap
  have rmax := XR.out.max
  unfold maxLen at rmax
  clear hrl
  have q12 : W5.cell? ⟨r, 12, none⟩ = some (.slice rA rn rc) := V5.out.cell 12
  go_wp2_with fail
  clear q12
  go_loopw [3, 4] (fun t3 q wr => ∃ (k : Nat) (A : Option Addr) (c : Nat), k ≤ rn ∧ t3 = .slice A k c ∧ q = .int .i64 k ∧ Hid (GatRel (@elR (iP o)) Xw.row W5 r rows k A c wr)) (fun _ q _ => rn - (intOf q).toNat)
  case atStart => exact ⟨0, none, 0, Nat.zero_le _, rfl, rfl, S5⟩
  case round =>
    clear S5
    obtain ⟨k, A, c, hk, rfl, rfl, hrel⟩ := hrel
    have hbl : Below W5.heap.size W5 wr := by obtain ⟨_, _, _, _, _, q⟩ := hrel.out; exact q
    have q12 : wr.cell? ⟨r, 12, none⟩ = some (.slice rA rn rc) := (V5.out.bel hbl V5.out.lt).cell 12
    have HBL := Lib.hid hbl
    clear hbl
    by_cases hlt : k < rn
    · obtain ⟨g, off, hA, hsg, hr⟩ := XR.out.at_ (show 0 < rn by omega)
      obtain rfl : rA = _ := hA
      obtain ⟨z, hz⟩ : ∃ z, rows.getD k default = z := ⟨_, rfl⟩
      have hr2 : wr.rangeAt g (off + k * 8) (elR.cells z) := by rw [← hz]; exact below_range7 (hr k hlt) hsg.1 HBL.out
      have hzi : XwIn r wr z := by rw [← hz]; exact elR.calm r W5 wr _ (XR.out.get hlt) (Calm.of_below HBL.out)
      have hzn := HIN.out k hlt
      rw [hz] at hzn
      have HZ := Lib.hid hz
      clear hr hsg hz
      obtain ⟨zt, zs, zf, zl, zu, zc, zmA, zmn, zmc, zmem, zkA, zkn, zkc, zlks⟩ := z
      have gz1 : zmn ≤ 20 := hzn.1
      have gz2 : zkn ≤ 80 := hzn.2
      have HR2 : Hid (wr.rangeAt g (off + k * 8) [.int .i64 zt, .int .i64 zs, .int .i64 zf, .int .i64 zl, .int .i64 zu, .int .i64 zc, .slice zmA zmn zmc, .slice zkA zkn zkc]) := Lib.hid hr2
      have HZI := Lib.hid hzi
      clear hzn hr2 hzi
      obtain ⟨e, he⟩ : ∃ e, wr.heap.size = e := ⟨_, rfl⟩
      obtain ⟨wa, hwa⟩ : ∃ wa, wa = wr.alloc (.cells #[.int .i64 zt, .int .i64 zs, .int .i64 zf, .int .i64 zl, .int .i64 zu, .int .i64 zc, .slice zmA zmn zmc, .slice zkA zkn zkc] 51) := ⟨_, rfl⟩
      have ba : Below wr.heap.size wr wa := by rw [hwa]; exact (Below.refl _ _).alloc (Nat.le_refl _) _
      have Vwa : Hid (Bk wa e 51 #[.int .i64 zt, .int .i64 zs, .int .i64 zf, .int .i64 zl, .int .i64 zu, .int .i64 zc, .slice zmA zmn zmc, .slice zkA zkn zkc]) := Lib.hid (by rw [hwa, ← he]; exact Bk.new wr _ _)
      have BA := Lib.hid ba
      have Zwa : Hid (XwIn r wa ⟨zt, zs, zf, zl, zu, zc, zmA, zmn, zmc, zmem, zkA, zkn, zkc, zlks⟩) := Lib.hid (elR.calm r wr wa _ HZI.out (Calm.of_below ba))
      have HE : Hid (wr.heap.size = e) := Lib.hid he
      have HRE : Hid (r ≤ e) := Lib.hid (by rw [← he]; exact Nat.le_trans HLE.out HBL.out.size)
      have HWA := Lib.hid hwa
      clear hwa ba
      go_upto_region 10 with (first
        | (refine wpList_load_mid rfl 51 _ rfl g (off + k * 8) rfl [.int .i64 zt, .int .i64 zs, .int .i64 zf, .int .i64 zl, .int .i64 zu, .int .i64 zc, .slice zmA zmn zmc, .slice zkA zkn zkc] _ HR2.out Try.underlying51 rfl (by kernel_rfl) ?_)
        | (refine wpList_store_new rfl (W := wr) rfl (c := #[.int .i64 0, .int .i64 0, .int .i64 0, .int .i64 0, .int .i64 0, .int .i64 0, .slice none 0 0, .slice none 0 0]) (c' := #[.int .i64 zt, .int .i64 zs, .int .i64 zf, .int .i64 zl, .int .i64 zu, .int .i64 zc, .slice zmA zmn zmc, .slice zkA zkn zkc]) rfl (by simp [he]) rfl (by kernel_rfl) rfl rfl ?_; simp only [Act.put]))
      (try rw [he])
      rw [← HWA.out]
      clear HWA he
      have ce21 : (wa.alloc (.cells #[] 3)).cell? ⟨e, 6, none⟩ = some (.slice zmA zmn zmc) := (Vwa.out.calm (H := r) rfl (Calm.of_below ((Below.refl _ _).alloc (Nat.le_refl _) _))).cell 6
      have se21 : Hid (Sl elI r (wa.alloc (.cells #[] 3)) zmA zmn zmc zmem) := Lib.hid (Zwa.out.mem.calm (Calm.of_below ((Below.refl _ _).alloc (Nat.le_refl _) _)))
      have oe21 : Hid ((wa.alloc (.cells #[] 3)).ownsRow wa.heap.size elI.ty elI.size (.slice (some ⟨wa.heap.size, 0, none⟩) 0 0) 0 ([].flatMap elI.cells)) := Lib.hid (World.ownsRow_made wa #[] 0 (Nat.le_refl _) (Nat.zero_le _) rfl)
      go_wp2_with (at_builtin; refine wpList_append_sl (E := elI) (H := r) rfl _ _ 24 rfl wa.heap.size iI (.int .i64 0) 8 Try.underlying24 hiI hzI hsI hbI rfl rfl oe21.out rfl se21.out (by omega) (by omega) (by simp) ?_)
      intro yA yc ua hae21
      obtain ⟨ea, eb, ec_, ed⟩ := cp_stepO o (E := elI) (H := r) (j := 6) (l := zmem) Vwa.out (by decide) rfl HRE.out (by have := se21.out.len; omega) (by exact hae21.out) Zwa.out.mem.each
      have de21 : ua.cell? ⟨e, 6, none⟩ = some (.slice zmA zmn zmc) := ed.cell 6
      have fe21 : ua.frozen? ⟨e, 6, none⟩ = false := ed.frz 6
      obtain ⟨wb, hw21⟩ : ∃ W, W = ua.setCell ⟨e, 6, none⟩ (.slice yA zmn yc) := ⟨_, rfl⟩
      rw [← hw21] at ea eb ec_
      have Vwb : Hid (Bk wb e 51 #[.int .i64 zt, .int .i64 zs, .int .i64 zf, .int .i64 zl, .int .i64 zu, .int .i64 zc, .slice yA zmn yc, .slice zkA zkn zkc]) := Lib.hid (by simpa using ea)
      have Y21 : Hid (@Sl (iP o) _ _ elI r wb yA zmn yc zmem) := Lib.hid (by simpa using ec_)
      have G21 : Hid (wa.grownBy wb (some e)) := Lib.hid eb
      have Zwb : Hid (XwIn r wb ⟨zt, zs, zf, zl, zu, zc, zmA, zmn, zmc, zmem, zkA, zkn, zkc, zlks⟩) := Lib.hid (elR.apart r wa wb _ e 51 _ _ rfl Zwa.out HRE.out Vwa.out eb)
      have HW21 := Lib.hid hw21
      clear ea eb ec_ ed hw21 hae21 se21 oe21 ce21
      go_upto_region 11 with fail
      rw [← (show wb = ua.setCell ⟨e, 6, none⟩ (.slice yA zmn yc) by simpa using HW21.out)]
      clear HW21 de21 fe21
      have ce22 : (wb.alloc (.cells #[] 49)).cell? ⟨e, 7, none⟩ = some (.slice zkA zkn zkc) := (Vwb.out.calm (H := r) rfl (Calm.of_below ((Below.refl _ _).alloc (Nat.le_refl _) _))).cell 7
      have se22 : Hid (Sl elL r (wb.alloc (.cells #[] 49)) zkA zkn zkc zlks) := Lib.hid (Zwb.out.lks.calm (Calm.of_below ((Below.refl _ _).alloc (Nat.le_refl _) _)))
      have oe22 : Hid ((wb.alloc (.cells #[] 49)).ownsRow wb.heap.size elL.ty elL.size (.slice (some ⟨wb.heap.size, 0, none⟩) 0 0) 0 ([].flatMap elL.cells)) := Lib.hid (World.ownsRow_made wb #[] 0 (Nat.le_refl _) (Nat.zero_le _) rfl)
      go_wp2_with (at_builtin; refine wpList_append_sl (E := elL) (H := r) rfl _ _ 25 rfl wb.heap.size iL (.agg #[.string ⟨#[]⟩, .bool false]) 24 Try.underlying25 hiL hzL hsL hbL rfl rfl oe22.out rfl se22.out (by omega) (by omega) (by simp) ?_)
      intro uA uc ub hae22
      obtain ⟨ea, eb, ec_, ed⟩ := cp_stepO o (E := elL) (H := r) (j := 7) (l := zlks) Vwb.out (by decide) rfl HRE.out (by have := se22.out.len; omega) (by exact hae22.out) Zwb.out.lks.each
      have de22 : ub.cell? ⟨e, 7, none⟩ = some (.slice zkA zkn zkc) := ed.cell 7
      have fe22 : ub.frozen? ⟨e, 7, none⟩ = false := ed.frz 7
      obtain ⟨wd, hw22⟩ : ∃ W, W = ub.setCell ⟨e, 7, none⟩ (.slice uA zkn uc) := ⟨_, rfl⟩
      rw [← hw22] at ea eb ec_
      have Vwd : Hid (Bk wd e 51 #[.int .i64 zt, .int .i64 zs, .int .i64 zf, .int .i64 zl, .int .i64 zu, .int .i64 zc, .slice yA zmn yc, .slice uA zkn uc]) := Lib.hid (by simpa using ea)
      have Y22 : Hid (@Sl (iP o) _ _ elL r wd uA zkn uc zlks) := Lib.hid (by simpa using ec_)
      have G22 : Hid (wb.grownBy wd (some e)) := Lib.hid eb
      have Zwd : Hid (XwIn r wd ⟨zt, zs, zf, zl, zu, zc, zmA, zmn, zmc, zmem, zkA, zkn, zkc, zlks⟩) := Lib.hid (elR.apart r wb wd _ e 51 _ _ rfl Zwb.out HRE.out Vwb.out eb)
      have HW22 := Lib.hid hw22
      clear ea eb ec_ ed hw22 hae22 se22 oe22 ce22
      go_upto_region 12 with fail
      rw [← (show wd = ub.setCell ⟨e, 7, none⟩ (.slice uA zkn uc) by simpa using HW22.out)]
      clear HW22 de22 fe22
      have Y21 := Lib.hid (Y21.out.other rfl (by decide) Vwb.out HRE.out G22.out)
      have be : Below wr.heap.size wr (wd.alloc (.cells #[.int .i64 zt, .int .i64 zs, .int .i64 zf, .int .i64 zl, .int .i64 zu, .int .i64 zc, .slice yA zmn yc, .slice uA zkn uc] 51)) := by
        have h1 : Below wr.heap.size wr wb := BA.out.grown G21.out BA.out.size (fun q hq => by injection hq with hq; have := HE.out; omega)
        have h2 : Below wr.heap.size wr wd := h1.grown G22.out h1.size (fun q hq => by injection hq with hq; have := HE.out; omega)
        exact h2.alloc h2.size _
      have NW : Hid (Sl (@elR (iP o)) r (wd.alloc (.cells #[.int .i64 zt, .int .i64 zs, .int .i64 zf, .int .i64 zl, .int .i64 zu, .int .i64 zc, .slice yA zmn yc, .slice uA zkn uc] 51)) (some ⟨wd.heap.size, 0, none⟩) 1 1 [(⟨zt, zs, zf, zl, zu, zc, yA, zmn, yc, zmem, uA, zkn, uc, zlks⟩ : Xw)]) := Lib.hid (by
        have bn := Bk.new wd 51 #[.int .i64 zt, .int .i64 zs, .int .i64 zf, .int .i64 zl, .int .i64 zu, .int .i64 zc, .slice yA zmn yc, .slice uA zkn uc]
        have ba2 : Below wd.heap.size wd (wd.alloc (.cells #[.int .i64 zt, .int .i64 zs, .int .i64 zf, .int .i64 zl, .int .i64 zu, .int .i64 zc, .slice yA zmn yc, .slice uA zkn uc] 51)) := (Below.refl _ _).alloc (Nat.le_refl _) _
        refine ⟨rfl, Nat.le_refl _, by unfold maxLen; omega, (fun q => nomatch q), fun y hy => ?_, fun _ => ⟨_, 0, rfl, ⟨bn.lt, .inl trivial, .inr ⟨_, _, bn⟩⟩, fun i hi j v hv => ?_⟩⟩
        · simp at hy
          rw [hy]
          have hz0 := Zwd.out
          exact @XwIn.mk (iP o) _ _ _ (hz0.tx) (hz0.st) (hz0.fi) (hz0.la) (hz0.un) (hz0.co) (Y21.out.calm (Calm.of_below ba2)) (Y22.out.calm (Calm.of_below ba2))
        · obtain rfl : i = 0 := by omega
          rw [bn.cell]
          have hv' : ([.int .i64 zt, .int .i64 zs, .int .i64 zf, .int .i64 zl, .int .i64 zu, .int .i64 zc, .slice yA zmn yc, .slice uA zkn uc] : List Value)[j]? = some v := hv
          have e0 : 0 + 0 * (@elR (iP o)).size + j = j := by simp
          rw [e0]
          simpa using hv')
      have BE := Lib.hid be
      have OW : Hid (∃ ys : List Xw, (wd.alloc (.cells #[.int .i64 zt, .int .i64 zs, .int .i64 zf, .int .i64 zl, .int .i64 zu, .int .i64 zc, .slice yA zmn yc, .slice uA zkn uc] 51)).ownsRow W5.heap.size (@elR (iP o)).ty (@elR (iP o)).size (.slice A k c) k (ys.flatMap (@elR (iP o)).cells) ∧ ys.length = k ∧ ys.map Xw.row = (rows.take k).map Xw.row ∧ (∀ y ∈ ys, (@elR (iP o)).inn r wr y) ∧ Below W5.heap.size W5 wr) := Lib.hid (by
        obtain ⟨ys, h1, h2, h3, h4, h5⟩ := hrel.out
        exact ⟨ys, owns_keep h1 (fun q hq => BE.out.block q (h1.lt q hq).2), h2, h3, h4, h5⟩)
      obtain ⟨ys, ho, hyl, hym, hyi, hyb⟩ := OW.out
      have HO := Lib.hid ho
      have HYS := Lib.hid (And.intro hyl (And.intro hym (And.intro hyi hyb)))
      have HBS : Hid (W5.heap.size ≤ (wd.alloc (.cells #[.int .i64 zt, .int .i64 zs, .int .i64 zf, .int .i64 zl, .int .i64 zu, .int .i64 zc, .slice yA zmn yc, .slice uA zkn uc] 51)).heap.size) := Lib.hid (Nat.le_trans HBL.out.size BE.out.size)
      clear be OW ho hyl hym hyi hyb
      go_wp2_with (first
        | (refine wpList_load_row rfl 51 _ rfl e rfl 51 _ (0, 0) _ Vwd.out Try.underlying51 rfl (by kernel_rfl) ?_)
        | (at_builtin; refine wpList_append_sl (E := @elR (iP o)) (H := r) rfl _ _ 26 rfl W5.heap.size iR (.agg #[.int .i64 0, .int .i64 0, .int .i64 0, .int .i64 0, .int .i64 0, .int .i64 0, .slice none 0 0, .slice none 0 0]) 96 Try.underlying26 hiR hzR hsR hbR rfl rfl HO.out rfl NW.out (by omega) (by omega) HBS.out ?_))
      intro A' c' wf hap
      have GN : Hid (GatRel (@elR (iP o)) Xw.row W5 r rows (k + 1) A' c' wf) := Lib.hid (GatRel.next (z' := (⟨zt, zs, zf, zl, zu, zc, yA, zmn, yc, zmem, uA, zkn, uc, zlks⟩ : Xw)) HLE.out rfl HYS.out.1 HYS.out.2.1 HYS.out.2.2.1 HYS.out.2.2.2 BE.out HO.out (NW.out.each _ (by simp)) (by rw [HZ.out]; rfl) (by rw [HRL.out]; exact hlt) hap.out)
      clear hap HO HYS NW BE HBS
      go_wp2_with fail
      go_roundw
      case rel => exact ⟨k + 1, A', c', by omega, rfl, by go_num, GN⟩
      case measure => simp [intOf]; omega
    · obtain rfl : rn = k := by omega
      obtain ⟨ry, hro⟩ : ∃ ry : List Xw, Hid (@Sl (iP o) _ _ (@elR (iP o)) r wr A rn c ry ∧ ry.map Xw.row = rows.map Xw.row ∧ Below W5.heap.size W5 wr) := by
        obtain ⟨ys, h1, h2, h3, h4, h5⟩ := hrel.out
        exact ⟨ys, Lib.hid ⟨Sl.of_ownO o h1 (Nat.le_of_lt V5.out.lt) h2 h4, by rw [h3, List.take_of_length_le (by rw [HRL.out]; exact Nat.le_refl _)], h5⟩⟩
      have vw := V5.out.bel hro.out.2.2 V5.out.lt
      have d5 : wr.cell? ⟨r, 12, none⟩ = some (.slice rA rn rc) := vw.cell 12
      have f5 : wr.frozen? ⟨r, 12, none⟩ = false := vw.frz 12
      obtain ⟨W6, hW6⟩ : ∃ W, W = wr.setCell ⟨r, 12, none⟩ (.slice A rn c) := ⟨_, rfl⟩
      have gs6 : wr.grownBy W6 (some r) := by rw [hW6]; exact grown_set wr r 12 _
      have cw : Calm r W5 wr := ⟨hro.out.2.2.os, hro.out.2.2.tape, hro.out.2.2.output, hro.out.2.2.size, fun q hq _ => hro.out.2.2.block q hq⟩
      have V6 : Hid (Bk W6 r 30 #[.int .i64 kind, .int .i64 tx, .int .i64 prev, .int .i64 next, .string key, .bool oh, .string od, .bool nh, .string nd, .int .i64 co, .slice B1A mn B1c, .slice B2A kn B2c, .slice A rn c, .slice B3A dn B3c, .slice eA en ec, .slice B4A pn B4c]) := Lib.hid (by rw [hW6]; have := vw.setc 12 (.slice A rn c); simpa using this)
      have X6 : Hid (XrIn r W6 X) := Lib.hid ((X5.out.calm cw).other vw (Nat.le_refl r) gs6)
      have B6 : Hid (Below r w W6) := Lib.hid ((B5.out.trans (hro.out.2.2.mono (Nat.le_of_lt V5.out.lt))).grown gs6 (Nat.le_of_lt vw.lt) (fun q hq => by injection hq with hq; omega))
      have Z6 : Hid (Bk W6 (r + 1) 30 #[.int .i64 0, .int .i64 0, .int .i64 0, .int .i64 0, .string ⟨#[]⟩, .bool false, .string ⟨#[]⟩, .bool false, .string ⟨#[]⟩, .int .i64 0, .slice none 0 0, .slice none 0 0, .slice none 0 0, .slice none 0 0, .slice none 0 0, .slice none 0 0]) := Lib.hid ((gs6.block (r + 1) (Z5.out.bel hro.out.2.2 Z5.out.lt).lt (by simp)).trans (Z5.out.bel hro.out.2.2 Z5.out.lt))
      have HS1 := Lib.hid ((HS1.out.calm cw).other rfl (by decide) vw (Nat.le_refl r) gs6)
      have HS2 := Lib.hid ((HS2.out.calm cw).other rfl (by decide) vw (Nat.le_refl r) gs6)
      have HS3 := Lib.hid ((HS3.out.calm cw).other rfl (by decide) vw (Nat.le_refl r) gs6)
      have HS4 := Lib.hid ((HS4.out.calm cw).other rfl (by decide) vw (Nat.le_refl r) gs6)
      have HS5 := Lib.hid (hro.out.1.other rfl (show 30 ≠ 51 by decide) vw (Nat.le_refl r) gs6)
      have HM5 := Lib.hid hro.out.2.1
      have HW6 := Lib.hid hW6
      clear hW6 gs6 cw vw hro hrel q12 HBL hk XR HIN rcap rmax
      go_upto_region 14 with fail
      rw [← HW6.out]
      clear HW6 d5 f5
      have S6 : Hid (GatRel (@elE (iP o)) Xd.deed W6 r deeds 0 none 0 W6) := Lib.hid ⟨[], World.ownsRow_nil _ _ _ _, rfl, rfl, by simp, Below.refl _ _⟩
      have HLE : Hid (r ≤ W6.heap.size) := Lib.hid (Nat.le_of_lt V6.out.lt)
      have hrl : deeds.length = en := by have := X6.out.deeds.len; rw [HXE.out] at this; exact this
      have XR : Hid (Sl elE r W6 eA en ec deeds) := Lib.hid (by have := X6.out.deeds; rw [HXE.out] at this; exact this)
      have HIN : Hid (∀ i, i < en → (deeds.getD i default).mn ≤ 20) := Lib.hid HG.out.inn.2
      have HRL := Lib.hid hrl
      have ecap := XR.out.cap
      have emax := XR.out.max
      unfold maxLen at emax
      clear hrl
      have q14 : W6.cell? ⟨r, 14, none⟩ = some (.slice eA en ec) := V6.out.cell 14
      go_wp2_with fail
      clear q14
      go_loopw [6, 7] (fun t3 q wr => ∃ (k : Nat) (A : Option Addr) (c : Nat), k ≤ en ∧ t3 = .slice A k c ∧ q = .int .i64 k ∧ Hid (GatRel (@elE (iP o)) Xd.deed W6 r deeds k A c wr)) (fun _ q _ => en - (intOf q).toNat)
      case atStart => exact ⟨0, none, 0, Nat.zero_le _, rfl, rfl, S6⟩
      case round =>
        clear S6 hlt
        obtain ⟨k, A2, c2, hk, rfl, rfl, hrel⟩ := hrel
        have hbl : Below W6.heap.size W6 wr := by obtain ⟨_, _, _, _, _, q⟩ := hrel.out; exact q
        have q14 : wr.cell? ⟨r, 14, none⟩ = some (.slice eA en ec) := (V6.out.bel hbl V6.out.lt).cell 14
        have HBL := Lib.hid hbl
        clear hbl
        by_cases hlt : k < en
        · obtain ⟨g, off, hA, hsg, hr⟩ := XR.out.at_ (show 0 < en by omega)
          obtain rfl : eA = _ := hA
          obtain ⟨z, hz⟩ : ∃ z, deeds.getD k default = z := ⟨_, rfl⟩
          have hr2 : wr.rangeAt g (off + k * 2) (elE.cells z) := by rw [← hz]; exact below_range7 (hr k hlt) hsg.1 HBL.out
          have hzi : XdIn r wr z := by rw [← hz]; exact elE.calm r W6 wr _ (XR.out.get hlt) (Calm.of_below HBL.out)
          have gz1 : z.mn ≤ 20 := by rw [← hz]; exact HIN.out k hlt
          have HZ := Lib.hid hz
          have hgl : g < wr.heap.size := Nat.lt_of_lt_of_le hsg.1 HBL.out.size
          obtain ⟨zt, zmA, zmn, zmc, zmem⟩ := z
          have gz1 : zmn ≤ 20 := gz1
          have vr := V6.out.bel HBL.out V6.out.lt
          have KS : Hid (∀ W, Below wr.heap.size wr W → W.cell? ⟨r, 14, none⟩ = some (.slice (some ⟨g, off, none⟩) en ec) ∧ W.cell? ⟨g, off + k * 2, none⟩ = some (.int .i64 zt) ∧ W.cell? ⟨g, off + k * 2 + 1, none⟩ = some (.slice zmA zmn zmc)) :=
            Lib.hid (fun W hb => ⟨(vr.bel hb vr.lt).cell 14, below_range7 hr2 hgl hb 0 _ rfl, below_range7 hr2 hgl hb 1 _ rfl⟩)
          have hr6 : W6.rangeAt g (off + k * 2) [.int .i64 zt, .slice zmA zmn zmc] := by have := hr k hlt; rw [HZ.out] at this; exact this
          have KS6 : Hid (∀ W, Below W6.heap.size W6 W → W.cell? ⟨r, 14, none⟩ = some (.slice (some ⟨g, off, none⟩) en ec) ∧ W.cell? ⟨g, off + k * 2, none⟩ = some (.int .i64 zt) ∧ W.cell? ⟨g, off + k * 2 + 1, none⟩ = some (.slice zmA zmn zmc)) :=
            Lib.hid (fun W hb => ⟨(V6.out.bel hb V6.out.lt).cell 14, below_range7 hr6 hsg.1 hb 0 _ rfl, below_range7 hr6 hsg.1 hb 1 _ rfl⟩)
          have HZI := Lib.hid hzi
          clear hr hr2 hr6 hsg hz hzi hgl vr
          go_wp2_with fail
          have hS0 := KS.out wr.drew (Below.refl _ _).drew
          refine wp_region_noPanic ?_
          refine upto_start (fun W => W.cell? ⟨r, 14, none⟩ = some (.slice (some ⟨g, off, none⟩) en ec) ∧ W.cell? ⟨g, off + k * 2, none⟩ = some (.int .i64 zt) ∧ W.cell? ⟨g, off + k * 2 + 1, none⟩ = some (.slice zmA zmn zmc)) 18 (by kernel_rfl) ?_
          change Upto _ _ _ _ _ 19 _ _ _
          refine Upto.take (i := 0) (v := ?_) rfl (by kernel_rfl) (fun _ _ _ h => h) rfl (fun w' hS => ?_) hS0 ?_
          rotate_left
          · (try dsimp only at hS); go_split_ands; go_simp; (try with_reducible rfl)
          simp only [Act.put, List.setIfInBounds_toArray, List.set_cons_zero, List.set_cons_succ]
          refine Upto.take (i := 1) (v := ?_) rfl (by kernel_rfl) (fun _ _ _ h => h) rfl (fun w' hS => ?_) hS0 ?_
          rotate_left
          · (try dsimp only at hS); go_split_ands; go_simp; (try with_reducible rfl)
          simp only [Act.put, List.setIfInBounds_toArray, List.set_cons_zero, List.set_cons_succ]
          refine Upto.take (i := 2) (v := ?_) rfl (by kernel_rfl) (fun _ _ _ h => h) rfl (fun w' hS => ?_) hS0 ?_
          rotate_left
          · (try dsimp only at hS); go_split_ands; go_simp; (try with_reducible rfl)
          simp only [Act.put, List.setIfInBounds_toArray, List.set_cons_zero, List.set_cons_succ]
          refine Upto.take (i := 3) (v := ?_) rfl (by kernel_rfl) (fun _ _ _ h => h) rfl (fun w' hS => ?_) hS0 ?_
          rotate_left
          · (try dsimp only at hS); go_split_ands; go_simp; (try with_reducible rfl)
          simp only [Act.put, List.setIfInBounds_toArray, List.set_cons_zero, List.set_cons_succ]
          refine Upto.take (i := 4) (v := ?_) rfl (by kernel_rfl) (fun _ _ _ h => h) rfl (fun w' hS => ?_) hS0 ?_
          rotate_left
          · (try dsimp only at hS); go_split_ands; go_simp; (try with_reducible rfl)
          simp only [Act.put, List.setIfInBounds_toArray, List.set_cons_zero, List.set_cons_succ]
          refine Upto.take (i := 5) (v := ?_) rfl (by kernel_rfl) (fun _ _ _ h => h) rfl (fun w' hS => ?_) hS0 ?_
          rotate_left
          · (try dsimp only at hS); go_split_ands; go_simp; (try with_reducible rfl)
          simp only [Act.put, List.setIfInBounds_toArray, List.set_cons_zero, List.set_cons_succ]
          refine Upto.take (i := 6) (v := ?_) rfl (by kernel_rfl) (fun _ _ _ h => h) rfl (fun w' hS => ?_) hS0 ?_
          rotate_left
          · (try dsimp only at hS); go_split_ands; go_simp; (try with_reducible rfl)
          simp only [Act.put, List.setIfInBounds_toArray, List.set_cons_zero, List.set_cons_succ]
          refine Upto.take (i := 8) (v := ?_) rfl (by kernel_rfl) (fun _ _ _ h => h) rfl (fun w' hS => ?_) hS0 ?_
          rotate_left
          · (try dsimp only at hS); go_split_ands; go_simp; (try with_reducible rfl)
          simp only [Act.put, List.setIfInBounds_toArray, List.set_cons_zero, List.set_cons_succ]
          refine Upto.take (i := 9) (v := ?_) rfl (by kernel_rfl) (fun _ _ _ h => h) rfl (fun w' hS => ?_) hS0 ?_
          rotate_left
          · (try dsimp only at hS); go_split_ands; go_simp; (try with_reducible rfl)
          simp only [Act.put, List.setIfInBounds_toArray, List.set_cons_zero, List.set_cons_succ]
          refine Upto.take (i := 10) (v := ?_) rfl (by kernel_rfl) (fun _ _ _ h => h) rfl (fun w' hS => ?_) hS0 ?_
          rotate_left
          · (try dsimp only at hS); go_split_ands; go_simp; (try with_reducible rfl)
          simp only [Act.put, List.setIfInBounds_toArray, List.set_cons_zero, List.set_cons_succ]
          refine Upto.take (i := 11) (v := ?_) rfl (by kernel_rfl) (fun _ _ _ h => h) rfl (fun w' hS => ?_) hS0 ?_
          rotate_left
          · (try dsimp only at hS); go_split_ands; go_simp; (try with_reducible rfl)
          simp only [Act.put, List.setIfInBounds_toArray, List.set_cons_zero, List.set_cons_succ]
          refine Upto.take (i := 12) (v := ?_) rfl (by kernel_rfl) (fun _ _ _ h => h) rfl (fun w' hS => ?_) hS0 ?_
          rotate_left
          · (try dsimp only at hS); go_split_ands; go_simp; (try with_reducible rfl)
          simp only [Act.put, List.setIfInBounds_toArray, List.set_cons_zero, List.set_cons_succ]
          refine Upto.take (i := 13) (v := ?_) rfl (by kernel_rfl) (fun _ _ _ h => h) rfl (fun w' hS => ?_) hS0 ?_
          rotate_left
          · (try dsimp only at hS); go_split_ands; go_simp; (try with_reducible rfl)
          simp only [Act.put, List.setIfInBounds_toArray, List.set_cons_zero, List.set_cons_succ]
          have bd : Below wr.heap.size wr wr.drew := (Below.refl _ _).drew
          obtain ⟨wa, hwa⟩ : ∃ wa, wa = wr.drew.alloc (.cells #[] 3) := ⟨_, rfl⟩
          have ba : Below wr.heap.size wr wa := by rw [hwa]; exact bd.alloc bd.size _
          have HRD : Hid (r ≤ wr.drew.heap.size) := Lib.hid (Nat.le_trans (Nat.le_of_lt V6.out.lt) (Nat.le_trans HBL.out.size bd.size))
          refine Upto.only (i := 7) rfl (by kernel_rfl) rfl (exec_buildSlice rfl [] (by rfl) (bs_empty wr.drew)) (by rw [← hwa]; exact KS.out wa ba) ?_
          simp only [Act.put, List.setIfInBounds_toArray, List.set_cons_zero, List.set_cons_succ]
          have oe : wa.ownsRow wr.drew.heap.size elI.ty elI.size (.slice (some ⟨wr.drew.heap.size, 0, none⟩) 0 0) 0 ([].flatMap elI.cells) := by rw [hwa]; exact World.ownsRow_made wr.drew #[] 0 (Nat.le_refl _) (Nat.zero_le _) rfl
          have ne : Sl elI r wa zmA zmn zmc zmem := HZI.out.mem.calm (Calm.of_below ba)
          have hsa : wr.drew.heap.size ≤ wa.heap.size := by rw [hwa]; simp
          refine Upto.law (i := 14) rfl (by kernel_rfl) rfl (fun K hK => ?_)
          refine wp_append_sl (E := elI) (H := r) (w := wr.drew.alloc (.cells #[] 3)) _ _ 24 rfl wr.drew.heap.size iI (.int .i64 0) 8 Try.underlying24 hiI hzI hsI hbI rfl (by rfl) (by rw [← hwa]; exact oe) (by rfl) (by rw [← hwa]; exact ne) (by omega) (by omega) (by rw [← hwa]; exact hsa) ?_
          intro yA yc wb hap
          have hapo : Apd elI wr.drew.heap.size wa wb (some wr.heap.size) yA zmn yc zmem := by
            rw [hwa]
            have := hap.out
            rw [Nat.zero_add] at this
            exact this
          have bb : Below wr.heap.size wr wb := ba.grown hapo.grown ba.size (fun q hq => by injection hq with hq; omega)
          refine hK _ _ (KS.out wb bb) ?_
          simp only [Act.put, List.setIfInBounds_toArray, List.set_cons_zero, List.set_cons_succ, Nat.zero_add]
          have YM : Hid (@Sl (iP o) _ _ elI r wb yA zmn yc zmem) := Lib.hid (Sl.of_ownO o hapo.own HRD.out HZI.out.mem.len (fun y hy => HZI.out.mem.each y hy))
          have BB := Lib.hid bb
          have hS0 := KS.out wb bb
          clear hK hap hapo oe ne hsa ba bd hwa bb
          refine Upto.take (i := 15) (v := ?_) rfl (by kernel_rfl) (fun _ _ _ h => h) rfl (fun w' hS => ?_) hS0 ?_
          rotate_left
          · (try dsimp only at hS); go_split_ands; go_simp; (try with_reducible rfl)
          simp only [Act.put, List.setIfInBounds_toArray, List.set_cons_zero, List.set_cons_succ]
          obtain ⟨we, hwe⟩ : ∃ we, we = wb.alloc (.cells #[.int .i64 zt, .slice yA zmn yc] 53) := ⟨_, rfl⟩
          have be : Below wr.heap.size wr we := by rw [hwe]; exact BB.out.alloc BB.out.size _
          refine Upto.only (i := 16) rfl (by kernel_rfl) rfl (exec_buildSlice rfl [(0, .agg #[.int .i64 zt, .slice yA zmn yc])] (by rfl) (bs_deed wb zt yA zmn yc)) (by rw [← hwe]; exact KS.out we be) ?_
          simp only [Act.put, List.setIfInBounds_toArray, List.set_cons_zero, List.set_cons_succ]
          have bn := Bk.new wb 53 #[.int .i64 zt, .slice yA zmn yc]
          have nz : @XdIn (iP o) r we (⟨zt, yA, zmn, yc, zmem⟩ : Xd) := @XdIn.mk (iP o) _ _ _ (HZI.out.tx) (YM.out.calm (Calm.of_below (by rw [hwe]; exact (Below.refl _ _).alloc (Nat.le_refl _) _)))
          have ne : Sl (@elE (iP o)) r we (some ⟨wb.heap.size, 0, none⟩) 1 1 [(⟨zt, yA, zmn, yc, zmem⟩ : Xd)] := by
            refine ⟨rfl, Nat.le_refl _, by unfold maxLen; omega, (fun q => nomatch q), fun y hy => ?_, fun _ => ⟨_, 0, rfl, by rw [hwe]; exact ⟨bn.lt, .inl trivial, .inr ⟨_, _, bn⟩⟩, fun i hi j v hv => ?_⟩⟩
            · simp at hy
              rw [hy]
              exact nz
            · obtain rfl : i = 0 := by omega
              rw [hwe, bn.cell]
              have hv' : ([.int .i64 zt, .slice yA zmn yc] : List Value)[j]? = some v := hv
              have e0 : 0 + 0 * (@elE (iP o)).size + j = j := by simp
              rw [e0]
              simpa using hv'
          obtain ⟨ys, h1, hyl, hym, hyi, hyb⟩ := hrel.out
          have ho : we.ownsRow W6.heap.size (@elE (iP o)).ty (@elE (iP o)).size (.slice A2 k c2) k (ys.flatMap (@elE (iP o)).cells) := owns_keep h1 (fun q hq => be.block q (h1.lt q hq).2)
          have hsz : W6.heap.size ≤ we.heap.size := Nat.le_trans HBL.out.size be.size
          refine Upto.law (i := 17) rfl (by kernel_rfl) rfl (fun K hK => ?_)
          refine wp_append_sl (E := @elE (iP o)) (H := r) (w := wb.alloc (.cells #[.int .i64 zt, .slice yA zmn yc] 53)) _ _ 28 rfl W6.heap.size iE (.agg #[.int .i64 0, .slice none 0 0]) 32 Try.underlying28 hiE hzE hsE hbE rfl (by rfl) (by rw [← hwe]; exact ho) (by rfl) (by rw [← hwe]; exact ne) (by omega) (by omega) (by rw [← hwe]; exact hsz) ?_
          intro A' c' wf hap
          have hapo : Apd (@elE (iP o)) W6.heap.size we wf (Value.ownBlock (.slice A2 k c2)) A' (k + 1) c' (ys ++ [(⟨zt, yA, zmn, yc, zmem⟩ : Xd)]) := by rw [hwe]; exact hap.out
          have gn : GatRel (@elE (iP o)) Xd.deed W6 r deeds (k + 1) A' c' wf := GatRel.next (z' := (⟨zt, yA, zmn, yc, zmem⟩ : Xd)) HLE.out rfl hyl hym hyi hyb be ho nz (by rw [HZ.out]; rfl) (by rw [HRL.out]; exact hlt) hapo
          have bf : Below W6.heap.size W6 wf := by obtain ⟨_, _, _, _, _, q⟩ := gn; exact q
          refine hK _ _ (KS6.out wf bf) ?_
          have GN := Lib.hid gn
          clear hK hap hapo gn bf ho hsz h1 hyl hym hyi hyb ne nz bn hwe be hS0
          simp only [Act.put, List.setIfInBounds_toArray, List.set_cons_zero, List.set_cons_succ]
          refine Upto.tail rfl (by kernel_rfl) ?_
          simp only [List.drop_succ_cons, List.drop_zero]
          go_wp2_with fail
          refine NoPanic.normal ?_
          go_wp2_with fail
          go_roundw
          case rel => exact ⟨k + 1, A', c', by omega, rfl, by go_num, GN⟩
          case measure => simp [intOf]; omega
        · obtain rfl : en = k := by omega
          obtain ⟨ey, hro⟩ : ∃ ey : List Xd, Hid (@Sl (iP o) _ _ (@elE (iP o)) r wr A2 en c2 ey ∧ ey.map Xd.deed = deeds.map Xd.deed ∧ Below W6.heap.size W6 wr) := by
            obtain ⟨ys, h1, h2, h3, h4, h5⟩ := hrel.out
            exact ⟨ys, Lib.hid ⟨Sl.of_ownO o h1 (Nat.le_of_lt V6.out.lt) h2 h4, by rw [h3, List.take_of_length_le (by rw [HRL.out]; exact Nat.le_refl _)], h5⟩⟩
          have vw := V6.out.bel hro.out.2.2 V6.out.lt
          have d6 : wr.cell? ⟨r, 14, none⟩ = some (.slice eA en ec) := vw.cell 14
          have f6 : wr.frozen? ⟨r, 14, none⟩ = false := vw.frz 14
          obtain ⟨W7, hW7⟩ : ∃ W, W = wr.setCell ⟨r, 14, none⟩ (.slice A2 en c2) := ⟨_, rfl⟩
          have gs7 : wr.grownBy W7 (some r) := by rw [hW7]; exact grown_set wr r 14 _
          have cw : Calm r W6 wr := ⟨hro.out.2.2.os, hro.out.2.2.tape, hro.out.2.2.output, hro.out.2.2.size, fun q hq _ => hro.out.2.2.block q hq⟩
          have V7 : Hid (Bk W7 r 30 #[.int .i64 kind, .int .i64 tx, .int .i64 prev, .int .i64 next, .string key, .bool oh, .string od, .bool nh, .string nd, .int .i64 co, .slice B1A mn B1c, .slice B2A kn B2c, .slice A rn c, .slice B3A dn B3c, .slice A2 en c2, .slice B4A pn B4c]) := Lib.hid (by rw [hW7]; have := vw.setc 14 (.slice A2 en c2); simpa using this)
          have X7 : XrIn r W7 X := (X6.out.calm cw).other vw (Nat.le_refl r) gs7
          have B7 : Hid (Below r w W7) := Lib.hid ((B6.out.trans (hro.out.2.2.mono (Nat.le_of_lt V6.out.lt))).grown gs7 (Nat.le_of_lt vw.lt) (fun q hq => by injection hq with hq; omega))
          have Z7 : Hid (Bk W7 (r + 1) 30 #[.int .i64 0, .int .i64 0, .int .i64 0, .int .i64 0, .string ⟨#[]⟩, .bool false, .string ⟨#[]⟩, .bool false, .string ⟨#[]⟩, .int .i64 0, .slice none 0 0, .slice none 0 0, .slice none 0 0, .slice none 0 0, .slice none 0 0, .slice none 0 0]) := Lib.hid ((gs7.block (r + 1) (Z6.out.bel hro.out.2.2 Z6.out.lt).lt (by simp)).trans (Z6.out.bel hro.out.2.2 Z6.out.lt))
          rw [HXE.out] at X7
          have XY : @XrIn (iP o) r W7 (⟨kind, tx, prev, next, key, ⟨oh, od⟩, ⟨nh, nd⟩, co, B1A, mn, B1c, mem, B2A, kn, B2c, lks, A, rn, c, ry, B3A, dn, B3c, dirty, A2, en, c2, ey, B4A, pn, B4c, past⟩ : Xr) :=
            @XrIn.mk (iP o) _ _ _ (X7.kind) (X7.tx) (X7.prev) (X7.next) (X7.key) (X7.old) (X7.new) (X7.co) ((HS1.out.calm cw).other rfl (by decide) vw (Nat.le_refl r) gs7) ((HS2.out.calm cw).other rfl (by decide) vw (Nat.le_refl r) gs7) ((HS5.out.calm cw).other rfl (show 30 ≠ 51 by decide) vw (Nat.le_refl r) gs7) ((HS3.out.calm cw).other rfl (by decide) vw (Nat.le_refl r) gs7) (hro.out.1.other rfl (show 30 ≠ 53 by decide) vw (Nat.le_refl r) gs7) ((HS4.out.calm cw).other rfl (by decide) vw (Nat.le_refl r) gs7)
          have R : Hid (RetCopyO o X w (.returned (.agg #[.int .i64 kind, .int .i64 tx, .int .i64 prev, .int .i64 next, .string key, .bool oh, .string od, .bool nh, .string nd, .int .i64 co, .slice B1A mn B1c, .slice B2A kn B2c, .slice A rn c, .slice B3A dn B3c, .slice A2 en c2, .slice B4A pn B4c])) (W7.setRow (r + 1) #[.int .i64 kind, .int .i64 tx, .int .i64 prev, .int .i64 next, .string key, .bool oh, .string od, .bool nh, .string nd, .int .i64 co, .slice B1A mn B1c, .slice B2A kn B2c, .slice A rn c, .slice B3A dn B3c, .slice A2 en c2, .slice B4A pn B4c])) := Lib.hid (by
            refine ⟨(⟨kind, tx, prev, next, key, ⟨oh, od⟩, ⟨nh, nd⟩, co, B1A, mn, B1c, mem, B2A, kn, B2c, lks, A, rn, c, ry, B3A, dn, B3c, dirty, A2, en, c2, ey, B4A, pn, B4c, past⟩ : Xr), rfl, ?_, ?_, ?_⟩
            rotate_left
            · rw [HXE.out]
              show (⟨kind, tx, prev, next, key, ⟨oh, od⟩, ⟨nh, nd⟩, co, mem, lks, ry.map Xw.row, dirty, ey.map Xd.deed, past⟩ : Rc) = ⟨kind, tx, prev, next, key, ⟨oh, od⟩, ⟨nh, nd⟩, co, mem, lks, rows.map Xw.row, dirty, deeds.map Xd.deed, past⟩
              rw [HM5.out, hro.out.2.1]
            · rw [HRR.out]
              exact below_setRow B7.out (by omega) _
            · rw [HRR.out]
              exact XY.other Z7.out (by omega) (grown_setRow _ _ _))
          have RB := Lib.hid (Z7.out.rowp #[.int .i64 kind, .int .i64 tx, .int .i64 prev, .int .i64 next, .string key, .bool oh, .string od, .bool nh, .string nd, .int .i64 co, .slice B1A mn B1c, .slice B2A kn B2c, .slice A rn c, .slice B3A dn B3c, .slice A2 en c2, .slice B4A pn B4c])
          have HW7 := Lib.hid hW7
          clear hW7 gs7 cw vw hro hrel q14 HBL XY X7
          go_upto_region 20 with fail
          rw [← HW7.out]
          clear HW7 d6 f6
          go_wp2_with (first
            | (refine wpList_load_row rfl 30 _ rfl r rfl 30 _ (0, 0) _ V7.out Try.underlying30 rfl inf_rec ?_)
            | (refine wpList_store_row rfl 30 _ _ rfl (r + 1) #[.int .i64 kind, .int .i64 tx, .int .i64 prev, .int .i64 next, .string key, .bool oh, .string od, .bool nh, .string nd, .int .i64 co, .slice B1A mn B1c, .slice B2A kn B2c, .slice A rn c, .slice B3A dn B3c, .slice A2 en c2, .slice B4A pn B4c] rfl rfl 30 _ Z7.out inf_rec rfl (rec_one _ (by simp [Value.oneCell'])) ?_; simp only [Act.put]))
          (try simp only [Exit.inBlock, Exit.then])
          refine bodyPost_ret (results_cell_row rfl _ _ (r + 1) 30 _ (0, 0) _ rfl RB.out Try.underlying30 rfl inf_rec) rfl ?_
          exact R.out
/-- A record that is a copy of x. -/
def RetCopy (x : Xr) (w : World) (e : Ending) (w' : World) : Prop := ∃ y : Xr, e = .returned y.val ∧ XrIn w.heap.size w' y ∧ y.read = x.read ∧ Below w.heap.size w w'
theorem copy_any (x : Xr) (w : World) (hx : XrIn w.heap.size w x) (hg : NotGreat x) : Calls Try.prog 8 #[x.val] w (RetCopy x w) := copy_gen True x w hx hg
/-- A copy lies in new memory, all of it, and may be written. -/
def RetCopyN (x : Xr) (w : World) (e : Ending) (w' : World) : Prop := ∃ y : Xr, e = .returned y.val ∧ XrIn w'.heap.size w' y ∧ (∀ k, y.owns k → w.heap.size ≤ k ∧ k < w'.heap.size) ∧ y.read = x.read ∧ Below w.heap.size w w' ∧ y.Wrt w'
theorem copy_new (x : Xr) (w : World) (hx : XrIn w.heap.size w x) (hg : NotGreat x) : Calls Try.prog 8 #[x.val] w (RetCopyN x w) := (copy_gen False x w hx hg).mono fun e w' ⟨y, he, hy, hr, hb⟩ => by
  obtain ⟨h1, h2⟩ := XrIn.fresh hy
  exact ⟨y, he, h1.up hb.size, h2, hr, hb, XrIn.wrt hy⟩
end Go.Proofs.Ytfldcddbmikfiaa

/- trothref07's SameInts, Members, seq, Key and Value answer true just where the document's words hold. -/
namespace Go.Proofs.Ytfldcddbmikfiaa
open Go.RowKit

/-- A yes or a no, and nothing is written. -/
def RetB (P : Prop) (w : World) (e : Ending) (w' : World) : Prop := ∃ b : Bool, e = .returned (.bool b) ∧ (b = true ↔ P) ∧ ∃ m, w' = w.drewN m
theorem RetB.yes {P : Prop} {w w' : World} (h : P) (hb : ∃ m, w' = w.drewN m) : RetB P w (.returned (.bool true)) w' := ⟨true, rfl, ⟨fun _ => h, fun _ => rfl⟩, hb⟩
theorem RetB.no {P : Prop} {w w' : World} (h : ¬ P) (hb : ∃ m, w' = w.drewN m) : RetB P w (.returned (.bool false)) w' := ⟨false, rfl, ⟨(fun q => nomatch q), fun q => absurd q h⟩, hb⟩
theorem RetB.iff {P Q : Prop} {w w' : World} {e : Ending} (h : RetB P w e w') (hq : P ↔ Q) : RetB Q w e w' := by
  obtain ⟨b, he, hb, hw⟩ := h
  exact ⟨b, he, hb.trans hq, hw⟩
theorem RetB.true_ {P : Prop} {p : Program} {f : FuncId} {args : Array Value} {w : World} (h : Calls p f args w (RetB P w)) (hp : P) : Calls p f args w (Quiet (.bool true) w) :=
  h.mono fun e w' ⟨b, he, hb, hw⟩ => by
    have := hb.2 hp
    subst this
    exact ⟨he, hw⟩
theorem RetB.false_ {P : Prop} {p : Program} {f : FuncId} {args : Array Value} {w : World} (h : Calls p f args w (RetB P w)) (hp : ¬ P) : Calls p f args w (Quiet (.bool false) w) :=
  h.mono fun e w' ⟨b, he, hb, hw⟩ => by
    cases b with
    | true => exact absurd (hb.1 rfl) hp
    | false => exact ⟨he, hw⟩
theorem quiet_m {p : Program} {f : FuncId} {args : Array Value} {w : World} {m n : Nat} {v : Value} (h : Calls p f args (w.drewN (m + n)) (Quiet v (w.drewN (m + n)))) : Calls p f args (w.drewN (m + n)) fun e w'' => e = .returned v ∧ ∃ k, w'' = w.drewN (m + k) :=
  h.mono fun _ _ ⟨he, k, hk⟩ => ⟨he, n + k, by rw [hk, World.drewN_drewN, Nat.add_assoc]⟩
theorem drew_self (w : World) : ∃ m, w = w.drewN m := ⟨0, rfl⟩
theorem drew_n (w : World) (m : Nat) : ∃ k, w.drewN m = w.drewN k := ⟨m, rfl⟩

set_option maxHeartbeats 1000000 in
theorem refSeq_any (n least : Int) (w : World) : Calls Try.prog 26 #[.int .i64 n, .int .i64 least] w (RetB (seqOk least n) w) := by
  by_cases h1 : least ≤ n
  · by_cases h2 : n ≤ 1099511627776
    · have R := Lib.hid (RetB.yes (P := seqOk least n) ⟨h1, h2⟩ (drew_self w))
      go_enter Try.func26, Try.ntmps26
      go_wp2
      go_ret
      exact R.out
    · have R := Lib.hid (RetB.no (P := seqOk least n) (fun q => h2 q.2) (drew_self w))
      go_enter Try.func26, Try.ntmps26
      go_wp2
      go_ret
      exact R.out
  · have R := Lib.hid (RetB.no (P := seqOk least n) (fun q => h1 q.1) (drew_self w))
    go_enter Try.func26, Try.ntmps26
    go_wp2
    go_ret
    exact R.out

set_option maxHeartbeats 1000000 in
theorem refKey_any (k : ByteArray) (w : World) : Calls Try.prog 27 #[.string k] w (RetB (keyOk k) w) := by
  by_cases h1 : 1 ≤ k.size
  · have h1' : (1 : Int) ≤ (k.size : Int) := by omega
    by_cases h2 : k.size ≤ 16
    · have h2' : (k.size : Int) ≤ 16 := by omega
      have R := Lib.hid (RetB.yes (P := keyOk k) ⟨h1, h2⟩ (drew_self w))
      go_enter Try.func27, Try.ntmps27
      go_wp2
      go_ret
      exact R.out
    · have h2' : ¬ (k.size : Int) ≤ 16 := by omega
      have R := Lib.hid (RetB.no (P := keyOk k) (fun q => h2 q.2) (drew_self w))
      go_enter Try.func27, Try.ntmps27
      go_wp2
      go_ret
      exact R.out
  · have h1' : ¬ (1 : Int) ≤ (k.size : Int) := by omega
    have R := Lib.hid (RetB.no (P := keyOk k) (fun q => h1 q.1) (drew_self w))
    go_enter Try.func27, Try.ntmps27
    go_wp2
    go_ret
    exact R.out

set_option maxHeartbeats 2000000 in
theorem refInts_any (A : Option Addr) (n c : Nat) (A' : Option Addr) (n' c' H H' : Nat) (l l' : List Int) (w : World) (h : Sl elI H w A n c l) (h' : Sl elI H' w A' n' c' l') :
    Calls Try.prog 43 #[.slice A n c, .slice A' n' c'] w (RetB (l = l') w) := by
  have hl := h.len
  have hl' := h'.len
  by_cases hnn : n = n'
  · subst hnn
    by_cases hn : 0 < n
    · obtain ⟨g, off, rfl, _, hr⟩ := h.at_ hn
      obtain ⟨g', off', rfl, _, hr'⟩ := h'.at_ hn
      have hc0 : ∀ i, i < n → w.cell? ⟨g, off + i, none⟩ = some (.int .i64 (l.getD i default)) := fun i hi => by have := hr i hi 0 _ rfl; simpa [elI] using this
      have hc1 : ∀ i, i < n → w.cell? ⟨g', off' + i, none⟩ = some (.int .i64 (l'.getD i default)) := fun i hi => by have := hr' i hi 0 _ rfl; simpa [elI] using this
      have hcap := h.cap
      have hmax := h.max
      have hcap' := h'.cap
      have hmax' := h'.max
      unfold maxLen at hmax hmax'
      have HC0 := Lib.hid hc0
      have HC1 := Lib.hid hc1
      have HL := Lib.hid (And.intro hl hl')
      clear hc0 hc1 h h' hr hr' hl hl'
      go_enter Try.func43, Try.ntmps43
      go_wp2
      go_loopw [5] (fun i wr => ∃ k : Nat, k ≤ n ∧ i = .int .i64 k ∧ (∃ m, wr = w.drewN m) ∧ Hid (∀ j, j < k → l.getD j default = l'.getD j default)) (fun i _ => n - (intOf i).toNat)
      case atStart => exact ⟨0, Nat.zero_le _, rfl, ⟨0, rfl⟩, Lib.hid (fun j hj => absurd hj (by omega))⟩
      case round =>
        obtain ⟨k, hk, rfl, ⟨m, rfl⟩, HP⟩ := hrel
        by_cases hlt : k < n
        · have hx := HC0.out k hlt
          have hy := HC1.out k hlt
          by_cases hxy : l.getD k default = l'.getD k default
          · have HQ : Hid (∀ j, j < k + 1 → l.getD j default = l'.getD j default) := Lib.hid (fun j hj => by
              by_cases q : j = k
              · subst q; exact hxy
              · exact HP.out j (by omega))
            rw [hxy] at hx
            obtain ⟨x, ex⟩ : ∃ x, x = l'.getD k default := ⟨_, rfl⟩
            rw [← ex] at hx hy
            clear ex hxy
            go_wp2
            go_quiet (fail)
            go_wp2
            go_roundw
            case rel => exact ⟨k + 1, by omega, by go_num, ⟨_, rfl⟩, HQ⟩
            case measure => simp [intOf]; omega
          · have R := Lib.hid (fun m => RetB.no (P := l = l') (w := w) (w' := w.drewN m) (fun q => hxy (by rw [q])) (drew_n w m))
            obtain ⟨x, ex⟩ : ∃ x, x = l.getD k default := ⟨_, rfl⟩
            obtain ⟨y, ey⟩ : ∃ y, y = l'.getD k default := ⟨_, rfl⟩
            rw [← ex] at hx hxy
            rw [← ey] at hy hxy
            clear ex ey
            have hne : (x != y) = true := by simpa using hxy
            clear hxy
            go_wp2
            go_quiet (fail)
            go_wp2
            go_ret
            first | exact R.out _ | (rw [World.drewN_drewN]; exact R.out _)
        · have hkn : k = n := by omega
          subst hkn
          have he : l = l' := List.ext_getElem (by rw [HL.out.1, HL.out.2]) fun i h1 h2 => by
            have := HP.out i (by rw [← HL.out.1]; exact h1)
            rw [List.getD_eq_getElem?_getD, List.getD_eq_getElem?_getD, List.getElem?_eq_getElem h1, List.getElem?_eq_getElem h2] at this
            exact this
          have R := Lib.hid (RetB.yes (P := l = l') (w := w) (w' := w.drewN m) he (drew_n w m))
          clear he
          go_wp2
          go_ret
          exact R.out
    · have h0 : n = 0 := by omega
      subst h0
      have R := Lib.hid (RetB.yes (P := l = l') (w := w) (w' := w) (by rw [List.length_eq_zero_iff.1 hl, List.length_eq_zero_iff.1 hl']) (drew_self w))
      clear h h' hn hl hl'
      go_enter Try.func43, Try.ntmps43
      go_wp2
      refine wp_loop_rounds 1 ?_
      rw [rounds_succ]
      go_wp2
      go_ret
      exact R.out
  · have R := Lib.hid (RetB.no (P := l = l') (w := w) (w' := w) (fun q => hnn (by rw [← hl, ← hl', q])) (drew_self w))
    have hne : ((n : Int) != (n' : Int)) = true := by simp; omega
    clear h h' hl hl'
    go_enter Try.func43, Try.ntmps43
    go_wp2
    go_ret
    exact R.out
end Go.Proofs.Ytfldcddbmikfiaa

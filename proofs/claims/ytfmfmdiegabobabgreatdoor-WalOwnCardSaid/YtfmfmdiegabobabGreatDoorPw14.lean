/- What it says: contracts and plain mathematics that the laws' walks use, 14 of 33: each part's own remark says what; no condition. -/
import Derived.Test.YtfmfmdiegabobabGreatDoorPw1
import Derived.Test.YtfmfmdiegabobabGreatDoorPw3
import Derived.Test.YtfmfmdiegabobabGreatDoorPw4
import Derived.Test.YtfmfmdiegabobabGreatDoorPw13
import Derived.Laws.ResultCell
import Derived.Laws.CopyOwn
import Derived.Test.YtfmfmdiegabobabGreatDoorRows
import Derived.Deep.QuietTactic
import Derived.BigQuiet
import Derived.Deep.RegionHeld3

set_option linter.unusedSimpArgs false
set_option linter.unusedVariables false
set_option linter.deprecated false
set_option linter.unusedSectionVars false
set_option linter.all false
set_option maxRecDepth 100000
set_option maxHeartbeats 16000000
namespace Go.Proofs.YtfmfmdiegabobabGreatDoor

/- master.decode answers the five numbers at the beginning of bytes, or the error. -/
section
open Go.RowKit
theorem results_cellT {P : Program} {fn : Func} {p u : Tmp} {ty : TypeId} (h : fn.results = #[.cell p ty, .tmp u]) (tmps : Array Value) (w : World) (g : Nat) (t : TypeId) (cs : Array Value) (d : TypeDesc)
  (hp : tmps.getD p undef = .pointer (some ⟨g, 0, none⟩)) (hg : Bk w g t cs)
  (hu : P.underlying ty = some d) (hd : (match d with | .struct _ | .array _ _ => true | _ => false) = true) (hi : (P.info? ty).map (·.size) = some cs.size) :
  (results fn tmps).run P w = .ok (.tuple #[.agg cs, tmps.getD u undef]) w := by
 rw [results_cell_tmp h, hp]
 simp [asAddr, run_loadVar_row w g t ty cs (0, 0) d hg hu hd hi, Result.andThen]
theorem ms_one (x0 x1 x2 x3 x4 : Int) : (#[Value.int .i64 x0, .int .i64 x1, .int .i64 x2, .int .i64 x3, .int .i64 x4] : Array Value).all (·.oneCell') = true := by simp [Value.oneCell']
theorem ms_info : (Tryz.prog.info? 63).map (·.size) = some 5 := by kernel_rfl
theorem Bk.later {w w' : World} {g : Nat} {t : TypeId} {cs : Array Value} (h : Bk w g t cs) (hb : Below w.heap.size w w') : Bk w' g t cs := h.bel hb h.lt
theorem Bk.row {w : World} {g : Nat} {t : TypeId} {old : Array Value} (h : Bk w g t old) (cs : Array Value) : Bk (w.setRow g cs) g t cs := setRow_heap w g old cs _ _ h
theorem rdNum_any (b g : Nat) (l : List Int) (e : Nat) (w : World) (h : Rd w 169 b g l e) :
  Calls Tryz.prog 111 #[.pointer (some ⟨b, 0, none⟩), .int .i64 1099511627776] w (RdPost 169 b g (rdL l e) (rdE l e) (.int .i64 (rdV l e)) w) := by
 have := rNum_any b g l e 1099511627776 w h (by omega) (numF l 1099511627776).1 (numF l 1099511627776).2.1 (numF l 1099511627776).2.2 rfl
 rw [rdV_step] at this
 exact this
theorem decode_any (A : Option Addr) (n c : Nat) (l : List Int) (w : World) (h : Byt w A n c l) (h0 : 0 < l.length) (hn : n ≤ 140737488355328) :
  Calls Tryz.prog 86 #[.slice A n c] w (Ret (.tuple #[msV (decM l), .int .i64 (decE l)]) w) := by
 obtain ⟨W0, hW0⟩ : ∃ W0, W0 = (w.alloc (.cells #[.int .i64 0, .int .i64 0, .int .i64 0, .int .i64 0, .int .i64 0] 63)).alloc (.cells #[.int .i64 0, .int .i64 0, .int .i64 0, .int .i64 0, .int .i64 0] 63) := ⟨_, rfl⟩
 obtain ⟨r, hr⟩ : ∃ r, w.heap.size = r := ⟨_, rfl⟩
 have HZ0 : Hid (Bk W0 r 63 #[.int .i64 0, .int .i64 0, .int .i64 0, .int .i64 0, .int .i64 0]) := Lib.hid (by rw [hW0, ← hr]; exact (Bk.new w _ _).bel ((Below.refl _ _).alloc (Nat.le_refl _) _) (by simp))
 have HM0 : Hid (Bk W0 (r + 1) 63 #[.int .i64 0, .int .i64 0, .int .i64 0, .int .i64 0, .int .i64 0]) := Lib.hid (by
  have := Bk.new (w.alloc (.cells #[.int .i64 0, .int .i64 0, .int .i64 0, .int .i64 0, .int .i64 0] 63)) 63 #[.int .i64 0, .int .i64 0, .int .i64 0, .int .i64 0, .int .i64 0]
  rw [World.size_alloc, hr] at this
  rw [hW0]
  exact this)
 have HB0 : Hid (Below w.heap.size w W0) := Lib.hid (by rw [hW0]; exact ((Below.refl _ _).alloc (Nat.le_refl _) _).alloc (by simp) _)
 have HS0 : Hid (W0.heap.size = r + 2) := Lib.hid (by rw [hW0, ← hr]; simp)
 have CR := Lib.hid (read_own A n c l W0 (h.below HB0.out) hn h0)
 have HRG := Lib.hid h.rng
 have HW0 := Lib.hid hW0
 have HR := Lib.hid hr
 obtain ⟨q0, q1, q2, q3, q4⟩ := ptrs_all (r + 1)
 clear h hW0 hr
 go_enter Tryz.func86, Tryz.ntmps86
 go_wp2_with fail
 rw [← HW0.out, HR.out]
 refine CR.out.mono ?_
 rintro e W1 ⟨b, g, rfl, hbb, hgg, hgb, hrd, hbel⟩
 have HB1 := Lib.hid hbel
 have HRD := Lib.hid hrd
 have HBB : Hid (r + 2 ≤ b ∧ r + 2 ≤ g) := Lib.hid (by have := HS0.out; omega)
 clear hbb hgg hgb hrd hbel CR HW0
 have CN := Lib.hid (numbers_any (r + 1) W1)
 go_wp2_with fail
 refine CN.out.mono ?_
 rintro e w0 ⟨rfl, b0⟩
 have R0 : Hid (Rd w0 169 b g (rdAt l 0).1 (rdAt l 0).2) := Lib.hid (HRD.out.grown (grown_below (row := none) b0) (by simp) (by simp))
 have B0 : Hid (Below W0.heap.size W0 w0) := Lib.hid (HB1.out.trans (b0.mono HB1.out.size))
 have M0 : Hid (Bk w0 (r + 1) 63 #[.int .i64 0, .int .i64 0, .int .i64 0, .int .i64 0, .int .i64 0]) := Lib.hid (HM0.out.bel B0.out (by have := HS0.out; omega))
 have Z0 : Hid (Bk w0 r 63 #[.int .i64 0, .int .i64 0, .int .i64 0, .int .i64 0, .int .i64 0]) := Lib.hid (HZ0.out.bel B0.out (by have := HS0.out; omega))
 have L0 : Hid (Below r w w0) := Lib.hid (by rw [← HR.out]; exact HB0.out.trans (B0.out.mono HB0.out.size))
 clear b0 CN HRD HB1 HM0 HZ0 HB0 B0
 go_wp2_with fail
 refine wp_loop_rounds 6 ?_
 rw [rounds_succ]
 have CW0 := Lib.hid (rdNum_any b g (rdAt l 0).1 (rdAt l 0).2 w0 R0.out)
 go_wp2_with fail
 refine CW0.out.mono ?_
 rintro e v0 ⟨rfl, hrd, hg⟩
 have M0' : Hid (Bk v0 (r + 1) 63 #[.int .i64 0, .int .i64 0, .int .i64 0, .int .i64 0, .int .i64 0]) := Lib.hid ((hg.block _ M0.out.lt (by have := HBB.out; simp; omega)).trans M0.out)
 have Z0' : Hid (Bk v0 r 63 #[.int .i64 0, .int .i64 0, .int .i64 0, .int .i64 0, .int .i64 0]) := Lib.hid ((hg.block _ Z0.out.lt (by have := HBB.out; simp; omega)).trans Z0.out)
 have L0' : Hid (Below r w v0) := Lib.hid (L0.out.grown hg (Nat.le_of_lt Z0.out.lt) (fun q hq => by have := HBB.out; injection hq with hq; omega))
 have c0 : v0.cell? ⟨r + 1, 0, none⟩ = some (.int .i64 0) := M0'.out.cell 0
 have f0 : v0.frozen? ⟨r + 1, 0, none⟩ = false := M0'.out.frz 0
 obtain ⟨w1, hw1⟩ : ∃ w1, w1 = v0.setCell ⟨r + 1, 0, none⟩ (.int .i64 (rdV (rdAt l 0).1 (rdAt l 0).2)) := ⟨_, rfl⟩
 have R1 : Hid (Rd w1 169 b g (rdAt l 1).1 (rdAt l 1).2) := Lib.hid (by
  rw [hw1]
  exact Rd.grown (row := some (r + 1)) hrd (grown_set v0 (r + 1) 0 _) (by have := HBB.out; simp; omega) (by have := HBB.out; simp; omega))
 have M1 : Hid (Bk w1 (r + 1) 63 #[.int .i64 (rdN l 0), .int .i64 0, .int .i64 0, .int .i64 0, .int .i64 0]) := Lib.hid (by rw [hw1]; exact M0'.out.setc 0 _)
 have Z1 : Hid (Bk w1 r 63 #[.int .i64 0, .int .i64 0, .int .i64 0, .int .i64 0, .int .i64 0]) := Lib.hid (by rw [hw1]; exact ((grown_set v0 (r + 1) 0 _).block r Z0'.out.lt (by simp)).trans Z0'.out)
 have L1 : Hid (Below r w w1) := Lib.hid (by rw [hw1]; exact L0'.out.setCell (by simp) _)
 have HWW1 := Lib.hid hw1
 clear hrd hg CW0 hw1 R0 M0 Z0 L0 M0' Z0' L0'
 go_wp2_with fail
 rw [← HWW1.out]
 clear HWW1 c0 f0
 rw [rounds_succ]
 have CW1 := Lib.hid (rdNum_any b g (rdAt l 1).1 (rdAt l 1).2 w1 R1.out)
 go_wp2_with fail
 refine CW1.out.mono ?_
 rintro e v1 ⟨rfl, hrd, hg⟩
 have M1' : Hid (Bk v1 (r + 1) 63 #[.int .i64 (rdN l 0), .int .i64 0, .int .i64 0, .int .i64 0, .int .i64 0]) := Lib.hid ((hg.block _ M1.out.lt (by have := HBB.out; simp; omega)).trans M1.out)
 have Z1' : Hid (Bk v1 r 63 #[.int .i64 0, .int .i64 0, .int .i64 0, .int .i64 0, .int .i64 0]) := Lib.hid ((hg.block _ Z1.out.lt (by have := HBB.out; simp; omega)).trans Z1.out)
 have L1' : Hid (Below r w v1) := Lib.hid (L1.out.grown hg (Nat.le_of_lt Z1.out.lt) (fun q hq => by have := HBB.out; injection hq with hq; omega))
 have c1 : v1.cell? ⟨r + 1, 1, none⟩ = some (.int .i64 0) := M1'.out.cell 1
 have f1 : v1.frozen? ⟨r + 1, 1, none⟩ = false := M1'.out.frz 1
 obtain ⟨w2, hw2⟩ : ∃ w2, w2 = v1.setCell ⟨r + 1, 1, none⟩ (.int .i64 (rdV (rdAt l 1).1 (rdAt l 1).2)) := ⟨_, rfl⟩
 have R2 : Hid (Rd w2 169 b g (rdAt l 2).1 (rdAt l 2).2) := Lib.hid (by
  rw [hw2]
  exact Rd.grown (row := some (r + 1)) hrd (grown_set v1 (r + 1) 1 _) (by have := HBB.out; simp; omega) (by have := HBB.out; simp; omega))
 have M2 : Hid (Bk w2 (r + 1) 63 #[.int .i64 (rdN l 0), .int .i64 (rdN l 1), .int .i64 0, .int .i64 0, .int .i64 0]) := Lib.hid (by rw [hw2]; exact M1'.out.setc 1 _)
 have Z2 : Hid (Bk w2 r 63 #[.int .i64 0, .int .i64 0, .int .i64 0, .int .i64 0, .int .i64 0]) := Lib.hid (by rw [hw2]; exact ((grown_set v1 (r + 1) 1 _).block r Z1'.out.lt (by simp)).trans Z1'.out)
 have L2 : Hid (Below r w w2) := Lib.hid (by rw [hw2]; exact L1'.out.setCell (by simp) _)
 have HWW2 := Lib.hid hw2
 clear hrd hg CW1 hw2 R1 M1 Z1 L1 M1' Z1' L1'
 go_wp2_with fail
 rw [← HWW2.out]
 clear HWW2 c1 f1
 rw [rounds_succ]
 have CW2 := Lib.hid (rdNum_any b g (rdAt l 2).1 (rdAt l 2).2 w2 R2.out)
 go_wp2_with fail
 refine CW2.out.mono ?_
 rintro e v2 ⟨rfl, hrd, hg⟩
 have M2' : Hid (Bk v2 (r + 1) 63 #[.int .i64 (rdN l 0), .int .i64 (rdN l 1), .int .i64 0, .int .i64 0, .int .i64 0]) := Lib.hid ((hg.block _ M2.out.lt (by have := HBB.out; simp; omega)).trans M2.out)
 have Z2' : Hid (Bk v2 r 63 #[.int .i64 0, .int .i64 0, .int .i64 0, .int .i64 0, .int .i64 0]) := Lib.hid ((hg.block _ Z2.out.lt (by have := HBB.out; simp; omega)).trans Z2.out)
 have L2' : Hid (Below r w v2) := Lib.hid (L2.out.grown hg (Nat.le_of_lt Z2.out.lt) (fun q hq => by have := HBB.out; injection hq with hq; omega))
 have c2 : v2.cell? ⟨r + 1, 2, none⟩ = some (.int .i64 0) := M2'.out.cell 2
 have f2 : v2.frozen? ⟨r + 1, 2, none⟩ = false := M2'.out.frz 2
 obtain ⟨w3, hw3⟩ : ∃ w3, w3 = v2.setCell ⟨r + 1, 2, none⟩ (.int .i64 (rdV (rdAt l 2).1 (rdAt l 2).2)) := ⟨_, rfl⟩
 have R3 : Hid (Rd w3 169 b g (rdAt l 3).1 (rdAt l 3).2) := Lib.hid (by
  rw [hw3]
  exact Rd.grown (row := some (r + 1)) hrd (grown_set v2 (r + 1) 2 _) (by have := HBB.out; simp; omega) (by have := HBB.out; simp; omega))
 have M3 : Hid (Bk w3 (r + 1) 63 #[.int .i64 (rdN l 0), .int .i64 (rdN l 1), .int .i64 (rdN l 2), .int .i64 0, .int .i64 0]) := Lib.hid (by rw [hw3]; exact M2'.out.setc 2 _)
 have Z3 : Hid (Bk w3 r 63 #[.int .i64 0, .int .i64 0, .int .i64 0, .int .i64 0, .int .i64 0]) := Lib.hid (by rw [hw3]; exact ((grown_set v2 (r + 1) 2 _).block r Z2'.out.lt (by simp)).trans Z2'.out)
 have L3 : Hid (Below r w w3) := Lib.hid (by rw [hw3]; exact L2'.out.setCell (by simp) _)
 have HWW3 := Lib.hid hw3
 clear hrd hg CW2 hw3 R2 M2 Z2 L2 M2' Z2' L2'
 go_wp2_with fail
 rw [← HWW3.out]
 clear HWW3 c2 f2
 rw [rounds_succ]
 have CW3 := Lib.hid (rdNum_any b g (rdAt l 3).1 (rdAt l 3).2 w3 R3.out)
 go_wp2_with fail
 refine CW3.out.mono ?_
 rintro e v3 ⟨rfl, hrd, hg⟩
 have M3' : Hid (Bk v3 (r + 1) 63 #[.int .i64 (rdN l 0), .int .i64 (rdN l 1), .int .i64 (rdN l 2), .int .i64 0, .int .i64 0]) := Lib.hid ((hg.block _ M3.out.lt (by have := HBB.out; simp; omega)).trans M3.out)
 have Z3' : Hid (Bk v3 r 63 #[.int .i64 0, .int .i64 0, .int .i64 0, .int .i64 0, .int .i64 0]) := Lib.hid ((hg.block _ Z3.out.lt (by have := HBB.out; simp; omega)).trans Z3.out)
 have L3' : Hid (Below r w v3) := Lib.hid (L3.out.grown hg (Nat.le_of_lt Z3.out.lt) (fun q hq => by have := HBB.out; injection hq with hq; omega))
 have c3 : v3.cell? ⟨r + 1, 3, none⟩ = some (.int .i64 0) := M3'.out.cell 3
 have f3 : v3.frozen? ⟨r + 1, 3, none⟩ = false := M3'.out.frz 3
 obtain ⟨w4, hw4⟩ : ∃ w4, w4 = v3.setCell ⟨r + 1, 3, none⟩ (.int .i64 (rdV (rdAt l 3).1 (rdAt l 3).2)) := ⟨_, rfl⟩
 have R4 : Hid (Rd w4 169 b g (rdAt l 4).1 (rdAt l 4).2) := Lib.hid (by
  rw [hw4]
  exact Rd.grown (row := some (r + 1)) hrd (grown_set v3 (r + 1) 3 _) (by have := HBB.out; simp; omega) (by have := HBB.out; simp; omega))
 have M4 : Hid (Bk w4 (r + 1) 63 #[.int .i64 (rdN l 0), .int .i64 (rdN l 1), .int .i64 (rdN l 2), .int .i64 (rdN l 3), .int .i64 0]) := Lib.hid (by rw [hw4]; exact M3'.out.setc 3 _)
 have Z4 : Hid (Bk w4 r 63 #[.int .i64 0, .int .i64 0, .int .i64 0, .int .i64 0, .int .i64 0]) := Lib.hid (by rw [hw4]; exact ((grown_set v3 (r + 1) 3 _).block r Z3'.out.lt (by simp)).trans Z3'.out)
 have L4 : Hid (Below r w w4) := Lib.hid (by rw [hw4]; exact L3'.out.setCell (by simp) _)
 have HWW4 := Lib.hid hw4
 clear hrd hg CW3 hw4 R3 M3 Z3 L3 M3' Z3' L3'
 go_wp2_with fail
 rw [← HWW4.out]
 clear HWW4 c3 f3
 rw [rounds_succ]
 have CW4 := Lib.hid (rdNum_any b g (rdAt l 4).1 (rdAt l 4).2 w4 R4.out)
 go_wp2_with fail
 refine CW4.out.mono ?_
 rintro e v4 ⟨rfl, hrd, hg⟩
 have M4' : Hid (Bk v4 (r + 1) 63 #[.int .i64 (rdN l 0), .int .i64 (rdN l 1), .int .i64 (rdN l 2), .int .i64 (rdN l 3), .int .i64 0]) := Lib.hid ((hg.block _ M4.out.lt (by have := HBB.out; simp; omega)).trans M4.out)
 have Z4' : Hid (Bk v4 r 63 #[.int .i64 0, .int .i64 0, .int .i64 0, .int .i64 0, .int .i64 0]) := Lib.hid ((hg.block _ Z4.out.lt (by have := HBB.out; simp; omega)).trans Z4.out)
 have L4' : Hid (Below r w v4) := Lib.hid (L4.out.grown hg (Nat.le_of_lt Z4.out.lt) (fun q hq => by have := HBB.out; injection hq with hq; omega))
 have c4 : v4.cell? ⟨r + 1, 4, none⟩ = some (.int .i64 0) := M4'.out.cell 4
 have f4 : v4.frozen? ⟨r + 1, 4, none⟩ = false := M4'.out.frz 4
 obtain ⟨w5, hw5⟩ : ∃ w5, w5 = v4.setCell ⟨r + 1, 4, none⟩ (.int .i64 (rdV (rdAt l 4).1 (rdAt l 4).2)) := ⟨_, rfl⟩
 have R5 : Hid (Rd w5 169 b g (rdAt l 5).1 (rdAt l 5).2) := Lib.hid (by
  rw [hw5]
  exact Rd.grown (row := some (r + 1)) hrd (grown_set v4 (r + 1) 4 _) (by have := HBB.out; simp; omega) (by have := HBB.out; simp; omega))
 have M5 : Hid (Bk w5 (r + 1) 63 #[.int .i64 (rdN l 0), .int .i64 (rdN l 1), .int .i64 (rdN l 2), .int .i64 (rdN l 3), .int .i64 (rdN l 4)]) := Lib.hid (by rw [hw5]; exact M4'.out.setc 4 _)
 have Z5 : Hid (Bk w5 r 63 #[.int .i64 0, .int .i64 0, .int .i64 0, .int .i64 0, .int .i64 0]) := Lib.hid (by rw [hw5]; exact ((grown_set v4 (r + 1) 4 _).block r Z4'.out.lt (by simp)).trans Z4'.out)
 have L5 : Hid (Below r w w5) := Lib.hid (by rw [hw5]; exact L4'.out.setCell (by simp) _)
 have HWW5 := Lib.hid hw5
 clear hrd hg CW4 hw5 R4 M4 Z4 L4 M4' Z4' L4'
 go_wp2_with fail
 rw [← HWW5.out]
 clear HWW5 c4 f4
 rw [rounds_succ]
 have CE := Lib.hid (rErr_any b g _ _ w5 R5.out)
 have HRS := Lib.hid (And.intro HR.out HS0.out)
 clear q0 q1 q2 q3 q4 HR HS0
 go_wp2_with fail
 refine CE.out.mono ?_
 rintro e w6 ⟨rfl, rfl⟩
 have HDE : Hid (decE l = (rdAt l 5).2) := Lib.hid rfl
 obtain ⟨x, hx⟩ : ∃ x, (rdAt l 5).2 = x := ⟨_, rfl⟩
 rw [hx] at HDE
 rw [hx]
 clear hx CE R5
 by_cases he : x = 0
 ·subst he
  have HD : Hid (decM l = decR l) := Lib.hid (by unfold decM; rw [if_neg (by rw [HDE.out]; simp)])
  have hb := Z5.out.row #[.int .i64 (rdN l 0), .int .i64 (rdN l 1), .int .i64 (rdN l 2), .int .i64 (rdN l 3), .int .i64 (rdN l 4)]
  have hl := below_setRow L5.out (Nat.le_refl r) #[.int .i64 (rdN l 0), .int .i64 (rdN l 1), .int .i64 (rdN l 2), .int .i64 (rdN l 3), .int .i64 (rdN l 4)]
  have HBK := Lib.hid hb
  have HL := Lib.hid hl
  clear hb hl
  go_wp2_with (first
   | (refine wpList_load_row rfl 63 _ rfl (r + 1) rfl 63 _ (0, 0) _ M5.out Tryz.underlying63 rfl ms_info ?_)
   | (refine wpList_store_row rfl 63 _ _ rfl r _ rfl rfl 63 _ Z5.out ms_info rfl (ms_one _ _ _ _ _) ?_; simp only [Act.put]))
  (try simp only [Exit.inBlock, Exit.then])
  refine bodyPost_ret (results_cellT rfl _ _ r 63 _ _ rfl HBK.out Tryz.underlying63 rfl ms_info) rfl ?_
  rw [HD.out, HDE.out]
  refine ⟨rfl, ?_⟩
  rw [HRS.out.1]
  exact HL.out
 ·have HD : Hid (decM l = ms0) := Lib.hid (by unfold decM; rw [if_pos (by rw [HDE.out]; exact he)])
  have hd : ((x : Int) != 0) = true := by simp; omega
  have hb := Z5.out.row #[.int .i64 0, .int .i64 0, .int .i64 0, .int .i64 0, .int .i64 0]
  have hl := below_setRow L5.out (Nat.le_refl r) #[.int .i64 0, .int .i64 0, .int .i64 0, .int .i64 0, .int .i64 0]
  have HBK := Lib.hid hb
  have HL := Lib.hid hl
  clear hb hl he
  go_wp2_with (first
   | (refine wpList_store_row rfl 63 _ _ rfl r #[.int .i64 0, .int .i64 0, .int .i64 0, .int .i64 0, .int .i64 0] rfl rfl 63 _ Z5.out ms_info rfl (ms_one _ _ _ _ _) ?_; simp only [Act.put]))
  (try simp only [Exit.inBlock, Exit.then])
  refine bodyPost_ret (results_cellT rfl _ _ r 63 _ _ rfl HBK.out Tryz.underlying63 rfl ms_info) rfl ?_
  rw [HD.out, HDE.out]
  refine ⟨rfl, ?_⟩
  rw [HRS.out.1]
  exact HL.out
end

/- rec.Decode answers as the document says, in plain mathematics. -/
section
open Go.RowKit
open Classical in
/-- What Decode answers of bytes. -/
noncomputable def decF (l : List Int) : Rc × Nat :=
 if 4096 < l.length then (rc0 0, 12) else if (decRc l).2 ≠ 0 then (rc0 0, (decRc l).2) else if (decRc l).1.ok then ((decRc l).1, 0) else (rc0 0, 11)
theorem read_rdt (A : Option Addr) (n c : Nat) (l : List Int) (w : World) (h : Byt w A n c l) (hn : n ≤ 140737488355328) (h0 : 0 < w.heap.size) :
  Calls Tryz.prog 69 #[.slice A n c] w (fun e w' => ∃ b g, e = .returned (.pointer (some ⟨b, 0, none⟩)) ∧ w.heap.size ≤ b ∧ Rdt w' b g l 0 ∧ Below w.heap.size w w') := by
 have C := Lib.hid (clone_all_own A n c l w h hn)
 clear h
 go_enter Tryz.func69, Tryz.ntmps69
 go_wp2_with fail
 refine C.out.mono ?_
 rintro e w1 ⟨A1, n1, c1, rfl, ho, hr, b1⟩
 have hb := Byt.of_own ho hr
 obtain ⟨g, hg, R⟩ := Rd.new 169 hb (by have := b1.size; omega)
 have hty : 0 < l.length → special (w1.alloc (.cells #[.slice A1 n1 c1, .int .i64 0] 169)) g := by
  intro hl
  obtain ⟨A', n', c', k1, k2, k3⟩ := R.ex
  have e0 := (Bk.new w1 169 #[.slice A1 n1 c1, .int .i64 0])
  have e1 : (#[.slice A' n' c', .int .i64 0] : Array Value) = #[.slice A1 n1 c1, .int .i64 0] := by
   have : some (Obj.cells #[.slice A' n' c', .int .i64 0] 169 (0, 0)) = some (Obj.cells #[.slice A1 n1 c1, .int .i64 0] 169 (0, 0)) := k1.symm.trans e0
   injection this with this
   injection this
  have e2 : Value.slice A' n' c' = .slice A1 n1 c1 := by
   have := congrArg (fun a : Array Value => a[0]?) e1
   simpa using this
  injection e2 with a1 a2 a3
  subst a1 a2 a3
  obtain ⟨g', off, q1, q2⟩ := hb.at_ (by rw [← hb.len]; exact hl)
  have e3 : g' = g := k3 (by rw [← hb.len]; exact hl) _ q1
  subst e3
  rcases ho.2 with ⟨hv, _⟩ | ⟨gg, cap, cur, hv, _, hgg, _⟩
  ·rw [q1] at hv; injection hv with hv; cases hv
  ·rw [q1] at hv
   injection hv with hv
   injection hv with hv
   injection hv with hv
   subst hv
   exact ⟨cur, _, _, (((Below.refl _ w1).alloc (Nat.le_refl _) _).block g' hg).trans hgg, rfl⟩
 have R := Lib.hid (show Rdt _ _ _ _ _ from ⟨R, hty⟩)
 have L := Lib.hid b1
 clear hb b1 hg ho hr hty
 go_wp2_with fail
 go_ret
 exact ⟨w1.heap.size, g, rfl, L.out.size, R.out, L.out.alloc L.out.size _⟩
def xk (k : Int) : Xr := { xr0 with kind := k }
theorem xk_in [Inhabited Prop] (H : Nat) (w : World) (k : Int) (h : i64 k) : XrIn H w (xk k) :=
 ⟨h, i64_of _ rfl, i64_of _ rfl, i64_of _ rfl, Nat.zero_le _, Nat.zero_le _, Nat.zero_le _, i64_of _ rfl, Sl.nil _ _ _, Sl.nil _ _ _, Sl.nil _ _ _, Sl.nil _ _ _, Sl.nil _ _ _, Sl.nil _ _ _⟩
theorem dec_bad {l : List Int} {k : Int} {σ : Sg} (hp : pN (l, 0) = (k, σ)) (he : σ.2 = 0) (hk : ¬ (1 ≤ k ∧ k ≤ 10)) : decRc l = (rc0 0, 11) := by
 unfold decRc
 rw [hp, if_pos ⟨he, hk⟩]
theorem dec_err {l : List Int} {k : Int} {σ : Sg} (hp : pN (l, 0) = (k, σ)) (he : σ.2 ≠ 0) : (decRc l).2 = endS σ := by
 unfold decRc
 rw [hp, if_neg (fun h => he h.1)]
 show endS (restP (pN (l, 0)).1 (pN (l, 0)).2).2 = _
 rw [hp, (codec_rest k).stick σ he]
theorem dec_go {l : List Int} {k : Int} {σ : Sg} (hp : pN (l, 0) = (k, σ)) (hk : 1 ≤ k ∧ k ≤ 10) : decRc l = ((restP k σ).1, endS (restP k σ).2) := by
 unfold decRc
 rw [hp, if_neg (fun h => h.2 hk)]
 show ((restP (pN (l, 0)).1 (pN (l, 0)).2).1, endS (restP (pN (l, 0)).1 (pN (l, 0)).2).2) = _
 rw [hp]
theorem rest_keep (k : Int) (hk : 1 ≤ k ∧ k ≤ 10) (l : List Int) (hl : ∀ y ∈ l, 0 ≤ y ∧ y < 256) (h : (restP k (l, 0)).2.2 = 0) : (restP k (l, 0)).1.kind = k ∧ (kindSp k).keep (restP k (l, 0)).1 = (restP k (l, 0)).1 := by
 have e := ((codec_rest k).exact l hl h).2
 have e1 := rdKind_kind hk e
 refine ⟨e1, ?_⟩
 obtain ⟨r, hr⟩ : ∃ r, (restP k (l, 0)).1 = r := ⟨_, rfl⟩
 rw [hr] at e e1 ⊢
 have vk : ∀ v : Vl, rdVl v → valSp.keep v = v := fun v q => val_keep q
 unfold rdKind at e
 unfold kindSp
 by_cases h1 : k = 1
 ·rw [if_pos h1] at e ⊢
  obtain ⟨⟨⟨_, a⟩, b⟩, c⟩ := e
  show mkU ((((r.tx, r.prev), r.key), valSp.keep r.old), valSp.keep r.new) = r
  rw [vk _ a, vk _ b]; exact c
 rw [if_neg h1] at e ⊢
 by_cases h2 : k = 2
 ·rw [if_pos h2] at e ⊢
  obtain ⟨⟨_, b⟩, c⟩ := e
  show mkC ((((r.tx, r.prev), r.next), r.key), valSp.keep r.new) = r
  rw [vk _ b]; exact c
 rw [if_neg h2] at e ⊢
 by_cases h3 : k = 3
 ·rw [if_pos h3] at e ⊢; exact e.2
 rw [if_neg h3] at e ⊢
 by_cases h4 : k = 4 ∨ k = 5 ∨ k = 6
 ·rw [if_pos h4] at e ⊢; exact e.2
 rw [if_neg h4] at e ⊢
 by_cases h7 : k = 7
 ·rw [if_pos h7] at e ⊢; exact e.symm
 rw [if_neg h7] at e ⊢
 by_cases h8 : k = 8
 ·rw [if_pos h8] at e ⊢; exact e.2
 rw [if_neg h8] at e ⊢
 by_cases h9 : k = 9
 ·rw [if_pos h9] at e ⊢; exact e.2
 rw [if_neg h9] at e ⊢
 exact e.2
end

/- rec.Decode answers as the document says. -/
section
open Go.RowKit
open Classical in
theorem decF_long {l : List Int} (h : 4096 < l.length) : decF l = (rc0 0, 12) := if_pos h
open Classical in
theorem decF_err {l : List Int} (h : ¬ 4096 < l.length) (he : (decRc l).2 ≠ 0) : decF l = (rc0 0, (decRc l).2) := by unfold decF; rw [if_neg h, if_pos he]
open Classical in
theorem decF_ok {l : List Int} (h : ¬ 4096 < l.length) (he : (decRc l).2 = 0) (ho : (decRc l).1.ok) : decF l = ((decRc l).1, 0) := by unfold decF; rw [if_neg h, if_neg (by omega), if_pos ho]
open Classical in
theorem decF_no {l : List Int} (h : ¬ 4096 < l.length) (he : (decRc l).2 = 0) (ho : ¬ (decRc l).1.ok) : decF l = (rc0 0, 11) := by unfold decF; rw [if_neg h, if_neg (by omega), if_neg ho]
def RetDec [Inhabited Prop] (l : List Int) (w : World) (e : Ending) (w' : World) : Prop :=
 ∃ x : Xr, e = .returned (.tuple #[x.val, .int .i64 (decF l).2]) ∧ XrIn w.heap.size w' x ∧ x.read = (decF l).1 ∧ Below w.heap.size w w'
theorem xr0_read : xr0.read = rc0 0 := rfl
theorem xr0_in [Inhabited Prop] (H : Nat) (w : World) : XrIn H w xr0 := xk_in H w 0 (i64_of _ rfl)
theorem ret_zero [Inhabited Prop] {H r : Nat} {w v : World} {l : List Int} {k : Nat} {cs : Array Value} (hH : w.heap.size = r) (hb : Bk v r 30 cs) (hc : Calm r w v) (hd : decF l = (rc0 0, k)) : RetDec l w (.returned (.tuple #[xr0.val, .int .i64 k])) (v.setRow r xr0.cells) := by
 have hbl : Below r w v := hc.below (by omega)
 refine ⟨xr0, by rw [hd], xr0_in _ _, by rw [hd]; rfl, ?_⟩
 rw [hH]
 exact below_setRow hbl (Nat.le_refl r) _
theorem fieldsDec_any [Inhabited Prop] {r pb : Nat} {w : World} {l : List Int} {k : Int} {σ : Sg} {wr2 : Bool} (hl : ∀ y ∈ σ.1, 0 ≤ y ∧ y < 256) (hp : pN (l, 0) = (k, σ)) (hk : i64 k) (hw : wr2 = false ↔ 1 ≤ k ∧ k ≤ 10) (hnb : ¬ (σ.2 = 0 ∧ wr2 = true)) (h : Pst r w pb (.inp σ) wr2) :
  Calls Tryz.prog 66 #[.pointer (some ⟨pb, 0, none⟩), (xk k).val] w (fun e w' => ∃ (x3 : Xr) (σ3 : Sg) (wr3 : Bool), e = .returned x3.val ∧ XrIn r w' x3 ∧ Pst r w' pb (.inp σ3) wr3 ∧ Calm r w w' ∧
   (endS σ3 ≠ 0 → (decRc l).2 = endS σ3) ∧ (endS σ3 = 0 → (decRc l).2 = 0 ∧ (decRc l).1 = x3.read ∧ (wr3 = false ↔ x3.read.ok))) := by
 by_cases hkk : 1 ≤ k ∧ k ≤ 10
 ·refine (fieldsAll_any (.inp σ) wr2 (xk k) h (xk_in r w k hk) hkk trivial).mono ?_
  rintro e w' ⟨_, y, s', wr3, rfl, ⟨x3, rfl, hx3, hxy⟩, ⟨rfl, hy, hiff⟩, hp3, hc3⟩
  have hy' : y = (restP k σ).1 := hy.trans (congrArg Prod.fst (kindSp_p k σ))
  have hs : ((kindSp (xk k).kind).p σ).2 = (restP k σ).2 := congrArg Prod.snd (kindSp_p k σ)
  rw [hs] at hp3
  have hd := dec_go hp hkk
  refine ⟨x3, (restP k σ).2, wr3, rfl, hx3, hp3, hc3, fun _ => by rw [hd], fun he => ⟨by rw [hd]; exact he, by rw [hd, hxy, hy'], ?_⟩⟩
  have he0 : (restP k σ).2.2 = 0 := by
   unfold endS at he
   split at he
   ·cases he
   ·exact he
  have hσ : σ = (σ.1, 0) := by
   by_cases q : σ.2 = 0
   ·rw [← q]
   ·rw [(codec_rest k).stick σ q] at he0
    exact absurd he0 q
  have rk := rest_keep k hkk σ.1 hl (by rw [← hσ]; exact he0)
  rw [← hσ, ← hy'] at rk
  rw [hxy, ← ok_iff]
  have hw2 : wr2 = false := hw.2 hkk
  refine hiff.trans ⟨fun q => ⟨by rw [rk.1]; exact hkk, by rw [rk.1]; exact q.2, by rw [rk.1]; exact rk.2⟩, fun q => ⟨hw2, by have := q.2.1; rw [rk.1] at this; exact this⟩⟩
 ·refine (fieldsZ_any (.inp σ) wr2 (xk k) h hkk).mono ?_
  rintro e w' ⟨rfl, hp3, hc3⟩
  have hw2 : wr2 = true := by
   cases wr2 with
   | true => rfl
   | false => exact absurd (hw.1 rfl) hkk
  have he : σ.2 ≠ 0 := fun q => hnb ⟨q, hw2⟩
  have hd := dec_err hp he
  have hne : endS σ ≠ 0 := by
   unfold endS
   rw [if_neg (fun q => he q.1)]
   exact he
  exact ⟨xr0, σ, wr2, rfl, xr0_in _ _, hp3, hc3, fun _ => hd, fun q => absurd q hne⟩
theorem recDecode_any [Inhabited Prop] (A : Option Addr) (n c : Nat) (l : List Int) (w : World) (h : Byt w A n c l) : Calls Tryz.prog 45 #[.slice A n c] w (RetDec l w) := by
 obtain ⟨r, hrr⟩ : ∃ r, w.heap.size = r := ⟨_, rfl⟩
 obtain ⟨W1, hW1⟩ : ∃ W1, W1 = w.alloc (.cells xr0.cells 30) := ⟨_, rfl⟩
 have hb1 : Below w.heap.size w W1 := by rw [hW1]; exact (Below.refl _ _).alloc (Nat.le_refl _) _
 have HV : Hid (Bk W1 r 30 xr0.cells) := Lib.hid (by rw [hW1, ← hrr]; exact Bk.new w _ _)
 have HB := Lib.hid hb1
 have HBY := Lib.hid (h.below hb1)
 have hlen : l.length = n := h.len
 have HR := Lib.hid h.rng
 have HRR := Lib.hid hrr
 have HW := Lib.hid (show W1 = w.alloc (.cells #[.int .i64 0, .int .i64 0, .int .i64 0, .int .i64 0, .string ⟨#[]⟩, .bool false, .string ⟨#[]⟩, .bool false, .string ⟨#[]⟩, .int .i64 0, .slice none 0 0, .slice none 0 0, .slice none 0 0, .slice none 0 0, .slice none 0 0, .slice none 0 0] 30) from hW1)
 have HS1 : Hid (0 < W1.heap.size ∧ r < W1.heap.size) := Lib.hid (by rw [hW1, ← hrr]; simp)
 clear h hW1 hb1
 go_enter Tryz.func45, Tryz.ntmps45
 go_upto_region 1 with fail
 (try rw [hrr])
 rw [← HW.out]
 clear HW hrr
 by_cases hl : 4096 < n
 ·have hl' : (4096 : Int) < (n : Int) := by omega
  have R := Lib.hid (ret_zero (H := r) HRR.out HV.out (Calm.of_below HB.out) (decF_long (l := l) (by omega)))
  have RB := Lib.hid (HV.out.rowp xr0.cells)
  clear hl hlen
  go_wp2_with (refine wpList_store_row rfl 30 _ _ rfl r xr0.cells rfl rfl 30 _ HV.out inf_rec rfl (Xr.cells_one xr0) ?_; simp only [Act.put])
  (try simp only [Exit.inBlock, Exit.then])
  refine bodyPost_ret (results_cellT rfl _ _ r 30 _ _ rfl RB.out Tryz.underlying30 rfl inf_rec) rfl ?_
  exact R.out
 ·have hl' : ¬ (4096 : Int) < (n : Int) := by omega
  have CR := Lib.hid (read_rdt A n c l W1 HBY.out (by omega) HS1.out.1)
  have HL : Hid (¬ 4096 < l.length) := Lib.hid (by omega)
  clear hl hlen
  go_wp2_with fail
  refine CR.out.mono ?_
  rintro e v1 ⟨b, g, rfl, hb, hrd, hbel⟩
  obtain ⟨pb, hpb⟩ : ∃ pb, v1.heap.size = pb := ⟨_, rfl⟩
  obtain ⟨W2, hW2⟩ : ∃ W2, W2 = v1.alloc (.cells #[.pointer none, .pointer (some ⟨b, 0, none⟩), .bool false] 129) := ⟨_, rfl⟩
  have b2 : Below v1.heap.size v1 W2 := by rw [hW2]; exact (Below.refl _ _).alloc (Nat.le_refl _) _
  have C2 : Hid (Calm r w W2) := Lib.hid (((Calm.of_below HB.out).trans (Calm.of_below hbel)).trans (Calm.of_below b2))
  have V2 : Hid (Bk W2 r 30 xr0.cells) := Lib.hid ((HV.out.calm (H := r) rfl (Calm.of_below hbel)).calm (H := r) rfl (Calm.of_below b2))
  have P2 : Hid (Pst r W2 pb (.inp (l, 0)) false) := Lib.hid (by
   have hs := hbel.size
   refine ⟨b, g, by have := HS1.out.2; omega, ?_, by have := HS1.out.2; omega, hrd.keeps (Keeps.of_below b2)⟩
   rw [hW2, ← hpb]
   exact Bk.new v1 _ _)
  have HW2 := Lib.hid hW2
  clear hW2 b2 hrd hbel hb CR
  go_upto_region 4 with (refine wpList_store_new rfl (W := v1) rfl (c := #[.pointer none, .pointer none, .bool false]) (c' := #[.pointer none, .pointer (some ⟨b, 0, none⟩), .bool false]) rfl (by simp [hpb]) rfl (by kernel_rfl) rfl rfl ?_; simp only [Act.put])
  (try rw [hpb])
  rw [← HW2.out]
  clear HW2 hpb
  have CK := Lib.hid (kind_any (H := r) (pb := pb) (.inp (l, 0)) false 0 P2.out (i64_of _ rfl) trivial)
  go_wp2_with fail
  refine CK.out.mono ?_
  rintro e v2 ⟨_, k, s2, wr2, rfl, ⟨rfl, hki⟩, ⟨rfl, hk, hiff⟩, hp2, hc2⟩
  obtain ⟨σ, hσ⟩ : ∃ σ, (pN (l, 0)).2 = σ := ⟨_, rfl⟩
  have hpN : pN (l, 0) = (k, σ) := Prod.ext (show (pN (l, 0)).1 = k from hk.symm) hσ
  have hp2' : Pst r v2 pb (.inp σ) wr2 := by rw [← hσ]; exact hp2
  obtain ⟨rb, g2, c1, R2, K2⟩ := hp2'.reader
  obtain ⟨c2, _⟩ := hp2'.ptrs
  have PN := Lib.hid hpN
  have HKI := Lib.hid hki
  have HIF : Hid (wr2 = false ↔ 1 ≤ k ∧ k ≤ 10) := Lib.hid ⟨fun q => (hiff.1 q).2, fun q => hiff.2 ⟨rfl, q⟩⟩
  have P3 := Lib.hid hp2'
  have C3 := Lib.hid (C2.out.trans hc2)
  have V3 := Lib.hid (V2.out.calm rfl hc2)
  have CE := Lib.hid (rErr_any rb g2 σ.1 σ.2 v2 R2.rd)
  have HRG : Hid (∀ y ∈ σ.1, 0 ≤ y ∧ y < 256) := Lib.hid (by rw [← hσ]; exact codec_N.rng _ HR.out)
  clear hp2 hc2 hk hki hiff hp2' hpN hσ R2 K2 CK P2 C2 V2
  go_wp2_with fail
  refine CE.out.mono ?_
  rintro e v2' ⟨rfl, hv2⟩
  subst hv2
  by_cases hbad : σ.2 = 0 ∧ wr2 = true
  ·obtain ⟨he, rfl⟩ := hbad
   have hd : decF l = (rc0 0, 11) := by
    have hnk : ¬ (1 ≤ k ∧ k ≤ 10) := fun q => by have := HIF.out.2 q; cases this
    have e := dec_bad PN.out he hnk
    have := decF_err HL.out (by rw [e]; simp)
    rw [this, e]
   have R := Lib.hid (ret_zero (H := r) HRR.out V3.out C3.out hd)
   have RB := Lib.hid (V3.out.rowp xr0.cells)
   have he' : (((σ.2 : Nat) : Int) == 0) = true := by rw [he]; rfl
   clear hd he CE
   go_wp2_with (refine wpList_store_row rfl 30 _ _ rfl r xr0.cells rfl rfl 30 _ V3.out inf_rec rfl (Xr.cells_one xr0) ?_; simp only [Act.put])
   (try simp only [Exit.inBlock, Exit.then])
   refine bodyPost_ret (results_cellT rfl _ _ r 30 _ _ rfl RB.out Tryz.underlying30 rfl inf_rec) rfl ?_
   exact R.out
  ·have CF := Lib.hid (fieldsDec_any HRG.out PN.out HKI.out HIF.out hbad P3.out)
   have hgd : ((((σ.2 : Nat) : Int) == 0) = true ∧ wr2 = false) ∨ (((σ.2 : Nat) : Int) == 0) = false := by
    by_cases q : σ.2 = 0
    ·left
     refine ⟨by rw [q]; rfl, ?_⟩
     cases wr2 with
     | true => exact absurd ⟨q, rfl⟩ hbad
     | false => rfl
    ·right; simp; omega
   have HZ : Hid (∃ cs, (xk k).val = .agg cs ∧ cs = #[.int .i64 k, .int .i64 0, .int .i64 0, .int .i64 0, .string ⟨#[]⟩, .bool false, .string ⟨#[]⟩, .bool false, .string ⟨#[]⟩, .int .i64 0, .slice none 0 0, .slice none 0 0, .slice none 0 0, .slice none 0 0, .slice none 0 0, .slice none 0 0]) := Lib.hid ⟨_, rfl, rfl⟩
   clear hbad CE
   have fin : ∀ (K : Ending → World → Prop), (∀ (x3 : Xr) (σ3 : Sg) (wr3 : Bool) (v3 : World), Hid (XrIn r v3 x3 ∧ Pst r v3 pb (.inp σ3) wr3 ∧ Calm r w v3 ∧ Bk v3 r 30 xr0.cells ∧ (endS σ3 ≠ 0 → (decRc l).2 = endS σ3) ∧ (endS σ3 = 0 → (decRc l).2 = 0 ∧ (decRc l).1 = x3.read ∧ (wr3 = false ↔ x3.read.ok))) → K (.returned x3.val) v3) →
     Calls Tryz.prog 66 #[.pointer (some ⟨pb, 0, none⟩), .agg #[.int .i64 k, .int .i64 0, .int .i64 0, .int .i64 0, .string ⟨#[]⟩, .bool false, .string ⟨#[]⟩, .bool false, .string ⟨#[]⟩, .int .i64 0, .slice none 0 0, .slice none 0 0, .slice none 0 0, .slice none 0 0, .slice none 0 0, .slice none 0 0]] v2 K := by
    intro K hK
    refine CF.out.mono ?_
    rintro e v3 ⟨x3, σ3, wr3, rfl, h1, h2, h3, h4, h5⟩
    exact hK x3 σ3 wr3 v3 (Lib.hid ⟨h1, h2, C3.out.trans h3, V3.out.calm rfl h3, h4, h5⟩)
   have FIN := Lib.hid fin
   clear fin CF HZ
   rcases hgd with ⟨he', rfl⟩ | he'
   ·go_wp2_with fail
    refine FIN.out _ ?_
    intro x3 σ3 wr3 v3 HF
    obtain ⟨W4, hW4⟩ : ∃ W4, W4 = v3.alloc (.cells x3.cells 30) := ⟨_, rfl⟩
    have B4 : Below v3.heap.size v3 W4 := by rw [hW4]; exact (Below.refl _ _).alloc (Nat.le_refl _) _
    have P4 := HF.out.2.1.keeps (Keeps.of_below B4)
    obtain ⟨rb3, g3, c3, R3, K3⟩ := P4.reader
    have CE3 := Lib.hid (rEnd_any rb3 g3 σ3.1 σ3.2 W4 R3.rd)
    have X4 := Lib.hid (HF.out.1.calm (Calm.of_below B4))
    have C4 := Lib.hid (HF.out.2.2.1.trans (Calm.of_below B4))
    have V4 := Lib.hid (HF.out.2.2.2.1.calm (H := r) rfl (Calm.of_below B4))
    have T4 : Hid (Bk W4 v3.heap.size 30 x3.cells) := Lib.hid (by rw [hW4]; exact Bk.new v3 _ _)
    have K3 := Lib.hid K3
    have HD := Lib.hid HF.out.2.2.2.2
    have HW4 := Lib.hid hW4
    clear hW4 B4 P4 R3 HF FIN
    go_upto_region 8 with (refine wpList_store_new rfl (W := v3) rfl (c := #[.int .i64 0, .int .i64 0, .int .i64 0, .int .i64 0, .string ⟨#[]⟩, .bool false, .string ⟨#[]⟩, .bool false, .string ⟨#[]⟩, .int .i64 0, .slice none 0 0, .slice none 0 0, .slice none 0 0, .slice none 0 0, .slice none 0 0, .slice none 0 0]) (c' := x3.cells) rfl rfl rfl inf_rec rfl (Xr.cells_one x3) ?_; simp only [Act.put])
    rw [← HW4.out]
    clear HW4
    go_wp2_with fail
    refine CE3.out.mono ?_
    rintro e v5 ⟨rfl, hrd5, hg5⟩
    obtain ⟨hp5, hc5⟩ := K3.out v5 (σ3.1, endE σ3.1 σ3.2) hrd5 hg5 (Nat.le_refl _)
    obtain ⟨c5, _⟩ := hp5.ptrs
    have V5 := Lib.hid (V4.out.calm rfl hc5)
    have T5 := Lib.hid (T4.out.calm rfl hc5)
    have X5 := Lib.hid (X4.out.calm hc5)
    have C5 := Lib.hid (C4.out.trans hc5)
    have HS : Hid (endE σ3.1 σ3.2 = endS σ3) := Lib.hid rfl
    clear hrd5 hg5 hp5 hc5 K3 CE3 V4 T4 X4 C4 c3
    by_cases hz : endS σ3 = 0
    ·have hz' : (((endE σ3.1 σ3.2 : Nat) : Int) != 0) = false := by rw [HS.out, hz]; rfl
     obtain ⟨d1, d2, d3⟩ := HD.out.2 hz
     have D1 := Lib.hid (And.intro d1 (And.intro d2 d3))
     clear d1 d2 d3 HD hz
     cases wr3 with
     | true =>
      have R := Lib.hid (ret_zero (H := r) HRR.out V5.out C5.out (decF_no HL.out D1.out.1 (by rw [D1.out.2.1]; exact fun q => by have := D1.out.2.2.2 q; cases this)))
      have RB := Lib.hid (V5.out.rowp xr0.cells)
      go_wp2_with (refine wpList_store_row rfl 30 _ _ rfl r xr0.cells rfl rfl 30 _ V5.out inf_rec rfl (Xr.cells_one xr0) ?_; simp only [Act.put])
      (try simp only [Exit.inBlock, Exit.then])
      refine bodyPost_ret (results_cellT rfl _ _ r 30 _ _ rfl RB.out Tryz.underlying30 rfl inf_rec) rfl ?_
      exact R.out
     | false =>
      have R : Hid (RetDec l w (.returned (.tuple #[x3.val, .int .i64 0])) (v5.setRow r x3.cells)) := Lib.hid (by
       have hd := decF_ok HL.out D1.out.1 (by rw [D1.out.2.1]; exact D1.out.2.2.1 rfl)
       have hbl : Below r w v5 := C5.out.below (by have := HRR.out; omega)
       refine ⟨x3, by rw [hd]; rfl, ?_, by rw [hd]; exact D1.out.2.1.symm, ?_⟩
       ·rw [HRR.out]
        exact X5.out.other V5.out (Nat.le_refl r) (grown_setRow _ _ _)
       ·rw [HRR.out]
        exact below_setRow hbl (Nat.le_refl r) _)
      have RB := Lib.hid (V5.out.rowp x3.cells)
      go_wp2_with (first
       | (refine wpList_load_row rfl 30 _ rfl v3.heap.size rfl 30 _ (0, 0) _ T5.out Tryz.underlying30 rfl inf_rec ?_)
       | (refine wpList_store_row rfl 30 _ _ rfl r x3.cells rfl rfl 30 _ V5.out inf_rec rfl (Xr.cells_one x3) ?_; simp only [Act.put]))
      (try simp only [Exit.inBlock, Exit.then])
      refine bodyPost_ret (results_cellT rfl _ _ r 30 _ _ rfl RB.out Tryz.underlying30 rfl inf_rec) rfl ?_
      exact R.out
    ·have hz' : (((endE σ3.1 σ3.2 : Nat) : Int) != 0) = true := by rw [HS.out]; simp; omega
     have R : Hid (RetDec l w (.returned (.tuple #[xr0.val, .int .i64 (endE σ3.1 σ3.2 : Nat)])) (v5.setRow r xr0.cells)) := Lib.hid (by
      have e := HD.out.1 hz
      have := decF_err HL.out (by rw [e]; exact hz)
      rw [e] at this
      exact ret_zero (H := r) HRR.out V5.out C5.out this)
     have RB := Lib.hid (V5.out.rowp xr0.cells)
     clear hz
     go_wp2_with (refine wpList_store_row rfl 30 _ _ rfl r xr0.cells rfl rfl 30 _ V5.out inf_rec rfl (Xr.cells_one xr0) ?_; simp only [Act.put])
     (try simp only [Exit.inBlock, Exit.then])
     refine bodyPost_ret (results_cellT rfl _ _ r 30 _ _ rfl RB.out Tryz.underlying30 rfl inf_rec) rfl ?_
     exact R.out
   ·go_wp2_with fail
    refine FIN.out _ ?_
    intro x3 σ3 wr3 v3 HF
    obtain ⟨W4, hW4⟩ : ∃ W4, W4 = v3.alloc (.cells x3.cells 30) := ⟨_, rfl⟩
    have B4 : Below v3.heap.size v3 W4 := by rw [hW4]; exact (Below.refl _ _).alloc (Nat.le_refl _) _
    have P4 := HF.out.2.1.keeps (Keeps.of_below B4)
    obtain ⟨rb3, g3, c3, R3, K3⟩ := P4.reader
    have CE3 := Lib.hid (rEnd_any rb3 g3 σ3.1 σ3.2 W4 R3.rd)
    have X4 := Lib.hid (HF.out.1.calm (Calm.of_below B4))
    have C4 := Lib.hid (HF.out.2.2.1.trans (Calm.of_below B4))
    have V4 := Lib.hid (HF.out.2.2.2.1.calm (H := r) rfl (Calm.of_below B4))
    have T4 : Hid (Bk W4 v3.heap.size 30 x3.cells) := Lib.hid (by rw [hW4]; exact Bk.new v3 _ _)
    have K3 := Lib.hid K3
    have HD := Lib.hid HF.out.2.2.2.2
    have HW4 := Lib.hid hW4
    clear hW4 B4 P4 R3 HF FIN
    go_upto_region 8 with (refine wpList_store_new rfl (W := v3) rfl (c := #[.int .i64 0, .int .i64 0, .int .i64 0, .int .i64 0, .string ⟨#[]⟩, .bool false, .string ⟨#[]⟩, .bool false, .string ⟨#[]⟩, .int .i64 0, .slice none 0 0, .slice none 0 0, .slice none 0 0, .slice none 0 0, .slice none 0 0, .slice none 0 0]) (c' := x3.cells) rfl rfl rfl inf_rec rfl (Xr.cells_one x3) ?_; simp only [Act.put])
    rw [← HW4.out]
    clear HW4
    go_wp2_with fail
    refine CE3.out.mono ?_
    rintro e v5 ⟨rfl, hrd5, hg5⟩
    obtain ⟨hp5, hc5⟩ := K3.out v5 (σ3.1, endE σ3.1 σ3.2) hrd5 hg5 (Nat.le_refl _)
    obtain ⟨c5, _⟩ := hp5.ptrs
    have V5 := Lib.hid (V4.out.calm rfl hc5)
    have T5 := Lib.hid (T4.out.calm rfl hc5)
    have X5 := Lib.hid (X4.out.calm hc5)
    have C5 := Lib.hid (C4.out.trans hc5)
    have HS : Hid (endE σ3.1 σ3.2 = endS σ3) := Lib.hid rfl
    clear hrd5 hg5 hp5 hc5 K3 CE3 V4 T4 X4 C4 c3
    by_cases hz : endS σ3 = 0
    ·have hz' : (((endE σ3.1 σ3.2 : Nat) : Int) != 0) = false := by rw [HS.out, hz]; rfl
     obtain ⟨d1, d2, d3⟩ := HD.out.2 hz
     have D1 := Lib.hid (And.intro d1 (And.intro d2 d3))
     clear d1 d2 d3 HD hz
     cases wr3 with
     | true =>
      have R := Lib.hid (ret_zero (H := r) HRR.out V5.out C5.out (decF_no HL.out D1.out.1 (by rw [D1.out.2.1]; exact fun q => by have := D1.out.2.2.2 q; cases this)))
      have RB := Lib.hid (V5.out.rowp xr0.cells)
      go_wp2_with (refine wpList_store_row rfl 30 _ _ rfl r xr0.cells rfl rfl 30 _ V5.out inf_rec rfl (Xr.cells_one xr0) ?_; simp only [Act.put])
      (try simp only [Exit.inBlock, Exit.then])
      refine bodyPost_ret (results_cellT rfl _ _ r 30 _ _ rfl RB.out Tryz.underlying30 rfl inf_rec) rfl ?_
      exact R.out
     | false =>
      have R : Hid (RetDec l w (.returned (.tuple #[x3.val, .int .i64 0])) (v5.setRow r x3.cells)) := Lib.hid (by
       have hd := decF_ok HL.out D1.out.1 (by rw [D1.out.2.1]; exact D1.out.2.2.1 rfl)
       have hbl : Below r w v5 := C5.out.below (by have := HRR.out; omega)
       refine ⟨x3, by rw [hd]; rfl, ?_, by rw [hd]; exact D1.out.2.1.symm, ?_⟩
       ·rw [HRR.out]
        exact X5.out.other V5.out (Nat.le_refl r) (grown_setRow _ _ _)
       ·rw [HRR.out]
        exact below_setRow hbl (Nat.le_refl r) _)
      have RB := Lib.hid (V5.out.rowp x3.cells)
      go_wp2_with (first
       | (refine wpList_load_row rfl 30 _ rfl v3.heap.size rfl 30 _ (0, 0) _ T5.out Tryz.underlying30 rfl inf_rec ?_)
       | (refine wpList_store_row rfl 30 _ _ rfl r x3.cells rfl rfl 30 _ V5.out inf_rec rfl (Xr.cells_one x3) ?_; simp only [Act.put]))
      (try simp only [Exit.inBlock, Exit.then])
      refine bodyPost_ret (results_cellT rfl _ _ r 30 _ _ rfl RB.out Tryz.underlying30 rfl inf_rec) rfl ?_
      exact R.out
    ·have hz' : (((endE σ3.1 σ3.2 : Nat) : Int) != 0) = true := by rw [HS.out]; simp; omega
     have R : Hid (RetDec l w (.returned (.tuple #[xr0.val, .int .i64 (endE σ3.1 σ3.2 : Nat)])) (v5.setRow r xr0.cells)) := Lib.hid (by
      have e := HD.out.1 hz
      have := decF_err HL.out (by rw [e]; exact hz)
      rw [e] at this
      exact ret_zero (H := r) HRR.out V5.out C5.out this)
     have RB := Lib.hid (V5.out.rowp xr0.cells)
     clear hz
     go_wp2_with (refine wpList_store_row rfl 30 _ _ rfl r xr0.cells rfl rfl 30 _ V5.out inf_rec rfl (Xr.cells_one xr0) ?_; simp only [Act.put])
     (try simp only [Exit.inBlock, Exit.then])
     refine bodyPost_ret (results_cellT rfl _ _ r 30 _ _ rfl RB.out Tryz.underlying30 rfl inf_rec) rfl ?_
     exact R.out
end

/- a record that is decoded lies in new memory, all of it; which blocks a record lies in, and that it stands where these do. -/
section
open Go.RowKit
def inA (A : Option Addr) (n k : Nat) : Prop := 0 < n ∧ ∃ a, A = some a ∧ a.block = k
def Xw.owns (x : Xw) (k : Nat) : Prop := inA x.mA x.mn k ∨ inA x.kA x.kn k
def Xd.owns (x : Xd) (k : Nat) : Prop := inA x.mA x.mn k
def Xr.owns (x : Xr) (k : Nat) : Prop := inA x.mA x.mn k ∨ inA x.kA x.kn k ∨ inA x.rA x.rn k ∨ inA x.dA x.dn k ∨ inA x.eA x.en k ∨ inA x.pA x.pn k ∨ (∃ r ∈ x.rows, r.owns k) ∨ ∃ d ∈ x.deeds, d.owns k
section
variable {α : Type} [Inhabited α] {E : El α} {H n c k : Nat} {w w' : World} {A : Option Addr} {l : List α}
theorem Sl.lt (h : Sl E H w A n c l) (hk : inA A n k) : k < w.heap.size := by
 obtain ⟨hn, a, e, q⟩ := hk
 obtain ⟨g, off, e', hs, _⟩ := h.at_ hn
 rw [e] at e'
 injection e' with e'
 subst e' q
 exact hs.1
theorem Sl.same (h : Sl E H w A n c l) (hs : w.heap.size ≤ w'.heap.size) (hk : ∀ k, inA A n k → w'.heap[k]? = w.heap[k]?) (he : ∀ x ∈ l, E.inn w'.heap.size w' x) : Sl E w'.heap.size w' A n c l :=
 ⟨h.len, h.cap, h.max, h.nil_, he, fun hn => by
  obtain ⟨g, off, e, hst, hr⟩ := h.at_ hn
  have hlt := Nat.lt_of_lt_of_le hst.1 hs
  exact ⟨g, off, e, ⟨hlt, .inl trivial, .inl hlt⟩, fun i hi j v hv => (World.cell?_of_block (w := w) (w' := w') (a := ⟨g, off + i * E.size + j, none⟩) (hk g ⟨hn, _, e, rfl⟩)).trans (hr i hi j v hv)⟩⟩
theorem Sl.fresh (h : @Sl ⟨False⟩ α _ E H w A n c l) (hk : inA A n k) : H ≤ k ∧ k < w.heap.size := by
 obtain ⟨hn, a, e, q⟩ := hk
 obtain ⟨g, off, e', hs, _⟩ := @Sl.at_ ⟨False⟩ _ _ _ _ _ _ _ _ _ h hn
 rw [e] at e'
 injection e' with e'
 subst e' q
 exact ⟨hs.2.1.elim (fun f => False.elim f) And.left, hs.1⟩
theorem Sl.any {E' : El α} (h : @Sl ⟨False⟩ α _ E H w A n c l) (hs : E'.size = E.size) (hc : E'.cells = E.cells) (ht : E'.ty = E.ty) (he : ∀ x ∈ l, E'.inn H w x) : Sl E' H w A n c l := by
 obtain ⟨h1, h2, h3, h4, h5, h6⟩ := h
 refine ⟨h1, h2, h3, h4, he, fun hn => ?_⟩
 obtain ⟨g, off, e, hst, hr⟩ := h6 hn
 rw [hs, hc, ht]
 exact ⟨g, off, e, ⟨hst.1, .inl trivial, hst.2.2⟩, hr⟩
end
def Wr (t : TypeId) (sz : Nat) (A : Option Addr) (n : Nat) (w : World) : Prop := 0 < n → ∃ g off cs, A = some ⟨g, off, none⟩ ∧ Bk w g t cs ∧ ∀ i, i < n → off + i * sz < cs.size
theorem Wr.set {t u : TypeId} {sz n b i : Nat} {A : Option Addr} {w : World} {cs : Array Value} (h : Wr t sz A n w) (hb : Bk w b u cs) (v : Value) : Wr t sz A n (w.setCell ⟨b, i, none⟩ v) := fun hn => by
 obtain ⟨g, off, cg, e, hg, hs⟩ := h hn
 by_cases q : g = b
 ·subst q
  exact ⟨g, off, _, e, hg.setc i v, by simpa using hs⟩
 ·exact ⟨g, off, cg, e, ((grown_set w b i v).block g hg.lt (fun z => by injection z with z; exact q z)).trans hg, hs⟩
theorem Wr.same {t : TypeId} {sz n : Nat} {A : Option Addr} {w w' : World} (h : Wr t sz A n w) (hk : ∀ k, inA A n k → w'.heap[k]? = w.heap[k]?) : Wr t sz A n w' := fun hn => by
 obtain ⟨g, off, cg, e, hg, hs⟩ := h hn
 exact ⟨g, off, cg, e, (hk g ⟨hn, _, e, rfl⟩).trans hg, hs⟩
theorem Sl.wr {α : Type} [Inhabited α] {E : El α} {H n c : Nat} {w : World} {A : Option Addr} {l : List α} (h : @Sl ⟨False⟩ α _ E H w A n c l) : Wr E.ty E.size A n w := fun hn => by
 obtain ⟨g, off, e', hs, hr⟩ := @Sl.at_ ⟨False⟩ _ _ _ _ _ _ _ _ _ h hn
 obtain ⟨_, cs, hb⟩ : H ≤ g ∧ ∃ cs, Bk w g E.ty cs := hs.2.1.elim (fun f => False.elim f) id
 refine ⟨g, off, cs, e', hb, fun i hi => ?_⟩
 have hl : 0 < (E.cells (l.getD i default)).length := by rw [E.len]; exact E.pos
 have := hr i hi 0 _ (List.getElem?_eq_getElem hl)
 rw [Nat.add_zero, hb.cell] at this
 exact (Array.getElem?_eq_some_iff.1 this).1
structure Xr.Wrt (x : Xr) (w : World) : Prop where
 mem : Wr 3 1 x.mA x.mn w
 lks : Wr 47 2 x.kA x.kn w
 rows : Wr 49 8 x.rA x.rn w
 past : Wr 3 1 x.pA x.pn w
theorem Xr.Wrt.same {x : Xr} {w w' : World} (h : x.Wrt w) (hk : ∀ k, x.owns k → w'.heap[k]? = w.heap[k]?) : x.Wrt w' :=
 ⟨h.mem.same fun k q => hk k (.inl q), h.lks.same fun k q => hk k (.inr (.inl q)), h.rows.same fun k q => hk k (.inr (.inr (.inl q))), h.past.same fun k q => hk k (.inr (.inr (.inr (.inr (.inr (.inl q))))))⟩
theorem XwIn.same {H : Nat} {w w' : World} {x : Xw} (h : XwIn H w x) (hs : w.heap.size ≤ w'.heap.size) (hk : ∀ k, x.owns k → w'.heap[k]? = w.heap[k]?) : XwIn w'.heap.size w' x :=
 ⟨h.tx, h.st, h.fi, h.la, h.un, h.co, h.mem.same hs (fun k q => hk k (.inl q)) h.mem.each, h.lks.same hs (fun k q => hk k (.inr q)) h.lks.each⟩
theorem XdIn.same {H : Nat} {w w' : World} {x : Xd} (h : XdIn H w x) (hs : w.heap.size ≤ w'.heap.size) (hk : ∀ k, x.owns k → w'.heap[k]? = w.heap[k]?) : XdIn w'.heap.size w' x :=
 ⟨h.tx, h.mem.same hs hk h.mem.each⟩
theorem XrIn.same {H : Nat} {w w' : World} {x : Xr} (h : XrIn H w x) (hs : w.heap.size ≤ w'.heap.size) (hk : ∀ k, x.owns k → w'.heap[k]? = w.heap[k]?) : XrIn w'.heap.size w' x :=
 ⟨h.kind, h.tx, h.prev, h.next, h.key, h.old, h.new, h.co, h.mem.same hs (fun k q => hk k (.inl q)) h.mem.each, h.lks.same hs (fun k q => hk k (.inr (.inl q))) h.lks.each,
  h.rows.same hs (fun k q => hk k (.inr (.inr (.inl q)))) (fun x hx => XwIn.same (h.rows.each x hx) hs (fun k q => hk k (.inr (.inr (.inr (.inr (.inr (.inr (.inl ⟨x, hx, q⟩))))))))),
  h.dirty.same hs (fun k q => hk k (.inr (.inr (.inr (.inl q))))) h.dirty.each,
  h.deeds.same hs (fun k q => hk k (.inr (.inr (.inr (.inr (.inl q)))))) (fun x hx => XdIn.same (h.deeds.each x hx) hs (fun k q => hk k (.inr (.inr (.inr (.inr (.inr (.inr (.inr ⟨x, hx, q⟩))))))))),
  h.past.same hs (fun k q => hk k (.inr (.inr (.inr (.inr (.inr (.inl q))))))) h.past.each⟩
theorem XrIn.lt {H k : Nat} {w : World} {x : Xr} (h : XrIn H w x) (hk : x.owns k) : k < w.heap.size := by
 rcases hk with q | q | q | q | q | q | ⟨r, hr, q⟩ | ⟨r, hr, q⟩
 ·exact h.mem.lt q
 ·exact h.lks.lt q
 ·exact h.rows.lt q
 ·exact h.dirty.lt q
 ·exact h.deeds.lt q
 ·exact h.past.lt q
 ·have hw : XwIn H w r := h.rows.each r hr
  rcases q with q | q
  ·exact hw.mem.lt q
  ·exact hw.lks.lt q
 ·have hw : XdIn H w r := h.deeds.each r hr
  exact hw.mem.lt q
theorem XwIn.fresh {H : Nat} {w : World} {x : Xw} (h : @XwIn ⟨False⟩ H w x) : XwIn H w x ∧ ∀ k, x.owns k → H ≤ k ∧ k < w.heap.size := by
 obtain ⟨h1, h2, h3, h4, h5, h6, hm, hl⟩ := h
 refine ⟨⟨h1, h2, h3, h4, h5, h6, Sl.any hm rfl rfl rfl (@Sl.each ⟨False⟩ _ _ _ _ _ _ _ _ _ hm), Sl.any hl rfl rfl rfl (@Sl.each ⟨False⟩ _ _ _ _ _ _ _ _ _ hl)⟩, fun k q => ?_⟩
 rcases q with q | q
 ·exact Sl.fresh hm q
 ·exact Sl.fresh hl q
theorem XdIn.fresh {H : Nat} {w : World} {x : Xd} (h : @XdIn ⟨False⟩ H w x) : XdIn H w x ∧ ∀ k, x.owns k → H ≤ k ∧ k < w.heap.size := by
 obtain ⟨h1, hm⟩ := h
 exact ⟨⟨h1, Sl.any hm rfl rfl rfl (@Sl.each ⟨False⟩ _ _ _ _ _ _ _ _ _ hm)⟩, fun k q => Sl.fresh hm q⟩
theorem XrIn.fresh {H : Nat} {w : World} {x : Xr} (h : @XrIn ⟨False⟩ H w x) : XrIn H w x ∧ ∀ k, x.owns k → H ≤ k ∧ k < w.heap.size := by
 obtain ⟨h1, h2, h3, h4, h5, h6, h7, h8, hm, hl, hr, hd, he, hp⟩ := h
 have er : ∀ y ∈ x.rows, @XwIn ⟨False⟩ H w y := @Sl.each ⟨False⟩ _ _ _ _ _ _ _ _ _ hr
 have ee : ∀ y ∈ x.deeds, @XdIn ⟨False⟩ H w y := @Sl.each ⟨False⟩ _ _ _ _ _ _ _ _ _ he
 refine ⟨⟨h1, h2, h3, h4, h5, h6, h7, h8, Sl.any hm rfl rfl rfl (@Sl.each ⟨False⟩ _ _ _ _ _ _ _ _ _ hm), Sl.any hl rfl rfl rfl (@Sl.each ⟨False⟩ _ _ _ _ _ _ _ _ _ hl),
  Sl.any hr rfl rfl rfl (fun y hy => (XwIn.fresh (er y hy)).1), Sl.any hd rfl rfl rfl (@Sl.each ⟨False⟩ _ _ _ _ _ _ _ _ _ hd), Sl.any he rfl rfl rfl (fun y hy => (XdIn.fresh (ee y hy)).1),
  Sl.any hp rfl rfl rfl (@Sl.each ⟨False⟩ _ _ _ _ _ _ _ _ _ hp)⟩, fun k q => ?_⟩
 rcases q with q | q | q | q | q | q | ⟨r, hy, q⟩ | ⟨r, hy, q⟩
 ·exact Sl.fresh hm q
 ·exact Sl.fresh hl q
 ·exact Sl.fresh hr q
 ·exact Sl.fresh hd q
 ·exact Sl.fresh he q
 ·exact Sl.fresh hp q
 ·exact (XwIn.fresh (er r hy)).2 k q
 ·exact (XdIn.fresh (ee r hy)).2 k q
theorem XrIn.wrt {H : Nat} {w : World} {x : Xr} (h : @XrIn ⟨False⟩ H w x) : x.Wrt w := by
 obtain ⟨h1, h2, h3, h4, h5, h6, h7, h8, hm, hl, hr, hd, he, hp⟩ := h
 have a1 := Sl.wr (E := elI) hm
 have a2 := Sl.wr (E := elL) hl
 have a3 := Sl.wr (E := @elR ⟨False⟩) hr
 have a4 := Sl.wr (E := elI) hp
 exact ⟨a1, a2, a3, a4⟩
def RetRec (l : List Int) (w : World) (e : Ending) (w' : World) : Prop :=
 ∃ x : Xr, e = .returned (.tuple #[x.val, .int .i64 (decF l).2]) ∧ XrIn w'.heap.size w' x ∧ (∀ k, x.owns k → w.heap.size ≤ k ∧ k < w'.heap.size) ∧ x.read = (decF l).1 ∧ Below w.heap.size w w' ∧ x.Wrt w'
theorem recDecode_new (A : Option Addr) (n c : Nat) (l : List Int) (w : World) (h : Byt w A n c l) : Calls Tryz.prog 45 #[.slice A n c] w (RetRec l w) :=
 (@recDecode_any ⟨False⟩ A n c l w h).mono fun e w' ⟨x, he, hx, hr, hb⟩ => by
  obtain ⟨h1, h2⟩ := XrIn.fresh hx
  exact ⟨x, he, h1.up hb.size, h2, hr, hb, XrIn.wrt hx⟩
end

/- trothref01.Same tells whether two slices read as the same bytes, and writes nothing. -/
section
open Go.RowKit
end

/- of a sealed body the body is opened, whatever stands behind it; the statements' awake() answers true. -/
section
open Go.RowKit
theorem sealL_len (l : List Int) : (sealL l).length = (textL l).length + 4 := by simp [sealL, sumL_len]
end

/- the Go text of trothlaw03.SealCuts answers true, and writes nothing that was there. -/
section
open Go.RowKit
end

/- the methods of trothref03.Reader step as seal.Reader's do; trothref03.Open answers what seal.Open answers. -/
section
open Go.RowKit
end

/- trothref03.Reader's Text steps as seal.Reader's does; trothref03.Open answers what seal.Open answers. -/
section
open Go.RowKit
end

/- the Go text of trothlaw03.SealOpens answers true, and writes nothing that was there. -/
section
open Go.RowKit
theorem openF_ok {l : List Int} (hr : ∀ x ∈ l, 0 ≤ x ∧ x < 256) {b : List Int} {u : Nat} (h : openF l = (b, u, 0)) : u ≤ l.length ∧ l.take u = sealL b ∧ b.length ≤ 4096 := by
 unfold openF at h
 split at h
 ·rename_i h0
  exact absurd (triple h).2.2 h0
 ·rename_i h0
  split at h
  ·have := (triple h).2.2; omega
  ·rename_i h1
   split at h
   ·rename_i h2
    obtain ⟨e1, e2, _⟩ := triple h
    obtain ⟨hu, ht, hb⟩ := textF_ok hr (l := l) (most := 4096) (by omega)
    rw [e1] at ht hb
    refine ⟨by omega, ?_, by omega⟩
    rw [← e2, List.take_add, h2, ht]
    rfl
   ·have := (triple h).2.2; omega
end
end Go.Proofs.YtfmfmdiegabobabGreatDoor

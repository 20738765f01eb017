/- What it says: contracts and plain mathematics that the laws' walks use, 29 of 33: each part's own remark says what; no condition. -/
import Derived.Test.YtfmfmdiegabobabGreatDoorPw1
import Derived.Test.YtfmfmdiegabobabGreatDoorPw14
import Derived.Test.YtfmfmdiegabobabGreatDoorPw17
import Derived.Test.YtfmfmdiegabobabGreatDoorPw25
import Derived.Test.YtfmfmdiegabobabGreatDoorPw26
import Derived.Test.YtfmfmdiegabobabGreatDoorPw28
import Derived.Deep.AppendLies

set_option linter.unusedSimpArgs false
set_option linter.unusedVariables false
set_option linter.deprecated false
set_option linter.unusedSectionVars false
set_option linter.all false
set_option maxRecDepth 100000
set_option maxHeartbeats 16000000
namespace Go.Proofs.YtfmfmdiegabobabGreatDoor

/- master.recordIn answers the record that a sector has, and whether it has one. -/
section
open Go.RowKit
def isM (n : Int) (l : List Int) : Bool := decide (openE l = 0 ∧ decE (openB l) = 0 ∧ (decR (openB l)).ok ∧ (decR (openB l)).gen % 2 = n)
theorem recordIn_any (z : Int) (A : Option Addr) (n c : Nat) (l : List Int) (w : World) (h : Byt w A n c l) :
  Calls Tryz.prog 61 #[.int .i64 z, .slice A n c] w (Ret (.tuple #[msV (recM z l), .bool (isM z l)]) w) := by
 obtain ⟨W0, hW0⟩ : ∃ W0, W0 = w.alloc (.cells #[.int .i64 0, .int .i64 0, .int .i64 0, .int .i64 0, .int .i64 0] 63) := ⟨_, rfl⟩
 have HZ0 : Hid (Bk W0 w.heap.size 63 #[.int .i64 0, .int .i64 0, .int .i64 0, .int .i64 0, .int .i64 0]) := Lib.hid (by rw [hW0]; exact Bk.new w _ _)
 have HB0 : Hid (Below w.heap.size w W0) := Lib.hid (by rw [hW0]; exact (Below.refl _ _).alloc (Nat.le_refl _) _)
 have CO := Lib.hid (stOpen_any A n c l W0 (h.below HB0.out))
 have HW0 := Lib.hid hW0
 have HLB : Hid (openE l = 0 → (openB l).length = 254) := Lib.hid (fun e => by
  by_cases hl : l.length = 256
  ·unfold openB; rw [if_pos e]; exact bodyL_len hl
  ·rw [openE_len hl] at e; omega)
 obtain ⟨r, hr⟩ : ∃ r, w.heap.size = r := ⟨_, rfl⟩
 rw [hr] at HZ0
 have HR := Lib.hid hr
 clear h hW0 hr
 by_cases h1 : openE l = 0
 ·have HOE := Lib.hid h1
  by_cases h2 : decE (openB l) = 0
  ·by_cases h3 : (decR (openB l)).ok
   ·by_cases h4 : (decR (openB l)).gen % 2 = z
    ·have E : Hid (recM z l = decR (openB l) ∧ isM z l = true) := Lib.hid ⟨recM_yes ⟨h1, h2, h3, h4⟩, decide_eq_true ⟨h1, h2, h3, h4⟩⟩
     rw [h1] at CO
     go_enter Tryz.func61, Tryz.ntmps61
     go_wp2_with fail
     rw [← HW0.out, HR.out]
     refine CO.out.mono ?_
     rintro e W1 ⟨A1, n1, c1, rfl, hb, hbel⟩
     have HBY := Lib.hid hb
     have HB1 := Lib.hid hbel
     have Z1 : Hid (Bk W1 r 63 #[.int .i64 0, .int .i64 0, .int .i64 0, .int .i64 0, .int .i64 0]) := Lib.hid (HZ0.out.later HB1.out)
     have L1 : Hid (Below r w W1) := Lib.hid (by rw [← HR.out]; exact HB0.out.trans (HB1.out.mono HB0.out.size))
     clear hb hbel CO HW0 HZ0 HB0 HB1
     have CD := Lib.hid (decode_any A1 n1 c1 (openB l) W1 HBY.out (by have := HLB.out HOE.out; omega) (by have := HBY.out.len; have := HLB.out HOE.out; omega))
     obtain ⟨m, hm⟩ : ∃ m, decM (openB l) = m := ⟨_, rfl⟩
     obtain ⟨x, hx⟩ : ∃ x, decE (openB l) = x := ⟨_, rfl⟩
     rw [hm, hx, show msV m = .agg #[.int .i64 m.gen, .int .i64 m.inc, .int .i64 m.first, .int .i64 m.lsn, .int .i64 m.chk] from rfl] at CD
     have HMM := Lib.hid hm
     have HX := Lib.hid hx
     clear hm hx
     go_wp2_with fail
     refine CD.out.mono ?_
     rintro e W2 ⟨rfl, hbel⟩
     obtain ⟨W3, hW3⟩ : ∃ W3, W3 = W2.alloc (.cells #[.int .i64 m.gen, .int .i64 m.inc, .int .i64 m.first, .int .i64 m.lsn, .int .i64 m.chk] 63) := ⟨_, rfl⟩
     have Z3 : Hid (Bk W3 r 63 #[.int .i64 0, .int .i64 0, .int .i64 0, .int .i64 0, .int .i64 0]) := Lib.hid (by rw [hW3]; exact (Z1.out.later hbel).bel ((Below.refl W2.heap.size _).alloc (Nat.le_refl _) _) (Z1.out.later hbel).lt)
     have L3 : Hid (Below r w W3) := Lib.hid (by rw [hW3]; exact (L1.out.trans (hbel.mono (Nat.le_of_lt Z1.out.lt))).alloc (Nat.le_trans (Nat.le_of_lt Z1.out.lt) hbel.size) _)
     have K3 : Hid (Bk W3 W2.heap.size 63 #[.int .i64 m.gen, .int .i64 m.inc, .int .i64 m.first, .int .i64 m.lsn, .int .i64 m.chk]) := Lib.hid (by rw [hW3]; exact Bk.new _ _ _)
     have HW3 := Lib.hid hW3
     obtain ⟨q, hq⟩ : ∃ q, W2.heap.size = q := ⟨_, rfl⟩
     rw [hq] at K3
     have HQ := Lib.hid hq
     have HRQ : Hid (r < q) := Lib.hid (by rw [← hq]; exact Nat.lt_of_lt_of_le Z1.out.lt hbel.size)
     clear hW3 hbel CD Z1 L1 HBY hq
     obtain rfl : x = 0 := by rw [← HX.out]; exact h2
     have HMD : Hid (m = decR (openB l)) := Lib.hid (by rw [← HMM.out]; unfold decM; rw [if_neg (by rw [h2]; simp)])
     have CV := Lib.hid (isValid_any m W3)
     rw [show msV m = .agg #[.int .i64 m.gen, .int .i64 m.inc, .int .i64 m.first, .int .i64 m.lsn, .int .i64 m.chk] from rfl] at CV
     have HOK : Hid m.ok := Lib.hid (by rw [HMD.out]; exact h3)
     rw [decide_eq_true HOK.out] at CV
     go_wp2_with fail
     rw [← HW3.out, HQ.out]
     clear HW3
     go_wp2_with (refine wpList_load_row rfl 63 _ rfl q rfl 63 #[.int .i64 m.gen, .int .i64 m.inc, .int .i64 m.first, .int .i64 m.lsn, .int .i64 m.chk] (0, 0) _ K3.out Tryz.underlying63 rfl ms_info ?_)
     refine CV.out.mono ?_
     rintro e W4 ⟨rfl, hbel⟩
     have Z4 : Hid (Bk W4 r 63 #[.int .i64 0, .int .i64 0, .int .i64 0, .int .i64 0, .int .i64 0]) := Lib.hid (Z3.out.later hbel)
     have K4 : Hid (Bk W4 q 63 #[.int .i64 m.gen, .int .i64 m.inc, .int .i64 m.first, .int .i64 m.lsn, .int .i64 m.chk]) := Lib.hid (K3.out.later hbel)
     have L4 : Hid (Below r w W4) := Lib.hid (L3.out.trans (hbel.mono (Nat.le_of_lt Z3.out.lt)))
     clear hbel CV Z3 K3 L3
     have CS := Lib.hid (sectorOf_any m W4 (by have := HOK.out.gen; omega))
     rw [show msV m = .agg #[.int .i64 m.gen, .int .i64 m.inc, .int .i64 m.first, .int .i64 m.lsn, .int .i64 m.chk] from rfl] at CS
     rw [show m.gen % 2 = z from by rw [HMD.out]; exact h4] at CS
     clear h1 h2 h3 h4
     have c0 : W4.cell? ⟨q, 0, none⟩ = some (.int .i64 m.gen) := K4.out.cell 0
     have c1 : W4.cell? ⟨q, 1, none⟩ = some (.int .i64 m.inc) := K4.out.cell 1
     have c2 : W4.cell? ⟨q, 2, none⟩ = some (.int .i64 m.first) := K4.out.cell 2
     have c3 : W4.cell? ⟨q, 3, none⟩ = some (.int .i64 m.lsn) := K4.out.cell 3
     have c4 : W4.cell? ⟨q, 4, none⟩ = some (.int .i64 m.chk) := K4.out.cell 4
     go_wp2_with fail
     refine CS.out.mono ?_
     rintro e W5 ⟨rfl, hbel⟩
     have Z5 : Hid (Bk W5 r 63 #[.int .i64 0, .int .i64 0, .int .i64 0, .int .i64 0, .int .i64 0]) := Lib.hid (Z4.out.later hbel)
     have K5 : Hid (Bk W5 q 63 #[.int .i64 m.gen, .int .i64 m.inc, .int .i64 m.first, .int .i64 m.lsn, .int .i64 m.chk]) := Lib.hid (K4.out.later hbel)
     have L5 : Hid (Below r w W5) := Lib.hid (L4.out.trans (hbel.mono (Nat.le_of_lt Z4.out.lt)))
     clear hbel CS Z4 K4 L4 c0 c1 c2 c3 c4
     go_wp2_with (first | (refine wpList_load_row rfl 63 _ rfl q rfl 63 #[.int .i64 m.gen, .int .i64 m.inc, .int .i64 m.first, .int .i64 m.lsn, .int .i64 m.chk] (0, 0) _ K5.out Tryz.underlying63 rfl ms_info ?_) | (refine wpList_store_row rfl 63 _ _ rfl r #[.int .i64 m.gen, .int .i64 m.inc, .int .i64 m.first, .int .i64 m.lsn, .int .i64 m.chk] rfl rfl 63 _ Z5.out ms_info rfl (ms_one _ _ _ _ _) ?_; simp only [Act.put]))
     (try simp only [Exit.inBlock, Exit.then])
     refine bodyPost_ret (results_cellT rfl _ _ r 63 #[.int .i64 m.gen, .int .i64 m.inc, .int .i64 m.first, .int .i64 m.lsn, .int .i64 m.chk] _ rfl (Z5.out.row _) Tryz.underlying63 rfl ms_info) rfl ?_
     rw [E.out.1, E.out.2, ← HMD.out]
     refine ⟨rfl, ?_⟩
     rw [HR.out]
     exact below_setRow L5.out (Nat.le_refl r) _
    ·have E : Hid (recM z l = ms0 ∧ isM z l = false) := Lib.hid ⟨recM_no (fun q => h4 q.2.2.2), decide_eq_false (fun q => h4 q.2.2.2)⟩
     rw [h1] at CO
     go_enter Tryz.func61, Tryz.ntmps61
     go_wp2_with fail
     rw [← HW0.out, HR.out]
     refine CO.out.mono ?_
     rintro e W1 ⟨A1, n1, c1, rfl, hb, hbel⟩
     have HBY := Lib.hid hb
     have HB1 := Lib.hid hbel
     have Z1 : Hid (Bk W1 r 63 #[.int .i64 0, .int .i64 0, .int .i64 0, .int .i64 0, .int .i64 0]) := Lib.hid (HZ0.out.later HB1.out)
     have L1 : Hid (Below r w W1) := Lib.hid (by rw [← HR.out]; exact HB0.out.trans (HB1.out.mono HB0.out.size))
     clear hb hbel CO HW0 HZ0 HB0 HB1
     have CD := Lib.hid (decode_any A1 n1 c1 (openB l) W1 HBY.out (by have := HLB.out HOE.out; omega) (by have := HBY.out.len; have := HLB.out HOE.out; omega))
     obtain ⟨m, hm⟩ : ∃ m, decM (openB l) = m := ⟨_, rfl⟩
     obtain ⟨x, hx⟩ : ∃ x, decE (openB l) = x := ⟨_, rfl⟩
     rw [hm, hx, show msV m = .agg #[.int .i64 m.gen, .int .i64 m.inc, .int .i64 m.first, .int .i64 m.lsn, .int .i64 m.chk] from rfl] at CD
     have HMM := Lib.hid hm
     have HX := Lib.hid hx
     clear hm hx
     go_wp2_with fail
     refine CD.out.mono ?_
     rintro e W2 ⟨rfl, hbel⟩
     obtain ⟨W3, hW3⟩ : ∃ W3, W3 = W2.alloc (.cells #[.int .i64 m.gen, .int .i64 m.inc, .int .i64 m.first, .int .i64 m.lsn, .int .i64 m.chk] 63) := ⟨_, rfl⟩
     have Z3 : Hid (Bk W3 r 63 #[.int .i64 0, .int .i64 0, .int .i64 0, .int .i64 0, .int .i64 0]) := Lib.hid (by rw [hW3]; exact (Z1.out.later hbel).bel ((Below.refl W2.heap.size _).alloc (Nat.le_refl _) _) (Z1.out.later hbel).lt)
     have L3 : Hid (Below r w W3) := Lib.hid (by rw [hW3]; exact (L1.out.trans (hbel.mono (Nat.le_of_lt Z1.out.lt))).alloc (Nat.le_trans (Nat.le_of_lt Z1.out.lt) hbel.size) _)
     have K3 : Hid (Bk W3 W2.heap.size 63 #[.int .i64 m.gen, .int .i64 m.inc, .int .i64 m.first, .int .i64 m.lsn, .int .i64 m.chk]) := Lib.hid (by rw [hW3]; exact Bk.new _ _ _)
     have HW3 := Lib.hid hW3
     obtain ⟨q, hq⟩ : ∃ q, W2.heap.size = q := ⟨_, rfl⟩
     rw [hq] at K3
     have HQ := Lib.hid hq
     have HRQ : Hid (r < q) := Lib.hid (by rw [← hq]; exact Nat.lt_of_lt_of_le Z1.out.lt hbel.size)
     clear hW3 hbel CD Z1 L1 HBY hq
     obtain rfl : x = 0 := by rw [← HX.out]; exact h2
     have HMD : Hid (m = decR (openB l)) := Lib.hid (by rw [← HMM.out]; unfold decM; rw [if_neg (by rw [h2]; simp)])
     have CV := Lib.hid (isValid_any m W3)
     rw [show msV m = .agg #[.int .i64 m.gen, .int .i64 m.inc, .int .i64 m.first, .int .i64 m.lsn, .int .i64 m.chk] from rfl] at CV
     have HOK : Hid m.ok := Lib.hid (by rw [HMD.out]; exact h3)
     rw [decide_eq_true HOK.out] at CV
     go_wp2_with fail
     rw [← HW3.out, HQ.out]
     clear HW3
     go_wp2_with (refine wpList_load_row rfl 63 _ rfl q rfl 63 #[.int .i64 m.gen, .int .i64 m.inc, .int .i64 m.first, .int .i64 m.lsn, .int .i64 m.chk] (0, 0) _ K3.out Tryz.underlying63 rfl ms_info ?_)
     refine CV.out.mono ?_
     rintro e W4 ⟨rfl, hbel⟩
     have Z4 : Hid (Bk W4 r 63 #[.int .i64 0, .int .i64 0, .int .i64 0, .int .i64 0, .int .i64 0]) := Lib.hid (Z3.out.later hbel)
     have K4 : Hid (Bk W4 q 63 #[.int .i64 m.gen, .int .i64 m.inc, .int .i64 m.first, .int .i64 m.lsn, .int .i64 m.chk]) := Lib.hid (K3.out.later hbel)
     have L4 : Hid (Below r w W4) := Lib.hid (L3.out.trans (hbel.mono (Nat.le_of_lt Z3.out.lt)))
     clear hbel CV Z3 K3 L3
     have CS := Lib.hid (sectorOf_any m W4 (by have := HOK.out.gen; omega))
     rw [show msV m = .agg #[.int .i64 m.gen, .int .i64 m.inc, .int .i64 m.first, .int .i64 m.lsn, .int .i64 m.chk] from rfl] at CS
     have HNE : Hid (m.gen % 2 ≠ z) := Lib.hid (by rw [HMD.out]; exact h4)
     obtain ⟨y, hy⟩ : ∃ y, m.gen % 2 = y := ⟨_, rfl⟩
     rw [hy] at CS
     have hd : (y != z) = true := by have := HNE.out; rw [hy] at this; simpa using this
     clear h1 h2 h3 h4
     have c0 : W4.cell? ⟨q, 0, none⟩ = some (.int .i64 m.gen) := K4.out.cell 0
     have c1 : W4.cell? ⟨q, 1, none⟩ = some (.int .i64 m.inc) := K4.out.cell 1
     have c2 : W4.cell? ⟨q, 2, none⟩ = some (.int .i64 m.first) := K4.out.cell 2
     have c3 : W4.cell? ⟨q, 3, none⟩ = some (.int .i64 m.lsn) := K4.out.cell 3
     have c4 : W4.cell? ⟨q, 4, none⟩ = some (.int .i64 m.chk) := K4.out.cell 4
     go_wp2_with fail
     refine CS.out.mono ?_
     rintro e W5 ⟨rfl, hbel⟩
     have Z5 : Hid (Bk W5 r 63 #[.int .i64 0, .int .i64 0, .int .i64 0, .int .i64 0, .int .i64 0]) := Lib.hid (Z4.out.later hbel)
     have K5 : Hid (Bk W5 q 63 #[.int .i64 m.gen, .int .i64 m.inc, .int .i64 m.first, .int .i64 m.lsn, .int .i64 m.chk]) := Lib.hid (K4.out.later hbel)
     have L5 : Hid (Below r w W5) := Lib.hid (L4.out.trans (hbel.mono (Nat.le_of_lt Z4.out.lt)))
     clear hbel CS Z4 K4 L4 c0 c1 c2 c3 c4
     go_wp2_with (refine wpList_store_row rfl 63 _ _ rfl r #[.int .i64 0, .int .i64 0, .int .i64 0, .int .i64 0, .int .i64 0] rfl rfl 63 _ Z5.out ms_info rfl (ms_one _ _ _ _ _) ?_; simp only [Act.put])
     (try simp only [Exit.inBlock, Exit.then])
     refine bodyPost_ret (results_cellT rfl _ _ r 63 #[.int .i64 0, .int .i64 0, .int .i64 0, .int .i64 0, .int .i64 0] _ rfl (Z5.out.row _) Tryz.underlying63 rfl ms_info) rfl ?_
     rw [E.out.1, E.out.2]
     refine ⟨rfl, ?_⟩
     rw [HR.out]
     exact below_setRow L5.out (Nat.le_refl r) _
   ·have E : Hid (recM z l = ms0 ∧ isM z l = false) := Lib.hid ⟨recM_no (fun q => h3 q.2.2.1), decide_eq_false (fun q => h3 q.2.2.1)⟩
    rw [h1] at CO
    go_enter Tryz.func61, Tryz.ntmps61
    go_wp2_with fail
    rw [← HW0.out, HR.out]
    refine CO.out.mono ?_
    rintro e W1 ⟨A1, n1, c1, rfl, hb, hbel⟩
    have HBY := Lib.hid hb
    have HB1 := Lib.hid hbel
    have Z1 : Hid (Bk W1 r 63 #[.int .i64 0, .int .i64 0, .int .i64 0, .int .i64 0, .int .i64 0]) := Lib.hid (HZ0.out.later HB1.out)
    have L1 : Hid (Below r w W1) := Lib.hid (by rw [← HR.out]; exact HB0.out.trans (HB1.out.mono HB0.out.size))
    clear hb hbel CO HW0 HZ0 HB0 HB1
    have CD := Lib.hid (decode_any A1 n1 c1 (openB l) W1 HBY.out (by have := HLB.out HOE.out; omega) (by have := HBY.out.len; have := HLB.out HOE.out; omega))
    obtain ⟨m, hm⟩ : ∃ m, decM (openB l) = m := ⟨_, rfl⟩
    obtain ⟨x, hx⟩ : ∃ x, decE (openB l) = x := ⟨_, rfl⟩
    rw [hm, hx, show msV m = .agg #[.int .i64 m.gen, .int .i64 m.inc, .int .i64 m.first, .int .i64 m.lsn, .int .i64 m.chk] from rfl] at CD
    have HMM := Lib.hid hm
    have HX := Lib.hid hx
    clear hm hx
    go_wp2_with fail
    refine CD.out.mono ?_
    rintro e W2 ⟨rfl, hbel⟩
    obtain ⟨W3, hW3⟩ : ∃ W3, W3 = W2.alloc (.cells #[.int .i64 m.gen, .int .i64 m.inc, .int .i64 m.first, .int .i64 m.lsn, .int .i64 m.chk] 63) := ⟨_, rfl⟩
    have Z3 : Hid (Bk W3 r 63 #[.int .i64 0, .int .i64 0, .int .i64 0, .int .i64 0, .int .i64 0]) := Lib.hid (by rw [hW3]; exact (Z1.out.later hbel).bel ((Below.refl W2.heap.size _).alloc (Nat.le_refl _) _) (Z1.out.later hbel).lt)
    have L3 : Hid (Below r w W3) := Lib.hid (by rw [hW3]; exact (L1.out.trans (hbel.mono (Nat.le_of_lt Z1.out.lt))).alloc (Nat.le_trans (Nat.le_of_lt Z1.out.lt) hbel.size) _)
    have K3 : Hid (Bk W3 W2.heap.size 63 #[.int .i64 m.gen, .int .i64 m.inc, .int .i64 m.first, .int .i64 m.lsn, .int .i64 m.chk]) := Lib.hid (by rw [hW3]; exact Bk.new _ _ _)
    have HW3 := Lib.hid hW3
    obtain ⟨q, hq⟩ : ∃ q, W2.heap.size = q := ⟨_, rfl⟩
    rw [hq] at K3
    have HQ := Lib.hid hq
    have HRQ : Hid (r < q) := Lib.hid (by rw [← hq]; exact Nat.lt_of_lt_of_le Z1.out.lt hbel.size)
    clear hW3 hbel CD Z1 L1 HBY hq
    obtain rfl : x = 0 := by rw [← HX.out]; exact h2
    have HMD : Hid (m = decR (openB l)) := Lib.hid (by rw [← HMM.out]; unfold decM; rw [if_neg (by rw [h2]; simp)])
    have CV := Lib.hid (isValid_any m W3)
    rw [show msV m = .agg #[.int .i64 m.gen, .int .i64 m.inc, .int .i64 m.first, .int .i64 m.lsn, .int .i64 m.chk] from rfl] at CV
    rw [decide_eq_false (by rw [HMD.out]; exact h3)] at CV
    go_wp2_with fail
    rw [← HW3.out, HQ.out]
    clear HW3
    go_wp2_with (refine wpList_load_row rfl 63 _ rfl q rfl 63 #[.int .i64 m.gen, .int .i64 m.inc, .int .i64 m.first, .int .i64 m.lsn, .int .i64 m.chk] (0, 0) _ K3.out Tryz.underlying63 rfl ms_info ?_)
    refine CV.out.mono ?_
    rintro e W4 ⟨rfl, hbel⟩
    have Z4 : Hid (Bk W4 r 63 #[.int .i64 0, .int .i64 0, .int .i64 0, .int .i64 0, .int .i64 0]) := Lib.hid (Z3.out.later hbel)
    have K4 : Hid (Bk W4 q 63 #[.int .i64 m.gen, .int .i64 m.inc, .int .i64 m.first, .int .i64 m.lsn, .int .i64 m.chk]) := Lib.hid (K3.out.later hbel)
    have L4 : Hid (Below r w W4) := Lib.hid (L3.out.trans (hbel.mono (Nat.le_of_lt Z3.out.lt)))
    clear hbel CV Z3 K3 L3
    go_wp2_with (refine wpList_store_row rfl 63 _ _ rfl r #[.int .i64 0, .int .i64 0, .int .i64 0, .int .i64 0, .int .i64 0] rfl rfl 63 _ Z4.out ms_info rfl (ms_one _ _ _ _ _) ?_; simp only [Act.put])
    (try simp only [Exit.inBlock, Exit.then])
    refine bodyPost_ret (results_cellT rfl _ _ r 63 #[.int .i64 0, .int .i64 0, .int .i64 0, .int .i64 0, .int .i64 0] _ rfl (Z4.out.row _) Tryz.underlying63 rfl ms_info) rfl ?_
    rw [E.out.1, E.out.2]
    refine ⟨rfl, ?_⟩
    rw [HR.out]
    exact below_setRow L4.out (Nat.le_refl r) _
  ·have E : Hid (recM z l = ms0 ∧ isM z l = false) := Lib.hid ⟨recM_no (fun q => h2 q.2.1), decide_eq_false (fun q => h2 q.2.1)⟩
   rw [h1] at CO
   go_enter Tryz.func61, Tryz.ntmps61
   go_wp2_with fail
   rw [← HW0.out, HR.out]
   refine CO.out.mono ?_
   rintro e W1 ⟨A1, n1, c1, rfl, hb, hbel⟩
   have HBY := Lib.hid hb
   have HB1 := Lib.hid hbel
   have Z1 : Hid (Bk W1 r 63 #[.int .i64 0, .int .i64 0, .int .i64 0, .int .i64 0, .int .i64 0]) := Lib.hid (HZ0.out.later HB1.out)
   have L1 : Hid (Below r w W1) := Lib.hid (by rw [← HR.out]; exact HB0.out.trans (HB1.out.mono HB0.out.size))
   clear hb hbel CO HW0 HZ0 HB0 HB1
   have CD := Lib.hid (decode_any A1 n1 c1 (openB l) W1 HBY.out (by have := HLB.out HOE.out; omega) (by have := HBY.out.len; have := HLB.out HOE.out; omega))
   obtain ⟨m, hm⟩ : ∃ m, decM (openB l) = m := ⟨_, rfl⟩
   obtain ⟨x, hx⟩ : ∃ x, decE (openB l) = x := ⟨_, rfl⟩
   rw [hm, hx, show msV m = .agg #[.int .i64 m.gen, .int .i64 m.inc, .int .i64 m.first, .int .i64 m.lsn, .int .i64 m.chk] from rfl] at CD
   have HMM := Lib.hid hm
   have HX := Lib.hid hx
   clear hm hx
   go_wp2_with fail
   refine CD.out.mono ?_
   rintro e W2 ⟨rfl, hbel⟩
   obtain ⟨W3, hW3⟩ : ∃ W3, W3 = W2.alloc (.cells #[.int .i64 m.gen, .int .i64 m.inc, .int .i64 m.first, .int .i64 m.lsn, .int .i64 m.chk] 63) := ⟨_, rfl⟩
   have Z3 : Hid (Bk W3 r 63 #[.int .i64 0, .int .i64 0, .int .i64 0, .int .i64 0, .int .i64 0]) := Lib.hid (by rw [hW3]; exact (Z1.out.later hbel).bel ((Below.refl W2.heap.size _).alloc (Nat.le_refl _) _) (Z1.out.later hbel).lt)
   have L3 : Hid (Below r w W3) := Lib.hid (by rw [hW3]; exact (L1.out.trans (hbel.mono (Nat.le_of_lt Z1.out.lt))).alloc (Nat.le_trans (Nat.le_of_lt Z1.out.lt) hbel.size) _)
   have K3 : Hid (Bk W3 W2.heap.size 63 #[.int .i64 m.gen, .int .i64 m.inc, .int .i64 m.first, .int .i64 m.lsn, .int .i64 m.chk]) := Lib.hid (by rw [hW3]; exact Bk.new _ _ _)
   have HW3 := Lib.hid hW3
   obtain ⟨q, hq⟩ : ∃ q, W2.heap.size = q := ⟨_, rfl⟩
   rw [hq] at K3
   have HQ := Lib.hid hq
   have HRQ : Hid (r < q) := Lib.hid (by rw [← hq]; exact Nat.lt_of_lt_of_le Z1.out.lt hbel.size)
   clear hW3 hbel CD Z1 L1 HBY hq
   have hd : ((x : Int) != 0) = true := by have := HX.out; simp; omega
   clear h2
   have Z3L : Hid (Bk (W2.alloc (.cells #[.int .i64 m.gen, .int .i64 m.inc, .int .i64 m.first, .int .i64 m.lsn, .int .i64 m.chk] 63)) r 63 #[.int .i64 0, .int .i64 0, .int .i64 0, .int .i64 0, .int .i64 0]) := Lib.hid (by rw [← HW3.out]; exact Z3.out)
   go_wp2_with (refine wpList_store_row rfl 63 _ _ rfl r #[.int .i64 0, .int .i64 0, .int .i64 0, .int .i64 0, .int .i64 0] rfl rfl 63 _ Z3L.out ms_info rfl (ms_one _ _ _ _ _) ?_; simp only [Act.put])
   rw [← HW3.out]
   (try simp only [Exit.inBlock, Exit.then])
   refine bodyPost_ret (results_cellT rfl _ _ r 63 #[.int .i64 0, .int .i64 0, .int .i64 0, .int .i64 0, .int .i64 0] _ rfl (Z3.out.row _) Tryz.underlying63 rfl ms_info) rfl ?_
   rw [E.out.1, E.out.2]
   refine ⟨rfl, ?_⟩
   rw [HR.out]
   exact below_setRow L3.out (Nat.le_refl r) _
 ·have E : Hid (recM z l = ms0 ∧ isM z l = false) := Lib.hid ⟨recM_no (fun q => h1 q.1), decide_eq_false (fun q => h1 q.1)⟩
  obtain ⟨oe, hoe⟩ : ∃ oe, openE l = oe := ⟨_, rfl⟩
  rw [hoe] at CO h1
  have hd : (oe != 0) = true := by simpa using h1
  clear hoe h1
  go_enter Tryz.func61, Tryz.ntmps61
  go_wp2_with fail
  rw [← HW0.out, HR.out]
  refine CO.out.mono ?_
  rintro e W1 ⟨A1, n1, c1, rfl, hb, hbel⟩
  have HBY := Lib.hid hb
  have HB1 := Lib.hid hbel
  have Z1 : Hid (Bk W1 r 63 #[.int .i64 0, .int .i64 0, .int .i64 0, .int .i64 0, .int .i64 0]) := Lib.hid (HZ0.out.later HB1.out)
  have L1 : Hid (Below r w W1) := Lib.hid (by rw [← HR.out]; exact HB0.out.trans (HB1.out.mono HB0.out.size))
  clear hb hbel CO HW0 HZ0 HB0 HB1
  go_wp2_with (refine wpList_store_row rfl 63 _ _ rfl r #[.int .i64 0, .int .i64 0, .int .i64 0, .int .i64 0, .int .i64 0] rfl rfl 63 _ Z1.out ms_info rfl (ms_one _ _ _ _ _) ?_; simp only [Act.put])
  (try simp only [Exit.inBlock, Exit.then])
  refine bodyPost_ret (results_cellT rfl _ _ r 63 #[.int .i64 0, .int .i64 0, .int .i64 0, .int .i64 0, .int .i64 0] _ rfl (Z1.out.row _) Tryz.underlying63 rfl ms_info) rfl ?_
  rw [E.out.1, E.out.2]
  refine ⟨rfl, ?_⟩
  rw [HR.out]
  exact below_setRow L1.out (Nat.le_refl r) _
end

/- master.Load, where reads answer known bytes or errors: the record that counts, or the error; nothing that was there is turned. -/
section
open Go.RowKit
def better (best x : Ms) : Ms := if best.gen < x.gen then x else best
theorem isM_no {z : Int} {l : List Int} (h : isM z l = false) : recM z l = ms0 := recM_no (of_decide_eq_false h)
theorem better_no {best : Ms} {z : Int} {l : List Int} (h : isM z l = false) (hb : 0 ≤ best.gen) : better best (recM z l) = best := by
 unfold better
 rw [if_neg]
 rw [isM_no h]
 show ¬ best.gen < 0
 omega
def RetEx (er : Int) (qb : Nat) (best : Ms) (w : World) (e : Ending) (w' : World) : Prop := e = .returned (.int .i64 er) ∧ Bk w' qb 63 (msC best) ∧ w.grownBy w' (some qb)
theorem examine_any (d : Option Addr) (qd qb : Nat) (best : Ms) (z : Int) (l : List Int) (er : Int) (w : World) (hd : Bk w qd 33 #[.pointer d]) (hb : Bk w qb 63 (msC best)) (h0 : 0 ≤ best.gen)
  (hR : Calls Tryz.prog 60 #[.pointer d, .int .i64 z] w (RetRd l er w)) :
  Calls Tryz.prog 59 #[.int .i64 z, .pointer (some ⟨qd, 0, none⟩), .pointer (some ⟨qb, 0, none⟩)] w (RetEx er qb (if er ≠ 0 then best else better best (recM z l)) w) := by
 have HR := Lib.hid hR
 have HB := Lib.hid hb
 have HP := Lib.hid h0
 have cd : w.cell? ⟨qd, 0, none⟩ = some (.pointer d) := hd.cell 0
 clear hd hb hR h0
 by_cases he : er = 0
 ·subst he
  rw [if_neg (by simp)]
  obtain ⟨i, hi⟩ : ∃ i, isM z l = i := ⟨_, rfl⟩
  have HI := Lib.hid hi
  obtain ⟨m, hm⟩ : ∃ m, recM z l = m := ⟨_, rfl⟩
  have HM := Lib.hid hm
  rw [hm]
  clear hi hm
  cases i with
  | false =>
    go_enter Tryz.func59, Tryz.ntmps59
    go_wp2_with fail
    refine HR.out.mono ?_
    rintro e W1 ⟨A, n, c, rfl, hy, _, hbel⟩
    have CI := Lib.hid (recordIn_any z A n c l W1 hy)
    rw [HM.out, HI.out, show msV m = .agg #[.int .i64 m.gen, .int .i64 m.inc, .int .i64 m.first, .int .i64 m.lsn, .int .i64 m.chk] from rfl] at CI
    have HB1 := Lib.hid hbel
    clear hy hbel HR
    go_wp2_with fail
    refine CI.out.mono ?_
    rintro e W2 ⟨rfl, hbel⟩
    have K2 : Hid (Bk W2 qb 63 (msC best)) := Lib.hid ((HB.out.later HB1.out).later hbel)
    have G2 : Hid (w.grownBy W2 (some qb)) := Lib.hid (grown_below (HB1.out.trans (hbel.mono HB1.out.size)))
    have K3 : Hid (Bk (W2.alloc (.cells #[.int .i64 m.gen, .int .i64 m.inc, .int .i64 m.first, .int .i64 m.lsn, .int .i64 m.chk] 63)) qb 63 (msC best)) := Lib.hid (K2.out.later ((Below.refl _ _).alloc (Nat.le_refl _) _))
    have G3 : Hid (w.grownBy (W2.alloc (.cells #[.int .i64 m.gen, .int .i64 m.inc, .int .i64 m.first, .int .i64 m.lsn, .int .i64 m.chk] 63)) (some qb)) := Lib.hid (grown_trans G2.out (World.grownBy_alloc W2 _ _))
    clear hbel CI HB HB1
    go_wp2_with fail
    go_ret
    refine ⟨rfl, ?_, G3.out⟩
    have hbt := better_no HI.out HP.out
    rw [HM.out] at hbt
    rw [hbt]
    exact K3.out
  | true =>
    by_cases hlt : best.gen < m.gen
    ·go_enter Tryz.func59, Tryz.ntmps59
     go_wp2_with fail
     refine HR.out.mono ?_
     rintro e W1 ⟨A, n, c, rfl, hy, _, hbel⟩
     have CI := Lib.hid (recordIn_any z A n c l W1 hy)
     rw [HM.out, HI.out, show msV m = .agg #[.int .i64 m.gen, .int .i64 m.inc, .int .i64 m.first, .int .i64 m.lsn, .int .i64 m.chk] from rfl] at CI
     have HB1 := Lib.hid hbel
     clear hy hbel HR
     go_wp2_with fail
     refine CI.out.mono ?_
     rintro e W2 ⟨rfl, hbel⟩
     have K2 : Hid (Bk W2 qb 63 (msC best)) := Lib.hid ((HB.out.later HB1.out).later hbel)
     have G2 : Hid (w.grownBy W2 (some qb)) := Lib.hid (grown_below (HB1.out.trans (hbel.mono HB1.out.size)))
     have K3 : Hid (Bk (W2.alloc (.cells #[.int .i64 m.gen, .int .i64 m.inc, .int .i64 m.first, .int .i64 m.lsn, .int .i64 m.chk] 63)) qb 63 (msC best)) := Lib.hid (K2.out.later ((Below.refl _ _).alloc (Nat.le_refl _) _))
     have G3 : Hid (w.grownBy (W2.alloc (.cells #[.int .i64 m.gen, .int .i64 m.inc, .int .i64 m.first, .int .i64 m.lsn, .int .i64 m.chk] 63)) (some qb)) := Lib.hid (grown_trans G2.out (World.grownBy_alloc W2 _ _))
     clear hbel CI HB HB1
     have cb : (W2.alloc (.cells #[.int .i64 m.gen, .int .i64 m.inc, .int .i64 m.first, .int .i64 m.lsn, .int .i64 m.chk] 63)).cell? ⟨qb, 0, none⟩ = some (.int .i64 best.gen) := K3.out.cell 0
     have HLT := Lib.hid hlt
     go_wp2_with (refine wpList_store_row rfl 63 _ _ rfl qb #[.int .i64 m.gen, .int .i64 m.inc, .int .i64 m.first, .int .i64 m.lsn, .int .i64 m.chk] rfl rfl 63 _ K3.out ms_info rfl (ms_one _ _ _ _ _) ?_; simp only [Act.put])
     go_ret
     refine ⟨rfl, ?_, grown_trans G3.out ⟨rfl, rfl, rfl, by simp, fun k _ hk => setRow_other _ _ _ _ (by simpa using hk)⟩⟩
     unfold better
     rw [if_pos HLT.out]
     exact K3.out.row _
    ·go_enter Tryz.func59, Tryz.ntmps59
     go_wp2_with fail
     refine HR.out.mono ?_
     rintro e W1 ⟨A, n, c, rfl, hy, _, hbel⟩
     have CI := Lib.hid (recordIn_any z A n c l W1 hy)
     rw [HM.out, HI.out, show msV m = .agg #[.int .i64 m.gen, .int .i64 m.inc, .int .i64 m.first, .int .i64 m.lsn, .int .i64 m.chk] from rfl] at CI
     have HB1 := Lib.hid hbel
     clear hy hbel HR
     go_wp2_with fail
     refine CI.out.mono ?_
     rintro e W2 ⟨rfl, hbel⟩
     have K2 : Hid (Bk W2 qb 63 (msC best)) := Lib.hid ((HB.out.later HB1.out).later hbel)
     have G2 : Hid (w.grownBy W2 (some qb)) := Lib.hid (grown_below (HB1.out.trans (hbel.mono HB1.out.size)))
     have K3 : Hid (Bk (W2.alloc (.cells #[.int .i64 m.gen, .int .i64 m.inc, .int .i64 m.first, .int .i64 m.lsn, .int .i64 m.chk] 63)) qb 63 (msC best)) := Lib.hid (K2.out.later ((Below.refl _ _).alloc (Nat.le_refl _) _))
     have G3 : Hid (w.grownBy (W2.alloc (.cells #[.int .i64 m.gen, .int .i64 m.inc, .int .i64 m.first, .int .i64 m.lsn, .int .i64 m.chk] 63)) (some qb)) := Lib.hid (grown_trans G2.out (World.grownBy_alloc W2 _ _))
     clear hbel CI HB HB1
     have cb : (W2.alloc (.cells #[.int .i64 m.gen, .int .i64 m.inc, .int .i64 m.first, .int .i64 m.lsn, .int .i64 m.chk] 63)).cell? ⟨qb, 0, none⟩ = some (.int .i64 best.gen) := K3.out.cell 0
     have HLT := Lib.hid hlt
     go_wp2_with fail
     go_ret
     refine ⟨rfl, ?_, G3.out⟩
     unfold better
     rw [if_neg (by have := HLT.out; omega)]
     exact K3.out
 ·rw [if_pos he]
  have hq : (er != 0) = true := by simpa using he
  go_enter Tryz.func59, Tryz.ntmps59
  go_wp2_with fail
  refine HR.out.mono ?_
  rintro e W1 ⟨A, n, c, rfl, _, _, hbel⟩
  have HB1 := Lib.hid hbel
  clear hbel HR
  go_wp2_with fail
  go_ret
  exact ⟨rfl, HB.out.later HB1.out, grown_below HB1.out⟩
def loadE0 (L : Int → List Int) (E : Int → Int) : Int := if E 0 ≠ 0 then E 0 else if E 1 ≠ 0 then E 1 else lostE (loadM (L 0) (L 1))
def loadR0 (L : Int → List Int) (E : Int → Int) : Ms := if E 0 ≠ 0 then ms0 else if E 1 ≠ 0 then ms0 else loadM (L 0) (L 1)
theorem better_load (a b : List Int) : better (better ms0 (recM 0 a)) (recM 1 b) = loadM a b := by
 have h0 := recM_gen 0 a
 have e : better ms0 (recM 0 a) = recM 0 a := by
  unfold better
  split
  ·rfl
  ·rename_i q
   exact (recM_zero (show (recM 0 a).gen = 0 from by have : ms0.gen = 0 := rfl; omega)).symm
 rw [e]
 rfl
theorem better_gen {a b : Ms} (h : 0 ≤ a.gen) : 0 ≤ (better a b).gen := by
 unfold better
 split
 ·omega
 ·exact h
theorem load_gen (d : Option Addr) (L : Int → List Int) (E : Int → Int) (w : World)
  (hR : ∀ z w', Below w.heap.size w w' → Calls Tryz.prog 60 #[.pointer d, .int .i64 z] w' (RetRd (L z) (E z) w')) :
  Calls Tryz.prog 40 #[.pointer d] w (Ret (.tuple #[msV (loadR0 L E), .int .i64 (loadE0 L E)]) w) := by
 obtain ⟨r, hr⟩ : ∃ r, w.heap.size = r := ⟨_, rfl⟩
 obtain ⟨W0, hW0⟩ : ∃ W0, W0 = ((w.alloc (.cells #[.pointer d] 33)).alloc (.cells #[.int .i64 0, .int .i64 0, .int .i64 0, .int .i64 0, .int .i64 0] 63)).alloc (.cells #[.int .i64 0, .int .i64 0, .int .i64 0, .int .i64 0, .int .i64 0] 63) := ⟨_, rfl⟩
 have D0 : Hid (Bk W0 r 33 #[.pointer d]) := Lib.hid (by rw [hW0, ← hr]; exact ((Bk.new w _ _).later ((Below.refl _ _).alloc (Nat.le_refl _) _)).later ((Below.refl _ _).alloc (Nat.le_refl _) _))
 have Z0 : Hid (Bk W0 (r + 1) 63 #[.int .i64 0, .int .i64 0, .int .i64 0, .int .i64 0, .int .i64 0]) := Lib.hid (by
  have := Bk.new (w.alloc (.cells #[.pointer d] 33)) 63 #[.int .i64 0, .int .i64 0, .int .i64 0, .int .i64 0, .int .i64 0]
  rw [World.size_alloc, hr] at this
  rw [hW0]
  exact this.later ((Below.refl _ _).alloc (Nat.le_refl _) _))
 have M0 : Hid (Bk W0 (r + 2) 63 (msC ms0)) := Lib.hid (by
  have := Bk.new ((w.alloc (.cells #[.pointer d] 33)).alloc (.cells #[.int .i64 0, .int .i64 0, .int .i64 0, .int .i64 0, .int .i64 0] 63)) 63 #[.int .i64 0, .int .i64 0, .int .i64 0, .int .i64 0, .int .i64 0]
  rw [World.size_alloc, World.size_alloc, hr] at this
  rw [hW0]
  exact this)
 have L0 : Hid (Below r w W0) := Lib.hid (by rw [hW0, ← hr]; exact (((Below.refl _ _).alloc (Nat.le_refl _) _).alloc (by simp) _).alloc (by simp only [World.size_alloc]; omega) _)
 have RD : Hid (∀ z w', Below r w w' → Calls Tryz.prog 60 #[.pointer d, .int .i64 z] w' (RetRd (L z) (E z) w')) := Lib.hid (by rw [← hr]; exact hR)
 have HW0 := Lib.hid hW0
 have HR := Lib.hid hr
 have C0 := Lib.hid (examine_any d r (r + 2) ms0 0 (L 0) (E 0) W0 D0.out M0.out (Int.le_refl _) (RD.out 0 W0 L0.out))
 clear hR hW0 hr
 by_cases h0 : E 0 = 0
 ·by_cases h1 : E 1 = 0
  ·obtain ⟨m, hm⟩ : ∃ m, loadM (L 0) (L 1) = m := ⟨_, rfl⟩
   by_cases hg : m.gen = 0
   ·have EQ : Hid (loadR0 L E = m ∧ loadE0 L E = 60) := Lib.hid ⟨by unfold loadR0; rw [if_neg (by omega), if_neg (by omega)]; exact hm, by unfold loadE0; rw [if_neg (by omega), if_neg (by omega), hm]; unfold lostE; rw [if_pos hg]⟩
    have HM := Lib.hid hm
    clear hm
    rw [h0, if_neg (by simp)] at C0
    have HMQ : Hid (m = ms0) := Lib.hid (by rw [← HM.out]; exact loadM_zero (by rw [HM.out]; exact hg))
    go_enter Tryz.func40, Tryz.ntmps40
    go_wp2_with fail
    rw [← HW0.out, HR.out]
    refine wp_loop_rounds 3 ?_
    rw [rounds_succ]
    go_wp2_with fail
    refine C0.out.mono ?_
    rintro e W1 ⟨rfl, hm, hg⟩
    have Z1 : Hid (Bk W1 (r + 1) 63 #[.int .i64 0, .int .i64 0, .int .i64 0, .int .i64 0, .int .i64 0]) := Lib.hid ((hg.block _ Z0.out.lt (by simp)).trans Z0.out)
    have D1 : Hid (Bk W1 r 33 #[.pointer d]) := Lib.hid ((hg.block _ D0.out.lt (by simp)).trans D0.out)
    have L1 : Hid (Below r w W1) := Lib.hid (L0.out.grown hg (Nat.le_of_lt D0.out.lt) (fun q hq => by injection hq with hq; omega))
    have M1 := Lib.hid hm
    clear hm hg C0 HW0 Z0 D0 L0 M0
    have C1 := examine_any d r (r + 2) (better ms0 (recM 0 (L 0))) 1 (L 1) (E 1) W1 D1.out M1.out (better_gen (Int.le_refl _)) (RD.out 1 W1 L1.out)
    rw [h1, if_neg (by simp), better_load, HM.out] at C1
    have C1 := Lib.hid C1
    go_wp2_with fail
    rw [rounds_succ]
    go_wp2_with fail
    refine C1.out.mono ?_
    rintro e W2 ⟨rfl, hm, hg⟩
    have Z2 : Hid (Bk W2 (r + 1) 63 #[.int .i64 0, .int .i64 0, .int .i64 0, .int .i64 0, .int .i64 0]) := Lib.hid ((hg.block _ Z1.out.lt (by simp)).trans Z1.out)
    have L2 : Hid (Below r w W2) := Lib.hid (L1.out.grown hg (Nat.le_of_lt D1.out.lt) (fun q hq => by injection hq with hq; omega))
    have M2 := Lib.hid hm
    clear hm hg C1 Z1 D1 L1 M1
    go_wp2_with fail
    rw [rounds_succ]
    have c0 : W2.cell? ⟨r + 2, 0, none⟩ = some (.int .i64 m.gen) := M2.out.cell 0
    go_wp2_with (refine wpList_store_row rfl 63 _ _ rfl (r + 1) #[.int .i64 0, .int .i64 0, .int .i64 0, .int .i64 0, .int .i64 0] rfl rfl 63 _ Z2.out ms_info rfl (ms_one _ _ _ _ _) ?_; simp only [Act.put])
    (try simp only [Exit.inBlock, Exit.then])
    refine bodyPost_ret (results_cellT rfl _ _ (r + 1) 63 #[.int .i64 0, .int .i64 0, .int .i64 0, .int .i64 0, .int .i64 0] _ rfl (Z2.out.row _) Tryz.underlying63 rfl ms_info) rfl ?_
    rw [EQ.out.1, EQ.out.2, HMQ.out]
    refine ⟨rfl, ?_⟩
    rw [HR.out]
    exact below_setRow L2.out (by omega) _
   ·have EQ : Hid (loadR0 L E = m ∧ loadE0 L E = 0) := Lib.hid ⟨by unfold loadR0; rw [if_neg (by omega), if_neg (by omega)]; exact hm, by unfold loadE0; rw [if_neg (by omega), if_neg (by omega), hm]; unfold lostE; rw [if_neg hg]⟩
    have HM := Lib.hid hm
    clear hm
    rw [h0, if_neg (by simp)] at C0
    go_enter Tryz.func40, Tryz.ntmps40
    go_wp2_with fail
    rw [← HW0.out, HR.out]
    refine wp_loop_rounds 3 ?_
    rw [rounds_succ]
    go_wp2_with fail
    refine C0.out.mono ?_
    rintro e W1 ⟨rfl, hm, hg⟩
    have Z1 : Hid (Bk W1 (r + 1) 63 #[.int .i64 0, .int .i64 0, .int .i64 0, .int .i64 0, .int .i64 0]) := Lib.hid ((hg.block _ Z0.out.lt (by simp)).trans Z0.out)
    have D1 : Hid (Bk W1 r 33 #[.pointer d]) := Lib.hid ((hg.block _ D0.out.lt (by simp)).trans D0.out)
    have L1 : Hid (Below r w W1) := Lib.hid (L0.out.grown hg (Nat.le_of_lt D0.out.lt) (fun q hq => by injection hq with hq; omega))
    have M1 := Lib.hid hm
    clear hm hg C0 HW0 Z0 D0 L0 M0
    have C1 := examine_any d r (r + 2) (better ms0 (recM 0 (L 0))) 1 (L 1) (E 1) W1 D1.out M1.out (better_gen (Int.le_refl _)) (RD.out 1 W1 L1.out)
    rw [h1, if_neg (by simp), better_load, HM.out] at C1
    have C1 := Lib.hid C1
    go_wp2_with fail
    rw [rounds_succ]
    go_wp2_with fail
    refine C1.out.mono ?_
    rintro e W2 ⟨rfl, hm, hg⟩
    have Z2 : Hid (Bk W2 (r + 1) 63 #[.int .i64 0, .int .i64 0, .int .i64 0, .int .i64 0, .int .i64 0]) := Lib.hid ((hg.block _ Z1.out.lt (by simp)).trans Z1.out)
    have L2 : Hid (Below r w W2) := Lib.hid (L1.out.grown hg (Nat.le_of_lt D1.out.lt) (fun q hq => by injection hq with hq; omega))
    have M2 := Lib.hid hm
    clear hm hg C1 Z1 D1 L1 M1
    go_wp2_with fail
    rw [rounds_succ]
    have c0 : W2.cell? ⟨r + 2, 0, none⟩ = some (.int .i64 m.gen) := M2.out.cell 0
    go_wp2_with (first | (refine wpList_load_row rfl 63 _ rfl (r + 2) rfl 63 #[.int .i64 m.gen, .int .i64 m.inc, .int .i64 m.first, .int .i64 m.lsn, .int .i64 m.chk] (0, 0) _ M2.out Tryz.underlying63 rfl ms_info ?_) | (refine wpList_store_row rfl 63 _ _ rfl (r + 1) #[.int .i64 m.gen, .int .i64 m.inc, .int .i64 m.first, .int .i64 m.lsn, .int .i64 m.chk] rfl rfl 63 _ Z2.out ms_info rfl (ms_one _ _ _ _ _) ?_; simp only [Act.put]))
    (try simp only [Exit.inBlock, Exit.then])
    refine bodyPost_ret (results_cellT rfl _ _ (r + 1) 63 #[.int .i64 m.gen, .int .i64 m.inc, .int .i64 m.first, .int .i64 m.lsn, .int .i64 m.chk] _ rfl (Z2.out.row _) Tryz.underlying63 rfl ms_info) rfl ?_
    rw [EQ.out.1, EQ.out.2]
    refine ⟨rfl, ?_⟩
    rw [HR.out]
    exact below_setRow L2.out (by omega) _
  ·have EQ : Hid (loadR0 L E = ms0 ∧ loadE0 L E = E 1) := Lib.hid ⟨by unfold loadR0; rw [if_neg (by omega), if_pos h1], by unfold loadE0; rw [if_neg (by omega), if_pos h1]⟩
   obtain ⟨x, hx⟩ : ∃ x, E 1 = x := ⟨_, rfl⟩
   rw [hx] at EQ h1
   have hd : (x != 0) = true := by simpa using h1
   have HX := Lib.hid hx
   clear hx h1
   rw [h0, if_neg (by simp)] at C0
   go_enter Tryz.func40, Tryz.ntmps40
   go_wp2_with fail
   rw [← HW0.out, HR.out]
   refine wp_loop_rounds 3 ?_
   rw [rounds_succ]
   go_wp2_with fail
   refine C0.out.mono ?_
   rintro e W1 ⟨rfl, hm, hg⟩
   have Z1 : Hid (Bk W1 (r + 1) 63 #[.int .i64 0, .int .i64 0, .int .i64 0, .int .i64 0, .int .i64 0]) := Lib.hid ((hg.block _ Z0.out.lt (by simp)).trans Z0.out)
   have D1 : Hid (Bk W1 r 33 #[.pointer d]) := Lib.hid ((hg.block _ D0.out.lt (by simp)).trans D0.out)
   have L1 : Hid (Below r w W1) := Lib.hid (L0.out.grown hg (Nat.le_of_lt D0.out.lt) (fun q hq => by injection hq with hq; omega))
   have M1 := Lib.hid hm
   clear hm hg C0 HW0 Z0 D0 L0 M0
   have C1 := examine_any d r (r + 2) (better ms0 (recM 0 (L 0))) 1 (L 1) (E 1) W1 D1.out M1.out (better_gen (Int.le_refl _)) (RD.out 1 W1 L1.out)
   rw [HX.out] at C1
   have C1 := Lib.hid C1
   go_wp2_with fail
   rw [rounds_succ]
   go_wp2_with fail
   refine C1.out.mono ?_
   rintro e W2 ⟨rfl, hm, hg⟩
   have Z2 : Hid (Bk W2 (r + 1) 63 #[.int .i64 0, .int .i64 0, .int .i64 0, .int .i64 0, .int .i64 0]) := Lib.hid ((hg.block _ Z1.out.lt (by simp)).trans Z1.out)
   have L2 : Hid (Below r w W2) := Lib.hid (L1.out.grown hg (Nat.le_of_lt D1.out.lt) (fun q hq => by injection hq with hq; omega))
   have M2 := Lib.hid hm
   clear hm hg C1 Z1 D1 L1 M1
   go_wp2_with (refine wpList_store_row rfl 63 _ _ rfl (r + 1) #[.int .i64 0, .int .i64 0, .int .i64 0, .int .i64 0, .int .i64 0] rfl rfl 63 _ Z2.out ms_info rfl (ms_one _ _ _ _ _) ?_; simp only [Act.put])
   (try simp only [Exit.inBlock, Exit.then])
   refine bodyPost_ret (results_cellT rfl _ _ (r + 1) 63 #[.int .i64 0, .int .i64 0, .int .i64 0, .int .i64 0, .int .i64 0] _ rfl (Z2.out.row _) Tryz.underlying63 rfl ms_info) rfl ?_
   rw [EQ.out.1, EQ.out.2]
   refine ⟨rfl, ?_⟩
   rw [HR.out]
   exact below_setRow L2.out (by omega) _
 ·have EQ : Hid (loadR0 L E = ms0 ∧ loadE0 L E = E 0) := Lib.hid ⟨by unfold loadR0; rw [if_pos h0], by unfold loadE0; rw [if_pos h0]⟩
  have HE := Lib.hid h0
  obtain ⟨x, hx⟩ : ∃ x, E 0 = x := ⟨_, rfl⟩
  rw [hx] at C0 EQ h0
  have hd : (x != 0) = true := by simpa using h0
  clear hx h0 HE
  go_enter Tryz.func40, Tryz.ntmps40
  go_wp2_with fail
  rw [← HW0.out, HR.out]
  refine wp_loop_rounds 3 ?_
  rw [rounds_succ]
  go_wp2_with fail
  refine C0.out.mono ?_
  rintro e W1 ⟨rfl, hm, hg⟩
  have Z1 : Hid (Bk W1 (r + 1) 63 #[.int .i64 0, .int .i64 0, .int .i64 0, .int .i64 0, .int .i64 0]) := Lib.hid ((hg.block _ Z0.out.lt (by simp)).trans Z0.out)
  have D1 : Hid (Bk W1 r 33 #[.pointer d]) := Lib.hid ((hg.block _ D0.out.lt (by simp)).trans D0.out)
  have L1 : Hid (Below r w W1) := Lib.hid (L0.out.grown hg (Nat.le_of_lt D0.out.lt) (fun q hq => by injection hq with hq; omega))
  have M1 := Lib.hid hm
  clear hm hg C0 HW0 Z0 D0 L0 M0
  go_wp2_with (refine wpList_store_row rfl 63 _ _ rfl (r + 1) #[.int .i64 0, .int .i64 0, .int .i64 0, .int .i64 0, .int .i64 0] rfl rfl 63 _ Z1.out ms_info rfl (ms_one _ _ _ _ _) ?_; simp only [Act.put])
  (try simp only [Exit.inBlock, Exit.then])
  refine bodyPost_ret (results_cellT rfl _ _ (r + 1) 63 #[.int .i64 0, .int .i64 0, .int .i64 0, .int .i64 0, .int .i64 0] _ rfl (Z1.out.row _) Tryz.underlying63 rfl ms_info) rfl ?_
  rw [EQ.out.1, EQ.out.2]
  refine ⟨rfl, ?_⟩
  rw [HR.out]
  exact below_setRow L1.out (by omega) _
end

/- master.Load at a disk among other things and at no disk; master.Save at no disk. -/
section
open Go.RowKit
theorem load_any {B : Nat} {R : Res} {w : World} {b : Nat} {s : St} (h : Has B ((dsk b s).star R) w) :
  Calls Tryz.prog 40 #[.pointer (some ⟨b, 0, none⟩)] w (Ret (.tuple #[msV (loadR0 s.rBytes s.rErr), .int .i64 (loadE0 s.rBytes s.rErr)]) w) :=
 load_gen (some ⟨b, 0, none⟩) s.rBytes s.rErr w (fun z _ hb => hasD_read (h.below hb) z)
end

/- 'append(out, xs...)' of slices of ints onto a row of the call's own. No program's function is named; no condition. -/
section
open Go.RowKit
end

/- what the statements remember of four sectors, and the bytes that are wanted, in memory beside a disk; own2. -/
section
open Go.RowKit
section
variable {w w' : World} {F : Nat → Prop} {q : Nat} {vs : Nat → Value} {L : Nat → List Int} {v : Value} {l : List Int} {B : Nat} {S : Res}
end
end

/- what the plain disk has behind a write that is made, a synchronization, a crash. No program is named. -/
section
theorem upd_here (f : Nat → List Int) (n : Nat) (l : List Int) : upd f n l n = l := by unfold upd; rw [if_pos rfl]
theorem upd_ne (f : Nat → List Int) {n m : Nat} (l : List Int) (h : m ≠ n) : upd f n l m = f m := by unfold upd; rw [if_neg h]
section
variable {s : St} {n : Nat} {l : List Int}
theorem now_nothing (h : s.pend = []) : s.now = s.syn := by
 funext m
 unfold St.now
 rw [h]
 rfl
end
end

/- what a crash leaves of a sector, in the plain disk: what was synchronized, or one of its writes, or a beginning of the last write over one of these. No program is named. -/
section
end

/- what Put, a synchronization and a crash behind it, and Get make of the plain disk, where all was synchronized. No program is named. -/
section
open Go.RowKit
section
variable {s : St} {k n : Nat} {p : List Int}
end
end

/- what Save, a fuse, a crash and Load make of the plain disk of two sectors, where all was synchronized. No program is named. -/
section
open Go.RowKit
def secN (m : Ms) : Nat := (m.gen % 2).toNat
theorem secN_lt (m : Ms) : secN m < 2 := by unfold secN; omega
theorem secN_int {m : Ms} : ((secN m : Nat) : Int) = m.gen % 2 := by unfold secN; omega
section
variable {s : St} {k : Nat} {m : Ms}
end
structure Lst (f : Nat → List Int) (last : Ms) : Prop where
 ok : last.ok
 it : recM (last.gen % 2) (f (secN last)) = last
 other : ∀ n : Nat, n < 2 → n ≠ secN last → (recM n (f n)).gen < last.gen
theorem Lst.load {f : Nat → List Int} {last : Ms} (h : Lst f last) : loadM (f 0) (f 1) = last ∧ lostE (loadM (f 0) (f 1)) = 0 := by
 have e : loadM (f 0) (f 1) = last := by
  have hi := h.it
  rw [← secN_int] at hi
  unfold loadM
  by_cases hz : secN last = 0
  ·have h1 := h.other 1 (by omega) (by omega)
   rw [hz] at hi
   have hi' : recM 0 (f 0) = last := hi
   have h1' : (recM 1 (f 1)).gen < last.gen := h1
   rw [hi', if_neg (by omega)]
  ·have hz : secN last = 1 := by have := secN_lt last; omega
   have h1 := h.other 0 (by omega) (by omega)
   rw [hz] at hi
   have hi' : recM 1 (f 1) = last := hi
   have h1' : (recM 0 (f 0)).gen < last.gen := h1
   rw [hi', if_pos h1']
 refine ⟨e, ?_⟩
 rw [e]
 unfold lostE
 rw [if_neg (by have := h.ok.gen; omega)]
theorem zeros_rec (n : Int) : recM n zeros = ms0 := recM_torn (openE_torn zeros_sec.1 (fun q => by
 have : zeros.getD 0 0 = 0 := rfl
 have := q.2.1
 omega))
theorem Lst.first {m : Ms} (hm : m.ok) {f : Nat → List Int} (hf : ∀ n, f n = zeros) {X : List Int} (hX : recM (m.gen % 2) X = m) : Lst (upd f (secN m) X) m :=
 ⟨hm, by rw [upd_here]; exact hX, fun n hn hne => by
  rw [upd_ne _ _ hne, hf, zeros_rec]
  have := hm.gen
  show (0 : Int) < _
  omega⟩
end

/- wal.Format; whether a ring may have so many sectors; the sheet that a sector contains. -/
section
open Go.RowKit
def cntB (z : Int) : Bool := decide (8 ≤ z ∧ z ≤ 1024)
theorem wgIsCount_any (z : Int) (w : World) : Calls Tryz.prog 37 #[.int .i64 z] w (Quiet (.bool (cntB z)) w) := by
 by_cases h1 : 8 ≤ z
 ·have h1' : decide ((8 : Int) ≤ z) = true := decide_eq_true h1
  have e : cntB z = decide (z ≤ 1024) := by unfold cntB; simp [h1]
  rw [e]
  clear e
  go_enter Tryz.func37, Tryz.ntmps37
  go_wp2_with fail
  go_ret
  exact ⟨rfl, 0, rfl⟩
 ·have h1' : decide ((8 : Int) ≤ z) = false := decide_eq_false h1
  have e : cntB z = false := by unfold cntB; simp [h1]
  rw [e]
  clear e
  go_enter Tryz.func37, Tryz.ntmps37
  go_wp2_with fail
  go_ret
  exact ⟨rfl, 0, rfl⟩
section
variable {B : Nat} {R : Res} {w : World} {d : Nat} {s : St}
def ringB (s : St) (z : Int) : Bool := decide (2 + z ≤ (s.num : Int))
theorem wgHasRing_any (h : Has B ((dsk d s).star R) w) (z : Int) (hz : -1000000 ≤ z ∧ z ≤ 1000000) : Calls Tryz.prog 38 #[.pointer (some ⟨d, 0, none⟩), .int .i64 z] w (Ret (.bool (ringB s z)) w) := by
 have C := Lib.hid (hasD_sectors h)
 have hn := (hasD_ok h).num
 obtain ⟨N, hN⟩ : ∃ N, s.num = N := ⟨_, rfl⟩
 have e : ringB s z = decide (2 + z ≤ (N : Int)) := by unfold ringB; rw [hN]
 rw [e]
 rw [hN] at C hn
 clear h e hN
 go_enter Tryz.func38, Tryz.ntmps38
 go_wp2_with fail
 refine C.out.mono ?_
 rintro e w1 ⟨rfl, rfl⟩
 go_wp2_with fail
 go_ret
 exact ⟨rfl, Below.refl _ _⟩
def msF : Ms := ⟨1, 0, 0, 1, 0⟩
theorem msF_ok : msF.ok := ⟨⟨by decide, by decide⟩, ⟨by decide, by decide⟩, ⟨by decide, by decide⟩, ⟨by decide, by decide⟩, ⟨by decide, by decide⟩⟩
theorem msF_v : msV msF = .agg #[.int .i64 1, .int .i64 0, .int .i64 0, .int .i64 1, .int .i64 0] := rfl
def fmtE (s : St) (z : Int) : Int := if cntB z = false then 1 else if ringB s z = false then 1 else saveE s msF
def fmtS (s : St) (z : Int) : St := if cntB z = false then s else if ringB s z = false then s else saveS s msF
theorem wgFormat_any (h : Has B ((dsk d s).star R) w) (hB : B ≤ w.heap.size) (z : Int) (hlim : s.pend.length < 999999) (hlim2 : s.syncs < 999999) :
  Calls Tryz.prog 18 #[.pointer (some ⟨d, 0, none⟩), .int .i64 z] w (RetHas (.int .i64 (fmtE s z)) B ((dsk d (fmtS s z)).star R) w) := by
 have H0 := Lib.hid h
 have HB := Lib.hid hB
 have CC := Lib.hid (wgIsCount_any z w)
 unfold fmtE fmtS
 cases hc : cntB z with
 | false =>
  rw [hc] at CC
  simp only [↓reduceIte]
  clear h hB hc
  go_enter Tryz.func18, Tryz.ntmps18
  go_wp2_with fail
  refine CC.out.mono ?_
  intro e w1 hq
  obtain ⟨rfl, b1⟩ := quiet_ret hq
  have R9 : Hid (RetHas (.int .i64 1) B ((dsk d s).star R) w (.returned (.int .i64 1)) w1) := Lib.hid ⟨rfl, H0.out.below b1, b1.mono HB.out⟩
  clear hq b1
  go_wp2_with fail
  go_ret
  exact R9.out
 | true =>
  rw [hc] at CC
  have hz : -1000000 ≤ z ∧ z ≤ 1000000 := by
   unfold cntB at hc
   have := of_decide_eq_true hc
   omega
  simp only [reduceCtorEq, ↓reduceIte]
  have CR := Lib.hid (fun w1 (hb : Below w.heap.size w w1) => wgHasRing_any (h.below hb) z hz)
  have CV := Lib.hid (fun w1 (hb : Below w.heap.size w w1) => save_any (h.below hb) (Nat.le_trans hB hb.size) msF msF_ok.fits hlim (by have := (putS_pend s (msF.gen % 2) (bodyM msF)).2; omega))
  rw [msF_v] at CV
  cases hr : ringB s z with
  | false =>
   rw [hr] at CR
   simp only [↓reduceIte]
   clear h hB hc hr CV
   go_enter Tryz.func18, Tryz.ntmps18
   go_wp2_with fail
   refine CC.out.mono ?_
   intro e w1 hq
   obtain ⟨rfl, b1⟩ := quiet_ret hq
   have CR1 := Lib.hid (CR.out w1 b1)
   have B1 := Lib.hid b1
   clear hq b1 CR
   go_wp2_with fail
   refine CR1.out.mono ?_
   rintro e w2 ⟨rfl, b2⟩
   have b02 : Below w.heap.size w w2 := B1.out.trans (b2.mono B1.out.size)
   have R9 : Hid (RetHas (.int .i64 1) B ((dsk d s).star R) w (.returned (.int .i64 1)) w2) := Lib.hid ⟨rfl, H0.out.below b02, b02.mono HB.out⟩
   clear b2 b02
   go_wp2_with fail
   go_ret
   exact R9.out
  | true =>
   rw [hr] at CR
   simp only [reduceCtorEq, ↓reduceIte]
   obtain ⟨se, hse⟩ : ∃ e, saveE s msF = e := ⟨_, rfl⟩
   obtain ⟨ss, hss⟩ : ∃ e, saveS s msF = e := ⟨_, rfl⟩
   rw [hse, hss] at CV ⊢
   clear h hB hc hr hse hss
   go_enter Tryz.func18, Tryz.ntmps18
   go_wp2_with fail
   refine CC.out.mono ?_
   intro e w1 hq
   obtain ⟨rfl, b1⟩ := quiet_ret hq
   have CR1 := Lib.hid (CR.out w1 b1)
   have B1 := Lib.hid b1
   clear hq b1 CR
   go_wp2_with fail
   refine CR1.out.mono ?_
   rintro e w2 ⟨rfl, b2⟩
   have b02 : Below w.heap.size w w2 := B1.out.trans (b2.mono B1.out.size)
   have CV2 := Lib.hid (CV.out w2 b02)
   have B2 := Lib.hid b02
   clear b2 b02 CV
   go_wp2_with fail
   refine CV2.out.mono ?_
   rintro e w3 ⟨rfl, h3, b3⟩
   have R9 : Hid (RetHas (.int .i64 se) B ((dsk d ss).star R) w (.returned (.int .i64 se)) w3) := Lib.hid ⟨rfl, h3, (B2.out.mono HB.out).trans b3⟩
   clear h3 b3 CV2
   go_wp2_with fail
   go_ret
   exact R9.out
end
end
end Go.Proofs.YtfmfmdiegabobabGreatDoor
